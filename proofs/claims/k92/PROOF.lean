import PyProof.Rows.All
import Wide.All
import OpenK.AllK
import Wide.FinOn
import Lean
import PyProof.EqAt
import PyProof.EqKinds
import PyProof.TupleCall
import PyProof.ListRange
import KE.KIntText
import PySem.Names
import PySem.Builtin.Str.Common
import PyProof.Rows.TmSorted
import PyProof.StrBlockL
import PyProof.Rows.StrNews2
import PyProof.NeKinds
import PyProof.AttrMiss
import PyProof.FactsAll.list
import KE.KDictOf
import KE.KEqDict
import KE.KItemsList
import PyProof.DictItems
import PyProof.DictStraight
import PyProof.DictWalks
import PyProof.SetNew
import PyProof.SetKind
import PyProof.Rows.SetFrom
import KE.KDictSum
import PySem.Challenge.RW_minortables_k92_whole_cases_and_minors
set_option compiler.extract_closed false
set_option genSizeOf false
set_option genInjectivity false
set_option maxHeartbeats 0
set_option Elab.async false
set_option linter.all false
set_option maxRecDepth 100000
noncomputable section
namespace Zz
abbrev Zf:=PySem.W.Frag
open PySem
def A0z:=@PyProof.Rows.callWith_type1
def B0z:=@PySem.W.Fast.te14364793385576792824
def C0z:=@List.drop_eq_getElem_cons
def D0z:=@PySem.F.args_tuple_add_2
def E0z:=@PySem.AutoSeq1.sub_tuple_tuple
def F0z:=@PySem.AutoSeq1.wpAny_loadPart'
def G0z:=@PySem.F.args_tuple_mul_2
def H0z:=@PySem.F.slot_list_append
def I0z:=@PySem.F.type_list_append
def J0z:=@PySem.F.entry_tuple_add
def K0z:=@PySem.F.entry_tuple_mul
def L0z:=@PyProof.Rows.F.plain_set_update_loop
def M0z:=@PySem.F.plainAttrs_list
def N0z:=@Option.bind_eq_some_iff
def O0z:=@PySem.W.cellsFrom_some
def P0z:=@PySem.F.slot_tuple_add
def Q0z:=@PySem.Calls.callWith_builtin
def R0z:=@Option.map_eq_some_iff
def S0z:=@List.range_succ_eq_map
def T0z:=@PySem.F.slot_tuple_mul
def U0z:=@List.take_of_length_le
def V0z:=@PySem.F.plainAttrs_str
def W0z:=@List.mem_append_right
def X0z:=@PySem.Obj.isFreed_of_fields
def Y0z:=@PySem.builtinLookup_eq_fast
def Z0z:=@PySem.F.slot_dict_get
def A1z:=@PySem.F.slot_int_rmul
def B1z:=@PySem.F.slot_str_join
def C1z:=@PySem.F.type_str_join
def D1z:=@List.dropLast_eq_take
def E1z:=@List.mem_cons_of_mem
def F1z:=@List.mem_append_left
def G1z:=@PySem.Calls.evalArgs_plain
def H1z:=@PySem.F.args_object_init_2
def I1z:=@PySem.codeAny_extend_loopS
def J1z:=@PySem.Around.under_plainId
def K1z:=@PySem.codeAny_call_builtin
def L1z:=@List.filterMap_cons
def M1z:=@Array.length_toList
def N1z:=@PySem.W.plainGet_of
def O1z:=@PySem.W.callWith_K0
def P1z:=@PySem.mem_of_lookup
def Q1z:=@beq_eq_false_iff_ne
def R1z:=@PySem.Heap.SameBut.update
def S1z:=@PySem.F.plain_extend_loop
def T1z:=@ne_true_of_eq_false
def U1z:=@List.length_reverse
def V1z:=@Nat.lt_of_lt_of_le
def W1z:=@List.mem_cons_self
def X1z:=@Bool.false_ne_true
def Y1z:=@PySem.wpAny_pyIter_tuple
def Z1z:=@PySem.Calls.spliced_cons
def A2z:=@PySem.wpAny_Call_Name_kw
def B2z:=@List.length_append
def C2z:=@Nat.lt_of_le_of_lt
def D2z:=@Bool.false_eq_true
def E2z:=@PySem.Obj.data_mapFields
def F2z:=@PySem.wpAny_setField_rec
def G2z:=@PySem.tupleKind_room_in1
def H2z:=@PySem.F.args_str_split_2
def I2z:=@List.zip_cons_cons
def J2z:=@PySem.W.kitx_tuple
def K2z:=@decide_eq_true_iff
def L2z:=@PySem.wpAny_truthy_bool
def M2z:=@PySem.wpAny_newObj_type
def N2z:=@PySem.wpAny_pyIter_list
def O2z:=@PySem.Calls.spliced_nil
def P2z:=@List.size_toArray
def Q2z:=@Nat.lt_succ_of_lt
def R2z:=@Nat.le_of_succ_le
def S2z:=@Int.toNat_natCast
def T2z:=@PySem.Obj.cls_mapFields
def U2z:=@Option.isSome_map
def V2z:=@Bool.not_eq_true'
def W2z:=@decide_eq_true_eq
def X2z:=@of_decide_eq_true
def Y2z:=@Option.some.injEq
def Z2z:=@PySem.W.kitx_bool
def A3z:=@PySem.W.kitx_list
def B3z:=@PySem.wpAny_setState_of
def C3z:=@List.append_assoc
def D3z:=@List.length_range
def E3z:=@List.length_cons
def F3z:=@Nat.lt_succ_self
def G3z:=@List.length_take
def H3z:=@List.length_drop
def I3z:=@PySem.wpAny_call_entry
def J3z:=@Bool.and_eq_true
def K3z:=@List.lookup_cons
def L3z:=@beq_self_eq_true
def M3z:=@PySem.wpAny_isInstance
def N3z:=@PySem.entryFor_of_tree
def O3z:=@Nat.le_add_right
def P3z:=@List.ext_getElem
def Q3z:=@PySem.AutoSeq1.idx_int
def R3z:=@List.not_mem_nil
def S3z:=@List.getElem_mem
def T3z:=@List.cons_append
def U3z:=@PySem.F.plain_max_loop
def V3z:=@PySem.W.kitx_int
def W3z:=@PySem.W.kitx_str
def X3z:=@PySem.wpAny_askSetting
def Y3z:=@List.drop_length
def Z3z:=@Option.bind_some
def A4z:=@List.all_eq_true
def B4z:=@decide_eq_false
def C4z:=@Option.some.inj
def D4z:=@PySem.wpAny_execs_nil
def E4z:=@PySem.wpAny_passesOwn
def F4z:=@List.length_map
def G4z:=@List.append_nil
def H4z:=@List.of_mem_zip
def I4z:=@PySem.wpAny_loadPart'
def J4z:=@List.nodup_cons
def K4z:=@Option.map_some
def L4z:=@PySem.pushCells_keeps
def M4z:=@PySem.typeLookup_type
def N4z:=@PySem.wpAny_specialOf
def O4z:=@PySem.codeAny_builtin
def P4z:=@PySem.wpAny_ite_split
def Q4z:=@PySem.wpAny_updateSeq
def R4z:=@List.length_nil
def S4z:=@Bool.or_eq_true
def T4z:=@List.cons.injEq
def U4z:=@List.map_append
def V4z:=@PySem.W.kia_one
def W4z:=@List.length_zip
def X4z:=@List.length_set
def Y4z:=@Bool.false_and
def Z4z:=@PySem.Heap.size_push
def A5z:=@decide_eq_true
def B5z:=@PySem.wpAny_seqItems
def C5z:=@PySem.wpAny_setField
def D5z:=@PySem.isSubtype_stop
def E5z:=@PySem.isSubtype_type
def F5z:=@PySem.entryFor_alias
def G5z:=@PySem.wpAny_runValue
def H5z:=@PySem.wpAny_tryCatch
def I5z:=@Bool.and_false
def J5z:=@Bool.not_false
def K5z:=@List.drop_drop
def L5z:=@Int.mul_nonneg
def M5z:=@Nat.lt_irrefl
def N5z:=@PySem.wpAny_holding
def O5z:=@List.map_cons
def P5z:=@PySem.wpAny_handled
def Q5z:=@PySem.wpAny_attempt
def R5z:=@PySem.plainId_quiet
def S5z:=@List.any_cons
def T5z:=@Bool.and_self
def U5z:=@List.all_cons
def V5z:=@List.mem_cons
def W5z:=@Bool.true_and
def X5z:=@PySem.W.mg_of
def Y5z:=@List.cons.inj
def Z5z:=@PySem.Heap.lt_size
def A6z:=@Nat.ne_of_lt
def B6z:=@Nat.le_trans
def C6z:=@Nat.le_of_lt
def D6z:=@Nat.ne_of_gt
def E6z:=@PySem.codeAny_mono
def F6z:=@PySem.wpAny_typeOf
def G6z:=@List.map_nil
def H6z:=@List.map_map
def I6z:=@Nat.le_refl
def J6z:=@PySem.sizeLine_eq
def K6z:=@Nat.zero_le
def L6z:=@Nat.le_succ
def M6z:=@PySem.wpAny_field
def N6z:=@PySem.wpAny_of_eq
def O6z:=@PySem.wpAny_letGo
def P6z:=@List.map_id
def Q6z:=@PySem.wpAny_mono
def R6z:=@PySem.wpAny_bind
def S6z:=@PySem.wpAny_pure
def T6z:=@PySem.wpAny_rule
def U6z:=@PySem.typeIs_str
def V6z:=@PySem.call_meets
def W6z:=@beq_iff_eq
def X6z:=@bne_iff_ne
def Y6z:=@PySem.W.looks_pair
def Z6z:=@PyProof.Rows.IsTup.new
def A7z:=@PySem.W.segRun_of
def B7z:=@PySem.W.piece_app
def C7z:=@if_false
def D7z:=@or_false
def E7z:=@Ne.symm
def F7z:=@if_true
def G7z:=@if_pos
def H7z:=@if_neg
end Zz
open Zz
local macro_rules|`(tactic|rfl')=>`(tactic|kernel_rfl)
namespace L2
open PySem PySem.Spec PyProof.Rows
abbrev Key:=Sum Int Str
def sZ:Key->Value->Bool
 |.inl k,v=>Value.isInt k v
 |.inr x,v=>Value.isStrOf x v
def Xq(w:World):Key->Int
 |.inl k=>hashInt k
 |.inr x=>hashStr w x
theorem bQ:∀{k:Key}{v:Value},sZ k v=true->(∃i t,k=Sum.inl i/\v=Value.int i t)\/(∃x t,k=Sum.inr x/\v=Value.str x t)
 |.inl i,v,h=>by
  obtain⟨t,e⟩:=Value.isInt_shape h;exact .inl ⟨i,t,rfl,e⟩
 |.inr x,v,h=>by
  obtain⟨t,e⟩:=Value.isStrOf_shape h;exact .inr ⟨x,t,rfl,e⟩
theorem Ba(i:Int)(t:Tok):sZ (.inl i) (.int i t)=true:=by simp[sZ,Value.isInt]
theorem Az(x:Str)(t:Tok):sZ (.inr x) (.str x t)=true:=by simp[sZ,Value.isStrOf]
theorem Q7(a b:Int):decide ((Sum.inl a:Key)=Sum.inl b)=(a==b):=by
 by_cases e:a=b
 .subst e;simp
 .rw[B4z (λq=>e (Sum.inl.inj q))]
  exact(Q1z.mpr e).symm
theorem Q0(a b:Str):decide ((Sum.inr a:Key)=Sum.inr b)=decide (a=b):=by
 by_cases e:a=b
 .subst e;simp
 .rw[B4z (λq=>e (Sum.inr.inj q)),B4z e]
theorem Q6(a:Int)(b:Str):decide ((Sum.inl a:Key)=Sum.inr b)=false:=B4z (λq=>nomatch q)
theorem Q5(a:Str)(b:Int):decide ((Sum.inr a:Key)=Sum.inl b)=false:=B4z (λq=>nomatch q)
def aX(prog:Program)(w:World):PySem.KeyKind prog w Key where
 is:=sZ
 hash:=Xq w
 inj:=λv a b ha hb=>by
  rcases bQ ha with⟨i,t,rfl,rfl⟩|⟨x,t,rfl,rfl⟩
  .rcases bQ hb with⟨j,u,rfl,e⟩|⟨y,u,rfl,e⟩
   .injection e with e1 _;rw[e1]
   .exact nomatch e
  .rcases bQ hb with⟨j,u,rfl,e⟩|⟨y,u,rfl,e⟩
   .exact nomatch e
   .injection e with e1 _;rw[e1]
 byValue:=λk v h=>by
  rcases bQ h with⟨i,t,rfl,rfl⟩|⟨x,t,rfl,rfl⟩<;>rfl
 pyHash:=λhv h=>by
  rcases bQ hv with⟨i,t,rfl,rfl⟩|⟨x,t,rfl,rfl⟩
  .exact wpAny_pyHash_int h
  .exact wpAny_pyHash_str h
 eqBool:=λhu hv h=>by
  rcases bQ hu with⟨i,t,rfl,rfl⟩|⟨x,t,rfl,rfl⟩
  .rcases bQ hv with⟨j,u,rfl,rfl⟩|⟨y,u,rfl,rfl⟩
   .rw[Q7] at h;exact wpAny_eqBool_int h
   .rw[Q6] at h;exact SeqAt.EqAt.int_str i t y u _ _ _ _ h
  .rcases bQ hv with⟨j,u,rfl,rfl⟩|⟨y,u,rfl,rfl⟩
   .rw[Q5] at h;exact SeqAt.EqAt.str_int x t j u _ _ _ _ h
   .rw[Q0] at h;exact wpAny_eqBool_str h
 «strs» :=λk x t v h=>by
  rcases bQ h with⟨i,u,rfl,e⟩|⟨y,u,rfl,e⟩
  .exact nomatch e
  .injection e with e1 _
   subst e1
   cases v<;>rfl
theorem xq(prog:Program)(w:World)(k:Key)(v:Value):(aX prog w).is k v=sZ k v:=rfl
theorem sU(prog:Program)(w:World)(i:Int)(t:Tok):(aX prog w).is (.inl i) (.int i t)=true:=Ba i t
theorem sS(prog:Program)(w:World)(x:Str)(t:Tok):(aX prog w).is (.inr x) (.str x t)=true:=Az x t
set_option genInjectivity true in
inductive V where
 |non|bl (b:Bool)|int (i:Int)|str (x:Str)|byt (b:Array UInt8)|flt (b:UInt64)|ref (a:Addr)|ty (n:String)
 deriving DecidableEq
def RelV:V->Value->Prop
 |.non,u=>u=Value.none
 |.bl b,u=>u=Value.bool b
 |.int i,u=>∃t,u=Value.int i t
 |.str x,u=>∃t,u=Value.str x t
 |.byt b,u=>∃t,u=Value.bytes b t
 |.flt b,u=>∃t,u=Value.float b t
 |.ref a,u=>u=Value.ref a
 |.ty n,u=>u=Value.type n
abbrev Vals:List V->List Value->Prop:=Paired RelV
theorem Vals.length(r:Vals xs us):xs.length=us.length:=Paired.length r
theorem Vals.get:∀{xs:List V}{us:List Value}{i:Nat}{x:V},Vals xs us->xs[i]?=some x->∃u,us[i]?=some u/\RelV x u
 |_,_,_,_,.nil,e=>by simp at e
 |_,_,0,_,.cons r _,e=>by simp at e;subst e;exact⟨_,rfl,r⟩
 |_,_,i+1,x,.cons _ t,e=>by
  obtain⟨u,h1,h2⟩:=Vals.get t (by simpa using e);exact⟨u,by simpa using h1,h2⟩
theorem Vals.append:∀{xs ys:List V}{us ws:List Value},Vals xs us->Vals ys ws->Vals (xs++ys) (us++ws)
 |_,_,_,_,.nil,s=>s
 |_,_,_,_,.cons r t,s=>.cons r (Vals.append t s)
theorem Vals.take:∀{xs:List V}{us:List Value}(n:Nat),Vals xs us->Vals (xs.take n) (us.take n)
 |_,_,0,_=>.nil
 |_,_,_+1,.nil=>.nil
 |_,_,n+1,.cons r t=>.cons r (Vals.take n t)
theorem Vals.drop:∀{xs:List V}{us:List Value}(n:Nat),Vals xs us->Vals (xs.drop n) (us.drop n)
 |_,_,0,r=>r
 |_,_,_+1,.nil=>.nil
 |_,_,n+1,.cons _ t=>Vals.drop n t
def oY:Option V->Option Value->Prop
 |some v,some u=>RelV v u
 |none,none=>True
 |_,_=>False
def KV{κ:Type}:List (κ×V)->List (κ×Value)->Prop:=Paired λ(p:κ×V)(q:κ×Value)=>p.1=q.1/\RelV p.2 q.2
def kV:Key->V
 |.inl i=>.int i
 |.inr x=>.str x
set_option genInjectivity true in
inductive HO where
 |lst (xs:List V)
 |tup (xs:List V)
 |dK (kvs:List (Key×V))|dT (kvs:List (List Key×V))
 |set (S:Int->Bool) (n:Nat)
 |ins (C dx:Addr) (fs:List (Str×V))
 |own (x:Addr)
 |xd (fs:List (Str×V))
 |met (f x:Addr)
 |rng (lo hi:Int)
 |frz (o:Obj) (u:HO)
 |tbl (ps:Array Value)
 |ext (φ:Heap->Prop)
noncomputable abbrev Hp:=Addr->Option HO
def upd(H:Hp)(a:Addr)(o:HO):Hp:=λb=>if b=a then some o else H b
theorem aA:upd H a o a=some o:=by unfold upd;rw[G7z rfl]
theorem ao(h:b≠a):upd H a o b=H b:=by unfold upd;rw[H7z h]
theorem Iw{H:Hp}{a:Addr}{o u:HO}:upd (upd H a o) a u=upd H a u:=by
 funext b;unfold upd;split<;>rfl
theorem nY{H:Hp}(h:H a=some o)(h':H b=some u)(d:o≠u):a≠b:=by
 intro e;subst e;rw[h] at h';exact d (C4z h')
theorem aq{H:Hp}(h:H a=some o)(h':H b=none):a≠b:=by
 intro e;subst e;rw[h] at h';cases h'
section
variable(P:Program)(w:World)
def dR(H:Hp)(h:Heap)(a:Addr):HO->Prop
 |.lst xs=>xs.length<=sizeLine/\∃(its:List Value)(n:Nat),Vals xs its/\h.get? a=some {cls:=.type "list",data:=.seq its.toArray n}
 |.tup xs=>xs.length<=sizeLine/\∃its:List Value,Vals xs its/\IsTup h a its.toArray
 |.dK kvs=>kvs.length<=sizeLine/\(a==sysModules)=false/\∃vs,KV kvs vs/\h.DictOf (aX P w) a vs
 |.dT kvs=>kvs.length<=sizeLine/\(a==sysModules)=false/\∃xs:List (List Key×Addr×Value),
   Paired (λ(p:List Key×V)(q:List Key×Addr×Value)=>p.1=q.1/\H q.2.1=some (.tup (p.1.map kV))/\RelV p.2 q.2.2) kvs xs /\
   ∃o es ep,h.get? a=some o/\o.ExactDict/\o.data=.dict es ep/\es.toList=xs.map (entryOfKey (tupleKind (aX P w)))/\(xs.map (·.1)).Nodup
 |.set S n=>h.SetOf (intKind P w) a S n
 |.ins C dx fs=>H dx=some (.own a)/\fs.length<=1000/\dx≠a/\h.get? a=some (W.instObj C dx) /\
   ∃mA,h.Ns1 dx mA/\(∀f,oY (fs.lookup f) (mA f))/\PySem.Within mA (fs.map (·.1))
 |.own _=>∃o,h.get? a=some o
 |.xd fs=>∃mA,h.Ns1 a mA/\∀f,oY (fs.lookup f) (mA f)
 |.rng lo hi=>∃t u v,h.get? a=some {cls:=.type "range",data:=.fields #[.int lo t,.int hi u,.int 1 v]}
 |.frz o u=>h.get? a=some o/\dR H h a u
 |.tbl ps=>h.get? a=some {cls:=.none,data:=.fields ps}
 |.met f x=>h.get? a=some (W.methodObj (.ref f) (.ref x))
 |.ext φ=>φ h/\(∃o,h.get? a=some o)/\∀h1 h2:Heap,φ h1->(∀o,h1.get? a=some o->h2.get? a=some o)->φ h2
def HOk(H:Hp)(h:Heap):Prop:=∀a o,H a=some o->dR P w H h a o
end
section
variable{P:Program}{w:World}{H H':Hp}{h h':Heap}{a:Addr}{o:HO}
theorem dR.lt(x:dR P w H h a o):a<h.objs.size:=by
 cases o with
 |lst xs=>obtain⟨_,_,_,_,e⟩:=x;exact Z5z e
 |tup xs=>obtain⟨_,_,_,p⟩:=x;exact p.lt
 |dK kvs=>obtain⟨_,_,_,_,o,_,_,e,_⟩:=x;exact Z5z e
 |dT kvs=>obtain⟨_,_,_,_,o,_,_,e,_⟩:=x;exact Z5z e
 |set S n=>obtain⟨o,_,_,_,e,_⟩:=x;exact Z5z e
 |ins C dx fs=>obtain⟨_,_,_,e,_⟩:=x;exact Z5z e
 |own y=>obtain⟨_,e⟩:=x;exact Z5z e
 |xd fs=>obtain⟨_,⟨_,_,_,e,_⟩,_⟩:=x;exact Z5z e
 |rng lo hi=>obtain⟨_,_,_,e⟩:=x;exact Z5z e
 |frz ob u=>obtain⟨e,_⟩:=x;exact Z5z e
 |tbl ps=>exact Z5z x
 |met f y=>exact Z5z x
 |ext φ=>obtain⟨_,⟨_,e⟩,_⟩:=x;exact Z5z e
theorem Paired.mapP:∀{l₁:List α}{l₂:List β},Paired F l₁ l₂->(∀a b,F a b->G a b)->Paired G l₁ l₂
 |_,_,.nil,_=>.nil
 |_,_,.cons r t,f=>.cons (f _ _ r) (Paired.mapP t f)
theorem dR.stay(x:dR P w H h a o)(k:∀b u,(b=a\/H b=some (.own a))->h.get? b=some u->h'.get? b=some u)
  (ho:∀b,H b=some (.own a)->H' b=some (.own a)) (ht:∀b xs,H b=some (.tup xs)->H' b=some (.tup xs)):dR P w H' h' a o:=by
 induction o with
 |lst xs=>obtain⟨z,its,n,r,e⟩:=x;exact⟨z,its,n,r,k _ _ (.inl rfl) e⟩
 |tup xs=>obtain⟨z,its,r,ob,e,c⟩:=x;exact⟨z,its,r,ob,k _ _ (.inl rfl) e,c⟩
 |dK kvs=>obtain⟨z,y,vs,r,ob,es,ep,e,c⟩:=x;exact⟨z,y,vs,r,ob,es,ep,k _ _ (.inl rfl) e,c⟩
 |dT kvs =>
  obtain⟨z,y,xs,r,ob,es,ep,e,c⟩:=x;exact⟨z,y,xs,Paired.mapP r λp q z=>⟨z.1,ht _ _ z.2.1,z.2.2⟩,ob,es,ep,k _ _ (.inl rfl) e,c⟩
 |set S n=>obtain⟨ob,es,ep,t,e,c⟩:=x;exact⟨ob,es,ep,t,k _ _ (.inl rfl) e,c⟩
 |ins C dx fs =>
  obtain⟨d,z,ne,e,mA,⟨od,es,ep,e2,c⟩,r⟩:=x;exact⟨ho _ d,z,ne,k _ _ (.inl rfl) e,mA,⟨od,es,ep,k _ _ (.inr d) e2,c⟩,r⟩
 |own y=>obtain⟨ob,e⟩:=x;exact⟨ob,k _ _ (.inl rfl) e⟩
 |xd fs=>obtain⟨mA,⟨od,es,ep,e,c⟩,r⟩:=x;exact⟨mA,⟨od,es,ep,k _ _ (.inl rfl) e,c⟩,r⟩
 |rng lo hi=>obtain⟨t,u,v,e⟩:=x;exact⟨t,u,v,k _ _ (.inl rfl) e⟩
 |frz ob u ih=>obtain⟨e,q⟩:=x;exact⟨k _ _ (.inl rfl) e,ih q⟩
 |tbl ps =>
  have e:=x;exact k a _ (.inl rfl) e
 |met f y =>
  show h'.get? a=some (W.methodObj (.ref f) (.ref y));exact k a _ (.inl rfl) x
 |ext φ=>obtain⟨p,⟨o,e⟩,st⟩:=x;exact⟨st _ _ p λo q=>k _ _ (.inl rfl) q,⟨o,k _ _ (.inl rfl) e⟩,st⟩
theorem HOk.lt(x:HOk P w H h)(e:H a=some o):a<h.objs.size:=(x a o e).lt
theorem HOk.fresh(x:HOk P w H h)(e:h.objs.size<=a):H a=none:=by
 cases q:H a with
 |none=>rfl
 |some u=>exact absurd (V1z (x.lt q) e) (M5z _)
theorem HOk.kept(x:HOk P w H h)(k:∀b u,h.get? b=some u->h'.get? b=some u):HOk P w H h':=λa o e =>
 (x a o e).stay (λb u _ q=>k b u q) (λ_ q=>q) λ_ _ q=>q
theorem HOk.laid(x:HOk P w H h)(k:∀b u,h.get? b=some u->h'.get? b=some u)(hp:h.objs.size<=a)(new:dR P w (upd H a o) h' a o):HOk P w (upd H a o) h':=λb u e=>by
 have hn:=x.fresh hp
 by_cases hb:b=a
 .subst hb;rw[aA] at e;cases e;exact new
 .rw[ao hb] at e
  exact(x b u e).stay (λc v _ q=>k c v q) (λc q=>by rw[ao (aq q hn)];exact q) λc xs q=>by rw[ao (aq q hn)];exact q
end
def Rd(H:Hp)(a:Addr)(u:HO):Prop:=H a=some u\/∃o,H a=some (.frz o u)
theorem Rd.ok(r:Rd H a u)(x:HOk P w H h):dR P w H h a u:=by
 obtain r|⟨o,r⟩:=r
 .exact x a u r
 .obtain⟨_,q⟩:=x a _ r
  exact q
def Mut:Option HO->Prop
 |some (.lst _)=>True
 |some (.dK _)=>True
 |some (.dT _)=>True
 |some (.set _ _)=>True
 |some (.ins _ _ _)=>True
 |some (.ext _)=>True
 |_=>False
section
variable{P:Program}{w:World}{H:Hp}{h h':Heap}{x e:Addr}{o':HO}
theorem HOk.write(ok:HOk P w H h)(mu:Mut (H x))(he:e=x\/H e=some (.own x))(k:∀b u,b≠e->h.get? b=some u->h'.get? b=some u)(heo:∃u,h'.get? e=some u)
  (new:dR P w (upd H x o') h' x o'):HOk P w (upd H x o') h':=λb u q=>by
 have nown:∀c y,H c=some (.own y)->c≠x:=λc y r z=>by subst z;rw[r] at mu;exact mu
 by_cases hb:b=x
 .subst hb;rw[aA] at q;cases q;exact new
 .rw[ao hb] at q
  by_cases hbe:b=e
  .have q':H b=some (.own x):=by
    rcases he with z|z
    .exact absurd (hbe.trans z) hb
    .rw[hbe];exact z
   rw[q] at q';cases q'
   obtain⟨v,hv⟩:=heo;exact⟨v,by rw[hbe];exact hv⟩
  .refine(ok b u q).stay (λc v hc r=>k c v ?_ r) (λc r=>by rw[ao (nown c b r)];exact r) λc xs r=>by rw[ao ((λc xs r z=>by subst z;rw[r] at mu;exact mu) c xs r)];exact r
   obtain rfl|hc:=hc
   .exact hbe
   .rintro rfl
    obtain z|z:=he
    .exact nown c b hc z
    .rw[hc] at z;cases z;exact hb rfl
end
structure Un(fs ex:List Addr)(H H':Hp)(h h':Heap):Prop where
 keep:∀b o,h.get? b=some o->H b=none->b∉fs->b∉ex->h'.get? b=some o
 slot:∀b o,h.get? b=some o->H b=none->b∈fs->b∉ex->∃sl,h'.get? b=some {o with slots:=sl}
 free:∀b o,h.get? b=some o->H b=none->b∉ex->H' b=none
 there:∀b o,h.get? b=some o->b∉ex->∃o',h'.get? b=some o'
 tups:∀b xs,H b=some (.tup xs)->H' b=some (.tup xs)
 frzs:∀b o u,H b=some (.frz o u)->H' b=some (.frz o u)
 tbls:∀b ps,H b=some (.tbl ps)->∃more,H' b=some (.tbl (ps++more))
section
variable{fs fs' ex ex':List Addr}{H H1 H2:Hp}{h h1 h2 h':Heap}{a x e:Addr}{o:HO}
theorem Un.any(u:Un fs ex H H1 h h1)(q:h.get? b=some ob)(n:H b=none)(hx:b∉ex):∃sl,h1.get? b=some {ob with slots:=sl}:=by
 by_cases hb:b∈fs
 .exact u.slot b ob q n hb hx
 .exact⟨ob.slots,u.keep b ob q n hb hx⟩
theorem Un.trans(a:Un fs ex H H1 h h1)(b:Un fs ex H1 H2 h1 h2):Un fs ex H H2 h h2 where
 keep:=λc ob q n hc hx=>b.keep c ob (a.keep c ob q n hc hx) (a.free c ob q n hx) hc hx
 slot:=λc ob q n hc hx=>by
  obtain⟨sl,e1⟩:=a.slot c ob q n hc hx;obtain⟨sl',e2⟩:=b.slot c _ e1 (a.free c ob q n hx) hc hx;exact⟨sl',e2⟩
 free:=λc ob q n hx=>by
  obtain⟨o',e1⟩:=a.there c ob q hx;exact b.free c o' e1 (a.free c ob q n hx) hx
 there:=λc ob q hx=>by
  obtain⟨o',e1⟩:=a.there c ob q hx;exact b.there c o' e1 hx
 tups:=λc xs q=>b.tups c xs (a.tups c xs q)
 frzs:=λc ob xs q=>b.frzs c ob xs (a.frzs c ob xs q)
 tbls:=λc ps q=>by
  obtain⟨m1,e1⟩:=a.tbls c ps q;obtain⟨m2,e2⟩:=b.tbls c _ e1;exact⟨m1++m2,by rw[e2,Array.append_assoc]⟩
theorem Un.kept(k:∀b u,h.get? b=some u->h'.get? b=some u):Un fs ex H H h h' :=
 ⟨λb ob q _ _ _=>k b ob q,λb ob q _ _ _=>⟨ob.slots,k b ob q⟩,λ_ _ _ n _=>n,λb ob q _=>⟨ob,k b ob q⟩,λ_ _ q=>q,λ_ _ _ q=>q,λ_ ps q=>⟨#[],by rw[q];simp⟩⟩
theorem Un.refl:Un fs ex H H h h:=Un.kept λ_ _ q=>q
theorem Un.laid(k:∀b u,h.get? b=some u->h'.get? b=some u)(hp:h.objs.size<=a)(hn:H a=none):Un fs ex H (upd H a o) h h' where
 keep:=λb u q _ _ _=>k b u q
 slot:=λb u q _ _ _=>⟨u.slots,k b u q⟩
 free:=λb u q n _=>by rw[ao (A6z (V1z (Z5z q) hp))];exact n
 there:=λb u q _=>⟨u,k b u q⟩
 tups:=λb xs q=>by rw[ao (aq q hn)];exact q
 frzs:=λb u xs q=>by rw[ao (aq q hn)];exact q
 tbls:=λb ps q=>⟨#[],by rw[ao (aq q hn),q];simp⟩
theorem Un.write(mu:Mut (H x))(he:e=x\/H e=some (.own x))(k:∀b u,b≠e->h.get? b=some u->h'.get? b=some u)(heo:∃u,h'.get? e=some u):Un fs ex H (upd H x o) h h':=by
 have hx:∀b,H b=none->b≠x:=λb n z=>by subst z;rw[n] at mu;exact mu
 have hb:∀b,H b=none->b≠e:=λb n z=>by
  subst z;obtain r|r:=he
  .exact hx b n r
  .rw[n] at r;cases r
 have hm:∀b u,H b=some u->¬ Mut (some u)->b≠x:=λb u q nm z=>by subst z;rw[q] at mu;exact nm mu
 refine⟨λb u q n _ _=>k b u (hb b n) q,λb u q n _ _=>⟨u.slots,k b u (hb b n) q⟩,λb u q n _=>by rw[ao (hx b n)];exact n,λb u q _=>?_,
  λb xs q=>by rw[ao (hm b _ q λz=>z)];exact q,λb u xs q=>by rw[ao (hm b _ q λz=>z)];exact q,λb ps q=>⟨#[],by rw[ao (hm b _ q λz=>z),q];simp⟩⟩
 by_cases hbe:b=e
 .subst hbe;exact heo
 .exact⟨u,k b u hbe q⟩
theorem Un.mono(u:Un fs ex H H1 h h1)(hs:∀b∈fs,b∈fs')(hx:∀b∈ex,b∈ex'):Un fs' ex' H H1 h h1 :=
 ⟨λb ob q n hb he=>u.keep b ob q n (λz=>hb (hs b z)) λz=>he (hx b z),λ_ _ q n _ he=>u.any q n λz=>he (hx _ z),λb ob q n he=>u.free b ob q n λz=>he (hx b z),λb ob q he=>u.there b ob q λz=>he (hx b z),u.tups,u.frzs,u.tbls⟩
end
def trk(h:Heap)(H:Hp):List Addr:=(List.range h.objs.size).filter λa=>(H a).isSome
def FW(h:Heap)(H:Hp):Heap:=W.hideAll h (trk h H)
theorem Bl(h:Heap)(H:Hp):(FW h H).objs.size=h.objs.size:=W.hideAll_size _ _
theorem FT(e:h.get? b=some o)(n:H b=none):(FW h H).get? b=some o :=
 W.hideAll_get _ e λhm=>by
  have q:=(List.mem_filter.mp hm).2;rw[n] at q;simp at q
theorem Ks(e:(FW h H).get? b=some o):h.get? b=some o/\H b=none:=by
 have e':=W.of_hideAll (trk h H) e;refine⟨e',?_⟩
 cases q:H b with
 |none=>rfl
 |some x =>
  have z:(FW h H).get? b=none:=W.hideAll_none (trk h H) (List.mem_filter.mpr ⟨List.mem_range.mpr (Z5z e'),by simp[q]⟩);rw[z] at e;cases e
def Nk(g h:Heap)(L:Addr):List (Addr×Obj):=(List.range h.objs.size).filterMap λa=>if a=L\/(g.get? a).isSome=true then none else(h.get? a).map λo=>(a,o)
def rest(g h:Heap)(L d:Addr):List (Addr×Obj):=(Nk g h L).filter λp=>decide (p.1≠d)
structure Mod(K:Zf)(mg:Str->Option Value)(base:Heap):Prop where
 kin:K.In base
 glob:base.Ns mainGlobals mg
 blt:∃mb,base.Ns builtinsNs mb/\∀x:Str,x≠"__name__"->mb x=bootBuiltins x
 nolimit:base.NoLimit
structure Cx where
 prog:Program
 w:World
 K:Zf
 mg:Str->Option Value
 base:Heap
 A:Around
 N:List Str
 s₀:Shared
 H₀:Hp
 env:Env
 outer:List Env
 stack:List Env
 ex:List Addr
 fn:Str->Bool
 calm:Bool
 pn:List (Addr×Obj)
 xe:Value->Shared->Prop
 lm:Option (Addr×Str):=none
def frs(l:List Env):List Addr:=l.filterMap (·.frame)
abbrev Cx.fs(X:Cx):List Addr:=frs X.outer
def Vis(sc:Scope)(x:Str):Prop:=sc.names.lookup x=some .local\/sc.names.lookup x=some .cell\/sc.names.lookup x=some .free
def Loc(sc:Scope)(x:Str):Prop:=sc.names.lookup x=some .local\/sc.names.lookup x=some .cell
def Look(env:Env)(h:Heap)(m:Str->Option Value)(x:Str)(u:Value):Prop :=
 (env.kindOf x=some .local/\m x=some u)\/((env.kindOf x=some .cell\/env.kindOf x=some .free)/\∃c,env.cells.lookup x=some c/\h.IsCell c (some u))
structure Cx.Ok(X:Cx):Prop where
 mod:Mod X.K X.mg X.base
 kind:X.env.scope.kind=.function
 glob:X.env.globals=mainGlobals
 blt:X.env.builtins=builtinsNs
 above:X.s₀.heap.objs.size<=X.env.locals
 inj:∀x y c,X.env.cells.lookup x=some c->X.env.cells.lookup y=some c->x=y
 has:∀x,(X.env.kindOf x=some .cell\/X.env.kindOf x=some .free)->∃c,X.env.cells.lookup x=some c
 cab:∀x c,X.fn x=true->X.env.cells.lookup x=some c->X.s₀.heap.objs.size<=c
 hd:X.calm=true->X.A.handled=none
 frames:X.A.frames=some X.stack
 stk:X.stack=X.outer\/(X.stack=X.env::X.outer/\X.env.frame=some X.env.locals)
 exf:∀b∈X.ex,b≠X.env.locals/\∀x c,X.env.cells.lookup x=some c->c≠b
 bs:∀b o,X.base.get? b=some o->X.s₀.heap.get? b=some o/\X.H₀ b=none
 bsz:X.base.objs.size<=X.s₀.heap.objs.size
 noex:∀b o,X.base.get? b=some o->b∉X.ex
 exfs:∀b∈X.ex,b∉X.fs
 funs:X.s₀.heap.FunFrames X.base X.outer
 frf:∀b∈X.fs,X.H₀ b=none
structure Inv(X:Cx)(z0:List (Addr×Obj))(σ:List (Option V))(H:Hp)(s:Shared):Prop where
 ok:X.Ok
 os:s.os=X.s₀.os
 bare:AllBare s.gens
 base:Un X.fs X.ex X.H₀ H X.s₀.heap s.heap
 loc:∃m,s.heap.Ns X.env.locals m/\∀(i:Nat)(x:Str)(v:V),X.N[i]?=some x->σ[i]?=some (some v)->Vis X.env.scope x->∃u,RelV v u/\Look X.env s.heap m x u
 cell:∀x c,X.env.cells.lookup x=some c->∃v,s.heap.IsCell c v
 free:H X.env.locals=none
 freeC:∀x c,X.env.cells.lookup x=some c->H c=none
 pin:∀p∈X.pn++z0,s.heap.get? p.1=some p.2/\H p.1=none/\p.1≠X.env.locals/\p.1∉X.fs/\∀v,p.2.data≠.cell v
 hok:HOk X.prog X.w H s.heap
 len:σ.length=X.N.length
section
variable{X:Cx}{z0:List (Addr×Obj)}{σ:List (Option V)}{H H':Hp}{s:Shared}{h':Heap}
theorem Cx.Ok.nofr(ok:X.Ok)(e:X.base.get? b=some o):b∉X.fs:=λhb=>by
 have:=(ok.funs.mem hb).1;rw[e] at this;cases this
theorem Inv.bs(I:Inv X z0 σ H s):∀b o,X.base.get? b=some o->s.heap.get? b=some o/\H b=none:=λb o e =>
 ⟨I.base.keep b o (I.ok.bs b o e).1 (I.ok.bs b o e).2 (I.ok.nofr e) (I.ok.noex b o e),I.base.free b o (I.ok.bs b o e).1 (I.ok.bs b o e).2 (I.ok.noex b o e)⟩
theorem Inv.bk(I:Inv X z0 σ H s):∀b o,X.base.get? b=some o->s.heap.get? b=some o:=λb o e=>(I.bs b o e).1
theorem Inv.mod(I:Inv X z0 σ H s):Mod X.K X.mg X.base:=I.ok.mod
theorem Inv.kIn(I:Inv X z0 σ H s):X.K.In s.heap:=I.ok.mod.kin.keeps I.bk
theorem Inv.lt(I:Inv X z0 σ H s):X.env.locals<s.heap.objs.size:=let ⟨_,hn,_⟩:=I.loc;hn.lt
theorem Inv.sz(I:Inv X z0 σ H s):X.s₀.heap.objs.size<=s.heap.objs.size:=B6z I.ok.above (C6z I.lt)
theorem Inv.nofs(I:Inv X z0 σ H s)(h:s.heap.objs.size<=a):a∉X.fs:=λhb=>by
 obtain⟨_,o,ho,_⟩:=I.ok.funs.mem hb;exact absurd (V1z (Z5z ho) (B6z I.sz h)) (M5z _)
theorem Inv.cne(I:Inv X z0 σ H s):∀x c,X.env.cells.lookup x=some c->c≠X.env.locals:=λx c e z=>by
 obtain⟨v,o,ho,hd⟩:=I.cell x c e;obtain⟨m,⟨o',es,ep,ho',hd',_⟩,_⟩:=I.loc;rw[z,ho'] at ho;cases ho;rw[hd'] at hd;cases hd
theorem Inv.funs(I:Inv X z0 σ H s):s.heap.FunFrames X.base X.outer:=by
 have all:∀(l:List Env),(∀b∈frs l,b∈X.fs)->X.s₀.heap.FunFrames X.base l->s.heap.FunFrames X.base l:=by
  intro l
  induction l with
  |nil=>intro _ _;trivial
  |cons env r ih =>
   intro hs hl;obtain⟨hk,⟨L,o,hf,hn,ho,hd⟩,hr⟩:=hl;have hL:=hs L (by unfold frs;rw[L1z,hf];exact W1z);obtain⟨sl,e⟩:=I.base.slot L o ho (I.ok.frf L hL) hL λz=>I.ok.exfs L z hL;exact⟨hk,⟨L,_,hf,hn,e,hd⟩,ih (λb hb=>hs b (by unfold frs;rw[L1z,hf];exact E1z _ hb)) hr⟩
 exact all X.outer (λ_ hb=>hb) I.ok.funs
theorem Inv.stack(I:Inv X z0 σ H s):s.heap.FunFrames X.base X.stack:=by
 obtain e|⟨e,hf⟩:=I.ok.stk
 .rw[e];exact I.funs
 .rw[e]
  obtain⟨m,hn,_⟩:=I.loc;exact .cons (by rw[I.ok.kind];decide) hf hn (Heap.get?_none_of_le (B6z I.ok.bsz I.ok.above)) I.funs
theorem Inv.stkSub(I:Inv X z0 σ H s):∀b∈frs X.stack,b∈X.env.locals::X.fs:=λb hb=>by
 obtain e|⟨e,hf⟩:=I.ok.stk
 .rw[e] at hb;exact E1z _ hb
 .rw[e] at hb
  unfold frs at hb;rw[L1z,hf] at hb;exact hb
theorem Inv.stkFree(I:Inv X z0 σ H s):∀b∈frs X.stack,H b=none:=λb hb=>by
 obtain e|hb:=V5z.mp (I.stkSub b hb)
 .rw[e];exact I.free
 .obtain⟨_,o,ho,_⟩:=I.ok.funs.mem hb
  exact I.base.free b o ho (I.ok.frf b hb) λz=>I.ok.exfs b z hb
theorem Inv.step{ch:List Addr}(I:Inv X z0 σ H s)
  (hch:∀b∈ch,(b∈X.ex\/X.s₀.heap.objs.size<=b)/\b≠X.env.locals/\(∀x c,X.env.cells.lookup x=some c->c≠b)/\∀p∈X.pn++z0,p.1≠b)
  (keep:∀b o,b≠X.env.locals->b∉X.fs->b∉ch->s.heap.get? b=some o->H b=none->h'.get? b=some o)
  (slot:∀b o,b≠X.env.locals->b∈X.fs->b∉ch->s.heap.get? b=some o->H b=none->∃sl,h'.get? b=some {o with slots:=sl}) (free:∀b o,b∉ch->s.heap.get? b=some o->H b=none->H' b=none)
  (there:∀b o,b∉ch->s.heap.get? b=some o->∃o',h'.get? b=some o')
  (tups:∀b xs,H b=some (.tup xs)->H' b=some (.tup xs)) (frzs:∀b o u,H b=some (.frz o u)->H' b=some (.frz o u)) (tbls:∀b ps,H b=some (.tbl ps)->∃more,H' b=some (.tbl (ps++more)))
  (ns:∀m,s.heap.Ns X.env.locals m->h'.Ns X.env.locals m) (hok:HOk X.prog X.w H' h') (hg:AllBare g') :
  Inv X z0 σ H' {s with heap:=h',gens:=g',drawn:=d',toks:=t'}:=by
 have neL:∀b o,X.s₀.heap.get? b=some o->b≠X.env.locals:=λb o e=>A6z (V1z (Z5z e) I.ok.above)
 have neC:∀b o,X.s₀.heap.get? b=some o->b∉X.ex->b∉ch:=λb o e hx hb=>by
  obtain z|z:=(hch b hb).1
  .exact hx z
  .exact absurd (V1z (Z5z e) z) (M5z _)
 have cellK:∀x c,X.env.cells.lookup x=some c->∀v,s.heap.IsCell c v->h'.IsCell c v:=λx c e v ⟨o,ho,hd⟩=>by
  have nch:=λz=>(hch c z).2.2.1 x c e rfl
  by_cases hc:c∈X.fs
  .obtain⟨sl,q⟩:=slot c o (I.cne x c e) hc nch ho (I.freeC x c e)
   exact⟨_,q,hd⟩
  .exact⟨o,keep c o (I.cne x c e) hc nch ho (I.freeC x c e),hd⟩
 refine⟨I.ok,I.os,hg,⟨λb o e n hb hx=>?_,λb o e n hb hx=>?_,λb o e n hx=>?_,λb o e hx=>?_,λb xs e=>tups b xs (I.base.tups b xs e),λb o xs e=>frzs b o xs (I.base.frzs b o xs e),λb ps e=>?_⟩,?_,λx c e=>?_,?_,λx c e=>?_,λp hp=>?_,hok,I.len⟩
 .exact keep b o (neL b o e) hb (neC b o e hx) (I.base.keep b o e n hb hx) (I.base.free b o e n hx)
 .obtain⟨sl,e1⟩:=I.base.slot b o e n hb hx
  obtain⟨sl',e2⟩:=slot b _ (neL b o e) hb (neC b o e hx) e1 (I.base.free b o e n hx);exact⟨sl',e2⟩
 .obtain⟨o',e1⟩:=I.base.there b o e hx
  exact free b o' (neC b o e hx) e1 (I.base.free b o e n hx)
 .obtain⟨o',e1⟩:=I.base.there b o e hx
  exact there b o' (neC b o e hx) e1
 .obtain⟨m1,e1⟩:=I.base.tbls b ps e
  obtain⟨m2,e2⟩:=tbls b _ e1;exact⟨m1++m2,by rw[e2,Array.append_assoc]⟩
 .obtain⟨m,hn,hl⟩:=I.loc
  refine⟨m,ns m hn,λi x v e1 e2 e3=>?_⟩;obtain⟨u,r,l⟩:=hl i x v e1 e2 e3;refine⟨u,r,?_⟩;obtain l|⟨k,c,e,z⟩:=l
  .exact .inl l
  .exact .inr ⟨k,c,e,cellK x c e _ z⟩
 .obtain⟨v,z⟩:=I.cell x c e
  exact⟨v,cellK x c e v z⟩
 .obtain⟨m,⟨o,_,_,ho,_⟩,_⟩:=I.loc
  exact free _ o (λz=>(hch _ z).2.1 rfl) ho I.free
 .obtain⟨v,o,ho,hd⟩:=I.cell x c e
  exact free c o (λz=>(hch c z).2.2.1 x c e rfl) ho (I.freeC x c e)
 .obtain⟨e,n,ne,nf,d⟩:=I.pin p hp
  have nch:=λz=>(hch p.1 z).2.2.2 p hp rfl;exact⟨keep p.1 p.2 ne nf nch e n,free p.1 p.2 nch e n,ne,nf,d⟩
theorem Inv.un(I:Inv X z0 σ H s)(u:Un X.fs [] H H' s.heap h')(hok:HOk X.prog X.w H' h'):Inv X z0 σ H' {s with heap:=h',toks:=t'}:=by
 obtain⟨m,⟨o,es,ep,ho,r⟩,_⟩:=id I.loc;obtain⟨sl,hL⟩:=u.any ho I.free (by simp)
 exact I.step (ch:=[]) (λ_ z=>nomatch z) (λb o _ hb _ e n=>u.keep b o e n hb (by simp)) (λb o _ hb _ e n=>u.slot b o e n hb (by simp)) (λb o _ e n=>u.free b o e n (by simp)) (λb o _ e=>u.there b o e (by simp)) u.tups u.frzs u.tbls (λm' hm=>by
  obtain⟨o',es',ep',ho',r'⟩:=hm;rw[ho] at ho';cases ho'
  exact⟨_,es',ep',hL,r'⟩) hok I.bare
theorem Inv.call(I:Inv X z0 σ H s)(u:Un (frs X.stack) ch H H' s.heap h')(hok:HOk X.prog X.w H' h')(hg:AllBare g')
  (hch:∀b∈ch,(b∈X.ex\/X.s₀.heap.objs.size<=b)/\b≠X.env.locals/\(∀x c,X.env.cells.lookup x=some c->c≠b)/\∀p∈X.pn++z0,p.1≠b) :
  Inv X z0 σ H' {s with heap:=h',gens:=g',drawn:=d',toks:=t'}:=by
 obtain⟨m,⟨o,es,ep,ho,r⟩,_⟩:=id I.loc;obtain⟨sl,hL⟩:=u.any ho I.free λz=>(hch _ z).2.1 rfl
 exact I.step hch (λb o hL hb hc e n=>u.keep b o e n (λz=>(V5z.mp (I.stkSub b z)).elim hL hb) hc) (λb o _ _ hc e n=>u.any e n hc) (λb o hc e n=>u.free b o e n hc) (λb o hc e=>u.there b o e hc) u.tups u.frzs u.tbls (λm' hm=>by
  obtain⟨o',es',ep',ho',r'⟩:=hm;rw[ho] at ho';cases ho'
  exact⟨_,es',ep',hL,r'⟩) hok hg
theorem Inv.turned(I:Inv X z0 σ H s)(k:∀b o,b≠it->s.heap.get? b=some o->h'.get? b=some o)(hn:H it=none)(hL:it≠X.env.locals)
  (h1:it∈X.ex\/X.s₀.heap.objs.size<=it) (h2:∀x c,X.env.cells.lookup x=some c->c≠it) (h3:∀p∈X.pn++z0,p.1≠it):Inv X z0 σ H {s with heap:=h',toks:=t'}:=by
 have nit:∀b u,H b=some u->b≠it:=λb u e z=>by rw[z,hn] at e;cases e
 refine I.step (ch:=[it]) (λb hb=>?_) (λb o _ _ hc e _=>k b o (λz=>hc (by simp[z])) e) (λb o _ _ hc e _=>⟨o.slots,k b o (λz=>hc (by simp[z])) e⟩) (λ_ _ _ _ n=>n)
  (λb o hc e=>⟨o,k b o (λz=>hc (by simp[z])) e⟩) (λ_ _ e=>e) (λ_ _ _ e=>e) (λb ps e=>⟨#[],by rw[e];simp⟩) (λm hm=>?_) (λb u e=>?_) I.bare
 .have e:b=it:=by simpa using hb
  subst e;exact⟨h1,hL,h2,h3⟩
 .obtain⟨o,es,ep,ho,r⟩:=hm
  exact⟨o,es,ep,k _ o (E7z hL) ho,r⟩
 .refine(I.hok b u e).stay (λc v hc q=>k c v ?_ q) (λ_ q=>q) λ_ _ q=>q
  obtain z|z:=hc
  .rw[z];exact nit b u e
  .exact nit c _ z
theorem Inv.tok(I:Inv X z0 σ H s)(t:Nat):Inv X z0 σ H {s with toks:=t}:=I.un Un.refl I.hok
theorem Inv.kept(I:Inv X z0 σ H s)(k:∀b u,s.heap.get? b=some u->h'.get? b=some u):Inv X z0 σ H {s with heap:=h',toks:=t'}:=I.un (Un.kept k) (I.hok.kept k)
theorem Inv.laid(I:Inv X z0 σ H s)(k:∀b u,s.heap.get? b=some u->h'.get? b=some u)(hp:s.heap.objs.size<=a)(new:dR X.prog X.w (upd H a o) h' a o) :
  Inv X z0 σ (upd H a o) {s with heap:=h',toks:=t'}:=I.un (Un.laid k hp (I.hok.fresh hp)) (I.hok.laid k hp new)
theorem Inv.write(I:Inv X z0 σ H s)(mu:Mut (H x))(he:e=x\/H e=some (.own x))(k:∀b u,b≠e->s.heap.get? b=some u->h'.get? b=some u)(heo:∃u,h'.get? e=some u)
  (new:dR X.prog X.w (upd H x o) h' x o):Inv X z0 σ (upd H x o) {s with heap:=h',toks:=t'}:=I.un (Un.write mu he k heo) (I.hok.write mu he k heo new)
theorem Inv.pins_of(I:Inv X z0 σ H s)(h:∀p∈pins',s.heap.get? p.1=some p.2/\H p.1=none/\p.1≠X.env.locals/\p.1∉X.fs/\∀v,p.2.data≠.cell v):Inv X pins' σ H s :=
 ⟨I.ok,I.os,I.bare,I.base,I.loc,I.cell,I.free,I.freeC,λp hp=>(List.mem_append.mp hp).elim (λz=>I.pin p (F1z _ z)) (h p),I.hok,I.len⟩
theorem uZ{N:List Str}(hN:N.Nodup){i j:Nat}(a:N[i]?=some x)(b:N[j]?=some x):i=j:=by
 obtain⟨h1,e1⟩:=List.getElem?_eq_some_iff.mp a;obtain⟨h2,e2⟩:=List.getElem?_eq_some_iff.mp b;exact(List.getElem_inj hN).mp (e1.trans e2.symm)
theorem pB(I:Inv X z0 σ H s)(hN:X.N.Nodup)(hi:X.N[i]?=some x)(hx:Loc X.env.scope x)(r:RelV v u)
  (h:∀s',Inv X z0 (σ.set i (some v)) H s'->(∃a,Heap.SameBut a s.heap s'.heap/\(a=X.env.locals\/X.env.cells.lookup x=some a))->Q () s') (hf:X.fn x=true\/X.env.scope.names.lookup x=some .local:=by first|exact .inl rfl|exact .inr rfl|assumption):wpAny M A (storeName X.env x u) Q E s:=by
 obtain⟨m,hn,hl⟩:=id I.loc
 have hcls:(X.env.scope.kind==.class||(X.env.scope.kind==.module&&X.env.locals !=X.env.globals))=false:=by rw[I.ok.kind];rfl
 have hiσ:i<σ.length:=by rw[I.len];exact(List.getElem?_eq_some_iff.mp hi).1
 have cne:=I.cne
 have tracked:∀{a:Addr}{h':Heap},(∃o,s.heap.get? a=some o/\H a=none)->Heap.SameBut a s.heap h'->HOk X.prog X.w H h':=λ{a h'} ha hs b ob e=>by
  obtain⟨_,_,hfree⟩:=ha;refine(I.hok b ob e).stay (λc w' hc q=>(hs.2 c ?_).trans q) (λ_ q=>q) λ_ _ q=>q;rintro rfl;obtain rfl|hc:=hc
  .rw[hfree] at e;cases e
  .rw[hfree] at hc;cases hc
 obtain hk|hk:=hx
 .refine wpAny_storeName_local hk hn (λh' hn' hs=>?_) hcls
  obtain⟨oL,_,_,hoL,_⟩:=id hn;refine h _ ⟨I.ok,I.os,I.bare,⟨λb o e n hb hx=>?_,λb o e n hb hx=>?_,I.base.free,λb o e hx=>?_,I.base.tups,I.base.frzs,I.base.tbls⟩,⟨_,hn',λj y v' e1 e2 e3=>?_⟩,λy c e=>?_,I.free,I.freeC,λp hp=>?_,tracked ⟨oL,hoL,I.free⟩ hs,by simpa using I.len⟩ ⟨_,hs,.inl rfl⟩
  .exact(hs.2 b (A6z (V1z (Z5z e) I.ok.above))).trans (I.base.keep b o e n hb hx)
  .obtain⟨sl,e1⟩:=I.base.slot b o e n hb hx
   exact⟨sl,(hs.2 b (A6z (V1z (Z5z e) I.ok.above))).trans e1⟩
  .obtain⟨o',e1⟩:=I.base.there b o e hx
   exact⟨o',(hs.2 b (A6z (V1z (Z5z e) I.ok.above))).trans e1⟩
  .by_cases hj:j=i
   .subst hj
    rw[hi] at e1;cases e1
    rw[List.getElem?_set_self hiσ] at e2;cases e2;exact⟨u,r,.inl ⟨hk,by simp⟩⟩
   .rw[List.getElem?_set_ne (E7z hj)] at e2
    obtain⟨u',r',q⟩:=hl j y v' e1 e2 e3;refine⟨u',r',?_⟩;obtain⟨k,e⟩|⟨k,c,e,z⟩:=q
    .refine .inl ⟨k,?_⟩
     have:y≠x:=λe=>hj (uZ hN e1 (e▸hi));simp[this,e]
    .exact .inr ⟨k,c,e,z.sameBut hs (cne y c e)⟩
  .obtain⟨w',z⟩:=I.cell y c e
   exact⟨w',z.sameBut hs (cne y c e)⟩
  .obtain⟨e,n,ne,nf,d⟩:=I.pin p hp
   exact⟨(hs.2 p.1 ne).trans e,n,ne,nf,d⟩
 .have hfn:X.fn x=true:=by
   obtain z|z:=hf
   .exact z
   .rw[z] at hk;cases hk
  obtain⟨c,hc⟩:=I.ok.has x (.inl hk);obtain⟨w',z⟩:=I.cell x c hc;refine wpAny_storeName_cell I.ok.kind hk hc z (λh' hc' hs=>?_);obtain⟨oc,hoc,hocd⟩:=id z;refine h {s with heap:=h'} ⟨I.ok,I.os,I.bare,⟨λb o e n hb hx=>?_,λb o e n hb hx=>?_,I.base.free,λb o e hx=>?_,I.base.tups,I.base.frzs,I.base.tbls⟩,⟨m,hn.sameBut hs (E7z (cne x c hc)),λj y v' e1 e2 e3=>?_⟩,λy c' e=>?_,I.free,I.freeC,λp hp=>?_,tracked ⟨oc,hoc,I.freeC x c hc⟩ hs,by simpa using I.len⟩ ⟨c,hs,.inr hc⟩
  .exact(hs.2 b (A6z (V1z (Z5z e) (I.ok.cab x c hfn hc)))).trans (I.base.keep b o e n hb hx)
  .obtain⟨sl,e1⟩:=I.base.slot b o e n hb hx
   exact⟨sl,(hs.2 b (A6z (V1z (Z5z e) (I.ok.cab x c hfn hc)))).trans e1⟩
  .obtain⟨o',e1⟩:=I.base.there b o e hx
   exact⟨o',(hs.2 b (A6z (V1z (Z5z e) (I.ok.cab x c hfn hc)))).trans e1⟩
  .by_cases hj:j=i
   .subst hj
    rw[hi] at e1;cases e1
    rw[List.getElem?_set_self hiσ] at e2;cases e2;exact⟨u,r,.inr ⟨.inl hk,c,hc,hc'⟩⟩
   .rw[List.getElem?_set_ne (E7z hj)] at e2
    obtain⟨u',r',q⟩:=hl j y v' e1 e2 e3;refine⟨u',r',?_⟩;obtain q|⟨k,c',e,z'⟩:=q
    .exact .inl q
    .refine .inr ⟨k,c',e,z'.sameBut hs ?_⟩
     rintro rfl;exact hj (uZ hN e1 (I.ok.inj _ _ _ e hc▸hi))
  .by_cases hcc:c'=c
   .subst hcc;exact⟨_,hc'⟩
   .obtain⟨w2,z2⟩:=I.cell y c' e
    exact⟨w2,z2.sameBut hs hcc⟩
  .obtain⟨e,n,ne,nf,d⟩:=I.pin p hp
   refine⟨(hs.2 p.1 ?_).trans e,n,ne,nf,d⟩;intro q;rw[q,hoc] at e;exact d w' (by rw[<- (C4z e)];exact hocd)
theorem jP(I:Inv X z0 σ H s)(hN:X.N.Nodup)(hi:X.N[i]?=some x)(hx:Loc X.env.scope x)(r:RelV v u)
  (h:∀s',Inv X z0 (σ.set i (some v)) H s'->Q () s') (hf:X.fn x=true\/X.env.scope.names.lookup x=some .local:=by first|exact .inl rfl|exact .inr rfl|assumption):wpAny M A (storeName X.env x u) Q E s :=
 pB I hN hi hx r (λs' I' _=>h s' I') hf
theorem Inv.call'(I:Inv X z0 σ H s)(ho:s'.os=s.os)(u:Un (frs X.stack) ch H H' s.heap s'.heap)(hok:HOk X.prog X.w H' s'.heap)(hg:AllBare s'.gens)
  (hch:∀b∈ch,(b∈X.ex\/X.s₀.heap.objs.size<=b)/\b≠X.env.locals/\(∀x c,X.env.cells.lookup x=some c->c≠b)/\∀p∈X.pn++z0,p.1≠b):Inv X z0 σ H' s':=by
 obtain⟨h',g',d',t',o'⟩:=s';subst ho;exact I.call u hok hg hch
end
abbrev XK:=Value->Option Addr->Hp->Prop
abbrev St:=List (Option V)
abbrev VK:=V->Hp->Prop
abbrev TE:=St->Hp->VK->Prop
abbrev TT:=St->Hp->(Bool->Hp->Prop)->Prop
abbrev TA:=St->Hp->(List V->Hp->Prop)->Prop
structure Ends where
 nx:St->Hp->Prop
 rt:VK
 bk:St->Hp->Prop:=λ_ _=>False
 ct:St->Hp->Prop:=λ_ _=>False
abbrev TS:=Ends->St->Hp->Prop
def EP(X:Cx)(z0:List (Addr×Obj))(σ:St)(Q:VK)(u:Value)(s':Shared):Prop:=∃v H',Inv X z0 σ H' s'/\RelV v u/\Q v H'
def TP(X:Cx)(z0:List (Addr×Obj))(σ:St)(Q:Bool->Hp->Prop)(b:Bool)(s':Shared):Prop:=∃H',Inv X z0 σ H' s'/\Q b H'
def AP(X:Cx)(z0:List (Addr×Obj))(σ:St)(Q:List V->Hp->Prop)(us:List Value)(s':Shared):Prop:=∃vs H',Inv X z0 σ H' s'/\Vals vs us/\Q vs H'
def SP(X:Cx)(z0:List (Addr×Obj))(D:Ends)(f:Flow)(s':Shared):Prop :=
 match f with
 |.next=>∃σ' H',Inv X z0 σ' H' s'/\D.nx σ' H'
 |.brk=>∃σ' H',Inv X z0 σ' H' s'/\D.bk σ' H'
 |.cont=>∃σ' H',Inv X z0 σ' H' s'/\D.ct σ' H'
 |.ret u=>∃v σ' H',Inv X z0 σ' H' s'/\RelV v u/\D.rt v H'
def PE(X:Cx)(e:Expr)(t:TE):Prop :=
 ∀(z0:List (Addr×Obj))(s:Shared)(σ:St)(H:Hp)(Q:VK),Inv X z0 σ H s->t σ H Q->wpAny (model X.prog X.w) X.A (eval e X.env) (EP X z0 σ Q) X.xe s
def PT(X:Cx)(e:Expr)(t:TT):Prop :=
 ∀(z0:List (Addr×Obj))(s:Shared)(σ:St)(H:Hp)(Q:Bool->Hp->Prop),Inv X z0 σ H s->t σ H Q->wpAny (model X.prog X.w) X.A (isTrue e X.env (eval e X.env)) (TP X z0 σ Q) X.xe s
def PW(X:Cx)(e:Expr)(t:TT):Prop :=
 ∀(whole:Sem Value)(z0:List (Addr×Obj))(s:Shared)(σ:St)(H:Hp)(Q:Bool->Hp->Prop),Inv X z0 σ H s->t σ H Q->wpAny (model X.prog X.w) X.A (isTrue e X.env whole) (TP X z0 σ Q) X.xe s
theorem PW.pt(h:PW X e t):PT X e t:=h _
def PA(X:Cx)(es:List Expr)(t:TA):Prop :=
 ∀(pos:Pos)(z0:List (Addr×Obj))(s:Shared)(σ:St)(H:Hp)(Q:List V->Hp->Prop),Inv X z0 σ H s->t σ H Q->wpAny (model X.prog X.w) X.A (spliced (backTo pos (starEach es X.env))) (AP X z0 σ Q) X.xe s
def PS(X:Cx)(st:Stmt)(t:TS):Prop :=
 ∀(z0:List (Addr×Obj))(s:Shared)(σ:St)(H:Hp)(D:Ends),Inv X z0 σ H s->t D σ H->wpAny (model X.prog X.w) X.A (exec st X.env) (SP X z0 D) X.xe s
def PSs(X:Cx)(st:List Stmt)(t:TS):Prop :=
 ∀(z0:List (Addr×Obj))(s:Shared)(σ:St)(H:Hp)(D:Ends),Inv X z0 σ H s->t D σ H->wpAny (model X.prog X.w) X.A (execs st X.env) (SP X z0 D) X.xe s
theorem thn(h:wpAny M A t Q E s)(hQ:∀a s,Q a s->Q' a s):wpAny M A t Q' E s:=Q6z h hQ λ_ _ x=>x
section
variable{X:Cx}
theorem bin(ha:PE X a ta)(hb:PE X b tb){R:V->V->Hp->Prop}(I:Inv X z0 σ H s)(h:ta σ H fun x H1=>tb σ H1 fun y H2=>R x y H2)
     {Q:α->Shared->Prop} {f:Value->Value->Sem α}
    (hf:∀v u s2 x y H2,Inv X z0 σ H2 s2->RelV x v->RelV y u->R x y H2->wpAny (model X.prog X.w) X.A (f v u) Q X.xe s2) :
    wpAny (model X.prog X.w) X.A (eval a X.env) (λv s₁=>wpAny (model X.prog X.w) X.A (eval b X.env) (λu s₂=>wpAny (model X.prog X.w) X.A (f v u) Q X.xe s₂) X.xe s₁) X.xe s:=by
  refine thn (ha z0 s σ H _ I h) λv s1 ⟨x,H1,I1,r1,q1⟩=>?_
  exact thn (hb z0 s1 σ H1 _ I1 q1) λu s2 ⟨y,H2,I2,r2,q2⟩=>hf v u s2 x y H2 I2 r1 r2 q2
def V4(i:Nat):TE:=λσ H Q=>∃v,σ[i]?=some (some v)/\Q v H
def tC(v:V):TE:=λ_ H Q=>Q v H
theorem pX(hN:X.N[i]?=some x)(hv:Vis X.env.scope x)(hd:(x==("__debug__":Str))=false:=by decide)(hcd:(x==("__classdict__":Str))=false:=by decide):PE X (.Name x pos) (V4 i):=by
 intro z0 s σ H Q I h;obtain⟨v,e,h⟩:=h;obtain⟨m,hn,hl⟩:=I.loc;obtain⟨u,r,l⟩:=hl i x v hN e hv;have fin:EP X z0 σ Q u s:=⟨v,H,I,r,h⟩;obtain⟨hk,hm⟩|⟨hk,c,hc,hcell⟩:=l
 .exact wpAny_Name (wpAny_loadName_local I.ok.kind hk hn hm fin) hd
 .obtain hk|hk:=hk
  .exact wpAny_Name (wpAny_loadName_cell I.ok.kind hk hc hcell fin) hd
  .exact wpAny_Name (wpAny_loadName_free I.ok.kind hk hc hcell fin hcd) hd
theorem mJ{i j pos}:PE X (.Constant (.int i) j pos) (tC (.int i)):=λ_ _ _ H _ I h=>wpAny_Constant_int ⟨.int i,H,I.tok _,⟨_,rfl⟩,h⟩
theorem Uy{b j pos}:PE X (.Constant (.bool b) j pos) (tC (.bl b)):=λ_ _ _ H _ I h=>Constant_bool ⟨.bl b,H,I,rfl,h⟩
theorem HD{j pos}:PE X (.Constant .none j pos) (tC .non):=λ_ _ _ H _ I h=>Constant_none ⟨.non,H,I,rfl,h⟩
theorem j9{x j pos}:PE X (.Constant (.str x) j pos) (tC (.str x)):=λ_ _ _ H _ I h=>Calls.Constant_str ⟨.str x,H,I.tok _,⟨_,rfl⟩,h⟩
def Gl(X:Cx)(x:Str):Prop:=X.env.kindOf x=some .globalImplicit
theorem kZ(I:Inv X z0 σ H s)(hg:Gl X x)(hm:X.mg x=some u)(h:Q u s)
  (hd:(x==("__debug__":Str))=false:=by decide):wpAny (model X.prog X.w) X.A (eval (.Name x pos) X.env) Q E s :=
 Calls.Name_function_global I.ok.kind hg (Calls.loadGlobal_global (by rw[I.ok.glob];exact I.mod.glob.keeps I.bk) hm h) hd
theorem eG(I:Inv X z0 σ H s)(hg:Gl X x)(hm:X.mg x=none)(hv:bootBuiltins x=some u)(h:Q u s)
  (hn:x≠"__name__":=by decide) (hd:(x==("__debug__":Str))=false:=by decide):wpAny (model X.prog X.w) X.A (eval (.Name x pos) X.env) Q E s:=by
 obtain⟨mb,h1,h2⟩:=I.mod.blt;exact Calls.Name_function_global I.ok.kind hg (Calls.loadGlobal_builtin (by rw[I.ok.glob];exact I.mod.glob.keeps I.bk) hm (by rw[I.ok.blt];exact h1.keeps I.bk) ((h2 x hn).trans hv) h) hd
theorem J7(hg:Gl X x)(hm:X.mg x=some u)(r:RelV v u)(hd:(x==("__debug__":Str))=false:=by decide):PE X (.Name x pos) (tC v) :=
 λ_ _ _ H _ I h=>kZ I hg hm ⟨v,H,I,r,h⟩ hd
theorem J9(hg:Gl X x)(hm:X.mg x=none)(hv:bootBuiltins x=some u)(r:RelV v u)(hn:x≠"__name__":=by decide)(hd:(x==("__debug__":Str))=false:=by decide):PE X (.Name x pos) (tC v) :=
 λ_ _ _ H _ I h=>eG I hg hm hv ⟨v,H,I,r,h⟩ hn hd
def t2I(ta tb:TE)(k:Int->Int->Hp->Prop):St->Hp->Prop:=λσ H=>ta σ H λx H1=>tb σ H1 λy H2=>∃i j,x=.int i/\y=.int j/\k i j H2
variable{a b:Expr}{ta tb:TE}{pos:Pos}
def PC(X:Cx)(op:CmpOp)(a b:Expr)(t:TE):Prop :=
  ∀(z0:List (Addr×Obj))(s:Shared)(σ:St)(H:Hp)(Q:VK), Inv X z0 σ H s->t σ H Q ->
    wpAny (model X.prog X.w) X.A (eval a X.env) (λv s₁=>wpAny (model X.prog X.w) X.A (eval b X.env) (λu s₂=>wpAny (model X.prog X.w) X.A (compareOp op v u) (EP X z0 σ Q) X.xe s₂) X.xe s₁) X.xe s
theorem u9(b:Expr)(h:op≠.In)(h2:op≠.NotIn):behindInMarks op b=false:=by
 have e1:(op==CmpOp.In)=false:=by cases op<;>first|rfl|exact absurd rfl h
 have e2:(op==CmpOp.NotIn)=false:=by cases op<;>first|rfl|exact absurd rfl h2
 cases b<;>simp[behindInMarks,e1,e2]
def V5(p:Int->Int->Bool)(ta tb:TE):TE:=λσ H Q=>t2I ta tb (λi j H2=>Q (.bl (p i j)) H2) σ H
abbrev W6:TE->TE->TE:=V5 λi j=>decide (i=j)
theorem Qo(ha:PE X a ta)(hb:PE X b tb)
  (rule:∀(i j:Int)(t u:Tok)(Q:Value->Shared->Prop)(s:Shared),Q (.bool (p i j)) s->wpAny (model X.prog X.w) X.A (compareOp op (.int i t) (.int j u)) Q X.xe s):PC X op a b (V5 p ta tb):=by
 intro z0 s σ H Q I h;refine bin ha hb I h λv u s2 x y H2 I2 rx ry q=>?_;obtain⟨i,j,rfl,rfl,q⟩:=q;obtain⟨t,rfl⟩:=rx;obtain⟨t',rfl⟩:=ry;exact rule i j t t' _ s2 ⟨.bl _,H2,I2,rfl,q⟩
theorem Qp(ha:PE X a ta)(hb:PE X b tb):PC X .Eq a b (W6 ta tb):=Qo ha hb λ_ _ _ _ _ _ h=>eq_int (by rw[Bool.beq_eq_decide_eq];exact h)
def WY(ta:TE):TE:=λσ H Q=>ta σ H λx H1=>Q (.bl (decide (x=.non))) H1
theorem RelV.none_iff(r:RelV x v):(v==Value.none)=decide (x=.non):=by
 cases x with
 |non=>cases r;rfl
 |bl _=>cases r;rfl
 |int _=>obtain⟨t,rfl⟩:=r;rfl
 |str _=>obtain⟨t,rfl⟩:=r;rfl
 |byt _=>obtain⟨t,rfl⟩:=r;rfl
 |flt _=>obtain⟨t,rfl⟩:=r;rfl
 |ref _=>cases r;rfl
 |ty _=>cases r;rfl
theorem Qn{j pos'}(ha:PE X a ta):PC X .Is a (.Constant .none j pos') (WY ta):=by
 intro z0 s σ H Q I h;exact thn (ha z0 s σ H _ I h) λv s1 ⟨x,H1,I1,r1,q1⟩=>Constant_none (is_none_gen ⟨.bl _,H1,I1,by rw[r1.none_iff];rfl,q1⟩)
def tB(t:TE):TT:=λσ H Q=>t σ H λx H1=>∃c,x=.bl c/\Q c H1
theorem Ql(h:PC X op a b t)(h1:behindInMarks op b=false:=by first|exact u9 _ (by decide) (by decide)|rfl):PE X (.Compare a [op] [b] pos) t:=λz0 s σ H Q I hw=>wpAny_Compare1 (h z0 s σ H Q I hw) h1
theorem zW(h:PC X op a b t)(h1:behindInMarks op b=false:=by first|exact u9 _ (by decide) (by decide)|rfl):PT X (.Compare a [op] [b] pos) (tB t):=by
 intro z0 s σ H Q I hw;refine wpAny_isTrue_Compare1 (thn (h z0 s σ H _ I hw) λv s1 h1=>thn h1 λu s2 h2=>thn h2 λc s3 ⟨x,H1,I1,r1,q1⟩=>?_) h1;obtain⟨d,rfl,q⟩:=q1;cases r1;exact L2z ⟨H1,I1,q⟩
theorem mH(h:PE X e t)(he:∀whole,isTrue e X.env whole=(do let v <- whole;standAt e.pos;holding [v] (truthy v)):=by intro _;rfl):PT X e (tB t):=by
 intro z0 s σ H Q I hw;refine isTrue_plain (thn (h z0 s σ H _ I hw) λv s1 ⟨x,H1,I1,r1,q1⟩=>?_) (he _);obtain⟨d,rfl,q⟩:=q1;cases r1;exact L2z ⟨H1,I1,q⟩
variable{tA tB':TT}{rest:List Expr}
def W9(t u:TT):TT:=λσ H Q=>t σ H λc H1=>if c=true then u σ H1 Q else Q false H1
def tOr(t u:TT):TT:=λσ H Q=>t σ H λc H1=>if c=true then Q true H1 else u σ H1 Q
def WW(t:TT):TT:=λσ H Q=>t σ H λc H1=>Q (!c) H1
theorem zT(ha:PT X a tA):PW X (.BoolOp .And [a] pos) tA:=by
 intro wh z0 s σ H Q I h;refine isTrue_and (thn (ha z0 s σ H Q I h) λc s1 e=>?_)
 cases c with
 |true=>exact isTrue_and_nil e
 |false=>exact e
theorem Hu(ha:PT X a tA):PW X (.BoolOp .Or [a] pos) tA:=by
 intro wh z0 s σ H Q I h;refine isTrue_or (thn (ha z0 s σ H Q I h) λc s1 e=>?_)
 cases c with
 |false=>exact isTrue_or_nil e
 |true=>exact e
theorem uN(ha:PT X a tA)(hb:PW X (.BoolOp .And (b::rest) pos) tB'):PW X (.BoolOp .And (a::b::rest) pos) (W9 tA tB'):=by
 intro wh z0 s σ H Q I h;refine isTrue_and (thn (ha z0 s σ H _ I h) λc s1 ⟨H1,I1,q1⟩=>?_)
 cases c with
 |true=>exact hb wh z0 s1 σ H1 Q I1 q1
 |false=>exact⟨H1,I1,q1⟩
theorem Eb(ha:PT X a tA)(hb:PW X (.BoolOp .Or (b::rest) pos) tB'):PW X (.BoolOp .Or (a::b::rest) pos) (tOr tA tB'):=by
 intro wh z0 s σ H Q I h;refine isTrue_or (thn (ha z0 s σ H _ I h) λc s1 ⟨H1,I1,q1⟩=>?_)
 cases c with
 |true=>exact⟨H1,I1,q1⟩
 |false=>exact hb wh z0 s1 σ H1 Q I1 q1
theorem zU(ha:PT X a tA):PT X (.UnaryOp .Not a pos) (WW tA):=by
 exact λz0 s σ H Q I h=>isTrue_not (ha z0 s σ H (λc H1=>Q (!c) H1) I h)
def Ub(ta tb:TE):TE:=λσ H Q=>ta σ H λx H1=>∃c,x=.bl c/\if c=true then tb σ H1 Q else Q (.bl false) H1
def WT(ta tb:TE):TE:=λσ H Q=>ta σ H λx H1=>∃c,x=.bl c/\if c=true then Q (.bl true) H1 else tb σ H1 Q
def TF(ta:TE):TE:=λσ H Q=>ta σ H λx H1=>∃c,x=.bl c/\Q (.bl (!c)) H1
theorem HB{op}(h:PE X a t):PE X (.BoolOp op [a] pos) t:=λz0 s σ H Q I hw=>BoolOp_one (h z0 s σ H Q I hw)
theorem uT(ha:PE X a ta)(hb:PE X (.BoolOp .And (b::rest) pos) tb):PE X (.BoolOp .And (a::b::rest) pos) (Ub ta tb):=by
 intro z0 s σ H Q I h;refine BoolOp_and (thn (ha z0 s σ H _ I h) λv s1 ⟨x,H1,I1,r1,q1⟩=>?_);obtain⟨c,rfl,q1⟩:=q1;cases r1;refine L2z ?_
 cases c with
 |true=>exact hb z0 s1 σ H1 Q I1 q1
 |false=>exact⟨.bl false,H1,I1,rfl,q1⟩
theorem Ej(ha:PE X a ta)(hb:PE X (.BoolOp .Or (b::rest) pos) tb):PE X (.BoolOp .Or (a::b::rest) pos) (WT ta tb):=by
 intro z0 s σ H Q I h;refine BoolOp_or (thn (ha z0 s σ H _ I h) λv s1 ⟨x,H1,I1,r1,q1⟩=>?_);obtain⟨c,rfl,q1⟩:=q1;cases r1;refine L2z ?_
 cases c with
 |false=>exact hb z0 s1 σ H1 Q I1 q1
 |true=>exact⟨.bl true,H1,I1,rfl,q1⟩
theorem Qk(ha:PE X a ta):PE X (.UnaryOp .Not a pos) (TF ta):=by
 intro z0 s σ H Q I h;refine UnaryOp_ (thn (ha z0 s σ H _ I h) λv s1 ⟨x,H1,I1,r1,q1⟩=>?_);obtain⟨c,rfl,q1⟩:=q1;cases r1;exact not_of (L2z ⟨.bl (!c),H1,I1,rfl,q1⟩)
def tIf(t:TT)(ta tb:TE):TE:=λσ H Q=>t σ H λc H1=>if c=true then ta σ H1 Q else tb σ H1 Q
theorem Em(hc:PT X c tA)(ha:PE X a ta)(hb:PE X b tb):PE X (.IfExp c a b pos) (tIf tA ta tb):=by
 intro z0 s σ H Q I h;refine wpAny_IfExp (thn (hc z0 s σ H _ I h) λd s1 ⟨H1,I1,q1⟩=>?_)
 cases d with
 |true=>exact ha z0 s1 σ H1 Q I1 q1
 |false=>exact hb z0 s1 σ H1 Q I1 q1
end
def SqL(K:Zf)(H:Hp)(a:Addr)(xs:List V):Prop :=
 Rd H a (.lst xs) \/
  ∃(o:Obj)(its:Array Value)(n:Nat),K.lookup a=some o/\o.cls=.type "list"/\o.dict=none/\o.data=.seq its n/\its.size<=sizeLine/\Vals xs its.toList
def SqT(K:Zf)(H:Hp)(a:Addr)(xs:List V):Prop :=
 Rd H a (.tup xs) \/
  ∃(o:Obj)(its:Array Value)(n:Nat),K.lookup a=some o/\o.cls=.type "tuple"/\o.data=.seq its n/\its.size<=sizeLine/\Vals xs its.toList
def XQ:Value->Option V
 |.none=>some .non
 |.bool b=>some (.bl b)
 |.int i _=>some (.int i)
 |.str x _=>some (.str x)
 |.bytes b _=>some (.byt b)
 |.float b _=>some (.flt b)
 |.ref a=>some (.ref a)
 |.type n=>some (.ty n)
 |_=>none
theorem RelV.abs(r:RelV x u):XQ u=some x:=by
 cases x with
 |non=>cases r;rfl
 |bl _=>cases r;rfl
 |int _=>obtain⟨t,rfl⟩:=r;rfl
 |str _=>obtain⟨t,rfl⟩:=r;rfl
 |byt _=>obtain⟨t,rfl⟩:=r;rfl
 |flt _=>obtain⟨t,rfl⟩:=r;rfl
 |ref _=>cases r;rfl
 |ty _=>cases r;rfl
theorem RelV.inj(r:RelV x u)(q:RelV y u):x=y:=C4z (r.abs.symm.trans q.abs)
theorem Vals.inj:∀{xs ys:List V}{us:List Value},Vals xs us->Vals ys us->xs=ys
 |_,_,_,.nil,.nil=>rfl
 |_,_,_,.cons r t,.cons r' t'=>by rw[r.inj r',Vals.inj t t']
section
variable{X:Cx}{z0:List (Addr×Obj)}{σ:St}{H:Hp}{s:Shared}{a:Addr}{xs ys:List V}
theorem SqL.of{K:Zf}(h:H a=some (.lst xs)):SqL K H a xs:=.inl (.inl h)
theorem SqT.of{K:Zf}(h:H a=some (.tup xs)):SqT K H a xs:=.inl (.inl h)
theorem Inv.list(I:Inv X z0 σ H s)(h:SqL X.K H a xs):∃its:List Value,Vals xs its/\PlainL s.heap a its.toArray/\xs.length<=sizeLine:=by
 obtain h|⟨o,its,n,hk,hc,hd,hs,hz,r⟩:=h
 .obtain⟨z,its,n,r,e⟩:=h.ok I.hok
  exact⟨its,r,⟨_,n,e,rfl,rfl,rfl⟩,z⟩
 .refine⟨its.toList,r,⟨o,n,I.kIn a o hk,hc,hd,by simpa using hs⟩,?_⟩
  have e:=r.length;simp[M1z] at e;omega
theorem Inv.tuple(I:Inv X z0 σ H s)(h:SqT X.K H a xs):∃its:List Value,Vals xs its/\IsTup s.heap a its.toArray/\xs.length<=sizeLine:=by
 obtain h|⟨o,its,n,hk,hc,hs,hz,r⟩:=h
 .obtain⟨z,its,r,p⟩:=h.ok I.hok
  exact⟨its,r,p,z⟩
 .refine⟨its.toList,r,⟨o,I.kIn a o hk,hc,n,by simpa using hs⟩,?_⟩
  have e:=r.length;simp[M1z] at e;omega
theorem Inv.list_inj(I:Inv X z0 σ H s)(h:SqL X.K H a xs)(h':SqL X.K H a ys):xs=ys:=by
 obtain⟨its,r,⟨o,n,e,_,_,d⟩,_⟩:=I.list h;obtain⟨its',r',⟨o',n',e',_,_,d'⟩,_⟩:=I.list h';rw[e] at e';cases e';rw[d] at d';injection d' with d1 _
 have:its=its':=by simpa using congrArg Array.toList d1
 subst this;exact r.inj r'
theorem Inv.tuple_inj(I:Inv X z0 σ H s)(h:SqT X.K H a xs)(h':SqT X.K H a ys):xs=ys:=by
 obtain⟨its,r,⟨o,e,_,n,d⟩,_⟩:=I.tuple h;obtain⟨its',r',⟨o',e',_,n',d'⟩,_⟩:=I.tuple h';rw[e] at e';cases e';rw[d] at d';injection d' with d1 _
 have:its=its':=by simpa using congrArg Array.toList d1
 subst this;exact r.inj r'
end
abbrev Cx.wish(X:Cx)(E:Value->Shared->Prop):Cx:={X with xe:=E}
abbrev Cx.nox(X:Cx):Cx:=X.wish λ_ _=>False
theorem Cx.Ok.wish{X:Cx}(ok:X.Ok)(E:Value->Shared->Prop):(X.wish E).Ok :=
 ⟨ok.mod,ok.kind,ok.glob,ok.blt,ok.above,ok.inj,ok.has,ok.cab,ok.hd,ok.frames,ok.stk,ok.exf,ok.bs,ok.bsz,ok.noex,ok.exfs,ok.funs,ok.frf⟩
theorem Cx.Ok.unwish{X:Cx}(ok:(X.wish E).Ok):X.Ok :=
 ⟨ok.mod,ok.kind,ok.glob,ok.blt,ok.above,ok.inj,ok.has,ok.cab,ok.hd,ok.frames,ok.stk,ok.exf,ok.bs,ok.bsz,ok.noex,ok.exfs,ok.funs,ok.frf⟩
section
variable{X:Cx}{z0:List (Addr×Obj)}{σ:St}{H:Hp}{s:Shared}{E:Value->Shared->Prop}
theorem Inv.wish(I:Inv X z0 σ H s)(E:Value->Shared->Prop):Inv (X.wish E) z0 σ H s:=⟨I.ok.wish E,I.os,I.bare,I.base,I.loc,I.cell,I.free,I.freeC,I.pin,I.hok,I.len⟩
theorem Inv.unwish(I:Inv (X.wish E) z0 σ H s):Inv X z0 σ H s:=⟨I.ok.unwish,I.os,I.bare,I.base,I.loc,I.cell,I.free,I.freeC,I.pin,I.hok,I.len⟩
theorem SP.unwish(h:SP (X.wish E) z0 D f s'):SP X z0 D f s':=by
 cases f with
 |next=>obtain⟨σ',H',I,q⟩:=h;exact⟨σ',H',I.unwish,q⟩
 |brk=>obtain⟨σ',H',I,q⟩:=h;exact⟨σ',H',I.unwish,q⟩
 |cont=>obtain⟨σ',H',I,q⟩:=h;exact⟨σ',H',I.unwish,q⟩
 |ret u=>obtain⟨v,σ',H',I,r,q⟩:=h;exact⟨v,σ',H',I.unwish,r,q⟩
end
section
variable{X:Cx}{st:Stmt}{rest:List Stmt}{t u:TS}{e:Expr}{te:TE}{pos:Pos}
def Ow:TS:=λD σ H=>D.nx σ H
def WM(t u:TS):TS:=λD σ H=>t {D with nx:=u D} σ H
theorem fY:PSs X [] Ow:=λ_ _ σ H _ I h=>D4z ⟨σ,H,I,h⟩
theorem aM(h1:PS X st t)(h2:PSs X rest u):PSs X (st::rest) (WM t u):=by
 intro z0 s σ H D I h;refine wpAny_execs_cons (thn (h1 z0 s σ H {D with nx:=u D} I h) λf s1 q=>?_)
 cases f with
 |next =>
  obtain⟨σ',H',I',q⟩:=q;exact h2 z0 s1 σ' H' D I' q
 |ret v=>exact q
 |brk=>exact q
 |cont=>exact q
theorem bM(h1:PS X st t):PSs X [st] t:=by
 intro z0 s σ H D I h;refine wpAny_execs_cons (thn (h1 z0 s σ H D I h) λf s1 q=>?_)
 cases f with
 |next=>exact D4z q
 |ret v=>exact q
 |brk=>exact q
 |cont=>exact q
theorem JV:PS X (.Pass pos) Ow:=λ_ _ σ H _ I h=>wpAny_Pass ⟨σ,H,I,h⟩
theorem Inv.quiet(I:Inv X z0 σ H s):interactive X.env=false:=by simp[interactive,I.ok.kind]
def TV(te:TE):TS:=λD σ H=>te σ H λ_ H1=>D.nx σ H1
theorem bW(he:PE X e te)(hs:swapsWith e none pos.line X.env=pure false:=by rfl):PS X (.Expr e pos) (TV te):=by
 exact λz0 s σ H D I h=>wpAny_Expr_any (thn (he z0 s σ H _ I h) λv s1 ⟨x,H1,I1,r1,q1⟩=>⟨σ,H1,I1,q1⟩) I.quiet hs
def WQ(te:TE):TS:=λD σ H=>te σ H D.rt
theorem eU(he:PE X e te):PS X (.Return (some e) pos) (WQ te):=by
 exact λz0 s σ H D I h=>wpAny_Return_some (thn (he z0 s σ H _ I h) λv s1 ⟨x,H1,I1,r1,q1⟩=>⟨x,σ,H1,I1,r1,q1⟩)
def Tw:TS:=λD _ H=>D.rt .non H
theorem JT:PS X (.Return none pos) Tw:=λ_ _ σ H _ I h=>wpAny_Return_none ⟨.non,σ,H,I,rfl,h⟩
def W3(c:TT)(t u:TS):TS:=λD σ H=>c σ H λb H1=>if b=true then t D σ H1 else u D σ H1
theorem pP(hc:PT X c tc)(ha:PSs X a t)(hb:PSs X b u):PS X (.If c a b pos) (W3 tc t u):=by
 intro z0 s σ H D I h;refine wpAny_If (thn (hc z0 s σ H _ I h) λd s1 ⟨H1,I1,q1⟩=>?_)
 cases d with
 |true=>exact ha z0 s1 σ H1 D I1 q1
 |false=>exact hb z0 s1 σ H1 D I1 q1
end
abbrev TG:=V->St->Hp->(St->Hp->Prop)->Prop
abbrev TGs:=List V->St->Hp->(St->Hp->Prop)->Prop
def PG(X:Cx)(target:Expr)(t:TG):Prop :=
  ∀(z0:List (Addr×Obj))(s:Shared)(σ:St)(H:Hp)(v:V)(u:Value)(Q:St->Hp->Prop), Inv X z0 σ H s->RelV v u->t v σ H Q ->
    wpAny (model X.prog X.w) X.A (assign target X.env u) (λ_ s'=>∃σ' H',Inv X z0 σ' H' s'/\Q σ' H') X.xe s
def PGs(X:Cx)(ts:List Expr)(t:TGs):Prop :=
  ∀(z0:List (Addr×Obj))(s:Shared)(σ:St)(H:Hp)(vs:List V)(us:List Value)(Q:St->Hp->Prop), Inv X z0 σ H s->Vals vs us->t vs σ H Q ->
    wpAny (model X.prog X.w) X.A (assignInOrder ((assignEach ts X.env).map (·.2)) us) (λ_ s'=>∃σ' H',Inv X z0 σ' H' s'/\Q σ' H') X.xe s
section
variable{X:Cx}{pos:Pos}
def Lh(i:Nat):TG:=λv σ H Q=>Q (σ.set i (some v)) H
theorem J4(hN:X.N.Nodup)(hi:X.N[i]?=some x)(hx:Loc X.env.scope x)(hf:X.fn x=true\/X.env.scope.names.lookup x=some .local:=by first|exact .inl rfl|exact .inr rfl|assumption):PG X (.Name x pos) (Lh i):=by
 exact λz0 s σ H v u Q I r h=>wpAny_assign_Name (jP I hN hi hx r (λs' I'=>⟨_,H,I',h⟩) hf)
def Xy:TGs:=λvs σ H Q=>vs=[]/\Q σ H
def Vr(t:TG)(u:TGs):TGs:=λvs σ H Q=>∃v r,vs=v::r/\t v σ H λσ' H'=>u r σ' H' Q
theorem J3:PGs X [] Xy:=by
 intro z0 s σ H vs us Q I r h;obtain⟨e,h⟩:=h;subst e;cases r;exact assignInOrder_nil ⟨σ,H,I,h⟩
theorem Ei(h1:PG X e t)(h2:PGs X es u)
  (hs:(assignEach (e::es) X.env).map (·.2)=assign e X.env::(assignEach es X.env).map (·.2):=by rfl):PGs X (e::es) (Vr t u):=by
 intro z0 s σ H vs us Q I r h;obtain⟨v,vr,e1,h⟩:=h;subst e1
 cases r with
 |cons r rr =>
  rw[hs];exact assignInOrder_cons (thn (h1 z0 s σ H _ _ _ I r h) λ_ s1 ⟨σ1,H1,I1,q1⟩=>(h2 z0 s1 σ1 H1 _ _ Q I1 rr q1))
def gTup(K:Zf)(n:Nat)(t:TGs):TG:=λv σ H Q=>∃a xs,v=.ref a/\SqT K H a xs/\xs.length=n/\t xs σ H Q
theorem Hy(hc:X.calm=true)(h:PGs X es t)
  (hn:(assignEach es X.env).length=n:=by rfl) (hst:(assignEach es X.env).findIdx? (·.1)=none:=by rfl):PG X (.Tuple es k pos) (gTup X.K n t):=by
 intro z0 s σ H v u Q I r hw;obtain⟨a,xs,e1,hq,hl,hw⟩:=hw;subst e1;cases r;obtain⟨its,rv,ht,hz⟩:=I.tuple hq;refine assign_Tuple_tuple (I.ok.hd hc) ht (by simp[hn,<- hl,rv.length]) hst λh' hx=>?_;have I1:=I.kept (t':=s.toks) λb o e=>hx b o (A6z (Z5z e)) e;exact h z0 _ σ H xs _ Q I1 (by simpa using rv) hw
def Ua(te:TE)(g:TG):TS:=λD σ H=>te σ H λx H1=>g x σ H1 D.nx
theorem Qd(he:PE X e te)(hg:PG X tg g)(hs:swapsWithSole [tg] e pos.line X.env=pure false:=by rfl)(hw:swappedStores [tg] e X.env=pure none:=by rfl)
  (h1:(assignEach [tg] X.env).map (·.2)=[assign tg X.env]:=by rfl):PS X (.Assign [tg] e pos) (Ua te g):=by
 intro z0 s σ H D I h;refine wpAny_Assign_stores (thn (he z0 s σ H _ I h) λv s1 ⟨x,H1,I1,r1,q1⟩=>?_) hs hw;rw[h1];exact thn (hg z0 s1 σ H1 x v _ I1 r1 q1) λ_ s2 q=>q
theorem fK(hN:X.N.Nodup)(hi:X.N[i]?=some x)(hx:Loc X.env.scope x)(he:PE X e te)(hs:swapsWith e (some (.Name x pos')) pos.line X.env=pure false:=by rfl)(hf:X.fn x=true\/X.env.scope.names.lookup x=some .local:=by first|exact .inl rfl|exact .inr rfl|assumption) :
  PS X (.Assign [.Name x pos'] e pos) (Ua te (Lh i)):=by
 intro z0 s σ H D I h;exact wpAny_Assign_Name (thn (he z0 s σ H _ I h) λv s1 ⟨y,H1,I1,r1,q1⟩=>(jP I1 hN hi hx r1 (λs2 I2=>⟨_,H1,I2,q1⟩) hf)) hs
def WR(i j:Nat)(ta:TA):TS:=λD σ H=>ta σ H λvs H1=>∃v w,vs=[v,w]/\D.nx ((σ.set i (some v)).set j (some w)) H1
theorem Qa{kt k2 pt2}(hc:X.calm=true)(hN:X.N.Nodup)(hi:X.N[i]?=some x)(hj:X.N[j]?=some y)(hij:i≠j)
  (hx:X.env.scope.names.lookup x=some .local) (hy:X.env.scope.names.lookup y=some .local) (ha:PA X [a,b] ta)
  (hw:swappedStores [.Tuple [.Name x px,.Name y py] kt pt] (.Tuple [a,b] k2 pt2) X.env=pure (some [x,y]))
  (hs:swapsWithSole [.Tuple [.Name x px,.Name y py] kt pt] (.Tuple [a,b] k2 pt2) pos.line X.env=pure false:=by rfl) :
  PS X (.Assign [.Tuple [.Name x px,.Name y py] kt pt] (.Tuple [a,b] k2 pt2) pos) (WR i j ta):=by
 intro z0 s σ H D I h;refine R6z (wpAny_standAt ?_);refine R6z (S6z ?_);refine R6z (Tuple_ (thn (ha _ z0 s σ H _ I h) λus s1 ⟨vs,H1,I1,r1,q1⟩=>?_));obtain⟨v,w,e1,q1⟩:=q1;subst e1
 obtain⟨u1,u2,rfl,rv,rw'⟩:∃u1 u2,us=[u1,u2]/\RelV v u1/\RelV w u2:=by
  cases r1 with
  |cons p q =>
   cases q with
   |cons p' q' =>
    cases q';exact⟨_,_,rfl,p,p'⟩
 refine M2z ?_ (by show 2<=sizeLine;decide)
 have I2:Inv X z0 σ H1 {s1 with heap:=s1.heap.push {cls:=.type "tuple",data:=.seq [u1,u2].toArray} }:=I1.kept λb o e=>Heap.get?_push_of_some _ e;rw[hw];refine R6z (S6z ?_);refine R6z (T6z (R6z (unpackItems_tuple (items := #[u1,u2]) (I.ok.hd hc) (Z6z s1.heap _) λh' hx'=>?_)));have I3:=I2.kept (t':=s1.toks) λb o e=>hx' b o (A6z (Z5z e)) e;refine R6z (assignInOrder_cons (wpAny_bindName (jP I3 hN hj (.inl hy) rw' (λs2 I4=>?_) (.inr hy))));refine assignInOrder_cons (wpAny_bindName (jP I4 hN hi (.inl hx) rv (λs3 I5=>assignInOrder_nil (S6z ?_)) (.inr hx)));rw[List.set_comm _ _ (E7z hij)] at I5;exact⟨_,H1,I5,q1⟩
end
section
variable{X:Cx}{pos:Pos}
def Ou(c:TT)(tb:TS):TS:=λD σ H=>∃W:Nat->St->Hp->Prop,(∃m,W m σ H)/\∀m σ H,W m σ H ->
 c σ H λb H1=>if b=true then ∃N:St->Hp->Prop,(∀σ' H',N σ' H'->∃m',m'<m/\W m' σ' H')/\tb {D with nx:=N,ct:=N,bk:=D.nx} σ H1 else D.nx σ H1
theorem Ed{c:Expr}{body:List Stmt}{tc:TT}{tb:TS}(hp:PassesOwn (model X.prog X.w) X.A X.env X.xe)(hc:PT X c tc)(hb:PSs X body tb):PS X (.While c body [] pos) (Ou tc tb):=by
 intro z0 s σ H D I h;obtain⟨W,⟨m0,w0⟩,turn⟩:=h;refine wpAny_While (codeAny_whileLoop (λn s'=>∃σ' H',Inv X z0 σ' H' s'/\W n σ' H') ?_ m0 ⟨σ,H,I,w0⟩);rintro n s1 ⟨σ1,H1,I1,w1⟩;refine E4z hp (thn (hc z0 s1 σ1 H1 _ I1 (turn n σ1 H1 w1)) λb s2 ⟨H2,I2,q2⟩=>?_)
 cases b with
 |true =>
  obtain⟨N,hN,q2⟩:=q2;rw[G7z rfl];refine E4z hp (thn (hb z0 s2 σ1 H2 _ I2 q2) λf s3 q3=>?_)
  cases f with
  |next =>
   obtain⟨σ3,H3,I3,n3⟩:=q3;obtain⟨m',hm,w3⟩:=hN σ3 H3 n3;exact⟨m',hm,σ3,H3,I3,w3⟩
  |cont =>
   obtain⟨σ3,H3,I3,n3⟩:=q3;obtain⟨m',hm,w3⟩:=hN σ3 H3 n3;exact⟨m',hm,σ3,H3,I3,w3⟩
  |brk=>exact q3
  |ret v=>exact q3
 |false =>
  rw[H7z X1z];exact D4z ⟨σ1,H2,I2,q2⟩
end
structure It where
 go:Nat->Hp->Prop
 yld:Nat->Hp->V->Hp->Prop
 stop:Nat->Hp->Prop
def yq(X:Cx)(z0:List (Addr×Obj))(H:Hp)(b:Addr):Prop :=
 H b=none/\b≠X.env.locals/\b∉X.fs/\(b∈X.ex\/X.s₀.heap.objs.size<=b)/\(∀x c,X.env.cells.lookup x=some c->c≠b)/\∀p∈X.pn++z0,p.1≠b
theorem Inv.fpOk(I:Inv X z0 σ H s)(hb:s.heap.objs.size<=b)(hn:H' b=none):yq X z0 H' b:=by
 refine⟨hn,D6z (V1z I.lt hb),I.nofs hb,.inr (B6z I.sz hb),λx c e z=>?_,λp hp z=>?_⟩
 .obtain⟨v,q⟩:=I.cell x c e
  exact absurd (V1z q.lt (by rw[z];exact hb)) (M5z _)
 .exact absurd (V1z (Z5z (I.pin p hp).1) (by rw[z];exact hb)) (M5z _)
structure Turn(P:Program)(w:World)(K:Zf)(tg:Expr)(J:It)(fp:List Addr)(it:Addr)(tn:Nat->Heap->Prop):Prop where
 mem:it∈fp
 obj:∀i h,tn i h->∀b∈fp,∃o,h.get? b=some o/\∀v,o.data≠.cell v
 keep:∀i h h',tn i h->(∀b∈fp,∀o,h.get? b=some o->h'.get? b=some o)->tn i h'
 item:∀(X:Cx),X.prog=P->X.w=w->X.K=K->X.calm=true->∀(i:Nat)(z0:List (Addr×Obj))(s:Shared)(σ:St)(H:Hp)(E:Value->Shared->Prop),Inv X z0 σ H s->(∀b∈fp,yq X z0 H b)->tn i s.heap->J.go i H ->
  wpAny (model P w) X.A (pyNext (.ref it)) (λr s1=>∃u,r=some u /\
   wpAny (model P w) X.A (letOwnedTupleGo tg (.ref it) u) (λ_ s2=>∃x H',Inv X z0 σ H' s2/\RelV x u/\J.yld i H x H'/\tn (i+1) s2.heap/\∀b∈fp,H' b=none) E s1) E s
 done:∀(X:Cx),X.prog=P->X.w=w->X.K=K->X.calm=true->∀(i:Nat)(z0:List (Addr×Obj))(s:Shared)(σ:St)(H:Hp)(E:Value->Shared->Prop),Inv X z0 σ H s->(∀b∈fp,yq X z0 H b)->tn i s.heap->J.stop i H ->
  wpAny (model P w) X.A (pyNext (.ref it)) (λr s1=>r=none/\Inv X z0 σ H s1) E s
 self:∀(A:Around)(i:Nat)(s:Shared)(Q:Value->Shared->Prop)(E:Value->Shared->Prop),tn i s.heap->Q (.ref it) s->wpAny (model P w) A (pyIter (.ref it)) Q E s
abbrev TI:=St->Hp->(It->Hp->Prop)->Prop
def PIE(X:Cx)(z0:List (Addr×Obj))(σ:St)(tg:Expr)(R:It->Hp->Prop)(itv:Value)(s2:Shared):Prop :=
 ∃(it:Addr)(fp:List Addr)(tn:Nat->Heap->Prop)(J:It)(H':Hp),itv=.ref it/\Inv X z0 σ H' s2/\Turn X.prog X.w X.K tg J fp it tn/\tn 0 s2.heap/\(∀b∈fp,yq X z0 H' b)/\R J H'
def PI(X:Cx)(tg iter:Expr)(wi:TI):Prop :=
  ∀(z0:List (Addr×Obj))(s:Shared)(σ:St)(H:Hp)(R:It->Hp->Prop), Inv X z0 σ H s->wi σ H R ->
    wpAny (model X.prog X.w) X.A (eval iter X.env) (λv s1=>wpAny (model X.prog X.w) X.A (pyIter v) (PIE X z0 σ tg R) X.xe s1) X.xe s
theorem Bo(ho:s.heap.get? it=some o)(hc:o.cls=.type n)(hd:o.data=.fields vs)
    (hn:["enumerate","zip","dict_itemiterator","dict_reverseitemiterator","odict_iterator","itertools.zip_longest","itertools.pairwise"].contains n=false) (hQ:Q () s):wpAny M A (letOwnedTupleGo tg (.ref it) u) Q E s:=by
  cases tg<;>first
    |exact S6z hQ
    | (cases u<;>first
        |exact S6z hQ
        | (refine R6z (wpAny_load ho ?_)
           rw[hc,hd]
           show wpAny M A (if(["enumerate","zip","dict_itemiterator","dict_reverseitemiterator","odict_iterator","itertools.zip_longest","itertools.pairwise"].contains n&&vs[0]?==some (rawInt _))=true then _ else _) Q E s
           rw[H7z (by intro h;rw[hn,Y4z] at h;cases h)]
           exact S6z hQ))
def Itl(K:Zf)(a:Addr):It :=
 ⟨λi H=>∃xs x,SqL K H a xs/\xs[i]?=some x,λi H x H'=>H'=H/\∀xs,SqL K H a xs->xs[i]?=some x,λi H=>∃xs,SqL K H a xs/\xs.length<=i⟩
def Itt(K:Zf)(a:Addr):It :=
 ⟨λi H=>∃xs x,SqT K H a xs/\xs[i]?=some x,λi H x H'=>H'=H/\∀xs,SqT K H a xs->xs[i]?=some x,λi H=>∃xs,SqT K H a xs/\xs.length<=i⟩
def Itr(lo:Int)(n:Nat):It:=⟨λi _=>i<n,λi H x H'=>H'=H/\x=.int (lo+i),λi _=>n<=i⟩
theorem yH{P:Program}{w:World}{K:Zf}{tg:Expr}(a it:Addr):Turn P w K tg (Itl K a) [it] it (λi h=>h.IsListIter it a i) where
 mem:=by simp
 obj:=λi h st b hb=>by
  have e:b=it:=by simpa using hb
  subst e;obtain⟨o,e,c,d⟩:=st;exact⟨o,e,λv z=>by rw[d] at z;cases z⟩
 keep:=λi h h' st k=>st.at λo e=>k it (by simp) o e
 item:=by
  intro X hP hw hK hc i z0 s σ H E I hf st hg;subst hP hw hK;obtain⟨xs,x,hq,hx⟩:=hg;obtain⟨its,rv,p,hz⟩:=I.list hq;obtain⟨u,hu,ru⟩:=rv.get hx;obtain⟨f0,f1,f2,f3,f4,f5⟩:=hf it (by simp);refine wpAny_pyNext_list_item st p.isList (x:=u) (by simpa using hu) λh' st' sb=>?_;have I1:Inv X z0 σ H {s with heap:=h'}:=I.turned (t':=s.toks) (λb o hb e=>(sb.2 b hb).trans e) f0 f1 f3 f4 f5;obtain⟨o,e,c,d⟩:=id st';exact⟨u,rfl,Bo (s:={s with heap:=h'}) e c d (by decide) ⟨x,H,I1,ru,⟨rfl,λys hy=>by rw[I.list_inj hy hq];exact hx⟩,st',λb hb=>(hf b hb).1⟩⟩
 done:=by
  intro X hP hw hK hc i z0 s σ H E I hf st hg;subst hP hw hK;obtain⟨xs,hq,hx⟩:=hg;obtain⟨its,rv,p,hz⟩:=I.list hq;obtain⟨f0,f1,f2,f3,f4,f5⟩:=hf it (by simp);have hl:=rv.length;exact wpAny_pyNext_list_end (I.ok.hd hc) st p.isList (by simp;omega) λh' eb=>⟨rfl,I.turned (t':=s.toks) (λb o hb e=>eb b o hb e) f0 f1 f3 f4 f5⟩
 self:=λ_ _ _ _ _ st h=>wpAny_pyIter_listiter st h
theorem wG{P:Program}{w:World}{K:Zf}{tg:Expr}(a it:Addr):Turn P w K tg (Itt K a) [it] it (λi h=>h.IsTupleIter it a i) where
 mem:=by simp
 obj:=λi h st b hb=>by
  have e:b=it:=by simpa using hb
  subst e;obtain⟨o,e,c,d⟩:=st;exact⟨o,e,λv z=>by rw[d] at z;cases z⟩
 keep:=λi h h' st k=>st.at λo e=>k it (by simp) o e
 item:=by
  intro X hP hw hK hc i z0 s σ H E I hf st hg;subst hP hw hK;obtain⟨xs,x,hq,hx⟩:=hg;obtain⟨its,rv,p,hz⟩:=I.tuple hq;obtain⟨u,hu,ru⟩:=rv.get hx;obtain⟨f0,f1,f2,f3,f4,f5⟩:=hf it (by simp);refine wpAny_pyNext_tuple_item st (show s.heap.IsTuple a its.toArray from p) (x:=u) (by simpa using hu) λh' st' sb=>?_;have I1:Inv X z0 σ H {s with heap:=h'}:=I.turned (t':=s.toks) (λb o hb e=>(sb.2 b hb).trans e) f0 f1 f3 f4 f5;obtain⟨o,e,c,d⟩:=id st';exact⟨u,rfl,Bo (s:={s with heap:=h'}) e c d (by decide) ⟨x,H,I1,ru,⟨rfl,λys hy=>by rw[I.tuple_inj hy hq];exact hx⟩,st',λb hb=>(hf b hb).1⟩⟩
 done:=by
  intro X hP hw hK hc i z0 s σ H E I hf st hg;subst hP hw hK;obtain⟨xs,hq,hx⟩:=hg;obtain⟨its,rv,p,hz⟩:=I.tuple hq;obtain⟨f0,f1,f2,f3,f4,f5⟩:=hf it (by simp);have hl:=rv.length;exact wpAny_pyNext_tuple_end (I.ok.hd hc) st (show s.heap.IsTuple a its.toArray from p) (by simp;omega) λh' eb=>⟨rfl,I.turned (t':=s.toks) (λb o hb e=>eb b o hb e) f0 f1 f3 f4 f5⟩
 self:=λ_ _ _ _ _ st h=>wpAny_pyIter_tupleiter st h
theorem wH{P:Program}{w:World}{K:Zf}{tg:Expr}(it:Addr)(lo:Int)(n:Nat):Turn P w K tg (Itr lo n) [it] it (λi h=>IsRangeIter h it (lo+(i:Nat)*1) ((n:Int)-(i:Nat)) 1) where
 mem:=by simp
 obj:=λi h st b hb=>by
  have e:b=it:=by simpa using hb
  subst e
  exact⟨_,st,λv z=>by
   have z':Data.fields _=Data.cell v:=z
   cases z'⟩
 keep:=λi h h' st k=>k it (by simp) _ st
 item:=by
  intro X hP hw hK hc i z0 s σ H E I hf st hg;subst hP hw hK;obtain⟨f0,f1,f2,f3,f4,f5⟩:=hf it (by simp);have W:=Walks.range (prog:=X.prog) (w:=X.w) (I.ok.hd hc) it lo 1 n;refine W.item i s _ _ hg st λv h' tk hv st' kk=>?_;obtain⟨t,rfl⟩:=hv;have I1:Inv X z0 σ H {s with heap:=h',toks:=tk}:=I.turned (λb o hb e=>kk b o (by simpa using hb) e) f0 f1 f3 f4 f5;refine⟨_,rfl,Bo (s:={s with heap:=h',toks:=tk}) (n:="range_iterator") st' rfl rfl (by decide) ⟨.int (lo+i),H,I1,⟨t,?_⟩,⟨rfl,rfl⟩,st',λb hb=>(hf b hb).1⟩⟩;rw[Int.mul_one]
 done:=by
  intro X hP hw hK hc i z0 s σ H E I hf st hg;subst hP hw hK;obtain⟨f0,f1,f2,f3,f4,f5⟩:=hf it (by simp);exact wpAny_pyNext_range_end (I.ok.hd hc) st (by have:n<=i:=hg;omega) λh' eb=>⟨rfl,I.turned (t':=s.toks) (λb o hb e=>eb b o hb e) f0 f1 f3 f4 f5⟩
 self:=λ_ _ _ _ _ st h=>wpAny_pyIter_rangeiter st h
section
variable{X:Cx}{tg:Expr}
def Vl(K:Zf)(tl:TE):TI:=λσ H R=>tl σ H λx H1=>∃a,x=.ref a/\(∃xs,SqL K H1 a xs)/\R (Itl K a) H1
def Xu(K:Zf)(tl:TE):TI:=λσ H R=>tl σ H λx H1=>∃a,x=.ref a/\(∃xs,SqT K H1 a xs)/\R (Itt K a) H1
theorem nQ(hl:PE X l tl):PI X tg l (Vl X.K tl):=by
 intro z0 s σ H R I h;refine thn (hl z0 s σ H _ I h) λv s1 ⟨x,H1,I1,r1,q1⟩=>?_;obtain⟨a,e,⟨xs,hq⟩,q⟩:=q1;subst e;cases r1;obtain⟨its,rv,p,hz⟩:=I1.list hq;refine N2z p.isList ?_;refine⟨s1.heap.objs.size,[s1.heap.objs.size],_,_,H1,rfl,I1.kept λb o e=>Heap.get?_push_of_some _ e,yH a _,⟨_,Heap.get?_push_size _ rfl,rfl,rfl⟩,λb hb=>?_,q⟩
 have e:b=s1.heap.objs.size:=by simpa using hb
 subst e;exact I1.fpOk (I6z _) (I1.hok.fresh (I6z _))
theorem Qh(hl:PE X l tl):PI X tg l (Xu X.K tl):=by
 intro z0 s σ H R I h;refine thn (hl z0 s σ H _ I h) λv s1 ⟨x,H1,I1,r1,q1⟩=>?_;obtain⟨a,e,⟨xs,hq⟩,q⟩:=q1;subst e;cases r1;obtain⟨its,rv,p,hz⟩:=I1.tuple hq;refine Y1z p ?_;refine⟨s1.heap.objs.size,[s1.heap.objs.size],_,_,H1,rfl,I1.kept λb o e=>Heap.get?_push_of_some _ e,wG a _,⟨_,Heap.get?_push_size _ rfl,rfl,rfl⟩,λb hb=>?_,q⟩
 have e:b=s1.heap.objs.size:=by simpa using hb
 subst e;exact I1.fpOk (I6z _) (I1.hok.fresh (I6z _))
theorem uM{lo hi:Int}(I:Inv X z0 σ H s)(h1:-(2^62)<=lo)(h2:lo<2^62)(h3:-(2^62)<=hi)(h4:hi<2^62)
  (q:R (Itr lo (hi-lo).toNat) H):wpAny (model X.prog X.w) X.A (pyIter (.ref s.heap.objs.size)) (PIE X z0 σ tg R) E {s with heap:=s.heap.push {cls:=.type "range",data:=.fields #[.int lo t,.int hi u,.int 1 v]},toks:=tk}:=by
 refine wpAny_pyIter_range (IsRange.new ..) (small_one h1 h2 h3 h4) ?_;have I1:Inv X z0 σ H {s with heap:=s.heap.push {cls:=.type "range",data:=.fields #[.int lo t,.int hi u,.int 1 v]},toks:=tk}:=I.kept λb o e=>Heap.get?_push_of_some _ e
 refine⟨(s.heap.push {cls:=.type "range",data:=.fields #[.int lo t,.int hi u,.int 1 v]}).objs.size,[(s.heap.push {cls:=.type "range",data:=.fields #[.int lo t,.int hi u,.int 1 v]}).objs.size],_,_,H,rfl,
  I1.kept λb o e=>Heap.get?_push_of_some _ e,wH _ lo (hi-lo).toNat,?_,λb hb=>?_,q⟩
 .have e1:lo+((0:Nat):Int)*1=lo:=by simp
  have e2:(((hi-lo).toNat:Nat):Int)-((0:Nat):Int)=Builtin.Range.rangeSize lo hi 1:=by rw[rangeSize_one];split<;>omega
  rw[e1,e2];exact Heap.get?_push_size _ rfl
 .have e:b=(s.heap.push {cls:=.type "range",data:=.fields #[.int lo t,.int hi u,.int 1 v]}).objs.size:=by simpa using hb
  subst e;exact I1.fpOk (I6z _) (I1.hok.fresh (I6z _))
def Vk(ta:TA):TI:=λσ H R=>ta σ H λvs H1=>∃j:Int,vs=[.int j] /\ -(2^62)<=j/\j<2^62/\R (Itr 0 j.toNat) H1
def Vj(ta:TA):TI:=λσ H R=>ta σ H λvs H1=>∃i j:Int,vs=[.int i,.int j]/\(-(2^62)<=i/\i<2^62 /\ -(2^62)<=j/\j<2^62)/\R (Itr i (j-i).toNat) H1
theorem z6(hg:Gl X "range")(hm:X.mg "range"=none)(ha:PA X [a] ta)(hs:starEach [a] X.env=[(false,eval a X.env)]:=by rfl):PI X tg (.Call (.Name "range" p) [a] [] pos) (Vk ta):=by
 intro z0 s σ H R I h;refine Call_ (eG I hg hm boot_range (A0z (thn (ha pos z0 s σ H _ I h) λus s1 ⟨vs,H1,I1,r1,q1⟩=>?_) hs rfl));obtain⟨j,e,q1,q2,q⟩:=q1;subst e
 cases r1 with
 |cons r rr =>
  cases rr;obtain⟨t,rfl⟩:=r;exact call_range_1 (uM I1 (by omega) (by omega) q1 q2 (by simpa using q))
theorem zZ{a b:Expr}{ta:TA}{p pos:Pos}(hg:Gl X "range")(hm:X.mg "range"=none)(ha:PA X [a,b] ta)(hs:starEach [a,b] X.env=[(false,eval a X.env),(false,eval b X.env)]:=by rfl)(hs2:starEach [b] X.env=[(false,eval b X.env)]:=by rfl) :
  PI X tg (.Call (.Name "range" p) [a,b] [] pos) (Vj ta):=by
 intro z0 s σ H R I h;refine Call_ (eG I hg hm boot_range (A0z (thn (ha pos z0 s σ H _ I h) λus s1 ⟨vs,H1,I1,r1,q1⟩=>?_) (by rw[hs,hs2]) (by rw[hs2];rfl)));obtain⟨i,j,e,⟨q1,q2,q3,q4⟩,q⟩:=q1;subst e
 cases r1 with
 |cons r rr =>
  cases rr with
  |cons r' rr =>
   cases rr;obtain⟨t,rfl⟩:=r;obtain⟨t',rfl⟩:=r';exact call_range_2 (uM I1 q1 q2 q3 q4 q)
def W4(wi:TI)(g:TG)(tb:TS):TS:=λD σ H=>wi σ H λJ H1=>∃W:Nat->Nat->St->Hp->Prop,(∃m,W 0 m σ H1)/\∀i m σ H,W i m σ H ->
 (J.stop i H/\D.nx σ H)\/(J.go i H/\∃N:St->Hp->Prop,(∀σ' H',N σ' H'->∃m',m'<m/\W (i+1) m' σ' H')/\∀x H',J.yld i H x H'->g x σ H' λσ2 H2=>tb {D with nx:=N,ct:=N,bk:=D.nx} σ2 H2)
def pR(fp:List Addr)(h:Heap):List (Addr×Obj):=fp.filterMap λb=>(h.get? b).map λo=>(b,o)
theorem gJ(hb:b∈fp)(e:h.get? b=some o):(b,o)∈pR fp h:=List.mem_filterMap.mpr ⟨b,hb,by rw[e];rfl⟩
theorem Af(hp:p∈pR fp h):p.1∈fp/\h.get? p.1=some p.2:=by
 obtain⟨b,hb,e⟩:=List.mem_filterMap.mp hp
 cases q:h.get? b with
 |none=>rw[q] at e;cases e
 |some o =>
  rw[q] at e;have e':=C4z e;subst e';exact⟨hb,q⟩
theorem Inv.pinned(I:Inv X z0 σ H s)(hf:∀b∈fp,yq X z0 H b)(ho:∀b∈fp,∃o,s.heap.get? b=some o/\∀v,o.data≠.cell v):Inv X (z0++pR fp s.heap) σ H s :=
 I.pins_of λp hp=>(List.mem_append.mp hp).elim (λz=>I.pin p (W0z _ z)) λz=>by
  obtain⟨hb,e⟩:=Af z;obtain⟨f0,f1,f2,_⟩:=hf p.1 hb;obtain⟨o,e',d⟩:=ho p.1 hb;rw[e] at e';cases e';exact⟨e,f0,f1,f2,d⟩
theorem Inv.unpinned(I:Inv X (z0++pl) σ H s):Inv X z0 σ H s:=I.pins_of λp hp=>I.pin p (W0z _ (F1z _ hp))
theorem Qc(hp:PassesOwn (model X.prog X.w) X.A X.env X.xe)(hc:X.calm=true)(hi:PI X tg iter wi)(hg:PG X tg g)(hb:PSs X body tb)
  (hs:∀x,foldedSetIterable iter X.env x=pure x:=by intro _;rfl):PS X (.For tg iter body [] pos) (W4 wi g tb):=by
 intro z0 s σ H D I h;refine wpAny_For (thn (hi z0 s σ H _ I h) λv s1 h1=>thn h1 λitv s2 h2=>?_) hs;obtain⟨it,fp,tn,J,H2,e,I2,T,st2,f2,W,⟨m0,w0⟩,turn⟩:=h2;subst e;have stat:∀{H':Hp},(∀b∈fp,H' b=none)->∀b∈fp,yq X z0 H' b:=λhn b hb=>⟨hn b hb,(f2 b hb).2⟩;refine codeAny_forLoop_any (λn s'=>∃i σ' H',Inv X z0 σ' H' s'/\tn i s'.heap/\(∀b∈fp,H' b=none)/\W i n σ' H') ?_ m0 ⟨0,σ,H2,I2,st2,λb hb=>(f2 b hb).1,w0⟩;rintro n s3 ⟨i,σ3,H3,I3,st3,fr3,w3⟩;obtain⟨stop,qn⟩|⟨go,N,hN,step⟩:=turn i n σ3 H3 w3
 .refine E4z hp (thn (T.done X rfl rfl rfl hc i z0 s3 σ3 H3 X.xe I3 (stat fr3) st3 stop) λr s4 ⟨hr,I4⟩=>?_)
  subst hr;exact D4z ⟨σ3,H3,I4,qn⟩
 .refine E4z hp (thn (T.item X rfl rfl rfl hc i z0 s3 σ3 H3 X.xe I3 (stat fr3) st3 go) λr s4 ⟨u,hr,h4⟩=>?_)
  subst hr;refine E4z hp (thn h4 λ_ s5 ⟨x,H5,I5,r5,y5,st5,fr5⟩=>?_);refine E4z hp (thn (hg _ s5 σ3 H5 x u _ (I5.pinned (stat fr5) (T.obj _ _ st5)) r5 (step x H5 y5)) λ_ s6 ⟨σ6,H6,I6,q6⟩=>?_);refine E4z hp (thn (hb _ s6 σ6 H6 _ I6 q6) λf s7 q7=>?_)
  have again:∀{σ7:St}{H7:Hp},Inv X (z0++pR fp s5.heap) σ7 H7 s7->N σ7 H7->∃m,m<n/\∃i σ' H',Inv X z0 σ' H' s7/\tn i s7.heap/\(∀b∈fp,H' b=none)/\W i m σ' H':=λ{σ7 H7} I7 n7=>by
   obtain⟨m',hm,w7⟩:=hN σ7 H7 n7;refine⟨m',hm,i+1,σ7,H7,I7.unpinned,T.keep _ _ _ st5 λb hb o e=>(I7.pin (b,o) (W0z _ (W0z _ (gJ hb e)))).1,λb hb=>?_,w7⟩;obtain⟨o,e,d⟩:=T.obj _ _ st5 b hb;exact(I7.pin (b,o) (W0z _ (W0z _ (gJ hb e)))).2.1
  cases f with
  |next=>obtain⟨σ7,H7,I7,n7⟩:=q7;exact again I7 n7
  |cont=>obtain⟨σ7,H7,I7,n7⟩:=q7;exact again I7 n7
  |brk=>obtain⟨σ7,H7,I7,q7⟩:=q7;exact⟨σ7,H7,I7.unpinned,q7⟩
  |ret v=>obtain⟨x7,σ7,H7,I7,r7,q7⟩:=q7;exact⟨x7,σ7,H7,I7.unpinned,r7,q7⟩
end
abbrev R2:=V->V->Hp->VK->Prop
def OpR(X:Cx)(f:Value->Value->Sem Value)(r:R2):Prop :=
  ∀(z0:List (Addr×Obj))(s:Shared)(σ:St)(H:Hp)(x y:V)(v u:Value)(Q:VK), Inv X z0 σ H s->RelV x v->RelV y u->r x y H Q ->
    wpAny (model X.prog X.w) X.A (f v u) (EP X z0 σ Q) X.xe s
def UnR(X:Cx)(f:Value->Sem Value)(r:V->Hp->VK->Prop):Prop :=
  ∀(z0:List (Addr×Obj))(s:Shared)(σ:St)(H:Hp)(x:V)(v:Value)(Q:VK), Inv X z0 σ H s->RelV x v->r x H Q ->
    wpAny (model X.prog X.w) X.A (f v) (EP X z0 σ Q) X.xe s
def dz(X:Cx)(f:Value)(r:List V->Hp->VK->Prop):Prop :=
  ∀(z0:List (Addr×Obj))(s:Shared)(σ:St)(H:Hp)(xs:List V)(us:List Value)(Q:VK), Inv X z0 σ H s->Vals xs us->r xs H Q ->
    wpAny (model X.prog X.w) X.A (call f us) (EP X z0 σ Q) X.xe s
def tOp(r:R2)(ta tb:TE):TE:=λσ H Q=>ta σ H λx H1=>tb σ H1 λy H2=>r x y H2 Q
def tUn(r:V->Hp->VK->Prop)(ta:TE):TE:=λσ H Q=>ta σ H λx H1=>r x H1 Q
def rI(C:Int->Int->Prop)(g:Int->Int->V):R2:=λx y H Q=>∃i j,x=.int i/\y=.int j/\C i j/\Q (g i j) H
def rI0(g:Int->Int->V):R2:=λx y H Q=>∃i j,x=.int i/\y=.int j/\Q (g i j) H
def rU(g:Int->V):V->Hp->VK->Prop:=λx H Q=>∃i,x=.int i/\Q (g i) H
section
variable{X:Cx}{a b c:Expr}{ta tb tc:TE}{pos:Pos}
theorem VB(ha:PE X a ta)(hb:PE X b tb){R:V->V->Hp->Prop}(I:Inv X z0 σ H s)
  (h:ta σ H λx H1=>tb σ H1 λy H2=>R x y H2)  {f:Value->Value->Sem Value}
  (hf:∀v u s2 x y H2,Inv X z0 σ H2 s2->RelV x v->RelV y u->R x y H2->wpAny (model X.prog X.w) X.A (f v u) Q X.xe s2) :
  wpAny (model X.prog X.w) X.A (eval a X.env) (λv s₁=>wpAny (model X.prog X.w) X.A (eval b X.env) (λu s₂=>wpAny (model X.prog X.w) X.A (f v u) Q X.xe s₂) X.xe s₁) X.xe s:=by
 refine thn (ha z0 s σ H _ I h) λv s1 ⟨x,H1,I1,r1,q1⟩=>?_;exact thn (hb z0 s1 σ H1 _ I1 q1) λu s2 ⟨y,H2,I2,r2,q2⟩=>hf v u s2 x y H2 I2 r1 r2 q2
theorem kh(ho:OpR X (binaryOp op) r)(ha:PE X a ta)(hb:PE X b tb):PE X (.BinOp a op b pos) (tOp r ta tb):=by
 exact λz0 s σ H Q I h=>wpAny_BinOp (VB ha hb I h λv u s2 x y H2 I2 rx ry q=>ho z0 s2 σ H2 x y v u Q I2 rx ry q)
theorem Ux(ho:UnR X (unaryOp op) r)(ha:PE X a ta):PE X (.UnaryOp op a pos) (tUn r ta):=by
 exact λz0 s σ H Q I h=>UnaryOp_ (thn (ha z0 s σ H _ I h) λv s1 ⟨x,H1,I1,r1,q1⟩=>ho z0 s1 σ H1 x v Q I1 r1 q1)
theorem opI{g:Int->Int->Int}
  (rule:∀(i j:Int)(t u:Tok)(s:Shared)(Q:Value->Shared->Prop)(E:Value->Shared->Prop),C i j->Q (.int (g i j) s.toks) {s with toks:=s.toks+1}->wpAny (model X.prog X.w) X.A (f (.int i t) (.int j u)) Q E s) :
  OpR X f (rI C λi j=>.int (g i j)):=by
 intro z0 s σ H x y v u Q I rx ry h;obtain⟨i,j,rfl,rfl,hc,q⟩:=h;obtain⟨t,rfl⟩:=rx;obtain⟨t',rfl⟩:=ry;exact rule i j t t' s _ _ hc ⟨.int (g i j),H,I.tok _,⟨_,rfl⟩,q⟩
theorem Wa{g:Int->Int->Int}
  (rule:∀(i j:Int)(t u:Tok)(s:Shared)(Q:Value->Shared->Prop)(E:Value->Shared->Prop),Q (.int (g i j) s.toks) {s with toks:=s.toks+1}->wpAny (model X.prog X.w) X.A (f (.int i t) (.int j u)) Q E s) :
  OpR X f (rI0 λi j=>.int (g i j)):=by
 intro z0 s σ H x y v u Q I rx ry h;obtain⟨i,j,rfl,rfl,q⟩:=h;obtain⟨t,rfl⟩:=rx;obtain⟨t',rfl⟩:=ry;exact rule i j t t' s _ _ ⟨.int (g i j),H,I.tok _,⟨_,rfl⟩,q⟩
theorem Sw{g:Int->Int->Bool}
  (rule:∀(i j:Int)(t u:Tok)(s:Shared)(Q:Value->Shared->Prop)(E:Value->Shared->Prop),Q (.bool (g i j)) s->wpAny (model X.prog X.w) X.A (f (.int i t) (.int j u)) Q E s) :
  OpR X f (rI0 λi j=>.bl (g i j)):=by
 intro z0 s σ H x y v u Q I rx ry h;obtain⟨i,j,rfl,rfl,q⟩:=h;obtain⟨t,rfl⟩:=rx;obtain⟨t',rfl⟩:=ry;exact rule i j t t' s _ _ ⟨.bl (g i j),H,I,rfl,q⟩
def X8(i j:Int):Prop:=0<j/\j<1073741824
def X7(i j:Int):Prop:=0<=j/\j<=1000000/\i.natAbs<2^64
def VP(i j:Int):Prop:=(-(2^64)<i/\i<2^64)\/(-(2^64)<j/\j<2^64)
theorem VP.ok(h:VP i j):IntMulOk i j:=by
 obtain⟨h1,h2⟩|⟨h1,h2⟩:=h
 .exact .of_left (intBits_le_64 h1 h2)
 .exact .of_right (intBits_le_64 h1 h2)
theorem Qw:OpR X (binaryOp .Add) (rI0 λi j=>.int (i+j)):=Wa λ_ _ _ _ _ _ _ q=>add_int q
theorem Qs:OpR X (binaryOp .Sub) (rI0 λi j=>.int (i-j)):=Wa λ_ _ _ _ _ _ _ q=>sub_int q
theorem Kf:OpR X (binaryOp .FloorDiv) (rI X8 λi j=>.int (i / j)):=opI λi j _ _ _ _ _ hc q=>by
 have h1:=hc.1;have h2:=hc.2;exact floordiv_int (by omega) (by rw[Int.fdiv_eq_ediv_of_nonneg i (by omega)];exact q) (.inl (PyProof.noPylong_small (by omega)))
theorem Qu:OpR X (binaryOp .Mod) (rI (λ_ j=>0<j) λi j=>.int (i%j)):=opI λi j _ _ _ _ _ hc q=>by
 exact mod_int' (by omega) (by rw[Int.fmod_eq_emod_of_nonneg i (by omega)];exact q)
theorem Qt:OpR X (binaryOp .Pow) (rI X7 λi j=>.int (i^j.toNat)):=opI λ_ _ _ _ _ _ _ hc q=>pow_int_small hc.1 hc.2.1 hc.2.2 q
theorem unI{g:Int->Int}
  (rule:∀(i:Int)(t:Tok)(s:Shared)(Q:Value->Shared->Prop)(E:Value->Shared->Prop),Q (.int (g i) s.toks) {s with toks:=s.toks+1}->wpAny (model X.prog X.w) X.A (f (.int i t)) Q E s) :
  UnR X f (rU λi=>.int (g i)):=by
 intro z0 s σ H x v Q I rx h;obtain⟨i,rfl,q⟩:=h;obtain⟨t,rfl⟩:=rx;exact rule i t s _ _ ⟨.int (g i),H,I.tok _,⟨_,rfl⟩,q⟩
theorem Ot:UnR X (unaryOp .USub) (rU λi=>.int (-i)):=unI λ_ _ _ _ _ q=>neg_int q
end
section
variable{X:Cx}{a b c:Expr}{ta tb tc:TE}{pos:Pos}
theorem Rg(I:Inv X z0 σ H s)(q:Q (.bl k) H)(e:k=k'):EP X z0 σ Q (.bool k') s:=by
 subst e;exact⟨.bl k,H,I,rfl,q⟩
theorem Uz:OpR X (compareOp .Lt) (rI0 λi j=>.bl (decide (i<j))):=Sw λ_ _ _ _ _ _ _ q=>lt_int q
theorem UG:OpR X (compareOp .LtE) (rI0 λi j=>.bl (decide (i<=j))):=Sw λ_ _ _ _ _ _ _ q=>le_int q
theorem UJ:OpR X (compareOp .Gt) (rI0 λi j=>.bl (decide (j<i))):=Sw λ_ _ _ _ _ _ _ q=>gt_int q
theorem UL:OpR X (compareOp .GtE) (rI0 λi j=>.bl (decide (j<=i))):=Sw λ_ _ _ _ _ _ _ q=>ge_int q
theorem Ab:OpR X (compareOp .In) (λx y H Q=>∃i j,x=.str i/\y=.str j/\Q (.bl (!(Builtin.Str.occurrences j i 0 j.length 1).isEmpty)) H):=by
 intro z0 s σ H x y v u Q I rx ry h;obtain⟨i,j,rfl,rfl,q⟩:=h;obtain⟨t,rfl⟩:=rx;obtain⟨t',rfl⟩:=ry;exact in_str (Rg I q rfl)
theorem sG(ho:OpR X (compareOp op) r)(ha:PE X a ta)(hb:PE X b tb)(hm:behindInMarks op b=false):PE X (.Compare a [op] [b] pos) (tOp r ta tb):=by
 exact λz0 s σ H Q I h=>wpAny_Compare1 (VB ha hb I h λv u s2 x y H2 I2 rx ry q=>ho z0 s2 σ H2 x y v u Q I2 rx ry q) hm
def Ov(t:TE):TT:=λσ H Q=>t σ H λx H'=>∃k,x=.bl k/\Q k H'
theorem zV(ho:OpR X (compareOp op) r)(ha:PE X a ta)(hb:PE X b tb)(hm:behindInMarks op b=false):PT X (.Compare a [op] [b] pos) (Ov (tOp r ta tb)):=by
 intro z0 s σ H Q I h
 refine wpAny_isTrue_Compare1 (thn (ha z0 s σ H _ I h) λv s1 ⟨x,H1,I1,r1,q1⟩=>thn (hb z0 s1 σ H1 _ I1 q1) λu s2 ⟨y,H2,I2,r2,q2⟩ =>
  thn (ho z0 s2 σ H2 x y v u _ I2 r1 r2 q2) λc s3 ⟨z,H3,I3,r3,k,e,q3⟩=>?_) hm
 subst e;cases r3;exact L2z ⟨H3,I3,q3⟩
def yP(r r':R2)(ta tb tc:TE):TE:=λσ H Q=>ta σ H λx H1=>tb σ H1 λy H2=>r x y H2 λz H3=>∃k,z=.bl k /\
 (if k=true then tc σ H3 λw' H4=>r' y w' H4 Q else Q (.bl false) H3)
theorem Er(ho:OpR X (compareOp op) r)(ho':OpR X (compareOp op') r')(ha:PE X a ta)(hb:PE X b tb)(hc:PE X c tc)
  (hm:lastMarks [op,op'] [b,c]=false:=by with_unfolding_all rfl):PE X (.Compare a [op,op'] [b,c] pos) (yP r r' ta tb tc):=by
 intro z0 s σ H Q I h
 refine Compare_chain (thn (ha z0 s σ H _ I h) λv s1 ⟨x,H1,I1,r1,q1⟩=>chain_link (thn (hb z0 s1 σ H1 _ I1 q1) λu s2 ⟨y,H2,I2,r2,q2⟩ =>
  thn (ho z0 s2 σ H2 x y v u _ I2 r1 r2 q2) λd s3 ⟨z,H3,I3,r3,k,e,q3⟩=>?_)) hm
 subst e;cases r3;refine L2z ?_
 cases k with
 |false=>exact ite_ff ⟨.bl false,H3,I3,rfl,q3⟩
 |true=>exact ite_tt (chain_last (thn (hc z0 s3 σ H3 _ I3 q3) λw' s4 ⟨z',H4,I4,r4,q4⟩=>ho' z0 s4 σ H4 y z' u w' Q I4 r2 r4 q4))
theorem Ec(ho:OpR X (compareOp op) r)(ho':OpR X (compareOp op') r')(ha:PE X a ta)(hb:PE X b tb)(hc:PE X c tc)
  (hm:lastMarks [op,op'] [b,c]=false:=by with_unfolding_all rfl):PT X (.Compare a [op,op'] [b,c] pos) (Ov (yP r r' ta tb tc)):=by
 intro z0 s σ H Q I h
 refine isTrue_chain (thn (ha z0 s σ H _ I h) λv s1 ⟨x,H1,I1,r1,q1⟩=>test_link (thn (hb z0 s1 σ H1 _ I1 q1) λu s2 ⟨y,H2,I2,r2,q2⟩ =>
  thn (ho z0 s2 σ H2 x y v u _ I2 r1 r2 q2) λd s3 ⟨z,H3,I3,r3,k,e,q3⟩=>?_)) hm
 subst e;cases r3;refine L2z ?_
 cases k with
 |false =>
  obtain⟨k',e',q'⟩:=q3;cases e';exact ite_ff ⟨H3,I3,q'⟩
 |true =>
  refine ite_tt (test_last (thn (hc z0 s3 σ H3 _ I3 q3) λw' s4 ⟨z',H4,I4,r4,q4⟩=>thn (ho' z0 s4 σ H4 y z' u w' _ I4 r2 r4 q4) λd' s5 ⟨z2,H5,I5,r5,k2,e2,q5⟩=>?_));subst e2;cases r5;exact L2z ⟨H5,I5,q5⟩
theorem vh:(sizeLine:Nat)<2^63:=by rw[J6z];decide
theorem mQ:OpR X (binaryOp .Add) (λx y H Q=>∃i j,x=.str i/\y=.str j/\i.length+j.length<=sizeLine/\Q (.str (i++j)) H):=by
 intro z0 s σ H x y v u Q I rx ry h;obtain⟨i,j,rfl,rfl,hz,q⟩:=h;obtain⟨t,rfl⟩:=rx;obtain⟨t',rfl⟩:=ry;exact add_str (λt' tk=>⟨.str (i++j),H,I.tok _,⟨_,rfl⟩,q⟩) hz
theorem vals1(r:Vals [x] us):∃u,us=[u]/\RelV x u:=by
 cases r with
 |cons r1 r2=>cases r2;exact⟨_,rfl,r1⟩
theorem vals2{x y:V}{us:List Value}(r:Vals [x,y] us):∃u w',us=[u,w']/\RelV x u/\RelV y w':=by
 cases r with
 |cons r1 r2 =>
  cases r2 with
  |cons r3 r4=>cases r4;exact⟨_,_,rfl,r1,r3⟩
theorem Cr(hc:X.calm=true):dz X (.builtin "min") (λxs H Q=>∃i j,xs=[.int i,.int j]/\Q (.int (if j<i then j else i)) H):=by
 intro z0 s σ H xs us Q I r h;obtain⟨i,j,rfl,q⟩:=h;obtain⟨u,w',rfl,⟨t,rfl⟩,⟨t',rfl⟩⟩:=vals2 r;refine min_two_ints (I.ok.hd hc) λh' tk k=>⟨_,H,I.kept k,?_,q⟩
 by_cases hj:j<i
 .rw[G7z hj,G7z hj];exact⟨_,rfl⟩
 .rw[H7z hj,H7z hj];exact⟨_,rfl⟩
theorem qP:dz X (.type "str") (λxs H Q=>∃i,xs=[.int i]/\i.natAbs.log2<1920/\Q (.str (toString i)) H):=by
 intro z0 s σ H xs us Q I r h;obtain⟨i,rfl,hz,q⟩:=h;obtain⟨u,rfl,t,rfl⟩:=vals1 r;exact PySem.P.str_of_int hz ⟨.str _,H,I.tok _,⟨_,rfl⟩,q⟩
end
structure ObjM(h:Heap)(x dx C:Addr)(mA:Str->Option Value):Prop where
 obj:h.get? x=some (W.instObj C dx)
 ns:h.Ns1 dx mA
 ne:dx≠x
theorem Aw{h:Heap}(n:h.Ns1 dx mA):∃od,h.get? dx=some od/\∀name,W.lookIn name od=some (mA name):=by
 obtain⟨o,es,ep,ho,hd,hk,_,hm⟩:=n;refine⟨o,ho,λname=>?_⟩;have e:=hm name;unfold nsFind findBy at e;rw[<- Array.find?_toList] at e;unfold W.lookIn;rw[hd];dsimp only;split
 .rename_i y q
  rw[q] at e;exact congrArg some e
 .rename_i q
  rw[q] at e
  have a:es.toList.any (·.refKey)=false:=by
   rw[List.any_eq_false];intro y hy;obtain⟨z,t,hkey⟩:=hk y (Array.mem_toList_iff.mp hy);simp[DictEntry.refKey,hkey]
  have a':¬ es.toList.any (·.refKey)=true:=by rw[a];exact X1z
  rw[H7z a'];exact congrArg some e
theorem ObjM.look(I:ObjM h x dx C mA):∃od,W.InstAt h x (W.instObj C dx) C (some od)/\∀name,W.lookIn name od=some (mA name) :=
 let ⟨od,ho,hl⟩:=Aw I.ns
 ⟨od,⟨I.obj,rfl,rfl,ho⟩,hl⟩
section
variable{prog:Program}{w:World}{A:Around}{E:Value->Shared->Prop}{s:Shared}{K:Zf}{x dx C f:Addr}{mA:Str->Option Value}{name:Str}{v:Value}
theorem get_map(X:K.In s.heap)(I:ObjM s.heap x dx C mA)(hg:W.plainGet K C name=true)(hh:W.hasDictIn K C=true)
  (ha:W.findIn K (.ref C) name=some none) (hv:mA name=some v) (hv':W.handedIn v=true) (h:Q v {s with toks:=s.toks+1}) :
  wpAny (model prog w) A (getAttr (.ref x) name expr) Q E s:=by
 obtain⟨od,J,hl⟩:=I.look;exact W.get_value X J (N1z hg).1 (W.findObj_own hh ha rfl (by rw[hl,hv])) hv' h
theorem Ga(X:K.In s.heap)(I:ObjM s.heap x dx C mA)(hg:W.plainGet K C name=true)
  (hf:W.findIn K (.ref C) name=some (some (.ref f))) (ht:W.isFn K (.ref f)=true) (hv:mA name=none) (h:Q (.ref f,[.ref x]) s) :
  wpAny (model prog w) A (getMethod (.ref x) name pl) Q E s:=by
 obtain⟨od,J,hl⟩:=I.look;exact W.method_fn X J (N1z hg).1 (N1z hg).2 hf (W6z.mp ht) (by show(W.lookIn name od).map (·.isSome)=some false;rw[hl,hv];rfl) h
theorem Jq(X:K.In s.heap)(I:ObjM s.heap x dx C mA)
  (hs:W.findIn K (.ref C) "__setattr__"=some (some (.builtin "object.__setattr__"))) (hp:W.plainOver K C=true) (ht:W.takerIn K C name=some none) (hh:W.hasDictIn K C=true)
  (hw:PySem.Within mA ns) (hsz:ns.length<=sizeLine)
  (h:∀h',ObjM h' x dx C (λy=>if y=name then some v else mA y)->Heap.SameBut dx s.heap h'->Q () {s with heap:=h',toks:=s.toks+2}) :
  wpAny (model prog w) A (setAttr (.ref x) name v) Q E s:=by
 obtain⟨od,J,hl⟩:=I.look;refine W.set_plain X J hs (W.osa_open X J hp ht λb=>?_);obtain⟨cd,hc,hd'⟩:=W.any_some hh;refine R6z (S6z (R6z (R6z (wpAny_loadPart I.obj (R6z (W.Looks.here (W.looks_clsIn X hc) ?_))))));rw[hd'];refine S6z (R6z (S6z (R6z ?_)));refine wpAny_nsSet1 I.ns λh' hn2 hs2=>?_;obtain⟨oD,esD,epD,hoD,hdD,hcD⟩:=hn2.count (PySem.Within.cons name v hw);exact R6z (wpAny_lookBehind hoD (by rw[hdD];exact pastItsLine_dict (B6z hcD (by rw[E3z];omega))) (S6z (h _ ⟨(hs2.2 _ (E7z I.ne)).trans I.obj,hn2,I.ne⟩ hs2)))
theorem Fq(X:K.In s.heap)(hm:W.makesIn K C=true)
  (hi:W.findIn K (.ref C) "__init__"=some (some (.ref f))) (hf:W.typeIn K (.ref f)=some (.type "function"))
  (h:codeAny (model prog w) (A.under (.builtin "type.__call__" ⟨.ref C :: vs, kw⟩)) (.call (.ref f) ⟨.ref (s.heap.objs.size + 1) :: vs, kw⟩) (W.InitBack (s.heap.objs.size + 1) R)
   {s with heap:=(s.heap.push W.emptyDict).push (W.instObj C s.heap.objs.size)}) :
  codeAny (model prog w) A (.call (.ref C) ⟨vs,kw⟩) R s:=by
 obtain⟨hh,g,d,t,os⟩:=s;exact W.make_core (W.makes_of X hm) (W.looks_findIn X hi) (λself=>W.bind_fn X self hf) (.inl rfl) h
end
def nM(f:Str)(v:V):List (Str×V)->List (Str×V)
 |[]=>[(f,v)]
 |(g,x)::r=>if g=f then(g,v)::r else(g,x)::nM f v r
theorem kO(f g:Str)(v:V):∀fs:List (Str×V),(nM f v fs).lookup g=if g=f then some v else fs.lookup g
 |[]=>by
  show List.lookup g [(f,v)]=_
  by_cases h:g=f
  .simp only[List.lookup,(W6z.mpr h),G7z h]
  .simp only[List.lookup,(Q1z.mpr h),H7z h]
 |(k,x)::r=>by
  have ih:=kO f g v r;rw[show nM f v ((k,x)::r)=(if k=f then(k,v)::r else(k,x)::nM f v r) from rfl]
  by_cases hk:k=f
  .rw[G7z hk]
   by_cases h:g=k
   .simp only[List.lookup,(W6z.mpr h),G7z (h.trans hk)]
   .simp only[List.lookup,(Q1z.mpr h),H7z (λe:g=f=>h (e.trans hk.symm))]
  .rw[H7z hk]
   by_cases h:g=k
   .simp only[List.lookup,(W6z.mpr h),H7z (λe:g=f=>hk (h.symm.trans e))]
   .simp only[List.lookup,(Q1z.mpr h)]
    exact ih
theorem lq(f:Str)(v:V):∀fs:List (Str×V),f∈(nM f v fs).map (·.1)/\∀g,g∈fs.map (·.1)->g∈(nM f v fs).map (·.1)
 |[]=>⟨by simp[nM],λg h=>by simp at h⟩
 |(k,x)::r=>by
  obtain⟨i1,i2⟩:=lq f v r;rw[show nM f v ((k,x)::r)=(if k=f then(k,v)::r else(k,x)::nM f v r) from rfl]
  by_cases hk:k=f
  .subst hk
   exact⟨by simp,λg h=>by simpa using h⟩
  .rw[H7z hk]
   refine⟨?_,λg h=>?_⟩
   .exact E1z _ i1
   .obtain e|e:=V5z.mp h
    .exact V5z.mpr (.inl e)
    .exact E1z _ (i2 g e)
theorem kY(f:Str)(v:V):∀fs:List (Str×V),(nM f v fs).length<=fs.length+1
 |[]=>by simp[nM]
 |(k,x)::r=>by
  have ih:=kY f v r;rw[show nM f v ((k,x)::r)=(if k=f then(k,v)::r else(k,x)::nM f v r) from rfl]
  by_cases hk:k=f
  .rw[G7z hk,E3z,E3z];omega
  .rw[H7z hk,E3z,E3z];omega
theorem oY.some_of(r:oY (some v) o):∃u,o=some u/\RelV v u:=by
 cases o with
 |none=>exact r.elim
 |some u=>exact⟨u,rfl,r⟩
theorem oY.none_of(r:oY none o):o=none:=by
 cases o with
 |none=>rfl
 |some u=>exact r.elim
theorem Bm(r:RelV v u):W.handedIn u=true:=by
 cases v with
 |non=>cases r;rfl
 |bl b=>cases r;rfl
 |int i=>obtain⟨t,e⟩:=r;cases e;rfl
 |str x=>obtain⟨t,e⟩:=r;cases e;rfl
 |byt b=>obtain⟨t,e⟩:=r;cases e;rfl
 |flt b=>obtain⟨t,e⟩:=r;cases e;rfl
 |ref a=>cases r;rfl
 |ty n=>cases r;rfl
section
variable{P:Program}{w:World}{H H':Hp}{h h':Heap}{a C dx:Addr}{fs fs':List (Str×V)}
theorem tE(hok:HOk P w H h)(e:H a=some (.ins C dx fs)):∃mA,ObjM h a dx C mA/\(∀f,oY (fs.lookup f) (mA f))/\PySem.Within mA (fs.map (·.1))/\fs.length<=1000/\H dx=some (.own a):=by
 obtain⟨d,z,ne,ob,mA,n,r,q⟩:=(hok a _ e);exact⟨mA,⟨ob,n,ne⟩,r,q,z,d⟩
end
structure Cls(K:Zf)(C:Addr):Prop where
 pg:W.plainGet K C Str.empty=true
 hd:W.hasDictIn K C=true
 po:W.plainOver K C=true
 sa:W.findIn K (.ref C) "__setattr__"=some (some (.builtin "object.__setattr__"))
theorem Cls.get{K:Zf}(c:Cls K C)(f:Str):W.plainGet K C f=true:=c.pg
def je(K:Zf)(C:Addr)(f:Str):Prop:=W.findIn K (.ref C) f=some none
theorem je.taker{K:Zf}(n:je K C f):W.takerIn K C f=some none:=by
 unfold W.takerIn;rw[show W.findIn K (.ref C) f=some none from n];rfl
structure Meth(K:Zf)(C:Addr)(m:Str)(f:Addr):Prop where
 at_:W.findIn K (.ref C) m=some (some (.ref f))
 fn:W.isFn K (.ref f)=true
 kp:W.keepIn K (.ref f)=true
section
variable{X:Cx}{z0:List (Addr×Obj)}{σ:St}{H:Hp}{s:Shared}{a C dx:Addr}{fs:List (Str×V)}{f:Str}{v:V}{A:Around}{E:Value->Shared->Prop}
theorem xO(I:Inv X z0 σ H s)(e:H a=some (.ins C dx fs))(c:Cls X.K C)(n:je X.K C f)(l:fs.lookup f=some v)
  (h:∀u s',Inv X z0 σ H s'->RelV v u->Q u s'):wpAny (model X.prog X.w) A (getAttr (.ref a) f b) Q E s:=by
 obtain⟨mA,O,r,_,_,_⟩:=tE I.hok e;obtain⟨u,hu,ru⟩:=oY.some_of (by rw[<- l];exact r f);exact get_map I.kIn O (c.get f) c.hd n hu (Bm ru) (h u _ (I.tok _) ru)
theorem mX(I:Inv X z0 σ H s)(e:H a=some (.ins C dx fs))(c:Cls X.K C)(k:Meth X.K C m g)(l:fs.lookup m=none)
  (h:Q (.ref g,[.ref a]) s):wpAny (model X.prog X.w) A (getMethod (.ref a) m pl) Q E s:=by
 obtain⟨mA,O,r,_,_,_⟩:=tE I.hok e;exact Ga I.kIn O (c.get m) k.at_ k.fn (oY.none_of (by rw[<- l];exact r m)) h
theorem wV(I:Inv X z0 σ H s)(e:H a=some (.ins C dx fs))(c:Cls X.K C)(n:je X.K C f)(hl:fs.length<1000)(ry:RelV y u)
  (h:∀s',Inv X z0 σ (upd H a (.ins C dx (nM f y fs))) s'->Q () s'):wpAny (model X.prog X.w) A (setAttr (.ref a) f u) Q E s:=by
 obtain⟨mA,O,r,wi,_,ho⟩:=tE I.hok e
 have hz:(fs.map (·.1)).length<=sizeLine:=by rw[F4z,J6z];omega
 refine Jq I.kIn O c.sa c.po n.taker c.hd wi hz λh' O' sb=>h _ ?_;refine I.write (x:=a) (e:=dx) (by rw[e];exact True.intro) (.inr ho) (λb q hb z=>(sb.2 b hb).trans z) (let ⟨o,_,_,e',_⟩:=O'.ns;⟨o,e'⟩) ?_;refine⟨by rw[ao O.ne];exact ho,?_,O.ne,O'.obj,_,O'.ns,λg=>?_,λg hg=>?_⟩
 .have:=kY f y fs;omega
 .rw[kO]
  by_cases q:g=f
  .rw[G7z q,G7z q];exact ry
  .rw[H7z q,H7z q];exact r g
 .by_cases q:g=f
  .rw[q];exact(lq f y fs).1
  .refine(lq f y fs).2 g (wi g λz=>hg ?_)
   show(if g=f then some u else mA g)=none;rw[H7z q];exact z
theorem Inv.made(I:Inv X z0 σ H s):Inv X z0 σ (upd (upd H s.heap.objs.size (.own (s.heap.objs.size+1))) (s.heap.objs.size+1) (.ins C s.heap.objs.size []))
  {s with heap:=(s.heap.push W.emptyDict).push (W.instObj C s.heap.objs.size)}:=by
 have e1:(s.heap.push W.emptyDict).get? s.heap.objs.size=some W.emptyDict:=Heap.get?_push_size s.heap rfl
 have e2:((s.heap.push W.emptyDict).push (W.instObj C s.heap.objs.size)).get? (s.heap.objs.size+1)=some (W.instObj C s.heap.objs.size):=by
  have:=Heap.get?_push_size (s.heap.push W.emptyDict) (o:=W.instObj C s.heap.objs.size) rfl
  rwa [Z4z] at this
 have I1:=I.laid (a:=s.heap.objs.size) (o:=.own (s.heap.objs.size+1)) (h':=s.heap.push W.emptyDict) (t':=s.toks) (λb u q=>Heap.get?_push_of_some _ q) (I6z _) ⟨_,e1⟩;refine I1.laid (a:=s.heap.objs.size+1) (o:=.ins C s.heap.objs.size []) (t':=s.toks) (λb u q=>Heap.get?_push_of_some _ q) (Nat.le_of_eq (Z4z _ _)) ?_;have ne:s.heap.objs.size≠s.heap.objs.size+1:=A6z (F3z _);refine⟨by rw[ao ne,aA],K6z _,ne,e2,λ_=>none,(Heap.Ns1.of_empty ⟨W.emptyDict,#[],_,e1,rfl,(λe he=>absurd he (by simp)),λ_=>rfl⟩).at λo q=>Heap.get?_push_of_some _ q,λ_=>True.intro,λy hy=>absurd rfl hy⟩
theorem Nj(hb:attributeBase e f env (eval e env)=eval e env)
  (h:wpAny (model prog w) A (eval e env) (λo s₁=>wpAny (model prog w) A (getAttr o f true) Q E s₁) E s):wpAny (model prog w) A (eval (.Attribute e f pos) env) Q E s :=
 Attribute_any_ h (by rw[arm_eval_Attribute,hb])
end
def W5(K:Zf)(ta:TE)(f:Str):TE:=λσ H Q=>ta σ H λx H1=>∃a C dx fs v,x=.ref a/\H1 a=some (.ins C dx fs)/\Cls K C/\je K C f/\fs.lookup f=some v/\Q v H1
def Xe(K:Zf)(ta tv:TE)(f:Str):TS:=λD σ H=>tv σ H λy H1=>ta σ H1 λx H2=>∃a C dx fs,x=.ref a/\H2 a=some (.ins C dx fs)/\Cls K C/\je K C f/\fs.length<1000 /\
 D.nx σ (upd H2 a (.ins C dx (nM f y fs)))
section
variable{X:Cx}{o e value:Expr}{f:Str}{pos pos' tpos:Pos}{ta tv:TE}
theorem g8(he:PE X e ta)(hb:attributeBase e f X.env (eval e X.env)=eval e X.env):PE X (.Attribute e f pos) (W5 X.K ta f):=by
 intro z0 s σ H Q I h;refine Nj hb (thn (he z0 s σ H _ I h) λu s1 ⟨x,H1,I1,rx,a,C,dx,fs,v,ex,ea,c,n,l,q⟩=>?_);subst ex;obtain rfl:u=Value.ref a:=rx;exact xO I1 ea c n l λu' s2 I2 ru=>⟨v,H1,I2,ru,q⟩
theorem pQ(ha:PE X o ta)(hv:PE X value tv)(hs:swapsWith value (some (.Attribute o f pos')) pos.line X.env=pure false):PS X (.Assign [.Attribute o f pos'] value pos) (Xe X.K ta tv f):=by
 intro z0 s σ H D I h;refine plainObj_wpAny_Assign_Attribute (thn (hv z0 s σ H _ I h) λu s1 ⟨y,H1,I1,ry,q⟩=>thn (ha z0 s1 σ H1 _ I1 q) λov s2 ⟨x,H2,I2,rx,a,C,dx,fs,ex,ea,c,n,l,q2⟩=>?_) hs;subst ex;obtain rfl:ov=Value.ref a:=rx;exact wV I2 ea c n l ry λs3 I3=>⟨σ,_,I3,q2⟩
end
section
variable{X:Cx}{z0:List (Addr×Obj)}{σ:St}{H:Hp}{s:Shared}{A:Around}{E:Value->Shared->Prop}{Q:Value->Shared->Prop}{c:Value}{b:Bool}
end
structure Room(k:Nat)(A:Around):Prop where
 hd:A.handled=none
 dp:A.depth+3*k+5<recursionLimit
 un:A.units+16*k+200<cLine
theorem Room.mono(r:Room k A)(h:j<=k):Room j A:=⟨r.hd,by have:=r.dp;omega,by have:=r.un;omega⟩
theorem Room.deeper(r:Room (k+1) A)(env:Env):Room k (A.deeper env) :=
 ⟨r.hd,by have:=r.dp;show A.depth+1+3*k+5<_;omega,by have:=r.un;show A.units+3+16*k+200<_;omega⟩
theorem xu{A:Around}:(A.under (.builtin "type.__call__" ⟨.ref C::us,kw⟩)).depth=A.depth+1:=by
 first|rfl|simp[Code.weight]
theorem xr{A:Around}:(A.under (.builtin "type.__call__" ⟨.ref C::us,kw⟩)).units=A.units+1:=by
 first|rfl|simp[Code.cUnits]
theorem Room.make(r:Room (k+1) A)(C:Addr)(us:List Value)(kw:List (Str×Value)):Room k (A.under (.builtin "type.__call__" ⟨.ref C::us,kw⟩)) :=
 ⟨r.hd,by have:=r.dp;rw[xu];omega,by have:=r.un;rw[xr];omega⟩
theorem Room.depth(r:Room k A):A.depth<recursionLimit:=by have:=r.dp;omega
theorem Room.units(r:Room k A):A.units+64<cLine:=by have:=r.un;omega
def Je:TA:=λ_ H Q=>Q [] H
def O2(ta:TE)(tr:TA):TA:=λσ H Q=>ta σ H λx H1=>tr σ H1 λxs H2=>Q (x::xs) H2
section
variable{X:Cx}{e:Expr}{es:List Expr}{te:TE}{t:TA}{pos:Pos}
theorem aK:PA X [] Je:=λ_ _ _ _ H Q I h=>O2z ⟨[],H,I,.nil,h⟩
theorem au(ha:PE X e te)(hr:PA X es t)(hs:starEach (e::es) X.env=(false,eval e X.env)::starEach es X.env:=by rfl):PA X (e::es) (O2 te t):=by
 intro pos z0 s σ H Q I h;rw[hs];exact Z1z (thn (ha z0 s σ H _ I h) λu s1 ⟨x,H1,I1,r1,q1⟩=>(thn (hr pos z0 s1 σ H1 _ I1 q1) λus s2 ⟨xs,H2,I2,r2,q2⟩=>⟨x::xs,H2,I2,.cons r1 r2,q2⟩))
def WL(t:TA):TE:=λσ H Q=>t σ H λxs H1=>xs.length<=sizeLine/\∀p,H1 p=none->Q (.ref p) (upd H1 p (.tup xs))
def WX(t:TA):TE:=λσ H Q=>t σ H λxs H1=>xs.length<=sizeLine/\∀p,H1 p=none->Q (.ref p) (upd H1 p (.lst xs))
theorem Hz{x1}(h:PA X es t):PE X (.Tuple es x1 pos) (WL t):=by
 intro z0 s σ H Q I hq;refine wpAny_Tuple_spliced (thn (h pos z0 s σ H _ I hq) λus s1 ⟨xs,H1,I1,r,z,q⟩=>⟨by rw[<- r.length];exact z,?_⟩);refine⟨.ref s1.heap.objs.size,upd H1 s1.heap.objs.size (.tup xs),I1.laid (t':=s1.toks) (λb u e=>Heap.get?_push_of_some _ e) (I6z _) ?_,rfl,q _ (I1.hok.fresh (I6z _))⟩;exact⟨z,us,r,⟨_,Heap.get?_push_size _ rfl,rfl,_,rfl⟩⟩
theorem pY(h:PA X es t):PE X (.List es pos) (WX t):=by
 intro z0 s σ H Q I hq;refine wpAny_List_spliced (thn (h pos z0 s σ H _ I hq) λus s1 ⟨xs,H1,I1,r,z,q⟩=>⟨by rw[<- r.length];exact z,?_⟩);refine⟨.ref s1.heap.objs.size,upd H1 s1.heap.objs.size (.lst xs),I1.laid (t':=s1.toks) (λb u e=>Heap.get?_push_of_some _ e) (I6z _) ?_,rfl,q _ (I1.hok.fresh (I6z _))⟩;exact⟨z,us,0,r,Heap.get?_push_size _ rfl⟩
end
abbrev Sp:=List V->Hp->VK->XK->Prop
abbrev CXT:=List Env->Hp->Shared->XK->Value->Shared->Prop
structure Env0(P:Program)(w:World)(K:Zf)(mg:Str->Option Value)(base:Heap)(A:Around)(outer:List Env)(s:Shared)(H:Hp):Prop where
 frames:A.frames=some outer
 mod:Mod K mg base
 bs:∀b o,base.get? b=some o->s.heap.get? b=some o/\H b=none
 bsz:base.objs.size<=s.heap.objs.size
 funs:s.heap.FunFrames base outer
 frf:∀b∈frs outer,H b=none
 hok:HOk P w H s.heap
 bare:AllBare s.gens
def CE(outer:List Env)(P:Program)(w:World)(H:Hp)(s:Shared)(Q:VK)(u:Value)(s':Shared):Prop :=
 ∃v H',s'.os=s.os/\AllBare s'.gens/\Un (frs outer) [] H H' s.heap s'.heap/\HOk P w H' s'.heap/\RelV v u/\Q v H'
def CR(CX:CXT)(outer:List Env)(P:Program)(w:World)(H:Hp)(s:Shared)(Q:VK)(E:XK)(r:Result)(s':Shared):Prop :=
 match r with
 |.ok (.ret u)=>CE outer P w H s Q u s'
 |.ok _=>False
 |.error e=>CX outer H s E e s'
structure FnOk(P:Program)(w:World)(K:Zf)(mg:Str->Option Value)(base:Heap)(CX:CXT)(k:Nat)(f:Addr)(fd:FuncData)(ps:List Str)(sp:Sp):Prop where
 len:∀vs H Q E,sp vs H Q E->vs.length=ps.length
 run:∀(A:Around)(outer:List Env)(s:Shared)(H:Hp)(args:Args)(us:List Value)(vs:List V)(Q:VK)(E:XK),Room k A->Env0 P w K mg base A outer s H->BindsTo s fd args (ps.zip us)->Vals vs us->sp vs H Q E ->
  codeAny (model P w) A (.call (.ref f) args) (CR CX outer P w H s Q E) s
theorem FnOk.mono{K:Zf}(F:FnOk P w K mg base CX j f fd ps sp)(h:j<=k) :
  FnOk P w K mg base CX k f fd ps sp:=⟨F.len,λA outer s H args us vs Q E hr=>F.run A outer s H args us vs Q E (hr.mono h)⟩
theorem Env0.make{K:Zf}(e:Env0 P w K mg base A outer s H)(C:Addr)(us:List Value)(kw:List (Str×Value)) :
  Env0 P w K mg base (A.under (.builtin "type.__call__" ⟨.ref C::us,kw⟩)) outer s H:=⟨by first|exact e.frames|(simpa[Code.envs] using e.frames),e.mod,e.bs,e.bsz,e.funs,e.frf,e.hok,e.bare⟩
section
variable{X:Cx}{z0:List (Addr×Obj)}{σ:St}{H:Hp}{s s':Shared}
theorem Inv.env0(I:Inv X z0 σ H s):Env0 X.prog X.w X.K X.mg X.base X.A X.stack s H :=
 ⟨I.ok.frames,I.ok.mod,I.bs,B6z I.ok.bsz I.sz,I.stack,I.stkFree,I.hok,I.bare⟩
theorem Inv.after(I:Inv X z0 σ H s)(h:CE X.stack X.prog X.w H s Q u s'):EP X z0 σ Q u s':=by
 obtain⟨v,H',os,bare,un,hok,r,q⟩:=h;obtain⟨hh,g,d,t,os'⟩:=s';obtain rfl:os'=s.os:=os;exact⟨v,H',I.call un hok bare (λb z=>absurd z (by simp)),r,q⟩
end
def O4(sp:Sp)(dvs:List V)(E:XK)(t:TA):TE:=λσ H Q=>t σ H λvs H1=>sp (vs++dvs) H1 Q E
def Ox(C:Addr)(m:Str)(sp:Sp)(dvs:List V)(E:XK)(ta:TE)(t:TA):TE:=λσ H Q=>ta σ H λx H1=>∃a dx fs,x=.ref a/\H1 a=some (.ins C dx fs)/\fs.lookup m=none /\
 t σ H1 λvs H2=>sp (x::(vs++dvs)) H2 Q E
def TJ(C:Addr)(sp:Sp)(dvs:List V)(E:XK)(t:TA):TE:=λσ H Q=>t σ H λvs H1=>∀x dx,H1 x=none->H1 dx=none->dx≠x ->
 sp (.ref x::(vs++dvs)) (upd (upd H1 dx (.own x)) x (.ins C dx [])) (λv H2=>v=.non/\Q (.ref x) H2) E
def Binds(K:Zf)(fd:FuncData)(ps:List Str)(ds:List Value):Prop :=
 ∀(s:Shared)(us:List Value),K.In s.heap->(us++ds).length=ps.length->BindsTo s fd ⟨us,[]⟩ (ps.zip (us++ds))
theorem Binds.all{K:Zf}(h:∀us:List Value,us.length=ps.length->bindArgs fd ⟨us,[]⟩=pure (ps.zip us)):Binds K fd ps []:=λs us _ hl=>by
 rw[G4z] at hl ⊢;exact .of_eq (h us hl)
def Passes(CX:CXT)(X:Cx)(E:XK):Prop:=∀(z0:List (Addr×Obj))(σ:St)(H:Hp)(s:Shared)(e:Value)(s':Shared),Inv X z0 σ H s->CX X.stack H s E e s'->X.xe e s'
section
variable{X:Cx}{CX:CXT}{k:Nat}{f C:Addr}{fd:FuncData}{ps:List Str}{sp:Sp}{dvs:List V}{ds:List Value}{E:XK}{x m:Str}{p pos apos:Pos}{e o:Expr}{es:List Expr}{ta:TE}{t:TA}
theorem uH(F:FnOk X.prog X.w X.K X.mg X.base CX k f fd ps sp)(hr:Room k X.A)(hb:Binds X.K fd ps ds)(hd:Vals dvs ds)(hx:Passes CX X E)
  (I:Inv X z0 σ H s) (r:Vals vs us) (h:sp (vs++dvs) H Q E):wpAny (model X.prog X.w) X.A (call (.ref f) us) (EP X z0 σ Q) X.xe s:=by
 have r2:=r.append hd
 have hl:(us++ds).length=ps.length:=by rw[<- r2.length];exact F.len _ _ _ _ h
 refine wpAny_call (E6z (F.run X.A X.stack s H ⟨us,[]⟩ (us++ds) (vs++dvs) Q E hr I.env0 (hb s us I.kIn hl) r2 h) λr s' hq=>?_)
 cases r with
 |error e=>exact hx z0 σ H s e s' I hq
 |ok fl =>
  cases fl with
  |ret u=>exact I.after hq
  |next=>exact False.elim hq
  |brk=>exact False.elim hq
  |cont=>exact False.elim hq
theorem dw(F:FnOk X.prog X.w X.K X.mg X.base CX k f fd ps sp)(hr:Room k X.A)(hg:Gl X x)(hm:X.mg x=some (.ref f))(hk:W.keepIn X.K (.ref f)=true)(hb:Binds X.K fd ps ds)(hd:Vals dvs ds)(hx:Passes CX X E)
  (ha:PA X (e::es) t) (hdb:(x==("__debug__":Str))=false:=by decide) (he:starEach (e::es) X.env=(false,eval e X.env)::starEach es X.env:=by rfl) (hpl:(backTo pos (starEach es X.env)).any (·.1)=false:=by rfl) :
  PE X (.Call (.Name x p) (e::es) [] pos) (O4 sp dvs E t):=by
 intro z0 s σ H Q I h;refine A2z (kZ I hg hm ?_ hdb);refine W.callWith_K I.ok.mod.kin hk (thn (ha pos z0 s σ H _ I h) λus s1 ⟨vs,H1,I1,r,q⟩=>⟨I1.kIn,?_⟩) he hpl;exact uH F hr hb hd hx I1 r q
theorem Es(F:FnOk X.prog X.w X.K X.mg X.base CX k f fd ps sp)(hr:Room k X.A)(hg:Gl X x)(hm:X.mg x=some (.ref f))(hk:W.keepIn X.K (.ref f)=true)(hb:Binds X.K fd ps ds)(hd:Vals dvs ds)(hx:Passes CX X E)
  (hdb:(x==("__debug__":Str))=false:=by decide):PE X (.Call (.Name x p) [] [] pos) (O4 sp dvs E Je):=by
 intro z0 s σ H Q I h;refine A2z (kZ I hg hm ?_ hdb);exact O1z I.kIn hk (uH (us:=[]) F hr hb hd hx I .nil h)
theorem cZ(he:PE X o ta)(c:Cls X.K C)(hm:Meth X.K C m f)(F:FnOk X.prog X.w X.K X.mg X.base CX k f fd ps sp)(hr:Room k X.A)(hb:Binds X.K fd ps ds)(hd:Vals dvs ds)(hx:Passes CX X E)(ha:PA X (e::es) t)
  (hst:starEach (e::es) X.env=(false,eval e X.env)::starEach es X.env:=by rfl) (hpl:(backTo pos (starEach es X.env)).any (·.1)=false:=by rfl)
  (ht:eval (.Call (.Attribute o m apos) (e::es) [] pos) X.env=(do
   let ov <- eval o X.env
   standAt apos.atName
   let (f,first) <- holding [ov] (getMethod ov m pl)
   callWith pos f first (backTo pos (starEach (e::es) X.env)) (backToKw pos (keywordEach [] X.env))):=by rfl) :
  PE X (.Call (.Attribute o m apos) (e::es) [] pos) (Ox C m sp dvs E ta t):=by
 intro z0 s σ H Q I h;refine W.methodCall_KW (thn (he z0 s σ H _ I h) λu s1 ⟨x,H1,I1,rx,a,dx,fs,ex,ea,l,q⟩=>?_) ht;subst ex;obtain rfl:u=Value.ref a:=rx;refine mX I1 ea c hm l ?_;refine W.callWith_K I.ok.mod.kin hm.kp (thn (ha pos z0 s1 σ H1 _ I1 q) λus s2 ⟨vs,H2,I2,r,q2⟩=>⟨I2.kIn,?_⟩) hst hpl;exact uH (vs:=.ref a::vs) F hr hb hd hx I2 (.cons rfl r) q2
theorem Ek(he:PE X o ta)(c:Cls X.K C)(hm:Meth X.K C m f)(F:FnOk X.prog X.w X.K X.mg X.base CX k f fd ps sp)(hr:Room k X.A)(hb:Binds X.K fd ps ds)(hd:Vals dvs ds)(hx:Passes CX X E)
  (ht:eval (.Call (.Attribute o m apos) [] [] pos) X.env=(do
   let ov <- eval o X.env
   standAt apos.atName
   let (f,first) <- holding [ov] (getMethod ov m pl)
   callWith pos f first (backTo pos (starEach [] X.env)) (backToKw pos (keywordEach [] X.env))):=by rfl) :
  PE X (.Call (.Attribute o m apos) [] [] pos) (Ox C m sp dvs E ta Je):=by
 intro z0 s σ H Q I h;refine W.methodCall_KW (thn (he z0 s σ H _ I h) λu s1 ⟨x,H1,I1,rx,a,dx,fs,ex,ea,l,q⟩=>?_) ht;subst ex;obtain rfl:u=Value.ref a:=rx;refine mX I1 ea c hm l ?_;exact O1z I1.kIn hm.kp (uH (vs:=[.ref a]) F hr hb hd hx I1 (.cons rfl .nil) q)
structure Mk(K:Zf)(C f:Addr):Prop where
 makes:W.makesIn K C=true
 init:W.findIn K (.ref C) "__init__"=some (some (.ref f))
 fn:W.isFn K (.ref f)=true
 kp:W.keepIn K (.ref C)=true
theorem DR(M:Mk X.K C f)(F:FnOk X.prog X.w X.K X.mg X.base CX k f fd ps sp)(hr:Room (k+1) X.A)(hb:Binds X.K fd ps ds)(hd:Vals dvs ds)
  (hx:Passes CX X E) (I:Inv X z0 σ H s) (r:Vals vs us)
  (h:∀x dx,H x=none->H dx=none->dx≠x->sp (.ref x::(vs++dvs)) (upd (upd H dx (.own x)) x (.ins C dx [])) (λv H2=>v=.non/\Q (.ref x) H2) E) :
  wpAny (model X.prog X.w) X.A (call (.ref C) us) (EP X z0 σ Q) X.xe s:=by
 have hq:=h (s.heap.objs.size+1) s.heap.objs.size (I.hok.fresh (L6z _)) (I.hok.fresh (I6z _)) (A6z (F3z _));have I2:=Inv.made (C:=C) I;have r2:Vals (V.ref (s.heap.objs.size+1)::(vs++dvs)) (Value.ref (s.heap.objs.size+1)::(us++ds)):=.cons rfl (r.append hd)
 have hl:(Value.ref (s.heap.objs.size+1)::us++ds).length=ps.length:=by
  have e:=r2.length;rw[F.len _ _ _ _ hq] at e;exact e.symm
 refine wpAny_call (Fq I.kIn M.makes M.init (W6z.mp M.fn) (E6z (F.run _ X.stack _ _ ⟨Value.ref (s.heap.objs.size+1)::us,[]⟩ (Value.ref (s.heap.objs.size+1)::(us++ds)) _ _ E (hr.make C us [])
  (I2.env0.make C us []) (hb _ (Value.ref (s.heap.objs.size+1)::us) I2.kIn hl) r2 hq) λr s' hq'=>?_))
 cases r with
 |error e=>exact hx z0 σ _ _ e s' I2 hq'
 |ok fl =>
  cases fl with
  |ret u =>
   obtain⟨v,H',I3,rv,ev,q3⟩:=I2.after hq';subst ev;exact⟨rv,⟨V.ref (s.heap.objs.size+1),H',I3,rfl,q3⟩⟩
  |next=>exact False.elim hq'
  |brk=>exact False.elim hq'
  |cont=>exact False.elim hq'
theorem El(M:Mk X.K C f)(F:FnOk X.prog X.w X.K X.mg X.base CX k f fd ps sp)(hr:Room (k+1) X.A)(hg:Gl X x)(hm:X.mg x=some (.ref C))(hb:Binds X.K fd ps ds)(hd:Vals dvs ds)(hx:Passes CX X E)
  (hdb:(x==("__debug__":Str))=false:=by decide):PE X (.Call (.Name x p) [] [] pos) (TJ C sp dvs E Je):=by
 intro z0 s σ H Q I h;refine A2z (kZ I hg hm ?_ hdb);exact O1z I.kIn M.kp (DR M F hr hb hd hx I .nil h)
end
section
variable{X:Cx}{CX:CXT}{k:Nat}{f C:Addr}{fd:FuncData}{ps ks:List Str}{sp:Sp}{E:XK}{x m:Str}{p pos apos kpos:Pos}{e o:Expr}{es:List Expr}{kws:List Keyword}{te ta:TE}{t tk:TA}{nm:Option Str}
variable{g:List Value->List Value->List Value}{gV:List V->List V->List V}
end
structure FnScope(N P:List Str)(sc:Scope):Prop where
 kind:sc.kind=.function
 co:sc.isCoroutine=false
 gen:sc.isGenerator=false
 nd:N.Nodup
 pre:N.take P.length=P
 par:∀x∈P,sc.names.lookup x=some .local\/sc.names.lookup x=some .cell
 nofree:∀y∈sc.names,y.2≠.free
theorem qX{kindOf:Str->Option NameKind}:∀{binds:List (Str×Value)}{m:Str->Option Value},(∀v,(x,v)∉binds)->bindL kindOf binds m x=m x
 |[],_,_=>rfl
 |(n,v)::r,m,h=>by
  unfold bindL;rw[qX λw hw=>h w (E1z _ hw)];split
  .have:x≠n:=by rintro rfl;exact h v W1z
   simp[this]
  .rfl
theorem qZ{kindOf:Str->Option NameKind}:∀{binds:List (Str×Value)}{m:Str->Option Value},(∀v,(x,v)∉binds)->bindC kindOf binds m x=m x
 |[],_,_=>rfl
 |(n,v)::r,m,h=>by
  unfold bindC;rw[qZ λw hw=>h w (E1z _ hw)];split
  .rfl
  .have:x≠n:=by rintro rfl;exact h v W1z
   simp[this]
theorem qY{kindOf:Str->Option NameKind}:∀{P:List Str}{vs:List Value}{i:Nat}{m:Str->Option Value},P.Nodup->P[i]?=some x->vs[i]?=some v->kindOf x=some .local ->
  bindL kindOf (P.zip vs) m x=some v
 |[],_,_,_,_,h,_,_=>by simp at h
 |_::_,[],_,_,_,_,h,_=>by simp at h
 |p::P,w::vs,0,m,nd,h1,h2,hk=>by
  simp at h1 h2;subst h1;subst h2
  show bindL kindOf ((p,w)::P.zip vs) m p=_;unfold bindL;rw[qX λv hv=>(J4z.mp nd).1 (H4z hv).1,G7z hk];simp
 |p::P,w::vs,i+1,m,nd,h1,h2,hk=>by
  unfold bindL;exact qY (J4z.mp nd).2 (by simpa using h1) (by simpa using h2) hk
theorem rz{kindOf:Str->Option NameKind}:∀{P:List Str}{vs:List Value}{i:Nat}{m:Str->Option Value},P.Nodup->P[i]?=some x->vs[i]?=some v->kindOf x≠some .local ->
  bindC kindOf (P.zip vs) m x=some v
 |[],_,_,_,_,h,_,_=>by simp at h
 |_::_,[],_,_,_,_,h,_=>by simp at h
 |p::P,w::vs,0,m,nd,h1,h2,hk=>by
  simp at h1 h2;subst h1;subst h2
  show bindC kindOf ((p,w)::P.zip vs) m p=_;unfold bindC;rw[qZ λv hv=>(J4z.mp nd).1 (H4z hv).1,H7z hk];simp
 |p::P,w::vs,i+1,m,nd,h1,h2,hk=>by
  unfold bindC;exact rz (J4z.mp nd).2 (by simpa using h1) (by simpa using h2) hk
def start(N:List Str)(vs:List V):St:=vs.map some++List.replicate (N.length-vs.length) none
def jE(CX:CXT)(P:Program)(w:World)(K:Zf)(mg:Str->Option Value)(base:Heap)(N:List Str)(qual:Str)(scope:Scope)(f:Addr)(cd:Value)(A:Around)(outer:List Env)(s:Shared)(H:Hp)(E:XK):Cx where
 prog:=P
 w:=w
 K:=K
 mg:=mg
 base:=base
 A:=A.deeper (envOfC qual scope s.heap.objs.size f cd)
 N:=N
 s₀:=s
 H₀:=H
 env:=envOfC qual scope s.heap.objs.size f cd
 outer:=outer
 stack:=envOfC qual scope s.heap.objs.size f cd::outer
 ex:=[]
 calm:=true
 fn:=λ_=>true
 pn:=[]
 xe:=λe s'=>wpAny (model P w) (A.deeper (envOfC qual scope s.heap.objs.size f cd)) (leaving (envOfC qual scope s.heap.objs.size f cd) e) (λ_ s''=>CX outer H s E e s'') (λe' s''=>CX outer H s E e' s'') s'
theorem vZ{sc:Scope}(h:sc.names.lookup x=some .cell):∃c,(cellsFrom n sc.names []).lookup x=some c:=by
 exact Option.isSome_iff_exists.mp (O0z sc.names n [] (.inl h))
theorem xM{K:Zf}
  (S:FnScope N ps scope) (hd:c=true->A.handled=none) (e0:Env0 P w K mg base A outer s H) (hl:vs.length=ps.length) (r:Vals vs us)
  (x:InCallC s s.heap.objs.size (bindL (envOfC qual scope s.heap.objs.size f cd).kindOf (ps.zip us) λ_=>none) (cellsFrom (s.heap.objs.size+1) scope.names []) (bindC (envOfC qual scope s.heap.objs.size f cd).kindOf (ps.zip us) λ_=>none) s1) :
  Inv {jE CX P w K mg base N qual scope f cd A outer s H E with calm:=c} [] (start N vs) H s1:=by
 have hpl:ps.length<=N.length:=by have:=congrArg List.length S.pre;rw[G3z] at this;omega
 obtain⟨h1,tk,rfl,hk⟩:=x.done;have noA:∀b:Addr,b∉({jE CX P w K mg base N qual scope f cd A outer s H E with calm:=c}:Cx).ex:=λb z=>absurd (show b∈([]:List Addr) from z) (by simp)
 refine⟨⟨e0.mod,S.kind,rfl,rfl,I6z _,λy z c h1 h2=>?_,λy hy=>?_,λy c _ h=>?_,hd,Around.frames_deeper e0.frames,.inr ⟨rfl,rfl⟩,λb z=>absurd z (noA b),e0.bs,e0.bsz,λb _ _=>noA b,λb z=>absurd z (noA b),e0.funs,e0.frf⟩,
  rfl,e0.bare,Un.kept hk,⟨_,x.toInCall.ns,λi y v h1 h2 h3=>?_⟩,λy c h=>⟨_,x.cell y c h⟩,e0.hok.fresh (I6z _),λy c h=>?_,λp hp=>absurd (show p∈([]:List (Addr×Obj)) from hp) (by simp),e0.hok.kept hk,?_⟩
 .exact name_of_addr x.apart (P1z h1) (P1z h2)
 .obtain hy|hy:=hy
  .exact vZ hy
  .exact absurd rfl (S.nofree _ (P1z hy))
 .exact C6z (x.above y c (P1z h))
 .have hi:i<vs.length:=by
   unfold start at h2
   by_cases hi:i<vs.length
   .exact hi
   .rw[List.getElem?_append_right (by simpa using hi)] at h2
    rw[List.getElem?_replicate] at h2
    split at h2<;>cases h2
  have ha:vs[i]?=some v:=by
   unfold start at h2;rw[List.getElem?_append_left (by simpa using hi),List.getElem?_map] at h2
   cases e:vs[i]? with
   |none=>rw[e] at h2;cases h2
   |some a=>rw[e] at h2;cases h2;rfl
  obtain⟨u,hu,rv⟩:=r.get ha
  have hp:ps[i]?=some y:=by
   rw[<- S.pre,List.getElem?_take_of_lt (by omega)];exact h1
  have ndP:ps.Nodup:=by rw[<- S.pre];exact S.nd.sublist (List.take_sublist _ _)
  refine⟨u,rv,?_⟩;obtain k|k:=S.par y (List.mem_of_getElem? hp)
  .exact .inl ⟨k,qY ndP hp hu k⟩
  .obtain⟨c,e⟩:=vZ k
   refine .inr ⟨.inl k,c,e,?_⟩;have q:=x.cell y c e;rw[rz ndP hp hu (by show scope.names.lookup y≠_;rw[k];decide)] at q;exact q
 .exact e0.hok.fresh (C6z (x.above y c (P1z h)))
 .unfold start
  show _=N.length;rw[B2z,F4z,List.length_replicate];omega
theorem Vt{K:Zf}{dV kV doc pm cdv ct oc:Value}
       (lk:K.lookup f=some ⟨oc,od,.func (W.fnOf name qual params body scope dV kV doc pm an cdv ct),osl⟩) (hcd:W.codeIn K cdv qual=true) (S:FnScope N ps scope)
    (len:∀vs H Q E,sp vs H Q E->vs.length=ps.length)
    (hbody:∀(A:Around)(outer:List Env)(s:Shared)(H:Hp)(vs:List V)(Q:VK)(E:XK),Room k (A.deeper (envOfC qual scope s.heap.objs.size f cdv))->sp vs H Q E ->
      ∃t,PSs (jE CX P w K mg base N qual scope f cdv A outer s H E) body t/\t {nx:=λ_ H'=>Q .non H',rt:=Q} (start N vs) H) :
    FnOk P w K mg base CX (k+1) f (W.fnOf name qual params body scope dV kV doc pm an cdv ct) ps sp:=by
  refine⟨len,λA outer s H args us vs Q E hr e0 hb r hsp=>?_⟩
  have hl:=len _ _ _ _ hsp
  have KX:=e0.mod.kin.keeps λb o e=>(e0.bs b o e).1
  have hkind:∀y∈ps.zip us,scope.names.lookup y.1=some .local\/(scope.names.lookup y.1=some .cell/\((cellsFrom (s.heap.objs.size+1) scope.names []).lookup y.1).isSome=true):=λ⟨n,v⟩ hy=>by
    rcases S.par n (H4z hy).1 with q|q
    . exact .inl q
    . exact .inr ⟨q,O0z _ _ _ (.inl q)⟩
  refine codeAny_call_function hr.depth (KX _ _ lk) rfl S.co S.gen rfl (W.codeRec_of KX hcd) (hb _ _ _ _ ?_)
  refine wpAny_newFunctionEnv_cells S.kind hkind λenv he s1 x=>?_
  subst he
  refine⟨(e0.mod.nolimit.keeps λb o e=>(e0.bs b o e).1).keeps x.toInCall.keep,codeAny_func ?_⟩
  obtain⟨t,ht,hq⟩:=hbody A outer s H vs Q E (hr.deeper _) hsp
  refine Q6z (ht [] s1 (start N vs) H _ (xM (c:=true) S (λ_=>hr.hd) e0 hl r x) hq) (λfl s' hs=>?_) λe s' hs=>hs
  have fin:∀{σ':St}{H':Hp}{v:V}{u:Value},Inv (jE CX P w K mg base N qual scope f cdv A outer s H E) [] σ' H' s'->RelV v u->Q v H'->CE outer P w H s Q u s' :=
    λ{σ' H' v u} J rv q=>⟨v,H',J.os,J.bare,J.base,J.hok,rv,q⟩
  cases fl with
  |ret u =>
    obtain⟨v,σ',H',J,rv,q⟩:=hs
    exact fin J rv q
  |next =>
    obtain⟨σ',H',J,q⟩:=hs
    exact fin (v:=V.non) J rfl q
  |brk =>
    obtain⟨_,_,_,q⟩:=hs
    exact False.elim q
  |cont =>
    obtain⟨_,_,_,q⟩:=hs
    exact False.elim q
section
variable{X:Cx}{x:Str}{p pos:Pos}{e:Expr}{es:List Expr}{t:TA}{id T:String}{r:List V->Hp->VK->Prop}
def tCB(r:List V->Hp->VK->Prop)(t:TA):TE:=λσ H Q=>t σ H λvs H1=>r vs H1 Q
theorem c7(hc:dz X (.builtin id) r)(hg:Gl X x)(hm:X.mg x=none)(hv:bootBuiltins x=some (.builtin id))(ha:PA X (e::es) t)(hn:x≠"__name__":=by decide)(hdb:(x==("__debug__":Str))=false:=by decide)
  (he:starEach (e::es) X.env=(false,eval e X.env)::starEach es X.env:=by rfl) (hpl:(backTo pos (starEach es X.env)).any (·.1)=false:=by rfl):PE X (.Call (.Name x p) (e::es) [] pos) (tCB r t):=by
 intro z0 s σ H Q I h;exact A2z (eG I hg hm hv (PyProof.Rows.callWith_builtin1 (thn (ha pos z0 s σ H _ I h) λus s1 ⟨vs,H1,I1,r1,q1⟩=>hc z0 s1 σ H1 vs us Q I1 r1 q1) he hpl) hn hdb)
theorem eV(hc:dz X (.type T) r)(hg:Gl X x)(hm:X.mg x=none)(hv:bootBuiltins x=some (.type T))(ha:PA X (e::es) t)(hn:x≠"__name__":=by decide)(hdb:(x==("__debug__":Str))=false:=by decide)
  (he:starEach (e::es) X.env=(false,eval e X.env)::starEach es X.env:=by rfl) (hpl:(backTo pos (starEach es X.env)).any (·.1)=false:=by rfl):PE X (.Call (.Name x p) (e::es) [] pos) (tCB r t):=by
 intro z0 s σ H Q I h;exact A2z (eG I hg hm hv (A0z (thn (ha pos z0 s σ H _ I h) λus s1 ⟨vs,H1,I1,r1,q1⟩=>hc z0 s1 σ H1 vs us Q I1 r1 q1) he hpl) hn hdb)
end
end L2
namespace HT
open PySem PyProof.Rows
section
open PySem.SeqAt
open PySem.MeetsSeq PySem.MeetsSeq2 PySem.MeetsSeq3
end
section
variable{prog:Program}{w:World}{A:Around}{E:Value->Shared->Prop}{s:Shared}
theorem MP(ht:IsTup s.heap t vs.toArray)(hb:IsTup s.heap b ws.toArray)(hv:vs≠[])
  (h1:ws=[]->Q (.ref t) s) (h2:ws≠[]->Q (.ref s.heap.objs.size) {s with heap:=s.heap.push {cls:=.type "tuple",data:=.seq (vs++ws).toArray} })
  (hsz:vs.length+ws.length<=sizeLine):wpAny (model prog w) A (binaryOp .Add (.ref t) (.ref b)) Q E s:=by
 obtain⟨⟨cls,dd,data,sl⟩,ho,hc,n,hd⟩:=id ht;obtain⟨⟨cls2,dd2,data2,sl2⟩,ho2,hc2,n2,hd2⟩:=id hb;subst hc hd hc2 hd2
 have e:vs.toArray++ws.toArray=(vs++ws).toArray:=by simp
 by_cases hw:ws=[]
 .exact concat_meets ⟨_,ho,rfl⟩ ⟨_,ho2,rfl⟩ noFill_tuple_add seq_tuple_add P0z J0z (D0z _ _)
   (tuple_addW1 t b vs.toArray ws.toArray n n2 dd dd2 sl sl2 (by simpa using hv) (by simp[hw])) ⟨ho,ho2,h1 hw⟩
 .refine concat_meets ⟨_,ho,rfl⟩ ⟨_,ho2,rfl⟩ noFill_tuple_add seq_tuple_add P0z J0z (D0z _ _)
   (tuple_addW2 t b vs.toArray ws.toArray n n2 dd dd2 sl sl2 (by simpa using hv) (by simpa using hw) (by rw[P2z,P2z];exact hsz)) ⟨ho,ho2,?_⟩
  rw[e];exact h2 hw
def sIx(n d:Nat):Option Int->Nat
 |none=>d
 |some v=>if v<0 then(v+(n:Int)).toNat else min v.toNat n
theorem pJ(n d:Nat)(hd:d<=n)(o:Option Int):sIx n d o<=n:=by
 cases o with
 |none=>exact hd
 |some v =>
  show(if v<0 then(v+(n:Int)).toNat else min v.toNat n)<=n
  by_cases hv:v<0
  .rw[G7z hv];omega
  .rw[H7z hv];exact Nat.min_le_right _ _
theorem Cj(v:Int)(n d:Nat):(if v<0 then max (v+(n:Int)) 0 else min v (n:Int))=((sIx n d (some v):Nat):Int):=by
 show(if v<0 then max (v+(n:Int)) 0 else min v (n:Int))=(((if v<0 then(v+(n:Int)).toNat else min v.toNat n):Nat):Int)
 by_cases hv:v<0
 .simp only[G7z hv];omega
 .simp only[H7z hv];omega
theorem yp(lo hi:Option Int)(n:Nat):Builtin.Slice.sliceAdjust lo hi 1 (n:Int)=(((sIx n 0 lo:Nat):Int),((sIx n n hi:Nat):Int)):=by
 have h1:¬ ((1:Int)<0):=by omega
 unfold Builtin.Slice.sliceAdjust;simp only[h1,C7z];refine Prod.ext ?_ ?_
 .cases lo with
  |none=>rfl
  |some v=>exact Cj v n 0
 .cases hi with
  |none=>rfl
  |some v=>exact Cj v n n
theorem w6(i j:Nat):Builtin.Slice.slicePlaces (i:Int) (j:Int) 1=j-i:=by
 unfold Builtin.Slice.slicePlaces
 have h1:(1:Int)>0:=by omega
 simp only[h1,F7z,Int.ediv_one]
 split<;>omega
theorem mD{v:Value}{o:Option Int}{Q:Option Int->Shared->Prop}(p:IsPart v o)(h:Q o s):wpAny (model prog w) A (Builtin.Slice.slicePartIndex v) Q E s:=by
 cases p with
 |none=>exact slicePart_none h
 |int i t=>exact slicePart_int h
theorem jK{sl:Addr}{vl vu:Value}{lo hi:Option Int}{n:Nat}{Q:Int×Int×Nat->Shared->Prop}(hs:s.heap.IsSliceOf sl vl vu .none)(pl:IsPart vl lo)(pu:IsPart vu hi)
  (h:Q (((sIx n 0 lo:Nat):Int),1,sIx n n hi-sIx n 0 lo) s):wpAny (model prog w) A (Builtin.Slice.sliceApplied (.ref sl) (pure (n:Int))) Q E s:=by
 obtain⟨os,hos,hcs,hds⟩:=id hs;unfold Builtin.Slice.sliceApplied Builtin.Slice.sliceFields;refine R6z (R6z (M6z hos hds (x:=vl) rfl (R6z (M6z hos hds (x:=vu) rfl (R6z (M6z hos hds (x:=.none) rfl (S6z ?_)))))));refine R6z (slicePart_none ?_);show wpAny _ _ (if((1:Int)==0)=true then _ else _) _ _ s;rw[H7z (by decide)];refine R6z (mD pl (R6z (mD pu (R6z (S6z ?_)))));show wpAny _ _ (match Builtin.Slice.sliceAdjust lo hi 1 (n:Int) with|(lo,hi)=>pure (lo,(1:Int),Builtin.Slice.slicePlaces lo hi 1)) _ _ s;rw[yp lo hi n];show wpAny _ _ (pure (((sIx n 0 lo:Nat):Int),(1:Int),Builtin.Slice.slicePlaces ((sIx n 0 lo:Nat):Int) ((sIx n n hi:Nat):Int) 1)) _ _ s;rw[w6];exact S6z h
theorem Eh(xs:Array Value)(i k:Nat):((List.range k).filterMap λ(m:Nat)=>xs[((i:Int)+(m:Int)*1).toNat]?).toArray=((xs.toList.drop i).take k).toArray:=by
 have e:(λ(m:Nat)=>xs[((i:Int)+(m:Int)*1).toNat]?)=λm=>xs[i+m]?:=by
  funext m
  have:((i:Int)+(m:Int)*1).toNat=i+m:=by omega
  rw[this]
 rw[e];have:=pick_run xs i k;rw[List.filterMap_map] at this;have e2:((λx=>xs[x]?)∘λx=>i+x)=λm=>xs[i+m]?:=rfl;rw[e2] at this;rw[this]
theorem jm{t sl:Addr}{items:Array Value}{vl vu:Value}{lo hi:Option Int}{Q:Value->Shared->Prop}(ht:IsTup s.heap t items)(hs:s.heap.IsSliceOf sl vl vu .none)(pl:IsPart vl lo)(pu:IsPart vu hi)
  (hw:¬ (sIx items.size 0 lo=0/\sIx items.size items.size hi=items.size))
  (h:Q (.ref s.heap.objs.size) {s with heap:=s.heap.push {cls:=.type "tuple",data:=.seq ((items.toList.drop (sIx items.size 0 lo)).take (sIx items.size items.size hi-sIx items.size 0 lo)).toArray} })
  (hsz:items.size<=sizeLine):wpAny (model prog w) A (getItem (.ref t) (.ref sl)) Q E s:=by
 have htake:sizeOk (.seq ((items.toList.drop (sIx items.size 0 lo)).take (sIx items.size items.size hi-sIx items.size 0 lo)).toArray):=by
  show((items.toList.drop (sIx items.size 0 lo)).take (sIx items.size items.size hi-sIx items.size 0 lo)).toArray.size<=sizeLine;rw[P2z,G3z,H3z,M1z];omega
 have hj:sIx items.size items.size hi<=items.size:=pJ _ _ (I6z _) hi;obtain⟨os,hos,hcs,hds⟩:=id hs;have hTs:s.TypeIs (.ref sl) "slice":=⟨os,hos,hcs⟩;unfold getItem
 try with_reducible refine N5z ?_
 first|refine R6z (S6z ?_)|skip
 refine R6z (wpAny_sequenceKey ht.typeIs (by decide) ?_)
 refine R6z (wpAny_callSpecial?_slot (name:=Str.ofString "__getitem__") ht.typeIs PyProof.Rows.slot_tuple_getitem
  (I3z PyProof.Rows.slot_tuple_getitem ht.typeIs entry_tuple_getitem ?_ (args_tuple_getitem _ _)))
 show wpAny _ _ (Builtin.Tuple.tupleItemsOf (.ref t) >>=_) _ _ s;refine R6z (tupleItemsOf_ ht ?_);refine R6z (F6z hTs ?_);rw[G7z (by decide)];refine R6z (jK hs pl pu ?_)
 have hno:¬ ((((sIx items.size 0 lo:Nat):Int)==0&&(1:Int)==1&&(sIx items.size items.size hi-sIx items.size 0 lo)==items.size)=true):=by
  intro q;rw[J3z,J3z] at q;have q1:((sIx items.size 0 lo:Nat):Int)=0:=eq_of_beq q.1.1;have q2:sIx items.size items.size hi-sIx items.size 0 lo=items.size:=eq_of_beq q.2;exact hw ⟨by omega,by omega⟩
 show wpAny _ _ (if(((sIx items.size 0 lo:Nat):Int)==0&&(1:Int)==1&&(sIx items.size items.size hi-sIx items.size 0 lo)==items.size)=true then _ else _) _ _ s;rw[H7z hno,Eh]
 first
  |exact R6z (m:=Builtin.Tuple.tupleExact _) (M2z (S6z ⟨_,rfl,S6z h⟩) htake)
  |exact R6z (m:=Builtin.Tuple.tupleExact _) (M2z (R6z (S6z (S6z ⟨_,rfl,S6z h⟩))) htake)
  |exact R6z (R6z (m:=Builtin.Tuple.tupleExact _) (M2z (S6z (S6z ⟨_,rfl,S6z h⟩)) htake))
  |exact R6z (R6z (m:=Builtin.Tuple.tupleExact _) (M2z (S6z ⟨_,rfl,S6z h⟩) htake))
end
end HT
namespace L2
open PySem PySem.Spec PyProof.Rows
abbrev TO:=St->Hp->(Option Int->Hp->Prop)->Prop
def PO(X:Cx)(e:Option Expr)(t:TO):Prop :=
  ∀(z0:List (Addr×Obj))(s:Shared)(σ:St)(H:Hp)(Q:Option Int->Hp->Prop), Inv X z0 σ H s->t σ H Q ->
    wpAny (model X.prog X.w) X.A (evalPart e X.env) (λu s'=>∃o H',Inv X z0 σ H' s'/\IsPart u o/\Q o H') X.xe s
def Jd:TO:=λ_ H Q=>Q none H
def Tz(t:TE):TO:=λσ H Q=>t σ H λx H1=>∃i,x=.int i/\Q (some i) H1
theorem intsAre_of:∀{us:List Value},Vals (ns.map V.int) us->IntsAre us ns:=by
 induction ns with
 |nil=>intro us r;rw[G6z] at r;cases r;exact .nil
 |cons n ns ih =>
  intro us r
  cases r with
  |cons r1 r2 =>
   obtain⟨t,e⟩:=r1;subst e;exact .cons n t (ih r2)
section
variable{X:Cx}{e:Expr}{te:TE}{lo hi:Option Expr}{tl th:TO}{pos p2:Pos}
theorem JZ:PO X none Jd:=by
 intro z0 s σ H Q I h;rw[evalPart_none];exact S6z ⟨none,H,I,.none,h⟩
theorem JX(h:PE X e te):PO X (some e) (Tz te):=by
 intro z0 s σ H Q I hw;rw[evalPart_some];refine thn (h z0 s σ H _ I hw) λu s1 ⟨x,H1,I1,r1,q1⟩=>?_;obtain⟨i,rfl,q⟩:=q1;obtain⟨t,rfl⟩:=r1;exact⟨some i,H1,I1,.int i t,q⟩
def SlR(X:Cx)(r:V->Option Int->Option Int->Hp->VK->Prop):Prop :=
  ∀(z0:List (Addr×Obj))(s:Shared)(σ:St)(H:Hp)(x:V)(v vl vu:Value)(lo hi:Option Int)(sl:Addr)(Q:VK), Inv X z0 σ H s->RelV x v->s.heap.IsSliceOf sl vl vu .none->IsPart vl lo->IsPart vu hi->r x lo hi H Q ->
    ∃T id,typeLookup (.type T) "__getitem__"=pure (some (.builtin id))/\s.TypeIs v T/\wpAny (model X.prog X.w) X.A (getItem v (.ref sl)) (EP X z0 σ Q) X.xe s
def tSl(r:V->Option Int->Option Int->Hp->VK->Prop)(te:TE)(tl th:TO):TE:=λσ H Q=>te σ H λx H1=>tl σ H1 λl H2=>th σ H2 λu H3=>r x l u H3 Q
theorem uR{r:V->Option Int->Option Int->Hp->VK->Prop}(hr:SlR X r)(he:PE X e te)(hl:PO X lo tl)(hu:PO X hi th):PE X (.Subscript e (.Slice lo hi none p2) pos) (tSl r te tl th):=by
 intro z0 s σ H Q I h;refine Subscript_ (thn (he z0 s σ H _ I h) λv s1 ⟨x,H1,I1,r1,q1⟩=>?_);refine wpAny_Slice (thn (hl z0 s1 σ H1 _ I1 q1) λvl s2 ⟨l,H2,I2,pl,q2⟩=>thn (hu z0 s2 σ H2 _ I2 q2) λvu s3 ⟨u,H3,I3,pu,q3⟩=>?_);rw[evalPart_none];refine S6z ?_;have I4:Inv X z0 σ H3 {s3 with heap:=s3.heap.push {cls:=.type "slice",data:=.fields #[vl,vu,.none]} }:=I3.kept (t':=s3.toks) λb ob q=>Heap.get?_push_of_some _ q;obtain⟨T,id,hT,ht,hg⟩:=hr z0 {s3 with heap:=s3.heap.push {cls:=.type "slice",data:=.fields #[vl,vu,.none]} } σ H3 x v vl vu l u s3.heap.objs.size Q I4 r1 (Heap.IsSliceOf.new ..) pl pu q3;show wpAny (model X.prog X.w) X.A (subscriptTail e (.Slice lo hi none p2) v (.ref s3.heap.objs.size)) (EP X z0 σ Q) X.xe {s3 with heap:=s3.heap.push {cls:=.type "slice",data:=.fields #[vl,vu,.none]} };exact tail_any (ops:=[.ref s3.heap.objs.size,v]) ht hT hg (by with_unfolding_all rfl)
def N7(xs:List V)(lo hi:Option Int):List V:=(xs.drop (HT.sIx xs.length 0 lo)).take (HT.sIx xs.length xs.length hi-HT.sIx xs.length 0 lo)
theorem tU(xs:List V)(lo hi:Option Int):(N7 xs lo hi).length<=xs.length:=by
 unfold N7;rw[G3z,H3z];omega
def Xg(K:Zf):V->Option Int->Option Int->Hp->VK->Prop:=λx lo hi H Q=>∃a xs,x=.ref a/\SqT K H a xs /\
 ¬ (HT.sIx xs.length 0 lo=0/\HT.sIx xs.length xs.length hi=xs.length)/\∀p,H p=none->Q (.ref p) (upd H p (.tup (N7 xs lo hi)))
theorem Pq:SlR X (Xg X.K):=by
 intro z0 s σ H x v vl vu lo hi sl Q I rx hs pl pu h;obtain⟨a,xs,rfl,hx,hw,q⟩:=h;cases rx;obtain⟨its,r,ht,hz⟩:=I.tuple hx
 have hlen:its.toArray.size=xs.length:=by rw[P2z];exact r.length.symm
 refine⟨"tuple",_,PyProof.Rows.slot_tuple_getitem.lookup,ht.typeIs,?_⟩;refine HT.jm ht hs pl pu (by rw[hlen];exact hw) ?_ (by rw[hlen];exact hz);rw[hlen];refine⟨.ref s.heap.objs.size,_,I.laid (t':=s.toks) (o:=.tup (N7 xs lo hi)) (λb ob q=>Heap.get?_push_of_some _ q) (I6z _) ?_,rfl,q _ (I.hok.fresh (I6z _))⟩;exact⟨B6z (tU xs lo hi) hz,_,(r.drop (HT.sIx xs.length 0 lo)).take (HT.sIx xs.length xs.length hi-HT.sIx xs.length 0 lo),Z6z _ _⟩
def Ut(K:Zf):R2:=λx y H Q=>∃a b xs ys,x=.ref a/\y=.ref b/\SqT K H a xs/\SqT K H b ys/\xs≠[]/\xs.length+ys.length<=sizeLine /\
 (ys=[]->Q (.ref a) H)/\(ys≠[]->∀p,H p=none->Q (.ref p) (upd H p (.tup (xs++ys))))
theorem Vals.nil_iff(r:Vals xs us):us=[]↔xs=[]:=by
 cases r with
 |nil=>simp
 |cons _ _=>simp
theorem Kg:OpR X (binaryOp .Add) (Ut X.K):=by
 intro z0 s σ H x y v u Q I rx ry h;obtain⟨a,b,xs,ys,rfl,rfl,ha,hb,hx,hz,q1,q2⟩:=h;cases rx;cases ry;obtain⟨its,r1,p1,_⟩:=I.tuple ha;obtain⟨its2,r2,p2,_⟩:=I.tuple hb;refine HT.MP p1 p2 (λz=>hx (r1.nil_iff.mp z)) (λz=>⟨.ref a,H,I,rfl,q1 (r2.nil_iff.mp z)⟩) (λz=>?_) (by rw[<- r1.length,<- r2.length];exact hz);refine⟨.ref s.heap.objs.size,_,I.laid (λb ob q=>Heap.get?_push_of_some _ q) (I6z _) ?_,rfl,q2 (λw=>z (r2.nil_iff.mpr w)) _ (I.hok.fresh (I6z _))⟩;exact⟨by rw[B2z];exact hz,_,r1.append r2,Z6z _ _⟩
end
def ixN(n:Nat)(i:Int):Option Nat:=if 0<=i then(if i<n then some i.toNat else none) else if -(n:Int)<=i then some (i+n).toNat else none
def atI{α:Type}(xs:List α)(i:Int):Option α:=(ixN xs.length i).bind λj=>xs[j]?
theorem K7(h:ixN n i=some j):seqIndex? i n=some j/\j<n /\ -(n:Int)<=i/\i<n:=by
 unfold ixN at h
 by_cases h0:0<=i
 .rw[G7z h0] at h
  by_cases h1:i<n
  .rw[G7z h1] at h
   have e:=C4z h;exact⟨by rw[seqIndex_of h0 h1,e],by omega,by omega,h1⟩
  .rw[H7z h1] at h;cases h
 .rw[H7z h0] at h
  by_cases h1:-(n:Int)<=i
  .rw[G7z h1] at h
   have e:=C4z h;exact⟨by rw[seqIndex_neg (by omega) h1,e],by omega,h1,by omega⟩
  .rw[H7z h1] at h;cases h
theorem CG(h:atI xs i=some v):∃j,seqIndex? i xs.length=some j/\xs[j]?=some v/\j<xs.length /\ -(xs.length:Int)<=i/\i<xs.length:=by
 unfold atI at h
 cases e:ixN xs.length i with
 |none=>rw[e] at h;cases h
 |some j =>
  rw[e] at h;obtain⟨h1,h2,h3,h4⟩:=K7 e;exact⟨j,h1,h,h2,h3,h4⟩
def CW(b:Expr):Prop:=∀o i,subscripted b false o i=operate [o,i] (getItem o i)
def IxR(X:Cx)(r:R2):Prop :=
  ∀(value slice:Expr)(z0:List (Addr×Obj))(s:Shared)(σ:St)(H:Hp)(x y:V)(v u:Value)(Q:VK), Inv X z0 σ H s->RelV x v->RelV y u->r x y H Q ->
    subscripted slice false v u=operate [v,u] (getItem v u)->wpAny (model X.prog X.w) X.A (subscriptTail value slice v u) (EP X z0 σ Q) X.xe s
def MtR(X:Cx)(id:String)(r:V->List V->Hp->VK->Prop):Prop :=
  ∀(z0:List (Addr×Obj))(s:Shared)(σ:St)(H:Hp)(x:V)(xs:List V)(v:Value)(us:List Value)(Q:VK), Inv X z0 σ H s->RelV x v->Vals xs us->r x xs H Q ->
    wpAny (model X.prog X.w) X.A (call (.builtin id) (v::us)) (EP X z0 σ Q) X.xe s
section
variable{X:Cx}{a b:Expr}{ta tb:TE}{pos:Pos}
theorem z7(hr:IxR X r)(ha:PE X a ta)(hb:PE X b tb)(hs:CW b):PE X (.Subscript a b pos) (tOp r ta tb):=by
 exact λz0 s σ H Q I h=>Subscript_ (VB ha hb I h λv u s2 x y H2 I2 rx ry q=>hr a b z0 s2 σ H2 x y v u Q I2 rx ry q (hs _ _))
def Xj(K:Zf):R2:=λx y H Q=>∃p xs i v,x=.ref p/\y=.int i/\SqL K H p xs/\atI xs i=some v/\Q v H
def Xi(K:Zf):R2:=λx y H Q=>∃p xs i v,x=.ref p/\y=.int i/\SqT K H p xs/\atI xs i=some v/\Q v H
theorem K6:IxR X (Xj X.K):=by
 intro value slice z0 s σ H x y v u Q I rx ry h hs;obtain⟨p,xs,i,z,rfl,rfl,hq,he,q⟩:=h;cases rx;obtain⟨t,rfl⟩:=ry;obtain⟨its,r,pl,hz⟩:=I.list hq;obtain⟨j,h1,h2,h3,h4,h5⟩:=CG he;obtain⟨w,ew,rw'⟩:=r.get h2;have hl:=r.length;have hn:=vh;have fin:EP X z0 σ Q w s:=⟨z,H,I,rw',q⟩
 by_cases h0:0<=i
 .have hj:i.toNat=j:=by
   rw[seqIndex_of h0 h5] at h1;exact C4z h1
  exact item_listR pl.isList h0 (by omega) (by rw[hj];simpa using ew) fin hs
 .have hj:(i+(its.toArray.size:Int)).toNat=j:=by
   rw[seqIndex_neg (by omega) h4] at h1;rw[P2z,<- hl];exact C4z h1
  exact subscriptTail_builtinR pl.isList.typeIs slot_list_getitem.lookup
   (wpAny_getItem_list_neg pl.isList (by omega) (by rw[P2z]<;>omega) (by omega) (by rw[hj];simpa using ew) ⟨rfl,fin⟩) hs
theorem vB:IxR X (Xi X.K):=by
 intro value slice z0 s σ H x y v u Q I rx ry h hs;obtain⟨p,xs,i,z,rfl,rfl,hq,he,q⟩:=h;cases rx;obtain⟨t,rfl⟩:=ry;obtain⟨its,r,pl,hz⟩:=I.tuple hq;obtain⟨j,h1,h2,h3,h4,h5⟩:=CG he;obtain⟨w,ew,rw'⟩:=r.get h2;have hl:=r.length;have hn:=vh;have fin:EP X z0 σ Q w s:=⟨z,H,I,rw',q⟩
 exact subscriptTail_builtinR pl.typeIs slot_tuple_getitem.lookup
  (getItem_tuple pl (by omega) (by omega) (by rw[P2z,<- hl];exact h1) (by simpa using ew) ⟨rfl,fin⟩) hs
theorem jF:dz X (.builtin "len") (λxs H Q=>∃p ys,xs=[.ref p]/\(SqL X.K H p ys\/SqT X.K H p ys)/\Q (.int ys.length) H):=by
 intro z0 s σ H xs us Q I r h;obtain⟨p,ys,rfl,hq,q⟩:=h;obtain⟨u,rfl,rx⟩:=vals1 r;cases rx;have hn:=vh;obtain hq|hq:=hq
 .obtain⟨its,r',pl,hz⟩:=I.list hq
  have hlen:=r'.length;exact Calls.call_len_list pl.isList (by simp[P2z]<;>omega) ⟨.int ys.length,H,I.tok _,⟨s.toks+1,by rw[P2z,hlen]⟩,q⟩
 .obtain⟨its,r',pl,hz⟩:=I.tuple hq
  have hlen:=r'.length;exact len_tuple pl (by simp[P2z]<;>omega) ⟨.int ys.length,H,I.tok _,⟨s.toks+1,by rw[P2z,hlen]⟩,q⟩
theorem qU:dz X (.builtin "len") (λxs H Q=>∃z,xs=[.str z]/\z.length<=sizeLine/\Q (.int z.length) H):=by
 intro z0 s σ H xs us Q I r h;obtain⟨z,rfl,hz,q⟩:=h;obtain⟨u,rfl,t,rfl⟩:=vals1 r;have hn:=vh;exact len_str (by omega) ⟨.int z.length,H,I.tok _,⟨_,rfl⟩,q⟩
theorem oU:dz X (.type "tuple") (λxs H Q=>∃p ys,xs=[.ref p]/\((SqL X.K H p ys/\∀l,H l=none->Q (.ref l) (upd H l (.tup ys)))\/(SqT X.K H p ys/\Q (.ref p) H))):=by
 intro z0 s σ H xs us Q I r h;obtain⟨p,ys,rfl,h⟩:=h;obtain⟨u,rfl,rx⟩:=vals1 r;cases rx;obtain⟨hq,q⟩|⟨hq,q⟩:=h
 .obtain⟨its,r',pl,hz⟩:=I.list hq
  have hlen:=r'.length;refine call_tuple_list pl.isList (λh' kp=>?_) (by simp[P2z]<;>omega);have I1:=I.kept (t':=s.toks) kp
  have I2 :=
   I1.laid (t':=s.toks) (λb o e=>Heap.get?_push_of_some _ e) (I6z _) (show dR X.prog X.w _ _ _ (.tup ys) from⟨hz,its,r',Z6z _ _⟩)
  exact⟨.ref h'.objs.size,_,I2,rfl,q _ (I1.hok.fresh (I6z _))⟩
 .obtain⟨its,r',pl,hz⟩:=I.tuple hq
  exact call_tuple_same pl ⟨.ref p,H,I,rfl,q⟩
def tyV(K:Zf)(T:String)(x:V)(H:Hp):Prop:=match x with
 |.str _=>T="str"
 |.int _=>T="int"
 |.ref p=>(T="list"/\∃xs, SqL K H p xs) \/ (T="tuple"/\∃o, K.lookup p=some o/\o.cls=.type "tuple"/\o.dict=none) \/
   (T="dict"/\((∃kvs,H p=some (.dK kvs))\/∃kvs,H p=some (.dT kvs)))\/(T="set"/\∃S n,H p=some (.set S n))
 |_=>False
theorem Hj(I:Inv X z0 σ H s)(r:RelV x v)(ty:tyV X.K T x H) :
  s.TypeIs v T/\∀a,v=.ref a->∃ob,s.heap.get? a=some ob/\ob.dict=none:=by
 cases x with
 |str z =>
  obtain⟨t,rfl⟩:=r;cases ty;exact⟨U6z s z t,λ_ e=>nomatch e⟩
 |int i =>
  obtain⟨t,rfl⟩:=r;cases ty;exact⟨typeIs_int s i t,λ_ e=>nomatch e⟩
 |ref p =>
  cases r;obtain⟨rfl,xs,hq⟩|⟨rfl,o,hk,hc,hd⟩|⟨rfl,hk⟩|⟨rfl,S,n,hk⟩:=ty
  .obtain⟨its,_,pl,_⟩:=I.list hq
   refine⟨pl.isList.typeIs,λa e=>?_⟩;cases e;obtain⟨o,n,e,c,hd,_⟩:=pl;exact⟨o,e,hd⟩
  .refine⟨⟨o,I.kIn p o hk,hc⟩,λa e=>?_⟩
   cases e;exact⟨o,I.kIn _ o hk,hd⟩
  .have z:∃o,s.heap.get? p=some o/\o.ExactDict:=by
    obtain⟨kvs,hk⟩|⟨kvs,hk⟩:=hk
    .obtain⟨_,_,_,_,o,_,_,e,ex,_⟩:=I.hok p _ hk
     exact⟨o,e,ex⟩
    .obtain⟨_,_,_,_,o,_,_,e,ex,_⟩:=I.hok p _ hk
     exact⟨o,e,ex⟩
   obtain⟨o,e,ex⟩:=z;refine⟨⟨o,e,ex.1⟩,λa e2=>?_⟩;cases e2;exact⟨o,e,ex.2.1⟩
  .obtain⟨o,_,_,_,e,ex,_⟩:=I.hok p _ hk
   refine⟨⟨o,e,ex.1⟩,λa e2=>?_⟩;cases e2;exact⟨o,e,ex.2.1⟩
 |_=>exact False.elim ty
def W8(K:Zf)(T:String)(r:V->List V->Hp->VK->Prop)(to:TE):TE:=λσ H Q=>to σ H λx H1=>tyV K T x H1/\r x [] H1 Q
def tBM(K:Zf)(T:String)(r:V->List V->Hp->VK->Prop)(to:TE)(t:TA):TE:=λσ H Q=>to σ H λx H1=>tyV K T x H1/\t σ H1 λxs H2=>r x xs H2 Q
variable{o e:Expr}{es:List Expr}{to:TE}{t:TA}{name:Str}{apos cpos:Pos}{T id:String}{r:V->List V->Hp->VK->Prop}
theorem Qm(pa:PlainAttrs T)(slot:Slot T name id)(hty:typeOf (.builtin id)=pure (.type "method_descriptor"))(hm:MtR X id r)(ho:PE X o to)
  (hbase:attributeBase o name X.env (eval o X.env)=eval o X.env:=by rfl) (hline:(apos.endLine==cpos.line)=true:=by rfl):PE X (.Call (.Attribute o name apos) [] [] cpos) (W8 X.K T r to):=by
 intro z0 s σ H Q I h;refine wpAny_Call_method0_late hbase hline (thn (ho z0 s σ H _ I h) λv s1 ⟨x,H1,I1,r1,ty,q1⟩=>?_);obtain⟨h1,h2⟩:=Hj I1 r1 ty;exact⟨T,id,pa,slot,hty,h1,h2,Q0z rfl (PySem.evalArgs_none (hm z0 s1 σ H1 x [] v [] Q I1 r1 .nil q1))⟩
theorem lW(pa:PlainAttrs T)(slot:Slot T name id)(hty:typeOf (.builtin id)=pure (.type "method_descriptor"))(hm:MtR X id r)(ho:PE X o to)(ha:PA X (e::es) t)
  (hbase:attributeBase o name X.env (eval o X.env)=eval o X.env:=by rfl)
  (hfew:((backTo cpos (starEach (e :: es) X.env)).all (λx => !x.1) && (backToKw cpos (keywordEach [] X.env)).all (λx=>x.1.isSome)
   && decide ((e::es).length+([]:List Keyword).length+(if([]:List Keyword).isEmpty then 0 else 1)<30))=true:=by rfl)
  (hline:(apos.endLine==cpos.line)=true:=by rfl) (hs:starEach (e::es) X.env=(false,eval e X.env)::starEach es X.env:=by rfl) (hplain:(backTo cpos (starEach es X.env)).any (·.1)=false:=by rfl) :
  PE X (.Call (.Attribute o name apos) (e::es) [] cpos) (tBM X.K T r to t):=by
 intro z0 s σ H Q I h;refine wpAny_Call_method_late hbase hfew hline rfl (thn (ho z0 s σ H _ I h) λv s1 ⟨x,H1,I1,r1,ty,q1⟩=>?_);obtain⟨h1,h2⟩:=Hj I1 r1 ty;refine⟨T,id,pa,slot,hty,h1,h2,?_⟩;have hA:=ha cpos z0 s1 σ H1 _ I1 q1;rw[hs] at hA ⊢;exact Q0z (by show(false||(backTo cpos (starEach es X.env)).any (·.1))=false;rw[hplain]<;>rfl) (G1z (thn hA λus s2 ⟨vs,H2,I2,r2,q2⟩=>hm z0 s2 σ H2 x vs v us Q I2 r1 r2 q2))
end
def MtM(X:Cx)(id:String)(r:V->List V->Hp->VK->Prop):Prop :=
  ∀(z0:List (Addr×Obj))(s:Shared)(σ:St)(H:Hp)(x:V)(xs:List V)(v:Value)(us:List Value)(Q:VK), Inv X z0 σ H s->RelV x v->Vals xs us->r x xs H Q ->
    wpAny (model X.prog X.w) X.A (call (.builtin id) (v::us)) (EP X z0 σ Q) X.xe s
theorem Vals.one:∀{x:V}{us:List Value},Vals [x] us->∃u,us=[u]/\RelV x u
 |_,_,.cons r .nil=>⟨_,rfl,r⟩
theorem Vals.zero:∀{us:List Value},Vals [] us->us=[]
 |_,.nil=>rfl
theorem Vals.dropLast(h:Vals xs us):Vals xs.dropLast us.dropLast:=by
 induction h with
 |nil=>exact .nil
 |cons r t ih =>
  cases t with
  |nil=>exact .nil
  |cons q t'=>exact .cons r ih
theorem xX(l:List α):l.eraseIdx (l.length-1)=l.dropLast:=by
 induction l with
 |nil=>rfl
 |cons a r ih =>
  cases r with
  |nil=>rfl
  |cons b r =>
   have e:(a::b::r).length-1=((b::r).length-1)+1:=by
    have h1:(a::b::r).length=r.length+2:=rfl;have h2:(b::r).length=r.length+1:=rfl;omega
   rw[e,List.eraseIdx_cons_succ,ih]
   all_goals rfl
section
variable{X:Cx}{z0:List (Addr×Obj)}{σ:St}{H:Hp}{s:Shared}{l b:Addr}{xs ys zs:List V}
theorem Inv.lset{its its':List Value}(I:Inv X z0 σ H s)(hH:H l=some (.lst xs))
  (e:s.heap.get? l=some {cls:=.type "list",data:=.seq its.toArray n}) (hf:f its.toArray=its'.toArray) (hv:Vals ys its') (hz:ys.length<=sizeLine) :
  Inv X z0 σ (upd H l (.lst ys)) {s with heap:=s.heap.update l (Obj.mapSeq f),toks:=t'}:=by
 have q:=PySem.IsL.update e f;rw[hf] at q;refine I.write (by rw[hH];exact trivial) (.inl rfl) (λb' u hb hu=>(Heap.get?_update_other s.heap (Obj.mapSeq f) (E7z hb)).trans hu) ⟨_,q⟩ ?_;exact⟨hz,its',_,hv,q⟩
theorem Inv.lnew(I:Inv X z0 σ H s)(hv:Vals ys its)(hz:ys.length<=sizeLine) :
  Inv X z0 σ (upd H s.heap.objs.size (.lst ys)) {s with heap:=s.heap.push {cls:=.type "list",data:=.seq its.toArray},toks:=t'} :=
 I.laid (λ_ _ q=>Heap.get?_push_of_some _ q) (I6z _) ⟨hz,its,0,hv,Heap.get?_push_size _ rfl⟩
theorem Inv.lstM(I:Inv X z0 σ H s)(hH:H l=some (.lst xs)):xs.length<=sizeLine/\∃(its:List Value)(n:Nat),Vals xs its/\xs.length=its.length/\s.heap.get? l=some {cls:=.type "list",data:=.seq its.toArray n}:=by
 obtain⟨z,its,n,r,e⟩:=I.hok l _ hH;exact⟨z,its,n,r,r.length,e⟩
theorem uY(h:n<=sizeLine):Builtin.List.listTooLong n=false:=by
 exact B4z (by omega)
end
section
variable{X:Cx}
def JN:V->List V->Hp->VK->Prop:=λx vs H Q=>∃l xs y,x=.ref l/\vs=[y]/\H l=some (.lst xs)/\xs.length<sizeLine/\Q .non (upd H l (.lst (xs++[y])))
theorem iQ:MtM X "list.append" JN:=by
 intro z0 s σ H x vs v us Q I rx rv h;obtain⟨l,xs,y,rfl,rfl,hH,hz,q⟩:=h;cases rx;obtain⟨u,rfl,ru⟩:=rv.one;obtain⟨z,its,n,r,hl,e⟩:=I.lstM hH;refine V6z F.slot_list_append ⟨_,e,rfl⟩ F.entry_list_append (F.args_list_append_2 _ _) (PySem.list_append l its.toArray n u (by rw[P2z];omega)) ⟨e,?_⟩;refine⟨.non,_,I.lset hH e (by simp) (r.append (.cons ru .nil)) ?_,rfl,q⟩;rw[B2z,List.length_singleton];omega
def Xh:V->List V->Hp->VK->Prop:=λx vs H Q=>∃l xs y,x=.ref l/\vs=[]/\H l=some (.lst xs)/\xs[xs.length-1]?=some y/\Q y (upd H l (.lst xs.dropLast))
theorem QJ:MtM X "list.pop" Xh:=by
 intro z0 s σ H x vs v us Q I rx rv h;obtain⟨l,xs,y,rfl,rfl,hH,hy,q⟩:=h;cases rx;have hus:=rv.zero;subst hus;obtain⟨z,its,n,r,hl,e⟩:=I.lstM hH;obtain⟨u,hu,ru⟩:=r.get hy
 have hy':its.toArray[its.toArray.size-1]?=some u:=by
  show its.toArray[its.length-1]?=some u;rw[<- Array.getElem?_toList,<- hl];exact hu
 refine V6z F.slot_list_pop ⟨_,e,rfl⟩ F.entry_list_pop (F.args_list_pop_1 _) (MeetsSeq.list_pop_last l its.toArray n u hy' (by rw[P2z];omega)) ⟨e,?_⟩
 refine⟨y,_,I.lset hH e ?_ r.dropLast ?_,ru,q⟩
 .rw[P2z,List.eraseIdxIfInBounds_toArray,xX]
 .rw[List.length_dropLast]
  omega
end
section
variable{prog:Program}{w:World}{A:Around}{E:Value->Shared->Prop}{s:Shared}
end
section
variable{X:Cx}
end
end L2
namespace Att
open PySem PySem.W PySem.Calls PyProof.Rows
theorem lC:∀(ns:List Int)(vs:List Value),WellAll P h vs (ns.map WData.int)->IntsAre vs ns:=by
 intro ns
 induction ns with
 |nil =>
  intro vs w;cases w;exact .nil
 |cons n ns ih =>
  intro vs w
  cases w with
  |cons a b =>
   cases a;exact .cons _ _ (ih _ b)
theorem zF{l:OpenLaw}(hn:l.most=some n)
  (hpre:l.row.toRowW.claim.pre args=true) (hwl:WellAll P h vals args) :
  ∃a vs ns,vals=[Value.ref a]/\args=[WData.list (ns.map WData.int)]/\h.get? a=some {cls:=.type "list",data:=.seq vs.toArray}/\IntsAre vs ns/\ns.length<=n:=by
 have hc:l.pre.holds [] {args:=args}=true:=(pre_splitW hpre).2;obtain⟨d,r,rfl,h1,h2⟩:=hasAllW_cons ((pre_splitW hpre).1);obtain rfl:=hasAllW_nil h2;obtain⟨xs,rfl,h3⟩:=hasW_list h1;obtain⟨ns,rfl⟩:=items_int h3
 have hlen:ns.length<=n:=by
  have h4:(WTm.not (.lt (.lit (.int n)) (.len (.arg 0)))).holds [] {args:=[.list (ns.map .int)]}=true:=by
   have h4:=(holds_andW hc).1;rw[hn] at h4;exact h4
  have h5:=condW_of h4 (w_not (w_lt w_lit (w_len_list (w_arg rfl))));refine Nat.le_of_not_lt λq=>?_
  first
   |(rw[A5z q'] at h5;exact absurd h5 rfl)
   |(simp at h5;omega)
 cases hwl with
 |cons w1 w2 =>
  cases w2
  cases w1 with
  |list ho hall=>exact⟨_,_,ns,rfl,rfl,ho,lC ns _ hall,hlen⟩
theorem zY(l:OpenLaw)(args:List WData):l.row.toRowW.claim.post args (.bool true) args=true :=
 postW_of
  (show WShape.has [] (.bool true) .bool=true by first|rfl|decide|simp[WShape.has])
  (w_eq_bool (w_res rfl) w_lit) rfl
theorem uc{l:OpenLaw}
  (hn:l.most=some n) (hdf:d.params.defaults=[])
  (call:∀(w:World)(s₀ s₁:Shared)(mg mb:Str->Option Value)(fa:Addr)(o:Obj)(pm cd doc:Value)(a:Addr)(vs:List Value)(ns:List Int),
   Ground q loose [] XP w s₀ mg mb s₁.heap->YP w s₁.heap ->
   s₁.heap.get? fa=some o->o.data=.func (docDef d.name d.params d.body d.scope pm cd doc)->s₁.heap.CodeRec cd d.name->mg d.name=some (.ref fa) ->
   s₁.heap.get? a=some {cls:=.type "list",data:=.seq vs.toArray}->IntsAre vs ns->ns.length<=n->s₁.gens = #[] ->
   codeAny (model l.prog w) callerA (.call (.ref fa) ⟨[.ref a],[]⟩) (λr s'=>r=.ok (.ret (.bool true))/\OldK s₁.heap s'.heap/\s'.os=s₁.os/\AllBare s'.gens) s₁) :
  WalkO q loose XP YP l.row.toRowW d [] (λf vs=>PySem.call f vs):=by
 intro w s₀ s₁ mg mb G Y fa o pm cd doc dV kV ho hd hcd hD hmg hg args vals as hpre hlay hrd hwl hlo;obtain rfl:dV=.none:=Dflts.none hD hdf;obtain rfl:kV=.none:=Dflts.noKw hD;obtain⟨a,vs,ns,rfl,rfl,hobj,hints,hlen⟩:=zF hn hpre hwl;refine enter_call (E6z (call w s₀ s₁ mg mb fa o pm cd doc a vs ns G Y ho (fd_plain hd) hcd hmg hobj hints hlen hg) λr s' hq=>?_);obtain⟨rfl,h2,h3,h4⟩:=hq;exact⟨.inl ⟨.bool true,.bool true,[],rfl,λ_=>rfl,.bool true,zY l _,λ_=>⟨List.Pairwise.nil,λ_ hm=>(nomatch hm)⟩⟩,h2,h3,h4⟩
section
variable{prog:Program}{w:World}{A:Around}{E:Value->Shared->Prop}{s:Shared}{K:Frag}
def ledger(h:Heap)(L d:Addr):List (Addr×Obj):=(List.range h.objs.size).filterMap λa=>if a=L\/a=d then none else(h.get? a).map λo=>(a,o)
end
end Att
namespace L2
open PySem PySem.Spec PyProof.Rows
theorem pq:∀{vs:List Value}{ns:List Int},IntsAre vs ns->Vals (ns.map V.int) vs
 |_,_,.nil=>.nil
 |_,_,.cons n t h=>.cons ⟨t,rfl⟩ (pq h)
def Only(H:Hp):Prop:=∀b,H b=none\/∃o xs,H b=some (.frz o (.lst xs))
theorem Fx{P:Program}{w:World}{K:Zf}{mg mb:Str->Option Value}{CX:CXT}{k:Nat}{fa a:Addr}{fd:FuncData}{x:Str}{sp:Sp}{s₁:Shared}{vs:List Value}{ns:List Int}
  (KX:K.In s₁.heap) (hns:s₁.heap.Ns mainGlobals mg) (hb:s₁.heap.Ns builtinsNs mb) (hbb:∀x:Str,x≠"__name__"->mb x=bootBuiltins x) (hlim:s₁.heap.NoLimit) (hg:s₁.gens = #[])
  (ha:s₁.heap.get? a=some {cls:=.type "list",data:=.seq vs.toArray}) (hi:IntsAre vs ns) (hl:ns.length<=sizeLine) (hr:Room k callerA)
  (F:∀base:Heap,K.In base->base.Ns mainGlobals mg->FnOk P w K mg base CX k fa fd [x] sp) (hbind:∀(s:Shared)(u:Value),BindsTo s fd ⟨[u],[]⟩ [(x,u)])
  (hsp:∀H:Hp,Only H->SqL K H a (ns.map V.int)->sp [.ref a] H (λv _=>v=.bl true) λ_ _ _=>False)
  (hCX:∀H e s',CX [] H s₁ (λ_ _ _=>False) e s'->False) :
  codeAny (model P w) callerA (.call (.ref fa) ⟨[.ref a],[]⟩) (λr s'=>r=.ok (.ret (.bool true))/\OldK s₁.heap s'.heap/\s'.os=s₁.os/\AllBare s'.gens) s₁:=by
 have rv:=pq hi;have lenV:=hi.length
 have core:∀H:Hp,Only H->SqL K H a (ns.map V.int)->HOk P w H s₁.heap->(∀b,H b≠none->b=a)->(H a≠none->K.lookup a=none) ->
   codeAny (model P w) callerA (.call (.ref fa) ⟨[.ref a],[]⟩) (λr s'=>r=.ok (.ret (.bool true))/\OldK s₁.heap s'.heap/\s'.os=s₁.os/\AllBare s'.gens) s₁:=by
  intro H hO hS hok hA hK;have base_of:∀{b:Addr}{o:Obj},s₁.heap.get? b=some o->H b=none->(FW s₁.heap H).get? b=some o:=λe n=>FT e n
  have noA:∀{b:Addr}{o:Obj}{es:Array DictEntry}{ep:Nat},s₁.heap.get? b=some o->o.data=.dict es ep->H b=none:=λ{b o es ep} e d=>by
   cases q:H b with
   |none=>rfl
   |some u =>
    have e':b=a:=hA b (by rw[q];simp)
    subst e';rw[ha] at e;cases e;have d':Data.seq vs.toArray _=Data.dict es ep:=d;cases d'
  have nsK:∀{b:Addr}{m:Str->Option Value},s₁.heap.Ns b m->(FW s₁.heap H).Ns b m:=λ{b m} ⟨o,es,ep,e,d,r⟩=>⟨o,es,ep,base_of e (noA e d),d,r⟩
  have hKb:K.In (FW s₁.heap H):=λb o e=>base_of (KX b o e) (by
   cases q:H b with
   |none=>rfl
   |some u =>
    have e':b=a:=hA b (by rw[q];simp)
    subst e'
    rw[hK (by rw[q];simp)] at e;cases e)
  have hM:Mod K mg (FW s₁.heap H):=⟨hKb,nsK hns,⟨mb,nsK hb,hbb⟩,let ⟨mc,h1,h2⟩:=hlim;⟨mc,nsK h1,h2⟩⟩
  have e0:Env0 P w K mg (FW s₁.heap H) callerA [] s₁ H:=⟨rfl,hM,λb o e=>Ks e,Nat.le_of_eq (Bl _ _),trivial,λb hb=>absurd (show b∈([]:List Addr) from hb) (by simp),hok,.of_eq hg⟩;refine E6z ((F _ hKb (nsK hns)).run callerA [] s₁ H ⟨[.ref a],[]⟩ [.ref a] [.ref a] _ _ hr e0 (hbind s₁ (.ref a)) (.cons rfl .nil) (hsp H hO hS)) λr s' h=>?_
  cases r with
  |error e=>exact(hCX H e s' h).elim
  |ok fl =>
   cases fl with
   |next=>exact False.elim h
   |brk=>exact False.elim h
   |cont=>exact False.elim h
   |ret u =>
    obtain⟨v,H',os,bare,un,hok',r',q⟩:=h;have q':v=.bl true:=q;subst q';obtain rfl:u=Value.bool true:=r';refine⟨rfl,OldK.of_keep λb o e=>?_,os,bare⟩
    cases q:H b with
    |none=>exact un.keep b o e q (by intro z;exact absurd (show b∈([]:List Addr) from z) (by simp)) (by simp)
    |some u =>
     rcases hO b with z|⟨ob,xs,z⟩
     .rw[q] at z;cases z
     .have z2:=un.frzs b ob _ z
      obtain⟨e1,_⟩:=hok b _ z;obtain⟨e2,_⟩:=hok' b _ z2;rw[e] at e1;cases e1;exact e2
 cases hk:K.lookup a with
 |some o =>
  have e:=KX a o hk;rw[ha] at e;cases e;refine core (λ_=>none) (λ_=>.inl rfl) (.inr ⟨_,vs.toArray,_,hk,rfl,rfl,rfl,by rw[P2z,lenV];exact hl,by simpa using rv⟩) (λb u z=>by have z':(none:Option HO)=some u:=z;cases z') (λb z=>absurd rfl z) λz=>absurd rfl z
 |none =>
  refine core (λb=>if b=a then some (.frz {cls:=.type "list",data:=.seq vs.toArray} (.lst (ns.map V.int))) else none) (λb=>?_) (.inl (.inr ⟨{cls:=.type "list",data:=.seq vs.toArray},G7z rfl⟩)) (λb u z=>?_) (λb z=>?_) λ_=>hk
  .by_cases hb:b=a
   .exact .inr ⟨_,_,G7z hb⟩
   .exact .inl (H7z hb)
  .by_cases hb:b=a
   .have z':=(G7z hb).symm.trans z
    cases z';subst hb;exact⟨ha,by rw[F4z];exact hl,vs,_,rv,ha⟩
   .have z':=(H7z hb).symm.trans z
    cases z'
  .by_cases hb:b=a
   .exact hb
   .exact absurd (H7z hb) z
theorem Iv{l:W.OpenLaw}{n k:Nat}{q:Program}{loose:List Str}{XP:(Str->Option Value)->Heap->Prop}{YP:World->Heap->Prop}{d:DefRec}{K:Params->Zf}{CX:World->CXT}{sp:World->Sp}{x:Str}
    (hn:l.most=some n) (hn2:n<=sizeLine) (hdf:d.params.defaults=[]) (hr:Room k callerA)
    (hY:∀(w:World)(h:Heap),YP w h->(K w.params).In h)
    (F:∀(w:World)(mg:Str->Option Value)(fa:Addr)(h:Heap),(K w.params).In h->h.Ns mainGlobals mg->mg d.name=some (.ref fa) ->
      ∃fd:FuncData, (∀(s:Shared)(u:Value), BindsTo s fd ⟨[u], []⟩ [(x, u)]) /\
        ∀base:Heap,(K w.params).In base->base.Ns mainGlobals mg->FnOk l.prog w (K w.params) mg base (CX w) k fa fd [x] (sp w))
    (hsp:∀(w:World)(H:Hp)(a:Addr)(ns:List Int),ns.length<=n->Only H->SqL (K w.params) H a (ns.map V.int)->sp w [.ref a] H (λv _=>v=.bl true) λ_ _ _=>False)
    (hCX:∀(w:World)(H:Hp)(s:Shared)(e:Value)(s':Shared),CX w [] H s (λ_ _ _=>False) e s'->False) :
    W.WalkO q loose XP YP l.row.toRowW d [] (λf vs=>PySem.call f vs):=by
  refine Att.uc hn hdf λw s₀ s₁ mg mb fa o pm cd doc a vs ns G Y ho hd hcd hmg hobj hints hlen hg=>?_
  have KX:=hY w _ Y
  obtain⟨fd,hb,hF⟩:=F w mg fa _ KX G.T.g hmg
  exact Fx KX G.T.g G.T.b G.T.builtins G.T.nolimit hg hobj hints (B6z hlen hn2) hr hF hb (λH hO hS=>hsp w H a ns hlen hO hS) λH e s'=>hCX w H s₁ e s'
def inClass(s:Stmt)(j:Nat):Stmt:=match s with
 |.ClassDef _ _ _ body _ _ _ _ _ _ _=>body.getD j (.Pass ⟨0,0,0,0⟩)
 |_=>.Pass ⟨0,0,0,0⟩
def cC(s:Stmt):Arguments:=match s with
 |.FunctionDef _ a _ _ _ _ _ _ _ _=>a
 |_=>{posonlyargs:=[],args:=[],vararg:=none,kwonlyargs:=[],kw_defaults:=[],kwarg:=none,defaults:=[]}
def aL(s:Stmt):List Stmt:=match s with
 |.FunctionDef _ _ b _ _ _ _ _ _ _=>b
 |_=>[]
def aB(s:Stmt):Scope:=match s with
 |.FunctionDef _ _ _ _ _ _ sc _ _ _=>sc
 |_=>{kind:=.function,names:=[],isGenerator:=false,isCoroutine:=false}
abbrev CX0:CXT:=λ_ _ _ _ _ _=>False
abbrev E0:XK:=λ_ _ _=>False
structure Fun(K:Zf)(x qual:Str)(st:Stmt)(f:Addr)(fd:FuncData):Prop where
 ex:∃(oc:Value)(od:Option Addr)(kV doc pm:Value)(an:Option Addr)(cdv ct:Value)(osl:Array (Option Value)),
  fd=W.fnOf x qual (cC st) (aL st) (aB st) .none kV doc pm an cdv ct/\K.lookup f=some ⟨oc,od,.func fd,osl⟩/\W.codeIn K cdv qual=true
 kp:W.keepIn K (.ref f)=true
section
variable{P:Program}{w:World}{K:Zf}{mg:Str->Option Value}{base:Heap}
theorem Fun.binds{st:Stmt}(F:Fun K x qual st f fd)
  (h:∀(kV doc pm:Value)(an:Option Addr)(cdv ct:Value)(us:List Value),us.length=ps.length->bindArgs (W.fnOf x qual (cC st) (aL st) (aB st) .none kV doc pm an cdv ct) ⟨us,[]⟩=pure (ps.zip us)):Binds K fd ps []:=by
 obtain⟨oc,od,kV,doc,pm,an,cdv,ct,osl,rfl,lk,hcd⟩:=F.ex;exact .all (h kV doc pm an cdv ct)
theorem fun_mk{st:Stmt}{kV doc pm cdv ct:Value}(l:K.lookup f=some ⟨oc,od,.func (W.fnOf x qual (cC st) (aL st) (aB st) .none kV doc pm an cdv ct),osl⟩)
  (c:W.codeIn K cdv qual=true) (k:W.keepIn K (.ref f)=true):Fun K x qual st f (W.fnOf x qual (cC st) (aL st) (aB st) .none kV doc pm an cdv ct):=⟨⟨oc,od,kV,doc,pm,an,cdv,ct,osl,rfl,l,c⟩,k⟩
end
theorem FP(hr:Room k A):A.units+1<cLine:=C2z (Nat.add_le_add_left (by decide:1<=64) _) hr.units
section
variable{X:Cx}
theorem pv(i:Nat)(hN:X.N[i]?=some x:=by rfl)(hv:Vis X.env.scope x:=by first|exact Or.inl rfl|exact Or.inr (Or.inl rfl)|exact Or.inr (Or.inr rfl))(hd:(x==("__debug__":Str))=false:=by decide)
  (hcd:(x==("__classdict__":Str))=false:=by decide):PE X (.Name x pos) (V4 i):=pX hN hv hd hcd
end
theorem mW{A B:Prop}(h:B):if false=true then A else B:=by
 exact h
theorem lY{A B:Prop}(h:A):if true=true then A else B:=by
 exact h
def Same(H H':Hp):Prop:=∀b o,H b=some o->H' b=some o
theorem Same.refl(H:Hp):Same H H:=λ_ _ h=>h
theorem Same.trans(a:Same H H1)(b:Same H1 H2):Same H H2:=λc o h=>b c o (a c o h)
theorem Same.free(e:Same H H')(h:H' l=Option.none):H l=Option.none:=by
 cases q:H l with
 |none=>rfl
 |some o =>
  rw[e l o q] at h;cases h
theorem Same.seq{K:Zf}(e:Same H H')(h:SqL K H a xs):SqL K H' a xs:=by
 obtain(h|⟨o,h⟩)|h:=h
 .exact .inl (.inl (e _ _ h))
 .exact .inl (.inr ⟨o,e _ _ h⟩)
 .exact .inr h
def jU(cells:List (Str×Addr)):List (Str×NameKind)->List (Str×Addr)->List (Str×Addr)
 |[],acc=>acc
 |(x,k)::r,acc=>if k==.free then jU cells r ((x,(cells.lookup x).getD 0)::acc) else jU cells r acc
theorem ou(f:Str×NameKind->List (Str×Addr)->Sem (ForInStep (List (Str×Addr))))
  (hf:∀name kind cs,f (name,kind) cs=if kind==.free then(do let a <- cellOf env name;pure (.yield ((name,a)::cs))) else pure (.yield cs)) :
  ∀(l:List (Str×NameKind))(acc:List (Str×Addr)),(∀x,(x,NameKind.free)∈l->∃c,env.cells.lookup x=some c)->(forIn l acc f:Sem (List (Str×Addr)))=pure (jU env.cells l acc)
 |[],acc,_=>by rw[List.forIn_nil];rfl
 |(x,k)::r,acc,h=>by
  rw[List.forIn_cons,hf];unfold jU
  cases hk:k==NameKind.free with
  |false =>
   exact ou f hf r acc λy hy=>h y (E1z _ hy)
  |true =>
   have ek:k=.free:=by simpa using hk
   obtain⟨c,hc⟩:=h x (by rw[ek];exact W1z)
   have e1:cellOf env x=pure c:=by unfold cellOf;rw[hc]
   rw[e1,hc];exact ou f hf r _ λy hy=>h y (E1z _ hy)
theorem gA(h:∀x,(x,NameKind.free)∈scope.names->∃c,env.cells.lookup x=some c):closureFor scope env=pure (jU env.cells scope.names []):=by
 simp only[closureFor];rw[ou _ (λname kind cs=>by cases hk:kind==NameKind.free<;>simp) scope.names [] h];rfl
theorem sI
  (hQ:Q (newEnv scope s.heap.objs.size globals (cellsFrom (s.heap.objs.size+1) scope.names closure) qual none .none (some outer) builtinsNs) {s with heap:=pushCells (s.heap.push {cls:=.type "dict",data:=.dict #[]}) scope.names}) :
  wpAny M A (newFunctionEnv scope globals closure [] qual none .none (some outer)) Q E s:=by
 simp only[newFunctionEnv,Option.isSome_some,F7z];refine R6z (wpAny_alloc ?_);refine R6z (wpAny_layCells _ (λname kind cells=>by cases hkc:kind==NameKind.cell<;>simp) _ _ _ _ ?_);rw[show({s with heap:=s.heap.push {cls:=.type "dict",data:=.dict #[]} }:Shared).heap.objs.size=s.heap.objs.size+1 from Z4z ..];exact R6z (S6z (S6z hQ))
theorem iU:∀{l:List (Str×α)}{x:Str}{c:α},(x,c)∈l->∃d,l.lookup x=some d
 |(y,d)::r,x,c,h=>by
  rw[K3z]
  cases hb:x==y with
  |true=>exact⟨d,rfl⟩
  |false =>
   obtain e|h:=V5z.mp h
   .cases e;simp at hb
   .exact iU h
theorem cB:∀{l:List (Str×α)}{x:Str}{c:α},(l.map (·.1)).Nodup->(x,c)∈l->l.lookup x=some c
 |(y,d)::r,x,c,hn,h=>by
  rw[O5z,J4z] at hn;rw[K3z];obtain e|h':=V5z.mp h
  .cases e;simp
  .have hne:(x==y)=false:=by
    rw[Q1z];exact λexy=>hn.1 (List.mem_map.mpr ⟨(x,c),h',exy⟩)
   rw[hne];exact cB hn.2 h'
theorem dG:∀(names:List (Str×NameKind))(n:Nat)(acc:List (Str×Addr)),(cellsFrom n names acc).lookup x=some c ->
  ((x,NameKind.cell)∈names/\n<=c)\/((x,NameKind.cell)∉names/\acc.lookup x=some c)
 |[],_,_,h=>.inr ⟨by simp,h⟩
 |(y,k)::r,n,acc,h=>by
  unfold cellsFrom at h
  cases hk:k==NameKind.cell with
  |true =>
   have ek:k=.cell:=by simpa using hk
   subst ek;obtain⟨h1,h2⟩|⟨h1,h2⟩:=dG r _ _ h
   .exact .inl ⟨E1z _ h1,by omega⟩
   .rw[K3z] at h2
    cases hb:x==y with
    |true =>
     rw[hb] at h2;cases h2
     have:x=y:=by simpa using hb
     subst this;exact .inl ⟨W1z,I6z _⟩
    |false =>
     rw[hb] at h2;refine .inr ⟨λhm=>?_,h2⟩;obtain e|hm:=V5z.mp hm
     .cases e;simp at hb
     .exact h1 hm
  |false =>
   rw[hk] at h;obtain⟨h1,h2⟩|⟨h1,h2⟩:=dG r _ _ h
   .exact .inl ⟨E1z _ h1,h2⟩
   .refine .inr ⟨λhm=>?_,h2⟩
    obtain e|hm:=V5z.mp hm
    .cases e;simp at hk
    .exact h1 hm
theorem d7:∀(names:List (Str×NameKind))(n:Nat)(acc:List (Str×Addr)),(acc.Pairwise λx y=>x.2≠y.2)->(∀p∈acc,p.2<n)->(cellsFrom n names acc).Pairwise λx y=>x.2≠y.2
 |[],_,_,h,_=>h
 |(y,k)::r,n,acc,h,hl=>by
  unfold cellsFrom;split
  .refine d7 r _ _ (List.pairwise_cons.mpr ⟨λp hp e=>?_,h⟩) λp hp=>?_
   .have q:=hl p hp
    rw[<- e] at q;exact M5z _ q
   .obtain e|hp:=V5z.mp hp
    .subst e;exact F3z _
    .exact Q2z (hl p hp)
  .exact d7 r _ _ h hl
theorem tX(inj:∀x y c,cells.lookup x=some c->cells.lookup y=some c->x=y):∀(names:List (Str×NameKind))(acc:List (Str×Addr)),(names.map (·.1)).Nodup->(∀x,(x,NameKind.free)∈names->∃c,cells.lookup x=some c) ->
  (acc.Pairwise λx y=>x.2≠y.2)->(∀p∈acc,cells.lookup p.1=some p.2/\p.1∉names.map (·.1))->((jU cells names acc).Pairwise λx y=>x.2≠y.2)/\∀p∈jU cells names acc,cells.lookup p.1=some p.2
 |[],acc,_,_,h1,h2=>⟨h1,λp hp=>(h2 p hp).1⟩
 |(y,k)::r,acc,hn,hf,h1,h2=>by
  rw[O5z,J4z] at hn;have hf':=λx hx=>hf x (E1z _ hx);unfold jU;split
  .rename_i hk
   have ek:k=.free:=by simpa using hk
   subst ek;obtain⟨c,hc⟩:=hf y W1z;rw[hc];refine tX inj r _ hn.2 hf' (List.pairwise_cons.mpr ⟨λp hp e=>?_,h1⟩) λp hp=>?_
   .obtain⟨a1,a2⟩:=h2 p hp
    rw[<- e] at a1;have:=inj _ _ _ a1 hc;exact a2 (by rw[this];simp)
   .obtain e|hp:=V5z.mp hp
    .subst e;exact⟨hc,hn.1⟩
    .exact⟨(h2 p hp).1,λz=>(h2 p hp).2 (E1z _ z)⟩
  .exact tX inj r _ hn.2 hf' h1 λp hp=>⟨(h2 p hp).1,λz=>(h2 p hp).2 (E1z _ z)⟩
theorem oO:∀(names:List (Str×NameKind))(acc:List (Str×Addr)),p∈acc->p∈jU cells names acc
 |[],_,h=>h
 |(y,k)::r,acc,h=>by
  unfold jU;split
  .exact oO r _ (E1z _ h)
  .exact oO r _ h
theorem oN:∀(names:List (Str×NameKind))(acc:List (Str×Addr)),(x,NameKind.free)∈names->∃c,(x,c)∈jU cells names acc
 |(y,k)::r,acc,h=>by
  unfold jU;obtain e|h:=V5z.mp h
  .cases e
   exact⟨_,oO r _ W1z⟩
  .split
   .exact oN r _ h
   .exact oN r _ h
theorem eN{env:Env}:∀(names:List (Str×NameKind)),
  (names.map λ(n, k)=>if (k==NameKind.free && env.scope.kind==.function && env.kindOf n==some .cell) then (n, NameKind.cell) else (n, k)).lookup x =
   (names.lookup x).map λk=>if(k==NameKind.free&&env.scope.kind==.function&&env.kindOf x==some .cell) then NameKind.cell else k
 |[]=>rfl
 |(y,k)::r=>by
  by_cases hx:x=y
  .subst hx
   cases hc:(k==NameKind.free&&env.scope.kind==.function&&env.kindOf x==some .cell)<;>simp only[O5z,hc,K3z,L3z,K4z,F7z,C7z,D2z]
  .have hb:(x==y)=false:=by simpa using hx
   cases hc:(k==NameKind.free&&env.scope.kind==.function&&env.kindOf y==some .cell)<;>simp only[O5z,hc,K3z,hb,F7z,C7z,D2z]<;>exact(eN (x:=x) (env:=env) r)
def uy(N:List Str)(σ:St)(x:Str):Option V:=match N.idxOf? x with
 |some j=>(σ[j]?).getD none
 |none=>none
def sO(N:List Str)(names:List (Str×NameKind))(σ:St):St:=names.map λp=>if p.2==.free then uy N σ p.1 else none
def vW(scope:Scope)(cells:List (Str×Addr))(C:Addr)(env:Env):Env :=
 {scope:=relabel scope env,locals:=C,globals:=env.globals,cells:=cells,qual:=env.qual,func:=none,code:=env.code,frame:=env.frame,builtins:=env.builtins}
structure CompOf(X:Cx)(scope:Scope)(Xc:Cx):Prop where
 prog:Xc.prog=X.prog
 w:Xc.w=X.w
 K:Xc.K=X.K
 mg:Xc.mg=X.mg
 base:Xc.base=X.base
 A:Xc.A=X.A
 N:Xc.N=scope.names.map (·.1)
 sc:Xc.env.scope=relabel scope X.env
 calm:Xc.calm=true
 fn:Xc.fn=λx=>scope.names.lookup x==some .cell
 xe:Xc.xe=λ_ _=>False
def qH(X:Cx)(scope:Scope)(cells:List (Str×Addr))(C:Addr)(s:Shared)(H:Hp)(fp:List Addr):Cx where
 prog:=X.prog
 w:=X.w
 K:=X.K
 mg:=X.mg
 base:=X.base
 A:=X.A
 N:=scope.names.map (·.1)
 s₀:=s
 H₀:=H
 env:=vW scope cells C X.env
 outer:=X.stack
 stack:=X.stack
 ex:=fp
 fn:=λx=>scope.names.lookup x==some .cell
 calm:=true
 pn:=[]
 xe:=λ_ _=>False
def CZ(X:Cx)(ifs:List Expr)(t:TT):Prop :=
  ∀(z0:List (Addr×Obj))(s:Shared)(σ:St)(H:Hp)(Q:Bool->Hp->Prop), Inv X z0 σ H s->t σ H Q ->
    wpAny (model X.prog X.w) X.A (forIn ifs true λc r=>if r=true then do let ok <- isTrue c X.env (eval c X.env);pure (ForInStep.yield ok) else pure (ForInStep.yield r)) (TP X z0 σ Q) X.xe s
theorem uO:CZ X [] (λ_ H Q=>Q true H):=λ_ _ _ H _ I h=>wpAny_tests_nil ⟨H,I,h⟩
theorem Ef(h:PT X c t):CZ X [c] t:=λz0 s σ H Q I hw=>wpAny_tests_one (h z0 s σ H Q I hw)
def rN(X:Cx)(scope:Scope)(wi:TI)(mk:St->St)(g:Cx->TG)(tc:Cx->TT)(te:Cx->TE):TE:=λσ H Q=>wi σ H λJ H1=>∀acc,H1 acc=none->∀Xc,CompOf X scope Xc ->
  ∃W:Nat->Nat->St->Hp->Prop, (∃m, W 0 m (mk σ) (upd H1 acc (.lst [])))/\∀i m σc H, W i m σc H ->
    (J.stop i H/\Q (.ref acc) H)\/(J.go i H/\∃N:St->Hp->Prop,(∀σ' H',N σ' H'->∃m',m'<m/\W (i+1) m' σ' H')/\∀x H',J.yld i H x H' ->
      g Xc x σc H' λσ2 H2=>tc Xc σ2 H2 λb H3=>if b=true then te Xc σ2 H3 λv H4=>∃ys,H4 acc=some (.lst ys)/\ys.length<sizeLine/\N σ2 (upd H4 acc (.lst (ys++[v]))) else N σ2 H3)
theorem gY(I:Nat->Shared->Prop)
  (turn:∀n s,I n s->wpAny (model prog w) A (pyNext it) (λr s₁=>match r with
   |none=>R (.ok .next) s₁
   | some v=>wpAny (model prog w) A (letOwnedTupleGo target it v) (λ_ s₁'=>wpAny (model prog w) A (assign target env v) (λ_ s₂ =>
     wpAny (model prog w) A (forIn ifs true λc r=>if r=true then do let ok <- isTrue c env (eval c env);pure (ForInStep.yield ok) else pure (ForInStep.yield r)) (λok s₃ =>
      if ok=true then wpAny (model prog w) A (eval elt env) (λx s₄ =>
       wpAny (model prog w) A (call (.builtin "list.append") [acc,x]) (λ_ s₅=>∃m,m<n/\I m s₅) (λ_ _=>False) s₄) (λ_ _=>False) s₃
      else ∃m,m<n/\I m s₃) (λ_ _=>False) s₂) (λ_ _=>False) s₁') (λ_ _=>False) s₁) (λ_ _=>False) s)
  (n:Nat) (h:I n s) :
  codeAny (model prog w) A (.compLoop (.ListComp elt [⟨target,iter,ifs,0⟩] scope pos) 0 it acc env) R s:=by
 refine codeAny_loop rfl I (λn s hI=>?_) n h;refine wpAny_noted ?_;refine R6z (wpAny_standAt (R6z (Q6z (turn n s hI) (λr s₁ h₁=>?_) λ_ _ h'=>h'.elim)))
 cases r with
 |none=>exact S6z h₁
 |some v =>
  refine R6z (Q6z h₁ (λ_ s₁' h₁'=>?_) λ_ _ h'=>h'.elim);refine R6z (Q6z h₁' (λ_ s₂ h₂=>R6z (Q6z h₂ (λok s₃ h₃=>?_) λ_ _ h'=>h'.elim)) λ_ _ h'=>h'.elim)
  cases ok with
  |false=>exact S6z ⟨rfl,h₃⟩
  |true =>
   exact R6z (R6z (Q6z h₃ (λx s₄ h₄=>R6z (Q6z h₄ (λ_ s₅ h₅=>S6z (S6z ⟨rfl,h₅⟩)) λ_ _ h'=>h'.elim)) λ_ _ h'=>h'.elim))
section
variable{X:Cx}
theorem jr{scope:Scope}(I:Inv X z0 σ H s)(hnd:(scope.names.map (·.1)).Nodup)
  (hcap:∀x,(x,NameKind.free)∈scope.names->X.env.kindOf x=some .cell\/X.env.kindOf x=some .free) :
  (∀x,(x,NameKind.free)∈scope.names->∃c,X.env.cells.lookup x=some c) /\
  ((cellsFrom (s.heap.objs.size+1) scope.names (jU X.env.cells scope.names [])).Pairwise λx y=>x.2≠y.2) /\
  (∀x c,(cellsFrom (s.heap.objs.size+1) scope.names (jU X.env.cells scope.names [])).lookup x=some c->((x,NameKind.cell)∈scope.names/\s.heap.objs.size+1<=c)\/((x,NameKind.cell)∉scope.names/\X.env.cells.lookup x=some c/\c<s.heap.objs.size)) /\
  (∀x,(x,NameKind.free)∈scope.names->(cellsFrom (s.heap.objs.size+1) scope.names (jU X.env.cells scope.names [])).lookup x=X.env.cells.lookup x):=by
 have hf:=λx hx=>I.ok.has x (hcap x hx);have ok:=tX I.ok.inj scope.names [] hnd hf List.Pairwise.nil (λp hp=>absurd hp (by simp))
 have small:∀x c,X.env.cells.lookup x=some c->c<s.heap.objs.size:=λx c e=>by
  obtain⟨v,z⟩:=I.cell x c e;exact z.lt
 refine⟨hf,d7 _ _ _ ok.1 λp hp=>Q2z (small p.1 p.2 (ok.2 p hp)),λx c e=>?_,λx hx=>?_⟩
 .obtain h|⟨h1,h2⟩:=dG _ _ _ e
  .exact .inl h
  .have h3:=ok.2 _ (P1z h2)
   exact .inr ⟨h1,h3,small _ _ h3⟩
 .obtain⟨c,hc⟩:=hf x hx
  have nc:(x,NameKind.cell)∉scope.names:=λz=>by
   have e1:=cB hnd z;rw[cB hnd hx] at e1;cases e1
  obtain⟨d,hd⟩:=oN scope.names [] hx;obtain⟨d',hd'⟩:=iU hd;obtain⟨c',hc'⟩:=Option.isSome_iff_exists.mp (O0z _ _ _ (.inr (by rw[hd'];rfl)));obtain⟨h,_⟩|⟨_,h2⟩:=dG _ _ _ hc'
  .exact absurd h nc
  .rw[hc',ok.2 _ (P1z h2)]
theorem Ka:∀(names:List (Str×NameKind))(h:Heap)(acc:List (Str×Addr)){x:Str}{c:Addr},(cellsFrom h.objs.size names acc).lookup x=some c->(x,NameKind.cell)∈names->(pushCells h names).IsCell c none:=by
 intro names
 induction names with
 |nil=>intro h acc x c e hx;cases hx
 |cons p r ih =>
  obtain⟨y,k⟩:=p;intro h acc x c e hx;unfold cellsFrom at e;unfold pushCells
  by_cases hin:(x,NameKind.cell)∈r
  .split at e
   .rename_i hk
    rw[G7z hk];refine ih (h.push {cls:=.type "cell",data:=.cell none}) ((y,h.objs.size)::acc) ?_ hin;rw[Z4z];exact e
   .rename_i hk
    rw[H7z hk];exact ih h acc e hin
  .obtain ex|hx:=V5z.mp hx
   .cases ex
    obtain⟨h1,_⟩|⟨_,h2⟩:=dG _ _ _ e
    .exact absurd h1 hin
    .simp at h2
     subst h2;exact⟨_,L4z _ _ _ _ (Heap.get?_push_size _ rfl),rfl⟩
   .exact absurd hx hin
theorem GX(I:Inv X z0 σ H s)(hc:X.calm=true)(hk:scope.kind=.function)(hnd:(scope.names.map (·.1)).Nodup)
  (hcap:∀x,(x,NameKind.free)∈scope.names->X.env.kindOf x=some .cell\/X.env.kindOf x=some .free) (hfp:∀b∈fp,yq X z0 H b) (hlt:∀b∈fp,b<s.heap.objs.size) :
  Inv (qH X scope (cellsFrom (s.heap.objs.size+1) scope.names (jU X.env.cells scope.names [])) s.heap.objs.size s H fp) [] (sO X.N scope.names σ) H {s with heap:=pushCells (s.heap.push {cls:=.type "dict",data:=.dict #[]}) scope.names}:=by
 obtain⟨hf,apart,look,same⟩:=jr I hnd hcap;have keep:∀b o,s.heap.get? b=some o->(pushCells (s.heap.push {cls:=.type "dict",data:=.dict #[]}) scope.names).get? b=some o:=λb o e=>L4z _ _ b o (Heap.get?_push_of_some _ e);have ckd:=cellsFrom_ok scope.names (s.heap.push {cls:=.type "dict",data:=.dict #[]}) (s.heap.objs.size+1) [] ⟨λ_ _ hm=>(nomatch hm),List.Pairwise.nil⟩ (by rw[Z4z];exact I6z _);have own:∀x c,(cellsFrom (s.heap.objs.size+1) scope.names (jU X.env.cells scope.names [])).lookup x=some c->(x,NameKind.cell)∈scope.names->(pushCells (s.heap.push {cls:=.type "dict",data:=.dict #[]}) scope.names).IsCell c none:=λx c e hx=>Ka scope.names (s.heap.push {cls:=.type "dict",data:=.dict #[]}) _ (by rw[Z4z];exact e) hx;have kinds:∀x,(qH X scope (cellsFrom (s.heap.objs.size+1) scope.names (jU X.env.cells scope.names [])) s.heap.objs.size s H fp).env.kindOf x=(scope.names.lookup x).map λk=>if(k==NameKind.free&&X.env.scope.kind==.function&&X.env.kindOf x==some .cell) then NameKind.cell else k:=λx=>eN scope.names;have fresh:∀{b:Addr},s.heap.objs.size<=b->H b=none:=λhb=>I.hok.fresh hb
 refine⟨⟨I.ok.mod,hk,I.ok.glob,I.ok.blt,I6z _,λx y c e1 e2=>name_of_addr apart (P1z e1) (P1z e2),λx hx=>?_,λx c hx e=>?_,λ_=>I.ok.hd hc,I.ok.frames,.inl rfl,λb hb=>⟨A6z (hlt b hb),λx c e=>?_⟩,I.bs,B6z I.ok.bsz I.sz,λb o e hb=>?_,λb hb z=>?_,I.stack,I.stkFree⟩,
  rfl,I.bare,Un.kept keep,⟨λ_=>none,?_,λi x v e1 e2 e3=>?_⟩,λx c e=>?_,fresh (I6z _),λx c e=>?_,λp hp=>absurd (show p∈([]:List (Addr×Obj)) from hp) (by simp),I.hok.kept keep,?_⟩
 ·
  rw[kinds x] at hx
  cases hl:scope.names.lookup x with
  |none=>rw[hl] at hx;rcases hx with h|h<;>cases h
  |some k =>
   rw[hl] at hx;have hm:=P1z hl
   cases k with
   |cell=>exact Option.isSome_iff_exists.mp (O0z _ _ _ (.inl hl))
   |free =>
    obtain⟨c,h⟩:=hf x hm;exact⟨c,(same x hm).trans h⟩
   |_=>simp at hx
 .rcases look x c e with⟨_,h⟩|⟨h,_⟩
  .exact R2z h
  .exact absurd (P1z (by simpa[qH] using hx)) h
 .obtain⟨_,h⟩|⟨_,h,_⟩:=look x c e
  .exact D6z (V1z (hlt b hb) (R2z h))
  .exact(hfp b hb).2.2.2.2.1 x c h
 .obtain z|z:=(hfp b hb).2.2.2.1
  .exact I.ok.noex b o e z
  .exact absurd (V1z (Z5z e) (B6z I.ok.bsz z)) (M5z _)
 .obtain h|h:=V5z.mp (I.stkSub b z)
  .exact(hfp b hb).2.1 h
  .exact(hfp b hb).2.2.1 h
 .exact(Heap.Ns.new s.heap (.type "dict")).keeps (L4z _ _)
 ·
  have e1':(scope.names.map (·.1))[i]?=some x:=e1;rw[List.getElem?_map] at e1';unfold sO at e2;rw[List.getElem?_map] at e2
  cases hp:scope.names[i]? with
  |none=>rw[hp] at e2;cases e2
  |some p =>
   rw[hp] at e1' e2;have ex:p.1=x:=C4z e1';have e2':(if p.2==.free then uy X.N σ p.1 else none)=some v:=C4z e2
   cases hk2:p.2==NameKind.free with
   |false=>rw[hk2] at e2';simp at e2'
   |true =>
    rw[hk2] at e2'
    have ek:p.2=.free:=by simpa using hk2
    have hm:(x,NameKind.free)∈scope.names:=by
     have:=List.mem_of_getElem? hp;rw[<- ex,<- ek];exact this
    unfold uy at e2';rw[ex] at e2'
    cases hj:X.N.idxOf? x with
    |none=>rw[hj] at e2';cases e2'
    |some j =>
     rw[hj] at e2';have e3:(σ[j]?).getD none=some v:=e2'
     have hσ:σ[j]?=some (some v):=by
      cases q:σ[j]? with
      |none=>rw[q] at e3;simp at e3
      |some o=>rw[q] at e3;simp at e3;rw[e3]
     have hN:X.N[j]?=some x:=by
      rw[List.idxOf?,List.findIdx?_eq_some_iff_getElem] at hj;obtain⟨h1,h2,_⟩:=hj;rw[List.getElem?_eq_getElem h1];simpa using h2
     obtain⟨m,hn,hl⟩:=I.loc;have kx:=hcap x hm;obtain⟨u,r,l⟩:=hl j x v hN hσ (by rcases kx with k|k;exact .inr (.inl k);exact .inr (.inr k));refine⟨u,r,.inr ⟨?_,?_⟩⟩
     .rw[kinds x,cB hnd hm]
      simp only[K4z];split
      .exact .inl rfl
      .exact .inr rfl
     .obtain⟨k,_⟩|⟨_,c,hc',z⟩:=l
      .rcases kx with k'|k'<;>(rw[k'] at k;cases k)
      .exact⟨c,(same x hm).trans hc',z.keeps keep⟩
 .obtain⟨h,_⟩|⟨_,h,_⟩:=look x c e
  .exact⟨_,own x c e h⟩
  .obtain⟨v,z⟩:=I.cell x c h
   exact⟨v,z.keeps keep⟩
 .obtain⟨_,h⟩|⟨_,h,_⟩:=look x c e
  .exact fresh (R2z h)
  .exact I.freeC x c h
 .show(sO X.N scope.names σ).length=(scope.names.map (·.1)).length
  unfold sO;rw[F4z,F4z]
structure Blk(X:Cx)(z0:List (Addr×Obj))(H:Hp)(s:Shared)(C:Addr):Prop where
 ns:∃m,s.heap.Ns C m
 free:H C=none
 loc:C≠X.env.locals
 abv:X.s₀.heap.objs.size<=C
 cel:∀x c,X.env.cells.lookup x=some c->c≠C
 pin:∀p∈X.pn++z0,p.1≠C
theorem qJ(hc:X.calm=true)(hk:scope.kind=.function)(hnd:(scope.names.map (·.1)).Nodup)
  (hcap:∀x,(x,NameKind.free)∈scope.names->X.env.kindOf x=some .cell\/X.env.kindOf x=some .free) (hi:PI X tg iter wi)
  (hin:∀Xc:Cx,CompOf X scope Xc->PG Xc tg (g Xc)/\CZ Xc ifs (tc Xc)/\PE Xc elt (te Xc))      (I:Inv X z0 σ H s) (h:rN X scope wi (sO X.N scope.names) g tc te σ H Q) {R:Value->Addr->Result->Shared->Prop}
  (fin:∀acc C H' s',Inv X z0 σ H' s'->Blk X z0 H' s' C->Q (.ref acc) H'->R (.ref acc) C (.ok .next) s') :
  wpAny (model X.prog X.w) X.A (eval iter X.env) (λx s₁=>wpAny (model X.prog X.w) X.A (pyIter x) (λit s₂=>wpAny (model X.prog X.w) X.A (newList []) (λacc s₃ =>
   wpAny (model X.prog X.w) X.A (newFunctionEnv scope X.env.globals (jU X.env.cells scope.names []) [] X.env.qual none .none (some X.env)) (λcenv s₄ =>
    codeAny (model X.prog X.w) X.A (.compStart (.ListComp elt [⟨tg,iter,ifs,0⟩] scope pos) 0 it acc {cenv with scope:=relabel scope X.env}) (R acc cenv.locals) s₄) X.xe s₃) X.xe s₂) X.xe s₁) X.xe s:=by
 refine thn (hi z0 s σ H _ I h) λv s1 h1=>thn h1 λitv s2 h2=>?_;obtain⟨it,fp,tn,J,H2,rfl,I2,T,st2,f2,q2⟩:=h2;refine M2z ?_;have hf:=I2.hok.fresh (I6z _);have I3:=I2.lnew (t':=s2.toks) .nil (K6z _);generalize hs3:({s2 with heap:=s2.heap.push {cls:=.type "list",data:=.seq ([]:List Value).toArray},toks:=s2.toks}:Shared)=s3 at I3
 have lt2:∀b∈fp,b<s2.heap.objs.size:=λb hb=>by
  obtain⟨o,e,_⟩:=T.obj _ _ st2 b hb;exact Z5z e
 have f3:∀b∈fp,yq X z0 (upd H2 s2.heap.objs.size (.lst [])) b:=λb hb=>⟨by rw[ao (A6z (lt2 b hb))];exact(f2 b hb).1,(f2 b hb).2⟩
 have sz3:s3.heap.objs.size=s2.heap.objs.size+1:=by rw[<- hs3];exact Z4z ..
 have st3:tn 0 s3.heap:=T.keep _ _ _ st2 λb hb o e=>by rw[<- hs3];exact Heap.get?_push_of_some _ e
 have J0:=GX I3 hc hk hnd hcap f3 (λb hb=>by rw[sz3];exact Q2z (lt2 b hb))
 have cO:CompOf X scope (qH X scope (cellsFrom (s3.heap.objs.size+1) scope.names (jU X.env.cells scope.names [])) s3.heap.objs.size s3 (upd H2 s2.heap.objs.size (.lst [])) fp):=⟨rfl,rfl,rfl,rfl,rfl,rfl,rfl,rfl,rfl,rfl,rfl⟩;obtain⟨hg,hif,he⟩:=hin _ cO;obtain⟨W,⟨m0,w0⟩,turn⟩:=q2 s2.heap.objs.size hf _ cO;refine sI ?_;have st4:tn 0 (pushCells (s3.heap.push {cls:=.type "dict",data:=.dict #[]}) scope.names):=T.keep _ _ _ st3 λb _ o e=>L4z _ _ b o (Heap.get?_push_of_some _ e);generalize hXc:qH X scope (cellsFrom (s3.heap.objs.size+1) scope.names (jU X.env.cells scope.names [])) s3.heap.objs.size s3 (upd H2 s2.heap.objs.size (.lst [])) fp=Xc at J0 hg hif he turn
 have hprog:Xc.prog=X.prog:=by rw[<- hXc];rfl
 have hw:Xc.w=X.w:=by rw[<- hXc];rfl
 have hK:Xc.K=X.K:=by rw[<- hXc];rfl
 have hA:Xc.A=X.A:=by rw[<- hXc];rfl
 have hcm:Xc.calm=true:=by rw[<- hXc];rfl
 have hxe:Xc.xe=λ_ _=>False:=by rw[<- hXc];rfl
 have hen:Xc.env=vW scope (cellsFrom (s3.heap.objs.size+1) scope.names (jU X.env.cells scope.names [])) s3.heap.objs.size X.env:=by rw[<- hXc];rfl
 have hex:Xc.ex=fp:=by rw[<- hXc];rfl
 have hfs:Xc.fs=frs X.stack:=by rw[<- hXc];rfl
 have hs0:Xc.s₀=s3:=by rw[<- hXc];rfl
 have hH0:Xc.H₀=upd H2 s2.heap.objs.size (.lst []):=by rw[<- hXc];rfl
 have hpn:Xc.pn=[]:=by rw[<- hXc];rfl
 have stat:∀{H':Hp},(∀b∈fp,H' b=none)->∀b∈fp,yq Xc [] H' b:=λ{H'} hn b hb=>by
  refine⟨hn b hb,(J0.ok.exf b (by rw[hex];exact hb)).1,λz=>J0.ok.exfs b (by rw[hex];exact hb) z,.inl (by rw[hex];exact hb),(J0.ok.exf b (by rw[hex];exact hb)).2,λp hp=>?_⟩
  rw[hpn] at hp;exact absurd hp (by simp)
 have loop:codeAny (model X.prog X.w) X.A (.compLoop (.ListComp elt [⟨tg,iter,ifs,0⟩] scope pos) 0 (.ref it) (.ref s2.heap.objs.size) Xc.env)
   (R (.ref s2.heap.objs.size) s3.heap.objs.size) {s3 with heap:=pushCells (s3.heap.push {cls:=.type "dict",data:=.dict #[]}) scope.names}:=by
  refine gY (λn s'=>∃i σ' H',Inv Xc [] σ' H' s'/\tn i s'.heap/\(∀b∈fp,H' b=none)/\W i n σ' H') ?_ m0 ⟨0,_,_,J0,st4,λb hb=>(f3 b hb).1,w0⟩;rintro n s5 ⟨i,σ5,H5,I5,st5,fr5,w5⟩;obtain⟨stop,qn⟩|⟨go,N,hN,step⟩:=turn i n σ5 H5 w5
  .have q:=T.done Xc hprog hw hK hcm i [] s5 σ5 H5 (λ_ _=>False) I5 (stat fr5) st5 stop
   rw[hA] at q;refine thn q λr s6 ⟨hr,I6⟩=>?_;subst hr
   have hL:Xc.env.locals=s3.heap.objs.size:=by rw[hen];rfl
   have ub:=I6.base;rw[hfs,hex,hH0,hs0] at ub
   have IX:Inv X z0 σ H5 s6:=by
    refine I3.call' ?_ ub ?_ I6.bare λb hb=>⟨(f3 b hb).2.2.2.1,(f3 b hb).2.1,(f3 b hb).2.2.2.2.1,(f3 b hb).2.2.2.2.2⟩
    .have:=I6.os
     rw[hs0] at this;exact this
    .have hok:=I6.hok
     rw[hprog,hw] at hok;exact hok
   refine fin _ _ _ _ IX ⟨?_,?_,D6z I3.lt,I3.sz,λx c e=>?_,λp hp=>?_⟩ qn
   .obtain⟨m,hn,_⟩:=I6.loc
    rw[hL] at hn;exact⟨m,hn⟩
   .have:=I6.free
    rw[hL] at this;exact this
   .obtain⟨v,z⟩:=I3.cell x c e
    exact A6z z.lt
   .exact A6z (Z5z (I3.pin p hp).1)
  .have q:=T.item Xc hprog hw hK hcm i [] s5 σ5 H5 (λ_ _=>False) I5 (stat fr5) st5 go
   rw[hA] at q;refine thn q λr s6 ⟨u,hr,h6⟩=>?_;subst hr;refine thn h6 λ_ s7 ⟨x,H7,I7,r7,y7,st7,fr7⟩=>?_;have q8:=hg _ s7 σ5 H7 x u _ (I7.pinned (stat fr7) (T.obj _ _ st7)) r7 (step x H7 y7);rw[hprog,hw,hA,hxe] at q8;refine thn q8 λ_ s8 ⟨σ8,H8,I8,z8⟩=>?_;have q9:=hif _ s8 σ8 H8 _ I8 z8;rw[hprog,hw,hA,hxe] at q9;refine thn q9 λok s9 ⟨H9,I9,z9⟩=>?_
   have again:∀{s':Shared}{σ':St}{H':Hp},Inv Xc ([]++pR fp s7.heap) σ' H' s'->N σ' H'->∃m,m<n/\∃i σ' H',Inv Xc [] σ' H' s'/\tn i s'.heap/\(∀b∈fp,H' b=none)/\W i m σ' H':=λ{s' σ' H'} I' n'=>by
    obtain⟨m',hm,w'⟩:=hN σ' H' n';refine⟨m',hm,i+1,σ',H',I'.unpinned,T.keep _ _ _ st7 λb hb o e=>(I'.pin (b,o) (W0z _ (W0z _ (gJ hb e)))).1,λb hb=>?_,w'⟩;obtain⟨o,e,d⟩:=T.obj _ _ st7 b hb;exact(I'.pin (b,o) (W0z _ (W0z _ (gJ hb e)))).2.1
   cases ok with
   |false =>
    exact again I9 z9
   |true =>
    have q10:=he _ s9 σ8 H9 _ I9 z9;rw[hprog,hw,hA,hxe] at q10;refine thn q10 λuv s10 ⟨v,H10,I10,r10,ys,hy,hz,z10⟩=>?_;have q11:=iQ _ s10 σ8 H10 (.ref s2.heap.objs.size) [v] (.ref s2.heap.objs.size) [uv] (λ_ H'=>N σ8 H') I10 rfl (.cons r10 .nil) ⟨_,ys,v,rfl,rfl,hy,hz,z10⟩;rw[hprog,hw,hA,hxe] at q11;exact thn q11 λ_ s11 ⟨_,H11,I11,_,z11⟩=>again I11 z11
 have eenv:({ (newEnv scope s3.heap.objs.size X.env.globals (cellsFrom (s3.heap.objs.size+1) scope.names (jU X.env.cells scope.names [])) X.env.qual none .none (some X.env) builtinsNs) with scope:=relabel scope X.env}:Env)=Xc.env:=by rw[hen];rfl
 rw[eenv];exact codeAny_compStart_list loop (T.self X.A 0 _ _ _ st4 loop)
theorem Blk.gone(b:Blk X z0 H s C)(I:Inv X z0 σ H s)(hs:Heap.SameBut C s.heap h'):Inv X z0 σ H {s with heap:=h'} :=
 I.turned (λc o hc e=>(hs.2 c hc).trans e) b.free b.loc (.inr b.abv) b.cel b.pin
theorem kj(hc:X.calm=true)(hk:scope.kind=.function)(hnd:(scope.names.map (·.1)).Nodup)
  (hcap:∀x,(x,NameKind.free)∈scope.names->X.env.kindOf x=some .cell\/X.env.kindOf x=some .free) (hi:PI X tg iter wi)
  (hin:∀Xc:Cx,CompOf X scope Xc->PG Xc tg (g Xc)/\CZ Xc ifs (tc Xc)/\PE Xc elt (te Xc)) (hs:∀x,foldedSetIterable iter X.env x=pure x) :
  PE X (.ListComp elt [⟨tg,iter,ifs,0⟩] scope pos) (rN X scope wi (sO X.N scope.names) g tc te):=by
 intro z0 s σ H Q I h;refine wpAny_comprehension_free rfl hs (gA (jr I hnd hcap).1) hk (λx hx hl=>cB hnd (by rw[<- hl];exact hx)) ?_;refine qJ hc hk hnd hcap hi hin I h λacc C H' s' I' b q=>?_;obtain⟨m,hn⟩:=b.ns;exact⟨m,hn,λh' hsb=>⟨.ref acc,H',b.gone I' hsb,rfl,q⟩⟩
theorem JR{i:Nat}{x:Str}{elt tg iter:Expr}{ifs:List Expr}{scope:Scope}{pos pos' spos:Pos}{wi:TI}{g:Cx->TG}{tc:Cx->TT}{te:Cx->TE}(hN:X.N.Nodup)(hix:X.N[i]?=some x)(hx:X.env.scope.names.lookup x=some .local)
  (hc:X.calm=true) (hk:scope.kind=.function) (hnd:(scope.names.map (·.1)).Nodup)
  (hcap:∀x,(x,NameKind.free)∈scope.names->X.env.kindOf x=some .cell\/X.env.kindOf x=some .free) (hi:PI X tg iter wi)
  (hin:∀Xc:Cx,CompOf X scope Xc->PG Xc tg (g Xc)/\CZ Xc ifs (tc Xc)/\PE Xc elt (te Xc)) (hs:∀x,foldedSetIterable iter X.env x=pure x)
  (hsw:swapsWith (.ListComp elt [⟨tg,iter,ifs,0⟩] scope pos) (some (.Name x pos')) spos.line X.env=pure true) :
  PS X (.Assign [.Name x pos'] (.ListComp elt [⟨tg,iter,ifs,0⟩] scope pos) spos) (Ua (rN X scope wi (sO X.N scope.names) g tc te) (Lh i)):=by
 intro z0 s σ H D I h;rw[exec_Assign_Name_used _ _ _ _ hsw];refine R6z (wpAny_standAt (R6z ?_));show wpAny _ X.A (do let _ <- comprehension (.ListComp elt [⟨tg,iter,ifs,0⟩] scope pos) scope X.env _ (newList []) false (eval iter X.env) (some (assign (.Name x pos') X.env))) _ _ s
 refine R6z (thn (wpAny_comprehension_free (use:=some (assign (.Name x pos') X.env)) (Q:=λ_ s'=>SP X z0 D .next s') (cl:=jU X.env.cells scope.names []) rfl hs (gA (jr I hnd hcap).1) hk (λx hx hl=>cB hnd (by rw[<- hl];exact hx))
  (qJ hc hk hnd hcap hi hin I h λacc C H' s' I' b q=>?_)) λ_ s' hq=>S6z (S6z hq))
 show wpAny _ X.A (assign (.Name x pos') X.env (.ref acc)) _ _ s';refine wpAny_assign_Name (pB I' hN hix (.inl hx) (v:=.ref acc) rfl (λs'' I'' ⟨a,hsb,ha⟩=>?_) (.inr hx));obtain⟨m,hn⟩:=b.ns
 have hCa:C≠a:=by
  rcases ha with ha|ha
  .rw[ha];exact b.loc
  .exact(b.cel x a ha).symm
 have b2:Blk X z0 H' s'' C:=⟨⟨m,hn.sameBut hsb hCa⟩,b.free,b.loc,b.abv,b.cel,b.pin⟩;exact⟨m,hn.sameBut hsb hCa,λh' hsb'=>⟨_,H',b2.gone I'' hsb',q⟩⟩
end
section
variable{prog:Program}{w:World}{A:Around}{E:Value->Shared->Prop}{s:Shared}
theorem Gx(hh:A.handled=none)(hit:s.heap.IsTupleIter it t i)(ht:s.heap.IsTuple t its)
  (hs:∀x h',its[i]?=some x->h'.IsTupleIter it t (i+1)->Heap.SameBut it s.heap h'->Q x {s with heap:=h'})
  (he:∀h' e,its[i]?=none->Heap.ExtBut it s.heap h'->(∃o,h'.get? e=some o/\o.cls=.type "StopIteration")->E (.ref e) {s with heap:=h'}) :
  wpAny (model prog w) A (Builtin.SmallTypes.nextOf (.ref it)) Q E s:=by
 obtain⟨oi,hoi,hci,hdi⟩:=id hit;obtain⟨ot,hot,_,nt,hdt⟩:=ht;refine R6z (wpAny_callSpecial?_slot hit.typeIs F.slot_tuple_iterator_next (I3z F.slot_tuple_iterator_next hit.typeIs F.entry_tuple_iterator_next ?_ (F.args_tuple_iterator_next_1 _)));show wpAny _ _ (field (.ref it) 0 >>=_) _ _ s;refine R6z (M6z hoi hdi rfl ?_);have nn:¬ ((Value.ref t==Value.none)=true):=X1z;show wpAny _ _ (field (.ref it) 1 >>=_) _ _ s;refine R6z (M6z hoi hdi rfl ?_);show wpAny _ _ (seqItems? (.ref t) >>=_) _ _ s;refine R6z (B5z hot hdt ?_)
 cases hx:its[i]? with
 |some x =>
  simp[S2z,hx];have fin:(s.heap.update it λo=>o.mapFields (·.setIfInBounds 1 (rawInt ((i:Int)+1)))).IsTupleIter it t (i+1):=⟨_,Heap.get?_update_self _ hoi (X0z (E2z hdi _)),(T2z ..).trans hci,by rw[E2z hdi];simp[rawInt]⟩;exact R6z (C5z hoi hdi (by simp) (S6z ⟨x,rfl,S6z (hs x _ hx fin (R1z ..))⟩))
 |none =>
  simp[S2z,hx];refine R6z (T6z (R6z (C5z hoi hdi (by simp) (R6z ?_))));refine R6z (M2z (R6z (N6z (by first|rfl|(simp;rfl)) (M2z ?_ (by size_fits)))) (by size_fits));refine R6z (P5z ?_)
  first|rw[show A.in1.handled=none from hh]|rw[hh]
  exact R6z (S6z (wpAny_throw (he _ _ hx (((R1z ..).extBut.push _).push _) ⟨_,Heap.get?_push_size _ rfl,rfl⟩)))
structure ZT(h:Heap)(z ti to i1 i2 t1 t2:Addr)(k:Nat)(f:Value):Prop where
 hz:IsZip h z ti to f
 hi:IsPair h ti (.ref i1) (.ref i2)
 ho:∃a b,IsPair h to a b
 h1:h.IsTupleIter i1 t1 k
 h2:h.IsTupleIter i2 t2 k
theorem ZT.keep(x:ZT h z ti to i1 i2 t1 t2 k f)(kp:∀b∈[z,ti,to,i1,i2],∀o,h.get? b=some o->h'.get? b=some o):ZT h' z ti to i1 i2 t1 t2 k f :=
 ⟨kp z (by simp) _ x.hz,kp ti (by simp) _ x.hi,let ⟨a,b,e⟩:=x.ho;⟨a,b,kp to (by simp) _ e⟩,x.h1.at λo e=>kp i1 (by simp) o e,x.h2.at λo e=>kp i2 (by simp) o e⟩
theorem yt(hh:A.handled=none)(D:ZipApart z ti to i1 i2 t1 t2)(hZ:ZT s.heap z ti to i1 i2 t1 t2 k .none)
  (ht1:s.heap.IsTuple t1 xs) (ht2:s.heap.IsTuple t2 ys)
  (hs:∀x y h', xs[k]?=some x->ys[k]?=some y->ZT h' z ti to i1 i2 t1 t2 (k + 1) (rawInt s.heap.objs.size)->IsPair h' s.heap.objs.size x y->h'.objs.size=s.heap.objs.size + 1 ->
   (∀c o,c∉[z,to,i1,i2]->s.heap.get? c=some o->h'.get? c=some o)->Q (.done (.ret (.ref s.heap.objs.size))) {s with heap:=h'})
  (he:∀h' e,(xs[k]?=none\/ys[k]?=none)->(∀c o,c∉[z,to,i1,i2]->s.heap.get? c=some o->h'.get? c=some o)->(∃o,h'.get? e=some o/\o.cls=.type "StopIteration")->E (.ref e) {s with heap:=h'}) :
  wpAny (model prog w) A (Builtin.«zip.__next__» ⟨[.ref z],[]⟩) Q E s:=by
 obtain⟨hz,hi,⟨a,b,ho⟩,h1,h2⟩:=hZ;show wpAny _ _ (field (.ref z) 2 >>=_) _ _ _;refine R6z (M6z hz rfl rfl ?_);show wpAny _ _ (field (.ref z) 3 >>=_) _ _ _;refine R6z (M6z hz rfl rfl (R6z (B5z hi rfl ?_)));refine R6z (R6z (M6z hz rfl rfl (S6z ?_)));refine R6z (T6z (R6z (M6z hz rfl rfl (R6z (F2z hz (by simp) λha za sa=>?_)))))
 replace za:IsZip ha z ti to .ellipsis:=za
 refine R6z ?_;refine R6z (R6z (wpAny_onRaise ?_))
 have ne4:∀{c:Addr},c∉[z,to,i1,i2]->c≠z/\c≠to/\c≠i1/\c≠i2:=λhc=>by simpa using hc
 refine R6z (Gx hh (h1.extBut sa.extBut D.i1z) (ht1.extBut sa.extBut D.l1z) (λx hb hx itb sb=>S6z ?_) λhb e hx eb ⟨oe,oe1,oe2⟩=>?_)
 .have tob:=sb.extBut _ _ D.TOi1 (sa.extBut _ _ D.TOz ho)
  refine R6z (B5z tob rfl (R6z (wpAny_updateSeq_pair tob λhc toc sc=>R6z (O6z (S6z ?_)))))
  replace toc:IsPair hc to x b:=toc
  refine R6z (R6z (wpAny_onRaise ?_));have h2c:=((h2.extBut sa.extBut D.i2z).extBut sb.extBut D.i12.symm).extBut sc.extBut D.TOi2.symm;have t2c:=((ht2.extBut sa.extBut D.l2z).extBut sb.extBut D.l2i1).extBut sc.extBut D.l2TO;refine R6z (Gx hh h2c t2c (λy hd hy itd sd=>S6z ?_) λhd e hy ed ⟨oe,oe1,oe2⟩=>?_)
  .have tod:=sd.extBut _ _ D.TOi2 toc
   refine R6z (B5z tod rfl (R6z (wpAny_updateSeq_pair tod λhf tof sf=>R6z (O6z (S6z (S6z ?_))))))
   replace tof:IsPair hf to x y:=tof
   refine R6z (B5z tof rfl (R6z (wpAny_newTuple ?_)))
   have szf:hf.objs.size=s.heap.objs.size:=by rw[sf.1,sd.1,sc.1,sb.1,sa.1]
   have zf:=sf.extBut _ _ D.TOz.symm (sd.extBut _ _ D.i2z.symm (sc.extBut _ _ D.TOz.symm (sb.extBut _ _ D.i1z.symm za)))
   have kf:∀c o,c∉[z,to,i1,i2]->s.heap.get? c=some o->hf.get? c=some o:=λc o hc' e=>by
    obtain⟨c1,c2,c3,c4⟩:=ne4 hc';exact sf.extBut _ _ c2 (sd.extBut _ _ c4 (sc.extBut _ _ c2 (sb.extBut _ _ c3 (sa.extBut _ _ c1 e))))
   have i1f:=((itb.extBut sc.extBut D.TOi1.symm).extBut sd.extBut D.i12).extBut sf.extBut D.TOi1.symm;have i2f:=itd.extBut sf.extBut D.TOi2.symm;have tif:=sf.extBut _ _ D.TITO (sd.extBut _ _ D.TIi2 (sc.extBut _ _ D.TITO (sb.extBut _ _ D.TIi1 (sa.extBut _ _ D.TIz hi))));have zlt:=Z5z zf;have zg:IsZip (hf.push {cls:=.type "tuple",data:=.seq #[x,y]}) z ti to .ellipsis:=Heap.get?_push_of_some _ zf;refine R6z (R6z (F2z zg (by simp) λhk zk sk=>F2z zk (by simp) λhm zm sm=>S6z ?_))
   replace zm:IsZip hm z ti to (rawInt hf.objs.size):=zm
   have up:∀c o,c≠z->hf.get? c=some o->hm.get? c=some o:=λc o c1 e=>sm.extBut _ _ c1 (sk.extBut _ _ c1 (Heap.get?_push_of_some _ e));have new:=sm.extBut _ _ (D6z zlt) (sk.extBut _ _ (D6z zlt) (Heap.get?_push_size _ rfl))
   have szm:hm.objs.size=hf.objs.size+1:=by rw[sm.1,sk.1,Z4z]
   have q:=hs x y hm hx hy ⟨by rw[<- szf];exact zm,up _ _ D.TIz tif,⟨x,y,up _ _ D.TOz tof⟩,i1f.at λo e=>up _ o D.i1z e,i2f.at λo e=>up _ o D.i2z e⟩ (by rw[<- szf];exact new) (by rw[szm,szf]) λc o hc' e=>up c o (ne4 hc').1 (kf c o hc' e)
   rw[<- szf] at q;exact q
  .have zd:=ed _ _ D.i2z.symm (sc.extBut _ _ D.TOz.symm (sb.extBut _ _ D.i1z.symm za))
   refine F2z zd (by simp) λhf _ sf=>he hf e (.inr hy) (λc o hc' q=>?_) ⟨oe,sf.extBut _ _ (λq=>by subst q;rw[zd] at oe1;cases oe1;simp at oe2) oe1,oe2⟩
   obtain⟨c1,c2,c3,c4⟩:=ne4 hc';exact sf.extBut _ _ c1 (ed _ _ c4 (sc.extBut _ _ c2 (sb.extBut _ _ c3 (sa.extBut _ _ c1 q))))
 .have zb:=eb _ _ D.i1z.symm za
  refine F2z zb (by simp) λhf _ sf=>he hf e (.inl hx) (λc o hc' q=>?_) ⟨oe,sf.extBut _ _ (λq=>by subst q;rw[zb] at oe1;cases oe1;simp at oe2) oe1,oe2⟩
  obtain⟨c1,c2,c3,c4⟩:=ne4 hc';exact sf.extBut _ _ c1 (eb _ _ c3 (sa.extBut _ _ c1 q))
theorem j5(hh:A.handled=none)(D:ZipApart z ti to i1 i2 t1 t2)(hZ:ZT s.heap z ti to i1 i2 t1 t2 k .none)
  (ht1:s.heap.IsTuple t1 xs) (ht2:s.heap.IsTuple t2 ys)
  (hs:∀x y h', xs[k]?=some x->ys[k]?=some y->ZT h' z ti to i1 i2 t1 t2 (k + 1) (rawInt s.heap.objs.size)->IsPair h' s.heap.objs.size x y->h'.objs.size=s.heap.objs.size + 1 ->
   (∀c o,c∉[z,to,i1,i2]->s.heap.get? c=some o->h'.get? c=some o)->Q (some (.ref s.heap.objs.size)) {s with heap:=h'})
  (he:∀h',(xs[k]?=none\/ys[k]?=none)->(∀c o,c∉[z,to,i1,i2]->s.heap.get? c=some o->h'.get? c=some o)->Q none {s with heap:=h'}) :
  wpAny (model prog w) A (pyNext (.ref z)) Q E s:=by
 have hT:s.TypeIs (.ref z) "zip":=⟨_,hZ.hz,rfl⟩
 refine R6z (Q5z (wpAny_callSpecial?_slot hT F.slot_zip_next (I3z F.slot_zip_next hT F.entry_zip_next
  (yt hh D hZ ht1 ht2 (λx y h' a1 a2 a3 a4 a5 a6=>⟨_,rfl,S6z (hs x y h' a1 a2 a3 a4 a5 a6)⟩) λh' e a1 a2 ⟨o,e1,e2⟩=>?_) (F.args_zip_next_1 _))))
 exact R6z (M3z ⟨o,e1,e2⟩ D5z (S6z (he h' a1 a2)))
abbrev itT(t:Addr):Obj:={cls:=.type "tuple_iterator",data:=.fields #[.ref t,.int 0 0]}
theorem Iu(hp H1 H2 H3 H4 H5:Heap)(t1 t2:Addr)(e1:H1=hp.push (itT t1))(e2:H2=H1.push (itT t2))(e3:H3=H2.push {cls:=.type "tuple",data:=.seq #[.ref hp.objs.size,.ref H1.objs.size]})(e4:H4=H3.push {cls:=.type "tuple",data:=.seq #[.none,.none]})
  (e5:H5=H4.push {cls:=.type "zip",data:=.fields #[.none,.bool false,.bool false,.ref H2.objs.size,.ref H3.objs.size]}) :
  H4.objs.size=hp.objs.size+4/\H5.objs.size=hp.objs.size+5/\(∀c o,hp.get? c=some o->H5.get? c=some o)/\ZT H5 (hp.objs.size+4) (hp.objs.size+2) (hp.objs.size+3) hp.objs.size (hp.objs.size+1) t1 t2 0 .none:=by
 have z1:H1.objs.size=hp.objs.size+1:=by rw[e1,Z4z]
 have z2:H2.objs.size=hp.objs.size+2:=by rw[e2,Z4z,z1]
 have z3:H3.objs.size=hp.objs.size+3:=by rw[e3,Z4z,z2]
 have z4:H4.objs.size=hp.objs.size+4:=by rw[e4,Z4z,z3]
 have z5:H5.objs.size=hp.objs.size+5:=by rw[e5,Z4z,z4]
 have k5:∀c o,H4.get? c=some o->H5.get? c=some o:=λc o e=>by rw[e5];exact Heap.get?_push_of_some _ e
 have k4:=λc o e=>k5 c o (by rw[e4];exact Heap.get?_push_of_some _ e)
 have k3:=λc o e=>k4 c o (by rw[e3];exact Heap.get?_push_of_some _ e)
 have k2:=λc o e=>k3 c o (by rw[e2];exact Heap.get?_push_of_some _ e)
 have k1:=λc o e=>k2 c o (by rw[e1];exact Heap.get?_push_of_some _ e)
 refine⟨z4,z5,k1,?_,?_,⟨.none,.none,?_⟩,⟨_,k2 _ _ (by rw[e1];exact Heap.get?_push_size _ rfl),rfl,rfl⟩,⟨_,k3 _ _ (by rw[e2,<- z1];exact Heap.get?_push_size _ rfl),rfl,rfl⟩⟩
 .have q:H5.get? H4.objs.size=some {cls:=.type "zip",data:=.fields #[.none,.bool false,.bool false,.ref H2.objs.size,.ref H3.objs.size]}:=by rw[e5];exact Heap.get?_push_size _ rfl
  rw[z2,z3,z4] at q;exact q
 .have q:=k4 _ _ (by rw[e3];exact Heap.get?_push_size _ rfl)
  rw[z1,z2] at q;exact q
 .have q:=k5 _ _ (by rw[e4];exact Heap.get?_push_size _ rfl)
  rw[z3] at q;exact q
theorem Dm(t1 t2:Addr)(xs ys:Array Value) :
    Meets (Builtin.«zip.__new__» ⟨[.type "zip",.ref t1,.ref t2],[]⟩) (λ_ R s=>s.heap.IsTuple t1 xs/\s.heap.IsTuple t2 ys /\
      ∀h', (∀c o, s.heap.get? c=some o->h'.get? c=some o)->h'.objs.size=s.heap.objs.size + 5->ZT h' (s.heap.objs.size + 4) (s.heap.objs.size + 2) (s.heap.objs.size + 3) s.heap.objs.size (s.heap.objs.size + 1) t1 t2 0 .none ->
        R (.ok (.ret (.ref (s.heap.objs.size+4)))) {s with heap:=h'}) :=
  .of_wp λprog w A R s h=>by
    obtain⟨hp,g,d,tk,os⟩:=s;obtain⟨hl1,hl2,h⟩:=h
    have hsub:=sub_zip
    have hL2:Heap.IsTuple (Shared.heap ⟨hp.push (itT t1),g,d,tk,os⟩) t2 ys:=let ⟨o,e,r⟩:=hl2;⟨o,Heap.get?_push_of_some _ e,r⟩
    wp_walk using Y1z hl1,Y1z hL2
    refine⟨_,rfl,?_⟩
    obtain⟨z4,z5,kp,Z⟩:=Iu hp _ _ _ _ _ t1 t2 rfl rfl rfl rfl rfl
    have q:=h _ kp z5 Z
    rw[<- z4] at q
    exact q
theorem Cm(hl1:s.heap.IsTuple t1 xs)(hl2:s.heap.IsTuple t2 ys)
  (h:∀h', (∀c o, s.heap.get? c=some o->h'.get? c=some o)->h'.objs.size=s.heap.objs.size + 5->ZT h' (s.heap.objs.size + 4) (s.heap.objs.size + 2) (s.heap.objs.size + 3) s.heap.objs.size (s.heap.objs.size + 1) t1 t2 0 .none ->
   Q (.ref (s.heap.objs.size+4)) {s with heap:=h'}):wpAny (model prog w) A (call (.type "zip") [.ref t1,.ref t2]) Q E s:=by
 exact callType_new F.called_zip (by decide) (F.typeCall_zip_2 _ _) (F.newCall_zip_2 _ _) (λobj=>F.args_object_init_3 obj _ _) F.entry_zip_new (Dm t1 t2 xs ys) ⟨hl1,hl2,λh' kp z5 Z=>⟨⟨_,Z.hz,rfl⟩,h h' kp z5 Z⟩⟩
end
namespace RF
theorem slot_next:Slot "reversed" "__next__" "reversed.__next__":=.of (owner:="reversed") (n:="__next__") (by rw[M4z,Y0z];rfl') rfl rfl rfl (by first|exact .inl rfl|exact .inr rfl) (by rw[E5z];rfl')
theorem pD:Slot "reversed" "__iter__" "reversed.__iter__":=.of (owner:="reversed") (n:="__iter__") (by rw[M4z,Y0z];rfl') rfl rfl rfl (by first|exact .inl rfl|exact .inr rfl) (by rw[E5z];rfl')
theorem zA:Slot "reversed" "__init__" "object.__init__":=.of (owner:="object") (n:="__init__") (by rw[M4z,Y0z];rfl') rfl rfl rfl (by first|exact .inl rfl|exact .inr rfl) (by rw[E5z];rfl')
theorem slot_hint:Slot "reversed" "__length_hint__" "reversed.__length_hint__":=.of (owner:="reversed") (n:="__length_hint__") (by rw[M4z,Y0z];rfl') rfl rfl rfl (by first|exact .inl rfl|exact .inr rfl) (by rw[E5z];rfl')
theorem no_len:typeLookup (.type "reversed") "__len__"=pure none:=by rw[M4z,Y0z];rfl'
theorem entry_next:entryFor table "reversed.__next__"=some Builtin.«reversed.__next__» :=N3z rfl
theorem xZ:entryFor table "reversed.__length_hint__"=some Builtin.«reversed.__length_hint__» :=N3z rfl
theorem Bw:entryFor table "reversed.__new__"=some Builtin.«reversed.__new__» :=N3z rfl
theorem xY:entryFor table "reversed.__iter__"=some Builtin.«dict_keyiterator.__iter__» :=F5z (id':="dict_keyiterator.__iter__") rfl (by first|rfl|decide +kernel|(unfold String.splitOn;simp +decide [String.splitOnAux])) (by decide +kernel) rfl
theorem owner:Manifest.owners.lookup (String.ofList ['d','e','s','r','e','v','e','r'].reverse)=some Manifest.sig_reversed:=by rfl'
theorem args_next(a:Value):argsOk "reversed.__next__" ⟨[a],[]⟩:=by unfold argsOk;rw[signature?_of (n:=['_','_','t','x','e','n','_','_']) rfl owner];rfl'
theorem CP(a:Value):argsOk "reversed.__iter__" ⟨[a],[]⟩:=by unfold argsOk;rw[signature?_of (n:=['_','_','r','e','t','i','_','_']) rfl owner];rfl'
theorem CQ(a:Value):argsOk "reversed.__length_hint__" ⟨[a],[]⟩:=by unfold argsOk;rw[signature?_of (n:=['_','_','t','n','i','h','_','h','t','g','n','e','l','_','_']) rfl owner];rfl'
theorem mro:mroOf (.type "reversed")=pure [.type "reversed",.type "object"]:=by rw[mroOf_type];rfl'
theorem Fv:typeLookup (.type "reversed") "__new__"=pure (some (.builtin "reversed.__new__")):=by rw[M4z,Y0z];rfl'
theorem called:TypeCalled "reversed" "reversed.__new__" "object.__init__":=⟨by decide +kernel,by decide +kernel,⟨_,_,mro⟩,madeBy_type mro Fv (by decide +kernel),by decide +kernel,by rw[E5z];rfl',zA⟩
theorem Tr(a:Value):checkTypeCall "reversed" ⟨[a],[]⟩=pure ():=by rfl'
theorem U6(a:Value):checkBuiltinCall "reversed.__new__" ⟨[.type "reversed",a],[]⟩=pure ():=by rfl'
theorem sub_self:isSubtype (.type "reversed") (.type "reversed")=pure true:=by rw[E5z];rfl'
theorem yJ:typeLookup (.type "tuple") "__reversed__"=pure none:=by rw[M4z,Y0z];rfl'
end RF
theorem QD(a:Value):Builtin.SmallTypes.newClass "reversed" ⟨[.type "reversed",a],[]⟩=pure (.type "reversed",[a]):=by
 unfold Builtin.SmallTypes.newClass;simp[isType,RF.sub_self,pure_bind,Bool.not_true,D2z,C7z]
abbrev JD(t:Addr)(i:Int):Obj:={cls:=.type "reversed",data:=.fields #[.ref t,rawInt i]}
theorem DX(t:Addr)(its:Array Value) :
    Meets (Builtin.«reversed.__new__» ⟨[.type "reversed",.ref t],[]⟩) (λ_ R s=>IsTup s.heap t its/\its.size<=sizeLine/\∀tk,R (.ok (.ret (.ref s.heap.objs.size))) {s with heap:=s.heap.push (JD t ((its.size:Int)-1)),toks:=tk}) :=
  .of_wp λprog w A R s h=>by
    obtain⟨ht,hz,h⟩:=h
    have hT:=Heap.IsTuple.typeIs ht
    refine R6z (N6z (QD _) ?_)
    refine R6z (N6z (by first|rfl|rfl') (R6z (N6z (by first|rfl|rfl') ?_)))
    refine R6z (N4z hT RF.yJ ?_)
    have lk:typeLookup (.type "tuple") "__getitem__"=pure (some (.builtin "tuple.__getitem__")):=by rw[M4z,Y0z];rfl'
    have sd:isSubtype (.type "tuple") (.type "dict")=pure false:=by rw[E5z];rfl'
    have fit : (its.size : Int) < 2 ^ 63 := by have : sizeLine < 2 ^ 63 := by (rw [J6z]; decide)
                                               omega
    wp_walk using N4z hT lk,N6z sd,PyProof.Rows.len_tuple ht fit
    exact⟨_,rfl,h _⟩
section
variable{prog:Program}{w:World}{A:Around}{E:Value->Shared->Prop}{s:Shared}
theorem qT(ht:IsTup s.heap t its)(hz:its.size<=sizeLine)(h:∀tk,Q (.ref s.heap.objs.size) {s with heap:=s.heap.push (JD t ((its.size:Int)-1)),toks:=tk}) :
  wpAny (model prog w) A (call (.type "reversed") [.ref t]) Q E s :=
 callType_new RF.called rfl (RF.Tr _) (RF.U6 _) (λobj=>H1z obj _) RF.Bw (DX t its) ⟨ht,hz,λtk=>⟨⟨_,Heap.get?_push_size _ rfl,rfl⟩,h tk⟩⟩
abbrev d8(h:Heap)(r t:Addr)(i:Int):Prop:=h.get? r=some (JD t i)
theorem zL{i:Nat}(hr:d8 s.heap r t (i:Int))(ht:IsTup s.heap t its)(hx:its[i]?=some x)(hz:its.size<=sizeLine)
    (hQ:∀h' tk,d8 h' r t ((i:Int)-1)->Heap.SameBut r s.heap h'->Q (.done (.ret x)) {s with heap:=h',toks:=tk}):wpAny (model prog w) A (Builtin.«reversed.__next__» ⟨[.ref r],[]⟩) Q E s:=by
  have lk:typeLookup (.type "tuple") "__getitem__"=pure (some (.builtin "tuple.__getitem__")):=by rw[M4z,Y0z];rfl'
  unfold Builtin.«reversed.__next__»
  refine R6z (N6z (a:=(Value.ref r,[])) rfl ?_)
  refine R6z (M6z hr rfl (x:=.ref t) rfl (R6z (M6z hr rfl (x:=rawInt (i:Int)) rfl ?_)))
  show wpAny _ _ (if(i:Int)<0 then _ else _) _ _ s
  rw[H7z (by omega)]
  have hi:i<its.size:=(Array.getElem?_eq_some_iff.mp hx).1
  have fit : (its.size : Int) < 2 ^ 63 := by have : sizeLine < 2 ^ 63 := by (rw [J6z]; decide)
                                             omega
  have sq:seqIndex? (i:Int) its.size=some i:=by
    unfold seqIndex?
    simp
    omega
  refine R6z (N4z (Heap.IsTuple.typeIs (show s.heap.IsTuple t its from ht)) lk ?_)
  refine R6z (wpAny_mkInt ?_)
  refine R6z (Q5z (PyProof.Rows.getItem_tuple ht (by omega) (by omega) sq hx ?_))
  refine R6z (M6z hr rfl rfl ?_)
  refine R6z (F2z hr (by simp) λh' hr' hs'=>S6z (hQ h' _ ?_ hs'))
  exact hr'
theorem DY(hh:A.handled=none)(hr:d8 s.heap r t (-1))
  (hE:∀h' e,Heap.ExtBut r s.heap h'->(∃o,h'.get? e=some o/\o.cls=.type "StopIteration")->E (.ref e) {s with heap:=h'}):wpAny (model prog w) A (Builtin.«reversed.__next__» ⟨[.ref r],[]⟩) Q E s:=by
 refine R6z (N6z rfl ?_);refine R6z (M6z hr rfl rfl (R6z (M6z hr rfl rfl ?_)));show wpAny _ _ (if(-1:Int)<0 then _ else _) _ _ s
 wp_walk using F2z hr (by simp)
 intro h1 e1 s1;refine F2z e1 (by simp) λh2 e2 s2=>?_;refine R6z ?_;refine R6z ?_;refine R6z (M2z (R6z (N6z (by first|rfl|(simp;rfl)) (M2z ?_ (by size_fits)))) (by size_fits));refine R6z (P5z ?_)
 first|rw[show A.in1.handled=none from hh]|rw[hh]
 exact R6z (S6z (wpAny_throw (hE _ _ (((s1.trans s2).extBut.push _).push _) ⟨_,Heap.get?_push_size _ rfl,rfl⟩)))
theorem j6{i:Nat}(hr:d8 s.heap r t (i:Int))(ht:IsTup s.heap t its)(hx:its[i]?=some x)(hz:its.size<=sizeLine)
  (hQ:∀h' tk,d8 h' r t ((i:Int)-1)->Heap.SameBut r s.heap h'->Q (some x) {s with heap:=h',toks:=tk}):wpAny (model prog w) A (pyNext (.ref r)) Q E s:=by
 have hT:s.TypeIs (.ref r) "reversed":=⟨_,hr,rfl⟩
 exact R6z (Q5z (wpAny_callSpecial?_slot hT RF.slot_next (I3z RF.slot_next hT RF.entry_next
  (zL hr ht hx hz λh' tk a b=>⟨_,rfl,S6z (hQ h' tk a b)⟩) (RF.args_next _))))
theorem fX(hh:A.handled=none)(hr:d8 s.heap r t (-1))(hQ:∀h',Heap.ExtBut r s.heap h'->Q none {s with heap:=h'}):wpAny (model prog w) A (pyNext (.ref r)) Q E s:=by
 have hT:s.TypeIs (.ref r) "reversed":=⟨_,hr,rfl⟩
 refine R6z (Q5z (wpAny_callSpecial?_slot hT RF.slot_next (I3z RF.slot_next hT RF.entry_next
  (DY hh hr λh' e a ⟨o,e1,e2⟩=>R6z (M3z ⟨o,e1,e2⟩ D5z (S6z (hQ h' a)))) (RF.args_next _))))
theorem fB(hr:d8 s.heap r t i)(h:Q (.ref r) s):wpAny (model prog w) A (pyIter (.ref r)) Q E s:=by
 have hT:s.TypeIs (.ref r) "reversed":=⟨_,hr,rfl⟩;refine wpAny_pyIter_slot hT RF.pD (I3z RF.pD hT RF.xY (S6z ⟨_,rfl,"reversed",_,hT,RF.slot_next.lookup,h⟩) (RF.CP _))
theorem Bk(hr:d8 s.heap r t i)(ht:IsTup s.heap t its)(hz:its.size<=sizeLine)(hi:i+1<=its.size)
    (hQ:∀tk tk',s.toks<=tk'->Q (.int (i+1) tk) {s with toks:=tk'}):wpAny (model prog w) A (call (.builtin "reversed.__length_hint__") [.ref r]) Q E s:=by
  have fit : (its.size : Int) < 2 ^ 63 := by have : sizeLine < 2 ^ 63 := by (rw [J6z]; decide)
                                             omega
  refine I3z RF.slot_hint ⟨_,hr,rfl⟩ RF.xZ ?_ (RF.CQ _)
  refine R6z (N6z rfl ?_)
  refine R6z (M6z hr rfl rfl ?_)
  have nn:¬ ((Value.ref t==Value.none)=true):=X1z
  refine R6z (PyProof.Rows.len_tuple ht fit (R6z (N6z rfl ?_)))
  refine R6z (M6z hr rfl rfl ?_)
  show wpAny _ _ (if(its.size:Int)<i+1 then _ else _) _ _ _
  rw[H7z (by omega)]
  exact R6z (wpAny_mkInt (S6z ⟨_,rfl,hQ _ _ (by show s.toks<=s.toks+1+1+1;omega)⟩))
theorem yw(hh:A.handled=none)(r t:Addr)(hne:t≠r)(its:Array Value)(hz:its.size<=sizeLine) :
  Walks prog w A r [r,t] [r] its.size (λi v=>its[its.size-1-i]?=some v) (λi h=>i<=its.size/\d8 h r t ((its.size:Int)-1-(i:Int))/\IsTup h t its) where
 sub:=λb hb=>by simp at hb;simp[hb]
 frame:=λ_ _ _ x hk=>⟨x.1,hk r (by simp) _ x.2.1,let ⟨o,e,q⟩:=x.2.2;⟨o,hk t (by simp) o e,q⟩⟩
 item:=λi s Q E hi x hQ=>by
  have e1:(its.size:Int)-1-(i:Int)=((its.size-1-i:Nat):Int):=by omega
  have hr:=x.2.1;rw[e1] at hr;have hx:its[its.size-1-i]?=some (its[its.size-1-i]'(by omega)):=Array.getElem?_eq_getElem (by omega);refine j6 hr x.2.2 hx hz λh' tk hr' hs'=>?_
  have e2:((its.size-1-i:Nat):Int)-1=(its.size:Int)-1-((i+1:Nat):Int):=by omega
  rw[e2] at hr';exact hQ _ h' tk hx ⟨hi,hr',let ⟨o,e,q⟩:=x.2.2;⟨o,(hs'.2 t hne).trans e,q⟩⟩ λb o hb eo=>hs'.extBut b o (λh=>hb (by simp[h])) eo
 done:=λs Q E x hQ=>by
  have e1:(its.size:Int)-1-(its.size:Int)=-1:=by omega
  have hr:=x.2.1;rw[e1] at hr;exact fX hh hr λh' he'=>hQ h' s.toks λb o hb eo=>he' b o (λh=>hb (by simp[h])) eo
 self:=λ_ _ _ _ x hQ=>fB x.2.1 hQ
theorem qN(hh:A.handled=none)(hr:d8 s.heap r t ((its.size:Int)-1))(ht:IsTup s.heap t its)(hz:its.size<=sizeLine)
  (hQ:∀s' acc,Moved [r] (λa b=>b=a) s s'->ItemsOf (λi v=>its[its.size-1-i]?=some v) acc its.size->Q acc.toList s'):wpAny (model prog w) A (collect (.ref r)) Q E s:=by
 have hne:t≠r:=λe=>by
  obtain⟨o,e1,e2,_⟩:=ht;rw[e,hr] at e1;have e4:Value.type "reversed"=Value.type "tuple":=(congrArg Obj.cls (C4z e1)).trans e2;exact absurd e4 (by decide)
 have W:=(yw (prog:=prog) (w:=w) (A:=A.in1.in1) hh r t hne its hz).toS
 have fresh:∀b∈[r,t],b<s.heap.objs.size:=λb hb=>by
  simp at hb;obtain rfl|rfl:=hb
  .exact Z5z hr
  .exact ht.lt
 have nf:=λhm=>M5z _ (fresh _ hm);have nr:s.heap.objs.size≠r:=λe=>nf (by simp[e]);refine R6z (G5z (O4z F.entry_proto_collect ?_));refine R6z (M2z (S6z ⟨R5z F.plain_list_iadd _,O4z F.entry_list_iadd ?_⟩));have hS₁:(s.heap.push {cls:=.type "list",data:=.seq ([]:List Value).toArray}).get? s.heap.objs.size=some {cls:=.type "list",data:=.seq ([]:List Value).toArray}:=Heap.get?_push_size _ rfl;have hr₁:d8 (s.heap.push {cls:=.type "list",data:=.seq ([]:List Value).toArray}) r t ((its.size:Int)-1):=Heap.get?_push_of_some _ hr;have ht₁:IsTup (s.heap.push {cls:=.type "list",data:=.seq ([]:List Value).toArray}) t its:=let ⟨o,e,q⟩:=ht;⟨o,Heap.get?_push_of_some _ e,q⟩;show wpAny _ A.in1 (Builtin.List.listExtendWith (.ref s.heap.objs.size) (.ref r) (.ref s.heap.objs.size)) _ _ _;have hT₁:({s with heap:=s.heap.push {cls:=.type "list",data:=.seq ([]:List Value).toArray} }:Shared).TypeIs (.ref r) "reversed":=⟨_,hr₁,rfl⟩
 have h1:Builtin.List.listSameRef (.ref s.heap.objs.size) (.ref r)=false:=by simp[Builtin.List.listSameRef,nr]
 refine R6z (F6z hT₁ ?_);rw[H7z (by rw[h1];decide)];refine R6z (fB hr₁ ?_);refine R6z (N5z ?_);refine R6z (N4z hT₁ RF.no_len ?_);refine R6z (N4z hT₁ RF.slot_hint.lookup ?_)
 have sp:splitId "reversed.__length_hint__"=some ("reversed","__length_hint__"):=by decide +kernel
 dsimp only;rw[sp];refine R6z (M3z hT₁ RF.sub_self ?_);refine R6z (T6z (R6z (N6z (RF.slot_hint.bind _) ?_)));refine R6z (Q5z (Bk hr₁ ht₁ hz (by omega) λtk tk' htk=>?_));refine R6z (N6z rfl ?_);dsimp only
 have fit:sizeLine<2^62:=by rw[J6z];decide
 have f1:Builtin.List.listFitsIndex ((its.size:Int)-1+1)=true:=by
  unfold Builtin.List.listFitsIndex;simp;omega
 have f2:Builtin.List.listTooLong ((its.size:Int)-1+1).toNat=false:=by
  unfold Builtin.List.listTooLong;simp;omega
 rw[H7z (by rw[f1];decide),H7z (by omega),H7z (by rw[f2];decide)]
 refine S6z ?_
 have loop:∀h':Heap,(∀b o,b≠s.heap.objs.size->(s.heap.push {cls:=.type "list",data:=.seq ([]:List Value).toArray}).get? b=some o->h'.get? b=some o)->(∃c,h'.get? s.heap.objs.size=some {cls:=.type "list",dict:=none,data:=.seq #[] c,slots := #[]}) ->
   ∀tk,s.toks<=tk->codeAny (model prog w) A (.builtin "list.extend.loop" ⟨[.ref s.heap.objs.size,.ref r,.ref s.heap.objs.size],[]⟩) (λr s'=>match r with
    |.ok (.ret v)=>wpAny (model prog w) A (match v with|.ref a=>do (match (<- load a).data with|.seq xs _=>pure xs.toList|_=>unsupported "internal:collect")|_=>unsupported "internal:collect") Q E s'
    |.ok _=>False
    | .error e=>E e s') {s with heap:=h',toks:=tk}:=by
  intro h' kp ⟨c,hS⟩ tk htk;have kp':=λb o e=>kp b o (A6z (Z5z e)) (Heap.get?_push_of_some _ e);refine I1z W.of_in1 hz _ nf _ its.size 0 _ #[] c rfl (K6z _) ⟨K6z _,by simpa using kp' _ _ hr,let ⟨o,e,q⟩:=ht;⟨o,kp' _ o e,q⟩⟩ hS (ItemsOf.nil _) λs' acc' c' hm hS' hacc=>?_;exact R6z (wpAny_load hS' (S6z (hQ s' acc' ⟨λb o hb e=>(hm.heap b o (by simp at hb ⊢;exact⟨A6z (Z5z e),hb⟩) (kp' b o e)),hm.gens,hm.drawn,hm.os,B6z htk hm.toks⟩ hacc)))
 refine P4z (λ_=>?_) (λ_=>S6z ⟨R5z S1z _,loop _ (λb o _ e=>e) ⟨_,hS₁⟩ tk' htk⟩);refine R6z (T6z (R6z ?_));refine R6z (Q4z hS₁ rfl ?_);have hS₂:=Heap.get?_update_self (Obj.mapSeq (·.push Value.none)) hS₁ rfl;refine Q4z hS₂ rfl (S6z ⟨R5z S1z _,loop _ (λb o hb e=>?_) ⟨_,Heap.get?_update_self (Obj.mapSeq (·.pop)) hS₂ rfl⟩ tk' htk⟩);exact(Heap.get?_update_other _ _ (E7z hb)).trans ((Heap.get?_update_other _ _ (E7z hb)).trans e)
theorem lN(hh:A.handled=none)(hr:d8 s.heap r t ((its.size:Int)-1))(ht:IsTup s.heap t its)(hz:its.size<=sizeLine)
  (hQ:∀s' acc,Moved [r] (λa b=>b=a) s s'->ItemsOf (λi v=>its[its.size-1-i]?=some v) acc its.size->Q (.ref s'.heap.objs.size) {s' with heap:=s'.heap.push {cls:=.type "tuple",data:=.seq acc} }) :
  wpAny (model prog w) A (call (.type "tuple") [.ref r]) Q E s:=by
 refine callType_codes (Q₁:=λobj s₁=>s₁.TypeIs obj "tuple"/\Q obj s₁) F.called_tuple (F.typeCall_tuple_1 _) F.entry_object_init (codeAny_of_tree ?_) λobj s₁ h₁ =>
  ⟨h₁.1,H1z obj _,object_init_meets F.called_tuple.init.lookup F.called_tuple.made rfl prog w A.in1 _ s₁ ⟨h₁.1,rfl,h₁.2⟩⟩
 refine R6z (N6z (F.newCall_tuple_1 _) (S6z ⟨R5z F.plain_tuple_new _,O4z F.entry_tuple_new ?_⟩));rw[J1z F.plain_tuple_new _];have hsub:=sub_tuple_self;have hinit:=init_tuple_lookup;have hmh:=madeHere_tuple
 wp_walk using F6z hT,qN (A:=A.in1.in1) hh hr ht hz
 intro s' acc hm hacc;show wpAny _ _ (Builtin.Tuple.tupleExact acc.toList.toArray >>=λv=>ret v) _ _ _
 have e:acc.toList.toArray=acc:=by simp
 exact R6z (M2z (S6z ⟨⟨_,Heap.get?_push_size _ rfl,rfl⟩,hQ s' acc hm hacc⟩) (by show acc.size<=sizeLine;rw[hacc.1];exact hz))
end
def Itv(K:Zf)(t:Addr)(n:Nat):It :=
 ⟨λi H=>∃ys,SqT K H t ys/\ys.length=n/\i<n,λi H x H'=>H'=H/\∀ys,SqT K H t ys->ys[n-1-i]?=some x,λi _=>i=n⟩
theorem Dt{P:Program}{w:World}{K:Zf}{tg:Expr}(t r:Addr)(n:Nat)(hz:n<=sizeLine):Turn P w K tg (Itv K t n) [r] r (λi h=>d8 h r t ((n:Int)-1-(i:Int))) where
 mem:=by simp
 obj:=λi h st b hb=>by
  have e:b=r:=by simpa using hb
  subst e
  exact⟨_,st,λv z=>by
   have z':Data.fields _=Data.cell v:=z
   cases z'⟩
 keep:=λi h h' st k=>k r (by simp) _ st
 item:=by
  intro X hP hw hK hc i z0 s σ H E I hf st hg;subst hP hw hK;obtain⟨ys,hq,hl,hi⟩:=hg;obtain⟨its,rv,p,hz'⟩:=I.tuple hq
  have hn:its.length=n:=by rw[<- rv.length,hl]
  obtain⟨f0,f1,f2,f3,f4,f5⟩:=hf r (by simp)
  have e1:(n:Int)-1-(i:Int)=((n-1-i:Nat):Int):=by omega
  have st':=st;rw[e1] at st'
  have hlt:n-1-i<its.length:=by omega
  obtain⟨x,hx,rx⟩:∃x,ys[n-1-i]?=some x/\RelV x its[n-1-i]:=by
   have hly:n-1-i<ys.length:=by omega
   obtain⟨u,hu,ru⟩:=rv.get (i:=n-1-i) (x:=ys[n-1-i]) (by simp);rw[List.getElem?_eq_getElem hlt] at hu;cases hu;exact⟨_,by simp,ru⟩
  refine j6 st' p (x:=its[n-1-i]) (by simp[hlt]) (by simp;omega) λh' tk st2 sb=>?_
  have I1:Inv X z0 σ H {s with heap:=h',toks:=tk}:=I.turned (λb o hb e=>(sb.2 b hb).trans e) f0 f1 f3 f4 f5
  have e2:((n-1-i:Nat):Int)-1=(n:Int)-1-((i+1:Nat):Int):=by omega
  rw[e2] at st2;exact⟨_,rfl,Bo (s:={s with heap:=h',toks:=tk}) (n:="reversed") st2 rfl rfl (by decide) ⟨x,H,I1,rx,⟨rfl,λzs hy=>by rw[I.tuple_inj hy hq];exact hx⟩,st2,λb hb=>(hf b hb).1⟩⟩
 done:=by
  intro X hP hw hK hc i z0 s σ H E I hf st hg;subst hP hw hK;obtain⟨f0,f1,f2,f3,f4,f5⟩:=hf r (by simp);have hg':i=n:=hg
  have e1:(n:Int)-1-(i:Int)=-1:=by omega
  rw[e1] at st;exact fX (I.ok.hd hc) st λh' eb=>⟨rfl,I.turned (t':=s.toks) (λb o hb e=>eb b o hb e) f0 f1 f3 f4 f5⟩
 self:=λ_ _ _ _ _ st h=>fB st h
def Itz(K:Zf)(t1 t2:Addr):It :=
  ⟨λi H=>∃xs ys x y,SqT K H t1 xs/\SqT K H t2 ys/\xs[i]?=some x/\ys[i]?=some y,
   λi H v H'=>∃p,H p=none/\v=.ref p/\∀xs ys x y,SqT K H t1 xs->SqT K H t2 ys->xs[i]?=some x->ys[i]?=some y->H'=upd H p (.tup [x,y]),
   λi H=>∃xs ys,SqT K H t1 xs/\SqT K H t2 ys/\(xs.length<=i\/ys.length<=i)⟩
theorem Inv.turnedNew{ch:List Addr}(I:Inv X z0 σ H s)(hf:∀b∈ch,yq X z0 H b)(k:∀b u,b∉ch->s.heap.get? b=some u->h'.get? b=some u)
  (new:dR X.prog X.w (upd H s.heap.objs.size o) h' s.heap.objs.size o):Inv X z0 σ (upd H s.heap.objs.size o) {s with heap:=h',toks:=t'}:=by
 have hn:=I.hok.fresh (I6z _);refine I.call' rfl ?_ ?_ I.bare λb hb=>⟨(hf b hb).2.2.2.1,(hf b hb).2.1,(hf b hb).2.2.2.2.1,(hf b hb).2.2.2.2.2⟩
 .refine⟨λb u e _ _ hc=>k b u hc e,λb u e _ _ hc=>⟨u.slots,k b u hc e⟩,λb u e n hc=>?_,λb u e hc=>⟨u,k b u hc e⟩,λb xs e=>?_,λb u xs e=>?_,λb ps e=>⟨#[],?_⟩⟩
  .rw[ao (A6z (Z5z e))];exact n
  .rw[ao (aq e hn)];exact e
  .rw[ao (aq e hn)];exact e
  .rw[ao (aq e hn),e];simp
 .intro b u e
  by_cases hb:b=s.heap.objs.size
  .subst hb;rw[aA] at e;cases e;exact new
  .rw[ao hb] at e
   refine(I.hok b u e).stay (λc v hc q=>k c v (λz=>?_) q) (λc q=>by rw[ao (aq q hn)];exact q) λc xs q=>by rw[ao (aq q hn)];exact q
   have zn:=(hf c z).1;obtain rfl|hc:=hc
   .rw[zn] at e;cases e
   .rw[zn] at hc;cases hc
theorem Inv.turnedAll{ch:List Addr}(I:Inv X z0 σ H s)(hf:∀b∈ch,yq X z0 H b)(k:∀b u,b∉ch->s.heap.get? b=some u->h'.get? b=some u) :
  Inv X z0 σ H {s with heap:=h',toks:=t'}:=by
 refine I.call' rfl ?_ ?_ I.bare λb hb=>⟨(hf b hb).2.2.2.1,(hf b hb).2.1,(hf b hb).2.2.2.2.1,(hf b hb).2.2.2.2.2⟩
 .exact⟨λb u e _ _ hc=>k b u hc e,λb u e _ _ hc=>⟨u.slots,k b u hc e⟩,λb u e n hc=>n,λb u e hc=>⟨u,k b u hc e⟩,λb xs e=>e,λb u xs e=>e,λb ps e=>⟨#[],by rw[e];simp⟩⟩
 .intro b u e
  refine(I.hok b u e).stay (λc v hc q=>k c v (λz=>?_) q) (λc q=>q) λc xs q=>q;have zn:=(hf c z).1;obtain rfl|hc:=hc
  .rw[zn] at e;cases e
  .rw[zn] at hc;cases hc
theorem Dr{P:Program}{w:World}{K:Zf}{es:List Expr}{kt:Nat}{pt:Pos}{z ti to i1 i2 t1 t2:Addr}(D:ZipApart z ti to i1 i2 t1 t2) :
    Turn P w K (.Tuple es kt pt) (Itz K t1 t2) [z,ti,to,i1,i2] z (λi h=>ZT h z ti to i1 i2 t1 t2 i .none) where
  mem:=by simp
  obj:=λi h st b hb=>by
    simp at hb
    rcases hb with rfl|rfl|rfl|rfl|rfl
    . exact⟨_,st.hz,λv q=>by have q':Data.fields _=Data.cell v:=q;cases q'⟩
    . exact⟨_,st.hi,λv q=>by have q':Data.seq _ _=Data.cell v:=q;cases q'⟩
    . obtain⟨a,c,e⟩:=st.ho
      exact⟨_,e,λv q=>by have q':Data.seq _ _=Data.cell v:=q;cases q'⟩
    . obtain⟨o,e,_,d⟩:=st.h1
      exact⟨o,e,λv q=>by rw[d] at q;cases q⟩
    . obtain⟨o,e,_,d⟩:=st.h2
      exact⟨o,e,λv q=>by rw[d] at q;cases q⟩
  keep:=λi h h' st k=>st.keep k
  item:=by
    intro X hP hw hK hc i z0 s σ H E I hf st hg
    subst hP hw hK
    obtain⟨xs,ys,x,y,hq1,hq2,hx,hy⟩:=hg
    obtain⟨its1,rv1,p1,_⟩:=I.tuple hq1
    obtain⟨its2,rv2,p2,_⟩:=I.tuple hq2
    obtain⟨u1,hu1,ru1⟩:=rv1.get hx
    obtain⟨u2,hu2,ru2⟩:=rv2.get hy
    refine j5 (I.ok.hd hc) D st (show s.heap.IsTuple t1 its1.toArray from p1) (show s.heap.IsTuple t2 its2.toArray from p2) (λa b h' ha hb Z pr sz kp=>?_) λh' hn _=>?_
    . have ea : a = u1 := by have : its1[i]? = some a := by simpa using ha
                             rw[hu1] at this;exact(C4z this).symm
      have eb : b = u2 := by have : its2[i]? = some b := by simpa using hb
                             rw[hu2] at this;exact(C4z this).symm
      subst ea eb
      have szl:2<=sizeLine:=by decide
      have hf4:∀c∈[z,to,i1,i2],yq X z0 H c:=λc hc'=>hf c (by simp at hc' ⊢;rcases hc' with h|h|h|h<;>simp[h])
      have I1:Inv X z0 σ (upd H s.heap.objs.size (.tup [x,y])) {s with heap:=h',toks:=s.toks}:=I.turnedNew hf4 kp ⟨szl,[a,b],.cons ru1 (.cons ru2 .nil),⟨_,pr,rfl,_,rfl⟩⟩
      have fresh:H s.heap.objs.size=none:=I.hok.fresh (I6z _)
      have ltf:∀c∈[z,ti,to,i1,i2],c≠s.heap.objs.size:=λc hc' e=>by
        have:H c=none:=(hf c hc').1
        simp at hc'
        have lt:c<s.heap.objs.size:=by
          rcases hc' with rfl|rfl|rfl|rfl|rfl
          . exact Z5z st.hz
          . exact Z5z st.hi
          . obtain⟨_,_,e'⟩:=st.ho;exact Z5z e'
          . obtain⟨o,e',_⟩:=st.h1;exact Z5z e'
          . obtain⟨o,e',_⟩:=st.h2;exact Z5z e'
        exact A6z lt e
      refine⟨_,rfl,wpAny_letOwnedTupleGo_zip (s:={s with heap:=h'}) Z.hz λh2 z2 sb=>?_⟩
      have fz:=hf z (by simp)
      have I2:Inv X z0 σ (upd H s.heap.objs.size (.tup [x,y])) {s with heap:=h2}:=I1.turned (t':=s.toks) (λc o hc' e=>(sb.2 c hc').trans e) (by rw[ao (ltf z (by simp))];exact fz.1) fz.2.1 fz.2.2.2.1 fz.2.2.2.2.1 fz.2.2.2.2.2
      refine⟨.ref s.heap.objs.size,_,I2,rfl,⟨_,fresh,rfl,λxs' ys' x' y' a1 a2 a3 a4=>?_⟩,?_,λc hc'=>by rw[ao (ltf c hc')];exact(hf c hc').1⟩
      . have e1:=I.tuple_inj a1 hq1
        have e2:=I.tuple_inj a2 hq2
        subst e1 e2
        rw[hx] at a3;rw[hy] at a4
        cases a3;cases a4
        rfl
      . obtain⟨a',b',e'⟩:=Z.ho
        exact⟨z2,(sb.2 ti D.TIz).trans Z.hi,⟨a',b',(sb.2 to D.TOz).trans e'⟩,Z.h1.at λo e=>(sb.2 i1 D.i1z).trans e,Z.h2.at λo e=>(sb.2 i2 D.i2z).trans e⟩
    . rcases hn with hn|hn
      . have:its1[i]?=none:=by simpa using hn
        rw[hu1] at this;cases this
      . have:its2[i]?=none:=by simpa using hn
        rw[hu2] at this;cases this
  done:=by
    intro X hP hw hK hc i z0 s σ H E I hf st hg
    subst hP hw hK
    obtain⟨xs,ys,hq1,hq2,hl⟩:=hg
    obtain⟨its1,rv1,p1,_⟩:=I.tuple hq1
    obtain⟨its2,rv2,p2,_⟩:=I.tuple hq2
    have l1:=rv1.length
    have l2:=rv2.length
    refine j5 (I.ok.hd hc) D st (show s.heap.IsTuple t1 its1.toArray from p1) (show s.heap.IsTuple t2 its2.toArray from p2) (λa b h' ha hb Z pr sz kp=>?_) λh' _ kp=>⟨rfl,?_⟩
    . exfalso
      have h1 : i < its1.length := by have : its1[i]? = some a := by simpa using ha
                                      exact(List.getElem?_eq_some_iff.mp this).1
      have h2 : i < its2.length := by have : its2[i]? = some b := by simpa using hb
                                      exact(List.getElem?_eq_some_iff.mp this).1
      omega
    . have hf4:∀c∈[z,to,i1,i2],yq X z0 H c:=λc hc'=>hf c (by simp at hc' ⊢;rcases hc' with h|h|h|h<;>simp[h])
      exact I.turnedAll (t':=s.toks) hf4 kp
  self:=λ_ _ _ _ _ st h=>wpAny_pyIter_zip st.hz h
section
variable{X:Cx}
def Xr(K:Zf)(ta:TA):TI:=λσ H R=>ta σ H λvs H1=>∃a b,vs=[.ref a,.ref b]/\(∃xs,SqT K H1 a xs)/\(∃ys,SqT K H1 b ys)/\R (Itz K a b) H1
theorem Qg(hg:Gl X "zip")(hm:X.mg "zip"=none)(ha:PA X [a,b] ta)(hs:starEach [a,b] X.env=[(false,eval a X.env),(false,eval b X.env)])(hs2:starEach [b] X.env=[(false,eval b X.env)]) :
  PI X (.Tuple es kt pt) (.Call (.Name "zip" p) [a,b] [] pos) (Xr X.K ta):=by
 intro z0 s σ H R I h;refine Call_ (eG I hg hm boot_zip (A0z (thn (ha pos z0 s σ H _ I h) λus s1 ⟨vs,H1,I1,r1,q1⟩=>?_) (by rw[hs,hs2]) (by rw[hs2];rfl)));obtain⟨a1,b1,e,⟨xs,hx⟩,⟨ys,hy⟩,q⟩:=q1;subst e
 cases r1 with
 |cons r rr =>
  cases rr with
  |cons r' rr =>
   cases rr;cases r;cases r';obtain⟨its1,_,p1,_⟩:=I1.tuple hx;obtain⟨its2,_,p2,_⟩:=I1.tuple hy;refine Cm p1 p2 λh' kp sz Z=>?_;refine wpAny_pyIter_zip Z.hz ?_;have I2:=I1.kept (t':=s1.toks) kp;refine⟨s1.heap.objs.size+4,_,_,_,H1,rfl,I2,Dr (zipApart_new p1.lt p2.lt),Z,λc hc=>?_,q⟩
   have hc':s1.heap.objs.size<=c:=by
    simp at hc
    rcases hc with h|h|h|h|h<;>rw[h]<;>first|exact I6z _|exact O3z _ _
   exact I1.fpOk hc' (I1.hok.fresh hc')
def Xw(K:Zf)(ta:TA):TI:=λσ H R=>ta σ H λvs H1=>∃a xs,vs=[.ref a]/\SqT K H1 a xs/\R (Itv K a xs.length) H1
theorem Qj(hg:Gl X "reversed")(hm:X.mg "reversed"=none)(ha:PA X [a] ta)(hs:starEach [a] X.env=[(false,eval a X.env)]) :
  PI X tg (.Call (.Name "reversed" p) [a] [] pos) (Xw X.K ta):=by
 intro z0 s σ H R I h;refine Call_ (eG I hg hm boot_reversed (A0z (thn (ha pos z0 s σ H _ I h) λus s1 ⟨vs,H1,I1,r1,q1⟩=>?_) hs rfl));obtain⟨a1,xs,e,hx,q⟩:=q1;subst e
 cases r1 with
 |cons r rr =>
  cases rr;cases r;obtain⟨its1,rv,p1,hz⟩:=I1.tuple hx;have hl:=rv.length;refine qT p1 (by simp;omega) λtk=>?_
  have st:d8 (s1.heap.push (JD a1 ((its1.toArray.size:Int)-1))) s1.heap.objs.size a1 ((xs.length:Int)-1-((0:Nat):Int)):=by
   have e0:((xs.length:Int)-1-((0:Nat):Int))=(its1.toArray.size:Int)-1:=by rw[P2z];omega
   rw[e0];exact Heap.get?_push_size _ rfl
  refine fB st ?_;refine⟨s1.heap.objs.size,_,_,_,H1,rfl,I1.kept λb o e=>Heap.get?_push_of_some _ e,Dt a1 _ xs.length hz,st,λc hc=>?_,q⟩
  have hc':c=s1.heap.objs.size:=by simpa using hc
  subst hc';exact I1.fpOk (I6z _) (I1.hok.fresh (I6z _))
end
section
variable{X:Cx}
end
section
variable{X:Cx}{tg:Expr}
end
end L2
namespace L2
open PySem PySem.Spec PyProof.Rows PySem.SeqAt
section
variable{prog:Program}{w:World}{A:Around}{E:Value->Shared->Prop}{s:Shared}
end
end L2
namespace L2
open PySem PySem.Spec PyProof.Rows
section
variable{prog:Program}{w:World}{A:Around}{E:Value->Shared->Prop}{s:Shared}
end
section
variable{X:Cx}
end
section
variable{prog:Program}{w:World}{A:Around}{E:Value->Shared->Prop}{s:Shared}
end
section
variable{X:Cx}
end
section
variable(P:Program)(w:World)
end
section
variable{P:Program}{w:World}{H H':Hp}{h h':Heap}{a:Addr}{o:HO}
end
section
variable{P:Program}{w:World}{H:Hp}{h h':Heap}{x e:Addr}{o':HO}
end
section
variable{fs fs' ex ex':List Addr}{H H1 H2:Hp}{h h1 h2 h':Heap}{a x e:Addr}{o:HO}
end
section
variable{X:Cx}{z0:List (Addr×Obj)}{σ:List (Option V)}{H H':Hp}{s:Shared}{h':Heap}
end
section
variable{X:Cx}
variable{a b:Expr}{ta tb:TE}{pos:Pos}
variable{tA tB':TT}{rest:List Expr}
end
section
variable{X:Cx}{z0:List (Addr×Obj)}{σ:St}{H:Hp}{s:Shared}{a:Addr}{xs ys:List V}
end
section
variable{X:Cx}{z0:List (Addr×Obj)}{σ:St}{H:Hp}{s:Shared}{E:Value->Shared->Prop}
end
section
variable{X:Cx}{st:Stmt}{rest:List Stmt}{t u:TS}{e:Expr}{te:TE}{pos:Pos}
end
section
variable{X:Cx}{pos:Pos}
end
section
variable{X:Cx}{pos:Pos}
end
section
variable{X:Cx}{tg:Expr}
end
section
variable{X:Cx}{a b c:Expr}{ta tb tc:TE}{pos:Pos}
end
section
variable{X:Cx}{a b c:Expr}{ta tb tc:TE}{pos:Pos}
end
section
variable{prog:Program}{w:World}{A:Around}{E:Value->Shared->Prop}{s:Shared}{K:Zf}{x dx C f:Addr}{mA:Str->Option Value}{name:Str}{v:Value}
end
section
variable{P:Program}{w:World}{H H':Hp}{h h':Heap}{a C dx:Addr}{fs fs':List (Str×V)}
end
section
variable{X:Cx}{z0:List (Addr×Obj)}{σ:St}{H:Hp}{s:Shared}{a C dx:Addr}{fs:List (Str×V)}{f:Str}{v:V}{A:Around}{E:Value->Shared->Prop}
end
section
variable{X:Cx}{o e value:Expr}{f:Str}{pos pos' tpos:Pos}{ta tv:TE}
end
section
variable{X:Cx}{z0:List (Addr×Obj)}{σ:St}{H:Hp}{s:Shared}{A:Around}{E:Value->Shared->Prop}{Q:Value->Shared->Prop}{c:Value}{b:Bool}
end
section
variable{X:Cx}{e:Expr}{es:List Expr}{te:TE}{t:TA}{pos:Pos}
end
section
variable{X:Cx}{z0:List (Addr×Obj)}{σ:St}{H:Hp}{s s':Shared}
end
section
variable{X:Cx}{CX:CXT}{k:Nat}{f C:Addr}{fd:FuncData}{ps:List Str}{sp:Sp}{dvs:List V}{ds:List Value}{E:XK}{x m:Str}{p pos apos:Pos}{e o:Expr}{es:List Expr}{ta:TE}{t:TA}
end
section
variable{X:Cx}{CX:CXT}{k:Nat}{f C:Addr}{fd:FuncData}{ps ks:List Str}{sp:Sp}{E:XK}{x m:Str}{p pos apos kpos:Pos}{e o:Expr}{es:List Expr}{kws:List Keyword}{te ta:TE}{t tk:TA}{nm:Option Str}
variable{g:List Value->List Value->List Value}{gV:List V->List V->List V}
end
section
variable{X:Cx}{x:Str}{p pos:Pos}{e:Expr}{es:List Expr}{t:TA}{id T:String}{r:List V->Hp->VK->Prop}
end
section
variable{κ:Type}[DecidableEq κ]
def ju(kvs:List (κ×V))(k:κ):Option V:=(kvs.find? λkv=>decide (kv.1=k)).map (·.2)
def putK(kvs:List (κ×V))(k:κ)(v:V):List (κ×V) :=
 if(kvs.any λkv=>decide (kv.1=k))=true then kvs.map (λkv=>if kv.1=k then(kv.1,v) else kv) else kvs++[(k,v)]
def tK(kvs:List (κ×V))(k:κ):List (κ×V):=kvs.filter λkv=>decide (kv.1≠k)
theorem iG{k:κ}(e:p.1=k):ju (p::r) k=some p.2:=by simp[ju,e]
theorem iH{k:κ}(e:¬ p.1=k):ju (p::r) k=ju r k:=by simp[ju,e]
theorem uh(k:κ):∀kvs:List (κ×V),(kvs.any λkv=>decide (kv.1=k))=(ju kvs k).isSome
 |[]=>rfl
 |p::r=>by
  rw[S5z]
  by_cases e:p.1=k
  .simp[iG e,A5z e,Bool.true_or,Option.isSome_some]
  .rw[iH e,B4z e,Bool.false_or];exact uh k r
theorem iy(kvs:List (κ×V))(k:κ)(v:V):(putK kvs k v).length<=kvs.length+1:=by
 unfold putK;split
 .rw[F4z];omega
 .rw[B2z,E3z,R4z];omega
theorem oY.isSome_eq(r:oY o u):o.isSome=u.isSome:=by
 cases o with
 |none=>cases u with
  |none=>rfl
  |some _=>exact r.elim
 |some _=>cases u with
  |none=>exact r.elim
  |some _=>rfl
theorem oY.getD(r:oY o u)(rd:RelV d d'):RelV (o.getD d) (u.getD d'):=by
 cases o with
 |none=>cases u with
  |none=>exact rd
  |some _=>exact r.elim
 |some _=>cases u with
  |none=>exact r.elim
  |some _=>exact r
theorem KV.val(r:KV kvs vs)(k:κ):oY (ju kvs k) (valueAt vs k):=by
 induction r with
 |nil=>exact True.intro
 | @cons p q ps qs h t ih =>
  obtain⟨h1,h2⟩:=h
  by_cases e:p.1=k
  .have b:valueAt (q::qs) k=some q.2:=by simp[valueAt,List.find?_cons,(h1.symm.trans e)]
   rw[iG e,b];exact h2
  .have e':¬ q.1=k:=λz=>e (h1.trans z)
   have b:valueAt (q::qs) k=valueAt qs k:=by simp[valueAt,e']
   rw[iH e,b];exact ih
theorem KV.any(r:KV kvs vs)(k:κ):(kvs.any λkv=>decide (kv.1=k))=vs.any λkv=>decide (kv.1=k):=by
 induction r with
 |nil=>rfl
 |cons h t ih=>rw[S5z,S5z,ih,h.1]
theorem KV.repl(r:KV kvs vs)(k:κ)(ry:RelV y u) :
  KV (kvs.map λkv=>if kv.1=k then(kv.1,y) else kv) (vs.map λkv=>if kv.1=k then(kv.1,u) else kv):=by
 induction r with
 |nil=>exact .nil
 | @cons p q ps qs h t ih =>
  rw[O5z,O5z];refine .cons ?_ ih;obtain⟨h1,h2⟩:=h
  by_cases e:p.1=k
  .rw[G7z e,G7z (h1.symm.trans e)];exact⟨h1,ry⟩
  .rw[H7z e,H7z (λz=>e (h1.trans z))];exact⟨h1,h2⟩
theorem KV.put(r:KV kvs vs)(k:κ)(ry:RelV y u):KV (putK kvs k y) (stored vs k u):=by
 unfold putK stored;rw[r.any k]
 by_cases e:(vs.any λkv=>decide (kv.1=k))=true
 .rw[G7z e,G7z e];exact r.repl k ry
 .rw[H7z e,H7z e];exact Paired.snoc r ⟨rfl,ry⟩
theorem KV.drop(r:KV kvs vs)(k:κ):KV (tK kvs k) (without vs k):=by
 unfold tK without
 induction r with
 |nil=>exact .nil
 | @cons p q ps qs h t ih =>
  obtain⟨h1,h2⟩:=h;rw[List.filter_cons,List.filter_cons]
  by_cases e:p.1=k
  .have a:¬ decide (p.1≠k)=true:=by simp[e]
   have b:¬ decide (q.1≠k)=true:=by simp[h1.symm.trans e]
   rw[H7z a,H7z b];exact ih
  .have e':¬ q.1=k:=λz=>e (h1.trans z)
   have a:decide (p.1≠k)=true:=by simp[e]
   have b:decide (q.1≠k)=true:=by simp[e']
   rw[G7z a,G7z b];exact .cons ⟨h1,h2⟩ ih
theorem KV.length(r:KV kvs vs):kvs.length=vs.length:=Paired.length r
theorem Gw(kvs:List (κ×V))(k:κ):(tK kvs k).length<=kvs.length:=List.length_filter_le _ _
end
theorem lX(r:RelV (kV k) u):(aX P w).is k u=true:=by
 cases k with
 |inl i=>obtain⟨t,e⟩:=r;subst e;exact sU P w i t
 |inr x=>obtain⟨t,e⟩:=r;subst e;exact sS P w x t
theorem qp:∀{ks:List Key}{us:List Value},Vals (ks.map kV) us->ItemsAre (aX P w) ks us
 |[],_,r=>by rw[G6z] at r;cases r;exact .nil
 |k::ks,_,r=>by
  cases r with
  |cons h t=>exact .cons (lX h) (qp t)
abbrev KT(H:Hp):List (List Key×V)->List (List Key×Addr×Value)->Prop:=Paired λp q=>p.1=q.1/\H q.2.1=some (.tup (p.1.map kV))/\RelV p.2 q.2.2
theorem KT.val(r:KT H kvs xs)(k:List Key):oY (ju kvs k) ((atKey xs k).map (·.2)):=by
 induction r with
 |nil=>exact True.intro
 | @cons p q ps qs h t ih =>
  obtain⟨h1,_,h2⟩:=h
  by_cases e:p.1=k
  .have b:atKey (q::qs) k=some q.2:=by simp[atKey,List.find?_cons,(h1.symm.trans e)]
   rw[iG e,b];exact h2
  .have e':¬ q.1=k:=λz=>e (h1.trans z)
   have b:atKey (q::qs) k=atKey qs k:=by simp[atKey,e']
   rw[iH e,b];exact ih
theorem KT.repl(r:KT H kvs xs)(k:List Key)(ry:RelV y u) :
  KT H (kvs.map λkv=>if kv.1=k then(kv.1,y) else kv) (xs.map (putAt k u)):=by
 induction r with
 |nil=>exact .nil
 | @cons p q ps qs h t ih =>
  rw[O5z,O5z];refine .cons ?_ ih;obtain⟨h1,h2,h3⟩:=h;unfold putAt
  by_cases e:p.1=k
  .rw[G7z e,G7z (h1.symm.trans e)];exact⟨h1,h2,ry⟩
  .rw[H7z e,H7z (λz=>e (h1.trans z))];exact⟨h1,h2,h3⟩
theorem KT.put(r:KT H kvs xs)(k:List Key)(hb:H b=some (.tup (k.map kV)))(ry:RelV y u) :
  KT H (putK kvs k y) (storedH xs k b u):=by
 have e:(kvs.any λkv=>decide (kv.1=k))=(atKey xs k).isSome:=by
  rw[uh,(r.val k).isSome_eq,U2z]
 unfold putK storedH;rw[e]
 by_cases q:(atKey xs k).isSome=true
 .rw[G7z q,G7z q];exact r.repl k ry
 .rw[H7z q,H7z q];exact Paired.snoc r ⟨rfl,hb,ry⟩
theorem KT.keeps(r:KT H kvs xs)(ht:∀b ys,H b=some (.tup ys)->H' b=some (.tup ys)):KT H' kvs xs :=
 Paired.mapP r λ_ _ z=>⟨z.1,ht _ _ z.2.1,z.2.2⟩
section
variable{P:Program}{w:World}{H:Hp}{h:Heap}{a:Addr}
theorem P0(ok:HOk P w H h)(e:Rd H a u):dR P w H h a u:=e.ok ok
theorem tM(ok:HOk P w H h)(e:Rd H a (.dK kvs)):kvs.length<=sizeLine/\(a==sysModules)=false/\∃vs,KV kvs vs/\h.DictOf (aX P w) a vs :=
 show dR P w H h a (.dK kvs) from P0 ok e
theorem Rv(ok:HOk P w H h)(e:H a=some (.dK kvs)):kvs.length<=sizeLine/\(a==sysModules)=false/\∃vs,KV kvs vs/\h.DictOf (aX P w) a vs:=tM ok (.inl e)
theorem mU(ok:HOk P w H h)(e:H a=some (.tup (ks.map kV))):(tupleKind (aX P w)).is h ks a:=by
 obtain⟨_,its,r,o,h1,h2,n,h3⟩:=(ok a _ e);exact⟨o,its.toArray,n,h1,h2,h3,by simpa using qp r⟩
theorem tH(ok:HOk P w H h)(e:Rd H a (.dT kvs)):kvs.length<=sizeLine/\(a==sysModules)=false /\
  ∃xs,KT H kvs xs/\h.DictOfH (tupleKind (aX P w)) a xs:=by
 obtain⟨z,y,xs,r,o,es,ep,h1,h2,h3,h4,h5⟩:=(P0 ok e);refine⟨z,y,xs,r,o,es,ep,h1,h2,h3,h4,λx hx=>?_,h5⟩
 have all:∀{l:List (List Key×V)}{m:List (List Key×Addr×Value)},KT H l m->∀x∈m,(tupleKind (aX P w)).is h x.1 x.2.1:=by
  intro l m q
  induction q with
  |nil=>intro x hx;exact nomatch hx
  | @cons p q ps qs hq t ih =>
   intro x hx;obtain e|hx:=V5z.mp hx
   .subst e
    exact mU ok (by rw[<- hq.1];exact hq.2.1)
   .exact ih x hx
 exact all r x hx
theorem Vw(ok:HOk P w H h)(e:H a=some (.dT kvs)):kvs.length<=sizeLine/\(a==sysModules)=false /\
  ∃xs,KT H kvs xs/\h.DictOfH (tupleKind (aX P w)) a xs:=tH ok (.inl e)
end
def ug(H:Hp)(a:Addr)(y:V)(r:Option V):Prop :=
 (∃kvs k,Rd H a (.dK kvs)/\y=kV k/\r=ju kvs k)\/∃kvs k b,Rd H a (.dT kvs)/\y=.ref b/\H b=some (.tup (k.map kV))/\r=ju kvs k
def RX(H:Hp)(a:Addr)(y v:V)(H':Hp):Prop :=
 (∃kvs k,H a=some (.dK kvs)/\y=kV k/\kvs.length<sizeLine/\H'=upd H a (.dK (putK kvs k v))) \/
 ∃kvs k b,H a=some (.dT kvs)/\y=.ref b/\H b=some (.tup (k.map kV))/\kvs.length<sizeLine/\H'=upd H a (.dT (putK kvs k v))
theorem ug.k{k:Key}(e:H a=some (.dK kvs)):ug H a (kV k) (ju kvs k):=.inl ⟨kvs,k,.inl e,rfl,rfl⟩
theorem RX.k{k:Key}(e:H a=some (.dK kvs))(hl:kvs.length<sizeLine):RX H a (kV k) v (upd H a (.dK (putK kvs k v))):=.inl ⟨kvs,k,e,rfl,hl,rfl⟩
section
variable{X:Cx}{z0:List (Addr×Obj)}{σ:St}{H:Hp}{s:Shared}{a:Addr}{y v:V}{u r:Value}{o:Option V}{A:Around}{E:Value->Shared->Prop}
theorem Inv.big(I:Inv X z0 σ H s):sysModules<s.heap.objs.size:=by
 exact Nat.lt_trans (by decide) ((I.mod.glob.keeps I.bk).lt)
theorem Ca(hu:A.units+1<cLine)(I:Inv X z0 σ H s)(g:ug H a y (some v))(ry:RelV y u)(h:∀w' s',Inv X z0 σ H s'->RelV v w'->Q w' s') :
  wpAny (model X.prog X.w) A (getItem (.ref a) u) Q E s:=by
 obtain⟨kvs,k,e,ey,l⟩|⟨kvs,k,b,e,ey,eb,l⟩:=g
 .subst ey
  obtain⟨z,hd,vs,rel,dd⟩:=tM I.hok e;obtain⟨w',hw,rw'⟩:=oY.some_of (by rw[l];exact rel.val k);exact wpAny_getItem_of (lX ry) dd.mapOf hw (h w' _ (I.tok _) rw')
 .subst ey
  cases ry;obtain⟨z,hd,xs,rel,dd⟩:=tH I.hok e;obtain⟨w',hw,rw'⟩:=oY.some_of (by rw[l];exact rel.val k);obtain⟨p,hp,hp2⟩:=R0z.mp hw;refine wpAny_getItem_heap (G2z hu) (mU I.hok eb) dd hp ?_;rw[hp2];exact h w' _ (I.tok _) rw'
theorem Xz(hu:A.units+1<cLine)(I:Inv X z0 σ H s)(g:ug H a y o)(ry:RelV y u)(h:∀s',Inv X z0 σ H s'->Q (.bool o.isSome) s') :
  wpAny (model X.prog X.w) A (compareOp .In u (.ref a)) Q E s:=by
 obtain⟨kvs,k,e,ey,l⟩|⟨kvs,k,b,e,ey,eb,l⟩:=g
 .subst ey
  obtain⟨z,hd,vs,rel,dd⟩:=tM I.hok e;refine wpAny_in_of (lX ry) hd dd.mapOf ?_;rw[<- (rel.val k).isSome_eq,<- l];exact h _ (I.tok _)
 .subst ey
  cases ry;obtain⟨z,hd,xs,rel,dd⟩:=tH I.hok e;refine wpAny_in_heap (G2z hu) (mU I.hok eb) hd dd ?_;have q:=(rel.val k).isSome_eq;rw[U2z] at q;rw[<- q,<- l];exact h _ (I.tok _)
theorem Mz(hu:A.units+1<cLine)(I:Inv X z0 σ H s)(g:ug H a y o)(ry:RelV y u)(h:∀s',Inv X z0 σ H s'->Q (.bool (!o.isSome)) s') :
  wpAny (model X.prog X.w) A (compareOp .NotIn u (.ref a)) Q E s:=by
 obtain⟨kvs,k,e,ey,l⟩|⟨kvs,k,b,e,ey,eb,l⟩:=g
 .subst ey
  obtain⟨z,hd,vs,rel,dd⟩:=tM I.hok e;refine wpAny_notIn_of (lX ry) hd dd.mapOf ?_;rw[<- (rel.val k).isSome_eq,<- l];exact h _ (I.tok _)
 .subst ey
  cases ry;obtain⟨z,hd,xs,rel,dd⟩:=tH I.hok e;refine wpAny_notIn_heap (G2z hu) (mU I.hok eb) hd dd ?_;have q:=(rel.val k).isSome_eq;rw[U2z] at q;rw[<- q,<- l];exact h _ (I.tok _)
theorem tQ(I:Inv X z0 σ H s)(mu:Mut (H a))(hs:Heap.SameBut a s.heap h')(he:∃q,h'.get? a=some q)(new:dR X.prog X.w (upd H a ob) h' a ob) :
  Inv X z0 σ (upd H a ob) {s with heap:=h',toks:=t'} :=
 I.write mu (.inl rfl) (λb q hb z=>(hs.2 b hb).trans z) he new
theorem vM(z:kvs.length<=sizeLine)(hd:(a==sysModules)=false)(rel:KV kvs vs)(dd:h'.DictOf (aX P w) a vs) :
  dR P w H' h' a (.dK kvs):=⟨z,hd,vs,rel,dd⟩
theorem BZ(hu:A.units+1<cLine)(I:Inv X z0 σ H s)(g:RX H a y v H')(ry:RelV y u)(rv:RelV v r)(h:∀s',Inv X z0 σ H' s'->Q () s') :
  wpAny (model X.prog X.w) A (setItem (.ref a) u r) Q E s:=by
 obtain⟨kvs,k,e,ey,l,eH⟩|⟨kvs,k,b,e,ey,eb,l,eH⟩:=g
 .subst ey eH
  obtain⟨z,hd,vs,rel,dd⟩:=Rv I.hok e
  have hz:vs.length<=sizeLine:=by rw[<- rel.length];exact z
  have hl:(putK kvs k v).length<=sizeLine:=by have:=iy kvs k v;omega
  refine wpAny_setItem_pairs (lX ry) dd λh' dd' hs=>h _ ?_;exact tQ I (by rw[e];exact True.intro) hs (let ⟨q,_,_,hq,_⟩:=dd';⟨q,hq⟩) (vM hl hd (rel.put k rv) dd')
 .subst ey eH
  cases ry;obtain⟨z,hd,xs,rel,dd⟩:=Vw I.hok e
  have hz:xs.length<=sizeLine:=by rw[<- Paired.length rel];exact z
  have hl:(putK kvs k v).length<=sizeLine:=by have:=iy kvs k v;omega
  refine wpAny_setItem_heap (G2z hu) (mU I.hok eb) dd λh' dd' hs=>h _ ?_;obtain⟨q,es,ep,hq,h2,h3,h4,_,h5⟩:=dd';refine tQ I (by rw[e];exact True.intro) hs ⟨q,hq⟩ ⟨hl,hd,_,(rel.put k eb rv).keeps λc ys ec=>?_,q,es,ep,hq,h2,h3,h4,h5⟩;rw[ao (nY ec e (λz=>nomatch z))];exact ec
end
section
variable{X:Cx}{z0:List (Addr×Obj)}{σ:St}{H:Hp}{s:Shared}{a:Addr}{kvs:List (Key×V)}{k:Key}{u:Value}{A:Around}{E:Value->Shared->Prop}
theorem Vy(I:Inv X z0 σ H s)(e:H a=some (.dK kvs))(ry:RelV (kV k) u)(l:ju kvs k=some v)(hm:more=[]\/∃x,more=[x])
  (h:∀w' s',Inv X z0 σ (upd H a (.dK (tK kvs k))) s'->RelV v w'->Q w' s'):wpAny (model X.prog X.w) A (call (.builtin "dict.pop") (.ref a::u::more)) Q E s:=by
 obtain⟨z,hd,vs,rel,dd⟩:=Rv I.hok e;obtain⟨w',hw,rw'⟩:=oY.some_of (by rw[<- l];exact rel.val k)
 have hp:(keyPart u).isSome=true:=by
  cases k with
  |inl i=>obtain⟨t,q⟩:=ry;subst q;rfl
  |inr x=>obtain⟨t,q⟩:=ry;subst q;rfl
 have ha:argsOk "dict.pop" ⟨.ref a::u::more,[]⟩:=by
  obtain q|⟨x,q⟩:=hm
  .subst q;exact PySem.F.args_dict_pop_2 _ _
  .subst q;exact PySem.F.args_dict_pop_3 _ _ _
 refine call_meetsIn PySem.F.slot_dict_pop dd.typeIs PySem.F.entry_dict_pop ha (meets_dict_pop_there (aX X.prog X.w) a (lX ry) more hm hp)
  ⟨vs,w',dd,by rw[<- rel.length];exact z,hw,λh' dd' hs=>h w' _ ?_ rw'⟩
 exact tQ I (by rw[e];exact True.intro) hs (let ⟨q,_,_,hq,_⟩:=dd';⟨q,hq⟩) (vM (B6z (Gw kvs k) z) hd (rel.drop k) dd')
end
def VJ(i:Expr):Prop:=∀ov iv,subscripted i false ov iv=operate [ov,iv] (getItem ov iv)
theorem yV{T id:String}
  (hl:typeLookup (.type T) "__getitem__"=pure (some (.builtin id))) (hs:VJ slice)
  (h:wpAny (model prog w) A (eval value env) (λo s₁=>wpAny (model prog w) A (eval slice env) (λi s₂=>s₂.TypeIs o T/\wpAny (model prog w) A (getItem o i) Q E s₂) E s₁) E s) :
  wpAny (model prog w) A (eval (.Subscript value slice pos) env) Q E s:=by
 refine Subscript_ (Q6z h (λo s₁ h₁=>Q6z h₁ (λi s₂ h₂=>?_) λ_ _ x=>x) λ_ _ x=>x);obtain⟨hT,h₂⟩:=h₂;refine R6z ?_;refine R6z (N4z hT hl ?_)
 have fin:wpAny (model prog w) A (subscripted slice false o i) (λr s₃=>wpAny (model prog w) A (letTemporaryGo value o r >>=λ_=>pure r) Q E s₃) E s₂:=by
  rw[hs o i];exact wpAny_operating (Q6z h₂ (λr s₃ h₃=>R6z (wpAny_letTemporaryGo (S6z h₃))) λ_ _ x=>x)
 first
  |exact S6z (R6z fin)
  |exact R6z (S6z (R6z fin))
  |exact R6z fin
theorem tO(I:Inv X z0 σ H s)(g:ug H a y o):s.TypeIs (.ref a) "dict":=by
 obtain⟨kvs,k,e,_,_⟩|⟨kvs,k,b,e,_,_,_⟩:=g
 .obtain⟨_,_,vs,_,dd⟩:=tM I.hok e
  exact dd.typeIs
 .obtain⟨_,_,xs,_,dd⟩:=tH I.hok e
  exact dd.typeIs
def TY(td ty:TE):TE:=λσ H Q=>td σ H λx H1=>ty σ H1 λy H2=>∃a v,x=.ref a/\ug H2 a y (some v)/\Q v H2
def W7(ty td:TE):TE:=λσ H Q=>ty σ H λy H1=>td σ H1 λx H2=>∃a o,x=.ref a/\ug H2 a y o/\Q (.bl o.isSome) H2
def Jf(ty td:TE):TE:=λσ H Q=>ty σ H λy H1=>td σ H1 λx H2=>∃a o,x=.ref a/\ug H2 a y o/\Q (.bl (!o.isSome)) H2
def Ui(td ty tv:TE):TS:=λD σ H=>tv σ H λv H1=>td σ H1 λx H2=>ty σ H2 λy H3=>∃a H4,x=.ref a/\RX H3 a y v H4/\D.nx σ H4
section
variable{X:Cx}{o i e value:Expr}{pos pos' tpos:Pos}{td ty tv:TE}
theorem J8(hu:X.A.units+1<cLine)(ho:PE X o td)(hi:PE X i ty)(hs:VJ i):PE X (.Subscript o i pos) (TY td ty):=by
 intro z0 s σ H Q I h;refine yV PySem.F.slot_dict_getitem.lookup hs (thn (ho z0 s σ H _ I h) λu s1 ⟨x,H1,I1,rx,q1⟩=>thn (hi z0 s1 σ H1 _ I1 q1) λiv s2 ⟨y,H2,I2,ry,a,v,ex,g,q2⟩=>?_);subst ex;obtain rfl:u=Value.ref a:=rx;exact⟨tO I2 g,Ca hu I2 g ry λw' s3 I3 rw'=>⟨v,H2,I3,rw',q2⟩⟩
theorem Qq(hu:X.A.units+1<cLine)(hi:PE X i ty)(ho:PE X o td):PC X .In i o (W7 ty td):=by
 intro z0 s σ H Q I h;refine thn (hi z0 s σ H _ I h) λiv s1 ⟨y,H1,I1,ry,q1⟩=>thn (ho z0 s1 σ H1 _ I1 q1) λu s2 ⟨x,H2,I2,rx,a,ov,ex,g,q2⟩=>?_;subst ex;obtain rfl:u=Value.ref a:=rx;exact Xz hu I2 g ry λs3 I3=>⟨.bl ov.isSome,H2,I3,rfl,q2⟩
theorem Aa(hu:X.A.units+1<cLine)(hi:PE X i ty)(ho:PE X o td):PC X .NotIn i o (Jf ty td):=by
 intro z0 s σ H Q I h;refine thn (hi z0 s σ H _ I h) λiv s1 ⟨y,H1,I1,ry,q1⟩=>thn (ho z0 s1 σ H1 _ I1 q1) λu s2 ⟨x,H2,I2,rx,a,ov,ex,g,q2⟩=>?_;subst ex;obtain rfl:u=Value.ref a:=rx;exact Mz hu I2 g ry λs3 I3=>⟨.bl (!ov.isSome),H2,I3,rfl,q2⟩
theorem JW(hu:X.A.units+1<cLine)(ho:PE X o td)(hi:PE X i ty)(hv:PE X value tv)(hs:swapsWith value (some (.Subscript o i pos')) pos.line X.env=pure false) :
  PS X (.Assign [.Subscript o i pos'] value pos) (Ui td ty tv):=by
 intro z0 s σ H D I h;refine wpAny_Assign_Subscript (thn (hv z0 s σ H _ I h) λr s1 ⟨v,H1,I1,rv,q1⟩=>thn (ho z0 s1 σ H1 _ I1 q1) λu s2 ⟨x,H2,I2,rx,q2⟩=>thn (hi z0 s2 σ H2 _ I2 q2) λiv s3 ⟨y,H3,I3,ry,a,H4,ex,g,q3⟩=>?_) hs;subst ex;obtain rfl:u=Value.ref a:=rx;exact BZ hu I3 g ry rv λs4 I4=>⟨σ,H4,I4,q3⟩
end
theorem GD(h:Heap)(hb:sysModules<h.objs.size):dR P w H (h.push {cls:=.type "dict",data:=.dict #[]}) h.objs.size (.dK []) :=
 ⟨K6z _,Q1z.mpr (E7z (A6z hb)),[],.nil,Heap.DictOf.new h⟩
def OJ:TE:=λ_ H Q=>∀p,H p=none->Q (.ref p) (upd H p (.dK []))
section
variable{X:Cx}{pos:Pos}
theorem Eo:PE X (.Dict [] [] pos) OJ:=λz0 s σ H Q I h =>
 wpAny_Dict_empty ⟨.ref s.heap.objs.size,_,I.laid (λ_ _ q=>Heap.get?_push_of_some _ q) (I6z _) (GD s.heap I.big),rfl,h _ (I.hok.fresh (I6z _))⟩
end
def dX(kvs more:List (Key×V)):List (Key×V):=more.foldl (λacc kv=>putK acc kv.1 kv.2) kvs
theorem KV.merge:∀{more:List (Key×V)}{rs:List (Key×Value)}{kvs:List (Key×V)}{vs:List (Key×Value)},KV more rs->KV kvs vs->KV (dX kvs more) (merged vs rs):=by
 intro more rs kvs vs r
 induction r generalizing kvs vs with
 |nil=>intro q;exact q
 | @cons p q ps qs h t ih =>
  intro r0
  have e:KV (putK kvs p.1 p.2) (stored vs q.1 q.2):=by
   have:=r0.put p.1 h.2;rw[<- h.1];exact this
  exact ih e
theorem fC:∀(more kvs:List (Key×V)),(dX kvs more).length<=kvs.length+more.length
 |[],kvs=>by show kvs.length<=kvs.length+0;omega
 |p::r,kvs=>by
  have h1:=fC r (putK kvs p.1 p.2);have h2:=iy kvs p.1 p.2;show(dX (putK kvs p.1 p.2) r).length<=_;rw[E3z];omega
structure M1(X:Cx)(o:Expr)(m:Str)(apos:Pos)(e:Expr)(cpos:Pos):Prop where
 base:attributeBase o m X.env (eval o X.env)=eval o X.env
 few:((backTo cpos (starEach [e] X.env)).all (λx => !x.1)&&(backToKw cpos (keywordEach [] X.env)).all (λx=>x.1.isSome)
  && decide (([e]:List Expr).length+([]:List Keyword).length+(if([]:List Keyword).isEmpty then 0 else 1)<30))=true
 line:(apos.endLine==cpos.line)=true
 trees:backTo cpos (starEach [e] X.env)=[(false,eval e X.env)]
structure M2(X:Cx)(o:Expr)(m:Str)(apos:Pos)(e f:Expr)(cpos:Pos):Prop where
 base:attributeBase o m X.env (eval o X.env)=eval o X.env
 few:((backTo cpos (starEach [e,f] X.env)).all (λx => !x.1)&&(backToKw cpos (keywordEach [] X.env)).all (λx=>x.1.isSome)
  && decide (([e,f]:List Expr).length+([]:List Keyword).length+(if([]:List Keyword).isEmpty then 0 else 1)<30))=true
 line:(apos.endLine==cpos.line)=true
 trees:backTo cpos (starEach [e,f] X.env)=[(false,eval e X.env),(false,eval f X.env)]
def IsD(H:Hp)(a:Addr):Prop:=(∃kvs,Rd H a (.dK kvs))\/∃kvs,Rd H a (.dT kvs)
theorem Ig(I:Inv X z0 σ H s)(d:IsD H a) :
  s.TypeIs (.ref a) "dict"/\(∀b,Value.ref a=.ref b->∃ob,s.heap.get? b=some ob/\ob.dict=none)/\(a==sysModules)=false:=by
 obtain⟨kvs,e⟩|⟨kvs,e⟩:=d
 .obtain⟨_,hd,vs,_,dd⟩:=tM I.hok e
  refine⟨dd.typeIs,λb q=>?_,hd⟩;cases q;obtain⟨ob,_,_,h1,h2,_⟩:=dd;exact⟨ob,h1,h2.2.1⟩
 .obtain⟨_,hd,xs,_,dd⟩:=tH I.hok e
  refine⟨dd.typeIs,λb q=>?_,hd⟩;cases q;obtain⟨ob,_,_,h1,h2,_⟩:=dd;exact⟨ob,h1,h2.2.1⟩
section
variable{X:Cx}{z0:List (Addr×Obj)}{σ:St}{H:Hp}{s:Shared}{a:Addr}{y d:V}{u r:Value}{o:Option V}{A:Around}{E:Value->Shared->Prop}
theorem Ry(hu:A.units+1<cLine)(I:Inv X z0 σ H s)(g:ug H a y o)(ry:RelV y u)(h:∀w' s',Inv X z0 σ H s'->RelV (o.getD .non) w'->Q w' s') :
  wpAny (model X.prog X.w) A (call (.builtin "dict.get") [.ref a,u]) Q E s:=by
 obtain⟨kvs,k,e,ey,l⟩|⟨kvs,k,b,e,ey,eb,l⟩:=g
 .subst ey
  obtain⟨z,hd,vs,rel,dd⟩:=tM I.hok e;refine call_meetsIn Z0z dd.typeIs PySem.F.entry_dict_get (PySem.F.args_dict_get_2 _ _) (meets_dict_get (aX X.prog X.w) a (lX ry) hd) ⟨_,dd.mapOf,h _ _ (I.tok _) ?_⟩;rw[l];exact(rel.val k).getD rfl
 .subst ey
  cases ry;obtain⟨z,hd,xs,rel,dd⟩:=tH I.hok e;refine call_meetsIn Z0z dd.typeIs PySem.F.entry_dict_get (PySem.F.args_dict_get_2 _ _) (meetsH_dict_get (tupleKind (aX X.prog X.w)) a b hd) ⟨G2z hu,k,xs,mU I.hok eb,dd,h _ _ (I.tok _) ?_⟩;rw[l];exact(rel.val k).getD rfl
end
def O1(td ty:TE):TE:=λσ H Q=>td σ H λx H1=>∃a,x=.ref a/\IsD H1 a/\ty σ H1 λy H2=>∃o,ug H2 a y o/\Q (o.getD .non) H2
def OD(td ty:TE):TE:=λσ H Q=>td σ H λx H1=>∃a,x=.ref a/\IsD H1 a/\ty σ H1 λy H2=>∃kvs k v,H2 a=some (.dK kvs)/\y=kV k/\ju kvs k=some v/\Q v (upd H2 a (.dK (tK kvs k)))
section
variable{X:Cx}{o e f:Expr}{apos cpos:Pos}{td ty tx:TE}
theorem Ep(hu:X.A.units+1<cLine)(ho:PE X o td)(he:PE X e ty)(m:M1 X o "get" apos e cpos):PE X (.Call (.Attribute o "get" apos) [e] [] cpos) (O1 td ty):=by
 intro z0 s σ H Q I h;refine wpAny_Call_method m.base m.few m.line PySem.F.plainAttrs_dict Z0z PySem.F.type_dict_get (thn (ho z0 s σ H _ I h) λu s1 ⟨x,H1,I1,rx,a,ex,d,q1⟩=>?_);subst ex;obtain rfl:u=Value.ref a:=rx;obtain⟨t1,t2,_⟩:=Ig I1 d;refine⟨t1,t2,?_⟩;rw[m.trees];exact Q0z rfl (G1z (Z1z (thn (he z0 s1 σ H1 _ I1 q1) λiv s2 ⟨y,H2,I2,ry,ov,g,q2⟩=>O2z (Ry hu I2 g ry λw' s3 I3 rw'=>⟨_,H2,I3,rw',q2⟩))))
theorem En(ho:PE X o td)(he:PE X e ty)(m:M1 X o "pop" apos e cpos):PE X (.Call (.Attribute o "pop" apos) [e] [] cpos) (OD td ty):=by
 intro z0 s σ H Q I h;refine wpAny_Call_method m.base m.few m.line PySem.F.plainAttrs_dict PySem.F.slot_dict_pop PySem.F.type_dict_pop (thn (ho z0 s σ H _ I h) λu s1 ⟨x,H1,I1,rx,a,ex,d,q1⟩=>?_);subst ex;obtain rfl:u=Value.ref a:=rx;obtain⟨t1,t2,_⟩:=Ig I1 d;refine⟨t1,t2,?_⟩;rw[m.trees];refine Q0z rfl (G1z (Z1z (thn (he z0 s1 σ H1 _ I1 q1) λiv s2 ⟨y,H2,I2,ry,kvs,k,v,ea,ey,l,q2⟩=>O2z ?_)));subst ey;exact Vy I2 ea ry l (.inl rfl) λw' s3 I3 rw'=>⟨v,_,I3,rw',q2⟩
end
section
variable{X:Cx}{z0:List (Addr×Obj)}{σ:St}{H:Hp}{s:Shared}{a:Addr}{kvs:List (Key×V)}{A:Around}{E:Value->Shared->Prop}
end
section
variable{X:Cx}{z0:List (Addr×Obj)}{σ:St}{H:Hp}{s:Shared}{a:Addr}{y:V}{u:Value}{A:Around}{E:Value->Shared->Prop}
end
end L2
namespace Att
open PySem PySem.W PySem.Calls PyProof.Rows
section
variable{prog:Program}{w:World}{A:Around}{E:Value->Shared->Prop}{s:Shared}{K:Frag}
end
end Att
namespace L2
open PySem PySem.Spec PyProof.Rows
section
variable{P:Program}{w:World}{K:Zf}{mg:Str->Option Value}{base:Heap}
end
section
variable{X:Cx}
end
section
variable{κ:Type}[DecidableEq κ]
end
end L2
namespace L2
open PySem PySem.Spec PySem.Calls PyProof.Rows
theorem Ey(x:dR P w H h a o):∃u,h.get? a=some u:=by
 cases o with
 |lst xs=>obtain⟨_,_,_,_,e⟩:=x;exact⟨_,e⟩
 |tup xs=>obtain⟨_,_,_,p⟩:=x;obtain⟨o,e,_⟩:=p;exact⟨_,e⟩
 |dK kvs=>obtain⟨_,_,_,_,o,_,_,e,_⟩:=x;exact⟨_,e⟩
 |dT kvs=>obtain⟨_,_,_,_,o,_,_,e,_⟩:=x;exact⟨_,e⟩
 |set S n=>obtain⟨o,_,_,_,e,_⟩:=x;exact⟨_,e⟩
 |ins C dx fs=>obtain⟨_,_,_,e,_⟩:=x;exact⟨_,e⟩
 |own y=>obtain⟨_,e⟩:=x;exact⟨_,e⟩
 |xd fs=>obtain⟨_,⟨_,_,_,e,_⟩,_⟩:=x;exact⟨_,e⟩
 |rng lo hi=>obtain⟨_,_,_,e⟩:=x;exact⟨_,e⟩
 |frz ob u=>obtain⟨e,_⟩:=x;exact⟨_,e⟩
 |tbl ps=>exact⟨_,x⟩
 |met f y=>exact⟨_,x⟩
 |ext φ=>obtain⟨_,⟨_,e⟩,_⟩:=x;exact⟨_,e⟩
theorem Inv.laidAt(I:Inv X z0 σ H s)(k:∀b u,s.heap.get? b=some u->h'.get? b=some u)(hn:s.heap.get? a=none)(new:dR X.prog X.w (upd H a o) h' a o) :
  H a=none/\Inv X z0 σ (upd H a o) {s with heap:=h',toks:=t'}:=by
 have hH:H a=none:=by
  cases q:H a with
  |none=>rfl
  |some u =>
   obtain⟨z,e⟩:=Ey (I.hok a u q);rw[hn] at e;cases e
 refine⟨hH,I.un ⟨λb u q _ _ _=>k b u q,λb u q _ _ _=>⟨u.slots,k b u q⟩,λb u q n _=>?_,λb u q _=>⟨u,k b u q⟩,λb xs q=>by rw[ao (aq q hH)];exact q,λb u xs q=>by rw[ao (aq q hH)];exact q,λb ps q=>⟨#[],by rw[ao (aq q hH),q];simp⟩⟩ λb u e=>?_⟩
 .rw[ao (λz=>by rw[z,hn] at q;cases q)];exact n
 .by_cases hb:b=a
  .subst hb;rw[aA] at e;cases e;exact new
  .rw[ao hb] at e
   exact(I.hok b u e).stay (λc v _ q=>k c v q) (λc q=>by rw[ao (aq q hH)];exact q) λc xs q=>by rw[ao (aq q hH)];exact q
section
variable{X:Cx}
theorem yW:∀(l:List Value)(ks:List Str),l.length=ks.length->(∀(i:Nat)(x:Value),l[i]?=some x->∃k t,ks[i]?=some k/\x=.str k t)->StrsAre l ks
 |[],[],_,_=>.nil
 |x::l,k::ks,h,f=>by
  obtain⟨k',t,e1,rfl⟩:=f 0 x rfl;cases (show k=k' by simpa using e1);exact .cons k t (yW l ks (by simpa using h) λi y e=>f (i+1) y e)
 |[],_::_,h,_=>by simp at h
 |_::_,[],h,_=>by simp at h
theorem j4:∀{l:List Value}{ks:List Str},StrsAre l ks->Vals (ks.map V.str) l
 |_,_,.nil=>.nil
 |_,_,.cons k t r=>.cons ⟨t,rfl⟩ (j4 r)
theorem Ay:∀{kvs:List (κ×V)}{ws:List (κ×Value)},KV kvs ws->ws.map (·.1)=kvs.map (·.1)
 |_,_,.nil=>rfl
 |_,_,.cons h r=>by rw[O5z,O5z,Ay r,h.1]
theorem qQ(hc:X.calm=true):dz X (.builtin "sorted") (λxs H Q=>∃(d:Addr)(kvs:List (Key×V))(ks:List Str),xs=[.ref d]/\(∀z0 σ s,Inv X z0 σ H s->(d==sysModules)=false/\∃vs,KV kvs vs/\s.heap.DictOf (aX X.prog X.w) d vs)/\kvs.map (·.1)=ks.map Sum.inr/\ks.length<64/\∀a ss,H a=none->ss.Perm ks->sortedS ss=true->Q (.ref a) (upd H a (.lst (ss.map V.str)))):=by
 intro z0 s σ H vs us Q I r h;obtain⟨d,kvs,ks,rfl,hd,hks,h64,q⟩:=h
 obtain⟨u,rfl,rfl⟩:∃u,us=[u]/\u=Value.ref d:=by
  cases r with
  |cons r1 r2=>cases r2;exact⟨_,rfl,r1⟩
 obtain⟨lo,ws,kv,hD⟩:=hd _ _ _ I;obtain⟨ep,hat⟩:=hD.dictAt;have hkw:=(Ay kv).trans hks
 have hlw:ws.length=ks.length:=by simpa using congrArg List.length hkw
 have h64s:(64:Nat)<=sizeLine:=by decide
 refine call_function_entry kind_sorted plain_sorted entry_sorted (args_sorted1 _) ?_;refine R6z (S6z ?_);refine R6z (W.kdu_collect (W.kdl_dict lo) (I.ok.hd hc) hat (by show ws.length<=sizeLine;omega) λh' tk acc hk hacc=>?_)
 have hl:acc.toList.length=ks.length:=by rw[M1z,<- hlw];exact hacc.1
 have hS:=yW _ _ hl λi x e=>by
  obtain⟨k',y,e1,e2⟩:=hacc.2 i x (by rw[<- Array.getElem?_toList];exact e)
  have e3:(ws.map (·.1))[i]?=some k':=by rw[List.getElem?_map,e1];rfl
  rw[hkw,List.getElem?_map,R0z] at e3;obtain⟨k,e3,rfl⟩:=e3;rw[xq] at e2;obtain⟨i,t,e4,_⟩|⟨z,t,e4,e5⟩:=bQ e2
  .cases e4
  .cases e4;exact⟨_,t,e3,e5⟩
 generalize acc.toList=al at hl hS;refine R6z (wpAny_newList ?_ (by show al.toArray.size<=sizeLine;rw[P2z];omega));have hoL:(h'.push {cls:=.type "list",data:=.seq al.toArray}).get? h'.objs.size=some (seqObj "list" al.toArray 0):=Heap.get?_push_size _ rfl;refine R6z (N5z (I3z slot_list_sort ⟨_,hoL,rfl⟩ entry_list_sort ?body (args_list_sort _)))
 case body =>
  refine list_sort_treeK strKind_oneLt hoL hS.keysOf (λv1 v2 rest e=>keyKind_strs (by rw[<- e];exact hS)) (by omega) λst' hp hs=>?_
  obtain⟨ss,g1,g2,g3⟩:=sorted_out_str hS hp hs;generalize (arrOf st').map (·.2)=out at g1;refine⟨_,rfl,S6z ⟨_,rfl,?_⟩⟩
  have hn:s.heap.get? h'.objs.size=none:=by
   cases e:s.heap.get? h'.objs.size with
   |none=>rfl
   |some o=>exact absurd (Z5z (hk _ _ e)) (M5z _)
  obtain⟨ep',hat'⟩:=sortedHeap_at hoL
  obtain⟨hH,J⟩:=I.laidAt (o:=.lst (ss.map V.str)) (λb u e=>by
   have e':=hk b u e;rw[sortedHeap_old (A6z (Z5z e')) (by rw[Z4z];exact Q2z (Z5z e'))]
   exact Heap.get?_push_of_some _ e') hn ⟨by show(ss.map V.str).length<=sizeLine;rw[F4z,g2.length_eq];omega,out.toList,ep',j4 g1,hat'⟩
  exact⟨V.ref h'.objs.size,_,J,rfl,q _ _ hH g2 g3⟩
theorem qR(hc:X.calm=true):dz X (.builtin "sorted") (λxs H Q=>∃(d:Addr)(kvs:List (Key×V))(ks:List Str),xs=[.ref d]/\H d=some (.dK kvs)/\kvs.map (·.1)=ks.map Sum.inr/\ks.length<64/\∀a ss,H a=none->ss.Perm ks->sortedS ss=true->Q (.ref a) (upd H a (.lst (ss.map V.str)))):=by
 intro z0 s σ H vs us Q I r h;obtain⟨d,kvs,ks,e,hd,h⟩:=h;exact qQ hc z0 s σ H vs us Q I r ⟨d,kvs,ks,e,λ_ _ _ I=>(I.hok d _ hd).2,h⟩
end
end L2
namespace L2
open PySem PySem.Spec PySem.Calls PyProof.Rows PySem.Builtin PySem.Builtin.Str
section
variable{X:Cx}
theorem nF:∀{ts:List Str}{its:List Value},Vals (ts.map V.str) its->∃l:List (Str×Tok),its=strValues l/\l.map (·.1)=ts
 |[],_,.nil=>⟨[],rfl,rfl⟩
 |x::r,_,.cons h q=>by
  obtain⟨t,rfl⟩:=h;obtain⟨l,rfl,rfl⟩:=nF q;exact⟨(x,t)::l,rfl,rfl⟩
theorem mq:∀l:List (Str×Tok),Vals ((l.map (·.1)).map V.str) (strValues l)
 |[]=>.nil
 |p::r=>.cons ⟨p.2,rfl⟩ (mq r)
theorem sJ:MtR X "str.endswith" (λx xs H Q=>∃z y,x=.str z/\xs=[.str y]/\Q (.bl (Txt.endswith z y)) H):=by
 intro z0 s σ H x xs v us Q I rx rs h;obtain⟨z,y,rfl,rfl,q⟩:=h;obtain⟨t,rfl⟩:=rx;obtain⟨u,rfl,t',rfl⟩:=vals1 rs;exact SC.endswith ⟨.bl _,H,I,rfl,q⟩
theorem Al:MtR X "str.join" (λx xs H Q=>∃z p ts,x=.str z/\xs=[.ref p]/\SqL X.K H p (ts.map V.str)/\PySem.JoinOk z ts=true/\Q (.str (Txt.join z ts)) H):=by
 intro z0 s σ H x xs v us Q I rx rs h;obtain⟨z,p,ts,rfl,rfl,hp,hj,q⟩:=h;obtain⟨t,rfl⟩:=rx;obtain⟨u,rfl,r1⟩:=vals1 rs;cases r1;obtain⟨its,r,pl,hz⟩:=I.list hp;obtain⟨l,rfl,hl⟩:=nF r;exact SC.join pl.isList hl hj λt' k=>⟨.str _,H,I.tok _,⟨_,rfl⟩,q⟩
theorem wR{prog:Program}{w:World}{A:Around}{E:Value->Shared->Prop}{s:Shared}{x y:Str}{t u:Tok}{Q:Value->Shared->Prop}(hy:(y.length==0)=false)
  (h:∀(l:List (Str×Tok)) k,l.map (·.1)=Txt.split x y->Q (.ref s.heap.objs.size) {s with heap:=s.heap.push {cls:=.type "list",data:=.seq (strValues l).toArray},toks:=k}) (hsz:x.length+2<=sizeLine) :
  wpAny (model prog w) A (call (.builtin "str.split") [.str x t,.str y u]) Q E s:=by
 have hn:(partsBetween x (occurrences x y 0 x.length (x.length+1)) y.length).length<=sizeLine:=by
  have e1:=StrLaws.occ_length_le x y 0 x.length (x.length+1);rw[length_partsBetween];omega
 cases h1:(decide (x.length<y.length)||decide (strKind x<strKind y))
 .cases hf:(occurrences x y 0 x.length (x.length+1)).isEmpty
  .refine V6z F.slot_str_split (U6z _ _ _) F.entry_str_split (H2z _ _) (meets_str_split_sep x y t u h1 hy hf (by omega) hn) ?_
   show wants Q E _ {s with toks:=_,heap:=s.heap.push {cls:=.type "list",data:=.seq (strsFrom s.toks (partsBetween x (occurrences x y 0 x.length (x.length+1)) y.length)).toArray} };rw[strsFrom_eq];exact h (numbered s.toks _) _ ((numbered_texts _ _).trans ((H7z (T1z h1)).trans (H7z (T1z hf))).symm)
  .exact V6z F.slot_str_split (U6z _ _ _) F.entry_str_split (H2z _ _) (meets_str_split_not_found x y t u h1 hy hf)
    (h [(x,t)] s.toks ((H7z (T1z h1)).trans (G7z hf)).symm)
 .exact V6z F.slot_str_split (U6z _ _ _) F.entry_str_split (H2z _ _) (meets_str_split_cannot_occur x y t u h1)
   (h [(x,t)] s.toks (G7z h1).symm)
theorem pH{h:Heap}:h.get? h.objs.size=none:=by
 cases e:h.get? h.objs.size with
 |none=>rfl
 |some o=>exact absurd (Z5z e) (M5z _)
theorem split_len{x y:Str}:(Txt.split x y).length<=x.length+2:=by
 unfold Txt.split;split
 .simp
 .split
  .simp
  .have e1:=StrLaws.occ_length_le x y 0 x.length (x.length+1)
   rw[length_partsBetween];omega
theorem Fp:MtR X "str.split" (λx xs H Q=>∃z y,x=.str z/\xs=[.str y]/\(y.length==0)=false/\z.length+2<=sizeLine/\∀a,H a=none->Q (.ref a) (upd H a (.lst ((Txt.split z y).map V.str)))):=by
 intro z0 s σ H x xs v us Q I rx rs h;obtain⟨z,y,rfl,rfl,hy,hz,q⟩:=h;obtain⟨t,rfl⟩:=rx;obtain⟨u,rfl,t',rfl⟩:=vals1 rs;refine wR hy (λl k e=>?_) hz;have hl:(Txt.split z y).length<=sizeLine:=B6z split_len hz
 obtain⟨hH,J⟩:=I.laidAt (a:=s.heap.objs.size) (o:=.lst ((Txt.split z y).map V.str)) (t':=k) (h':=s.heap.push {cls:=.type "list",data:=.seq (strValues l).toArray}) (λb u e=>Heap.get?_push_of_some _ e) pH
  ⟨by rw[F4z];exact hl,strValues l,0,by rw[<- e];exact mq l,Heap.get?_push_size _ rfl⟩
 exact⟨.ref _,_,J,rfl,q _ hH⟩
theorem qg:MtR X "str.partition" (λx xs H Q=>∃z y,x=.str z/\xs=[.str y]/\(y.length==0)=false/\z.length<=sizeLine/\∀a,H a=none->Q (.ref a) (upd H a (.tup [.str (Txt.partition z y).1,.str (Txt.partition z y).2.1,.str (Txt.partition z y).2.2]))):=by
 intro z0 s σ H x xs v us Q I rx rs h;obtain⟨z,y,rfl,rfl,hy,hz,q⟩:=h;obtain⟨t,rfl⟩:=rx;obtain⟨u,rfl,t',rfl⟩:=vals1 rs;refine V6z F.slot_str_partition (U6z _ _ _) F.entry_str_partition (F.args_str_partition_2 _ _) (meets_str_partition z y t t' hy hz) ?_
 have fin:∀(a b c:Str) ta tb tc k,(Txt.partition z y)=(a,b,c)->EP X z0 σ Q (.ref s.heap.objs.size) {s with heap:=s.heap.push {cls:=.type "tuple",data:=.seq [.str a ta,.str b tb,.str c tc].toArray},toks:=k}:=λa b c ta tb tc k e=>by
  obtain⟨hH,J⟩:=I.laidAt (a:=s.heap.objs.size) (o:=.tup [.str (Txt.partition z y).1,.str (Txt.partition z y).2.1,.str (Txt.partition z y).2.2]) (t':=k) (h':=s.heap.push {cls:=.type "tuple",data:=.seq [.str a ta,.str b tb,.str c tc].toArray}) (λb u e=>Heap.get?_push_of_some _ e) pH
   ⟨by show 3<=sizeLine;decide,_,by rw[e];exact .cons ⟨ta,rfl⟩ (.cons ⟨tb,rfl⟩ (.cons ⟨tc,rfl⟩ .nil)),_,Heap.get?_push_size _ rfl,rfl,_,rfl⟩
  exact⟨.ref _,_,J,rfl,q _ hH⟩
 cases ho:occurrences z y 0 z.length 1 with
 |nil=>exact fin _ _ _ _ _ _ _ (by unfold Txt.partition;rw[ho])
 |cons i r=>exact fin _ _ _ _ _ _ _ (by unfold Txt.partition;rw[ho])
def cutX(z:Str)(lo hi:Option Int):Str:=⟨((z.cps.toList.drop (HT.sIx z.length 0 lo)).take (HT.sIx z.length z.length hi-HT.sIx z.length 0 lo)).toArray⟩
theorem Pa(lo hi:Option Int)(n:Nat):strSliceIndices lo hi 1 n=strSliceIndices (some ((HT.sIx n 0 lo:Nat):Int)) (some ((max (HT.sIx n 0 lo) (HT.sIx n n hi):Nat):Int)) 1 n:=by
 have a1:=HT.pJ n 0 (K6z _) lo;have a2:=HT.pJ n n (I6z _) hi
 have clip:∀(o:Option Int)(d:Nat),d<=n->(match o with|none=>(d:Int)|some i=>max 0 (min (if i<0 then i+(n:Int) else i) (n:Int)))=((HT.sIx n d o:Nat):Int):=λo d hd=>by
  cases o with
  |none=>rfl
  |some v =>
   show max 0 (min (if v<0 then v+(n:Int) else v) (n:Int))=(((if v<0 then(v+(n:Int)).toNat else min v.toNat n):Nat):Int)
   by_cases hv:v<0
   .simp only[G7z hv];omega
   .simp only[H7z hv];omega
 have c1:=clip lo 0 (K6z _);have c2:=clip hi n (I6z _);generalize HT.sIx n 0 lo=a at *;generalize HT.sIx n n hi=b at *
 have e1:max (0:Int) (min (a:Int) (n:Int))=a:=by omega
 have e2:max (0:Int) (min ((max a b:Nat):Int) (n:Int))=(max a b:Nat):=by omega
 have n1:¬ ((a:Int)<0):=by omega
 have n2:¬ (((max a b:Nat):Int)<0):=by omega
 unfold strSliceIndices;simp only[show((1:Int)>0)=True from by simp,F7z,n1,n2,C7z,e1,e2]
 have q:∀u v:Int,u=(a:Int)->v=(b:Int)->sliceRange u v 1=sliceRange (a:Int) ((max a b:Nat):Int) 1:=by
  rintro _ _ rfl rfl
  by_cases h:b<=a
  .rw[Nat.max_eq_left h]
   unfold sliceRange;simp[show ¬ ((a:Int)<(b:Int)) by omega]
  .rw[Nat.max_eq_right (by omega)]
 exact q _ _ c1 c2
theorem pF(z:Str)(lo hi:Option Int):Txt.slice z lo hi=cutX z lo hi:=by
 have hm:max (HT.sIx z.length 0 lo) (HT.sIx z.length z.length hi)<=z.length:=Nat.max_le.mpr ⟨HT.pJ _ _ (K6z _) _,HT.pJ _ _ (I6z _) _⟩
 have e:Txt.slice z lo hi=StrLaws.sliceText z (some ((HT.sIx z.length 0 lo:Nat):Int)) (some ((max (HT.sIx z.length 0 lo) (HT.sIx z.length z.length hi):Nat):Int)):=by
  have q:∀c c':List Nat,c=c'->(if((1:Int)==1&&c.length==z.length)=true then z else(⟨(c.filterMap (z.cps[·]?)).toArray⟩:Str))=(if((1:Int)==1&&c'.length==z.length)=true then z else⟨(c'.filterMap (z.cps[·]?)).toArray⟩):=λc c' e=>by rw[e]
  exact q _ _ (Pa lo hi z.length)
 rw[e,StrLaws.sliceText_nat z (Nat.le_max_left _ _) hm];unfold cutX
 by_cases h:HT.sIx z.length z.length hi<=HT.sIx z.length 0 lo
 .rw[Nat.max_eq_left h,Nat.sub_self,Nat.sub_eq_zero_of_le h]
 .rw[Nat.max_eq_right (by omega)]
theorem Pr:SlR X (λx lo hi H Q=>∃z,x=.str z/\z.length<=sizeLine/\Q (.str (cutX z lo hi)) H):=by
 intro z0 s σ H x v vl vu lo hi sl Q I rx hs pl pu h;obtain⟨z,rfl,hz,q⟩:=h;obtain⟨t,rfl⟩:=rx
 have part:∀{w:Value}{o:Option Int},IsPart w o->∃l:Option (Int×Tok),partValue l=w/\l.map (·.1)=o:=λp=>by
  cases p with
  |none=>exact⟨none,rfl,rfl⟩
  |int i t=>exact⟨some (i,t),rfl,rfl⟩
 obtain⟨l,rfl,rfl⟩:=part pl;obtain⟨u,rfl,rfl⟩:=part pu;refine⟨"str",_,F.slot_str_getitem.lookup,U6z _ _ _,?_⟩;refine wpAny_getItem_str_slice (Q:=EP X z0 σ Q) (l:=l) (u:=u) (st:=none) hs rfl ?_;have hc:=pF z (l.map (·.1)) (u.map (·.1));unfold Txt.slice at hc;unfold sliceMade slicePicked
 have fin:∀(b:Bool)(w:Str),(if b=true then z else w)=cutX z (l.map (·.1)) (u.map (·.1))->(if b=true then Made.val (.str z t) else Made.str w).post (EP X z0 σ Q) s:=λb w e =>
  post_val_or_str ⟨by rw[e,<- pF];exact B6z (Txt.slice_le z _ _) hz,λt' k=>⟨.str _,H,I.tok _,⟨t',rfl⟩,by rw[e];exact q⟩⟩
 exact fin _ _ hc
end
end L2
namespace RLi
open PySem PyProof.Rows
theorem slot_hint:Slot "list_reverseiterator" "__length_hint__" "list_reverseiterator.__length_hint__":=.of (owner:="list_reverseiterator") (n:="__length_hint__") (by rw[M4z,Y0z];rfl') (by decide +kernel) (by decide +kernel) (by decide +kernel) (by first|exact .inl (by decide +kernel)|exact .inr (by decide +kernel)) (by rw[E5z];rfl')
theorem no_len:typeLookup (.type "reversed") "__len__"=pure none:=by rw[M4z,Y0z];rfl'
theorem sub_self:isSubtype (.type "reversed") (.type "reversed")=pure true:=by rw[E5z];rfl'
end RLi
namespace L2
open PySem PySem.Spec PySem.Calls PyProof.Rows PySem.Builtin PySem.Builtin.Str
section
variable{prog:Program}{w:World}{A:Around}{E:Value->Shared->Prop}{s:Shared}
theorem qO{r l:Addr}{its:Array Value}{Q:List Value->Shared->Prop}(hh:A.handled=none)(hne:l≠r)(hr:s.heap.IsRevIter r l ((its.size:Int)-1))(ht:s.heap.IsList l its)(hz:its.size<=sizeLine)
  (hQ:∀s' acc,Moved [r] (λa b=>b=a) s s'->ItemsOf (λi v=>its[its.size-1-i]?=some v) acc its.size->Q acc.toList s'):wpAny (model prog w) A (collect (.ref r)) Q E s:=by
 have W:=(Walks.listRev (prog:=prog) (w:=w) (A:=A.in1.in1) hh r l hne its).toS
 have fresh:∀b∈[r,l],b<s.heap.objs.size:=λb hb=>by
  simp at hb;rcases hb with rfl|rfl
  .obtain⟨o,ho,_⟩:=hr;exact Z5z ho
  .obtain⟨o,ho,_⟩:=ht;exact Z5z ho
 have nf:s.heap.objs.size∉[r,l]:=λhm=>M5z _ (fresh _ hm);have nr:s.heap.objs.size≠r:=λe=>nf (by simp[e]);unfold collect;refine R6z (G5z (O4z F.entry_proto_collect ?_));rw[J1z F.plain_proto_collect _];show wpAny _ A.in1 (newList [] >>=λl=>again (.builtin "list.__iadd__" ⟨[l,.ref r],[]⟩)) _ _ s;refine R6z (M2z (S6z ⟨R5z F.plain_list_iadd _,O4z F.entry_list_iadd ?_⟩));rw[J1z F.plain_list_iadd _];have hS₁:(s.heap.push {cls:=.type "list",data:=.seq ([]:List Value).toArray}).get? s.heap.objs.size=some {cls:=.type "list",data:=.seq ([]:List Value).toArray}:=Heap.get?_push_size _ rfl;have hr₁:(s.heap.push {cls:=.type "list",data:=.seq ([]:List Value).toArray}).IsRevIter r l ((its.size:Int)-1):=hr.at λo e=>Heap.get?_push_of_some _ e;have ht₁:(s.heap.push {cls:=.type "list",data:=.seq ([]:List Value).toArray}).IsList l its:=ht.at λo e=>Heap.get?_push_of_some _ e;show wpAny _ A.in1 (Builtin.List.listExtendWith (.ref s.heap.objs.size) (.ref r) (.ref s.heap.objs.size)) _ _ _;have hT₁:({s with heap:=s.heap.push {cls:=.type "list",data:=.seq ([]:List Value).toArray} }:Shared).TypeIs (.ref r) "list_reverseiterator":=hr₁.typeIs
 have h1:Builtin.List.listSameRef (.ref s.heap.objs.size) (.ref r)=false:=by simp[Builtin.List.listSameRef,nr]
 unfold Builtin.List.listExtendWith;refine R6z (F6z hT₁ ?_);rw[H7z (by rw[h1];decide)];refine R6z (wpAny_pyIter_revIter hr₁ ?_);refine R6z (N5z ?_);unfold Builtin.List.listLengthHint;refine R6z (N4z hT₁ RLi.no_len ?_);refine R6z (m:=specialOf (Value.ref r) (Str.ofString "__length_hint__")) (N4z hT₁ RLi.slot_hint.lookup ?_)
 have sp:splitId "list_reverseiterator.__length_hint__"=some ("list_reverseiterator","__length_hint__"):=by decide +kernel
 dsimp only;rw[sp];dsimp only;refine R6z (M3z (b:=true) hT₁ RLi.sub_self ?_);refine S6z ?_;rw[H7z (by decide)];refine S6z ⟨R5z S1z _,I1z W.of_in1 hz _ nf _ its.size 0 _ _ _ rfl (K6z _) ⟨K6z _,by simpa using hr₁,ht₁⟩ hS₁ (ItemsOf.nil _) λs' acc' c' hm hS' hacc=>?_⟩;show wpAny _ A (load s.heap.objs.size >>=_) _ _ s';refine R6z (wpAny_load hS' ?_);exact S6z (hQ s' acc' (Moved.drop_new (o:={cls:=.type "list",data:=.seq ([]:List Value).toArray}) (tk:=s.toks) hm (I6z _)) hacc)
theorem zK{its acc:Array Value}(h:ItemsOf (λi v=>its[its.size-1-i]?=some v) acc its.size):acc.toList=its.toList.reverse:=by
 apply List.ext_getElem?;intro i;have hs:=h.1
 by_cases hi:i<its.size
 .have:=h.2 i (acc[i]'(by omega)) (Array.getElem?_eq_getElem (by omega))
  rw[List.getElem?_reverse (by simpa using hi),Array.getElem?_toList,Array.getElem?_toList,M1z,this,Array.getElem?_eq_getElem (by omega)]
 .rw[List.getElem?_eq_none (by simp;omega),List.getElem?_eq_none (by simp;omega)]
theorem Bd{x:Str}{t:Tok}{r p:Addr}{l:List (Str×Tok)}{Q:Value->Shared->Prop}(hh:A.handled=none)(hne:p≠r)(hr:s.heap.IsRevIter r p ((l.length:Int)-1))(ht:s.heap.IsList p (strValues l).toArray)(hz:l.length<=sizeLine)(hj:JoinOk x (l.map (·.1)).reverse=true)
  (hQ:∀s' t' k,Moved [r] (λa b=>b=a) s s'->Q (.str (Txt.join x (l.map (·.1)).reverse) t') {s' with toks:=k}):wpAny (model prog w) A (call (.builtin "str.join") [.str x t,.ref r]) Q E s:=by
 have hl:(strValues l).toArray.size=l.length:=by simp[strValues]
 refine wpAny_call (K1z F.slot_str_join.plain F.entry_str_join (F.slot_str_join.check _ _ _ _ _ _ _ _ (U6z _ _ _) (F.args_str_join_2 _ _) ?_));rw[join_tree_other];refine R6z (F6z hr.typeIs ?_);show wpAny _ A.in1 ((pyIter (.ref r)).tryCatch _ >>=λit=>collect it >>=λitems=>joinTail x items) _ _ s;refine R6z (H5z (wpAny_pyIter_revIter hr ?_));refine R6z (qO hh hne (by rw[hl];exact hr) ht (by rw[hl];exact hz) (λs' acc hm hacc=>?_));rw[zK hacc]
 have e:(strValues l).toArray.toList.reverse=strValues l.reverse:=by simp[strValues]
 rw[e]
 have e2:l.reverse.map (·.1)=(l.map (·.1)).reverse:=by simp
 have hj':JoinOk x (l.reverse.map (·.1))=true:=by rw[e2];exact hj
 have hok:=hj';unfold JoinOk at hok;rw[V2z] at hok
 have g:Gives (joinTail x (strValues l.reverse)) (joinMade x l.reverse):=by
  generalize l.reverse=l' at hok;have g0:=gives_joinTail x l' hok
  cases l' with
  |nil=>exact g0
  |cons p r=>cases r with
   |nil=>exact g0
   |cons q r'=>exact g0
 exact g prog w A (wants Q E) s' (post_join l.reverse ⟨joinFit_length hok,λt' k=>by rw[e2];exact hQ s' t' k hm⟩)
end
end L2
namespace DE
open PySem
set_option genInjectivity true in
inductive D where
 |non|bl (b:Bool)|int (i:Int)|str (x:Str)|tup (xs:List D)|lst (xs:List D)
 |exc (c:Str)
 |dic (ks:List (Sum Int Str)) (xs:List D)
 |obj (a:Nat)
 deriving Inhabited
set_option genInjectivity true in
inductive Sl where
 |no|sh (d:D)|ow (ds:List D)|oo (dss:List (List D))
 deriving Inhabited
abbrev Rho:=List (Str×Sl)
set_option genInjectivity true in
inductive Fl where
 |nxt (ρ:Rho)|ret (d:D)
 deriving Inhabited
def b2i(b:Bool):Int:=if b then 1 else 0
mutual
def deq:D->D->Bool
 |.non,.non=>true
 |.bl a,.bl b=>a==b
 |.bl a,.int j=>b2i a==j
 |.int i,.bl b=>i==b2i b
 |.int i,.int j=>i==j
 |.str x,.str y=>x==y
 |.tup xs,.tup ys=>oJ xs ys
 |.lst xs,.lst ys=>oJ xs ys
 |_,_=>false
def oJ:List D->List D->Bool
 |[],[]=>true
 |x::xs,y::ys=>deq x y&&oJ xs ys
 |_,_=>false
end
mutual
def dep:D->Nat
 |.tup xs=>deps xs+1
 |.lst xs=>deps xs+1
 |.exc _=>1000
 |.dic _ _=>1000
 |.obj _=>1000
 |_=>0
def deps:List D->Nat
 |[]=>0
 |x::xs=>max (dep x) (deps xs)
end
mutual
def gw:D->D->Bool
 |.bl _,.bl _=>true
 |.int _,.int _=>true
 |.str _,.str _=>true
 |.tup _,.str _=>true
 |.tup xs,.tup ys=>lM xs ys
 |.lst xs,.lst ys=>lM xs ys
 |_,_=>false
def lM:List D->List D->Bool
 |x::xs,y::ys=>gw x y&&lM xs ys
 |_,_=>true
end
def asB:D->Option Bool
 |.bl b=>some b
 |_=>none
def asI:D->Option Int
 |.int i=>some i
 |_=>none
def items:D->Option (List D)
 |.tup xs=>some xs
 |.lst xs=>some xs
 |_=>none
def tupI:D->Option (List D)
 |.tup xs=>some xs
 |_=>none
def lR:List D->Option (List Int)
 |[]=>some []
 |.int i::r=>(lR r).map (i::·)
 |_=>none
def rF:List D->Option (List Bool)
 |[]=>some []
 |.bl i::r=>(rF r).map (i::·)
 |_=>none
def small(i:Int):Bool:=decide (-(2^64)<i)&&decide (i<2^64)
def mid(i:Int):Bool:=decide (i.natAbs.log2<10000)
def szl(n:Nat):Bool:=decide (n<=100000)
def NP:List D->Int->Option D
 |[x],j=>if decide (0<=j)&&decide (j<=5) then some (.tup (List.replicate j.toNat x)) else none
 |[x,y],j=>if decide (j=2) then some (.tup [x,y,x,y]) else none
 |_,_=>none
def binop(op:Operator)(x y:D):Option D:=match op with
 | .Add=>(match x with
  | .int i=>(match y with
   |.int j=>some (.int (i+j))
   | _=>none)
  | .tup xs=>(match y with
   |.tup ys=>if szl (xs.length+ys.length) then some (.tup (xs++ys)) else none
   | _=>none)
  | .str x=>(match y with
   |.str y=>if szl (x.length+y.length) then some (.str (x++y)) else none
   | _=>none)
  | _=>none)
 | .Sub=>(match x with
  | .int i=>(match y with
   |.int j=>some (.int (i-j))
   | _=>none)
  | _=>none)
 | .Mult=>(match x with
  | .int i=>(match y with
   |.int j=>if small i||small j||(mid i&&mid j) then some (.int (i*j)) else none
   | _=>none)
  | .tup xs=>(match y with
   |.int j=>NP xs j
   | _=>none)
  | _=>none)
 | .FloorDiv=>(match x with
  | .int i=>(match y with
   |.int j=>if decide (0<j)&&decide (j<1073741824) then some (.int (i / j)) else none
   | _=>none)
  | _=>none)
 | .Mod=>(match x with
  | .int i=>(match y with
   |.int j=>if decide (0<j) then some (.int (i%j)) else none
   | _=>none)
  | _=>none)
 | .Pow=>(match x with
  | .int i=>(match y with
   |.int j=>if decide (0<=j)&&decide (j<=1000000)&&small i then some (.int (i^j.toNat)) else none
   | _=>none)
  | _=>none)
 |_=>none
def m9:List D->Option (List Str)
 |[]=>some []
 |.str i::r=>(m9 r).map (i::·)
 |_=>none
def Tc:D->Option (Sum Int Str)
 |.int i=>some (.inl i)
 |.str x=>some (.inr x)
 |_=>none
def putD(l:List (Sum Int Str×D))(k:Sum Int Str)(d:D):List (Sum Int Str×D):=if(l.any λq=>decide (q.1=k))=true then l.map (λq=>if q.1=k then(q.1,d) else q) else l++[(k,d)]
def nA(ks:List (Sum Int Str))(ds:List D)(k:Sum Int Str):Option D:=((ks.zip ds).find? λq=>decide (q.1=k)).map (·.2)
def BP(l:List (Sum Int Str×D)):D:=.dic (l.map (·.1)) (l.map (·.2))
def SN(l:List (Sum Int Str×D)):List (Sum Int Str×D):=l.foldl (λa q=>putD a q.1 q.2) []
def Ra:D->Bool
 |.non=>true
 |_=>false
def cmpop(op:CmpOp)(x y:D):Option D:=match op with
 |.Eq=>if decide (dep x<=50)&&decide (dep y<=50)&&gw x y then some (.bl (deq x y)) else none
 |.NotEq=>if decide (dep x<=50)&&decide (dep y<=50)&&gw x y then some (.bl (!deq x y)) else none
 | .Lt=>(match y with
  | .int j=>(match x with
   |.int i=>some (.bl (decide (i<j)))
   | _=>none)
  | _=>none)
 | .LtE=>(match y with
  | .int j=>(match x with
   |.int i=>some (.bl (decide (i<=j)))
   | _=>none)
  | _=>none)
 | .Gt=>(match y with
  | .int j=>(match x with
   |.int i=>some (.bl (decide (j<i)))
   | _=>none)
  | _=>none)
 | .GtE=>(match y with
  | .int j=>(match x with
   |.int i=>some (.bl (decide (j<=i)))
   | _=>none)
  | _=>none)
 | .In=>(match y with
  | .str y=>(match x with
   |.str x=>some (.bl (!(Builtin.Str.occurrences y x 0 y.length 1).isEmpty))
   | _=>none)
  | .dic ks ds=>(match x with
   |.str x=>some (.bl (nA ks ds (.inr x)).isSome)
   | _=>none)
  | _=>none)
 |_=>none
def ixD(n:Nat)(i:Int):Option Nat:=if 0<=i then(if i<n then some i.toNat else none) else if -(n:Int)<=i then some (i+n).toNat else none
def atD(xs:List D)(i:Int):Option D:=(ixD xs.length i).bind λj=>xs[j]?
def jL(n d:Nat):Option Int->Nat
 |none=>d
 |some v=>if v<0 then(v+(n:Int)).toNat else min v.toNat n
def Ce(xs:List D)(lo hi:Option Int):List D:=(xs.drop (jL xs.length 0 lo)).take (jL xs.length xs.length hi-jL xs.length 0 lo)
def Dj(z:Str)(lo hi:Option Int):Str:=⟨((z.cps.toList.drop (jL z.length 0 lo)).take (jL z.length z.length hi-jL z.length 0 lo)).toArray⟩
def O6:D->D->Option D
 |.tup xs,.int i=>atD xs i
 |.lst xs,.int i=>atD xs i
 |.dic ks ds,y=>(Tc y).bind (nA ks ds)
 |_,_=>none
def scD:D->Bool
 |.non=>true
 |.bl _=>true
 |.int _=>true
 |.str _=>true
 |_=>false
mutual
def Vu:D->Bool
 |.non=>true
 |.bl _=>true
 |.int _=>true
 |.str _=>true
 |.tup ds=>Ih ds
 |_=>false
def Ih:List D->Bool
 |[]=>true
 |d::r=>Vu d&&Ih r
end
def Ie:String->D->Bool
 |"int",.int _=>true
 |"int",.bl _=>true
 |"bool",.bl _=>true
 |"tuple",.tup _=>true
 |"list",.lst _=>true
 |"str",.str _=>true
 |_,_=>false
def mxL:List Int->Int->Int
 |[],b=>b
 |x::r,b=>mxL r (if x>b then x else b)
def mxD:List Int->Int->Int
 |[],d=>d
 |x::r,_=>mxL r x
def SJ:D->Int->Option D
 |.lst xs,c=>(lR xs).map λis=>.int (mxD is c)
 |_,_=>none
def Wr:Expr->Option Int
 |.Constant (.int c) _ _=>some c
 |_=>none
def Td(k:Keyword):Option Int:=if k.arg==some "default" then Wr k.value else none
def mL:List D->Option (List (Sum Int Str×D))
 |[]=>some []
 |.tup [.str k,d]::r=>(mL r).map ((.inr k,d)::·)
 |_::_=>none
def ins(a:Str):List Str->List (List Str)
 |[]=>[[a]]
 |b::r=>(a::b::r)::(ins a r).map (b::·)
def perms:List Str->List (List Str)
 |[]=>[[]]
 |a::r=>(perms r).flatMap (ins a)
def Pb(l:List Str):Option (List Str):=match (perms l).filter PyProof.Rows.sortedS with
 |[x]=>some x
 |_=>none
def blt(b:String):List D->Option D
 | [d]=>if b="len" then(match d with
   |.str x=>if szl x.length then some (.int x.length) else none
   | d=>do let l <- items d;some (.int l.length))
  else if b="all" then(match d with
   |.lst xs=>do let bs <- rF xs;some (.bl (bs.all id))
   | _=>none)
  else if b="sum" then(match d with
   |.lst xs=>do let is <- lR xs;some (.int is.sum)
   |.tup xs=>do let is <- lR xs;some (.int is.sum)
   | _=>none)
  else if b="tuple" then do let l <- items d;some (.tup l)
  else if b="str" then(match d with
   |.int i=>if decide (i.natAbs.log2<1920) then some (.str (toString i)) else none
   | _=>none)
  else if b="dict" then(match d with
   |.lst xs=>(mL xs).map λl=>BP (SN l)
   | _=>none)
  else none
 | [d,d2]=>if b="min" then(match d with
   | .int i=>(match d2 with
    |.int j=>some (.int (if j<i then j else i))
    | _=>none)
   | _=>none)
  else none
 |_=>none
structure Cxt where
 cst:List (Str×D)
 blt:List (Str×String)
 fns:List Str
 exs:List Str
 top:Str
 rs:Bool
 call:Str->List D->Option D
 callx:Str->List D->Option Str
def isExc:D->Bool
 |.exc _=>true
 |.dic _ _=>true
 |.obj _=>true
 |_=>false
noncomputable def jg(scope sc:Scope):Scope :=
 {scope with names:=scope.names.map λ(n,k)=>if(k==.free&&sc.kind==.function&&sc.names.lookup n==some .cell) then(n,.cell) else(n,k)}
def Ue:Option Sl->Sl
 |some (.sh d)=>.sh d
 |_=>.no
def bH(scope:Scope)(ρ:Rho):Rho:=scope.names.map λp=>(p.1,if p.2==.free then Ue (ρ.lookup p.1) else .no)
def u6:List Str->Bool
 |[]=>true
 |x::r => !r.contains x&&u6 r
def dN(sc scope:Scope):Bool :=
 scope.kind==.function&&u6 (scope.names.map (·.1))&&scope.names.all λp=>p.2 !=.free||sc.names.lookup p.1==some .cell||sc.names.lookup p.1==some .free
def eE:Rho->Str->Sl->Rho
 |[],_,_=>[]
 |(y,s)::r,x,v=>if x==y then(y,v)::r else(y,s)::eE r x v
def aZ(x:Str):Bool:=x !="__debug__"&&x !="__classdict__"
def ownIn(scope:Scope)(x:Str):Bool:=scope.names.lookup x==some .local||scope.names.lookup x==some .cell
def bindNames(scope:Scope):List Expr->List D->Rho->Option Rho
 |[],[],ρ=>some ρ
 |.Name x _::es,d::ds,ρ=>if ownIn scope x&&(ρ.map (·.1)).contains x then bindNames scope es ds (eE ρ x (.sh d)) else none
 |_,_,_=>none
def fH(scope:Scope):Expr->D->Rho->Option Rho
 |.Name x _,d,ρ=>if ownIn scope x&&(ρ.map (·.1)).contains x then some (eE ρ x (.sh d)) else none
 |.Tuple es _ _,.tup ds,ρ=>bindNames scope es ds ρ
 |_,_,_=>none
def K9(cx:Cxt)(sc:Scope)(x:Str):Bool:=sc.names.lookup x==some .globalImplicit
def bw(cx:Cxt)(sc:Scope)(x:Str):Option String:=if K9 cx sc x then cx.blt.lookup x else none
def aU(f:D->Option (Option D)):List D->Option (List D)
 |[]=>some []
 |x::r=>do
  match <- f x with
  |some v=>(aU f r).map (v::·)
  |none=>aU f r
def eF(lo hi:Int):List D:=(List.range (hi-lo).toNat).map λ(k:Nat)=>.int (lo+(k:Int))
def n6(f:Expr->Option D):List Expr->Option (List D)
 |[]=>some []
 |e::r=>do let d <- f e;let ds <- n6 f r;some (d::ds)
def cU(op:BoolOp)(f:Expr->Option D):List Expr->Option D
 |[]=>none
 |[e]=>f e
 |e::e'::r=>do
  let d <- f e
  let b <- asB d
  match op with
  |.And=>if b then cU op f (e'::r) else some (.bl false)
  |.Or=>if b then some (.bl true) else cU op f (e'::r)
def fW(i:Int):Bool:=decide (-(2^62)<=i)&&decide (i<2^62)
def fP:Expr->Bool
 |.Tuple .. =>true
 |_=>false
set_option genInjectivity true in
inductive Wk where
 |r1 (a:Expr)|r2 (a b:Expr)|r3 (a b c:Expr)|zp (a b:Expr)|rv (a:Expr)|en (a:Expr)|sq
def rG(cx:Cxt)(sc:Scope):Expr->Wk
 | .Call (.Name x _) args [] _=>(match bw cx sc x with
  |some "range"=>(match args with|[a]=>.r1 a|[a,b]=>.r2 a b|[a,b,c]=>.r3 a b c|_=>.sq)
  |some "zip"=>(match args with|[a,b]=>.zp a b|_=>.sq)
  |some "reversed"=>(match args with|[a]=>.rv a|_=>.sq)
  |some "enumerate"=>(match args with|[a]=>.en a|_=>.sq)
  | _=>.sq)
 |_=>.sq
def enD(xs:List D):List D:=xs.zipIdx.map λq=>.tup [.int (q.2:Int),q.1]
def Sd:D->D->Option (List D)
 |.tup xs,.tup ys=>some ((xs.zip ys).map λq=>.tup [q.1,q.2])
 |.lst xs,.lst ys=>if true then none else none
 |.lst xs,.tup ys=>if true then none else none
 |.tup xs,.lst ys=>if true then none else none
 |_,_=>none
def kD:Sum Int Str->D
 |.inl i=>.int i
 |.inr x=>.str x
def qt:D->Option (List D)
 |.str x=>if x.cps.all (· < 128) then some (x.cps.toList.map λc=>.str ⟨#[c]⟩) else none
 |d=>items d
theorem Bg(h:items d=some l):qt d=some l:=by cases d<;>first|exact h|simp[items] at h
def evI(cx:Cxt)(tup:Bool)(f:Expr->Option D)(sc:Scope)(e:Expr):Option (List D):=match rG cx sc e with
 |.r1 a=>do let j <- (f a).bind asI;if fW j then some (eF 0 j) else none
 |.r2 a b=>do let i <- (f a).bind asI;let j <- (f b).bind asI;if fW i&&fW j then some (eF i j) else none
 |.r3 a b c=>if true then none else none
 |.zp a b=>do let x <- f a;let y <- f b;if tup then Sd x y else none
 |.rv a=>do let xs <- (f a).bind tupI;some xs.reverse
 |.en a=>do let x <- f a;if tup then(tupI x).map enD else none
 |.sq=>(f e).bind qt
set_option genInjectivity true in
inductive Wc where
 |lr1 (a:Expr)|lr2 (a b:Expr)|tv (a:Expr)|ls (a:Expr)|ss (a:Expr)|tr1 (a:Expr)|li (a:Expr)|al
def Sh(cx:Cxt)(sc:Scope):Expr->Option Expr
 |.Call (.Name y _) [a] [] _=>if bw cx sc y==some "set" then some a else none
 |_=>none
def QT:D->Option (List D)
 |.lst xs=>some xs
 |_=>none
def Mx(l:List Str):List Str:=l.foldl (λl k=>if k∈l then l else l++[k]) []
def Wh:Expr->Option Expr
 |.Call (.Attribute (.Name y py) m ap) [] [] p=>if m=="items"&&ap.endLine==p.line then some (.Name y py) else none
 |_=>none
def Ny(cx:Cxt)(sc:Scope)(b:String)(args:List Expr):Wc:=match args with
 | [e]=>(match b,rG cx sc e with
  |"list",.r1 a=>.lr1 a
  |"list",.r2 a b=>.lr2 a b
  |"tuple",.rv a=>.tv a
  |"tuple",.r1 a=>.tr1 a
  |"len",.sq=>(match Sh cx sc e with|some a=>.ls a|none=>.al)
  |"sorted",.sq=>(match Sh cx sc e with|some a=>.ss a|none=>.al)
  |"list",.sq=>(match Wh e with|some a=>.li a|none=>.al)
  | _,_=>.al)
 |_=>.al
def ji:String->Bool
 |"int"=>true
 |"bool"=>true
 |"tuple"=>true
 |"list"=>true
 |"str"=>true
 |_=>false
def tyOf(cx:Cxt)(sc:Scope):Expr->Option String
 |.Name x _=>bw cx sc x
 |_=>none
def lZ(f:Expr->Option D):List Expr->Option Bool
 |[]=>some true
 |[c]=>(f c).bind asB
 |_=>none
def aG:Expr->Bool
 |.Starred .. =>false
 |.Set .. =>false
 |.Slice .. =>false
 |_=>true
def V8:D->Option Expr->Option Expr->Option Int->Option D
 |_,_,_,_=>none
def bR(m:Str):D->D->Option D
 |.str z,.str y =>
  if m=="split" && !(y.length==0)&&szl z.length then some (.lst ((Txt.split z y).map .str))
  else if m=="endswith" then some (.bl (Txt.endswith z y))
  else if m=="partition" && !(y.length==0)&&szl z.length then some (.tup [.str (Txt.partition z y).1,.str (Txt.partition z y).2.1,.str (Txt.partition z y).2.2])
  else none
 |.str z,.lst xs=>if m=="join" then(m9 xs).bind λts=>if JoinOk z ts then some (.str (Txt.join z ts)) else none else none
 |_,_=>none
def JL:Expr->Bool
 |.Name .. =>true
 |.Constant (.str _) _ _=>true
 |.Subscript .. =>true
 |_=>false
def PN(cx:Cxt)(sc:Scope):Expr->Option Expr
 |.Call (.Name y _) [a] [] _=>if bw cx sc y==some "reversed" then some a else none
 |_=>none
def ev(cx:Cxt):Nat->Scope->Rho->Expr->Option D
 |0,_,_,_=>none
 |n+1,sc,ρ,e=>match e with
  | .Name x _=>if aZ x then(match sc.names.lookup x with
    |some .local=>(match ρ.lookup x with|some (.sh d)=>some d|_=>none)
    |some .cell=>(match ρ.lookup x with|some (.sh d)=>some d|_=>none)
    |some .free=>(match ρ.lookup x with|some (.sh d)=>some d|_=>none)
    |some .globalImplicit=>cx.cst.lookup x
    | _=>none) else none
  | .Constant c _ _=>(match c with
    |.none=>some .non
    |.bool b=>some (.bl b)
    |.int i=>some (.int i)
    |.str x=>some (.str x)
    | _=>none)
  |.BinOp a op b _=>do let x <- ev cx n sc ρ a;let y <- ev cx n sc ρ b;binop op x y
  |.UnaryOp op a _=>do
    let x <- ev cx n sc ρ a
    match op with
    |.USub=>(asI x).map λi=>.int (-i)
    |.Not=>(asB x).map λb=>.bl (!b)
    |_=>none
  |.BoolOp op es _=>cU op (ev cx n sc ρ) es
  | .Compare a ops bs _=>(match ops,bs with
    |[op],[b]=>do let x <- ev cx n sc ρ a;let y <- ev cx n sc ρ b;cmpop op x y
    |[op,op'],[b,c]=>if !aG c then none else do
     let x <- ev cx n sc ρ a
     let y <- ev cx n sc ρ b
     let k <- (cmpop op x y).bind asB
     if k then do let z <- ev cx n sc ρ c;cmpop op' y z else some (.bl false)
    | _,_=>none)
  |.IfExp c a b _=>do
    let k <- (ev cx n sc ρ c).bind asB
    if k then ev cx n sc ρ a else ev cx n sc ρ b
  |.Tuple es _ _=>do let ds <- n6 (ev cx n sc ρ) es;if szl ds.length then some (.tup ds) else none
  |.List es _=>do let ds <- n6 (ev cx n sc ρ) es;if szl ds.length then some (.lst ds) else none
  |.Subscript a b _=>do
    let x <- ev cx n sc ρ a
    match b with
    | .Slice lo hi st _=>(match st with
     |none=>do
      let l <- (match lo with|none=>some none|some e=>(ev cx n sc ρ e).bind λd=>(asI d).map some)
      let h <- (match hi with|none=>some none|some e=>(ev cx n sc ρ e).bind λd=>(asI d).map some)
      match x with
      |.tup xs=>if jL xs.length 0 l==0&&jL xs.length xs.length h==xs.length then none else some (.tup (Ce xs l h))
      |.str z=>if szl z.length then some (.str (Dj z l h)) else none
      |_=>none
     | some c=>V8 x lo hi ((ev cx n sc ρ c).bind asI))
    |b=>do
     let y <- ev cx n sc ρ b
     O6 x y
  | .Call f args kws p=>(match f,kws with
    |.Name x _,[] =>
     if K9 cx sc x then
      match cx.blt.lookup x with
      | some "isinstance"=>(match args with
       |[a,t]=>do
        let d <- ev cx n sc ρ a
        let ty <- tyOf cx sc t
        if ji ty && !isExc d then some (.bl (Ie ty d)) else none
       | _=>none)
      | some b=>(match Ny cx sc b args with
       |.lr1 a=>if true then none else none
       |.lr2 a a'=>if true then none else none
       |.tr1 a=>if true then none else none
       |.tv a=>do let xs <- (ev cx n sc ρ a).bind tupI;some (.tup xs.reverse)
       |.ls a=>if true then none else none
       |.ss a=>do let xs <- (ev cx n sc ρ a).bind QT;let l <- m9 xs;if decide (xs.length<64)&&decide (2<=(Mx l).length) then(Pb (Mx l)).map λl=>.lst (l.map .str) else none
       |.li _=>if true then none else none
       | .al=>if args.isEmpty then none else do let ds <- n6 (ev cx n sc ρ) args;blt b ds)
      |none=>if cx.fns.contains x then do let ds <- n6 (ev cx n sc ρ) args;cx.call x ds else none
     else none
    | .Name x _,[k]=>(match args with
     |[a]=>if bw cx sc x==some "max" then do let c <- Td k;let d <- ev cx n sc ρ a;SJ d c else none
     | _=>none)
    | .Attribute o m ap,[]=>(match args with
     |[e]=>if JL o&&ap.endLine==p.line then do
       let x <- ev cx n sc ρ o
       match PN cx sc e with
       |some a=>do
        let z <- (match x with|.str z=>some z|_=>none)
        let xs <- (ev cx n sc ρ a).bind QT
        let ts <- m9 xs
        if m=="join"&&JoinOk z ts.reverse&&aG a then some (.str (Txt.join z ts.reverse)) else none
       |none=>do
        let z <- ev cx n sc ρ e
        bR m x z
      else none
     | _=>none)
    |.Subscript (.List es _) ix _,[]=>if true then none else none
    | _,_=>none)
  | .ListComp elt gens scope _=>(match gens with
    |[⟨tg,iter,ifs,a⟩]=>if a==0&&dN sc scope then do
      let l <- evI cx (fP tg) (ev cx n sc ρ) sc iter
      if szl l.length then do
       let out <- aU (λd=>do
        let ρ1 <- fH scope tg d (bH scope ρ)
        let b <- lZ (ev cx n (jg scope sc) ρ1) ifs
        if b then(ev cx n (jg scope sc) ρ1 elt).map some else some none) l
       some (.lst out)
      else none
     else none
    | _=>none)
  |_=>none
def iD:Nat->Str->Expr->Bool
 |0,_,_=>true
 |n+1,x,e=>match e with
  |.Name y _=>x==y
  |.Constant .. =>false
  |.BinOp a _ b _=>iD n x a||iD n x b
  |.UnaryOp _ a _=>iD n x a
  |.BoolOp _ es _=>es.any (iD n x)
  |.Compare a _ bs _=>iD n x a||bs.any (iD n x)
  |.IfExp c a b _=>iD n x c||iD n x a||iD n x b
  |.Tuple es _ _=>es.any (iD n x)
  |.List es _=>es.any (iD n x)
  |.Subscript a b _=>iD n x a||iD n x b
  |.Slice lo hi st _=>(lo.map (iD n x)).getD false||(hi.map (iD n x)).getD false||(st.map (iD n x)).getD false
  |.Call f args kws _=>iD n x f||args.any (iD n x) || !kws.isEmpty
  |.Attribute a _ _=>iD n x a
  |.ListComp elt gens _ _=>iD n x elt||gens.any λg=>iD n x g.iter||g.ifs.any (iD n x)
  |_=>true
def frz(n:Nat)(e:Expr)(ρ:Rho):Rho:=ρ.map λp=>match p.2 with
 |.ow ds=>if iD n p.1 e then(p.1,.sh (.lst ds)) else p
 |.oo dss=>if iD n p.1 e then(p.1,.sh (.lst (dss.map .lst))) else p
 |_=>p
def isL:Expr->Bool
 |.List .. =>true
 |_=>false
def dI:Expr->Bool
 |.List .. =>true
 |.ListComp .. =>true
 |_=>false
def RG:Sl->Bool
 |.no=>true
 |.sh _=>true
 |_=>false
def Wi:Sl->Bool
 |.oo _=>true
 |_=>false
def Kl(ρ:Rho)(x:Str):Bool:=ρ.all λp=>p.1==x||RG p.2
def HJ(ρ:Rho)(x:Str):Bool:=ρ.all λp=>p.1==x || !Wi p.2
def Wg(cx:Cxt)(sc:Scope):Expr->Bool
 |.Name y _=>aZ y&&sc.names.lookup y==some .local
 |.Call (.Name f _) _ [] _=>K9 cx sc f&&(cx.blt.lookup f).isNone
 |_=>false
def Xm(cx:Cxt)(sc:Scope):Expr->Bool
 |.Call (.Name l _) [y] [] _=>bw cx sc l==some "list"&&Wg cx sc y
 |.ListComp .. =>true
 |_=>false
def SQ(cx:Cxt)(sc:Scope):Expr->Bool
 |.Call (.Name l _) [y] [] _=>bw cx sc l==some "list"&&Wg cx sc y
 |_=>false
def ooE(cx:Cxt)(sc:Scope):Expr->Bool
 |.ListComp elt [⟨.Name _ _,_,[],_⟩] scope _=>Xm cx (jg scope sc) elt
 |_=>false
def pG(e:Expr)(d:D):Sl:=match d with
 |.lst ds=>if dI e then .ow ds else .sh (.lst ds)
 |d=>.sh d
def nc0:Expr->Bool
 |.Call .. =>true
 |.Name x _=>x !="__debug__"
 |.IfExp .. =>true
 |.ListComp .. =>true
 |.Compare .. =>true
 |_=>false
def nc1:Expr->Bool
 |.Subscript v _ _=>nc0 v
 |e=>nc0 e
def nc:Expr->Bool
 |.Subscript v i _=>nc0 v||nc0 i
 |.BinOp l _ r _=>nc1 l||nc1 r
 |e=>nc0 e
def swp(sc:Scope)(ts:List Expr)(value:Expr):Option Bool:=match value with
 | .Tuple vs _ _=>(match ts,vs with
  |[.Name x px,.Name y py],[a,b] =>
   if sc.names.lookup x==some .local&&sc.names.lookup y==some .local then
    (if px.line==py.line&&x !=y&&(nc a||nc b)&&aG a&&aG b then some true else none)
   else none
  | _,_=>none)
 |_=>some false
def rdA:Expr->Bool
 |.Call (.Name _ _) [.Subscript _ _ _,.Subscript _ _ _] [] _=>true
 |_=>false
def iW(f:D->Rho->Option Fl):List D->Rho->Option Fl
 |[],ρ=>some (.nxt ρ)
 |x::r,ρ=>do
  match <- f x ρ with
  |.ret d=>some (.ret d)
  |.nxt ρ'=>iW f r ρ'
def lV(f:Rho->Stmt->Option Fl):List Stmt->Rho->Option Fl
 |[],ρ=>some (.nxt ρ)
 |s::r,ρ=>do
  match <- f ρ s with
  |.ret d=>some (.ret d)
  |.nxt ρ'=>lV f r ρ'
def Nx(c:Rho->Option (Rho×Bool))(f:Rho->Option Fl):Nat->Rho->Option Fl
 |0,_=>none
 |m+1,ρ=>match c ρ with
  |none=>none
  | some (ρ1,b)=>if b then(match f ρ1 with
   |none=>none
   |some (.ret d)=>some (.ret d)
   | some (.nxt ρ')=>Nx c f m ρ') else some (.nxt ρ1)
def st(cx:Cxt)(F:Nat):Nat->Scope->Rho->Stmt->Option Fl
 |0,_,_,_=>none
 |n+1,sc,ρ,s=>match s with
  |.Pass _=>some (.nxt ρ)
  | .Return v _=>(match v with
    |none=>some (.ret .non)
    | some e=>(ev cx F sc (frz F e ρ) e).map .ret)
  | .Assign tgs e _=>(match tgs with
    |[.Name x _]=>if ownIn sc x&&(ρ.map (·.1)).contains x then
      (if ooE cx sc e&&Kl (frz F e ρ) x then none
      else if SQ cx sc e&&HJ (frz F e ρ) x then none
      else if dI e && !HJ (frz F e ρ) x then none
      else if rdA e then none
      else(ev cx F sc (frz F e ρ) e).map λd=>.nxt (eE (frz F e ρ) x (pG e d))) else none
    |[.Tuple es _ _]=>if(swp sc es e).isSome||false then do
      let d <- ev cx F sc (frz F e ρ) e
      let l <- tupI d
      (bindNames sc es l (frz F e ρ)).map .nxt
     else none
    | _=>none)
  | .Expr v _=>(match v with
    | .Call (.Attribute (.Name x _) m ap) [e] [] cp=>(match (frz F e ρ).lookup x with
      |some (.ow ds)=>if ownIn sc x&&aZ x&&ap.endLine==cp.line then
        if m=="append"&&szl (ds.length+1) then(ev cx F sc (frz F e ρ) e).map λd=>.nxt (eE (frz F e ρ) x (.ow (ds++[d])))
        else if m=="extend" then do
         let d <- ev cx F sc (frz F e ρ) e
         (match d with
         |.lst zs=>if szl (ds.length+zs.length) then some (.nxt (eE (frz F e ρ) x (.ow (ds++zs)))) else none
         |.tup zs=>if szl (ds.length+zs.length) then some (.nxt (eE (frz F e ρ) x (.ow (ds++zs)))) else none
         | _=>none)
        else none
       else none
      | _=>none)
    |.ListComp .. =>none
    |.Constant .. =>none
    | e=>(ev cx F sc (frz F e ρ) e).map λ_=>.nxt (frz F e ρ))
  |.If c a b _=>do
    let k <- (ev cx F sc (frz F c ρ) c).bind asB
    if k then lV (λρ s=>st cx F n sc ρ s) a ρ else lV (λρ s=>st cx F n sc ρ s) b ρ
  | .For tg iter body orelse _=>(match orelse with
    |[]=>do
     let l <- evI cx (fP tg) (ev cx F sc (frz F iter ρ)) sc iter
     iW (λd ρ=>do let ρ1 <- fH sc tg d ρ;lV (λρ s=>st cx F n sc ρ s) body ρ1) l (frz F iter ρ)
    | _=>none)
  | .While c body orelse _=>(match orelse with
    |[]=>Nx (λρ=>((ev cx F sc (frz F c ρ) c).bind asB).map λb=>(frz F c ρ,b)) (λρ=>lV (λρ s=>st cx F n sc ρ s) body ρ) 10000000000000000000000000000000000000000000000000000000000000000000000000000000000000000000000000000 ρ
    | _=>none)
  |_=>none
structure Fd where
 ps:List Str
 N:List Str
 sc:Scope
 body:List Stmt
def bD(fd:Fd)(ds:List D):Rho:=(fd.ps.zip (ds.map Sl.sh))++(fd.N.drop fd.ps.length).map λx=>(x,.no)
structure Pg where
 cst:List (Str×D)
 blt:List (Str×String)
 defs:List (Str×Fd)
 exs:List Str:=[]
 top:Str:="MinorError"
set_option genInjectivity true in
inductive Rs where
 |val (d:D)|exc (c:Str)
def Rs.val?:Option Rs->Option D
 |some (.val d)=>some d
 |_=>none
def Rs.exc?:Option Rs->Option Str
 |some (.exc c)=>some c
 |_=>none
def Pg.cx(P:Pg)(c:Str->List D->Option Rs):Cxt:=⟨P.cst,P.blt,P.defs.map (·.1),P.exs,P.top,true,λf ds=>Rs.val? (c f ds),λf ds=>Rs.exc? (c f ds)⟩
def tY(cx:Cxt)(F:Nat)(sc:Scope)(body:List Stmt)(ρ:Rho):Option Rs:=match lV (λρ s=>st cx F F sc ρ s) body ρ with
 |some (.ret d)=>some (.val d)
 |some (.nxt _)=>some (.val .non)
 |none=>none
@[irreducible] def aR(P:Pg)(F:Nat):Nat->Str->List D->Option Rs
 |0,_,_=>none
 |k+1,f,ds=>match P.defs.lookup f with
  |none=>none
  |some fd=>if ds.length==fd.ps.length then tY (P.cx (aR P F k)) F fd.sc fd.body (bD fd ds) else none
theorem oW:aR P F 0 f ds=none:=by with_unfolding_all rfl
theorem oV:aR P F (k+1) f ds=(match P.defs.lookup f with
  |none=>none
  | some fd=>if ds.length==fd.ps.length then tY (P.cx (aR P F k)) F fd.sc fd.body (bD fd ds) else none):=by with_unfolding_all rfl
@[irreducible] def aH(P:Pg)(F k:Nat)(f:Str)(ds:List D):Option D:=Rs.val? (aR P F k f ds)
theorem jc:aH P F k f ds=Rs.val? (aR P F k f ds):=by with_unfolding_all rfl
@[irreducible] def M8(P:Pg)(F k:Nat)(f:Str)(ds:List D):Option Str:=Rs.exc? (aR P F k f ds)
theorem G6:M8 P F k f ds=Rs.exc? (aR P F k f ds):=by with_unfolding_all rfl
end DE
namespace L2
open PySem PySem.Spec PyProof.Rows
section
variable{P:Program}{w:World}{H H':Hp}{h h':Heap}{a:Addr}{o:HO}
theorem dR.there(x:dR P w H h a o):∃ob,h.get? a=some ob:=by
 cases o with
 |lst xs=>obtain⟨_,_,_,_,e⟩:=x;exact⟨_,e⟩
 |tup xs=>obtain⟨_,_,_,ob,e,_⟩:=x;exact⟨_,e⟩
 |dK kvs=>obtain⟨_,_,_,_,o,_,_,e,_⟩:=x;exact⟨_,e⟩
 |dT kvs=>obtain⟨_,_,_,_,o,_,_,e,_⟩:=x;exact⟨_,e⟩
 |set S n=>obtain⟨o,_,_,_,e,_⟩:=x;exact⟨_,e⟩
 |ins C dx fs=>obtain⟨_,_,_,e,_⟩:=x;exact⟨_,e⟩
 |own y=>exact x
 |xd fs=>obtain⟨_,⟨_,_,_,e,_⟩,_⟩:=x;exact⟨_,e⟩
 |rng lo hi=>obtain⟨_,_,_,e⟩:=x;exact⟨_,e⟩
 |frz ob u=>obtain⟨e,_⟩:=x;exact⟨_,e⟩
 |tbl ps=>exact⟨_,x⟩
 |met f y=>exact⟨_,x⟩
 |ext φ=>exact x.2.1
theorem HOk.none_of(x:HOk P w H h)(e:h.get? a=none):H a=none:=by
 cases q:H a with
 |none=>rfl
 |some u =>
  obtain⟨ob,r⟩:=(x a u q).there;rw[e] at r;cases r
theorem HOk.part(x:HOk P w H h)(k:∀b u ob,H b=some u->h.get? b=some ob->B.get? b=some ob):HOk P w H B:=λb u e=>by
 refine(x b u e).stay (λc v hc q=>?_) (λ_ q=>q) λ_ _ q=>q;obtain rfl|hc:=hc
 .exact k _ _ _ e q
 .exact k _ _ _ hc q
end
section
variable{fs fs' ex:List Addr}{H H':Hp}{h h1 h2 B:Heap}
theorem Un.fly(U:Un fs [] H H' h h1)(kB:∀b o,h.get? b=some o->H b=none->b∉fs->B.get? b=some o)(tB:∀b o,h.get? b=some o->b∉fs->∃o',B.get? b=some o')(st:B.StaysIn h2)
  (nf:∀b∈fs,∀o,h1.get? b=some o->∀vs,o.data≠.fields vs) (up:h1.UpToSlots h2):Un fs [] H H' h h2 where
 keep:=λb o q n hb _=>st b o (kB b o q n hb)
 slot:=λb o q n hb hx=>by
  obtain⟨sl,e⟩:=U.slot b o q n hb hx;obtain⟨sl',e'⟩:=up b _ e (nf b hb _ e);exact⟨sl',e'⟩
 free:=U.free
 there:=λb o q hx=>by
  by_cases hb:b∈fs
  .obtain⟨o',e⟩:=U.there b o q hx
   obtain⟨sl,e'⟩:=up b _ e (nf b hb _ e);exact⟨_,e'⟩
  .obtain⟨o',e⟩:=tB b o q hb
   exact⟨o',st b o' e⟩
 tups:=U.tups
 frzs:=U.frzs
 tbls:=U.tbls
theorem Un.restrict(U:Un fs' ex H H' h h1)(hs:∀b o,b∈fs'->h.get? b=some o->b∈fs):Un fs ex H H' h h1 where
 keep:=λb o q n hb hx=>U.keep b o q n (λz=>hb (hs b o z q)) hx
 slot:=λb o q n _ hx=>U.any q n hx
 free:=U.free
 there:=U.there
 tups:=U.tups
 frzs:=U.frzs
 tbls:=U.tbls
end
structure Fly(P:Program)(w:World)(outer:List Env)(H:Hp)(s:Shared)(H':Hp)(ea:Addr)(cls:Value)(s':Shared):Prop where
 os:s'.os=s.os
 bare:AllBare s'.gens
 un:Un (frs outer) [] H H' s.heap s'.heap
 fly:∃B a0,Heap.FlyingW B outer ea cls a0 s'.heap/\HOk P w H' B/\(∀b o,s.heap.get? b=some o->H b=none->b∉frs outer->B.get? b=some o)/\(∀b o,s.heap.get? b=some o->b∉frs outer->∃o',B.get? b=some o')
 fresh:s.heap.get? ea=none
def CX1(P:Program)(w:World):CXT:=λouter H s E e s'=>∃ea cls H',e=.ref ea/\Fly P w outer H s H' ea cls s'/\H' ea=none/\E cls none H'
theorem iM:Passes (CX1 P w) X E0:=λ_ _ _ _ _ _ _ h=>by obtain⟨_,_,_,_,_,_,z⟩:=h;exact z.elim
theorem QB{B h:Heap}(f:h.FunFrames B l):∀b∈frs l,∀o,h.get? b=some o->∀vs,o.data≠.fields vs:=λb hb o e=>by
 obtain⟨_,o',e',hd⟩:=f.mem hb;rw[e] at e';cases e';exact hd
section
variable{P:Program}{w:World}{K:Zf}{mg:Str->Option Value}{base:Heap}{N:List Str}{qual:Str}{scope:Scope}{f:Addr}{cd:Value}{A:Around}{outer:List Env}{s:Shared}{H:Hp}{E:XK}
theorem vD(hf:env.frame=some L):frs (env::outer)=L::frs outer:=by
 unfold frs;rw[L1z,hf]
theorem aQ:Passes (CX1 P w) (jE (CX1 P w) P w K mg base N qual scope f cd A outer s H E) E:=by
 intro z0 σ H1 s1 e s' I h;obtain⟨ea,cls,H',rfl,Fl,hn,hE⟩:=h;obtain⟨B,a0,fl,hokB,kB,tB⟩:=Fl.fly;have hfr:frs (jE (CX1 P w) P w K mg base N qual scope f cd A outer s H E).stack=s.heap.objs.size::frs outer:=vD rfl;have nL:∀b o,s.heap.get? b=some o->b≠s.heap.objs.size:=λb o q=>A6z (Z5z q)
 have nin:∀b o,s.heap.get? b=some o->b∉frs outer->b∉frs (jE (CX1 P w) P w K mg base N qual scope f cd A outer s H E).stack:=λb o q hb z=>by
  obtain z|z:=V5z.mp z
  .exact nL b o q z
  .exact hb z
 have noex:∀b:Addr,b∉(jE (CX1 P w) P w K mg base N qual scope f cd A outer s H E).ex:=λb z=>absurd (show b∈([]:List Addr) from z) (by simp);refine wpAny_leaves_onW I.ok.frames rfl fl λh2 fl2 up=>?_;refine⟨ea,cls,H',rfl,⟨Fl.os.trans I.os,Fl.bare,?_,⟨B,a0,fl2,hokB,λb o q n hb=>?_,λb o q hb=>?_⟩,?_⟩,hn,hE⟩
 .have U1:=Un.fly Fl.un kB tB fl2.1 (QB fl.2.2.1) up
  exact((I.base.mono (λb hb=>by rw[hfr];exact E1z _ hb) (λb hb=>hb)).trans U1).restrict λb o hb q=>by
   obtain z|z:=V5z.mp hb
   .exact absurd z (nL b o q)
   .exact z
 .exact kB b o (I.base.keep b o q n hb (noex b)) (I.base.free b o q n (noex b)) (nin b o q hb)
 .obtain⟨o1,q1⟩:=I.base.there b o q (noex b)
  exact tB b o1 q1 (nin b o q hb)
 .cases q:s.heap.get? ea with
  |none=>rfl
  |some o =>
   obtain⟨o1,q1⟩:=I.base.there ea o q (noex ea);rw[Fl.fresh] at q1;cases q1
theorem wZ(I:Inv (jE (CX1 P w) P w K mg base N qual scope f cd A outer s H E) z0 σ H1 s1)(hx:Heap.MadeExcOf s1.heap h' e (.ref C) args)(hE:E (.ref C) none H1) :
  (jE (CX1 P w) P w K mg base N qual scope f cd A outer s H E).xe (.ref e) {s1 with heap:=h'}:=by
 have hfr:frs (jE (CX1 P w) P w K mg base N qual scope f cd A outer s H E).stack=s.heap.objs.size::frs outer:=vD rfl;have nL:∀b o,s.heap.get? b=some o->b≠s.heap.objs.size:=λb o q=>A6z (Z5z q)
 have nin:∀b o,s.heap.get? b=some o->b∉frs outer->b∉frs (jE (CX1 P w) P w K mg base N qual scope f cd A outer s H E).stack:=λb o q hb z=>by
  obtain z|z:=V5z.mp z
  .exact nL b o q z
  .exact hb z
 have noex:∀b:Addr,b∉(jE (CX1 P w) P w K mg base N qual scope f cd A outer s H E).ex:=λb z=>absurd (show b∈([]:List Addr) from z) (by simp);show wpAny _ _ (leaving _ (.ref e)) _ _ _;have kB:∀b o,s1.heap.get? b=some o->b∉frs (jE (CX1 P w) P w K mg base N qual scope f cd A outer s H E).stack->(W.hideAll s1.heap (frs (jE (CX1 P w) P w K mg base N qual scope f cd A outer s H E).stack)).get? b=some o:=λb o q hb=>W.hideAll_get _ q hb;refine wpAny_leaves_madeW I.ok.frames rfl (λb o q=>W.of_hideAll _ q) (W.funFrames_hide I.stack (λenv he b hb=>List.mem_filterMap.mpr ⟨env,he,hb⟩)) hx λh2 t x1 x2 x3 x4=>?_;have up:=(Heap.UpToSlots.of_keeps hx.keeps).trans x4
 have hok:=HOk.part I.hok λb u ob hu q=>kB b ob q λz=>by
  rw[I.stkFree b z] at hu;cases hu
 refine⟨e,.ref C,H1,rfl,⟨I.os,I.bare,?_,⟨_,_,x1,hok,λb o q n hb=>?_,λb o q hb=>?_⟩,?_⟩,(HOk.none_of I.hok hx.new),hE⟩
 .have U1:Un (frs (jE (CX1 P w) P w K mg base N qual scope f cd A outer s H E).stack) [] H1 H1 s1.heap h2:=Un.fly Un.refl (λb o q _ hb=>kB b o q hb) (λb o q hb=>⟨o,kB b o q hb⟩) x1.1 (QB I.stack) up
  exact((I.base.mono (λb hb=>by rw[hfr];exact E1z _ hb) (λb hb=>hb)).trans U1).restrict λb o hb q=>by
   obtain z|z:=V5z.mp hb
   .exact absurd z (nL b o q)
   .exact z
 .exact kB b o (I.base.keep b o q n hb (noex b)) (nin b o q hb)
 .obtain⟨o1,q1⟩:=I.base.there b o q (noex b)
  exact⟨o1,kB b o1 q1 (nin b o q hb)⟩
 .cases q:s.heap.get? e with
  |none=>rfl
  |some o =>
   obtain⟨o1,q1⟩:=I.base.there e o q (noex e);have:=hx.new;rw[this] at q1;cases q1
end
def nsOk(K:Zf)(N:Addr):Bool:=match K.lookup N with
 |some ⟨_,_,.dict es _,_⟩=>es.toList.all (λe=>match e.key with|.str _ _=>true|_=>false)&&(W.nsIn K N "__init__"==some none)
 |_=>false
def xIn(K:Zf)(C M:Addr):Bool:=match K.lookup C,K.lookup M with
 |some ⟨.type "type",_,.cls cd,sl⟩,some ⟨_,_,.cls cdM,_⟩ =>
  (match sl.toList with|[_,_,_,_,some (.builtin n),_]=>n=="ValueError.__new__"|_=>false)&&cd.mro==[.ref C,.ref M,.type "ValueError",.type "Exception",.type "BaseException",.type "object"] && !cd.hasDel&&nsOk K cd.ns&&nsOk K cdM.ns
 |_,_=>false
theorem Ai{K:Zf}(e:nsOk K N=true):∃mN:Str->Option Value,mN "__init__"=none/\∀h:Heap,K.In h->h.Ns N mN:=by
 unfold nsOk at e;split at e
 .rename_i c d es n sl ho
  rw[J3z] at e;refine⟨nsFind es,?_,λh X=>⟨_,es,n,X _ _ ho,rfl,λen hen=>?_,λ_=>rfl⟩⟩
  .have e2:W.nsIn K N "__init__"=some none:=by simpa using e.2
   unfold W.nsIn at e2;rw[ho] at e2;simp only at e2;unfold nsFind findBy;rw[<- Array.find?_toList];split at e2
   .cases e2
   .rename_i q
    rw[q];rfl
  .have:=A4z.mp e.1 en (by simpa using hen)
   split at this
   .rename_i x t hk;exact⟨x,t,hk⟩
   .cases this
 .cases e
theorem Oe{K:Zf}(e:xIn K C M=true):∃nm q N bs hdct sn sub ab col dd k0 k1 k2 k3 k5 mN,mN "__init__"=none/\∀h:Heap,K.In h ->
  h.get? C=some (excClassObj nm q C N bs [.ref M,.type "ValueError",.type "Exception",.type "BaseException",.type "object"] hdct sn sub ab col dd k0 k1 k2 k3 k5 "ValueError.__new__")/\h.Ns N mN /\
   OwnTail h [.type "ValueError",.type "Exception",.type "BaseException",.type "object"] [.ref M,.type "ValueError",.type "Exception",.type "BaseException",.type "object"]:=by
 unfold xIn at e;split at e
 .rename_i dd cd sl cM dM cdM slM hC hM
  simp[J3z,V2z] at e;obtain⟨⟨⟨⟨e1,e2⟩,e3⟩,e4⟩,e5⟩:=e;split at e1
  .rename_i k0 k1 k2 k3 n k5 hs
   have en:n="ValueError.__new__":=by simpa using e1
   subst en
   have hsl:sl = #[k0,k1,k2,k3,some (.builtin "ValueError.__new__"),k5]:=by
    obtain⟨l⟩:=sl;simp only at hs;rw[hs]
   have em:cd.mro=[.ref C,.ref M,.type "ValueError",.type "Exception",.type "BaseException",.type "object"]:=by simpa using e2
   obtain⟨nm,bs,mro,ns,qn,hd,sn,sub,ab,col,del⟩:=cd;subst em e3 hsl;obtain⟨mN,n2,n1⟩:=Ai e4;obtain⟨mM,m2,m1⟩:=Ai e5;exact⟨_,_,_,_,_,_,_,_,_,_,_,_,_,_,_,mN,n2,λh X=>⟨X _ _ hC,n1 h X,.own (X _ _ hM) (m1 h X) m2 .base⟩⟩
  .cases e1
 .cases e
section
variable{X:Cx}
theorem Ea(I:Inv X z0 σ H s)(hc:X.A.handled=none)(hg:Gl X x)(hm:X.mg x=some (.ref C))(hd:(x==("__debug__":Str))=false)(hx:xIn X.K C M=true)
  (k:∀(s2:Shared)(h':Heap)(e:Addr)(args:List Value),Inv X z0 σ H s2->Heap.MadeExcOf s2.heap h' e (.ref C) args->X.xe (.ref e) {s2 with heap:=h'}) :
  wpAny (model X.prog X.w) X.A (exec (.Raise (some (.Call (.Name x np) [.Constant (.str txt) j p1] [] cpos)) none pos) X.env) Q X.xe s:=by
 obtain⟨nm,q,N,bs,hdct,sn,sub,ab,col,dd,k0,k1,k2,k3,k5,mN,hni,fx⟩:=Oe hx
 refine wpAny_Raise_call_subU (nm:=nm) (q:=q) (N:=N) (bs:=bs) (hdct:=hdct) (sn:=sn) (sub:=sub) (ab:=ab) (col:=col) (dd:=dd) (k0:=k0) (k1:=k1) (k2:=k2) (k3:=k3) (k5:=k5)
  F.excBase_ValueError rfl F.excBase_ValueError ((fx _ I.kIn).2.2.hasType F.excBase_ValueError.hasBase) hc rfl hni (kZ I hg hm ⟨rfl,?_⟩ hd)
 have ha:PA X [.Constant (.str txt) j p1] (O2 (tC (.str txt)) Je):=au j9 aK;refine G1z (Q6z (ha cpos z0 s σ H (λvs H1=>vs.length<=1/\H1=H) I ⟨I6z _,rfl⟩) (λus s2 hq=>?_) λ_ _ y=>y);obtain⟨vs,H1,I1,r,q1,rfl⟩:=hq;obtain⟨f1,f2,f3⟩:=fx _ I1.kIn
 have h1:(1:Nat)<=sizeLine:=by decide
 have h2:=r.length;exact⟨rfl,(show us.length<=sizeLine by omega),f1,f2,f3,λh' e hm'=>k s2 h' e us I1 hm'⟩
end
section
variable{X:Cx}{z0:List (Addr×Obj)}{σ:St}{H H':Hp}{s s':Shared}{e:Value}{xe:Value->Shared->Prop}
end
def isX(a:Addr)(cls:Value)(h:Heap):Prop:=∃o,h.get? a=some o/\o.cls=cls/\∃vs,o.data=.fields vs
section
variable{X:Cx}{z0:List (Addr×Obj)}{σ:St}{H H':Hp}{s s':Shared}{ea:Addr}{cls:Value}
end
def Ol(K:Zf)(C:Addr):Bool :=
 W.findIn K (.ref C) "__getattribute__"==some (some (.builtin "BaseException.__getattribute__"))&&W.findIn K (.ref C) "__getattr__"==some none&&W.findIn K (.ref C) "__class__"==some (some (.builtin "object.__class__")) &&
  W.mroIn K C (.type "object")==some true&&W.mroIn K C (.type "BaseException")==some true&&(W.clsIn K C).isSome
section
open PySem.Builtin PySem.Builtin.ObjectAttr PySem.Builtin.Getset_descriptor
variable{prog:Program}{w:World}{A:Around}{E:Value->Shared->Prop}{K:Zf}{h:Heap}{g:Array GenState}{d:Drawn}{t:Nat}{os:OsState}{a C:Addr}{o:Obj}
end
section
variable{X:Cx}{z0:List (Addr×Obj)}{σ:St}{H H':Hp}{s s':Shared}{ea C:Addr}
end
def KDc(K:Zf)(a:Addr)(kvs:List (Key×V)):Prop:=∃(o:Obj)(es:Array DictEntry)(n:Nat),K.lookup a=some o/\o.ExactDict/\o.data=.dict es n/\(a==sysModules)=false/\(kvs.map (·.1)).Nodup/\Paired (λ(p:Key×V)(e:DictEntry)=>(∃x t,p.1=.inr x/\e.key=.str x t)/\RelV p.2 e.val) kvs es.toList
def hsO(o:Obj):List Int:=match o.data with|.dict es _=>es.toList.map (·.hash)|_=>[]
def hsX(w:World)(o:Obj):List Int:=match o.data with|.dict es _=>es.toList.map (λe=>match e.key with|.str x _=>hashStr w x|_=>e.hash)|_=>[]
def KnW(K:Zf)(w:World):Prop:=K.map (λp=>hsO p.2)=K.map (λp=>hsX w p.2)
theorem lookup_mem:∀{l:List (Addr×α)}{a:Addr}{o:α},l.lookup a=some o->(a,o)∈l
 |(b,u)::r,a,o,h=>by
  rw[K3z] at h
  cases hb:a==b with
  |true =>
   rw[hb] at h
   have e1:a=b:=by simpa using hb
   cases h;subst e1;exact W1z
  |false =>
   rw[hb] at h;exact E1z _ (lookup_mem h)
theorem KnW.at{K:Zf}(kw:KnW K w)(h:K.lookup a=some o)(hd:o.data=.dict es n):∀e∈es.toList,∀x t,e.key=.str x t->e.hash=hashStr w x:=by
 have:=List.map_inj_left.mp kw (a,o) (lookup_mem h);simp only[hsO,hsX,hd] at this;intro e he x t hk;have q:=List.map_inj_left.mp this e he;rw[hk] at q;exact q
theorem Bb(p:Paired (λ(p:Key×V)(e:DictEntry)=>(∃x t,p.1=.inr x/\e.key=.str x t)/\RelV p.2 e.val) kvs es)(hh:∀e∈es,∀x t,e.key=.str x t->e.hash=hashStr w x) :
  ∃vs:List (Key×Value),KV kvs vs/\Pairs (aX P w) es vs/\vs.map (·.1)=kvs.map (·.1)/\∀e∈es,∃k,(aX P w).is k e.key=true/\e.hash=(aX P w).hash k:=by
 induction p with
 |nil=>exact⟨[],.nil,.nil,rfl,λe he=>nomatch he⟩
 | @cons q e kvs es h t ih =>
  obtain⟨vs,h1,h2,h3,h4⟩:=ih λe he=>hh e (E1z _ he);obtain⟨⟨x,tk,g1,g2⟩,g3⟩:=h
  have gi:(aX P w).is q.1 e.key=true:=by
   rw[g1,g2];show Value.isStrOf x (.str x tk)=true;simp[Value.isStrOf]
  refine⟨(q.1,e.val)::vs,.cons ⟨rfl,g3⟩ h1,.cons gi rfl h2,by simp[h3],λe' he=>?_⟩;obtain r|r:=V5z.mp he
  .subst r
   refine⟨q.1,gi,?_⟩;rw[hh _ W1z x tk g2,g1];rfl
  .exact h4 e' r
def DAt(K:Zf)(H:Hp)(a:Addr)(kvs:List (Key×V)):Prop:=(∃o,H a=some (.frz o (.dK kvs)))\/KDc K a kvs
section
variable{X:Cx}{z0:List (Addr×Obj)}{σ:St}{H:Hp}{s:Shared}{a:Addr}{kvs:List (Key×V)}{k:Key}{v d:V}{u r:Value}{A:Around}{E:Value->Shared->Prop}{o i e f:Expr}{td ty tx:TE}{pos apos cpos:Pos}
theorem vQ(I:Inv X z0 σ H s)(kw:KnW X.K X.w)(g:DAt X.K H a kvs):(a==sysModules)=false/\∃vs,KV kvs vs/\s.heap.DictOf (aX X.prog X.w) a vs:=by
 obtain⟨o,g⟩|⟨o,es,n,h1,h2,h3,h4,h5,h6⟩:=g
 .exact(I.hok a _ g).2.2
 .obtain⟨vs,g1,g2,g3,g4⟩:=Bb h6 (kw.at h1 h3)
  exact⟨h4,vs,g1,o,es,n,I.kIn a o h1,h2,h3,λe he=>g4 e (by simpa using he),g2,by rw[g3];exact h5⟩
theorem Bc(I:Inv X z0 σ H s)(kw:KnW X.K X.w)(g:DAt X.K H a kvs)(l:some v=ju kvs k)(ry:RelV (kV k) u)(h:∀w' s',Inv X z0 σ H s'->RelV v w'->Q w' s') :
  s.TypeIs (.ref a) "dict"/\wpAny (model X.prog X.w) A (getItem (.ref a) u) Q E s:=by
 obtain⟨hd,vs,rel,dd⟩:=vQ I kw g;obtain⟨w',hw,rw'⟩:=oY.some_of (by rw[l];exact rel.val k);exact⟨dd.typeIs,wpAny_getItem_of (lX ry) dd.mapOf hw (h w' _ (I.tok _) rw')⟩
def TQ(K:Zf)(td ty:TE):TE:=λσ H Q=>td σ H λx H1=>ty σ H1 λy H2=>∃a v kvs k,x=.ref a/\DAt K H2 a kvs/\y=kV k/\some v=ju kvs k/\Q v H2
theorem J6(kw:KnW X.K X.w)(ho:PE X o td)(hi:PE X i ty)(hs:VJ i):PE X (.Subscript o i pos) (TQ X.K td ty):=by
 intro z0 s σ H Q I h;refine yV PySem.F.slot_dict_getitem.lookup hs (thn (ho z0 s σ H _ I h) λu s1 ⟨x,H1,I1,rx,q1⟩=>thn (hi z0 s1 σ H1 _ I1 q1) λiv s2 ⟨y,H2,I2,ry,a,v,kvs,k,ex,g,ey,l,q2⟩=>?_);subst ex;subst ey;obtain rfl:u=Value.ref a:=rx;exact Bc I2 kw g l ry λw' s3 I3 rw'=>⟨v,H2,I3,rw',q2⟩
end
end L2
namespace L2
open PySem PySem.Spec PyProof.Rows DE PySem.SeqAt
theorem Same.tup{K:Zf}(e:Same H H')(h:SqT K H a xs):SqT K H' a xs:=by
 obtain(h|⟨o,h⟩)|h:=h
 .exact .inl (.inl (e _ _ h))
 .exact .inl (.inr ⟨o,e _ _ h⟩)
 .exact .inr h
mutual
def Rep(K:Zf)(H:Hp):D->V->Prop
 |.non,v=>v=.non
 |.bl b,v=>v=.bl b
 |.int i,v=>v=.int i
 |.str x,v=>v=.str x
 |.tup ds,v=>∃a vs,v=.ref a/\SqT K H a vs/\aJ K H ds vs
 |.lst ds,v=>∃a vs,v=.ref a/\SqL K H a vs/\aJ K H ds vs
 |.obj a,v=>v=.ref a
 |.exc c,v=>∃a C,v=.ref a/\W.nsIn K mainGlobals c=some (some (.ref C))/\H a=some (.ext (isX a (.ref C)))
 |.dic ks ds,v=>∃(a:Addr)(kvs:List (Key×V)),v=.ref a/\DAt K H a kvs/\kvs.map (·.1)=ks/\aJ K H ds (kvs.map (·.2))
def aJ(K:Zf)(H:Hp):List D->List V->Prop
 |[],vs=>vs=[]
 |d::ds,vs=>∃v r,vs=v::r/\Rep K H d v/\aJ K H ds r
end
mutual
theorem Rep.same{K:Zf}{H H':Hp}(e:Same H H'):∀(d:D)(v:V),Rep K H d v->Rep K H' d v
 |.non,v,h=>by simpa[Rep] using h
 |.bl b,v,h=>by simpa[Rep] using h
 |.int i,v,h=>by simpa[Rep] using h
 |.str x,v,h=>by simpa[Rep] using h
 |.tup ds,v,h=>by
  simp only[Rep] at h ⊢;obtain⟨a,vs,h1,h2,h3⟩:=h;exact⟨a,vs,h1,e.tup h2,aJ.same e ds vs h3⟩
 |.lst ds,v,h=>by
  simp only[Rep] at h ⊢;obtain⟨a,vs,h1,h2,h3⟩:=h;exact⟨a,vs,h1,e.seq h2,aJ.same e ds vs h3⟩
 |.obj a,v,h=>by simpa[Rep] using h
 |.exc c,v,h=>by
  simp only[Rep] at h ⊢;obtain⟨a,C,h1,h2,h3⟩:=h;exact⟨a,C,h1,h2,e _ _ h3⟩
 |.dic ks ds,v,h=>by
  simp only[Rep] at h ⊢;obtain⟨a,kvs,h1,h2,h3,h4⟩:=h;refine⟨a,kvs,h1,?_,h3,aJ.same e ds _ h4⟩;rcases h2 with⟨o,h2⟩|h2
  .exact .inl ⟨o,e _ _ h2⟩
  .exact .inr h2
theorem aJ.same{K:Zf}{H H':Hp}(e:Same H H'):∀(ds:List D)(vs:List V),aJ K H ds vs->aJ K H' ds vs
 |[],vs,h=>by simpa[aJ] using h
 |d::ds,vs,h=>by
  simp only[aJ] at h ⊢;obtain⟨v,r,h1,h2,h3⟩:=h;exact⟨v,r,h1,Rep.same e d v h2,aJ.same e ds r h3⟩
end
theorem aJ.length{K:Zf}:∀{ds:List D}{vs:List V},aJ K H ds vs->ds.length=vs.length
 |[],vs,h=>by simp[aJ] at h;subst h;rfl
 |d::ds,vs,h=>by
  obtain⟨v,r,rfl,_,h3⟩:=h;simp[h3.length]
theorem aJ.nil{K:Zf}:aJ K H [] []:=by simp[aJ]
theorem aJ.cons{K:Zf}(h:Rep K H d v)(r:aJ K H ds vs):aJ K H (d::ds) (v::vs):=by
 simp only[aJ];exact⟨v,vs,rfl,h,r⟩
theorem aJ.append{K:Zf}:∀{ds es:List D}{vs us:List V},aJ K H ds vs->aJ K H es us->aJ K H (ds++es) (vs++us)
 |[],es,vs,us,h,h'=>by simp[aJ] at h;subst h;exact h'
 |d::ds,es,vs,us,h,h'=>by
  obtain⟨v,r,rfl,h2,h3⟩:=h;exact .cons h2 (h3.append h')
theorem aJ.get{K:Zf}:∀{ds:List D}{vs:List V}{i:Nat}{d:D},aJ K H ds vs->ds[i]?=some d->∃v,vs[i]?=some v/\Rep K H d v
 |[],vs,i,d,_,e=>by simp at e
 |d'::ds,vs,0,d,h,e=>by
  obtain⟨v,r,rfl,h2,h3⟩:=h;simp at e;subst e;exact⟨v,rfl,h2⟩
 |d'::ds,vs,i+1,d,h,e=>by
  obtain⟨v,r,rfl,h2,h3⟩:=h;obtain⟨u,e1,e2⟩:=h3.get (by simpa using e);exact⟨u,by simpa using e1,e2⟩
theorem aJ.take{K:Zf}:∀(n:Nat){ds:List D}{vs:List V},aJ K H ds vs->aJ K H (ds.take n) (vs.take n)
 |0,_,_,_=>by simpa using aJ.nil
 |n+1,[],vs,h=>by simp[aJ] at h;subst h;simpa using aJ.nil
 |n+1,d::ds,vs,h=>by
  obtain⟨v,r,rfl,h2,h3⟩:=h;simpa using aJ.cons h2 (h3.take n)
theorem aJ.drop{K:Zf}:∀(n:Nat){ds:List D}{vs:List V},aJ K H ds vs->aJ K H (ds.drop n) (vs.drop n)
 |0,_,_,h=>by simpa using h
 |n+1,[],vs,h=>by simp[aJ] at h;subst h;simpa using aJ.nil
 |n+1,d::ds,vs,h=>by
  obtain⟨v,r,rfl,h2,h3⟩:=h;simpa using h3.drop n
theorem aJ.reverse{K:Zf}:∀{ds:List D}{vs:List V},aJ K H ds vs->aJ K H ds.reverse vs.reverse
 |[],vs,h=>by simp[aJ] at h;subst h;simpa using aJ.nil
 |d::ds,vs,h=>by
  obtain⟨v,r,rfl,h2,h3⟩:=h;simpa using h3.reverse.append (.cons h2 .nil)
structure Ext(Hs H Hs' H':Hp):Prop where
 vis:Same Hs Hs'
 all:Same H H'
 sub:Same Hs' H'
 hid:∀b o,H b=some o->Hs b=none->Hs' b=none
theorem Ext.refl(h:Same Hs H):Ext Hs H Hs H:=⟨.refl _,.refl _,h,λ_ _ _ h=>h⟩
theorem Ext.trans(a:Ext Hs H Hs1 H1)(b:Ext Hs1 H1 Hs2 H2):Ext Hs H Hs2 H2 :=
 ⟨a.vis.trans b.vis,a.all.trans b.all,b.sub,λc o h1 h2=>b.hid c o (a.all c o h1) (a.hid c o h1 h2)⟩
theorem Ext.new{Hs H:Hp}(h:Same Hs H){p:Addr}(o:HO)(hp:H p=none):Ext Hs H (upd Hs p o) (upd H p o) where
 vis:=λb u e=>by rw[ao (aq (h b u e) hp)];exact e
 all:=λb u e=>by rw[ao (aq e hp)];exact e
 sub:=λb u e=>by
  by_cases hb:b=p
  .subst hb;rw[aA] at e ⊢;exact e
  .rw[ao hb] at e ⊢;exact h b u e
 hid:=λb u e n=>by rw[ao (aq e hp)];exact n
theorem isT(I:Inv X z0 σ H s)(h:SqT X.K H a vs):∃its:List Value,Vals vs its/\s.heap.IsTuple a its.toArray:=by
 obtain⟨its,r,p,_⟩:=I.tuple h;exact⟨its,r,p⟩
theorem isL(I:Inv X z0 σ H s)(h:SqL X.K H a vs):∃its:List Value,Vals vs its/\s.heap.IsList a its.toArray:=by
 obtain⟨its,r,p,_⟩:=I.list h;exact⟨its,r,p.isList⟩
mutual
theorem oK:∀d:D,dep d<1000->deq d d=true
 |.non,_=>rfl
 |.bl b,_=>by simp[deq]
 |.int i,_=>by simp[deq]
 |.str x,_=>by simp[deq]
 |.tup xs,h=>by simp only[deq];exact lG xs (by simp only[dep] at h;omega)
 |.lst xs,h=>by simp only[deq];exact lG xs (by simp only[dep] at h;omega)
 |.exc c,h=>absurd h (by simp[dep])
 |.dic _ _,h=>absurd h (by simp[dep])
 |.obj _,h=>absurd h (by simp[dep])
theorem lG:∀ds:List D,deps ds<1000->oJ ds ds=true
 |[],_=>rfl
 |d::ds,h=>by
  simp only[deps] at h;simp only[oJ,oK d (by omega),lG ds (by omega),T5z]
end
theorem vO:∀{xs ys:List D}{e:Nat->Bool},(∀(j:Nat)(x y:D),xs[j]?=some x->ys[j]?=some y->e j=deq x y)->((List.range (min xs.length ys.length)).all e&&xs.length==ys.length)=oJ xs ys
 |[],[],_,_=>rfl
 |[],y::ys,_,_=>by simp[oJ]
 |x::xs,[],_,_=>by simp[oJ]
 |x::xs,y::ys,e,h=>by
  have ih:=vO λj a b e1 e2=>h (j+1) a b (by simpa using e1) (by simpa using e2);simp only[oJ,<- ih,<- (h 0 x y rfl rfl),E3z];rw[show min (xs.length+1) (ys.length+1)=min xs.length ys.length+1 by omega,S0z,U5z,List.all_map];rw[Bool.and_assoc];congr 1;congr 1;simp
section
variable{X:Cx}{z0:List (Addr×Obj)}{σ:St}{H:Hp}{s:Shared}
mutual
theorem Rep.inj(I:Inv X z0 σ H s):∀(d d':D)(v:V),dep d<1000->dep d'<1000->Rep X.K H d v->Rep X.K H d' v->d=d'
 |.non,d',v,z,z',h,h'=>by simp only[Rep] at h;subst h;cases d'<;>simp[Rep] at h' ⊢
 |.bl b,d',v,z,z',h,h'=>by simp only[Rep] at h;subst h;cases d'<;>simp[Rep] at h' ⊢;exact h'
 |.int b,d',v,z,z',h,h'=>by simp only[Rep] at h;subst h;cases d'<;>simp[Rep] at h' ⊢;exact h'
 |.str b,d',v,z,z',h,h'=>by simp only[Rep] at h;subst h;cases d'<;>simp[Rep] at h' ⊢;exact h'
 |.tup ds,d',v,z,z',h,h'=>by
  simp only[Rep] at h;obtain⟨a,vs,rfl,h2,h3⟩:=h
  cases d' with
  |tup es =>
   simp only[Rep] at h';obtain⟨a',vs',e,h2',h3'⟩:=h';cases e;have:=I.tuple_inj h2 h2';subst this;rw[aJ.inj I ds es vs (by simp only[dep] at z;omega) (by simp only[dep] at z';omega) h3 h3']
  |lst es =>
   simp only[Rep] at h';obtain⟨a',vs',e,h2',h3'⟩:=h';cases e;obtain⟨i1,_,p1⟩:=isT I h2;obtain⟨i2,_,p2⟩:=isL I h2';exact absurd rfl (ne_of_list_tuple p2 p1)
  |non=>simp[Rep] at h'
  |bl _=>simp[Rep] at h'
  |int _=>simp[Rep] at h'
  |str _=>simp[Rep] at h'
  |exc _=>exact absurd z' (by simp[dep])
  |dic _ _=>exact absurd z' (by simp[dep])
  |obj _=>exact absurd z' (by simp[dep])
 |.lst ds,d',v,z,z',h,h'=>by
  simp only[Rep] at h;obtain⟨a,vs,rfl,h2,h3⟩:=h
  cases d' with
  |lst es =>
   simp only[Rep] at h';obtain⟨a',vs',e,h2',h3'⟩:=h';cases e;have:=I.list_inj h2 h2';subst this;rw[aJ.inj I ds es vs (by simp only[dep] at z;omega) (by simp only[dep] at z';omega) h3 h3']
  |tup es =>
   simp only[Rep] at h';obtain⟨a',vs',e,h2',h3'⟩:=h';cases e;obtain⟨i1,_,p1⟩:=isL I h2;obtain⟨i2,_,p2⟩:=isT I h2';exact absurd rfl (ne_of_list_tuple p1 p2)
  |non=>simp[Rep] at h'
  |bl _=>simp[Rep] at h'
  |int _=>simp[Rep] at h'
  |str _=>simp[Rep] at h'
  |exc _=>exact absurd z' (by simp[dep])
  |dic _ _=>exact absurd z' (by simp[dep])
  |obj _=>exact absurd z' (by simp[dep])
 |.exc c,d',v,z,z',h,h'=>absurd z (by simp[dep])
 |.dic _ _,d',v,z,z',h,h'=>absurd z (by simp[dep])
 |.obj _,d',v,z,z',h,h'=>absurd z (by simp[dep])
theorem aJ.inj(I:Inv X z0 σ H s):∀(ds es:List D)(vs:List V),deps ds<1000->deps es<1000->aJ X.K H ds vs->aJ X.K H es vs->ds=es
 |[],es,vs,z,z',h,h'=>by
  simp only[aJ] at h;subst h
  cases es with
  |nil=>rfl
  |cons e es=>simp[aJ] at h'
 |d::ds,es,vs,z,z',h,h'=>by
  simp only[aJ] at h;obtain⟨v,r,rfl,h2,h3⟩:=h
  cases es with
  |nil=>simp[aJ] at h'
  |cons e es =>
   simp only[aJ] at h';obtain⟨v',r',e',h2',h3'⟩:=h';cases e';simp only[deps] at z z';rw[Rep.inj I d e v (by omega) (by omega) h2 h2',aJ.inj I ds es r (by omega) (by omega) h3 h3']
end
def eJ(ds es:List D)(j:Nat):Bool:=match ds[j]?,es[j]? with
 |some x,some y=>deq x y
 |_,_=>true
theorem BJ(ds es:List D):((List.range (min ds.length es.length)).all (eJ ds es)&&ds.length==es.length)=oJ ds es :=
 vO λj x y e1 e2=>by unfold eJ;rw[e1,e2]
theorem Bx(ds es:List D)(h:ds.length=es.length):(List.range ds.length).all (eJ ds es)=oJ ds es:=by
 rw[<- BJ ds es,<- h];simp
theorem oH:∀{xs ys:List D},xs.length≠ys.length->oJ xs ys=false
 |[],[],h=>absurd rfl h
 |[],_::_,_=>rfl
 |_::_,[],_=>rfl
 |x::xs,y::ys,h=>by
  simp[oJ,oH (xs:=xs) (ys:=ys) (by intro e;exact h (by simp[e])),I5z]
theorem jO{A:Around}:A.in1.units=A.units+1:=rfl
mutual
theorem Ml(I:Inv X z0 σ H s):∀(d d':D)(v v':V)(u u':Value)(A:Around),Rep X.K H d v->Rep X.K H d' v'->RelV v u->RelV v' u'->A.units+dep d<cLine->dep d<1000->dep d'<1000->gw d d'=true->EqAt A s u u' (deq d d')
 |.non,d',v,v',u,u',A,h,h',r,r',hu,z,z',kk=>by cases d'<;>simp[gw] at kk
 |.bl c,d',v,v',u,u',A,h,h',r,r',hu,z,z',kk=>by
  simp only[Rep] at h;subst h;cases (show u=Value.bool c from r)
  have hu0:A.units<cLine:=C2z (O3z _ _) hu
  cases d' with
  |bl b=>simp only[Rep] at h';subst h';cases (show u'=Value.bool b from r');exact EqAt.bool_bool c b
  |_=>simp[gw] at kk
 |.int c,d',v,v',u,u',A,h,h',r,r',hu,z,z',kk=>by
  simp only[Rep] at h;subst h;obtain⟨t0,rfl⟩:=r
  have hu0:A.units<cLine:=C2z (O3z _ _) hu
  cases d' with
  |int i=>simp only[Rep] at h';subst h';obtain⟨t,rfl⟩:=r';exact EqAt.int_int c t0 i t
  |_=>simp[gw] at kk
 |.str c,d',v,v',u,u',A,h,h',r,r',hu,z,z',kk=>by
  simp only[Rep] at h;subst h;obtain⟨t0,rfl⟩:=r
  have hu0:A.units<cLine:=C2z (O3z _ _) hu
  cases d' with
  |str x=>simp only[Rep] at h';subst h';obtain⟨t,rfl⟩:=r';exact EqAt.str_str c t0 x t
  |_=>simp[gw] at kk
 |.tup ds,d',v,v',u,u',A,h,h',r,r',hu,z,z',kk=>by
  have hh:=h;simp only[Rep] at h;obtain⟨a,vs,rfl,h2,h3⟩:=h;cases (show u=Value.ref a from r);obtain⟨its,rv,p⟩:=isT I h2;have hu0:A.units<cLine:=C2z (O3z _ _) hu
  have hu1:A.in1.units+deps ds<cLine:=by have:dep (.tup ds)=deps ds+1:=rfl;rw[jO];omega
  cases d' with
  |str x=>simp only[Rep] at h';subst h';obtain⟨t,rfl⟩:=r';exact EqAt.tuple_str x t p hu0
  |tup es =>
   have hh':=h';simp only[Rep] at h';obtain⟨b,us,rfl,h2',h3'⟩:=h';cases (show u'=Value.ref b from r');obtain⟨its',rv',p'⟩:=isT I h2'
   by_cases hab:a=b
   .subst hab
    have:=Rep.inj I _ _ _ z z' hh hh';rw[<- this,oK _ z];exact EqAt.same _
   .have q:=RcAt.tuples p p' hu0 (e:=eJ ds es) λj g1 g2=>iY I ds es vs us its its' A.in1 h3 h3' rv rv' hu1 (by simp only[dep] at z;omega) (by simp only[dep] at z';omega) kk j _ _ (by simp at g1 ⊢) (by simp at g2 ⊢)
    have l1:=h3.length;have l2:=rv.length;have l3:=h3'.length;have l4:=rv'.length
    rw[P2z,P2z,<- l2,<- l1,<- l4,<- l3,BJ] at q;exact .of_refs hab q
  |_=>simp[gw] at kk
 |.lst ds,d',v,v',u,u',A,h,h',r,r',hu,z,z',kk=>by
  have hh:=h;simp only[Rep] at h;obtain⟨a,vs,rfl,h2,h3⟩:=h;cases (show u=Value.ref a from r);obtain⟨its,rv,p⟩:=isL I h2;have hu0:A.units<cLine:=C2z (O3z _ _) hu
  have hu1:A.in1.units+deps ds<cLine:=by have:dep (.lst ds)=deps ds+1:=rfl;rw[jO];omega
  cases d' with
  |lst es =>
   have hh':=h';simp only[Rep] at h';obtain⟨b,us,rfl,h2',h3'⟩:=h';cases (show u'=Value.ref b from r');obtain⟨its',rv',p'⟩:=isL I h2';have l1:=h3.length;have l2:=rv.length;have l3:=h3'.length;have l4:=rv'.length
   by_cases hab:a=b
   .subst hab
    have:=Rep.inj I _ _ _ z z' hh hh';rw[<- this,oK _ z];exact EqAt.same _
   .by_cases hl:ds.length=es.length
    .have q:=RcAt.lists p p' (by simp;omega) hu0 (e:=eJ ds es) λj g1 g2=>iY I ds es vs us its its' A.in1 h3 h3' rv rv' hu1 (by simp only[dep] at z;omega) (by simp only[dep] at z';omega) kk j _ _ (by simp at g1 ⊢) (by simp at g2 ⊢)
     rw[P2z,<- l2,<- l1,Bx _ _ hl] at q;exact .of_refs hab q
    .have q:=RcAt.lists_lengths p p' (by simp;omega) hu0
     rw[show deq (.lst ds) (.lst es)=oJ ds es from rfl,oH hl];exact .of_refs hab q
  |_=>simp[gw] at kk
 |.exc c,d',v,v',u,u',A,h,h',r,r',hu,z,z',kk=>by cases d'<;>simp[gw] at kk
 |.dic _ _,d',v,v',u,u',A,h,h',r,r',hu,z,z',kk=>by cases d'<;>simp[gw] at kk
 |.obj _,d',v,v',u,u',A,h,h',r,r',hu,z,z',kk=>by cases d'<;>simp[gw] at kk
theorem iY(I:Inv X z0 σ H s):∀(ds es:List D)(vs us:List V)(its its':List Value)(A:Around),aJ X.K H ds vs->aJ X.K H es us->Vals vs its->Vals us its'->A.units+deps ds<cLine->deps ds<1000->deps es<1000->lM ds es=true ->
  ∀(j:Nat)(u u':Value),its[j]?=some u->its'[j]?=some u'->EqAt A s u u' (eJ ds es j)
 |[],es,vs,us,its,its',A,h,h',r,r',hu,z,z',kk,j,u,u',e1,e2=>by
  simp only[aJ] at h;subst h;cases r;simp at e1
 |d::ds,es,vs,us,its,its',A,h,h',r,r',hu,z,z',kk,j,u,u',e1,e2=>by
  simp only[aJ] at h;obtain⟨v,vr,rfl,h2,h3⟩:=h
  cases r with
  |cons r rr =>
   cases es with
   |nil=>simp only[aJ] at h';subst h';cases r';simp at e2
   |cons e es =>
    simp only[aJ] at h';obtain⟨v',vr',rfl,h2',h3'⟩:=h'
    cases r' with
    |cons r' rr' =>
     rw[lM,J3z] at kk;have hd:dep d<=deps (d::ds):=Nat.le_max_left _ _;have hds:deps ds<=deps (d::ds):=Nat.le_max_right _ _
     cases j with
     |zero =>
      simp at e1 e2;subst e1 e2
      exact Ml I d e v v' _ _ A h2 h2' r r' (by omega) (by simp only[deps] at z;omega) (by simp only[deps] at z';omega) kk.1
     |succ j =>
      have q:=iY I ds es vr vr' _ _ A h3 h3' rr rr' (by omega) (by simp only[deps] at z;omega) (by simp only[deps] at z';omega) kk.2 j u u' (by simpa using e1) (by simpa using e2)
      simpa[eJ] using q
end
theorem vX(I:Inv X z0 σ H s){d d':D}{v v':V}{u u':Value}(A:Around)(h:Rep X.K H d v)(h':Rep X.K H d' v')(r:RelV v u)(r':RelV v' u')(hu:A.units+dep d<cLine)(z:dep d<1000)(z':dep d'<1000)(kk:gw d d'=true):RcAt A s u u' (deq d d')/\RcNeAt A s u u' (!deq d d'):=by
 have hu0:A.units<cLine:=C2z (O3z _ _) hu
 cases d with
 |bl c =>
  simp only[Rep] at h;subst h;cases (show u=Value.bool c from r)
  cases d' with
  |bl b=>simp only[Rep] at h';subst h';cases (show u'=Value.bool b from r');exact⟨RcAt.bool_bool c b,RcNeAt.bool_bool c b⟩
  |_=>simp[gw] at kk
 |int c =>
  simp only[Rep] at h;subst h;obtain⟨t0,rfl⟩:=r
  cases d' with
  |int i=>simp only[Rep] at h';subst h';obtain⟨t,rfl⟩:=r';exact⟨RcAt.int_int c t0 i t,RcNeAt.int_int c t0 i t⟩
  |_=>simp[gw] at kk
 |str c =>
  simp only[Rep] at h;subst h;obtain⟨t0,rfl⟩:=r
  cases d' with
  |str x=>simp only[Rep] at h';subst h';obtain⟨t,rfl⟩:=r';exact⟨RcAt.str_str c t0 x t,RcNeAt.str_str c t0 x t⟩
  |_=>simp[gw] at kk
 |tup ds =>
  simp only[Rep] at h;obtain⟨a,vs,rfl,h2,h3⟩:=h;cases (show u=Value.ref a from r);obtain⟨its,rv,p⟩:=isT I h2
  have hu1:A.in1.units+deps ds<cLine:=by have:dep (.tup ds)=deps ds+1:=rfl;rw[jO];omega
  cases d' with
  |str x=>simp only[Rep] at h';subst h';obtain⟨t,rfl⟩:=r';exact⟨RcAt.tuple_str x t p hu0,RcNeAt.tuple_str x t p hu0⟩
  |tup es =>
   simp only[Rep] at h';obtain⟨b,us,rfl,h2',h3'⟩:=h';cases (show u'=Value.ref b from r');obtain⟨its',rv',p'⟩:=isT I h2'
   have l1:=h3.length;have l2:=rv.length;have l3:=h3'.length;have l4:=rv'.length
   have he:∀j (g1:j<its.toArray.size) (g2:j<its'.toArray.size),EqAt A.in1 s its.toArray[j] its'.toArray[j] (eJ ds es j):=λj g1 g2=>iY I ds es vs us its its' A.in1 h3 h3' rv rv' hu1 (by simp only[dep] at z;omega) (by simp only[dep] at z';omega) kk j _ _ (by simp at g1 ⊢) (by simp at g2 ⊢)
   have q:=RcAt.tuples p p' hu0 he;have q':=RcNeAt.tuples p p' hu0 he;rw[P2z,P2z,<- l2,<- l1,<- l4,<- l3,BJ] at q q';exact⟨q,q'⟩
  |_=>simp[gw] at kk
 |lst ds =>
  simp only[Rep] at h;obtain⟨a,vs,rfl,h2,h3⟩:=h;cases (show u=Value.ref a from r);obtain⟨its,rv,p⟩:=isL I h2
  have hu1:A.in1.units+deps ds<cLine:=by have:dep (.lst ds)=deps ds+1:=rfl;rw[jO];omega
  cases d' with
  |lst es =>
   simp only[Rep] at h';obtain⟨b,us,rfl,h2',h3'⟩:=h';cases (show u'=Value.ref b from r');obtain⟨its',rv',p'⟩:=isL I h2'
   have l1:=h3.length;have l2:=rv.length;have l3:=h3'.length;have l4:=rv'.length
   by_cases hl:ds.length=es.length
   .have he:∀j (g1:j<its.toArray.size) (g2:j<its'.toArray.size),EqAt A.in1 s its.toArray[j] its'.toArray[j] (eJ ds es j):=λj g1 g2=>iY I ds es vs us its its' A.in1 h3 h3' rv rv' hu1 (by simp only[dep] at z;omega) (by simp only[dep] at z';omega) kk j _ _ (by simp at g1 ⊢) (by simp at g2 ⊢)
    have q:=RcAt.lists p p' (by simp;omega) hu0 he
    have q':=RcNeAt.lists p p' (by simp;omega) hu0 he
    rw[P2z,<- l2,<- l1,Bx _ _ hl] at q q';exact⟨q,q'⟩
   .rw[show deq (.lst ds) (.lst es)=oJ ds es from rfl,oH hl]
    exact⟨RcAt.lists_lengths p p' (by simp;omega) hu0,RcNeAt.lists_lengths p p' (by simp;omega) hu0⟩
  |_=>simp[gw] at kk
 |_=>cases d'<;>simp[gw] at kk
end
end L2
namespace L2
open PySem PySem.Spec PyProof.Rows
theorem fL:fillsNumberSlot (.type "tuple") "mul"=pure false :=
 PySem.fillsNumberSlot_seq (id:="tuple.__mul__") (r:=some (.builtin "tuple.__rmul__")) T0z.lookup (by decide +kernel) PySem.F.slot_tuple_rmul.lookup (by decide +kernel)
theorem jA:seqRepeat? (.type "tuple")=pure (some (.builtin "tuple.__mul__")):=by
 unfold seqRepeat?;rw[PySem.seqSlot_of (T:="tuple") (name:="__mul__") (id:="tuple.__mul__") T0z.lookup (by decide +kernel),PySem.seqSlot_of (T:="tuple") (name:="__rmul__") (id:="tuple.__rmul__") PySem.F.slot_tuple_rmul.lookup (by decide +kernel)];rfl
theorem ig(a:Int)(t:Tok)(l:Addr)(items:Array Value)(n:Nat)(dd:Option Addr)(sl:Array (Option Value)) :
  Meets (Builtin.«int.__rmul__» ⟨[.int a t,.ref l],[]⟩) (λ_ R s=>s.heap.get? l=some {cls:=.type "tuple",dict:=dd,data:=.seq items n,slots:=sl}/\R (.ok (.ret Value.notImplemented)) s) :=
 .of_wp λprog w A R s h=>by obtain⟨hp,g,d,tk,os⟩:=s;obtain⟨hl,h⟩:=h;wp_walk;exact⟨_,rfl,h⟩
theorem wM(l:Addr)(items:Array Value)(n:Nat)(dd:Option Addr)(sl:Array (Option Value))(t:Tok) :
  Meets (Builtin.«tuple.__mul__» ⟨[.ref l,.int 1 t],[]⟩) (λ_ R s=>s.heap.get? l=some {cls:=.type "tuple",dict:=dd,data:=.seq items n,slots:=sl}/\R (.ok (.ret (Value.ref l))) {s with heap:=s.heap,toks:=s.toks}) :=
 .of_wp λprog w A R s h=>by obtain⟨hp,g,d,tk,os⟩:=s;obtain⟨hl,h⟩:=h;have f1:=Q3z;have f2:=E0z;wp_walk using I4z hl;exact⟨_,rfl,h⟩
theorem wL(l:Addr)(x:Value)(n:Nat)(dd:Option Addr)(sl:Array (Option Value))(t:Tok) :
  Meets (Builtin.«tuple.__mul__» ⟨[.ref l,.int 2 t],[]⟩) (λ_ R s=>s.heap.get? l=some {cls:=.type "tuple",dict:=dd,data:=.seq #[x] n,slots:=sl}/\R (.ok (.ret (Value.ref s.heap.objs.size))) {s with heap:=s.heap.push {cls:=Value.type "tuple",data:=Data.seq #[x,x]},toks:=s.toks}) :=
 .of_wp λprog w A R s h=>by obtain⟨hp,g,d,tk,os⟩:=s;obtain⟨hl,h⟩:=h;have f1:=Q3z;have f2:=E0z;wp_walk using I4z hl;exact⟨_,rfl,h⟩
theorem wK(l:Addr)(x:Value)(n:Nat)(dd:Option Addr)(sl:Array (Option Value))(t:Tok) :
  Meets (Builtin.«tuple.__mul__» ⟨[.ref l,.int 3 t],[]⟩) (λ_ R s=>s.heap.get? l=some {cls:=.type "tuple",dict:=dd,data:=.seq #[x] n,slots:=sl}/\R (.ok (.ret (Value.ref s.heap.objs.size))) {s with heap:=s.heap.push {cls:=Value.type "tuple",data:=Data.seq #[x,x,x]},toks:=s.toks}) :=
 .of_wp λprog w A R s h=>by obtain⟨hp,g,d,tk,os⟩:=s;obtain⟨hl,h⟩:=h;have f1:=Q3z;have f2:=E0z;wp_walk using I4z hl;exact⟨_,rfl,h⟩
theorem wJ(l:Addr)(x:Value)(n:Nat)(dd:Option Addr)(sl:Array (Option Value))(t:Tok) :
  Meets (Builtin.«tuple.__mul__» ⟨[.ref l,.int 4 t],[]⟩) (λ_ R s=>s.heap.get? l=some {cls:=.type "tuple",dict:=dd,data:=.seq #[x] n,slots:=sl}/\R (.ok (.ret (Value.ref s.heap.objs.size))) {s with heap:=s.heap.push {cls:=Value.type "tuple",data:=Data.seq #[x,x,x,x]},toks:=s.toks}) :=
 .of_wp λprog w A R s h=>by obtain⟨hp,g,d,tk,os⟩:=s;obtain⟨hl,h⟩:=h;have f1:=Q3z;have f2:=E0z;wp_walk using I4z hl;exact⟨_,rfl,h⟩
theorem wI(l:Addr)(x:Value)(n:Nat)(dd:Option Addr)(sl:Array (Option Value))(t:Tok) :
  Meets (Builtin.«tuple.__mul__» ⟨[.ref l,.int 5 t],[]⟩) (λ_ R s=>s.heap.get? l=some {cls:=.type "tuple",dict:=dd,data:=.seq #[x] n,slots:=sl}/\R (.ok (.ret (Value.ref s.heap.objs.size))) {s with heap:=s.heap.push {cls:=Value.type "tuple",data:=Data.seq #[x,x,x,x,x]},toks:=s.toks}) :=
 .of_wp λprog w A R s h=>by obtain⟨hp,g,d,tk,os⟩:=s;obtain⟨hl,h⟩:=h;have f1:=Q3z;have f2:=E0z;wp_walk using I4z hl;exact⟨_,rfl,h⟩
theorem wN(l:Addr)(x:Value)(n:Nat)(dd:Option Addr)(sl:Array (Option Value))(t:Tok) :
  Meets (Builtin.«tuple.__mul__» ⟨[.ref l,.int 0 t],[]⟩) (λ_ R s=>s.heap.get? l=some {cls:=.type "tuple",dict:=dd,data:=.seq #[x] n,slots:=sl}/\R (.ok (.ret (Value.ref s.heap.objs.size))) {s with heap:=s.heap.push {cls:=.type "tuple",data:=.seq #[]},toks:=s.toks}) :=
 .of_wp λprog w A R s h=>by obtain⟨hp,g,d,tk,os⟩:=s;obtain⟨hl,h⟩:=h;have f1:=Q3z;have f2:=E0z;wp_walk using I4z hl;exact⟨_,rfl,h⟩
end L2
namespace L2
open PySem PySem.Spec PyProof.Rows PySem.SeqAt
section
variable{X:Cx}
end
section
variable{X:Cx}
end
section
variable{prog:Program}{w:World}{A:Around}{E:Value->Shared->Prop}{s:Shared}
end
section
variable{X:Cx}
end
end L2
namespace HT
open PySem PySem.Spec PyProof.Rows PySem.SeqAt L2
section
variable{prog:Program}{w:World}{A:Around}{E:Value->Shared->Prop}{s:Shared}
end
end HT
namespace L2
open PySem PyProof.Rows
section
variable{X:Cx}
end
end L2
namespace L2
open PySem PySem.Spec PyProof.Rows
section
variable{prog:Program}{w:World}{A:Around}{E:Value->Shared->Prop}{s:Shared}
theorem Ik(hh:A.handled=none)(it t:Addr)(ap:t≠it)(its:Array Value):Draws prog w A it [it,t] its.size (λk v=>its[k]?=some v) (λk h=>h.IsTupleIter it t k/\h.IsTuple t its) where
 live:=λ_ _ q=>by obtain⟨⟨o,e,_⟩,_⟩:=q;exact⟨o,e⟩
 frame:=λ_ _ _ q kp=>by
  obtain⟨⟨o,e,r⟩,⟨o2,e2,r2⟩⟩:=q;exact⟨⟨o,kp it (by simp) o e,r⟩,⟨o2,kp t (by simp) o2 e2,r2⟩⟩
 item:=λk s Q E lt q fin=>Gx hh q.1 q.2 (λx h' hx a sb=>fin x h' s.toks hx ⟨a,by obtain⟨o2,e2,r2⟩:=q.2;exact⟨o2,(sb.2 t ap).trans e2,r2⟩⟩ sb) λh' e hx _ _=>by
  have:its[k]?=some its[k]:=by simp[lt]
  rw[this] at hx;cases hx
 done:=λs Q E q fin=>Gx hh q.1 q.2 (λx h' hx _ _=>by simp at hx) λh' e _ a b=>fin h' e a b
theorem Bv(t:Addr)(its:Array Value)(n:Nat)(dd:Option Addr)(sl:Array (Option Value)) :
  Meets (Builtin.«enumerate.__new__» ⟨[.type "enumerate",.ref t],[]⟩) (λ_ R s=>s.heap.get? t=some {cls:=.type "tuple",dict:=dd,data:=.seq its n,slots:=sl} /\
   R (.ok (.ret (.ref (s.heap.push (itT t)).objs.size))) {s with heap:=(s.heap.push (itT t)).push {cls:=.type "enumerate",data:=.fields #[.none,.bool false,.ref s.heap.objs.size,rawInt 0,.none,.none]} }) :=
 .of_wp λprog w A R s h=>by
  obtain⟨hp,g,d,tk,os⟩:=s;obtain⟨hl,h⟩:=h
  have hsub:=sub_enumerate;have hL:Heap.IsTuple (Shared.heap ⟨hp,g,d,tk,os⟩) t its:=⟨_,hl,rfl,n,rfl⟩
  wp_walk using F0z hl
  refine wpAny_stack_any λfr=>S6z ?_;split
  .rename_i c _ _ _ _ _
   cases (c==Value.type "enumerate")<;>(wp_walk using F0z hl,Y1z hL;exact⟨_,rfl,h⟩)
  .wp_walk using F0z hl,Y1z hL;exact⟨_,rfl,h⟩
theorem yc{t:Addr}{its:Array Value}{Q:Value->Shared->Prop}(ht:s.heap.IsTuple t its)
  (q:∀h',IsEnum h' (s.heap.objs.size+1) s.heap.objs.size 0 .none->h'.IsTupleIter s.heap.objs.size t 0->(∀b o,s.heap.get? b=some o->h'.get? b=some o)->Q (.ref (s.heap.objs.size+1)) {s with heap:=h'}) :
  wpAny (model prog w) A (call (.type "enumerate") [.ref t]) Q E s:=by
 obtain⟨⟨c,dd,dt,sl⟩,e,hc,n,hd⟩:=ht;cases (show c=.type "tuple" from hc);cases (show dt=.seq its n from hd);refine callType_new F.called_enumerate (by decide) (F.typeCall_enumerate_1 _) (F.newCall_enumerate_1 _) (λobj=>H1z obj _) F.entry_enumerate_new (Bv t its n dd sl) ⟨e,?_⟩;have z:(s.heap.push (itT t)).objs.size=s.heap.objs.size+1:=Z4z ..;have en:=Heap.get?_push_size (s.heap.push (itT t)) (o:={cls:=.type "enumerate",data:=.fields #[.none,.bool false,.ref s.heap.objs.size,rawInt 0,.none,.none]}) rfl;rw[z] at en;show _/\_;rw[z];exact⟨⟨_,en,rfl⟩,q _ en ⟨_,Heap.get?_push_of_some _ (Heap.get?_push_size _ rfl),rfl,rfl⟩ λb o x=>Heap.get?_push_of_some _ (Heap.get?_push_of_some _ x)⟩
end
def Ite(K:Zf)(t:Addr):It :=
 ⟨λi H=>∃xs x,SqT K H t xs/\xs[i]?=some x,λi H v H'=>∃p,H p=none/\v=.ref p/\∀xs x,SqT K H t xs->xs[i]?=some x->H'=upd H p (.tup [.int i,x]),λi H=>∃xs,SqT K H t xs/\xs.length=i⟩
theorem yI{P:Program}{w:World}{K:Zf}{es:List Expr}{kt:Nat}{pt:Pos}{e it t:Addr}(d1:e≠it)(d2:e≠t)(d3:t≠it) :
  Turn P w K (.Tuple es kt pt) (Ite K t) [e,it] e (λi h=>(∃old,IsEnum h e it (i:Int) old)/\h.IsTupleIter it t i) where
 mem:=by simp
 obj:=λi h q b hb=>by
  obtain⟨⟨old,q1⟩,o2,q2,_,q3⟩:=q;simp at hb;rcases hb with rfl|rfl
  .exact⟨_,q1,λv z=>by have z':Data.fields _=Data.cell v:=z;cases z'⟩
  .exact⟨o2,q2,λv z=>by rw[q3] at z;cases z⟩
 keep:=λi h h' q kp=>by
  obtain⟨⟨old,q1⟩,o2,q2,q3⟩:=q;exact⟨⟨old,kp e (by simp) _ q1⟩,o2,kp it (by simp) _ q2,q3⟩
 item:=by
  intro X hP hw hK hc i z0 s σ H E I hf q hg;subst hP hw hK;obtain⟨xs,x,hq,hx⟩:=hg;obtain⟨⟨old,q1⟩,q2⟩:=q;obtain⟨its,rv,p,hz⟩:=I.tuple hq;obtain⟨u,hu,ru⟩:=rv.get hx
  have hi:i<its.toArray.size:=by simpa using(List.getElem?_eq_some_iff.mp hu).1
  have D:=Ik (prog:=X.prog) (w:=X.w) (A:=X.A.in1) (I.ok.hd hc) it t d3 its.toArray;refine wpAny_pyNext_enum_itemD D q1 ⟨q2,(show s.heap.IsTuple t its.toArray from p)⟩ hi d1 (by simp;exact⟨d1,d2⟩) λy h' tk hy eo st' new sz kp=>?_
  have ey:y=u:=by
   have:its[i]?=some y:=by simpa using hy
   rw[hu] at this;exact(C4z this).symm
  subst ey
  have szl:2<=sizeLine:=by decide
  have hlt:∀c∈[e,it],c<s.heap.objs.size:=λc hc'=>by
   simp at hc';rcases hc' with rfl|rfl
   .exact Z5z q1
   .obtain⟨o2,q2,_⟩:=q2;exact Z5z q2
  have I1:Inv X z0 σ (upd H s.heap.objs.size (.tup [.int i,x])) {s with heap:=h',toks:=tk+1}:=I.turnedNew (ch:=[e,it]) hf (λb o hb z=>kp b o (λq=>hb (by simp[q])) (λq=>hb (by simp[q])) z) ⟨szl,[.int i tk,y],.cons ⟨tk,rfl⟩ (.cons ru .nil),⟨_,new,rfl,_,rfl⟩⟩;refine⟨_,rfl,wpAny_letOwnedTupleGo_enum (s:={s with heap:=h',toks:=tk+1}) eo λh2 e2 sb=>?_⟩;obtain⟨f0,f1,f2,f3,f4,f5⟩:=hf e (by simp);have I2:Inv X z0 σ (upd H s.heap.objs.size (.tup [.int i,x])) {s with heap:=h2,toks:=tk+1}:=I1.turned (t':=tk+1) (λc o hc' z=>(sb.2 c hc').trans z) (by rw[ao (A6z (hlt e (by simp)))];exact f0) f1 f3 f4 f5;refine⟨.ref s.heap.objs.size,_,I2,rfl,⟨_,I.hok.fresh (I6z _),rfl,λxs' x' a1 a2=>?_⟩,⟨⟨y,by simpa using e2⟩,?_⟩,λb hb=>by rw[ao (A6z (hlt b hb))];exact(hf b hb).1⟩
  .have e1:=I.tuple_inj a1 hq
   subst e1;rw[hx] at a2;cases a2;rfl
  .obtain⟨o3,g1,g2⟩:=st'.1
   exact⟨o3,(sb.2 it d1.symm).trans g1,g2⟩
 done:=by
  intro X hP hw hK hc i z0 s σ H E I hf q hg;subst hP hw hK;obtain⟨xs,hq,hl⟩:=hg;obtain⟨⟨old,q1⟩,q2⟩:=q;obtain⟨its,rv,p,hz⟩:=I.tuple hq
  have hn:its.toArray.size=i:=by rw[P2z,<- rv.length,hl]
  have D:=Ik (prog:=X.prog) (w:=X.w) (A:=X.A.in1) (I.ok.hd hc) it t d3 its.toArray;refine wpAny_pyNext_enum_endD D q1 ⟨by rw[hn];exact q2,(show s.heap.IsTuple t its.toArray from p)⟩ λh' eb=>⟨rfl,?_⟩;obtain⟨f0,f1,f2,f3,f4,f5⟩:=hf it (by simp);exact I.turned (t':=s.toks) (λb o hb z=>eb b o hb z) f0 f1 f3 f4 f5
 self:=λ_ _ _ _ _ q h=>by obtain⟨⟨old,q1⟩,_⟩:=q;exact wpAny_pyIter_enum q1 h
section
variable{X:Cx}
def Vm(K:Zf)(ta:TA):TI:=λσ H R=>ta σ H λvs H1=>∃a,vs=[.ref a]/\(∃xs,SqT K H1 a xs)/\R (Ite K a) H1
theorem J1{a:Expr}{ta:TA}{p pos pt:Pos}{es:List Expr}{kt:Nat}(hg:Gl X "enumerate")(hm:X.mg "enumerate"=none)(ha:PA X [a] ta)(hs:starEach [a] X.env=[(false,eval a X.env)]) :
  PI X (.Tuple es kt pt) (.Call (.Name "enumerate" p) [a] [] pos) (Vm X.K ta):=by
 intro z0 s σ H R I h;refine Call_ (eG I hg hm (show bootBuiltins "enumerate"=some (.type "enumerate") by decide +kernel) (A0z (thn (ha pos z0 s σ H _ I h) λus s1 ⟨vs,H1,I1,r1,q1⟩=>?_) hs rfl));obtain⟨a1,e,⟨xs,hx⟩,q⟩:=q1;subst e
 cases r1 with
 |cons r rr =>
  cases rr;cases (show _=Value.ref a1 from r);obtain⟨its1,rv,p1,hz⟩:=I1.tuple hx;refine yc (show s1.heap.IsTuple a1 its1.toArray from p1) λh' en ti kp=>?_;refine wpAny_pyIter_enum (s:={s1 with heap:=h'}) en ?_;have I2:Inv X z0 σ H1 {s1 with heap:=h'}:=I1.kept (t':=s1.toks) kp;have lt1:a1<s1.heap.objs.size:=p1.lt;refine⟨s1.heap.objs.size+1,_,_,_,H1,rfl,I2,yI (Nat.succ_ne_self _) (D6z (Q2z lt1)) (A6z lt1),⟨⟨_,en⟩,ti⟩,λc hc=>?_,q⟩
  have hc':s1.heap.objs.size<=c:=by
   simp at hc
   rcases hc with h|h<;>rw[h]<;>first|exact I6z _|exact O3z _ _
  exact I1.fpOk hc' (I1.hok.fresh hc')
end
end L2
namespace L2
open PySem PySem.Spec PyProof.Rows DE PySem.SeqAt
def jx(X:Cx)(e:Expr):TE:=λσ H Q=>∀z0 s,Inv X z0 σ H s->wpAny (model X.prog X.w) X.A (eval e X.env) (EP X z0 σ Q) X.xe s
def rM(X:Cx)(e:Expr):TT:=λσ H Q=>∀z0 s,Inv X z0 σ H s->wpAny (model X.prog X.w) X.A (isTrue e X.env (eval e X.env)) (TP X z0 σ Q) X.xe s
def Dw(X:Cx)(es:List Expr):TA:=λσ H Q=>∀pos z0 s,Inv X z0 σ H s->wpAny (model X.prog X.w) X.A (spliced (backTo pos (starEach es X.env))) (AP X z0 σ Q) X.xe s
def jJ(X:Cx)(tg iter:Expr):TI:=λσ H R=>∀z0 s,Inv X z0 σ H s->wpAny (model X.prog X.w) X.A (eval iter X.env) (λv s1=>wpAny (model X.prog X.w) X.A (pyIter v) (PIE X z0 σ tg R) X.xe s1) X.xe s
section
variable{X:Cx}{e:Expr}
theorem ak:PE X e (jx X e):=λz0 s σ H Q I h=>h z0 s I
theorem cY:PT X e (rM X e):=λz0 s σ H Q I h=>h z0 s I
theorem cR:PA X es (Dw X es):=λpos z0 s σ H Q I h=>h pos z0 s I
theorem j8:PI X tg iter (jJ X tg iter):=λz0 s σ H R I h=>h z0 s I
theorem PE.sem(h:PE X e t)(q:t σ H Q):jx X e σ H Q:=λz0 s I=>h z0 s σ H Q I q
theorem PT.sem(h:PT X e t)(q:t σ H Q):rM X e σ H Q:=λz0 s I=>h z0 s σ H Q I q
theorem PA.sem(h:PA X es t)(q:t σ H Q):Dw X es σ H Q:=λpos z0 s I=>h pos z0 s σ H Q I q
theorem PI.sem(h:PI X tg iter t)(q:t σ H R):jJ X tg iter σ H R:=λz0 s I=>h z0 s σ H R I q
end
def cJ(K:Zf)(Hs:Hp)(ρ:Rho)(σ:St):Prop:=∀(i:Nat)(x:Str)(d:D),ρ[i]?=some (x,.sh d)->∃v,σ[i]?=some (some v)/\Rep K Hs d v
theorem cJ.same{K:Zf}(h:cJ K Hs ρ σ)(e:Same Hs Hs'):cJ K Hs' ρ σ:=λi x d q=>by
 obtain⟨v,e1,e2⟩:=h i x d q;exact⟨v,e1,Rep.same e d v e2⟩
def uf(K:Zf)(J:It)(Hs0:Hp)(ds:List D):Prop:=∀Hs H,Same Hs0 Hs->Same Hs H->J.stop ds.length H/\∀(i:Nat)(d:D),ds[i]?=some d->J.go i H/\∀x H',J.yld i H x H'->∃Hs',Ext Hs H Hs' H'/\Rep K Hs' d x
def Ev(X:Cx)(ρ:Rho)(e:Expr)(d:D):Prop:=∀σ H Hs Q,Same Hs H->cJ X.K Hs ρ σ->(∀v H' Hs',Ext Hs H Hs' H'->Rep X.K Hs' d v->Q v H')->jx X e σ H Q
def EvT(X:Cx)(ρ:Rho)(e:Expr)(b:Bool):Prop:=∀σ H Hs Q,Same Hs H->cJ X.K Hs ρ σ->(∀H' Hs',Ext Hs H Hs' H'->Q b H')->rM X e σ H Q
def EvA(X:Cx)(ρ:Rho)(es:List Expr)(ds:List D):Prop:=∀σ H Hs Q,Same Hs H->cJ X.K Hs ρ σ->(∀vs H' Hs',Ext Hs H Hs' H'->aJ X.K Hs' ds vs->Q vs H')->Dw X es σ H Q
def EvI(X:Cx)(ρ:Rho)(tg iter:Expr)(ds:List D):Prop:=∀σ H Hs R,Same Hs H->cJ X.K Hs ρ σ->(∀J H' Hs',Ext Hs H Hs' H'->uf X.K J Hs' ds->R J H')->jJ X tg iter σ H R
def spX(K:Zf)(call:Str->List D->Option D)(callx:Str->List D->Option Str)(f:Str)(ps:List Str):Sp:=λvs H Q E=>vs.length=ps.length/\∃Hs ds,Same Hs H/\aJ K Hs ds vs /\
 ((∃d,call f ds=some d/\∀v H' Hs',Ext Hs H Hs' H'->Rep K Hs' d v->Q v H')\/(∃c,callx f ds=some c/\∀C H' Hs',W.nsIn K mainGlobals c=some (some (.ref C))->Ext Hs H Hs' H'->E (.ref C) none H'))
def Hg(K:Zf)(exs:List Str)(top:Str):Bool:=match W.nsIn K mainGlobals top with
  |some (some (.ref M))=>exs.all λc=>match W.nsIn K mainGlobals c with
    |some (some (.ref C))=>xIn K C M && Ol K C && W.exmOne K (.ref C) (.ref M)==some true && W.kitOne K (.ref C) (.ref M)==some true && W.kitOne K (.ref C) (.type "ValueError")==some true &&
      exs.all λc'=>match W.nsIn K mainGlobals c' with
        |some (some (.ref C'))=>W.kitOne K (.ref C) (.ref C')==some (c==c')
        |_=>false
    |_=>false
  |_=>exs.isEmpty
structure XText(K:Zf)(mg:Str->Option Value)(exs:List Str)(top:Str):Prop where
 glob:∀x v,W.nsIn K mainGlobals x=some (some v)->mg x=some v
 cls:∀c,exs.contains c=true->∃C M,W.nsIn K mainGlobals c=some (some (.ref C))/\W.nsIn K mainGlobals top=some (some (.ref M))/\xIn K C M=true/\Ol K C=true/\W.exmOne K (.ref C) (.ref M)=some true/\W.kitOne K (.ref C) (.ref M)=some true/\W.kitOne K (.ref C) (.type "ValueError")=some true
 sub:∀c c',exs.contains c=true->exs.contains c'=true->∃C C',W.nsIn K mainGlobals c=some (some (.ref C))/\W.nsIn K mainGlobals c'=some (some (.ref C'))/\W.kitOne K (.ref C) (.ref C')=some (c==c')
theorem XText.of{K:Zf}(hg:∀x v,W.nsIn K mainGlobals x=some (some v)->mg x=some v)(h:Hg K exs top=true):XText K mg exs top:=by
 unfold Hg at h;split at h
 .rename_i M hM
  have all:=λc (hc:exs.contains c=true)=>A4z.mp h c (by simpa using hc);refine⟨hg,λc hc=>?_,λc c' hc hc'=>?_⟩
  .have q:=all c hc
   split at q
   .rename_i C hC
    simp[J3z,W6z] at q;exact⟨C,M,hC,hM,q.1.1.1.1.1,q.1.1.1.1.2,q.1.1.1.2,q.1.1.2,q.1.2⟩
   .cases q
  .have q:=all c hc
   split at q
   .rename_i C hC
    simp only[J3z] at q;have q2:=A4z.mp q.2 c' (by simpa using hc');split at q2
    .rename_i C' hC'
     exact⟨C,C',hC,hC',by simpa using q2⟩
    .cases q2
   .cases q
 .have e:exs=[]:=by simpa using h
  subst e;exact⟨hg,λc hc=>absurd hc (by simp),λc c' hc=>absurd hc (by simp)⟩
structure Good(cx:Cxt)(k:Nat)(X:Cx)(sc:Scope):Prop where
 calm:X.calm=true
 room:Room k X.A
 sce:X.env.scope=sc
 kind:sc.kind=.function
 nd:X.N.Nodup
 cst:∀x d,cx.cst.lookup x=some d->∃v u,(∀H,Rep X.K H d v)/\X.mg x=some u/\RelV v u
 blt:∀x b,cx.blt.lookup x=some b->X.mg x=none/\x=Str.ofString b
 exs:XText X.K X.mg cx.exs cx.top
 fns:∀f,cx.fns.contains f=true->(f==("__debug__":Str))=false/\∃a fd ps,(∀ds d,cx.call f ds=some d->ds.length=ps.length)/\(∀ds c,cx.callx f ds=some c->ds.length=ps.length)/\X.mg f=some (.ref a)/\W.keepIn X.K (.ref a)=true/\Binds X.K fd ps []/\FnOk X.prog X.w X.K X.mg X.base (CX1 X.prog X.w) k a fd ps (spX X.K cx.call cx.callx f ps)
 kw:KnW X.K X.w
section
variable{X:Cx}{ρ:Rho}{cx:Cxt}{k:Nat}{sc:Scope}
theorem eX:∀{ρ:Rho}{x:Str}{s:Sl},ρ.lookup x=some s->∃i:Nat,ρ[i]?=some (x,s)/\(ρ.map (·.1)).idxOf? x=some i
 |(y,t)::r,x,s,h=>by
  rw[K3z] at h
  cases hb:x==y with
  |true =>
   rw[hb] at h;cases h
   have:x=y:=by simpa using hb
   subst this;exact⟨0,rfl,by simp[List.idxOf?,List.findIdx?_cons]⟩
  |false =>
   rw[hb] at h;obtain⟨i,h1,h2⟩:=eX h;refine⟨i+1,by simpa using h1,?_⟩
   have hy:(y==x)=false:=by
    rw[Q1z] at hb ⊢;exact λe=>hb e.symm
   simp only[O5z,List.idxOf?,List.findIdx?_cons,hy];simp only[List.idxOf?] at h2;rw[h2];rfl
theorem Lx(hN:X.N=ρ.map (·.1))(hv:Vis X.env.scope x)(hp:aZ x=true)(h:ρ.lookup x=some (.sh d)):Ev X ρ (.Name x pos) d:=by
 intro σ H Hs Q hs hr hq;obtain⟨i,h1,_⟩:=eX h;obtain⟨v,e1,e2⟩:=hr i x d h1;unfold aZ at hp;rw[J3z,X6z,X6z] at hp;refine PE.sem (pX (by rw[hN,List.getElem?_map,h1];rfl) hv (by simpa using hp.1) (by simpa using hp.2)) ⟨v,e1,hq v H Hs (.refl hs) e2⟩
theorem Rp(hg:Gl X x)(hd:∀H,Rep X.K H d v)(hm:X.mg x=some u)(r:RelV v u)(hp:aZ x=true):Ev X ρ (.Name x pos) d:=by
 intro σ H Hs Q hs hr hq;unfold aZ at hp;rw[J3z,X6z,X6z] at hp;exact PE.sem (J7 hg hm r (by simpa using hp.1)) (hq _ H Hs (.refl hs) (hd Hs))
theorem Gj(h:(match c with|.none=>some D.non|.bool b=>some (.bl b)|.int i=>some (.int i)|.str x=>some (.str x)|_=>none)=some d):Ev X ρ (.Constant c j pos) d:=by
 intro σ H Hs Q hs hr hq
 cases c<;>simp at h<;>subst h
 .exact PE.sem HD (hq _ H Hs (.refl hs) (by simp[Rep]))
 .exact PE.sem Uy (hq _ H Hs (.refl hs) (by simp[Rep]))
 .exact PE.sem mJ (hq _ H Hs (.refl hs) (by simp[Rep]))
 .exact PE.sem j9 (hq _ H Hs (.refl hs) (by simp[Rep]))
theorem eZ(ha:Ev X ρ a x)(hb:Ev X ρ b y)(hp:PE X e (tOp r (jx X a) (jx X b)))
  (hr:∀u v H Hs Q,Same Hs H->Rep X.K Hs x u->Rep X.K Hs y v->(∀w H' Hs',Ext Hs H Hs' H'->Rep X.K Hs' d w->Q w H')->r u v H Q):Ev X ρ e d:=by
 intro σ H Hs Q hs hst hq;exact hp.sem (ha σ H Hs _ hs hst λu H1 Hs1 E1 r1=>hb σ H1 Hs1 _ E1.sub (hst.same E1.vis) λv H2 Hs2 E2 r2=>(hr u v H2 Hs2 Q E2.sub (Rep.same E2.vis x u r1) r2 λw H' Hs' E3 r3=>hq w H' Hs' (E1.trans (E2.trans E3)) r3))
theorem nG(h:small i=true):-(2^64)<i/\i<2^64:=by
 unfold small at h;rw[J3z,W2z,W2z] at h;exact h
theorem fU(h:szl n=true):n<=sizeLine:=by
 unfold szl at h;rw[W2z] at h;exact B6z h (by decide)
theorem yQ(h:szl n=true):n<sizeLine:=by
 unfold szl at h;rw[W2z] at h;exact C2z h (by decide)
theorem cX{K:Zf}{H:Hp}{i:Str}{v:V}(h:Rep K H (.str i) v):v=.str i:=by simpa[Rep] using h
theorem aO{K:Zf}(h:Rep K H (.int i) v):v=.int i:=by simpa[Rep] using h
theorem bY{K:Zf}(h:Rep K H (.bl i) v):v=.bl i:=by simpa[Rep] using h
theorem bU{K:Zf}(h:Rep K H (.tup ds) v):∃a vs,v=.ref a/\SqT K H a vs/\aJ K H ds vs:=by simpa[Rep] using h
theorem cu{K:Zf}(h:Rep K H (.lst ds) v):∃a vs,v=.ref a/\SqL K H a vs/\aJ K H ds vs:=by simpa[Rep] using h
theorem fZ{Q:VK}(hs:Same Hs H)(hr:aJ X.K Hs ds vs)(hp:H p=none)(hq:∀w H' Hs',Ext Hs H Hs' H'->Rep X.K Hs' (.tup ds) w->Q w H'):Q (.ref p) (upd H p (.tup vs)) :=
 hq _ _ _ (Ext.new hs (.tup vs) hp) (by simp only[Rep];exact⟨p,vs,rfl,.of aA,aJ.same (Ext.new hs (.tup vs) hp).vis ds vs hr⟩)
theorem nW{Q:VK}(hs:Same Hs H)(hr:aJ X.K Hs ds vs)(hp:H p=none)(hq:∀w H' Hs',Ext Hs H Hs' H'->Rep X.K Hs' (.lst ds) w->Q w H'):Q (.ref p) (upd H p (.lst vs)) :=
 hq _ _ _ (Ext.new hs (.lst vs) hp) (by simp only[Rep];exact⟨p,vs,rfl,.of aA,aJ.same (Ext.new hs (.lst vs) hp).vis ds vs hr⟩)
def Uu(K:Zf):R2:=λx y H Q=>∃a b xs ys,x=.ref a/\y=.ref b/\SqT K H a xs/\SqT K H b ys/\xs.length+ys.length<=sizeLine /\
 (xs=[]->Q (.ref b) H)/\(xs≠[]->ys=[]->Q (.ref a) H)/\(xs≠[]->ys≠[]->∀p,H p=none->Q (.ref p) (upd H p (.tup (xs++ys))))
theorem Kh:OpR X (binaryOp .Add) (Uu X.K):=by
 intro z0 s σ H x y v u Q I rx ry h;obtain⟨a,b,xs,ys,rfl,rfl,ha,hb,hz,q0,q1,q2⟩:=h
 by_cases hx:xs=[]
 .subst hx
  cases rx;cases ry;obtain⟨its,r1,p1,_⟩:=I.tuple ha;obtain⟨its2,r2,p2,_⟩:=I.tuple hb;have e0:=r1.nil_iff.mpr rfl;subst e0;obtain⟨⟨c,dd,data,sl⟩,ho,hc,n,hd⟩:=id p1;obtain⟨⟨c2,dd2,data2,sl2⟩,ho2,hc2,n2,hd2⟩:=id p2;subst hc hd hc2 hd2;exact concat_meets ⟨_,ho,rfl⟩ ⟨_,ho2,rfl⟩ noFill_tuple_add seq_tuple_add P0z J0z (D0z _ _) (tuple_addW0 a b _ its2.toArray n n2 dd dd2 sl sl2 rfl) ⟨ho,ho2,.ref b,H,I,rfl,q0 rfl⟩
 .exact Kg z0 s σ H (.ref a) (.ref b) v u Q I rx ry ⟨a,b,xs,ys,rfl,rfl,ha,hb,hx,hz,q1 hx,q2 hx⟩
def Um(K:Zf):R2:=λx y H Q=>∃a v k,x=.ref a/\y=.int k/\SqT K H a [v]/\0<=k/\k<=5/\(k=1->Q (.ref a) H)/\(k≠1->∀p,H p=none->Q (.ref p) (upd H p (.tup (List.replicate k.toNat v))))
theorem Kc:OpR X (binaryOp .Mult) (Um X.K):=by
 intro z0 s σ H x y v u Q I rx ry h;obtain⟨a,w,k,rfl,rfl,ha,k1,k4,q1,q2⟩:=h;cases (show v=Value.ref a from rx);obtain⟨t,e⟩:=(show ∃t,u=Value.int k t from ry);subst e;obtain⟨its,r1,p1,_⟩:=I.tuple ha;obtain⟨u0,rfl,ru⟩:=vals1 r1;obtain⟨⟨c,dd,data,sl⟩,ho,hc,n,hd⟩:=id p1;simp only at hc hd;subst hc hd
 have new:∀(vs:List V)(us:List Value),Vals vs us->vs.length<=5->(∀p,H p=none->Q (.ref p) (upd H p (.tup vs)))->EP X z0 σ Q (Value.ref s.heap.objs.size) {s with heap:=s.heap.push {cls:=Value.type "tuple",data:=Data.seq us.toArray},toks:=s.toks}:=λvs us r hl q =>
  ⟨.ref s.heap.objs.size,_,I.laid (t':=s.toks) (o:=.tup vs) (λb ob q=>Heap.get?_push_of_some _ q) (I6z _) ⟨B6z hl (by decide),us,r,Z6z _ _⟩,rfl,q _ (I.hok.fresh (I6z _))⟩
 refine wpAny_binaryOp_repeat_ref (T:="tuple") (U:="int") (by decide) ⟨_,ho,rfl⟩ (λs'=>typeIs_int s' k t) fL PySem.F.fills_int_mul A1z jA PySem.F.slot_int_index.lookup
  (V6z A1z (typeIs_int s k t) PySem.F.entry_int_rmul (PySem.F.args_int_rmul_2 _ _) (ig k t a _ n dd sl) ⟨ho,rfl,⟨_,ho,rfl⟩,?_⟩)
 have hk:k=0\/k=1\/k=2\/k=3\/k=4\/k=5:=by omega
 rcases hk with rfl|rfl|rfl|rfl|rfl|rfl
 .exact V6z T0z ⟨_,ho,rfl⟩ K0z (G0z _ _) (wN a u0 n dd sl t) ⟨ho,new [] [] .nil (by simp) (q2 (by decide))⟩
 .exact V6z T0z ⟨_,ho,rfl⟩ K0z (G0z _ _) (wM a _ n dd sl t) ⟨ho,.ref a,H,I,rfl,q1 rfl⟩
 .exact V6z T0z ⟨_,ho,rfl⟩ K0z (G0z _ _) (wL a u0 n dd sl t) ⟨ho,new [w,w] [u0,u0] (.cons ru (.cons ru .nil)) (by simp) (q2 (by decide))⟩
 .exact V6z T0z ⟨_,ho,rfl⟩ K0z (G0z _ _) (wK a u0 n dd sl t) ⟨ho,new [w,w,w] [u0,u0,u0] (.cons ru (.cons ru (.cons ru .nil))) (by simp) (q2 (by decide))⟩
 .exact V6z T0z ⟨_,ho,rfl⟩ K0z (G0z _ _) (wJ a u0 n dd sl t) ⟨ho,new [w,w,w,w] [u0,u0,u0,u0] (.cons ru (.cons ru (.cons ru (.cons ru .nil)))) (by simp) (q2 (by decide))⟩
 .exact V6z T0z ⟨_,ho,rfl⟩ K0z (G0z _ _) (wI a u0 n dd sl t) ⟨ho,new [w,w,w,w,w] [u0,u0,u0,u0,u0] (.cons ru (.cons ru (.cons ru (.cons ru (.cons ru .nil))))) (by simp) (q2 (by decide))⟩
theorem uJ{K:Zf}{H:Hp}{d:D}{v:V}(h:Rep K H d v):∀n:Nat,aJ K H (List.replicate n d) (List.replicate n v)
 |0=>.nil
 |n+1=>.cons h (uJ h n)
theorem rH(l:Addr)(x y:Value)(n:Nat)(dd:Option Addr)(sl:Array (Option Value))(t:Tok) :
  Meets (Builtin.«tuple.__mul__» ⟨[.ref l,.int 2 t],[]⟩) (λ_ R s=>s.heap.get? l=some {cls:=.type "tuple",dict:=dd,data:=.seq #[x,y] n,slots:=sl}/\R (.ok (.ret (Value.ref s.heap.objs.size))) {s with heap:=s.heap.push {cls:=Value.type "tuple",data:=Data.seq #[x,y,x,y]},toks:=s.toks}) :=
 .of_wp λprog w A R s h=>by obtain⟨hp,g,d,tk,os⟩:=s;obtain⟨hl,h⟩:=h;have f1:=Q3z;have f2:=E0z;wp_walk using I4z hl;exact⟨_,rfl,h⟩
def Uo(K:Zf):R2:=λx y H Q=>∃(a:Addr)(v w:V),x=.ref a/\y=.int 2/\SqT K H a [v,w]/\∀p,H p=none->Q (.ref p) (upd H p (.tup [v,w,v,w]))
theorem Kd:OpR X (binaryOp .Mult) (Uo X.K):=by
 intro z0 s σ H x y v u Q I rx ry h;obtain⟨a,w1,w2,rfl,rfl,ha,q⟩:=h;cases (show v=Value.ref a from rx);obtain⟨t,e⟩:=(show ∃t,u=Value.int 2 t from ry);subst e;obtain⟨its,r1,p1,_⟩:=I.tuple ha
 cases r1 with
 | @cons _ u1 _ _ h1 r1=>cases r1 with
  | @cons _ u2 _ _ h2 r1 =>
   cases r1;obtain⟨⟨c,dd,data,sl⟩,ho,hc,n,hd⟩:=id p1;simp only at hc hd;subst hc hd
   refine wpAny_binaryOp_repeat_ref (T:="tuple") (U:="int") (by decide) ⟨_,ho,rfl⟩ (λs'=>typeIs_int s' 2 t) fL PySem.F.fills_int_mul A1z jA PySem.F.slot_int_index.lookup
    (V6z A1z (typeIs_int s 2 t) PySem.F.entry_int_rmul (PySem.F.args_int_rmul_2 _ _) (ig 2 t a _ n dd sl) ⟨ho,rfl,⟨_,ho,rfl⟩,?_⟩)
   refine V6z T0z ⟨_,ho,rfl⟩ K0z (G0z _ _) (rH a u1 u2 n dd sl t) ⟨ho,?_⟩;exact⟨.ref s.heap.objs.size,_,I.laid (t':=s.toks) (o:=.tup [w1,w2,w1,w2]) (λb ob q=>Heap.get?_push_of_some _ q) (I6z _) ⟨by show 4<=sizeLine;decide,[u1,u2,u1,u2],.cons h1 (.cons h2 (.cons h1 (.cons h2 .nil))),Z6z _ _⟩,rfl,q _ (I.hok.fresh (I6z _))⟩
theorem Lw{a b:Expr}{xs:List D}{j:Int}{d:D}{pos:Pos}(ha:Ev X ρ a (.tup xs))(hb:Ev X ρ b (.int j))(h:NP xs j=some d):Ev X ρ (.BinOp a .Mult b pos) d:=by
 match xs,ha,h with
 |[],_,h=>exact absurd h (by simp[NP])
 |_::_::_::_,_,h=>exact absurd h (by simp[NP])
 |[x,y],ha,h =>
  simp only[NP] at h;split at h
  .rename_i hz
   cases h;have hz':=X2z hz;subst hz';refine eZ ha hb (kh Kd ak ak) λu v H Hs Q hs r1 r2 hq=>?_;obtain⟨p,us,rfl,h1,h2⟩:=bU r1;simp only[aJ] at h2;obtain⟨w1,r,rfl,hw1,w2,r',rfl,hw2,hr⟩:=h2;subst hr;exact⟨p,w1,w2,rfl,aO r2,hs.tup h1,λl hl=>fZ hs (.cons hw1 (.cons hw2 (.cons hw1 (.cons hw2 .nil)))) hl hq⟩
  .cases h
 |[x],ha,h =>
  simp only[NP] at h;split at h
  .rename_i hz
   rw[J3z,W2z,W2z] at hz;cases h;refine eZ ha hb (kh Kc ak ak) λu v H Hs Q hs r1 r2 hq=>?_;obtain⟨p,us,rfl,h1,h2⟩:=bU r1;simp only[aJ] at h2;obtain⟨w,r,rfl,hw,hr⟩:=h2;subst hr;refine⟨p,w,j,rfl,aO r2,hs.tup h1,hz.1,hz.2,λe=>?_,λ_ l hl=>fZ hs (uJ hw _) hl hq⟩;subst e;exact hq _ H Hs (.refl hs) r1
  .cases h
def RZ(i j:Int):Prop:=VP i j\/(i.natAbs.log2<10000/\j.natAbs.log2<10000)
theorem mid_ok(h:mid i=true):i.natAbs.log2<10000:=by unfold mid at h;simpa using h
theorem wj(h:i.natAbs.log2<10000):Builtin.Int.intBits i<=2^20:=by
 unfold Builtin.Int.intBits
 split<;>omega
theorem Ke:OpR X (binaryOp .Mult) (rI RZ λi j=>.int (i*j)):=opI λ_ _ _ _ _ _ _ hc q=>mul_int q (hc.elim (λz=>z.ok) λz=>.of_bits (wj z.1) (wj z.2))
theorem Gm{a b:Expr}{op:Operator}{x y d:D}{pos:Pos}(ha:Ev X ρ a x)(hb:Ev X ρ b y)(h:binop op x y=some d):Ev X ρ (.BinOp a op b pos) d:=by
 unfold binop at h;split at h
 .split at h
  .split at h
   .cases h
    exact eZ ha hb (kh Qw ak ak) λu v H Hs Q hs r1 r2 hq=>⟨_,_,aO r1,aO r2,hq _ H Hs (.refl hs) (by simp[Rep])⟩
   .cases h
  .split at h
   .split at h
    .rename_i hz
     cases h;refine eZ ha hb (kh Kh ak ak) λu v H Hs Q hs r1 r2 hq=>?_;obtain⟨p,us,rfl,h1,h2⟩:=bU r1;obtain⟨q,ws,rfl,h3,h4⟩:=bU r2;have l1:=h2.length;have l2:=h4.length
     have nil:∀(l:List D),l.length=0->l=[]:=λl hl=>by cases l<;>simp at hl ⊢
     refine⟨p,q,us,ws,rfl,rfl,hs.tup h1,hs.tup h3,by have:=fU hz;omega,λe=>?_,λ_ e=>?_,λ_ _ l hl=>fZ hs (h2.append h4) hl hq⟩
     .subst e
      have e2:=nil _ l1;subst e2;exact hq _ H Hs (.refl hs) r2
     .subst e
      have e2:=nil _ l2;subst e2;refine hq _ H Hs (.refl hs) ?_;rw[G4z];exact r1
    .cases h
   .cases h
  .split at h
   .split at h
    .rename_i hz
     cases h;exact eZ ha hb (kh mQ ak ak) λu v H Hs Q hs r1 r2 hq=>⟨_,_,cX r1,cX r2,fU hz,hq _ H Hs (.refl hs) (by simp[Rep])⟩
    .cases h
   .cases h
  .cases h
 .split at h
  .split at h
   .cases h
    exact eZ ha hb (kh Qs ak ak) λu v H Hs Q hs r1 r2 hq=>⟨_,_,aO r1,aO r2,hq _ H Hs (.refl hs) (by simp[Rep])⟩
   .cases h
  .cases h
 .split at h
  .split at h
   .split at h
    .rename_i hz
     cases h;rw[S4z,S4z,J3z] at hz;have hz':RZ _ _:=hz.elim (λz=>z.elim (λz=>.inl (.inl (nG z))) (λz=>.inl (.inr (nG z)))) (λz=>.inr ⟨mid_ok z.1,mid_ok z.2⟩);exact eZ ha hb (kh Ke ak ak) λu v H Hs Q hs r1 r2 hq=>⟨_,_,aO r1,aO r2,hz',hq _ H Hs (.refl hs) (by simp[Rep])⟩
    .cases h
   .cases h
  .split at h
   .exact Lw ha hb h
   .cases h
  .cases h
 .split at h
  .split at h
   .split at h
    .rename_i hz
     cases h;rw[J3z,W2z,W2z] at hz;exact eZ ha hb (kh Kf ak ak) λu v H Hs Q hs r1 r2 hq=>⟨_,_,aO r1,aO r2,hz,hq _ H Hs (.refl hs) (by simp[Rep])⟩
    .cases h
   .cases h
  .cases h
 .split at h
  .split at h
   .split at h
    .rename_i hz
     cases h;rw[W2z] at hz;exact eZ ha hb (kh Qu ak ak) λu v H Hs Q hs r1 r2 hq=>⟨_,_,aO r1,aO r2,hz,hq _ H Hs (.refl hs) (by simp[Rep])⟩
    .cases h
   .cases h
  .cases h
 .split at h
  .split at h
   .split at h
    .rename_i hz
     cases h;rw[J3z,J3z,W2z,W2z] at hz;have hs':=nG hz.2;exact eZ ha hb (kh Qt ak ak) λu v H Hs Q hs r1 r2 hq=>⟨_,_,aO r1,aO r2,⟨hz.1.1,hz.1.2,by have:=hs'.1;have:=hs'.2;omega⟩,hq _ H Hs (.refl hs) (by simp[Rep])⟩
    .cases h
   .cases h
  .cases h
 .cases h
end
end L2
namespace PySem
theorem gW:typeLookup (.type "list") "__getattr__"=pure none:=by rw[M4z,Y0z];rfl'
theorem qF:typeLookup (.type "list") "keys"=pure none:=am_miss_of_fast rfl
theorem Gz:entryFor table "list.__getattribute__"=some Builtin.«object.__getattribute__» :=
 F5z (id':="object.__getattribute__") rfl rfl (by decide +kernel) rfl
theorem Gy(u:Tok) :
  Meets (Builtin.«object.__getattribute__» ⟨[.ref a,.str "keys" u],[]⟩) (λA R s=>s.heap.get? a=some {cls:=.type "list",dict:=none,data:=.seq vs c,slots:=sl}/\raisesAttr (.ref a) "keys" A R s) :=
 Meets.of_wp λprog w A R s hs=>by
  obtain⟨hp,g,d,tk,os⟩:=s;obtain⟨ho,hs⟩:=hs;have hmiss:=qF
  repeat (any_goals (first|assumption|wp_step))
  exact wpAny_raiseAttrError hs.1 hs.2 (attrMsg_fits (by decide +kernel) (by decide))
theorem BK(ho:s.heap.get? a=some {cls:=.type "list",dict:=none,data:=.seq vs c,slots:=sl})(hA:A.handled=none)
  (h:∀h' tk,(∀b ob,s.heap.get? b=some ob->h'.get? b=some ob)->Q none {s with heap:=h',toks:=tk}) :
  wpAny (model prog w) A (getAttr? (.ref a) "keys") Q E s:=by
 obtain⟨hp,g,d,tk,os⟩:=s;have hT:∀(h':Heap) g d tk os,h'.get? a=some {cls:=.type "list",dict:=none,data:=.seq vs c,slots:=sl}->Shared.TypeIs ⟨h',g,d,tk,os⟩ (.ref a) "list":=λh' g d tk os e=>⟨_,e,rfl⟩;have f1:=sub_AttributeError;have f3:=F.slot_list_getattribute.lookup;have f4:=F.slot_list_getattribute.bind (.ref a);have f5:=gW
 repeat (any_goals (first|assumption|((with_reducible show wpAny _ _ (call (Value.builtin "list.__getattribute__") _ _) _ _ _);refine V6z F.slot_list_getattribute (hT _ _ _ _ _ ho) Gz (F.args_list_getattribute_2 _ _) (Gy _) ⟨ho,hA,λh' tk' e hx=>?_⟩)|wp_step))
 obtain⟨t',u',he⟩:=hx.there;unfold getattributeRaised
 repeat (any_goals (first|assumption|wp_step))
 exact h h' tk' hx.keeps
theorem vL:plainId "dict.update.loop"=true:=by decide +kernel
theorem qG:entryFor table "dict.update.loop"=some Builtin.«dict.update.loop» :=N3z rfl
def ni(h:Heap)(b:Addr)(u v:Value):Prop:=∃o m,h.get? b=some o/\o.cls=.type "tuple"/\o.data=.seq #[u,v] m
section
variable{prog:Program}{w:World}{A:Around}{E:Value->Shared->Prop}{s:Shared}
theorem Mu(h:ni s.heap b u v)(hq:Q [u,v] s):wpAny (model prog w) A (Builtin.Dict.pairItems (.ref b)) Q E s:=by
 obtain⟨o,m,h1,h2,h3⟩:=h;refine R6z (F6z ⟨o,h1,h2⟩ ?_);exact R6z (B5z h1 h3 (S6z hq))
end
section
variable{prog:Program}{w:World}{A:Around}{R:Result->Shared->Prop}{I:Addr}{fp wr:List Addr}{G:Array GenState->Array GenState->Prop}{n:Nat}{P:Nat->Value->Prop}{St:Nat->Shared->Prop}{K:Type}[DecidableEq K]{knd:KeyKind prog w K}
theorem Mv(W:WalksS prog w A.in1 I fp wr G n P St)(d:Addr)(hdf:d∉fp)(hN:∀b∈d::wr,N<=b){bs:Nat->Addr}{ks:Nat->K}{us ws:Nat->Value}(hval:∀i v,i<n->P i v->v=.ref (bs i))(hk:∀i,i<n->ni h0 (bs i) (us i) (ws i)/\knd.is (ks i) (us i)=true)(hlt:∀i,i<n->bs i<N) :
    ∀(k i:Nat)(s:Shared)(kvs:List (K×Value))(j:Int)(t:Tok), n - i=k->i<=n->St i s->(∀b o, b < N->h0.get? b=some o->s.heap.get? b=some o)->s.heap.DictOf knd d kvs->kvs.length + k<=sizeLine ->
      (∀s',Moved (d::wr) G s s'->s'.heap.DictOf knd d (merged kvs ((List.range' i k).map λj=>(ks j,ws j)))->R (.ok (.ret .none)) s') ->
      codeAny (model prog w) A (.builtin "dict.update.loop" ⟨[.ref d,.ref I,.int j t,.none],[]⟩) R s:=by
  have hdw:=λh=>hdf (W.sub _ h)
  have hsub:∀b∈wr,b∈d::wr:=λb hb=>E1z _ hb
  intro k
  induction k with
  |zero =>
    intro i s kvs j t hki hi hst hold hd hz hR
    have hin:i=n:=by omega
    subst hin
    refine O4z qG ?_
    refine R6z (W.done s _ _ hst λs' hm=>?_)
    refine S6z (hR s' (hm.mono hsub) ?_)
    obtain⟨o,es,ep,ho,r⟩:=hd
    exact⟨o,es,ep,hm.heap d _ hdw ho,r⟩
  |succ k ih =>
    intro i s kvs j t hki hi hst hold hd hz hR
    have hin:i<n:=by omega
    refine O4z qG ?_
    refine R6z (W.item i s _ _ hin hst λv s' hP hst' hm=>?_)
    obtain rfl:=hval i v hin hP
    have hd':s'.heap.DictOf knd d kvs:=by
      obtain⟨o,es,ep,ho,r⟩:=hd
      exact⟨o,es,ep,hm.heap d _ hdw ho,r⟩
    have hold':=λb o hb e=>hm.heap b o (λq=>absurd (hN b (hsub b q)) (Nat.not_le.mpr hb)) (hold b o hb e)
    obtain⟨⟨o,m,a1,a2,a3⟩,a4⟩:=hk i hin
    have hp:ni s'.heap (bs i) (us i) (ws i):=⟨o,m,hold' _ _ (hlt i hin) a1,a2,a3⟩
    refine R6z (N5z (R6z (H5z (Mu hp ?_))))
    refine N5z (wpAny_dictSet_pairs a4 hd' (λh' hd2 hs=>?_) (by omega))
    refine S6z ⟨R5z vL _,ih (i+1) _ (stored kvs (ks i) (ws i)) _ _ (by omega) hin (W.frame _ s' _ _ hst' (L6z _) λb hb o e=>?_) (λb o hb e=>?_) hd2 ?_ λs'' hm'' hd3=>?_⟩
    . rw[hs.2 b (λh:b=d=>hdf (by rw[<- h];exact hb))];exact e
    . rw[hs.2 b (λh:b=d=>absurd (hN d W1z) (by rw[<- h];exact Nat.not_le.mpr hb))]
      exact hold' b o hb e
    . have:(stored kvs (ks i) (ws i)).length<=kvs.length+1:=by
        unfold stored
        split<;>simp
      omega
    . refine hR s'' (Moved.trans W.gtrans ((hm.mono hsub).then_heap (L6z _) λb o hb e=>?_) hm'') ?_
      . rw[hs.2 b (λh:b=d=>hb (by rw[h];exact W1z))];exact e
      . exact hd3
end
section
variable{prog:Program}{w:World}{A:Around}{E:Value->Shared->Prop}{s:Shared}{K:Type}[DecidableEq K]{knd:KeyKind prog w K}
theorem BL{bs:Nat->Addr}{ks:Nat->K}{us ws:Nat->Value}(hh:A.handled=none)(ho:s.heap.get? l=some {cls:=.type "list",dict:=none,data:=.seq items c,slots:=sl})
  (hv:∀i v,i<items.size->items[i]?=some v->v=.ref (bs i)) (hk:∀i,i<items.size->ni s.heap (bs i) (us i) (ws i)/\knd.is (ks i) (us i)=true) (hz:items.size<=sizeLine)
  (h:∀h' tk,h'.DictOf knd s.heap.objs.size (merged [] ((List.range' 0 items.size).map λj=>(ks j,ws j)))->(∀b o,s.heap.get? b=some o->h'.get? b=some o)->Q (.ref s.heap.objs.size) {s with heap:=h',toks:=tk}) :
  wpAny (model prog w) A (call (.type "dict") [.ref l]) Q E s:=by
 refine callType_codes (Q₁:=λobj s₁=>obj=.ref s.heap.objs.size/\s₁={s with heap:=s.heap.push {cls:=.type "dict",data:=.dict #[]} }) F.kt_called_dict (F.kt_typeCall_dict_1 _) F.entry_dict_init (kt_code_dict_new _ ⟨rfl,rfl⟩) ?_;rintro obj s₁ ⟨rfl,rfl⟩;have hnew:(s.heap.push {cls:=.type "dict",data:=.dict #[]}).DictOf knd s.heap.objs.size []:=Heap.DictOf.new s.heap;have ho1:(s.heap.push {cls:=.type "dict",data:=.dict #[]}).get? l=some {cls:=.type "list",dict:=none,data:=.seq items c,slots:=sl}:=Heap.get?_push_of_some _ ho;have hlS:=Z5z ho;refine⟨hnew.typeIs,F.args_dict_init_2 _ _,?_⟩;refine R6z ?_;refine R6z (wpAny_notOrdered_dict hnew.typeIs ?_);refine S6z ?_;show wpAny _ _ (Builtin.Dict.updateFrom "dict.__init__" s.heap.objs.size (.ref l) [] .none) _ _ _;refine R6z (F6z ⟨_,ho1,rfl⟩ ?_);refine R6z (BK ho1 (by simp[hh]) λh1 tk1 keep=>?_);have ho2:=keep _ _ ho1;have hl2:h1.IsList l items:=⟨_,ho2,rfl,c,rfl⟩
 have hd2:h1.DictOf knd s.heap.objs.size []:=by
  obtain⟨o,es,ep,h3,r⟩:=hnew;exact⟨o,es,ep,keep _ _ h3,r⟩
 have hSz:s.heap.objs.size<h1.objs.size:=by
  obtain⟨o,es,ep,h3,r⟩:=hd2;exact Z5z h3
 refine R6z (T6z ?_);refine R6z (N2z hl2 ?_)
 have hSf:s.heap.objs.size∉[h1.objs.size,l]:=by
  simp only[V5z,R3z,D7z,not_or];exact⟨A6z hSz,D6z hlS⟩
 refine S6z ⟨R5z vL _,?_⟩
 refine Mv (knd:=knd) ((Walks.list (by simp[hh]) _ l (A6z (Z5z ho2)) items).toS) s.heap.objs.size hSf (N:=s.heap.objs.size) (λb hb=>?_) hv hk (λi hi=>?_) (items.size-0) 0 _ [] _ _ rfl (K6z _)
  ⟨⟨_,Heap.get?_push_size _ rfl,rfl,rfl⟩,hl2.push _⟩ (λb o hb e=>Heap.get?_push_of_some _ (keep _ _ (Heap.get?_push_of_some _ e))) (hd2.push _) (by simpa using hz) ?hR
 .obtain rfl|hb:=V5z.mp hb
  .exact I6z _
  .rw[List.mem_singleton.mp hb];exact C6z hSz
 .obtain⟨⟨o,_,e,_⟩,_⟩:=hk i hi
  exact Z5z e
 case hR =>
  intro s' hm hd3;obtain⟨h',g',d',tk',os'⟩:=s';have eg:=hm.gens;have ed:=hm.drawn;have eo:=hm.os;subst eg;subst ed;subst eo;refine⟨rfl,h h' tk' hd3 λb o e=>?_⟩;have hb:=Z5z e;have hb2:b≠h1.objs.size:=A6z (Nat.lt_trans hb hSz);exact hm.heap b o (by simp only[V5z,R3z,D7z,not_or];exact⟨(A6z hb),hb2⟩) (Heap.get?_push_of_some _ (keep _ _ (Heap.get?_push_of_some _ e)))
end
end PySem
namespace L2
open PySem PySem.Spec PyProof.Rows
def ud(K:Zf)(H:Hp):List V->List (Key×V)->Prop
 |[],kvs=>kvs=[]
 |x::r,kvs=>∃b k v q,x=.ref b/\kvs=(k,v)::q/\SqT K H b [kV k,v]/\ud K H r q
section
variable{X:Cx}{z0:List (Addr×Obj)}{σ:St}{H:Hp}{s:Shared}
abbrev DRow:=Addr×Value×Key×Value
theorem zX(I:Inv X z0 σ H s):∀{vs:List V}{its:List Value}{kvs:List (Key×V)},ud X.K H vs kvs->Vals vs its ->
  ∃rows:List DRow,KV kvs (rows.map λr=>(r.2.2.1,r.2.2.2))/\its=rows.map (λr=>Value.ref r.1)/\∀r∈rows,ni s.heap r.1 r.2.1 r.2.2.2/\(aX X.prog X.w).is r.2.2.1 r.2.1=true
 |[],_,_,h,.nil=>by
  cases h;exact⟨[],.nil,rfl,λr h=>by simp at h⟩
 |_::_,_,_,h,.cons r1 r2=>by
  obtain⟨b,k,v,q,rfl,rfl,h1,h2⟩:=h;obtain⟨rows,a1,a2,a3⟩:=zX I h2 r2;obtain⟨its',r',⟨o,e1,e2,n,e3⟩,_⟩:=I.tuple h1
  cases r' with
  |cons q1 q2 =>
  cases q2 with
  |cons q3 q4 =>
  cases q4;rename_i u w;refine⟨(b,u,k,w)::rows,.cons ⟨rfl,q3⟩ a1,?_,λr h=>?_⟩
  .congr 1
  .obtain rfl|h:=V5z.mp h
   .exact⟨⟨o,n,e1,e2,e3⟩,lX q1⟩
   .exact a3 r h
theorem yg(hc:X.calm=true):dz X (.type "dict") (λxs H Q=>∃(a:Addr)(vs:List V)(kvs:List (Key×V)),xs=[.ref a]/\SqL X.K H a vs/\ud X.K H vs kvs/\∀p ob,H p=none->Q (.ref p) (upd H p (.frz ob (.dK (dX [] kvs))))):=by
 intro z0 s σ H xs us Q I r h;obtain⟨a,vs,kvs,rfl,hl,hp,q⟩:=h
 obtain⟨u,rfl,rfl⟩:∃u,us=[u]/\u=Value.ref a:=by
  cases r with
  |cons r1 r2=>cases r2;exact⟨_,rfl,r1⟩
 obtain⟨its,r',⟨o,n,e1,e2,e3,e4⟩,z⟩:=I.list hl;obtain⟨oc,od,odt,osl⟩:=o;subst e2 e3 e4;obtain⟨rows,a1,a2,a3⟩:=zX I hp r'
 have hlen:its.length=rows.length:=by rw[a2,F4z]
 have hkl:kvs.length=rows.length:=by simpa using a1.length
 have d0:DRow:=(0,.none,.inl 0,.none)
 have hrow:∀i,i<its.toArray.size->∃rw,rows[i]?=some rw/\rows.getD i d0=rw/\rw∈rows:=λi hi=>by
  have hi':i<rows.length:=by rw[<- hlen];simpa using hi
  exact⟨rows[i],List.getElem?_eq_getElem hi',by simp[hi'],S3z hi'⟩
 have hn:=I.hok.fresh (I6z s.heap.objs.size);have rel:=a1.merge .nil
 have hz:(dX [] kvs).length<=sizeLine:=by
  have h1:=fC kvs [];rw[R4z] at h1;have:=r'.length;omega
 have hmap:(List.range' 0 its.toArray.size).map (λj=>((rows.getD j d0).2.2.1,(rows.getD j d0).2.2.2))=rows.map λr=>(r.2.2.1,r.2.2.2):=by
  apply P3z
  .simp[hlen]
  .intro i h1 h2
   simp[F4z] at h2;simp[h2]
 refine BL (knd:=aX X.prog X.w) (bs:=λi=>(rows.getD i d0).1) (ks:=λi=>(rows.getD i d0).2.2.1) (us:=λi=>(rows.getD i d0).2.1) (ws:=λi=>(rows.getD i d0).2.2.2) (I.ok.hd hc) e1 (λi v hi e=>?_) (λi hi=>?_) (by have:=r'.length;simpa using(by omega:its.length<=sizeLine)) λh' tk dd keep=>?_
 .obtain⟨rw',b1,b2,b3⟩:=hrow i hi
  rw[b2];rw[a2] at e;simp[b1] at e;exact e.symm
 .obtain⟨rw',b1,b2,b3⟩:=hrow i hi
  rw[b2];exact a3 rw' b3
 .rw[hmap] at dd
  obtain⟨ob,hob⟩:∃ob,h'.get? s.heap.objs.size=some ob:=let ⟨ob,_,_,e,_⟩:=dd;⟨ob,e⟩
  refine⟨.ref s.heap.objs.size,_,I.laid (o:=.frz ob (.dK (dX [] kvs))) keep (I6z _) ⟨hob,vM hz ?_ rel dd⟩,rfl,q _ ob hn⟩;exact beq_false_of_ne (D6z I.big)
end
end L2
namespace DE
open PySem
end DE
namespace L2
open PySem PySem.Spec PyProof.Rows DE PySem.SeqAt
theorem um{K:Zf}:∀{kvs:List (Key×V)}{ks:List Key}{ds:List D},kvs.map (·.1)=ks->aJ K H ds (kvs.map (·.2)) ->
  (nA ks ds k=none/\ju kvs k=none)\/∃d v,nA ks ds k=some d/\ju kvs k=some v/\Rep K H d v/\d∈ds
 |[],_,ds,rfl,h=>by
  cases ds with
  |nil=>exact .inl ⟨rfl,rfl⟩
  |cons d r=>simp[aJ] at h
 |(k',v)::r,_,ds,rfl,h=>by
  cases ds with
  |nil=>simp[aJ] at h
  |cons d ds =>
   obtain⟨v',q,e,h1,h2⟩:=h;cases e
   by_cases hk:k'=k
   .refine .inr ⟨d,v,?_,iG hk,h1,W1z ..⟩
    unfold nA;rw[O5z,I2z,List.find?_cons_of_pos (by simpa using hk)];rfl
   .rw[iH hk]
    have:nA (((k',v)::r).map (·.1)) (d::ds) k=nA (r.map (·.1)) ds k:=by
     unfold nA;rw[O5z,I2z,List.find?_cons_of_neg (by simpa using hk)]
    rw[this];rcases um rfl h2 with h3|⟨d',v',a1,a2,a3,a4⟩
    .exact .inl h3
    .exact .inr ⟨d',v',a1,a2,a3,E1z _ a4⟩
section
variable{X:Cx}{z0:List (Addr×Obj)}{σ:St}{H:Hp}{s:Shared}
end
end L2
namespace L2
open PySem PySem.Spec PyProof.Rows
def XR(P:Addr)(ps:Array Value):HO:=.ext λh=>h.get? P=some (W.tabObj ps)
section
variable{X:Cx}{z0:List (Addr×Obj)}{σ:St}{H:Hp}{s:Shared}
end
section
variable{X:Cx}{z0:List (Addr×Obj)}{σ:St}{H:Hp}{s:Shared}
def X6(c':Addr)(qual:Str):HO:=.ext λh=>h.CodeRec (.ref c') qual
end
section
variable{X:Cx}{z0:List (Addr×Obj)}{σ:St}{H:Hp}{s:Shared}
end
end L2
namespace DE
open PySem
theorem Bj:∀(l1:List Str),l1++a::l2∈ins a (l1++l2)
 |[]=>by cases l2<;>simp[ins]
 |b::r=>by
  simp only[T3z,ins,V5z,List.mem_map];exact .inr ⟨_,Bj r,rfl⟩
theorem pW:∀{l ks:List Str},l.Perm ks->l∈perms ks
 |l,[],h=>by rw[h.eq_nil];simp[perms]
 |l,a::r,h=>by
  obtain⟨l1,l2,rfl⟩:=List.append_of_mem (h.symm.subset (W1z ..));simp only[perms,List.mem_flatMap];exact⟨_,pW ((List.perm_cons a).mp (List.perm_middle.symm.trans h)),Bj l1⟩
theorem zq(h:Pb ks=some x)(hp:l.Perm ks)(hs:PyProof.Rows.sortedS l=true):l=x:=by
 unfold Pb at h;split at h
 .rename_i y e
  cases h;have:=List.mem_filter.mpr ⟨pW hp,hs⟩;rw[e] at this;simpa using this
 .cases h
end DE
namespace L2
open PySem PySem.Spec PyProof.Rows DE
section
variable{X:Cx}
theorem Qv(kw:KnW X.K X.w):OpR X (compareOp .In) (λu v H Q=>∃(a:Addr)(kvs:List (Key×V))(k:Key),u=kV k/\v=.ref a/\DAt X.K H a kvs/\Q (.bl (ju kvs k).isSome) H):=by
 intro z0 s σ H u v w z Q I ru rv h;obtain⟨a,kvs,k,rfl,rfl,hd,q⟩:=h;cases rv;obtain⟨hS,vs,rel,dd⟩:=vQ I kw hd;refine wpAny_in_of (lX ru) hS dd.mapOf ?_;rw[<- (rel.val k).isSome_eq];exact⟨.bl _,H,I.tok _,rfl,q⟩
theorem yF{K:Zf}(e:kvs.map (·.1)=ks)(h:aJ K H ds (kvs.map (·.2))):(ju kvs k).isSome=(nA ks ds k).isSome:=by
 rcases um e h with⟨h1,h2⟩|⟨d,v,h1,h2,_⟩<;>rw[h1,h2]<;>rfl
theorem sy{K:Zf}:∀{xs:List D}{vs:List V}{l:List (Sum Int Str×D)},mL xs=some l->aJ K H xs vs->∃kvs:List (Key×V),ud K H vs kvs/\kvs.map (·.1)=l.map (·.1)/\aJ K H (l.map (·.2)) (kvs.map (·.2))
 |[],vs,l,h,r=>by
  cases h;cases r;exact⟨[],rfl,rfl,rfl⟩
 |x::xs,vs,l,h,r=>by
  obtain⟨v,q,rfl,r1,r2⟩:=r;unfold mL at h;split at h
  .rename_i heq;cases heq
  .rename_i k d r' heq
   cases heq;obtain⟨l',h1,rfl⟩:=R0z.mp h;obtain⟨kvs,a1,a2,a3⟩:=sy h1 r2;obtain⟨b,ws,rfl,b1,b2⟩:=r1;obtain⟨w1,t1,rfl,c1,c2⟩:=b2;obtain⟨w2,t2,rfl,c3,c4⟩:=c2;cases c4;cases (show w1=.str k by simpa[Rep] using c1);exact⟨(.inr k,w2)::kvs,⟨b,.inr k,w2,kvs,rfl,rfl,b1,a1⟩,by simp[a2],⟨w2,_,rfl,c3,a3⟩⟩
  .cases h
theorem uI{K:Zf}(r:Rep K H d v):∀{l:List (Sum Int Str×D)}{kvs:List (Key×V)},kvs.map (·.1)=l.map (·.1)->aJ K H (l.map (·.2)) (kvs.map (·.2)) ->
  (kvs.map λkv=>if kv.1=k then(kv.1,v) else kv).map (·.1)=(l.map λq=>if q.1=k then(q.1,d) else q).map (·.1)/\aJ K H ((l.map λq=>if q.1=k then(q.1,d) else q).map (·.2)) ((kvs.map λkv=>if kv.1=k then(kv.1,v) else kv).map (·.2))
 |[],kvs,e,h=>by
  cases kvs with
  |nil=>exact⟨rfl,rfl⟩
  |cons _ _=>simp at e
 |(k1,d1)::l,kvs,e,h=>by
  cases kvs with
  |nil=>simp at e
  |cons q kvs =>
   obtain⟨k2,v2⟩:=q;simp[O5z,T4z] at e;obtain⟨rfl,e⟩:=e;obtain⟨v',t,e',h1,h2⟩:=h;cases e';obtain⟨a1,a2⟩:=uI r e h2;simp only[O5z]
   by_cases hk:k2=k
   .rw[G7z hk,G7z hk]
    exact⟨by rw[a1],⟨v,_,rfl,r,a2⟩⟩
   .rw[H7z hk,H7z hk]
    exact⟨by rw[a1],⟨v2,_,rfl,h1,a2⟩⟩
theorem JQ{K:Zf}(r:Rep K H d v)(e:kvs.map (·.1)=l.map (·.1))(h:aJ K H (l.map (·.2)) (kvs.map (·.2))):(putK kvs k v).map (·.1)=(putD l k d).map (·.1)/\aJ K H ((putD l k d).map (·.2)) ((putK kvs k v).map (·.2)):=by
 have key:(kvs.any λkv=>decide (kv.1=k))=l.any λq=>decide (q.1=k):=by
  have:(kvs.map (·.1)).any (λx=>decide (x=k))=(l.map (·.1)).any λx=>decide (x=k):=by rw[e]
  simpa[Function.comp_def] using this
 unfold putK putD;rw[key];split
 .exact uI r e h
 .refine⟨by simp[e],?_⟩
  rw[U4z,U4z];exact h.append ⟨v,[],rfl,r,rfl⟩
theorem kJ{K:Zf}:∀{l:List (Sum Int Str×D)}{kvs:List (Key×V)}{l0:List (Sum Int Str×D)}{kvs0:List (Key×V)},kvs.map (·.1)=l.map (·.1)->aJ K H (l.map (·.2)) (kvs.map (·.2))->kvs0.map (·.1)=l0.map (·.1)->aJ K H (l0.map (·.2)) (kvs0.map (·.2)) ->
  (dX kvs0 kvs).map (·.1)=(l.foldl (λa q=>putD a q.1 q.2) l0).map (·.1)/\aJ K H ((l.foldl (λa q=>putD a q.1 q.2) l0).map (·.2)) ((dX kvs0 kvs).map (·.2))
 |[],kvs,l0,kvs0,e,h,e0,h0=>by
  cases kvs with
  |nil=>exact⟨e0,h0⟩
  |cons _ _=>simp at e
 |(k1,d1)::l,kvs,l0,kvs0,e,h,e0,h0=>by
  cases kvs with
  |nil=>simp at e
  |cons q kvs =>
   obtain⟨k2,v2⟩:=q;simp[O5z,T4z] at e;obtain⟨rfl,e⟩:=e;obtain⟨v',t,e',h1,h2⟩:=h;cases e';obtain⟨a1,a2⟩:=JQ h1 e0 h0;exact kJ (l0:=putD l0 k2 d1) (kvs0:=putK kvs0 k2 v2) e h2 a1 a2
end
end L2
namespace L2
open PySem PySem.Spec PyProof.Rows
end L2
namespace L2
open PySem PySem.Spec PyProof.Rows DE PySem.SeqAt
section
variable{X:Cx}{ρ:Rho}{cx:Cxt}{k:Nat}{sc:Scope}
theorem aj(h:aG e=true):starEach (e::es) env=(false,eval e env)::starEach es env:=by
 cases e<;>first|rfl|(simp[aG] at h)
theorem nO(h:aG e=true):CW e:=by
 intro o i
 cases e<;>first|rfl|(simp[aG] at h)
theorem dW(h:aG e=true)(x:Value):foldedSetIterable e env x=pure x:=by
 cases e<;>first|rfl|(simp[aG] at h)
theorem dU(h:aG e=true):behindInMarks op e=false:=by
 cases e<;>first|rfl|(simp[aG] at h)
theorem fV:∀{es:List Expr},(∀e∈es,aG e=true)->(backTo pos (starEach es env)).any (·.1)=false
 |[],_=>rfl
 |e::es,h=>by
  rw[aj (h e W1z)];show((false:Bool)||(backTo pos (starEach es env)).any (·.1))=false;rw[(fV (env:=env) (pos:=pos) λe' he=>h e' (E1z _ he))];rfl
theorem aY:∀{n:Nat}{ρ:Rho}{e:Expr}{d:D},ev cx n sc ρ e=some d->aG e=true
 |0,_,_,_,h=>by simp[ev] at h
 |n+1,ρ,e,d,h=>by
  cases e<;>first|rfl|(exact nomatch h)
def Dv(X:Cx)(e:Expr):TT:=λσ H Q=>∀whole z0 s,Inv X z0 σ H s->wpAny (model X.prog X.w) X.A (isTrue e X.env whole) (TP X z0 σ Q) X.xe s
def EvW(X:Cx)(ρ:Rho)(e:Expr)(b:Bool):Prop:=∀σ H Hs Q,Same Hs H->cJ X.K Hs ρ σ->(∀H' Hs',Ext Hs H Hs' H'->Q b H')->Dv X e σ H Q
theorem iJ:PW X e (Dv X e):=λwhole z0 s σ H Q I h=>h whole z0 s I
theorem PW.sem(h:PW X e t)(q:t σ H Q):Dv X e σ H Q:=λwhole z0 s I=>h whole z0 s σ H Q I q
theorem EvW.t(h:EvW X ρ e b):EvT X ρ e b:=λσ H Hs Q hs hr hq z0 s I=>h σ H Hs Q hs hr hq _ z0 s I
theorem Ma(h:Ev X ρ e (.bl b))(he:∀whole,isTrue e X.env whole=(do let v <- whole;standAt e.pos;holding [v] (truthy v))):EvT X ρ e b:=λσ H Hs Q hs hr hq =>
 (mH ak he).sem (h σ H Hs _ hs hr λv H' Hs' E1 r1=>⟨b,bY r1,hq H' Hs' E1⟩)
theorem Rj(h:Ev X ρ a (.bl b)):Ev X ρ (.UnaryOp .Not a pos) (.bl (!b)):=λσ H Hs Q hs hr hq =>
 (Qk ak).sem (h σ H Hs _ hs hr λv H' Hs' E1 r1=>⟨b,bY r1,hq _ H' Hs' E1 (by simp[Rep])⟩)
theorem Mf(h:EvT X ρ a b):EvT X ρ (.UnaryOp .Not a pos) (!b):=λσ H Hs Q hs hr hq =>
 (zU cY).sem (h σ H Hs _ hs hr λH' Hs' E1=>hq H' Hs' E1)
theorem Rk(h:Ev X ρ a (.int i)):Ev X ρ (.UnaryOp .USub a pos) (.int (-i)):=λσ H Hs Q hs hr hq =>
 (Ux Ot ak).sem (h σ H Hs _ hs hr λv H' Hs' E1 r1=>⟨i,aO r1,hq _ H' Hs' E1 (by simp[Rep])⟩)
theorem qC:∀{es:List Expr}{d:D},(∀e∈es,∀d,f e=some d->Ev X ρ e d/\∀b,d=.bl b->EvT X ρ e b)->cU op f es=some d ->
  Ev X ρ (.BoolOp op es pos) d/\∀b,d=.bl b->EvW X ρ (.BoolOp op es pos) b
 |[],d,_,h=>by simp[cU] at h
 |[e],d,hf,h=>by
  obtain⟨h1,h2⟩:=hf e (by simp) d (by simpa[cU] using h);refine⟨λσ H Hs Q hs hr hq=>(HB ak).sem (h1 σ H Hs Q hs hr hq),λb hb σ H Hs Q hs hr hq=>?_⟩
  cases op with
  |And=>exact(zT cY).sem (h2 b hb σ H Hs Q hs hr hq)
  |Or=>exact(Hu cY).sem (h2 b hb σ H Hs Q hs hr hq)
 |e::e'::r,d,hf,h=>by
  simp[cU] at h
  cases he:f e with
  |none=>rw[he] at h;simp at h
  |some x =>
   rw[he] at h
   cases x with
   |bl c =>
    obtain⟨h1,h2⟩:=hf e (by simp) _ he;have h2':=h2 c rfl;simp[asB] at h;have ih:=λd' (q:cU op f (e'::r)=some d')=>qC (pos:=pos) (λa ha=>hf a (E1z _ ha)) q
    cases op with
    |And =>
     cases c with
     |true =>
      obtain⟨i1,i2⟩:=ih d h;exact⟨λσ H Hs Q hs hr hq=>(uT ak ak).sem (h1 σ H Hs _ hs hr λv H' Hs' E1 r1=>⟨true,bY r1,lY (i1 σ H' Hs' Q E1.sub (hr.same E1.vis) λw H2 Hs2 E2 r2=>hq w H2 Hs2 (E1.trans E2) r2)⟩),λb hb σ H Hs Q hs hr hq=>((uN cY iJ).sem (h2' σ H Hs _ hs hr λH' Hs' E1=>lY (i2 b hb σ H' Hs' Q E1.sub (hr.same E1.vis) λH2 Hs2 E2=>hq H2 Hs2 (E1.trans E2))))⟩
     |false =>
      simp[D2z,C7z,Y2z] at h;subst h;refine⟨λσ H Hs Q hs hr hq=>(uT ak ak).sem (h1 σ H Hs _ hs hr λv H' Hs' E1 r1=>⟨false,bY r1,mW (hq _ H' Hs' E1 (by simp[Rep]))⟩),λb hb σ H Hs Q hs hr hq=>?_⟩;cases hb;exact(uN cY iJ).sem (h2' σ H Hs _ hs hr λH' Hs' E1=>mW (hq H' Hs' E1))
    |Or =>
     cases c with
     |true =>
      simp[F7z,Y2z] at h;subst h;refine⟨λσ H Hs Q hs hr hq=>(Ej ak ak).sem (h1 σ H Hs _ hs hr λv H' Hs' E1 r1=>⟨true,bY r1,lY (hq _ H' Hs' E1 (by simp[Rep]))⟩),λb hb σ H Hs Q hs hr hq=>?_⟩;cases hb;exact(Eb cY iJ).sem (h2' σ H Hs _ hs hr λH' Hs' E1=>lY (hq H' Hs' E1))
     |false =>
      obtain⟨i1,i2⟩:=ih d h;exact⟨λσ H Hs Q hs hr hq=>(Ej ak ak).sem (h1 σ H Hs _ hs hr λv H' Hs' E1 r1=>⟨false,bY r1,mW (i1 σ H' Hs' Q E1.sub (hr.same E1.vis) λw H2 Hs2 E2 r2=>hq w H2 Hs2 (E1.trans E2) r2)⟩),λb hb σ H Hs Q hs hr hq=>((Eb cY iJ).sem (h2' σ H Hs _ hs hr λH' Hs' E1=>mW (i2 b hb σ H' Hs' Q E1.sub (hr.same E1.vis) λH2 Hs2 E2=>hq H2 Hs2 (E1.trans E2))))⟩
   |_=>simp[asB] at h
def Ss(X:Cx)(op:CmpOp):R2:=λu v H Q=>∃Hs x y d,Same Hs H/\Rep X.K Hs x u/\Rep X.K Hs y v/\cmpop op x y=some d/\∃b,d=.bl b/\Q (.bl b) H
theorem rW{K:Zf}(h:Rep K H .non v):v=.non:=by simpa[Rep] using h
theorem FJ{K:Zf}(h:Rep K H x v):Ra x=decide (v=V.non):=by
  cases x with
  |non=>rw[rW h];rfl
  |bl b=>rw[bY h];rfl
  |int b=>rw[aO h];rfl
  | str b => have e : v = .str b := by simpa [Rep] using h
             rw[e];rfl
  |tup b=>obtain⟨a,vs,e,_⟩:=bU h;rw[e];rfl
  |lst b=>obtain⟨a,vs,e,_⟩:=cu h;rw[e];rfl
  |exc c=>simp only[Rep] at h;obtain⟨a,C,e,_⟩:=h;rw[e];rfl
  |dic k x=>simp only[Rep] at h;obtain⟨a,C,e,_⟩:=h;rw[e];rfl
  | obj a => have e : v = .ref a := by simpa [Rep] using h
             rw[e];rfl
theorem jW{K:Zf}:∀{ds:List D}{ns:List Int}{vs:List V},lR ds=some ns->aJ K H ds vs->vs=ns.map V.int
 |[],ns,vs,h,r=>by
  simp[lR,Y2z] at h;subst h
  simpa[aJ] using r
 |.int i::ds,ns,vs,h,r=>by
  simp[lR,R0z] at h;obtain⟨ms,h1,rfl⟩:=h;obtain⟨v,r',rfl,h2,h3⟩:=r;rw[aO h2,jW h1 h3];rfl
 |.non::ds,ns,vs,h,r=>by simp[lR] at h
 |.bl _::ds,ns,vs,h,r=>by simp[lR] at h
 |.str _::ds,ns,vs,h,r=>by simp[lR] at h
 |.tup _::ds,ns,vs,h,r=>by simp[lR] at h
 |.lst _::ds,ns,vs,h,r=>by simp[lR] at h
 |.exc _::ds,ns,vs,h,r=>by simp[lR] at h
 |.dic _ _::ds,ns,vs,h,r=>by simp[lR] at h
 |.obj _::ds,ns,vs,h,r=>by simp[lR] at h
theorem jd{K:Zf}:∀{ds:List D}{ns:List Str}{vs:List V},m9 ds=some ns->aJ K H ds vs->vs=ns.map V.str
 |[],ns,vs,h,r=>by
  simp[m9,Y2z] at h;subst h
  simpa[aJ] using r
 |.str i::ds,ns,vs,h,r=>by
  obtain⟨ms,h1,rfl⟩:=R0z.mp h;obtain⟨v,rr,rfl,h2,h3⟩:=r
  have e:v=.str i:=by simpa[Rep] using h2
  rw[jd h1 h3,e];rfl
 |.non::ds,ns,vs,h,r=>by simp[m9] at h
 |.bl _::ds,ns,vs,h,r=>by simp[m9] at h
 |.int _::ds,ns,vs,h,r=>by simp[m9] at h
 |.tup _::ds,ns,vs,h,r=>by simp[m9] at h
 |.lst _::ds,ns,vs,h,r=>by simp[m9] at h
 |.exc _::ds,ns,vs,h,r=>by simp[m9] at h
 |.dic _ _::ds,ns,vs,h,r=>by simp[m9] at h
 |.obj _::ds,ns,vs,h,r=>by simp[m9] at h
theorem jB(hr:Room k X.A)(kw:KnW X.K X.w)(op:CmpOp):OpR X (compareOp op) (Ss X op):=by
 intro z0 s σ H u v w z Q I ru rv h;obtain⟨Hs,x,y,d,hs,rx,ry,hc,b,rfl,q⟩:=h;have rx':=Rep.same hs x u rx;have ry':=Rep.same hs y v ry;unfold cmpop at hc;split at hc
 .split at hc
  .rename_i hd
   rw[J3z,J3z,W2z,W2z] at hd;obtain⟨⟨hd1,hd2⟩,kk⟩:=hd;cases hc;exact(vX I X.A rx' ry' ru rv (by have:=hr.un;omega) (by omega) (by omega) kk).1 _ _ _ _ ⟨.bl _,H,I,rfl,q⟩
  .cases hc
 .split at hc
  .rename_i hd
   rw[J3z,J3z,W2z,W2z] at hd;obtain⟨⟨hd1,hd2⟩,kk⟩:=hd;cases hc;exact(vX I X.A rx' ry' ru rv (by have:=hr.un;omega) (by omega) (by omega) kk).2 _ _ _ _ ⟨.bl _,H,I,rfl,q⟩
  .cases hc
 .split at hc
  .split at hc
   .cases hc;exact Uz z0 s σ H u v w z Q I ru rv ⟨_,_,aO rx,aO ry,q⟩
   .cases hc
  .cases hc
 .split at hc
  .split at hc
   .cases hc;exact UG z0 s σ H u v w z Q I ru rv ⟨_,_,aO rx,aO ry,q⟩
   .cases hc
  .cases hc
 .split at hc
  .split at hc
   .cases hc;exact UJ z0 s σ H u v w z Q I ru rv ⟨_,_,aO rx,aO ry,q⟩
   .cases hc
  .cases hc
 .split at hc
  .split at hc
   .cases hc;exact UL z0 s σ H u v w z Q I ru rv ⟨_,_,aO rx,aO ry,q⟩
   .cases hc
  .cases hc
 .split at hc
  .split at hc
   .rename_i b _ a
    cases hc
    have ex:u=.str a:=by simpa[Rep] using rx
    have ey:v=.str b:=by simpa[Rep] using ry
    exact Ab z0 s σ H u v w z Q I ru rv ⟨_,_,ex,ey,q⟩
   .cases hc
  .split at hc
   .rename_i ks ds _ a
    cases hc
    have ex:u=.str a:=by simpa[Rep] using rx
    obtain⟨p,kvs,rfl,g1,g2,g3⟩:=ry';rw[<- yF g2 g3] at q;exact Qv kw z0 s σ H u _ w z Q I ru rv ⟨p,kvs,.inr a,ex,rfl,g1,q⟩
   .cases hc
  .cases hc
 .cases hc
theorem Ci(h:cmpop op x y=some d):∃b,d=.bl b:=by
 unfold cmpop at h
 repeat' split at h
 all_goals first|(cases h;exact⟨_,rfl⟩)|(obtain⟨_,_,rfl⟩:=R0z.mp h;exact⟨_,rfl⟩)|cases h
theorem LQ(hr:Room k X.A)(kw:KnW X.K X.w)(ha:Ev X ρ a x)(hb:Ev X ρ b y)(hm:aG b=true)(h:cmpop op x y=some d):Ev X ρ (.Compare a [op] [b] pos) d/\∀c,d=.bl c->EvT X ρ (.Compare a [op] [b] pos) c:=by
 obtain⟨c,rfl⟩:=Ci h;refine⟨eZ ha hb (sG (jB hr kw op) ak ak (dU hm)) λu v H Hs Q hs r1 r2 hq=>⟨Hs,x,y,_,hs,r1,r2,h,c,rfl,hq _ H Hs (.refl hs) (by simp[Rep])⟩,λc' hc' σ H Hs Q hs hst hq=>?_⟩;cases hc';exact(zV (jB hr kw op) ak ak (dU hm)).sem (ha σ H Hs _ hs hst λu H1 Hs1 E1 r1=>hb σ H1 Hs1 _ E1.sub (hst.same E1.vis) λv H2 Hs2 E2 r2=>⟨Hs2,x,y,_,E2.sub,Rep.same E2.vis x u r1,r2,h,c,rfl,c,rfl,hq H2 Hs2 (E1.trans E2)⟩)
theorem Ax(h:aG c=true):lastMarks [op,op'] [b,c]=false:=dU h
theorem Bu(hr:Room k X.A)(kw:KnW X.K X.w)(ha:Ev X ρ a x)(hb:Ev X ρ b y)(hm:aG e=true)(h:cmpop op x y=some (.bl c))(hd:(c=true->∃z,Ev X ρ e z/\cmpop op' y z=some d)/\(c=false->d=.bl false)) :
  Ev X ρ (.Compare a [op,op'] [b,e] pos) d/\∀c,d=.bl c->EvT X ρ (.Compare a [op,op'] [b,e] pos) c:=by
 have core:∀σ H Hs Q,Same Hs H->cJ X.K Hs ρ σ->(∀v H' Hs',Ext Hs H Hs' H'->Rep X.K Hs' d v->Q v H')->yP (Ss X op) (Ss X op') (jx X a) (jx X b) (jx X e) σ H Q:=by
  intro σ H Hs Q hs hst hq;refine ha σ H Hs _ hs hst λu H1 Hs1 E1 r1=>hb σ H1 Hs1 _ E1.sub (hst.same E1.vis) λv H2 Hs2 E2 r2=>?_;refine⟨Hs2,x,y,_,E2.sub,Rep.same E2.vis x u r1,r2,h,c,rfl,c,rfl,?_⟩
  cases c with
  |false=>rw[hd.2 rfl] at hq;exact mW (hq _ H2 Hs2 (E1.trans E2) (by simp[Rep]))
  |true =>
   obtain⟨z,hz,hc⟩:=hd.1 rfl;obtain⟨c',rfl⟩:=Ci hc;exact lY (hz σ H2 Hs2 _ E2.sub ((hst.same E1.vis).same E2.vis) λw H3 Hs3 E3 r3=>⟨Hs3,y,z,_,E3.sub,Rep.same E3.vis y v r2,r3,hc,c',rfl,hq _ H3 Hs3 (E1.trans (E2.trans E3)) (by simp[Rep])⟩)
 refine⟨λσ H Hs Q hs hst hq=>(Er (jB hr kw op) (jB hr kw op') ak ak ak (Ax hm)).sem (core σ H Hs Q hs hst hq),λc' hc' σ H Hs Q hs hst hq=>?_⟩;subst hc';exact(Ec (jB hr kw op) (jB hr kw op') ak ak ak (Ax hm)).sem (core σ H Hs _ hs hst λv H' Hs' E1 r1=>⟨c',bY r1,hq H' Hs' E1⟩)
theorem Ro(hc:EvT X ρ c t)(ha:t=true->Ev X ρ a d)(hb:t=false->Ev X ρ b d):Ev X ρ (.IfExp c a b pos) d:=λσ H Hs Q hs hst hq =>
 (Em cY ak ak).sem (hc σ H Hs _ hs hst λH1 Hs1 E1=>by
  cases t with
  |true=>exact lY (ha rfl σ H1 Hs1 Q E1.sub (hst.same E1.vis) λv H' Hs' E2 r=>hq v H' Hs' (E1.trans E2) r)
  | false=>exact mW (hb rfl σ H1 Hs1 Q E1.sub (hst.same E1.vis) λv H' Hs' E2 r=>hq v H' Hs' (E1.trans E2) r))
theorem Ii(hc:EvT X ρ c t)(ha:t=true->EvT X ρ a r)(hb:t=false->EvT X ρ b r):EvT X ρ (.IfExp c a b pos) r:=by
 intro σ H Hs Q hs hst hq z0 s I;refine isTrue_IfExp (thn (hc σ H Hs (λb' H'=>b'=t/\∃Hs',Ext Hs H Hs' H') hs hst (λH1 Hs1 E1=>⟨rfl,Hs1,E1⟩) z0 s I) λb' s2 ⟨H2,I2,e2,Hs2,E2⟩=>?_);subst e2
 cases b' with
 |true=>exact lY (ha rfl σ H2 Hs2 Q E2.sub (hst.same E2.vis) (λH' Hs' E3=>hq H' Hs' (E2.trans E3)) z0 s2 I2)
 |false=>exact mW (hb rfl σ H2 Hs2 Q E2.sub (hst.same E2.vis) (λH' Hs' E3=>hq H' Hs' (E2.trans E3)) z0 s2 I2)
theorem gb:∀{es:List Expr}{ds:List D},(∀e∈es,∀d,f e=some d->Ev X ρ e d/\aG e=true)->n6 f es=some ds->EvA X ρ es ds/\(∀e∈es,aG e=true)
 |[],ds,_,h=>by
  simp[n6,Y2z] at h;subst h;exact⟨λσ H Hs Q hs hst hq=>aK.sem (hq [] H Hs (.refl hs) .nil),λe he=>absurd he (by simp)⟩
 |e::es,ds,hf,h=>by
  simp[n6,bind,Option.bind] at h
  cases he:f e with
  |none=>rw[he] at h;cases h
  |some d =>
   rw[he] at h
   cases hr:n6 f es with
   |none=>rw[hr] at h;cases h
   |some dr =>
    rw[hr] at h;simp[Y2z] at h;subst h;obtain⟨h1,hp⟩:=hf e (by simp) d he;obtain⟨h2,hps⟩:=gb (λa ha=>hf a (E1z _ ha)) hr;refine⟨λσ H Hs Q hs hst hq=>(au ak cR (aj hp)).sem (h1 σ H Hs _ hs hst λv H1 Hs1 E1 r1=>h2 σ H1 Hs1 _ E1.sub (hst.same E1.vis) λvs H2 Hs2 E2 r2=>?_),λa ha=>?_⟩
    .exact hq _ H2 Hs2 (E1.trans E2) (.cons (Rep.same E2.vis d v r1) r2)
    .obtain rfl|ha:=V5z.mp ha
     .exact hp
     .exact hps a ha
theorem Ge(h:EvA X ρ es ds)(hz:szl ds.length=true):Ev X ρ (.Tuple es j pos) (.tup ds):=λσ H Hs Q hs hst hq =>
 (Hz cR).sem (h σ H Hs _ hs hst λvs H1 Hs1 E1 r1=>⟨by rw[<- r1.length];exact fU hz,λp hp=>fZ E1.sub r1 hp λw H' Hs' E2 r2=>hq w H' Hs' (E1.trans E2) r2⟩)
theorem Lz(h:EvA X ρ es ds)(hz:szl ds.length=true):Ev X ρ (.List es pos) (.lst ds):=λσ H Hs Q hs hst hq =>
 (pY cR).sem (h σ H Hs _ hs hst λvs H1 Hs1 E1 r1=>⟨by rw[<- r1.length];exact fU hz,λp hp=>nW E1.sub r1 hp λw H' Hs' E2 r2=>hq w H' Hs' (E1.trans E2) r2⟩)
theorem Q9(n:Nat)(i:Int):ixD n i=ixN n i:=rfl
theorem CJ{K:Zf}(h:aJ K H ds vs)(e:atD ds i=some d):∃v,atI vs i=some v/\Rep K H d v:=by
 unfold atD at e;rw[Q9,h.length] at e
 cases q:ixN vs.length i with
 |none=>rw[q] at e;cases e
 |some j =>
  rw[q] at e;obtain⟨v,h1,h2⟩:=h.get e;exact⟨v,by unfold atI;rw[q];exact h1,h2⟩
theorem JH{K:Zf}(h:Rep K H (.dic ks ds) v):∃(a:Addr)(kvs:List (Key×V)),v=.ref a/\DAt K H a kvs/\kvs.map (·.1)=ks/\aJ K H ds (kvs.map (·.2)):=by simpa[Rep] using h
theorem yE{K:Zf}{k:Key}:∀{kvs:List (Key×V)}{ds:List D},aJ K H ds (kvs.map (·.2))->nA (kvs.map (·.1)) ds k=some d->∃v,ju kvs k=some v/\Rep K H d v
 |[],ds,r,h=>by simp[nA] at h
 |(k',v')::kvs,ds,r,h=>by
  cases ds with
  |nil=>simp[nA] at h
  |cons d' ds =>
   obtain⟨v,rr,e,h2,h3⟩:=r;cases e;unfold nA at h;simp only[O5z,I2z,List.find?_cons] at h;unfold ju;rw[List.find?_cons]
   by_cases q:k'=k
   .simp only[q,decide_true] at h ⊢
    simp only[K4z,Y2z] at h ⊢;subst h;exact⟨v',rfl,h2⟩
   .simp only[q] at h ⊢
    exact yE h3 h
theorem K5{K:Zf}{k:Key}(h:Tc d=some k)(r:Rep K H d v):v=kV k:=by
 cases d<;>simp[Tc] at h
 .subst h;exact aO r
 .subst h
  rename_i x
  have e:v=.str x:=by simpa[Rep] using r
  exact e
theorem LC(kw:KnW X.K X.w)(ha:Ev X ρ a (.dic ks ds))(hb:Ev X ρ b y)(hp:aG b=true)(hk:Tc y=some k')(hd:nA ks ds k'=some d):Ev X ρ (.Subscript a b pos) d:=by
 intro σ H Hs Q hs hst hq;refine PE.sem (J6 kw ak ak λov iv=>nO hp ov iv) (ha σ H Hs _ hs hst λv H1 Hs1 E1 r1=>hb σ H1 Hs1 _ E1.sub (hst.same E1.vis) λu H2 Hs2 E2 r2=>?_);obtain⟨p,kvs,rfl,h1,rfl,h3⟩:=JH (Rep.same E2.vis _ v r1);obtain⟨w,h4,h5⟩:=yE h3 hd;exact⟨p,w,kvs,k',rfl,(λe r=>r.elim (λ⟨o,q⟩=>.inl ⟨o,e _ _ q⟩) .inr) E2.sub h1,K5 hk r2,h4.symm,hq w H2 Hs2 (E1.trans E2) h5⟩
theorem vH(ha:Ev X ρ a x)(hb:Ev X ρ b (.int i))(hp:aG b=true)(hx:items x=some xs)(hd:atD xs i=some d):Ev X ρ (.Subscript a b pos) d:=by
 cases x with
 |tup ys =>
  simp[items,Y2z] at hx;subst hx;refine eZ ha hb (z7 vB ak ak (nO hp)) λu v H Hs Q hs r1 r2 hq=>?_;obtain⟨p,vs,rfl,h1,h2⟩:=bU r1;obtain⟨w,h3,h4⟩:=CJ h2 hd;exact⟨p,vs,i,w,rfl,aO r2,hs.tup h1,h3,hq w H Hs (.refl hs) h4⟩
 |lst ys =>
  simp[items,Y2z] at hx;subst hx;refine eZ ha hb (z7 K6 ak ak (nO hp)) λu v H Hs Q hs r1 r2 hq=>?_;obtain⟨p,vs,rfl,h1,h2⟩:=cu r1;obtain⟨w,h3,h4⟩:=CJ h2 hd;exact⟨p,vs,i,w,rfl,aO r2,hs.seq h1,h3,hq w H Hs (.refl hs) h4⟩
 |_=>simp[items] at hx
theorem jl(n d:Nat)(o:Option Int):jL n d o=HT.sIx n d o:=by cases o<;>rfl
theorem MJ{K:Zf}{H:Hp}{ds:List D}{vs:List V}(lo hi:Option Int)(h:aJ K H ds vs):aJ K H (Ce ds lo hi) (N7 vs lo hi):=by
 unfold Ce N7;rw[jl,jl,h.length];exact(h.drop _).take _
def EvO(X:Cx)(ρ:Rho)(e:Option Expr)(o:Option Int):Prop:=∃t:TO,PO X e t/\∀σ H Hs Q,Same Hs H->cJ X.K Hs ρ σ->(∀H' Hs',Ext Hs H Hs' H'->Q o H')->t σ H Q
theorem Gq:EvO X ρ none none:=⟨_,JZ,λσ H Hs Q hs hst hq=>hq H Hs (.refl hs)⟩
theorem Gp{e:Expr}{i:Int}(h:Ev X ρ e (.int i)):EvO X ρ (some e) (some i):=⟨_,JX ak,λσ H Hs Q hs hst hq=>h σ H Hs _ hs hst λv H' Hs' E1 r1=>⟨i,aO r1,hq H' Hs' E1⟩⟩
theorem Gh{a:Expr}{lo hi:Option Expr}{l u:Option Int}{xs:List D}{p2 pos:Pos}(ha:Ev X ρ a (.tup xs))(hl:EvO X ρ lo l)(hu:EvO X ρ hi u)(hw:¬ (jL xs.length 0 l=0/\jL xs.length xs.length u=xs.length)) :
  Ev X ρ (.Subscript a (.Slice lo hi none p2) pos) (.tup (Ce xs l u)):=by
 obtain⟨tl,pl,ql⟩:=hl;obtain⟨tu,pu,qu⟩:=hu;intro σ H Hs Q hs hst hq;refine(uR Pq ak pl pu).sem (ha σ H Hs _ hs hst λv H1 Hs1 E1 r1=>ql σ H1 Hs1 _ E1.sub (hst.same E1.vis) λH2 Hs2 E2=>qu σ H2 Hs2 _ E2.sub ((hst.same E1.vis).same E2.vis) λH3 Hs3 E3=>?_);obtain⟨p,vs,rfl,h1,h2⟩:=bU (Rep.same (E2.trans E3).vis _ _ r1);refine⟨p,vs,rfl,E3.sub.tup h1,?_,λq hq'=>fZ E3.sub (MJ l u h2) hq' λw H' Hs' E4 r4=>hq w H' Hs' (E1.trans (E2.trans (E3.trans E4))) r4⟩;rw[jl,jl,h2.length] at hw;exact hw
theorem Bt{a:Expr}{lo hi:Option Expr}{l u:Option Int}{z:Str}{p2 pos:Pos}(ha:Ev X ρ a (.str z))(hz:szl z.length=true)(hl:EvO X ρ lo l)(hu:EvO X ρ hi u) :
  Ev X ρ (.Subscript a (.Slice lo hi none p2) pos) (.str (Dj z l u)):=by
 obtain⟨tl,pl,ql⟩:=hl;obtain⟨tu,pu,qu⟩:=hu
 have e:Dj z l u=cutX z l u:=by unfold Dj cutX;rw[jl,jl]
 rw[e];intro σ H Hs Q hs hst hq;refine(uR Pr ak pl pu).sem (ha σ H Hs _ hs hst λv H1 Hs1 E1 r1=>ql σ H1 Hs1 _ E1.sub (hst.same E1.vis) λH2 Hs2 E2=>qu σ H2 Hs2 _ E2.sub ((hst.same E1.vis).same E2.vis) λH3 Hs3 E3=>?_);exact⟨z,cX r1,fU hz,hq _ H3 Hs3 (E1.trans (E2.trans E3)) (by simp[Rep])⟩
theorem LR(G:Good cx k X sc)(hg:Gl X f)(hf:cx.fns.contains f=true)(hne:es≠[])(h:EvA X ρ es ds)(hp:∀e∈es,aG e=true)(hc:cx.call f ds=some d) :
  Ev X ρ (.Call (.Name f p) es [] pos) d:=by
 obtain⟨hdb,a,fd,ps,har,_,hm,hk,hb,F⟩:=G.fns f hf
 cases es with
 |nil=>exact absurd rfl hne
 |cons e es =>
  intro σ H Hs Q hs hst hq;refine(dw F G.room hg hm hk hb .nil iM cR hdb (aj (hp e (by simp))) (fV λe' he=>hp e' (E1z _ he))).sem (h σ H Hs _ hs hst λvs H1 Hs1 E1 r1=>?_);refine⟨?_,Hs1,ds,E1.sub,?_,.inl ⟨d,hc,λv H' Hs' E2 r2=>hq v H' Hs' (E1.trans E2) r2⟩⟩
  .rw[G4z,<- r1.length,har ds d hc]
  .rw[G4z];exact r1
theorem Gk{f:Str}{d:D}{p pos:Pos}(G:Good cx k X sc)(hg:Gl X f)(hf:cx.fns.contains f=true)(hc:cx.call f []=some d):Ev X ρ (.Call (.Name f p) [] [] pos) d:=by
 obtain⟨hdb,a,fd,ps,har,_,hm,hk,hb,F⟩:=G.fns f hf;intro σ H Hs Q hs hst hq;refine(Es F G.room hg hm hk hb .nil iM hdb).sem ⟨?_,Hs,[],hs,.nil,.inl ⟨d,hc,λv H' Hs' E2 r2=>hq v H' Hs' E2 r2⟩⟩;rw[<- har [] d hc];rfl
def Sq(X:Cx)(f:Value):List V->Hp->VK->Prop:=λvs H Q=>∀z0 s σ us,Inv X z0 σ H s->Vals vs us->wpAny (model X.prog X.w) X.A (call f us) (EP X z0 σ Q) X.xe s
theorem cI:dz X f (Sq X f):=λz0 s σ H xs us Q I r h=>h z0 s σ us I r
theorem dz.sem(h:dz X f r)(q:r vs H Q):Sq X f vs H Q:=λz0 s σ us I rv=>h z0 s σ H vs us Q I rv q
def EvC(X:Cx)(f:Value)(ds:List D)(d:D):Prop:=∀vs H Hs Q,Same Hs H->aJ X.K Hs ds vs->(∀v H' Hs',Ext Hs H Hs' H'->Rep X.K Hs' d v->Q v H')->Sq X f vs H Q
theorem repL1{K:Zf}(r:aJ K Hs [x] us):∃v,us=[v]/\Rep K Hs x v:=by
 obtain⟨v,q,rfl,r1,rfl⟩:=r;exact⟨v,rfl,r1⟩
theorem repL2{K:Zf}(r:aJ K Hs [x,y] us):∃v u,us=[v,u]/\Rep K Hs x v/\Rep K Hs y u:=by
 obtain⟨v,q,rfl,r1,u,q',rfl,r2,rfl⟩:=r;exact⟨v,u,rfl,r1,r2⟩
theorem zM{K:Zf}(h:Rep K H d v)(e:items d=some l):∃a vs,v=.ref a/\(SqL K H a vs\/SqT K H a vs)/\aJ K H l vs:=by
 cases d with
 |tup xs=>simp[items,Y2z] at e;subst e;obtain⟨a,vs,e1,e2,e3⟩:=bU h;exact⟨a,vs,e1,.inr e2,e3⟩
 |lst xs=>simp[items,Y2z] at e;subst e;obtain⟨a,vs,e1,e2,e3⟩:=cu h;exact⟨a,vs,e1,.inl e2,e3⟩
 |_=>simp[items] at e
theorem wB{K:Zf}:∀{ds:List D}{bs:List Bool}{vs:List V},rF ds=some bs->aJ K H ds vs->vs=bs.map V.bl
 |[],ns,vs,h,r=>by
  simp[rF,Y2z] at h;subst h
  simpa[aJ] using r
 |.bl i::ds,ns,vs,h,r=>by
  simp[rF,R0z] at h;obtain⟨ms,h1,rfl⟩:=h;obtain⟨v,r',rfl,h2,h3⟩:=r;rw[bY h2,wB h1 h3];rfl
 |.non::ds,ns,vs,h,r=>by simp[rF] at h
 |.int _::ds,ns,vs,h,r=>by simp[rF] at h
 |.str _::ds,ns,vs,h,r=>by simp[rF] at h
 |.tup _::ds,ns,vs,h,r=>by simp[rF] at h
 |.lst _::ds,ns,vs,h,r=>by simp[rF] at h
 |.exc _::ds,ns,vs,h,r=>by simp[rF] at h
 |.dic _ _::ds,ns,vs,h,r=>by simp[rF] at h
 |.obj _::ds,ns,vs,h,r=>by simp[rF] at h
theorem lQ:∀{bs:List Bool}{us:List Value},Vals (bs.map V.bl) us->LSm.BoolsAre us bs
 |[],us,r=>by rw[G6z] at r;cases r;exact .nil
 |b::bs,us,r=>by
  cases r with
  |cons r1 r2 =>
   cases r1;exact .cons b (lQ r2)
theorem Cq(hc:X.calm=true):dz X (.builtin "sum") (λxs H Q=>∃(p:Addr)(ns:List Int),xs=[.ref p]/\SqL X.K H p (ns.map V.int)/\Q (.int ns.sum) H):=by
 intro z0 s σ H xs us Q I r h;obtain⟨p,ns,rfl,hq,q⟩:=h;obtain⟨u,rfl,rx⟩:=vals1 r;cases rx;obtain⟨its,r',pl,hz⟩:=I.list hq;have hi:=intsAre_of r';obtain⟨zs,hx⟩:=hi.allInts.items;refine sum_intListG (I.ok.hd hc) (hx▸pl.isList) λh' tk t' hk=>⟨.int ns.sum,H,I.kept hk,⟨t',?_⟩,q⟩
 have e1:ns=zs.toList.map (·.1):=by
  rw[<- nums_intItems,<- hx];exact hi.numsOf.symm
 rw[preSum_eq,U0z (by simp),e1]
theorem Cv(hc:X.calm=true):dz X (.builtin "all") (λxs H Q=>∃(p:Addr)(bs:List Bool),xs=[.ref p]/\SqL X.K H p (bs.map V.bl)/\Q (.bl (bs.all id)) H):=by
 intro z0 s σ H xs us Q I r h;obtain⟨p,bs,rfl,hq,q⟩:=h;obtain⟨u,rfl,rx⟩:=vals1 r;cases rx;obtain⟨its,r',pl,hz⟩:=I.list hq;have hb:=lQ r';have hl:=pl.isList
 have hlt:p<s.heap.objs.size:=by obtain⟨_,e,_⟩:=hl;exact Z5z e
 refine call_all_walk (N2z hl ⟨s.heap.objs.size,[s.heap.objs.size,p],[s.heap.objs.size],its.toArray.size,_,_,λi=>(bs[i]?).getD true,rfl,Walks.list (A:=X.A.in1) (I.ok.hd hc) _ p (A6z hlt) its.toArray,⟨⟨_,Heap.get?_push_size _ rfl,rfl,rfl⟩,hl.push _⟩,λi v s' Q' E' hP hQ=>?_,λh' tk hk=>?_⟩)
 .obtain⟨b,e,rfl⟩:=hb.get i v (by simpa using hP)
  simp[e] at hQ;exact L2z hQ
 .have e:((List.range its.toArray.size).all λi=>(bs[i]?).getD true)=bs.all id:=by rw[P2z,hb.length];exact LSm.range_all bs
  rw[e];exact⟨.bl _,H,I.kept (LSm.kept_iter hk),rfl,q⟩
theorem Cp(hc:X.calm=true):dz X (.builtin "sum") (λxs H Q=>∃(p:Addr)(ns:List Int),xs=[.ref p]/\SqT X.K H p (ns.map V.int)/\Q (.int ns.sum) H):=by
 intro z0 s σ H xs us Q I r h;obtain⟨p,ns,rfl,hq,q⟩:=h;obtain⟨u,rfl,rx⟩:=vals1 r;cases (show u=Value.ref p from rx);obtain⟨its,r',pl,hz⟩:=I.tuple hq;have hi:=intsAre_of r';obtain⟨zs,hx⟩:=hi.allInts.items;have hl':s.heap.IsTuple p (intItems zs):=hx▸pl;have lt:p<s.heap.objs.size:=pl.lt;refine call_sum_walkG (Y1z hl' ⟨_,_,_,_,_,_,numAt zs,rfl,Walks.tuple (A:=X.A.in1) (I.ok.hd hc) _ p (A6z lt) (intItems zs),⟨⟨_,Heap.get?_push_size _ rfl,rfl,rfl⟩,by obtain⟨o,e,rr⟩:=hl';exact⟨o,Heap.get?_push_of_some _ e,rr⟩⟩,?_,(λ_ _=>intItems_at),λh' tk t' hk=>?_⟩)
 .intro b hb
  show b<(s.heap.push _).objs.size;rw[Z4z];simp at hb;rcases hb with rfl|rfl
  .exact F3z _
  .exact Q2z lt
 .have kp:∀b o,s.heap.get? b=some o->h'.get? b=some o:=λb o e=>hk b o (by simp;exact A6z (Z5z e)) (Heap.get?_push_of_some _ e)
  refine⟨.int ns.sum,H,I.kept kp,⟨t',?_⟩,q⟩
  have e1:ns=zs.toList.map (·.1):=by
   rw[<- nums_intItems,<- hx];exact(show numsOf its.toArray.toList=ns from hi.numsOf).symm
  have e2:(intItems zs).size=zs.size:=by simp[intItems]
  rw[e2,preSum_eq,U0z (by simp),e1]
theorem Lp(hl:items d0=some l):EvC X (.type "tuple") [d0] (.tup l):=by
 intro vs H Hs Q hs hr hq;obtain⟨v,rfl,r1⟩:=repL1 hr;refine dz.sem oU ?_
 cases d0 with
 |tup xs =>
  simp[items,Y2z] at hl;subst hl
  obtain⟨a,us,rfl,h1,h2⟩:=bU r1;exact⟨a,us,rfl,.inr ⟨hs.tup h1,hq _ H Hs (.refl hs) r1⟩⟩
 |lst xs =>
  simp[items,Y2z] at hl;subst hl
  obtain⟨a,us,rfl,h1,h2⟩:=cu r1;exact⟨a,us,rfl,.inl ⟨hs.seq h1,λp hp=>fZ hs h2 hp hq⟩⟩
 |_=>simp[items] at hl
def Ws:String->Value
 |"tuple"=>.type "tuple"
 |"list"=>.type "list"
 |"int"=>.type "int"
 |"dict"=>.type "dict"
 |"str"=>.type "str"
 |b=>.builtin b
theorem vI(hc:X.calm=true){xs:List D}{l:List (Sum Int Str×D)}(h:mL xs=some l):EvC X (.type "dict") [.lst xs] (BP (SN l)):=by
 intro vs H Hs Q hs hr hq
 obtain⟨v,rfl,a,us,rfl,h1,h2⟩:∃v,vs=[v]/\Rep X.K Hs (.lst xs) v:=by
  obtain⟨v,t,rfl,r1,r2⟩:=hr;cases (show t=[] from r2);exact⟨v,rfl,r1⟩
 obtain⟨kvs,p1,p2,p3⟩:=sy h h2;obtain⟨m1,m2⟩:=kJ (l0:=[]) (kvs0:=[]) p2 p3 rfl rfl;refine dz.sem (yg hc) ⟨a,us,kvs,rfl,hs.seq h1,prs_same hs p1,λp ob hp=>?_⟩;have E:=Ext.new hs (.frz ob (.dK (dX [] kvs))) hp;exact hq _ _ _ E ⟨p,_,rfl,.inl ⟨ob,aA⟩,m1,aJ.same E.vis _ _ m2⟩
where
 prs_same {K:Zf} {Hs H:Hp} (hs:Same Hs H):∀{vs:List V}{kvs:List (Key×V)},ud K Hs vs kvs->ud K H vs kvs
  |[],_,h=>h
  |_::_,_,h=>by
   obtain⟨b,k,v,q,e1,e2,e3,e4⟩:=h
   exact⟨b,k,v,q,e1,e2,hs.tup e3,prs_same hs e4⟩
theorem lB{c:Prop}[Decidable c]{a b:Option D}{d:D}(h:(if c then a else b)=some d):c/\a=some d\/¬c/\b=some d:=by
 by_cases hc:c
 .exact .inl ⟨hc,by rwa [G7z hc] at h⟩
 .exact .inr ⟨hc,by rwa [H7z hc] at h⟩
theorem Rq{b:String}{ds:List D}{d:D}(hc:X.calm=true)(kw:KnW X.K X.w)(h:DE.blt b ds=some d):EvC X (Ws b) ds d:=by
 intro vs H Hs Q hs hr hq;unfold DE.blt at h;split at h
 .have h0:=lB h
  clear h;rcases h0 with⟨hb,h⟩|⟨-,h⟩
  .subst hb
   split at h
   .split at h
    .rename_i x hz
     cases h;obtain⟨v,rfl,r1⟩:=repL1 hr
     have e:v=.str x:=by simpa[Rep] using r1
     subst e;exact dz.sem qU ⟨x,rfl,fU hz,hq _ H Hs (.refl hs) (by simp[Rep])⟩
    .cases h
   .simp only[bind,Option.bind] at h
    split at h
    .cases h
    .rename_i l hl
     cases h;obtain⟨v,rfl,r1⟩:=repL1 hr;obtain⟨a,us,rfl,h1,h2⟩:=zM r1 hl;refine dz.sem jF ⟨a,us,rfl,h1.imp hs.seq hs.tup,?_⟩;rw[<- h2.length];exact hq _ H Hs (.refl hs) (by simp[Rep])
  .have h0:=lB h
   clear h;rcases h0 with⟨hb,h⟩|⟨-,h⟩
   .subst hb
    split at h
    .simp only[bind,Option.bind] at h
     split at h
     .cases h
     .rename_i l hl
      cases h;obtain⟨v,rfl,r1⟩:=repL1 hr;obtain⟨a,us,rfl,h1,h2⟩:=cu r1;have e:=wB hl h2;subst e;exact dz.sem (Cv hc) ⟨a,_,rfl,hs.seq h1,hq _ H Hs (.refl hs) (by simp[Rep])⟩
    .cases h
   .have h0:=lB h
    clear h;rcases h0 with⟨hb,h⟩|⟨-,h⟩
    .subst hb
     split at h
     .simp only[bind,Option.bind] at h
      split at h
      .cases h
      .rename_i l hl
       cases h;obtain⟨v,rfl,r1⟩:=repL1 hr;obtain⟨a,us,rfl,h1,h2⟩:=cu r1;have e:=jW hl h2;subst e;exact dz.sem (Cq hc) ⟨a,_,rfl,hs.seq h1,hq _ H Hs (.refl hs) (by simp[Rep])⟩
     .simp only[bind,Option.bind] at h
      split at h
      .cases h
      .rename_i l hl
       cases h;obtain⟨v,rfl,r1⟩:=repL1 hr;obtain⟨a,us,rfl,h1,h2⟩:=bU r1;have e:=jW hl h2;subst e;exact dz.sem (Cp hc) ⟨a,_,rfl,hs.tup h1,hq _ H Hs (.refl hs) (by simp[Rep])⟩
     .cases h
    .have h0:=lB h
     clear h;rcases h0 with⟨hb,h⟩|⟨-,h⟩
     .subst hb
      simp only[bind,Option.bind] at h;split at h
      .cases h
      .rename_i l hl
       cases h;exact Lp hl vs H Hs Q hs hr hq
     .have h0:=lB h
      clear h;rcases h0 with⟨hb,h⟩|⟨-,h⟩
      .subst hb
       split at h
       .split at h
        .rename_i hz
         cases h;obtain⟨v,rfl,r1⟩:=repL1 hr;exact dz.sem qP ⟨_,by rw[aO r1],X2z hz,hq _ H Hs (.refl hs) (by simp[Rep])⟩
        .cases h
       .cases h
      .have h0:=lB h
       clear h;rcases h0 with⟨hb,h⟩|⟨-,h⟩
       .subst hb
        split at h
        .obtain⟨l,h1,rfl⟩:=R0z.mp h
         exact vI hc h1 vs H Hs Q hs hr hq
        .cases h
       .cases h
 .have h0:=lB h
  clear h;rcases h0 with⟨hb,h⟩|⟨-,h⟩
  .subst hb
   split at h
   .split at h
    .cases h
     obtain⟨v,w,rfl,r1,r2⟩:=repL2 hr;exact dz.sem (Cr hc) ⟨_,_,by rw[aO r1,aO r2],hq _ H Hs (.refl hs) (by simp[Rep])⟩
    .cases h
   .cases h
  .cases h
 .cases h
end
end L2
namespace L2
open PySem PySem.Spec PyProof.Rows PySem.SeqAt
def mxF(val:Nat->Int):Nat->Nat->Int->Int
 |_,0,b=>b
 |j,k+1,b=>mxF val (j+1) k (if val j>b then val j else b)
section
variable{prog:Program}{w:World}{A:Around}{I:Addr}{fp wr:List Addr}{n:Nat}{P:Nat->Value->Prop}{St:Nat->Heap->Prop}
theorem nZ:(toString "max"++toString ".loop":String)="max.loop":=by decide
theorem U8(W:Walks prog w A.in1 I fp wr n P St){val:Nat->Int}(hv:∀i v,P i v->∃t,v=.int (val i) t){S:Addr}(hS:S∉fp){kw:List (Str×Value)}{R:Result->Shared->Prop} :
  ∀(k j:Nat)(s:Shared)(b:Int)(t:Tok)(c:Nat),j+k=n->St j s.heap->s.heap.get? S=some {cls:=.type "list",dict:=none,data:=.seq #[.int b t,.int b t] c,slots := #[]} ->
  (∀t' h' tk,(∀x o,x∉wr->x≠S->s.heap.get? x=some o->h'.get? x=some o)->R (.ok (.ret (.int (mxF val j k b) t'))) {s with heap:=h',toks:=tk}) ->
  codeAny (model prog w) A (.builtin "max.loop" ⟨[.ref I,.none,.ref S],kw⟩) R s:=by
 have hw:S∉wr:=λh=>hS (W.sub _ h);intro k
 induction k with
 |zero =>
  intro j s b t c hj st hb hR;refine O4z F.entry_max_loop ?_;rw[J1z U3z _];refine(show wpAny _ A.in1 (seqItems? (.ref S) >>=_) _ _ s from R6z (B5z hb rfl ?_));refine(show wpAny _ A.in1 (tryCatch (pyNext (.ref I)) _ >>=_) _ _ s from R6z (H5z (W.done s _ _ ((show j=n from hj)▸st) λh1 tk kp=>?_)));have hb1:=kp S _ hw hb;refine(show wpAny _ A.in1 (updateSeq S (λ_ => #[]) >>=_) _ _ _ from R6z (Q4z hb1 rfl (R6z (O6z (S6z ?_)))));exact hR t _ tk λx o q1 q2 e=>(Heap.get?_update_other _ _ (E7z q2)).trans (kp x o q1 e)
 |succ k ih =>
  intro j s b t c hj st hb hR;refine O4z F.entry_max_loop ?_;rw[J1z U3z _];refine(show wpAny _ A.in1 (seqItems? (.ref S) >>=_) _ _ s from R6z (B5z hb rfl ?_));refine(show wpAny _ A.in1 (tryCatch (pyNext (.ref I)) _ >>=_) _ _ s from R6z (H5z (W.item j s _ _ (by omega) st λv h1 tk hP st1 kp=>?_)));have hb1:=kp S _ hw hb;have hcmp:CmpOf prog w A.in1 .Gt (λi v=>∃t,v=Value.int (if i=0 then val j else b) t) (λi k=>decide ((if i=0 then val j else b)>(if k=0 then val j else b))):=CmpOf.ints_gt (λi=>if i=0 then val j else b) λi v h=>h;obtain⟨t2,rfl⟩:=hv _ _ hP
  refine(show wpAny _ A.in1 (tryCatch (holding [.int (val j) t2,.int (val j) t2] (richCompare .Gt (.int (val j) t2) (.int b t) >>=_)) _ >>=_) _ _ _ from
   R6z (H5z (N5z (R6z (hcmp 0 1 _ _ _ _ _ ⟨t2,rfl⟩ ⟨t,rfl⟩ ?_)))))
  refine R6z (N5z (L2z (R6z (O6z (S6z ?_)))));simp only[F7z,Nat.one_ne_zero,C7z]
  by_cases q:val j>b
  .simp only[A5z q,F7z]
   refine R6z (Q4z hb1 rfl (R6z (O6z ?_)));rw[nZ];refine S6z ⟨R5z U3z _,ih (j+1) _ (val j) t2 _ (by omega) (W.frame _ _ _ st1 λx hx o e=>?_) (Heap.get?_update_self _ hb1 rfl) λt3 h3 tk3 kp3=>?_⟩
   .exact(Heap.get?_update_other _ _ (λz:S=x=>hS (by rw[z];exact hx))).trans e
   .have:=hR t3 h3 tk3 λx o q1 q2 e=>kp3 x o q1 q2 ((Heap.get?_update_other _ _ (E7z q2)).trans (kp x o q1 e))
    simp only[mxF,G7z q] at this;exact this
  .simp only[B4z q,D2z,C7z]
   refine R6z (O6z ?_);rw[nZ];refine S6z ⟨R5z U3z _,ih (j+1) _ b t _ (by omega) st1 hb1 λt3 h3 tk3 kp3=>?_⟩;have:=hR t3 h3 tk3 λx o q1 q2 e=>kp3 x o q1 q2 (kp x o q1 e);simp only[mxF,H7z q] at this;exact this
theorem QH{val:Nat->Int}:∀(l:List Int)(j:Nat)(b:Int),(∀i,i<l.length->val (j+i)=l.getD i 0)->mxF val j l.length b=DE.mxL l b
 |[],j,b,h=>rfl
 |x::r,j,b,h=>by
  have h0:val j=x:=by simpa using h 0 (by simp)
  show mxF val (j+1) r.length (if val j>b then val j else b)=_;rw[h0,QH r (j+1) _ λi hi=>by rw[show j+1+i=j+(i+1) by omega,h (i+1) (by simpa using hi)];simp];rfl
theorem Fj(W:Walks prog w A.in1 I fp wr n P St){val:Nat->Int}(hv:∀i v,P i v->∃t,v=.int (val i) t){S:Addr}(hS:S∉fp){dn:Str}{dv:Int}{dt:Tok}{R:Result->Shared->Prop}{s:Shared}{c:Nat}(st:St 0 s.heap)
  (hb:s.heap.get? S=some {cls:=.type "list",dict:=none,data:=.seq #[] c,slots := #[]})
  (hR:∀t' h' tk,(∀x o,x∉wr->x≠S->s.heap.get? x=some o->h'.get? x=some o)->R (.ok (.ret (.int (match n with|0=>dv|m+1=>mxF val 1 m (val 0)) t'))) {s with heap:=h',toks:=tk}) :
  codeAny (model prog w) A (.builtin "max.loop" ⟨[.ref I,.none,.ref S],[(dn,.int dv dt)]⟩) R s:=by
 have hw:S∉wr:=λh=>hS (W.sub _ h);refine O4z F.entry_max_loop ?_;rw[J1z U3z _];refine(show wpAny _ A.in1 (seqItems? (.ref S) >>=_) _ _ s from R6z (B5z hb rfl ?_))
 cases n with
 |zero =>
  refine(show wpAny _ A.in1 (tryCatch (pyNext (.ref I)) _ >>=_) _ _ s from R6z (H5z (W.done s _ _ st λh1 tk kp=>?_)));refine R6z (T6z (S6z ?_));exact hR dt h1 tk λx o q1 q2 e=>kp x o q1 e
 |succ m =>
  refine(show wpAny _ A.in1 (tryCatch (pyNext (.ref I)) _ >>=_) _ _ s from R6z (H5z (W.item 0 s _ _ (by omega) st λv h1 tk hP st1 kp=>?_)));have hb1:=kp S _ hw hb;obtain⟨t2,rfl⟩:=hv _ _ hP;refine(show wpAny _ A.in1 (updateSeq S (λ_ => #[.int (val 0) t2,.int (val 0) t2]) >>=_) _ _ _ from R6z (Q4z hb1 rfl ?_));rw[nZ];refine S6z ⟨R5z U3z _,U8 W hv hS m 1 _ (val 0) t2 _ (by omega) (W.frame _ _ _ st1 λx hx o e=>?_) (Heap.get?_update_self _ hb1 rfl) λt3 h3 tk3 kp3=>?_⟩
  .exact(Heap.get?_update_other _ _ (λz:S=x=>hS (by rw[z];exact hx))).trans e
  .exact hR t3 h3 tk3 λx o q1 q2 e=>kp3 x o q1 q2 ((Heap.get?_update_other _ _ (E7z q2)).trans (kp x o q1 e))
theorem Ak(v:Value):Builtin.Builtins.bindParams "max" ["key","default"] 0 ⟨[],[(("default":Str),v)]⟩=pure [none,some v]:=rfl
theorem KC(a v:Value):argsOk "max" ⟨[a],[(("default":Str),v)]⟩:=by unfold argsOk;rfl'
theorem Kz{E:Value->Shared->Prop}{s:Shared}{l:Addr}{xs:Array (Int×Tok)}{dv:Int}{dt:Tok}{Q:Value->Shared->Prop}(hh:A.handled=none)(hl:s.heap.IsList l (intItems xs))
  (h:∀t' h' tk,(∀b o,s.heap.get? b=some o->h'.get? b=some o)->Q (.int (match xs.size with|0=>dv|m+1=>mxF (numAt xs) 1 m (numAt xs 0)) t') {s with heap:=h',toks:=tk}) :
  wpAny (model prog w) A (call (.builtin "max") [.ref l] [(("default":Str),.int dv dt)]) Q E s:=by
 have hsz:(intItems xs).size=xs.size:=by simp[intItems]
 have key:wpAny (model prog w) A.in1 (Builtin.«max» ⟨[.ref l],[(("default":Str),.int dv dt)]⟩) (λfin s'=>match fin with
   |.done f=>(match (Except.ok f:Result) with|.ok (.ret v)=>Q v s'|.ok _=>False|.error e=>E e s')
   | .again c'=>c'.quiet=true/\codeAny (model prog w) A c' (λr s'=>match r with|.ok (.ret v)=>Q v s'|.ok _=>False|.error e=>E e s') s') E s:=by
  refine(show wpAny _ A.in1 (Builtin.Builtins.bindParams "max" ["key","default"] 0 ⟨[],[(("default":Str),.int dv dt)]⟩ >>=_) _ _ s from R6z (N6z (Ak _) (R6z (S6z (R6z ?_)))));refine iter_intList hl λs2 e st hfp hne=>?_;subst e;refine R6z (M2z ?_);rw[nZ];refine S6z ⟨R5z U3z _,Fj (Walks.list (A:=A.in1) hh _ l hne (intItems xs)) (val:=numAt xs) (λ_ _=>intItems_at) (λhm=>M5z _ (hfp _ hm)) ((Walks.list (A:=A.in1) (prog:=prog) (w:=w) hh _ l hne (intItems xs)).frame _ _ _ st λb _ o e=>Heap.get?_push_of_some _ e) (Heap.get?_push_size _ rfl) λt' h' tk kp=>?_⟩;rw[hsz];exact h t' h' tk (old_kept λb o hb e=>kp b o (by simpa using hb) (A6z (Z5z e)) (Heap.get?_push_of_some _ e))
 refine wpAny_call (K1z F.plain_max F.entry_max ?_);simp only[checkBuiltinCall,F.kind_max];have ha:=KC (.ref l) (.int dv dt)
 cases hsig:Manifest.signature? "max" with
 |none=>exact S6z key
 |some sig =>
  have h2:Bind.checkArgs "max" sig ⟨[.ref l],[(("default":Str),.int dv dt)]⟩=pure ():=by simpa only[argsOk,hsig] using ha
  simp only[h2];exact S6z key
end
end L2
namespace L2
open PySem PySem.Spec PyProof.Rows DE PySem.SeqAt
section
variable{X:Cx}{ρ:Rho}{cx:Cxt}{k:Nat}{sc:Scope}
theorem bZ(G:Good cx k X sc)(h:bw cx sc x=some b):Gl X x/\X.mg x=none/\x=Str.ofString b:=by
 unfold bw K9 at h;split at h
 .rename_i hg
  have e:sc.names.lookup x=some .globalImplicit:=by simpa using hg
  refine⟨?_,G.blt x b h⟩;show X.env.scope.names.lookup x=_;rw[G.sce,e]
 .cases h
theorem Cw{b:String}{ds:List D}{d:D}(h:DE.blt b ds=some d):b="len"\/b="all"\/b="sum"\/b="tuple"\/b="list"\/b="min"\/b="max"\/b="abs"\/b="int"\/b="any"\/b="dict"\/b="sorted"\/b="str":=by
 by_cases e:b="len"\/b="all"\/b="sum"\/b="tuple"\/b="list"\/b="min"\/b="max"\/b="abs"\/b="int"\/b="any"\/b="dict"\/b="sorted"\/b="str"
 .exact e
 .simp only[not_or] at e
  unfold DE.blt at h;split at h
  all_goals simp[e] at h
theorem Gn{x:Str}{b:String}{e:Expr}{es:List Expr}{ds:List D}{d:D}{p pos:Pos}(G:Good cx k X sc)(hx:bw cx sc x=some b)(h:EvA X ρ (e::es) ds)(hp:∀a∈e::es,aG a=true)(hd:DE.blt b ds=some d) :
  Ev X ρ (.Call (.Name x p) (e::es) [] pos) d:=by
 obtain⟨hg,hm,rfl⟩:=bZ G hx;have c:=Rq (X:=X) G.calm G.kw hd;have s1:=aj (env:=X.env) (es:=es) (hp e (by simp));have s2:=fV (env:=X.env) (pos:=pos) λa ha=>hp a (E1z _ ha)
 have fin:∀f:Value,Ws b=f->PE X (.Call (.Name (Str.ofString b) p) (e::es) [] pos) (tCB (Sq X f) (Dw X (e::es)))->Ev X ρ (.Call (.Name (Str.ofString b) p) (e::es) [] pos) d:=by
  intro f hf hpe σ H Hs Q hs hst hq;rw[hf] at c;refine hpe.sem (h σ H Hs _ hs hst λvs H1 Hs1 E1 r1=>?_);exact c vs H1 Hs1 Q E1.sub r1 λv H' Hs' E2 r2=>hq v H' Hs' (E1.trans E2) r2
 rcases Cw hd with rfl|rfl|rfl|rfl|rfl|rfl|rfl|rfl|rfl|rfl|rfl|rfl|rfl
 .exact fin (.builtin "len") rfl (c7 cI hg hm (by decide +kernel) cR (by decide) (by decide) s1 s2)
 .exact fin (.builtin "all") rfl (c7 cI hg hm (by decide +kernel) cR (by decide) (by decide) s1 s2)
 .exact fin (.builtin "sum") rfl (c7 cI hg hm (by decide +kernel) cR (by decide) (by decide) s1 s2)
 .exact fin (.type "tuple") rfl (eV cI hg hm (by decide +kernel) cR (by decide) (by decide) s1 s2)
 .exact fin (.type "list") rfl (eV cI hg hm (by decide +kernel) cR (by decide) (by decide) s1 s2)
 .exact fin (.builtin "min") rfl (c7 cI hg hm (by decide +kernel) cR (by decide) (by decide) s1 s2)
 .exact fin (.builtin "max") rfl (c7 cI hg hm (by decide +kernel) cR (by decide) (by decide) s1 s2)
 .exact fin (.builtin "abs") rfl (c7 cI hg hm (by decide +kernel) cR (by decide) (by decide) s1 s2)
 .exact fin (.type "int") rfl (eV cI hg hm (by decide +kernel) cR (by decide) (by decide) s1 s2)
 .exact fin (.builtin "any") rfl (c7 cI hg hm (by decide +kernel) cR (by decide) (by decide) s1 s2)
 .exact fin (.type "dict") rfl (eV cI hg hm (by decide +kernel) cR (by decide) (by decide) s1 s2)
 .exact fin (.builtin "sorted") rfl (c7 cI hg hm (by decide +kernel) cR (by decide) (by decide) s1 s2)
 .exact fin (.type "str") rfl (eV cI hg hm (by decide +kernel) cR (by decide) (by decide) s1 s2)
theorem qd{zs:Array (Int×Tok)}{i:Nat}:numAt zs i=(zs.toList.map (·.1)).getD i 0:=by
 unfold numAt;rw[List.getD_eq_getElem?_getD,List.getElem?_map,Array.getElem?_toList]
theorem J5{x:Str}{a:Expr}{t:TE}{c:Int}{p pos kp q:Pos}{n:Nat}(hc:X.calm=true)(hg:Gl X x)(hm:X.mg x=none)(hv:bootBuiltins x=some (.builtin "max"))(hn:x≠"__name__")(hdb:(x==("__debug__":Str))=false)(ha:PE X a t)
  (he:starEach [a] X.env=(false,eval a X.env)::starEach [] X.env) :
  PE X (.Call (.Name x p) [a] [⟨some "default",.Constant (.int c) n q,kp⟩] pos) (λσ H Q=>t σ H λv H1=>∃l ns,v=.ref l/\SqL X.K H1 l (ns.map V.int)/\Q (.int (mxD ns c)) H1):=by
 intro z0 s σ H Q I h;refine A2z (eG I hg hm hv ?_ hn hdb)
 have hbt:backTo pos (starEach [a] X.env)=(false,eval a X.env)::backTo pos (starEach [] X.env):=by rw[he];rfl
 refine PyProof.Rows.callWith_kw ?_ hbt (by rw[hbt];rfl) rfl rfl
 refine thn (au ha aK he pos z0 s σ H (λvs H1=>∃l ns,vs=[.ref l]/\SqL X.K H1 l (ns.map V.int)/\Q (.int (mxD ns c)) H1) I ?_) λus s1 ⟨vs,H1,I1,r1,q1⟩=>?_
 .refine(show t σ H _ from ?_)
  have e:(λ(v:V)(H1:Hp)=>∃l ns,v=.ref l/\SqL X.K H1 l (ns.map V.int)/\Q (.int (mxD ns c)) H1)=(λ(x:V)(H1:Hp)=>Je σ H1 λus H2=>∃l ns,x::us=[.ref l]/\SqL X.K H2 l (ns.map V.int)/\Q (.int (mxD ns c)) H2):=by
   funext v H1;simp only[Je,T4z,and_true]
  rw[<- e];exact h
 obtain⟨l,ns,hx,hq,q2⟩:=q1;subst hx;obtain⟨u,rfl,rx⟩:=vals1 r1;cases (show u=Value.ref l from rx);refine PyProof.Rows.kws_cons (thn (mJ z0 s1 σ H1 (λv H2=>v=.int c/\H2=H1) I1 ⟨rfl,rfl⟩) λu s2 ⟨v,H2,I2,r2,e1,e2⟩=>PyProof.Rows.kws_nil ?_);subst e1 e2;obtain⟨dt,rfl⟩:=(show ∃t,u=Value.int c t from r2);obtain⟨its,r',pl,hz⟩:=I2.list hq;have hi:=intsAre_of r';obtain⟨zs,hx⟩:=hi.allInts.items;have hl':s2.heap.IsList l (intItems zs):=hx▸pl.isList
 have e1:ns=zs.toList.map (·.1):=by
  rw[<- nums_intItems,<- hx];exact(show numsOf its.toArray.toList=ns from hi.numsOf).symm
 refine Kz (I2.ok.hd hc) hl' λt' h' tk hk=>⟨.int (mxD ns c),_,I2.kept hk,⟨t',?_⟩,q2⟩
 have hlen:zs.size=ns.length:=by rw[e1];simp
 rw[hlen];congr 1
 cases ns with
 |nil=>rfl
 |cons y r =>
  show mxF (numAt zs) 1 r.length (numAt zs 0)=mxL r y;rw[qd,<- e1,QH r 1 _ λi hi=>by rw[qd,<- e1,Nat.add_comm 1 i];simp];rfl
theorem Ly{x:Str}{a:Expr}{k':Keyword}{c:Int}{d d':D}{p pos:Pos}(G:Good cx k X sc)(hx:bw cx sc x=some "max")(hk:Td k'=some c)(ha:Ev X ρ a d)(hp:aG a=true)(h:SJ d c=some d') :
  Ev X ρ (.Call (.Name x p) [a] [k'] pos) d':=by
 obtain⟨hg,hm,rfl⟩:=bZ G hx;obtain⟨ka,kv,kp⟩:=k';unfold Td at hk;split at hk
 .rename_i hka
  have:ka=some "default":=by simpa using hka
  subst this;unfold Wr at hk;split at hk
  .rename_i c0 n q hkv
   cases hk;have:kv=.Constant (.int c) n q:=hkv;subst this;unfold SJ at h;split at h
   .rename_i xs c1
    obtain⟨is,h1,rfl⟩:=R0z.mp h;intro σ H Hs Q hs hst hq;refine(J5 (X:=X) G.calm hg hm (by decide +kernel) (by decide) (by decide) ak (aj hp)).sem ?_;refine ha σ H Hs _ hs hst λv H1 Hs1 E1 r1=>?_;obtain⟨l,vs,rfl,h3,h4⟩:=cu r1;have e:=jW h1 h4;subst e;exact⟨l,is,rfl,E1.sub.seq h3,hq _ H1 Hs1 E1 (by simp[Rep])⟩
   .cases h
  .cases hk
 .cases hk
def Xk(K:Zf)(T:String):List V->Hp->VK->Prop:=λxs H Q=>∃x d,xs=[x,.ty T]/\Rep K H d x/\isExc d=false/\Q (.bl (Ie T d)) H
theorem uo(h:ji T=true):T="int"\/T="bool"\/T="tuple"\/T="list"\/T="str":=by
 unfold ji at h
 split at h<;>first|(simp;done)|cases h
theorem yD(r:Vals (x::vs) us):∃u w,us=u::w/\RelV x u/\Vals vs w:=by
 cases r with
 |cons r rr=>exact⟨_,_,rfl,r,rr⟩
theorem G5(hk:ji T=true):dz X (.builtin "isinstance") (Xk X.K T):=by
 intro z0 s σ H xs us Q I r h;obtain⟨x,d,rfl,rd,hne,q⟩:=h;obtain⟨u,w1,rfl,rx,rr⟩:=yD r;obtain⟨c,w2,rfl,rc,rr2⟩:=yD rr;cases rr2;cases rc;have fin:∀b,b=Ie T d->∀tk,EP X z0 σ Q (.bool b) {s with toks:=tk}:=λb hb tk=>⟨.bl _,H,I.tok _,by rw[hb];rfl,q⟩;have ks:=uo hk
 cases d with
 |exc c=>exact absurd hne (by simp[isExc])
 |dic _ _=>exact absurd hne (by simp[isExc])
 |obj _=>exact absurd hne (by simp[isExc])
 |non =>
  cases rW rd;cases rx
  rcases ks with rfl|rfl|rfl|rfl|rfl<;>exact V4z W.kitx_none I.kIn True.intro rfl (λz=>nomatch z) (fin _ rfl)
 |bl y =>
  cases bY rd;cases rx
  obtain rfl|rfl|rfl|rfl|rfl:=ks
  .exact V4z Z2z I.kIn True.intro rfl (λz=>nomatch z) (fin _ rfl)
  .exact V4z Z2z I.kIn True.intro rfl (λz=>nomatch z) (fin _ rfl)
  .exact V4z Z2z I.kIn True.intro rfl (λz=>nomatch z) (fin _ rfl)
  .exact V4z Z2z I.kIn True.intro rfl (λz=>nomatch z) (fin _ rfl)
  .exact V4z Z2z I.kIn True.intro rfl (λz=>nomatch z) (fin _ rfl)
 |int y =>
  cases aO rd;obtain⟨t,e⟩:=rx;cases e;obtain rfl|rfl|rfl|rfl|rfl:=ks
  .exact V4z V3z I.kIn True.intro rfl (λz=>nomatch z) (fin _ rfl)
  .exact V4z V3z I.kIn True.intro rfl (λz=>nomatch z) (fin _ rfl)
  .exact V4z V3z I.kIn True.intro rfl (λz=>nomatch z) (fin _ rfl)
  .exact V4z V3z I.kIn True.intro rfl (λz=>nomatch z) (fin _ rfl)
  .exact V4z V3z I.kIn True.intro rfl (λz=>nomatch z) (fin _ rfl)
 |str y =>
  have ev:x=.str y:=by simpa[Rep] using rd
  subst ev;obtain⟨t,e⟩:=rx;cases e;obtain rfl|rfl|rfl|rfl|rfl:=ks
  .exact V4z W3z I.kIn True.intro rfl (λz=>nomatch z) (fin _ rfl)
  .exact V4z W3z I.kIn True.intro rfl (λz=>nomatch z) (fin _ rfl)
  .exact V4z W3z I.kIn True.intro rfl (λz=>nomatch z) (fin _ rfl)
  .exact V4z W3z I.kIn True.intro rfl (λz=>nomatch z) (fin _ rfl)
  .exact V4z W3z I.kIn True.intro rfl (λz=>nomatch z) (fin _ rfl)
 |tup ds =>
  obtain⟨a,vs,rfl,h1,h2⟩:=bU rd;cases rx;obtain⟨its,_,o,g1,g2,_⟩:=isT I h1;obtain rfl|rfl|rfl|rfl|rfl:=ks
  .exact V4z J2z I.kIn ⟨o,g1,g2⟩ rfl (λz=>nomatch z) (fin _ rfl)
  .exact V4z J2z I.kIn ⟨o,g1,g2⟩ rfl (λz=>nomatch z) (fin _ rfl)
  .exact V4z J2z I.kIn ⟨o,g1,g2⟩ rfl (λz=>nomatch z) (fin _ rfl)
  .exact V4z J2z I.kIn ⟨o,g1,g2⟩ rfl (λz=>nomatch z) (fin _ rfl)
  .exact V4z J2z I.kIn ⟨o,g1,g2⟩ rfl (λz=>nomatch z) (fin _ rfl)
 |lst ds =>
  obtain⟨a,vs,rfl,h1,h2⟩:=cu rd;cases rx;obtain⟨its,_,o,g1,g2,_⟩:=isL I h1;obtain rfl|rfl|rfl|rfl|rfl:=ks
  .exact V4z A3z I.kIn ⟨o,g1,g2⟩ rfl (λz=>nomatch z) (fin _ rfl)
  .exact V4z A3z I.kIn ⟨o,g1,g2⟩ rfl (λz=>nomatch z) (fin _ rfl)
  .exact V4z A3z I.kIn ⟨o,g1,g2⟩ rfl (λz=>nomatch z) (fin _ rfl)
  .exact V4z A3z I.kIn ⟨o,g1,g2⟩ rfl (λz=>nomatch z) (fin _ rfl)
  .exact V4z A3z I.kIn ⟨o,g1,g2⟩ rfl (λz=>nomatch z) (fin _ rfl)
theorem Rm(G:Good cx k X sc)(hx:bw cx sc x=some "isinstance")(ht:bw cx sc t=some T)(hk:ji T=true)(ha:Ev X ρ a d)(hp:aG a=true)(hne:isExc d=false) :
  Ev X ρ (.Call (.Name x p) [a,.Name t pt] [] pos) (.bl (Ie T d)):=by
 obtain⟨hg,hm,rfl⟩:=bZ G hx;obtain⟨hg2,hm2,rfl⟩:=bZ G ht
 have htv:PE X (.Name (Str.ofString T) pt) (tC (.ty T)):=by
  rcases uo hk with rfl|rfl|rfl|rfl|rfl<;>exact J9 hg2 hm2 rfl rfl
 intro σ H Hs Q hs hst hq;refine(c7 (G5 hk) hg hm rfl (au ak (au htv aK (aj rfl)) (aj hp)) (by decide) rfl (aj hp) rfl).sem ?_;exact ha σ H Hs _ hs hst λv H1 Hs1 E1 r1=>⟨v,d,rfl,Rep.same E1.sub d v r1,hne,hq _ H1 Hs1 E1 (by simp[Rep])⟩
end
end L2
namespace L2
open PySem PySem.Spec PyProof.Rows
section
variable{X:Cx}
end
section
variable{X:Cx}
end
def Its(x:Str):It:=⟨λi _=>i<x.cps.size,λi H v H'=>H'=H/\∃c,x.cps[i]?=some c/\v=.str ⟨#[c]⟩,λi _=>x.cps.size<=i⟩
theorem Ds{P:Program}{w:World}{K:Zf}{tg:Expr}(it:Addr)(x:Str)(t:Tok):Turn P w K tg (Its x) [it] it (λi h=>h.IsStrIter it "str_ascii_iterator" x t i) where
 mem:=by simp
 obj:=λi h st b hb=>by
  have e:b=it:=by simpa using hb
  subst e;obtain⟨o,e,c,d⟩:=st;exact⟨o,e,λv z=>by rw[d] at z;cases z⟩
 keep:=λi h h' st k=>let ⟨o,ho,r⟩:=st;⟨o,k it (by simp) o ho,r⟩
 item:=by
  intro X hP hw hK hc i z0 s σ H E I hf st hg;subst hP hw hK;obtain⟨f0,f1,f2,f3,f4,f5⟩:=hf it (by simp);have hg':i<x.cps.size:=hg;refine wpAny_pyNext_ascii_item st (c:=x.cps[i]) (by simp[hg']) λh' st' sb=>?_;have I1:Inv X z0 σ H {s with heap:=h',toks:=s.toks+1}:=I.turned (λb o hb e=>(sb.2 b hb).trans e) f0 f1 f3 f4 f5;obtain⟨o,e,c,d⟩:=id st';exact⟨_,rfl,Bo (s:={s with heap:=h',toks:=s.toks+1}) e c d (by decide) ⟨.str ⟨#[x.cps[i]]⟩,H,I1,⟨_,rfl⟩,⟨rfl,x.cps[i],by simp[hg'],rfl⟩,st',λb hb=>(hf b hb).1⟩⟩
 done:=by
  intro X hP hw hK hc i z0 s σ H E I hf st hg;subst hP hw hK;obtain⟨f0,f1,f2,f3,f4,f5⟩:=hf it (by simp);exact wpAny_pyNext_ascii_end (I.ok.hd hc) st (by have:x.cps.size<=i:=hg;simp[this]) λh' eb=>⟨rfl,I.turned (t':=s.toks) (λb o hb e=>eb b o hb e) f0 f1 f3 f4 f5⟩
 self:=λ_ _ _ _ _ st h=>wpAny_pyIter_striter_ascii st h
section
variable{X:Cx}{tg:Expr}
def Xv(tl:TE):TI:=λσ H R=>tl σ H λv H1=>∃x,v=.str x/\x.cps.all (· < 128)=true/\R (Its x) H1
theorem Qi(hl:PE X l tl):PI X tg l (Xv tl):=by
 intro z0 s σ H R I h;refine thn (hl z0 s σ H _ I h) λv s1 ⟨x,H1,I1,r1,q1⟩=>?_;obtain⟨y,e,ha,q⟩:=q1;subst e;obtain⟨t,rfl⟩:=r1;refine wpAny_pyIter_ascii ha ?_;refine⟨s1.heap.objs.size,[s1.heap.objs.size],_,_,H1,rfl,I1.kept λb o e=>Heap.get?_push_of_some _ e,Ds _ y t,⟨_,Heap.get?_push_size _ rfl,rfl,rfl⟩,λb hb=>?_,q⟩
 have e:b=s1.heap.objs.size:=by simpa using hb
 subst e;exact I1.fpOk (I6z _) (I1.hok.fresh (I6z _))
end
end L2
namespace SetS
open PySem PySem.W PyProof.Rows
abbrev nH(es:Array (Int×Value))(ep:Nat)(t:SetTable):Obj:={cls:=.type "set",dict:=none,data:=.set es ep t,slots := #[]}
def kv(e:Int×Value):Str:=match e.2 with
 |.str x _=>x
 |_=>⟨#[]⟩
def Dl(l:List Str)(k:Str):List Str:=if k∈l then l else l++[k]
structure SOk(prog:Program)(w:World)(es:Array (Int×Value))(t:SetTable)(l:List Str):Prop where
 f:t.fits es.size=true
 el:ElemsOf (strKind prog w) es.toList
 pm:(es.toList.map kv).Perm l
 pl:l≠[]->t.plain=false
theorem rY{t:SetTable}{es:Array (Int×Value)}{n:Nat}(h:t.plain=false):(relayAll t es n).2.1.plain=false:=by
 unfold relayAll;split
 .rename_i t' order hr
  dsimp only;split
  .unfold SetTable.relaid SetTable.laid at hr
   simp only[bind,Option.bind] at hr;split at hr
   .cases hr
   .cases hr;exact h
  .rfl
 .rfl
section
variable{prog:Program}{w:World}{A:Around}{E:Value->Shared->Prop}{s:Shared}
theorem QZ{e:Int×Value}{k:Str}(h:(strKind prog w).is k e.2=true):kv e=k:=by
 obtain⟨h0,v⟩:=e;unfold kv;have h':Value.isStrOf k v=true:=h
 cases v<;>simp[Value.isStrOf] at h' ⊢
 exact h'
theorem Vd{e:Int×Value}(h:∃k,(strKind prog w).is k e.2=true):(strKind prog w).is (kv e) e.2=true:=by
 obtain⟨k,hk⟩:=h;rw[QZ hk];exact hk
theorem Jr{k:Str}{tk:Tok}{S:Addr}{es:Array (Int×Value)}{ep:Nat}{t:SetTable}{l:List Str}{Q:Bool->Shared->Prop}(W:SOk prog w es t l)(ho:s.heap.get? S=some (nH es ep t))(hb:es.size+1<scanBound)
  (h:∀b h' es' ep' t',h'.get? S=some (nH es' ep' t')->Heap.SameBut S s.heap h'->SOk prog w es' t' (Dl l k)->Q b {s with heap:=h',toks:=s.toks+1}):wpAny (model prog w) A (setAdd S (.str k tk)) Q E s:=by
 unfold setAdd;refine N5z (R6z ((strKind prog w).pyHash (k:=k) (strKind_is _ _ _ _) ?_));unfold setAddHashed setAddHashedIn;have hkey:(strKind prog w).is k (.str k tk)=true:=strKind_is _ _ _ _;have hsc:(Value.str k tk).scannable=true:=rfl;refine N5z (R6z (B3z (s:={s with toks:=s.toks+1}) ho rfl W.f ?_));dsimp only;rw[byScan_of hsc (by omega) W.el];simp only[↓reduceIte];unfold setAddByScan;refine R6z ?_;refine R6z (T6z ?_);refine R6z (wpAny_setScan_of (s:={s with toks:=s.toks+1}) hkey ho rfl W.f W.el ?_)
 cases hr:List.findIdx? (λe=>(strKind prog w).is k e.2) es.toList with
 |some j =>
  dsimp only;obtain⟨hj,hpj,_⟩:=List.findIdx?_eq_some_iff_getElem.mp hr;refine S6z (S6z (h _ s.heap es ep t ho (.refl _ _) ?_));have hm:k∈l:=W.pm.mem_iff.mp (List.mem_map.mpr ⟨es.toList[j],S3z hj,QZ hpj⟩);unfold Dl;rw[G7z hm];exact W
 |none =>
  dsimp only
  have hm:k∉l:=λhm=>by
   obtain⟨e,he,hk⟩:=List.mem_map.mp (W.pm.mem_iff.mpr hm);have:=List.findIdx?_eq_none_iff.mp hr e he;have q:=Vd (W.el.keys e he);rw[hk,this] at q;cases q
  have hgw:∀(b:Bool){s₁:Shared}{Q':Unit->Shared->Prop},Q' () s₁->wpAny (model prog w) A (match b with|true=>rule "set.scan.the-table-gave-way"|false=>pure ()) Q' E s₁ :=
   λb s₁ Q' hq=>by cases b<;>first|exact S6z hq|exact T6z hq
  have hperm:=layNew_perm t es ((strKind prog w).hash k) (.str k tk);have hfits:=layNew_fits t es ((strKind prog w).hash k) (.str k tk);generalize hL:layNew t es ((strKind prog w).hash k) (.str k tk)=L at hperm hfits ⊢;obtain⟨es1,t1,wasDummy,gave⟩:=L;dsimp only at hperm hfits ⊢;rw[Array.toList_push] at hperm;have hel1:ElemsOf (strKind prog w) es1.toList:=(W.el.push hkey hsc).perm hperm;have hpm1:(es1.toList.map kv).Perm (l++[k]):=(hperm.map kv).trans (by rw[U4z];exact W.pm.append_right _);have hl:Dl l k=l++[k]:=H7z hm
  have hsz1:es1.size=es.size+1:=by rw[<- M1z,hperm.length_eq,B2z,M1z];rfl
  refine R6z (hgw _ ?_)
  have put:∀{h:Heap}{es0 es':Array (Int×Value)}{ep0:Nat}{t0 t':SetTable},h.get? S=some (nH es0 ep0 t0)->(h.update S (Obj.putSet es' t')).get? S=some (nH es' (ep0+1) t'):=λ{h es0 es' ep0 t0 t'} ho=>by
   have:=Heap.get?_update_self (Obj.putSet es' t') ho (by rw[putSet_of es' t' rfl];rfl)
   rw[putSet_of es' t' rfl] at this;exact this
  have tail:∀(R:Option Bool->Shared->Prop)(t2:SetTable),t2.fits es1.size=true->t2.plain=false->(∀h' es' ep' t',h'.get? S=some (nH es' ep' t')->Heap.SameBut S s.heap h'->SOk prog w es' t' (Dl l k)->R (some true) {s with heap:=h',toks:=s.toks+1}) ->
    wpAny (model prog w) A (do
     storeSet S es1 t2
     if(!wasDummy&&t2.tooFull)=true then do
       (match (relayAll t2 es1 (SetTable.grown es1.size)).2.2 with|true=>rule "set.scan.the-table-gave-way"|false=>pure ())
       storeSet S (relayAll t2 es1 (SetTable.grown es1.size)).1 (relayAll t2 es1 (SetTable.grown es1.size)).2.1
       pure (some true)
      else pure (some true)) R E {s with toks:=s.toks+1}:=λR t2 hf2 hp2 hR=>by
   refine R6z (wpAny_storeSet_of (s:={s with toks:=s.toks+1}) ho rfl ?_ (fits_of_scanBound (by omega)));have ho1:=put (es':=es1) (t':=t2) ho;have hsb1:=R1z s.heap S (Obj.putSet es1 t2);split
   .have hp:=relayAll_perm t2 es1 (SetTable.grown es1.size)
    have hfr:=relayAll_fits t2 es1 (SetTable.grown es1.size);have hpl:=rY (es:=es1) (n:=SetTable.grown es1.size) hp2;generalize hRl:relayAll t2 es1 (SetTable.grown es1.size)=Rl at hp hfr hpl ⊢;obtain⟨es2,t3,gave2⟩:=Rl;dsimp only at hp hfr hpl ⊢
    have hsz:es2.size=es1.size:=by rw[<- M1z,hp.length_eq,M1z]
    refine R6z (hgw _ ?_);refine R6z (wpAny_storeSet_of (s:={s with heap:=s.heap.update S (Obj.putSet es1 t2),toks:=s.toks+1}) ho1 rfl ?_ (fits_of_scanBound (by omega)));exact S6z (hR _ _ _ _ (put ho1) (hsb1.trans (R1z ..)) ⟨hfr,hel1.perm hp,by rw[hl];exact(hp.map kv).trans hpm1,λ_=>hpl⟩)
   .exact S6z (hR _ _ _ _ ho1 hsb1 ⟨hf2,hel1,by rw[hl];exact hpm1,λ_=>hp2⟩)
  have fin:∀h' es' ep' t',h'.get? S=some (nH es' ep' t')->Heap.SameBut S s.heap h'->SOk prog w es' t' (Dl l k)->wpAny (model prog w) A (pure true:Sem Bool) Q E {s with heap:=h',toks:=s.toks+1}:=λh' es' ep' t' a b c=>S6z (h _ _ _ _ _ a b c)
  cases hp1:t1.plain with
  |true =>
   rw[G7z rfl];refine R6z (N6z (a:=false) rfl ?_);exact tail _ {t1 with plain:=false} (SetTable.fits_plain_off hfits) rfl fin
  |false =>
   rw[H7z X1z];refine R6z (S6z ?_);exact tail _ t1 hfits hp1 fin
end
abbrev byT(w:World):Bool:=w.params.followText "set-order"
abbrev Dh(w:World):Obj:=nH #[] 0 (.fresh 0 0 (!byT w))
section
variable{prog:Program}{w:World}{A:Around}{R:Result->Shared->Prop}{I:Addr}{fp wr:List Addr}{G:Array GenState->Array GenState->Prop}{n:Nat}{P:Nat->Value->Prop}{St:Nat->Shared->Prop}
theorem DP(W:WalksS prog w A.in1 I fp wr G n P St)(S:Addr)(hSf:S∉fp){val:Nat->Str}(hval:∀i v,P i v->∃t,v=Value.str (val i) t)(hb:n+1<scanBound) :
    ∀(k i:Nat)(s:Shared)(es:Array (Int×Value))(ep:Nat)(t:SetTable)(l:List Str), n - i=k->i<=n->l.length<=i->St i s->s.heap.get? S=some (nH es ep t)->SOk prog w es t l ->
      (∀s' es' ep' t',Moved (S::wr) G s s'->s'.heap.get? S=some (nH es' ep' t')->SOk prog w es' t' (((List.range' i k).map val).foldl Dl l)->R (.ok (.ret .none)) s') ->
      codeAny (model prog w) A (.builtin "set.update.loop" ⟨[.ref S,.ref I],[]⟩) R s:=by
  have hSw:S∉wr:=λh=>hSf (W.sub _ h)
  have hsub:∀b∈wr,b∈S::wr:=λb hb=>E1z _ hb
  intro k
  induction k with
  |zero =>
    intro i s es ep t l hki hi hl hst hS hW hR
    have hin:i=n:=by omega
    subst hin
    refine O4z F.entry_set_update_loop ?_
    rw[J1z L0z _]
    show wpAny _ A.in1 (pyNext (.ref I) >>=_) _ _ s
    refine R6z (W.done s _ _ hst λs' hm=>?_)
    show wpAny _ A.in1 (ret Value.none) _ _ s'
    exact S6z (hR s' es ep t (hm.mono hsub) (hm.heap S _ hSw hS) hW)
  |succ k ih =>
    intro i s es ep t l hki hi hl hst hS hW hR
    have hin:i<n:=by omega
    refine O4z F.entry_set_update_loop ?_
    rw[J1z L0z _]
    show wpAny _ A.in1 (pyNext (.ref I) >>=_) _ _ s
    refine R6z (W.item i s _ _ hin hst λv s' hP hst' hm=>?_)
    obtain⟨tk0,rfl⟩:=hval i v hP
    have hS':=hm.heap S _ hSw hS
    have hsz:es.size<=i:=by
      have:=hW.pm.length_eq
      rw[F4z,M1z] at this
      omega
    show wpAny _ A.in1 (holding [Value.str (val i) tk0] (setAdd S (.str (val i) tk0)) >>=_) _ _ s'
    refine R6z (N5z (Jr hW hS' (by omega) λb h' es' ep' t' hg hsb hW'=>?_))
    have hl':(Dl l (val i)).length<=i+1:=by
      unfold Dl
      split
      . omega
      . rw[B2z];simp;omega
    refine S6z ⟨R5z L0z _,ih (i+1) _ es' ep' t' _ (by omega) hin hl' (W.frame _ s' _ _ hst' (L6z _) λb hb o e=>?_) hg hW' λs'' es2 ep'' t2 hm'' hS'' hW2=>?_⟩
    . rw[hsb.2 b (λh:b=S=>hSf (by rw[<- h];exact hb))];exact e
    . refine hR s'' es2 ep'' t2 (Moved.trans W.gtrans ((hm.mono hsub).then_heap (L6z _) λb o hb e=>?_) hm'') hS'' (by rw[List.range'_succ,O5z,List.foldl_cons];exact hW2)
      rw[hsb.2 b (λh:b=S=>hb (by rw[h];exact W1z))];exact e
end
section
variable{prog:Program}{w:World}{A:Around}{E:Value->Shared->Prop}{s:Shared}
theorem Jp(a:Value){Q₁:Value->Shared->Prop}(h:Q₁ (.ref s.heap.objs.size) {s with heap:=s.heap.push (Dh w)}) :
  codeAny (model prog w) A (.call (.builtin "set.__new__") ⟨[.type "set",a],[]⟩) (wants Q₁ E) s:=by
 refine codeAny_of_tree ?_;show wpAny _ A.in1 (do checkBuiltinCall "set.__new__" ⟨[.type "set",a],[]⟩;again (.builtin "set.__new__" ⟨[.type "set",a],[]⟩)) _ _ s;refine R6z (N6z (PySem.F.newCall_set_1 a) (S6z ⟨R5z PySem.F.plain_set_new _,O4z PySem.F.entry_set_new ?_⟩));rw[J1z PySem.F.plain_set_new _];unfold Builtin.«set.__new__» Builtin.Frozenset.newClass;have hsub:=sub_set_self;obtain⟨hp,g,d,tk,os⟩:=s;dsimp only
 wp_walk
 refine X3z (S6z ?_);dsimp only;simp only[newObj];refine R6z (wpAny_alloc (S6z ?_));exact S6z h
theorem G4{l:Addr}{items:Array Value}{val:Nat->Str}{Q:Value->Shared->Prop}
  (hh:A.handled=none) (hl:s.heap.IsList l items) (hv:∀i v,items[i]?=some v->∃t,v=Value.str (val i) t) (hb:items.size+1<scanBound)
  (h:∀(h':Heap)(tk ep:Nat)(es:Array (Int×Value))(t:SetTable),h'.get? s.heap.objs.size=some (nH es ep t)->SOk prog w es t (((List.range' 0 items.size).map val).foldl Dl [])->(∀b o,b<s.heap.objs.size->s.heap.get? b=some o->h'.get? b=some o)->Q (.ref s.heap.objs.size) {s with heap:=h',toks:=tk}) :
  wpAny (model prog w) A (call (.type "set") [.ref l]) Q E s:=by
 obtain⟨c,tl,hmro⟩:=PySem.F.called_set.mro;have hmade:=PySem.F.called_set.made;have hsub:=PySem.F.called_set.sub;refine wpAny_call (codeAny_of_tree ?_);show wpAny _ _ (callAny (.type "set") _) _ _ _;refine S6z ⟨Code.quiet_builtin _ (by decide +kernel),O4z PySem.F.entry_type_call ?_⟩;rw[Around.under_plain (weight_type_call_type "set" [.ref l] []) rfl];have h1:=PySem.F.called_set.notType;have h2:=PySem.F.called_set.canCreate;have hct:=PySem.F.typeCall_set_1 (.ref l)
 repeat (any_goals (first|assumption|wp_step))
 refine E6z (Jp (.ref l) (E:=E) (Q₁:=λobj s₁=>obj=.ref s.heap.objs.size/\s₁={s with heap:=s.heap.push (Dh w)}) ⟨rfl,rfl⟩) λr s₁ hr=>?_
 cases r with
 |error e=>exact hr
 |ok fl =>
  cases fl with
  |ret obj =>
   obtain⟨rfl,rfl⟩:=hr;have hS:(s.heap.push (Dh w)).get? s.heap.objs.size=some (Dh w):=Heap.get?_push_size _ rfl;have hT:Shared.TypeIs {s with heap:=s.heap.push (Dh w)} (.ref s.heap.objs.size) "set":=⟨_,hS,rfl⟩;have hli:=PySem.F.called_set.init.lookup;have hbi:=PySem.F.called_set.init.bind (.ref s.heap.objs.size)
   repeat (any_goals (first|assumption|wp_step))
   refine E6z (K1z (R:=wants (λr s₂=>r=.none/\∃h' tk ep es t,s₂={s with heap:=h',toks:=tk}/\h'.get? s.heap.objs.size=some (nH es ep t)/\SOk prog w es t (((List.range' 0 items.size).map val).foldl Dl [])/\(∀b o,b<s.heap.objs.size->s.heap.get? b=some o->h'.get? b=some o)) E) PySem.F.called_set.init.plain PySem.F.entry_set_init (check_set_init_1 hT ?_)) λr₂ s₂ hr₂=>?_
   .obtain⟨ol,hol,hcl,nl,hdl⟩:=hl
    obtain⟨ocls,odict,odata,oslots⟩:=ol;simp only at hcl hdl;subst hcl;subst hdl;have hol':(s.heap.push (Dh w)).get? l=some {cls:=.type "list",dict:=odict,data:=.seq items nl,slots:=oslots}:=Heap.get?_push_of_some _ hol;have hsls:=PySem.F.sub_list_set;have hslf:=PySem.F.sub_list_frozenset
    have hne:(Value.type "list"==Value.type "dict")=false:=by decide
    have hl1:(s.heap.push (Dh w)).IsList l items:=⟨_,hol',rfl,nl,rfl⟩;unfold Builtin.«set.__init__» noKeywords Builtin.Frozenset.updateFrom;generalize hPI:pyIter=PI
    wp_walk
    subst hPI;refine N2z hl1 ?_;refine R6z (G5z ?_);have hlS:l<s.heap.objs.size:=Z5z hol
    have hh3:A.in1.in1.in1.handled=none:=by simp[hh]
    have hneI:l≠(s.heap.push (Dh w)).objs.size:=by
     rw[Z4z];exact A6z (Q2z hlS)
    have hSf:s.heap.objs.size∉[(s.heap.push (Dh w)).objs.size,l]:=by
     rw[Z4z];simp only[V5z,List.mem_singleton,R3z,D7z,not_or]
     exact⟨A6z (F3z _),D6z hlS⟩
    have W0:SOk prog w #[] (.fresh 0 0 (!byT w)) []:=⟨rfl,λe he=>by simp at he,.nil,λz=>absurd rfl z⟩
    refine DP ((Walks.list hh3 _ l hneI items).toS) s.heap.objs.size hSf hv hb (items.size-0) 0 _ #[] 0 (.fresh 0 0 (!byT w)) [] rfl (K6z _) (K6z _)
     ⟨⟨_,Heap.get?_push_size _ rfl,rfl,rfl⟩,(hl1.push _)⟩ (Heap.get?_push_of_some _ hS) W0 ?hR
    case hR =>
     intro s' es' ep' t' hm hS' hW';obtain⟨h',g',d',tk',os'⟩:=s';have eg:g'=s.gens:=hm.gens;have ed:d'=s.drawn:=hm.drawn;have eo:os'=s.os:=hm.os;subst eg;subst ed;subst eo;show wpAny _ _ _ _ _ _;refine S6z ?_;show wpAny _ _ (ret Value.none) _ _ _;refine S6z ⟨rfl,h',tk',ep',es',t',rfl,hS',by simpa using hW',λb o hb e=>?_⟩;have hb1:b≠s.heap.objs.size:=A6z hb
     have hb2:b≠(s.heap.push (Dh w)).objs.size:=by
      rw[Z4z];exact A6z (Q2z hb)
     exact hm.heap b o (by simp only[V5z,List.mem_singleton,R3z,D7z,not_or];exact⟨hb1,hb2⟩) (Heap.get?_push_of_some _ (Heap.get?_push_of_some _ e))
   .cases r₂ with
    |error e=>exact hr₂
    |ok fl₂ =>
     cases fl₂ with
     |ret r =>
      obtain⟨rfl,h',tk,ep,es,t,rfl,hS',hW',hk'⟩:=hr₂
      repeat (any_goals (first|assumption|wp_step))
      exact h _ _ _ _ _ hS' hW' hk'
     |_=>exact hr₂.elim
  |_=>exact hr.elim
end
theorem j7{α:Type}:∀(l:List α)(i:Nat)(h:i<l.length),(l[i]::l.eraseIdx i).Perm l
 |a::l,0,_=>List.Perm.refl _
 |a::l,i+1,h=>(List.Perm.swap _ _ _).trans (List.Perm.cons a (j7 l i (by simpa using h)))
theorem pU{α:Type}(next:Nat->Nat):∀(n k:Nat)(l:List α)(out:Array α),n=l.length->(pickOrder.go next n k l out).toList.Perm (out.toList++l)
 |0,k,l,out,h=>by
  have:l=[]:=List.length_eq_zero_iff.mp h.symm;subst this;simp[pickOrder.go]
 |n+1,k,l,out,h=>by
  have hl:next k%l.length<l.length:=Nat.mod_lt _ (by omega)
  have e:l[next k%l.length]?=some (l[next k%l.length]):=List.getElem?_eq_getElem hl;unfold pickOrder.go;rw[e];dsimp only;refine(pU next n (k+1) _ _ (by rw[List.length_eraseIdx_of_lt hl];omega)).trans ?_;rw[Array.toList_push,C3z];exact List.Perm.append_left _ (j7 _ _ hl)
theorem cj:Slot "set_iterator" "__next__" "set_iterator.__next__" :=
 .of (owner:="set_iterator") (n:="__next__") (by rw[M4z,Y0z];rfl') (by decide +kernel) (by decide +kernel) (by decide +kernel)
  (by first|exact .inl (by decide +kernel)|exact .inr (by decide +kernel)) (by rw[E5z];rfl')
theorem uU:Manifest.owners.lookup (String.ofList ['r','o','t','a','r','e','t','i','_','t','e','s'].reverse)=some Manifest.sig_set_iterator:=by rfl'
theorem iZ:entryFor table "set_iterator.__next__"=some Builtin.«set_iterator.__next__» :=N3z (by rfl')
theorem jG(a:Value):argsOk "set_iterator.__next__" ⟨[a],[]⟩:=by
 unfold argsOk;rw[signature?_of (id:="set_iterator.__next__") (n:=['_','_','t','x','e','n','_','_']) (o:=['r','o','t','a','r','e','t','i','_','t','e','s']) (by rfl') uU];rfl'
theorem jz:Slot "set_iterator" "__iter__" "set_iterator.__iter__" :=
 .of (owner:="set_iterator") (n:="__iter__") (by rw[M4z,Y0z];rfl') (by decide +kernel) (by decide +kernel) (by decide +kernel)
  (by first|exact .inl (by decide +kernel)|exact .inr (by decide +kernel)) (by rw[E5z];rfl')
theorem rD(a:Value):argsOk "set_iterator.__iter__" ⟨[a],[]⟩:=by
 unfold argsOk;rw[signature?_of (id:="set_iterator.__iter__") (n:=['_','_','r','e','t','i','_','_']) (o:=['r','o','t','a','r','e','t','i','_','t','e','s']) (by rfl') uU];rfl'
theorem mj:entryFor table "set.__iter__"=some Builtin.«frozenset.__iter__» :=F5z (id':="frozenset.__iter__") (by rfl') rfl (by decide +kernel) (by rfl')
theorem oF:entryFor table "set_iterator.__iter__"=some Builtin.«dict_keyiterator.__iter__» :=F5z (id':="dict_keyiterator.__iter__") (by rfl') rfl (by decide +kernel) (by rfl')
section
variable{M:Model}{A:Around}{E:Value->Shared->Prop}
theorem o9{s:Shared}{src:Source}{n:Nat}{Q:Nat->Shared->Prop}(hn:n≠0)(h:∀i d,i<n->Q i {s with drawn:=d}):wpAny M A (choose src n) Q E s:=λΓ p _=>by
 show Sem.wp M Γ (.choose src n .pure) _ _ p s;rw[Sem.wp_choose];exact⟨hn,h _ _ (Nat.mod_lt _ (by omega))⟩
theorem jY{α:Type}:∀(n:Nat)(xs:List α){s:Shared}{Q:List α->Shared->Prop},xs.length=n->(∀ys d,ys.Perm xs->Q ys {s with drawn:=d})->wpAny M A (drawOrder n xs) Q E s:=by
 intro n
 induction n with
 |zero =>
  intro xs s Q hl h;have e:xs=[]:=List.length_eq_zero_iff.mp hl;subst e;exact S6z (h [] s.drawn (.refl _))
 |succ n ih =>
  intro xs s Q hl h
  cases xs with
  |nil=>cases hl
  |cons x xs =>
   unfold drawOrder;refine R6z (o9 (by simp) λi d hi=>?_);have e:(x::xs)[i]?=some (x::xs)[i]:=List.getElem?_eq_getElem hi;rw[e];dsimp only;exact R6z (ih _ (by rw[List.length_eraseIdx_of_lt hi];simp at hl ⊢;omega) λys d' hp=>S6z (h _ _ ((hp.cons _).trans (j7 _ _ hi))))
end
abbrev Dg(q:List Nat):Obj:={cls:=.type "tuple",data:=.seq (q.map λ(i:Nat)=>rawInt i).toArray}
set_option genInjectivity true in
inductive Md where
 |txt
 |drn (p:Addr) (q:List Nat)
def Md.first:Md->Value
 |.txt=>rawInt 0
 |.drn p _=>.ref p
def Md.ok(w:World)(h:Heap):Md->Prop
 |.txt=>byT w=true
 |.drn p q=>h.get? p=some (Dg q)
def Md.ord(w:World)(S:Addr)(ep:Nat)(es:Array (Int×Value)):Md->List (Int×Value)
 |.txt=>(pickOrder (w.params.setOrder S ep) es).toList
 |.drn _ q=>q.filterMap (es.toList[·]?)
def Md.fp(I S:Addr):Md->List Addr
 |.txt=>[I,S]
 |.drn p _=>[I,S,p]
def RW(h:Heap)(I S:Addr)(f:Value)(i n ep:Nat):Prop:=∃o,h.get? I=some o/\o.cls=.type "set_iterator"/\o.data=.fields #[f,.int i 0,.ref S,.int n 0,.int ep 0]
def St(w:World)(I S:Addr)(es:Array (Int×Value))(ep:Nat)(t:SetTable)(m:Md)(i:Nat)(h:Heap):Prop:=RW h I S m.first i es.size ep/\h.get? S=some (nH es ep t)/\m.ok w h
theorem RW.typeIs{s:Shared}{I S:Addr}{f:Value}{i n ep:Nat}(x:RW s.heap I S f i n ep):s.TypeIs (.ref I) "set_iterator":=let ⟨o,ho,hc,_⟩:=x;⟨o,ho,hc⟩
theorem jD{α β:Type}{f:α->Option β}:∀{l:List α}{i:Nat}{a:α},(∀x∈l,(f x).isSome=true)->l[i]?=some a->(l.filterMap f)[i]?=f a
 |x::l,i,a,hf,h=>by
  obtain⟨b,hb⟩:=Option.isSome_iff_exists.mp (hf x (by simp));rw[L1z,hb]
  cases i with
  |zero=>simp at h;subst h;simp[hb]
  |succ i=>simpa using jD (λy hy=>hf y (E1z _ hy)) (by simpa using h)
section
variable{prog:Program}{w:World}{A:Around}{E:Value->Shared->Prop}{s:Shared}{S I:Addr}{es:Array (Int×Value)}{ep:Nat}{t:SetTable}{m:Md}
def Md.all(es:Array (Int×Value)):Md->Prop
 |.txt=>True
 |.drn _ q=>q.Perm (List.range es.size)
theorem map_range{α:Type}(l:List α):(List.range l.length).filterMap (l[·]?)=l:=by
 induction l with
 |nil=>rfl
 |cons a l ih =>
  rw[E3z,S0z,L1z];simp only[List.getElem?_cons_zero,List.filterMap_map];congr 1
theorem uV(h:m.all es):(m.ord w S ep es).Perm es.toList:=by
 cases m with
 |txt=>exact(pU _ _ _ _ _ (by simp)).trans (by simp)
 |drn p q =>
  show(q.filterMap (es.toList[·]?)).Perm _;refine(h.filterMap _).trans ?_;have:=map_range es.toList;rw[M1z] at this;rw[this]
theorem uz{Q:Option (Value×Nat)->Shared->Prop}{i:Nat}(ho:s.heap.get? S=some (nH es ep t))(hf:t.fits es.size=true)(hb:byT w=true)(h:Q (((Md.ord w S ep es .txt)[i]?).map λe=>(e.2,0)) s):wpAny (model prog w) A (setNext S 0 i ep) Q E s:=by
 unfold setNext;refine R6z (B3z ho rfl hf ?_);dsimp only;refine R6z ?_;unfold setsByText;refine R6z (X3z (S6z ?_));show wpAny _ _ (if byT w=true then _ else _) _ _ _;rw[G7z hb,H7z (by simp)];refine R6z ?_;unfold setWalk;refine R6z (B3z ho rfl hf ?_);dsimp only;refine R6z ?_;unfold setsByText;refine R6z (X3z (S6z ?_));show wpAny _ _ (if byT w=true then _ else _) _ _ _;rw[G7z hb];refine R6z (X3z (S6z ?_));rw[<- Array.getElem?_toList];exact S6z h
theorem Jo{i:Nat}{e:Int×Value}{Q:Option Value->Shared->Prop}(hf:t.fits es.size=true)(ha:m.all es)(st:St w I S es ep t m i s.heap)(hi:(m.ord w S ep es)[i]?=some e)
  (hQ:∀h',RW h' I S m.first (i+1) es.size ep->Heap.SameBut I s.heap h'->Q (some e.2) {s with heap:=h'}):wpAny (model prog w) A (pyNext (.ref I)) Q E s:=by
 obtain⟨hit,ho,mo⟩:=st;obtain⟨o,hio,hc,hd⟩:=id hit;unfold pyNext;refine R6z (Q5z (wpAny_callSpecial?_slot (name:=Str.ofString "__next__") hit.typeIs cj (I3z cj hit.typeIs iZ ?_ (jG _))));unfold Builtin.«set_iterator.__next__»;refine R6z (m:=slotArgs _ _ _) (S6z ?_);refine R6z (wpAny_fieldsOf hio hd ?_);dsimp only;refine R6z (m:=setEntries S) (R6z (B3z ho rfl hf (S6z ?_)));rw[H7z (by simp)]
 cases m with
 |txt =>
  simp only[Md.first,rawInt,S2z];refine R6z (uz ho hf mo ?_);rw[hi];simp only[K4z];refine R6z (C5z hio hd (by simp) ?_);have hio2:=Heap.get?_update_self (Obj.mapFields λvs=>vs.setIfInBounds 0 (rawInt ((0:Nat):Int))) hio (X0z (E2z hd _));have hd2:=E2z hd λvs=>vs.setIfInBounds 0 (rawInt ((0:Nat):Int));refine R6z (C5z hio2 hd2 (by simp) (S6z ⟨_,rfl,S6z (hQ _ ?_ ((R1z ..).trans (R1z ..)))⟩));refine⟨_,Heap.get?_update_self _ hio2 (X0z (E2z hd2 _)),(T2z ..).trans ((T2z ..).trans hc),?_⟩;rw[E2z hd2];simp[rawInt,Md.first]
 |drn p q =>
  have hall:∀x∈q,(es.toList[x]?).isSome=true:=λx hx=>by
   have:=List.mem_range.mp ((show q.Perm _ from ha).mem_iff.mp hx);simp[this]
  have hq:∃j,q[i]?=some j/\es.toList[j]?=some e:=by
   have hi':(q.filterMap (es.toList[·]?))[i]?=some e:=hi
   cases hj:q[i]? with
   |none =>
    have hl:(q.filterMap (es.toList[·]?)).length<=q.length:=List.length_filterMap_le ..;rw[List.getElem?_eq_none (by have:=List.getElem?_eq_none_iff.mp hj;omega)] at hi';cases hi'
   |some j=>exact⟨j,rfl,(jD hall hj).symm.trans hi'⟩
  obtain⟨j,hj,he⟩:=hq;simp only[Md.first];refine R6z (B5z (show s.heap.get? p=some (Dg q) from mo) rfl ?_);dsimp only
  have ej:(q.map λ(i:Nat)=>rawInt i).toArray[((i:Int)).toNat]?=some (rawInt j):=by
   rw[S2z];simp[hj]
  rw[ej];simp only[rawInt,S2z];unfold setNextDrawn;refine R6z (R6z (B3z ho rfl hf ?_));dsimp only;rw[H7z (by simp)]
  have e':es[j]?=some e:=by rw[<- Array.getElem?_toList];exact he
  rw[e'];refine S6z ?_;refine R6z (C5z hio hd (by simp) (S6z ⟨_,rfl,S6z (hQ _ ?_ (R1z ..))⟩));refine⟨_,Heap.get?_update_self _ hio (X0z (E2z hd _)),(T2z ..).trans hc,?_⟩;rw[E2z hd];simp[rawInt,Md.first]
end
section
variable{prog:Program}{w:World}{A:Around}{E:Value->Shared->Prop}{s:Shared}{S I:Addr}{es:Array (Int×Value)}{ep:Nat}{t:SetTable}{m:Md}
theorem sH(h:m.all es):(m.ord w S ep es).length=es.size:=by
 rw[(uV h).length_eq,M1z]
theorem Pu{Q:Option Value->Shared->Prop}(hh:A.handled=none)(hf:t.fits es.size=true)(ha:m.all es)(st:St w I S es ep t m es.size s.heap)
  (hQ:∀h',Heap.ExtBut I s.heap h'->Q none {s with heap:=h'}):wpAny (model prog w) A (pyNext (.ref I)) Q E s:=by
 obtain⟨hit,ho,mo⟩:=st;obtain⟨o,hio,hc,hd⟩:=id hit;unfold pyNext;refine R6z (Q5z (wpAny_callSpecial?_slot (name:=Str.ofString "__next__") hit.typeIs cj (I3z cj hit.typeIs iZ ?_ (jG _))));unfold Builtin.«set_iterator.__next__»;refine R6z (m:=slotArgs _ _ _) (S6z ?_);refine R6z (wpAny_fieldsOf hio hd ?_);dsimp only;refine R6z (m:=setEntries S) (R6z (B3z ho rfl hf (S6z ?_)));rw[H7z (by simp)]
 cases m with
 |txt =>
  simp only[Md.first,rawInt,S2z];refine R6z (uz ho hf mo ?_);rw[List.getElem?_eq_none (by rw[sH (m:=.txt) ha];exact I6z _)];simp only[Option.map_none];refine R6z (C5z hio hd (by simp) ?_);show wpAny _ _ (newExc (.type "StopIteration") [] >>=_) _ _ _;refine R6z ?_;simp only[newExc,newTuple];refine R6z (M2z ?_ (by size_fits));refine R6z (m:=firstArgMember _ _) (N6z (a:=Value.none) (by first|rfl|(simp only[firstArgMember];rfl)) ?_);refine M2z ?_ (by size_fits);simp only[raiseNew];refine R6z (P5z ?_);rw[show A.in1.handled=none from hh];refine R6z (S6z (wpAny_throw ?_));refine R6z (M3z (T:="StopIteration") (b:=true) ⟨_,Heap.get?_push_size _ rfl,rfl⟩ D5z ?_);exact S6z (hQ _ (((R1z ..).extBut.push _).push _))
 |drn p q =>
  simp only[Md.first];refine R6z (B5z (show s.heap.get? p=some (Dg q) from mo) rfl ?_);dsimp only
  have hl:q.length=es.size:=by rw[(show q.Perm _ from ha).length_eq,D3z]
  have ej:(q.map λ(i:Nat)=>rawInt i).toArray[((es.size:Int)).toNat]?=none:=by
   rw[S2z];simp[hl]
  rw[ej];refine R6z (C5z hio hd (by simp) ?_);have hio2:=Heap.get?_update_self (Obj.mapFields λvs=>vs.setIfInBounds 0 (rawInt 0)) hio (X0z (E2z hd _));have hd2:=E2z hd λvs=>vs.setIfInBounds 0 (rawInt 0);refine R6z (C5z hio2 hd2 (by simp) ?_);show wpAny _ _ (newExc (.type "StopIteration") [] >>=_) _ _ _;refine R6z ?_;simp only[newExc,newTuple];refine R6z (M2z ?_ (by size_fits));refine R6z (m:=firstArgMember _ _) (N6z (a:=Value.none) (by first|rfl|(simp only[firstArgMember];rfl)) ?_);refine M2z ?_ (by size_fits);simp only[raiseNew];refine R6z (P5z ?_);rw[show A.in1.handled=none from hh];refine R6z (S6z (wpAny_throw ?_));refine R6z (M3z (T:="StopIteration") (b:=true) ⟨_,Heap.get?_push_size _ rfl,rfl⟩ D5z ?_);exact S6z (hQ _ ((((R1z ..).trans (R1z ..)).extBut.push _).push _))
theorem Jm{f:Value}{i n:Nat}{Q:Value->Shared->Prop}(hit:RW s.heap I S f i n ep)(h:Q (.ref I) s):wpAny (model prog w) A (pyIter (.ref I)) Q E s:=by
 refine wpAny_pyIter_slot hit.typeIs jz (I3z jz hit.typeIs oF ?_ (rD _));show wpAny _ _ (ret (.ref I)) _ _ s;exact S6z ⟨_,rfl,"set_iterator",_,hit.typeIs,cj.lookup,h⟩
theorem walks(hh:A.handled=none)(hne:S≠I)(hmp:∀p q,m=.drn p q->p≠I)(hf:t.fits es.size=true)(ha:m.all es):Walks prog w A I (m.fp I S) [I] es.size (λi v=>∃e,(m.ord w S ep es)[i]?=some e/\v=e.2) (St w I S es ep t m) where
 sub:=λb hb=>by rw[List.mem_singleton.mp hb];cases m<;>simp[Md.fp]
 frame:=λi h h' ⟨⟨o,e1,e2⟩,s2,s3⟩ hk=>by
  have kI:∀o,h.get? I=some o->h'.get? I=some o:=λo=>hk I (by cases m<;>simp[Md.fp]) o
  have kS:∀o,h.get? S=some o->h'.get? S=some o:=λo=>hk S (by cases m<;>simp[Md.fp]) o
  refine⟨⟨o,kI _ e1,e2⟩,kS _ s2,?_⟩
  cases m with
  |txt=>exact s3
  |drn p q=>exact hk p (by simp[Md.fp]) _ s3
 item:=λi s Q E hi st hQ=>by
  have hi':i<(m.ord w S ep es).length:=by rw[sH ha];exact hi
  refine Jo (e:=(m.ord w S ep es)[i]) hf ha st (List.getElem?_eq_getElem hi') λh' hit' hs'=>hQ _ h' s.toks ⟨_,List.getElem?_eq_getElem hi',rfl⟩ ⟨hit',hs'.extBut S _ hne st.2.1,?_⟩ λb o hb e=>hs'.extBut b o (λh=>hb (by simp[h])) e;have s3:=st.2.2
  cases m with
  |txt=>exact s3
  |drn p q=>exact hs'.extBut p _ (hmp p q rfl) s3
 done:=λs Q E st hQ=>Pu hh hf ha st λh' he'=>hQ h' s.toks λb o hb e=>he' b o (λh=>hb (by simp[h])) e
 self:=λ_ _ _ _ st hQ=>Jm st.1 hQ
end
section
variable{prog:Program}{w:World}{A:Around}{E:Value->Shared->Prop}{s:Shared}{S I:Addr}{es:Array (Int×Value)}{ep:Nat}{t:SetTable}{m:Md}
theorem zE{Q:Bool->Shared->Prop}(ho:s.heap.get? S=some (nH es ep t))(hf:t.fits es.size=true)(hp:t.plain=false)(h1:1<es.size)(h:Q (!byT w) s):wpAny (model prog w) A (setDrawn S) Q E s:=by
 unfold setDrawn;refine R6z (B3z ho rfl hf ?_);dsimp only;refine R6z ?_;unfold setsByText;refine R6z (X3z (S6z ?_))
 have e:(!byT w&&(!t.plain&&decide (es.size>1))) = !byT w:=by rw[hp];simp;exact λ_=>h1
 refine S6z ?_;show Q (!byT w&&(!t.plain&&decide (es.size>1))) s;rw[e];exact h
theorem Fy{Q:Value->Shared->Prop}(ho:s.heap.get? S=some (nH es ep t))(hf:t.fits es.size=true)(hp:t.plain=false)(h1:1<es.size)(hz:es.size<=sizeLine)
  (h:∀m I h' d,m.all es->St w I S es ep t m 0 h'->(∀b o,s.heap.get? b=some o->h'.get? b=some o)->(∀b o,s.heap.get? b=some o->b∉[I])->(∀b o,b≠S->s.heap.get? b=some o->b∉m.fp I S)->(∀p q,m=.drn p q->p≠I)->Q (.ref I) {s with heap:=h',drawn:=d}) :
  wpAny (model prog w) A (pyIter (.ref S)) Q E s:=by
 have hT:s.TypeIs (.ref S) "set":=⟨_,ho,rfl⟩;refine wpAny_pyIter_slot hT PySem.F.slot_set_iter (I3z PySem.F.slot_set_iter hT mj ?_ (PySem.F.args_set_iter_1 _));unfold Builtin.«frozenset.__iter__»;refine R6z (m:=Builtin.Frozenset.slot0 _ _) (S6z ?_);refine R6z (m:=Builtin.Frozenset.sizeOf _) (R6z (R6z (B3z ho rfl hf (S6z (S6z ?_)))));refine R6z (zE ho hf hp h1 ?_)
 cases hb:byT w with
 |true =>
  simp only[Bool.not_true,D2z,C7z];refine R6z (S6z ?_);refine R6z (wpAny_setEpoch_of ho rfl hf ?_);refine R6z (M2z (S6z ⟨_,rfl,"set_iterator",_,⟨_,Heap.get?_push_size _ rfl,rfl⟩,cj.lookup,?_⟩))
  refine h .txt s.heap.objs.size _ s.drawn trivial ⟨⟨_,Heap.get?_push_size _ rfl,rfl,rfl⟩,Heap.get?_push_of_some _ ho,hb⟩ (λb o e=>Heap.get?_push_of_some _ e) (λb o e=>?_) (λb o n e=>?_) λp q e=>by cases e
  .simpa using A6z (Z5z e)
  .simpa[Md.fp] using⟨A6z (Z5z e),n⟩
 |false =>
  simp only[J5z,F7z];refine R6z (jY _ _ D3z λq d hq=>?_);refine R6z (wpAny_newTuple ?_ (by rw[F4z,hq.length_eq,D3z];exact hz));have ho2:(s.heap.push (Dg q)).get? S=some (nH es ep t):=Heap.get?_push_of_some _ ho;refine R6z (wpAny_setEpoch_of (s:={s with drawn:=d,heap:=s.heap.push (Dg q)}) ho2 rfl hf ?_);refine R6z (M2z (S6z ⟨_,rfl,"set_iterator",_,⟨_,Heap.get?_push_size _ rfl,rfl⟩,cj.lookup,?_⟩));have hsz:(s.heap.push (Dg q)).objs.size=s.heap.objs.size+1:=Z4z ..
  have hlt:∀b o,s.heap.get? b=some o->b≠(s.heap.push (Dg q)).objs.size:=λb o e=>by rw[hsz];exact A6z (Q2z (Z5z e))
  have hlp:s.heap.objs.size≠(s.heap.push (Dg q)).objs.size:=by rw[hsz];exact A6z (F3z _)
  generalize hI:(s.heap.push (Dg q)).objs.size=I at hlt hlp ⊢
  have hI2:((s.heap.push (Dg q)).push {cls:=.type "set_iterator",data:=.fields #[.ref s.heap.objs.size,.int 0 0,.ref S,.int es.size 0,.int ep 0]}).get? I=some {cls:=.type "set_iterator",data:=.fields #[.ref s.heap.objs.size,.int 0 0,.ref S,.int es.size 0,.int ep 0]}:=by rw[<- hI];exact Heap.get?_push_size _ rfl
  refine h (.drn s.heap.objs.size q) I _ d hq ⟨⟨_,hI2,rfl,rfl⟩,Heap.get?_push_of_some _ ho2,Heap.get?_push_of_some _ (Heap.get?_push_size _ rfl)⟩ (λb o e=>Heap.get?_push_of_some _ (Heap.get?_push_of_some _ e)) (λb o e=>?_) (λb o n e=>?_) λp q' e=>?_
  .simpa using hlt _ _ e
  .simpa[Md.fp] using⟨hlt _ _ e,n,A6z (Z5z e)⟩
  .cases e
   exact hlp
theorem FQ{r:Addr}{Q:Bool->Shared->Prop}(hT:s.TypeIs (.ref r) "set")(h:Q false s):wpAny (model prog w) A (Builtin.List.listLengthHint (.ref r)) Q E s:=by
 unfold Builtin.List.listLengthHint;refine R6z (N4z hT PySem.F.slot_set_len.lookup ?_);generalize hid:("set.__len__":String)=id0
 wp_delta
 rw[show splitId id0=some ("set","__len__") from by subst hid;decide +kernel]
 subst hid;refine R6z (M3z (T:="set") (b:=true) hT (by rw[E5z];rfl') ?_);refine P4z (λhab=>absurd hab (by decide)) (λ_=>?_);refine P4z (λ_=>?_) (λhab=>absurd (by decide +kernel) hab);refine R6z (F6z hT ?_);exact S6z h
theorem G9{acc:Array Value}(ha:m.all es)(h:ItemsOf (λi v=>∃e,(m.ord w S ep es)[i]?=some e/\v=e.2) acc es.size):acc.toList.Perm (es.toList.map (·.2)):=by
 have e:acc.toList=(m.ord w S ep es).map (·.2):=by
  refine P3z (by rw[F4z,M1z,sH ha,h.1]) λi q1 q2=>?_;obtain⟨x,e1,e2⟩:=h.2 i acc[i] (by rw[Array.getElem?_eq_getElem]);rw[List.getElem_map,Array.getElem_toList,e2];rw[List.getElem?_eq_getElem (by simpa using q2)] at e1;cases e1;rfl
 rw[e];exact(uV ha).map _
theorem xQ{R:Result->Shared->Prop}(hh:A.handled=none)(ho:s.heap.get? S=some (nH es ep t))(hf:t.fits es.size=true)(hp:t.plain=false)(h1:1<es.size)(hz:es.size<=sizeLine)(L:Addr)(hLS:L≠S)(res:Value)(c₀:Nat)(hL:s.heap.get? L=some {cls:=.type "list",data:=.seq #[] c₀})
  (hR:∀h' tk (d:Drawn) acc' c',(∀b o,b≠L->s.heap.get? b=some o->h'.get? b=some o)->h'.get? L=some {cls:=.type "list",dict:=none,data:=.seq acc' c',slots := #[]}->acc'.toList.Perm (es.toList.map (·.2))->R (.ok (.ret res)) {s with heap:=h',toks:=tk,drawn:=d}) :
  wpAny (model prog w) A.in1 (Builtin.List.listExtendWith (.ref L) (.ref S) res)
   (λfin s'=>match fin with|.done f=>R (.ok f) s'|.again c'=>c'.quiet=true/\codeAny (model prog w) A c' R s') (λe s'=>R (.error e) s') s:=by
 have key:∀(m:Md)(I:Addr)(h:Heap)(c₁ tk:Nat)(d:Drawn),m.all es->(∀p q,m=.drn p q->p≠I)->S≠I->L∉m.fp I S->(∀b o,s.heap.get? b=some o->b∉[I])->St w I S es ep t m 0 h->(∀b o,b≠L->s.heap.get? b=some o->h.get? b=some o) ->
   h.get? L=some {cls:=.type "list",data:=.seq #[] c₁}->codeAny (model prog w) A (.builtin "list.extend.loop" ⟨[.ref L,.ref I,res],[]⟩) R {s with heap:=h,toks:=tk,drawn:=d}:=by
  intro m I h c₁ tk d ha hmp hne hLf hI hst hk hL₁;refine I1z (walks (prog:=prog) (A:=A.in1) (m:=m) hh hne hmp hf ha).toS hz L hLf res es.size 0 {s with heap:=h,toks:=tk,drawn:=d} #[] c₁ rfl (K6z _) hst hL₁ (ItemsOf.nil _) λs' acc' c' hm hL' hacc=>?_;rw[Moved.eq_with hm];refine hR s'.heap s'.toks d acc' c' (λb o hb e=>hm.heap b o (λhmem=>?_) (hk b o hb e)) hL' (G9 ha hacc);rcases V5z.mp hmem with e'|hmem
  .exact hb e'
  .exact hI b o e hmem
 unfold Builtin.List.listExtendWith;refine R6z (F6z (T:="set") ⟨_,ho,rfl⟩ ?_)
 have h2:Builtin.List.listSameRef (.ref L) (.ref S)=false:=by simp[Builtin.List.listSameRef,hLS]
 have e1:(Value.type "set"==Value.type "list")=false:=by decide
 have e2:(Value.type "set"==Value.type "tuple")=false:=by decide
 simp only[h2,e1,e2,Bool.or_false,D2z,C7z];refine R6z (Fy ho hf hp h1 hz λm I h' d ha hst hk hI hfp hmp=>?_);have hL₁:=hk _ _ hL;have hS₁:=hk _ _ ho;have hLf:=hfp L _ hLS hL
 have hSI:S≠I:=by simpa using hI _ _ ho
 refine R6z (N5z (FQ ⟨_,hS₁,rfl⟩ ?_));refine P4z (λ_=>?_) (λ_=>S6z ⟨R5z PySem.F.plain_extend_loop _,key m I h' c₀ _ d ha hmp hSI hLf hI hst (λb o _ e=>hk b o e) hL₁⟩);refine R6z (T6z ?_);refine R6z ?_;show wpAny _ _ (updateSeq L (·.push .none) >>=λ_=>updateSeq L (·.pop)) _ _ _;refine R6z (Q4z hL₁ rfl ?_);have hL₂:=Heap.get?_update_self (Obj.mapSeq (·.push Value.none)) hL₁ rfl;refine Q4z (hz:=by seq_fits) hL₂ rfl ?_;have hL₃:=Heap.get?_update_self (Obj.mapSeq (·.pop)) hL₂ rfl;refine S6z ⟨R5z PySem.F.plain_extend_loop _,key m I _ _ _ d ha hmp hSI hLf hI ?_ (λb o hb e=>?_) hL₃⟩
 .refine(walks (prog:=prog) (A:=A.in1) (m:=m) hh hSI hmp hf ha).frame 0 _ _ hst λb hb o e=>?_
  have hbL:b≠L:=λh=>hLf (h▸hb);exact(Heap.get?_update_other _ _ (E7z hbL)).trans ((Heap.get?_update_other _ _ (E7z hbL)).trans e)
 .exact(Heap.get?_update_other _ _ (E7z hb)).trans ((Heap.get?_update_other _ _ (E7z hb)).trans (hk _ _ e))
theorem tW{R:List Value->Shared->Prop}(hh:A.handled=none)(ho:s.heap.get? S=some (nH es ep t))(hf:t.fits es.size=true)(hp:t.plain=false)(h1:1<es.size)(hz:es.size<=sizeLine)
  (h:∀(h':Heap)(tk:Nat)(d:Drawn)(acc:List Value),(∀b o,s.heap.get? b=some o->h'.get? b=some o)->acc.Perm (es.toList.map (·.2))->R acc {s with heap:=h',toks:=tk,drawn:=d}) :
  wpAny (model prog w) A (collect (.ref S)) R E s:=by
 unfold collect;refine R6z (G5z (O4z entry_proto_collect' ?_));rw[J1z PySem.F.plain_proto_collect _];show wpAny _ A.in1 (newList [] >>=λl=>again (.builtin "list.__iadd__" ⟨[l,.ref S],[]⟩)) _ _ s;refine R6z (M2z ?_);refine S6z ⟨R5z PySem.F.plain_list_iadd _,O4z entry_list_iadd' ?_⟩;rw[J1z PySem.F.plain_list_iadd _];have hS₁:(s.heap.push {cls:=.type "list",data:=.seq ([]:List Value).toArray}).get? s.heap.objs.size=some {cls:=.type "list",data:=.seq #[]}:=Heap.get?_push_size _ rfl;show wpAny _ A.in1 (Builtin.List.listExtendWith (.ref s.heap.objs.size) (.ref S) (.ref s.heap.objs.size)) _ _ _
 have key:=xQ (prog:=prog) (w:=w) (A:=A) (s:={s with heap:=s.heap.push {cls:=.type "list",data:=.seq ([]:List Value).toArray} })
  (R:=λ(q:Result)(s':Shared)=>∃(h':Heap)(tk:Nat)(d:Drawn)(acc':Array Value)(c':Nat), q=.ok (.ret (.ref s.heap.objs.size))/\s'={s with heap:=h', toks:=tk, drawn:=d} /\
   (∀b o,s.heap.get? b=some o->h'.get? b=some o)/\h'.get? s.heap.objs.size=some {cls:=.type "list",dict:=none,data:=.seq acc' c',slots := #[]}/\acc'.toList.Perm (es.toList.map (·.2)))
  hh (Heap.get?_push_of_some _ ho) hf hp h1 hz s.heap.objs.size (D6z (Z5z ho)) (.ref s.heap.objs.size) 0 hS₁
  (λh' tk d acc' c' hk hS' hacc=>⟨h',tk,d,acc',c',rfl,rfl,λb o e=>hk b o (A6z (Z5z e)) (Heap.get?_push_of_some _ e),hS',hacc⟩)
 refine Q6z key (λfin s' x=>?_) λe s' x=>?_
 .cases fin with
  |done f =>
   obtain⟨h',tk,d,acc',c',e,rfl,hk,hS',hacc⟩:=x;cases e;show wpAny _ A (load s.heap.objs.size >>=_) _ _ _;refine R6z (wpAny_load hS' ?_);exact S6z (h h' tk d acc'.toList hk hacc)
  |again c₁ =>
   refine⟨x.1,E6z x.2 λq s₂ y=>?_⟩;obtain⟨h',tk,d,acc',c',rfl,rfl,hk,hS',hacc⟩:=y;show wpAny _ A (load s.heap.objs.size >>=_) _ _ _;refine R6z (wpAny_load hS' ?_);exact S6z (h h' tk d acc'.toList hk hacc)
 .obtain⟨_,_,_,_,_,e',_⟩:=x
  cases e'
end
end SetS
namespace SetS
open PySem PySem.W PySem.Spec PyProof.Rows PySem.Calls L2
def kvV:Value->Str
 |.str x _=>x
 |_=>⟨#[]⟩
theorem O7:∀{acc:List Value},(∀v∈acc,∃x t,v=Value.str x t)->StrsAre acc (acc.map kvV)
 |[],_=>.nil
 |v::r,h=>by
  obtain⟨x,t,rfl⟩:=h v (by simp);exact .cons x t (O7 λu hu=>h u (E1z _ hu))
section
variable{prog:Program}{w:World}{A:Around}{E:Value->Shared->Prop}{s:Shared}{S:Addr}{es:Array (Int×Value)}{ep:Nat}{t:SetTable}{l:List Str}
theorem SOk.vals(W:SOk prog w es t l):∀v∈es.toList.map (·.2),∃x tk,v=Value.str x tk:=λv hv=>by
 obtain⟨e,he,rfl⟩:=List.mem_map.mp hv;obtain⟨k,hk⟩:=W.el.keys e he;obtain⟨h0,u⟩:=e;have hk':Value.isStrOf k u=true:=hk
 cases u<;>simp[Value.isStrOf] at hk' ⊢
theorem lO{Q:Value->Shared->Prop}(hh:A.in1.handled=none)(W:SOk prog w es t l)(ho:s.heap.get? S=some (nH es ep t))(h2:2<=l.length)(h64:l.length<64)
  (hQ:∀h' tk d L e ss vs,(∀b o,s.heap.get? b=some o->h'.get? b=some o)->s.heap.get? L=none->h'.get? L=some (seqObj "list" vs e)->StrsAre vs.toList ss->ss.Perm l->sortedS ss=true->Q (.ref L) {s with heap:=h',toks:=tk,drawn:=d}) :
  wpAny (model prog w) A (call (.builtin "sorted") [.ref S]) Q E s:=by
 have hz:es.size=l.length:=by have:=W.pm.length_eq;simpa using this
 have h64s:(64:Nat)<=sizeLine:=by decide
 refine call_function_entry kind_sorted plain_sorted entry_sorted (args_sorted1 _) ?_;unfold Builtin.«sorted»;refine R6z (m:=checkCount "sorted" 1 1 _) (S6z ?_);refine R6z (tW (A:=A.in1) hh ho W.f (W.pl (by intro e;subst e;simp at h2)) (by omega) (by omega) λh' tk d acc hk hacc=>?_);have hS:StrsAre acc (acc.map kvV):=O7 λv hv=>W.vals v (hacc.mem_iff.mp hv)
 have hp0:(acc.map kvV).Perm l:=by
  refine(hacc.map kvV).trans ?_;rw[H6z];exact W.pm
 have hl:acc.length=l.length:=by have:=hp0.length_eq;simpa using this
 generalize acc.map kvV=ks at hS hp0;refine R6z (wpAny_newList ?_ (by omega));have hoL:(h'.push {cls:=.type "list",data:=.seq acc.toArray}).get? h'.objs.size=some (seqObj "list" acc.toArray 0):=Heap.get?_push_size _ rfl;refine R6z (N5z (I3z slot_list_sort ⟨_,hoL,rfl⟩ entry_list_sort ?body (args_list_sort _)))
 case body =>
  refine list_sort_treeK (s:={s with heap:=h'.push {cls:=.type "list",data:=.seq acc.toArray},toks:=tk,drawn:=d}) strKind_oneLt hoL hS.keysOf (λv1 v2 rest e=>keyKind_strs (by rw[<- e];exact hS)) (by omega) λst' hp hs=>?_
  obtain⟨ss,g1,g2,g3⟩:=sorted_out_str hS hp hs;generalize (arrOf st').map (·.2)=out at g1;refine⟨_,rfl,S6z ⟨_,rfl,?_⟩⟩
  have hn:s.heap.get? h'.objs.size=none:=by
   cases e:s.heap.get? h'.objs.size with
   |none=>rfl
   |some o=>exact absurd (Z5z (hk _ _ e)) (M5z _)
  obtain⟨ep',hat'⟩:=sortedHeap_at (out:=out) hoL
  exact hQ _ _ _ _ ep' ss out (λb u e=>by
   have e':=hk b u e;have hb:b≠h'.objs.size:=A6z (Z5z e');rw[sortedHeap_old hb (by rw[Z4z];exact Q2z (Z5z e'))]
   exact Heap.get?_push_of_some _ e') hn hat' g1 (g2.trans hp0) g3
end
end SetS
namespace L2
open PySem PySem.Spec PyProof.Rows DE PySem.SeqAt
section
variable{X:Cx}{ρ:Rho}{cx:Cxt}{k:Nat}{sc:Scope}
theorem yx:∀{vs:List V}{us:List Value},vs.length=us.length->(∀(i:Nat)(v:V)(u:Value),vs[i]?=some v->us[i]?=some u->RelV v u)->Vals vs us
 |[],[],_,_=>.nil
 |[],u::us,h,_=>by simp at h
 |v::vs,[],h,_=>by simp at h
 |v::vs,u::us,h,hr=>.cons (hr 0 v u rfl rfl) (yx (by simpa using h) λi a b e1 e2=>hr (i+1) a b (by simpa using e1) (by simpa using e2))
theorem uK{K:Zf}{f:α->D}{g:α->V}(h:∀x,Rep K H (f x) (g x)):∀l:List α,aJ K H (l.map f) (l.map g)
 |[]=>.nil
 |x::r=>.cons (h x) (uK h r)
theorem mF(h:fW i=true):-(2^62)<=i/\i<2^62:=by
 unfold fW at h;rw[J3z,W2z,W2z] at h;exact h
theorem vf(m:Moved wr (λa b=>b=a) s s'):s'={s with heap:=s'.heap,toks:=s'.toks}:=by
 have h1:=m.gens;have h2:=m.drawn;have h3:=m.os;cases s;cases s';subst h1 h2 h3;rfl
theorem Lq(G:Good cx k X sc)(hx:bw cx sc x=some "tuple")(hy:bw cx sc y=some "reversed")(ha:Ev X ρ a (.tup xs))(hp:aG a=true) :
  Ev X ρ (.Call (.Name x p) [.Call (.Name y q) [a] [] q'] [] pos) (.tup xs.reverse):=by
 obtain⟨hg,hm,rfl⟩:=bZ G hx;obtain⟨hg2,hm2,rfl⟩:=bZ G hy;intro σ H Hs Q hs hst hq z0 s I;refine Call_ (eG I hg hm (show bootBuiltins "tuple"=some (.type "tuple") by decide +kernel) (A0z ?_ rfl rfl));refine Z1z ?_;refine Call_ (eG I hg2 hm2 boot_reversed (A0z ?_ (aj hp) rfl))
 refine thn ((au ak aK (aj hp)) q' z0 s σ H (λvs H1=>∃Hs1 b ws,vs=[.ref b]/\SqT X.K Hs1 b ws/\aJ X.K Hs1 xs ws/\Ext Hs H Hs1 H1) I (ha σ H Hs _ hs hst λv H1 Hs1 E1 r1=>by
  obtain⟨b,ws,rfl,h1,h2⟩:=bU r1
  exact⟨Hs1,b,ws,rfl,h1,h2,E1⟩)) λus s1 ⟨vs,H1,I1,r1,Hs1,b,ws,e1,t1,r2,E1⟩=>?_
 subst e1;obtain⟨u,w1,rfl,rx,rr⟩:=yD r1;cases rr;cases rx;obtain⟨its,rv,pt,hz⟩:=I1.tuple (E1.sub.tup t1);have hl:=rv.length;refine qT pt (by simp;omega) λtk=>O2z ?_;have st:d8 (s1.heap.push (JD b ((its.toArray.size:Int)-1))) s1.heap.objs.size b ((its.toArray.size:Int)-1):=Heap.get?_push_size _ rfl;have I2:Inv X z0 σ H1 {s1 with heap:=s1.heap.push (JD b ((its.toArray.size:Int)-1)),toks:=tk}:=I1.kept λb o e=>Heap.get?_push_of_some _ e;obtain⟨f0,f1,f2,f3,f4,f5⟩:=I1.fpOk (I6z _) (I1.hok.fresh (I6z _))
 have pt2:IsTup (s1.heap.push (JD b ((its.toArray.size:Int)-1))) b its.toArray:=by
  obtain⟨o,e1,e2⟩:=pt;exact⟨o,Heap.get?_push_of_some _ e1,e2⟩
 refine lN (I1.ok.hd G.calm) st pt2 (by simp;omega) λs' acc hm hacc=>?_
 have I3:Inv X z0 σ H1 s':=by
  rw[vf hm];exact I2.turned (λc o hc e=>hm.heap c o (by simpa using hc) e) f0 f1 f3 f4 f5
 have hv:Vals ws.reverse acc.toList:=by
  have ha:acc.toList.length=its.length:=by
   have:=hacc.1;simpa using this
  refine yx (by rw[U1z,ha];exact hl) λi v u e1 e2=>?_
  have e3:=hacc.2 i u (by simpa using e2);rw[P2z,List.getElem?_toArray] at e3
  have hi:i<ws.length:=by have:=(List.getElem?_eq_some_iff.mp e1).1;simpa using this
  rw[List.getElem?_reverse hi] at e1;obtain⟨u',e4,e5⟩:=rv.get e1;rw[hl] at e4;rw[e3] at e4;cases e4;exact e5
 have hz2:ws.reverse.length<=sizeLine:=by simpa using hz
 have I4 :=
  I3.laid (t':=s'.toks) (λb o e=>Heap.get?_push_of_some _ e) (I6z _) (show dR X.prog X.w _ _ _ (.tup ws.reverse) from⟨hz2,acc.toList,hv,by simpa using Z6z s'.heap acc⟩)
 exact⟨.ref s'.heap.objs.size,_,I4,rfl,fZ E1.sub r2.reverse (I3.hok.fresh (I6z _)) λw H' Hs' E2 r2=>hq w H' Hs' (E1.trans E2) r2⟩
variable{tg iter a b:Expr}
theorem Mi(h:Ev X ρ iter d)(hl:items d=some l):EvI X ρ tg iter l:=by
 intro σ H Hs R hs hst hq
 cases d with
 |lst xs =>
  simp[items,Y2z] at hl;subst hl
  refine(nQ ak).sem (h σ H Hs _ hs hst λv H1 Hs1 E1 r1=>?_);obtain⟨p,vs,rfl,h1,h2⟩:=cu r1;refine⟨p,rfl,⟨vs,E1.sub.seq h1⟩,hq _ H1 Hs1 E1 λHs' H' e1 e2=>⟨⟨vs,e2.seq (e1.seq h1),by rw[h2.length];exact I6z _⟩,λi d hd=>?_⟩⟩;obtain⟨v,g1,g2⟩:=h2.get hd;refine⟨⟨vs,v,e2.seq (e1.seq h1),g1⟩,λx H2 y=>?_⟩;obtain⟨rfl,y⟩:=y;have:=y vs (e2.seq (e1.seq h1));rw[g1] at this;cases this;exact⟨Hs',.refl e2,Rep.same e1 d v g2⟩
 |tup xs =>
  simp[items,Y2z] at hl;subst hl
  refine(Qh ak).sem (h σ H Hs _ hs hst λv H1 Hs1 E1 r1=>?_);obtain⟨p,vs,rfl,h1,h2⟩:=bU r1;refine⟨p,rfl,⟨vs,E1.sub.tup h1⟩,hq _ H1 Hs1 E1 λHs' H' e1 e2=>⟨⟨vs,e2.tup (e1.tup h1),by rw[h2.length];exact I6z _⟩,λi d hd=>?_⟩⟩;obtain⟨v,g1,g2⟩:=h2.get hd;refine⟨⟨vs,v,e2.tup (e1.tup h1),g1⟩,λx H2 y=>?_⟩;obtain⟨rfl,y⟩:=y;have:=y vs (e2.tup (e1.tup h1));rw[g1] at this;cases this;exact⟨Hs',.refl e2,Rep.same e1 d v g2⟩
 |_=>simp[items] at hl
theorem Mh{d:D}{l:List D}(kw:KnW X.K X.w)(h:Ev X ρ iter d)(hl:qt d=some l):EvI X ρ tg iter l:=by
 cases d with
 |str x =>
  simp only[qt] at hl;split at hl
  .rename_i ha
   cases hl;intro σ H Hs R hs hst hq;refine(Qi (tg:=tg) ak).sem (h σ H Hs _ hs hst λv H1 Hs1 E1 r1=>?_)
   have e:v=.str x:=by simpa[Rep] using r1
   subst e;refine⟨x,rfl,ha,hq _ H1 Hs1 E1 λHs' H' e1 e2=>⟨?_,λi d hd=>?_⟩⟩
   .show x.cps.size<=_
    simp
   .rw[List.getElem?_map] at hd
    obtain⟨c,h1,rfl⟩:=R0z.mp hd
    have hi:i<x.cps.size:=by
     have:=(List.getElem?_eq_some_iff.mp h1).1;simpa using this
    refine⟨hi,λy H2 hy=>?_⟩;obtain⟨rfl,c',h2,rfl⟩:=hy
    have:c'=c:=by
     rw[<- Array.getElem?_toList] at h2;rw[h1] at h2;cases h2;rfl
    subst this;exact⟨Hs',.refl e2,by simp[Rep]⟩
  .cases hl
 |_=>exact Mi h hl
theorem lA{K:Zf}{lo hi:Int}(hn:n=(hi-lo).toNat):uf K (Itr lo n) Hs0 (eF lo hi):=by
 have hl:(eF lo hi).length=n:=by rw[hn];simp[eF]
 intro Hs H e1 e2;refine⟨by show n<=_;rw[hl];exact I6z _,λi d hd=>?_⟩
 have hi:i<n:=by have:=(List.getElem?_eq_some_iff.mp hd).1;rw[hl] at this;exact this
 refine⟨hi,λx H' y=>?_⟩;obtain⟨rfl,rfl⟩:=y;refine⟨Hs,.refl e2,?_⟩;unfold eF at hd;rw[List.getElem?_map] at hd;obtain⟨j,e3,rfl⟩:=R0z.mp hd;rw[List.getElem?_eq_some_iff] at e3;obtain⟨_,e3⟩:=e3;subst e3;simp[Rep]
theorem xW(G:Good cx k X sc)(hx:bw cx sc x=some "range")(ha:Ev X ρ a (.int j))(hp:aG a=true)(hj:fW j=true):EvI X ρ tg (.Call (.Name x p) [a] [] pos) (eF 0 j):=by
 obtain⟨hg,hm,rfl⟩:=bZ G hx;intro σ H Hs R hs hst hq;refine PI.sem (z6 (tg:=tg) (p:=p) (pos:=pos) hg hm (au (ak (X:=X) (e:=a)) aK (aj hp)) (aj hp)) (ha σ H Hs _ hs hst λv H1 Hs1 E1 r1=>?_);exact⟨j,by rw[aO r1],(mF hj).1,(mF hj).2,hq _ H1 Hs1 E1 (lA (by simp))⟩
theorem xV{x:Str}{i j:Int}{p pos:Pos}(G:Good cx k X sc)(hx:bw cx sc x=some "range")(ha:Ev X ρ a (.int i))(hp:aG a=true)(hb:Ev X ρ b (.int j))(hpb:aG b=true)(hi:fW i=true)(hj:fW j=true):EvI X ρ tg (.Call (.Name x p) [a,b] [] pos) (eF i j):=by
 obtain⟨hg,hm,rfl⟩:=bZ G hx;intro σ H Hs R hs hst hq;have q:=zZ (tg:=tg) (p:=p) (pos:=pos) hg hm (au (ak (X:=X) (e:=a)) (au (ak (X:=X) (e:=b)) aK (aj hpb)) (aj hp)) (by rw[aj hp,aj hpb];rfl) (aj hpb);refine PI.sem q (ha σ H Hs _ hs hst λv H1 Hs1 E1 r1=>hb σ H1 Hs1 _ E1.sub (hst.same E1.vis) λv' H2 Hs2 E2 r2=>?_);exact⟨i,j,by rw[aO r1,aO r2],⟨(mF hi).1,(mF hi).2,(mF hj).1,(mF hj).2⟩,hq _ H2 Hs2 (E1.trans E2) (lA rfl)⟩
theorem Mj(G:Good cx k X sc)(hx:bw cx sc x=some "reversed")(ha:Ev X ρ a (.tup xs))(hp:aG a=true):EvI X ρ tg (.Call (.Name x p) [a] [] pos) xs.reverse:=by
 obtain⟨hg,hm,rfl⟩:=bZ G hx;intro σ H Hs R hs hst hq;refine PI.sem (Qj (tg:=tg) (p:=p) (pos:=pos) hg hm (au (ak (X:=X) (e:=a)) aK (aj hp)) (aj hp)) (ha σ H Hs _ hs hst λv H1 Hs1 E1 r1=>?_);obtain⟨b,vs,rfl,h1,h2⟩:=bU r1;have hl:=h2.length;refine⟨b,vs,rfl,E1.sub.tup h1,hq _ H1 Hs1 E1 λHs' H' e1 e2=>⟨by show _=_;rw[U1z,hl],λi d hd=>?_⟩⟩
 have hi:i<xs.length:=by have:=(List.getElem?_eq_some_iff.mp hd).1;simpa using this
 rw[List.getElem?_reverse hi] at hd;obtain⟨v,g1,g2⟩:=h2.get hd;rw[hl] at g1;refine⟨⟨vs,e2.tup (e1.tup h1),rfl,by rw[<- hl];exact hi⟩,λx H2 y=>?_⟩;obtain⟨rfl,y⟩:=y;have:=y vs (e2.tup (e1.tup h1));rw[g1] at this;cases this;exact⟨Hs',.refl e2,Rep.same e1 d v g2⟩
theorem Mg(G:Good cx k X sc)(hx:bw cx sc x=some "zip")(ha:Ev X ρ a (.tup xs))(hp:aG a=true)(hb:Ev X ρ b (.tup ys))(hpb:aG b=true) :
  EvI X ρ (.Tuple es kt pt) (.Call (.Name x p) [a,b] [] pos) ((xs.zip ys).map λq=>.tup [q.1,q.2]):=by
 obtain⟨hg,hm,rfl⟩:=bZ G hx;intro σ H Hs R hs hst hq;refine PI.sem (Qg (es:=es) (kt:=kt) (pt:=pt) (p:=p) (pos:=pos) hg hm (au (ak (X:=X) (e:=a)) (au (ak (X:=X) (e:=b)) aK (aj hpb)) (aj hp)) (by rw[aj hp,aj hpb];rfl) (aj hpb)) (ha σ H Hs _ hs hst λv H1 Hs1 E1 r1=>hb σ H1 Hs1 _ E1.sub (hst.same E1.vis) λv' H2 Hs2 E2 r2=>?_);obtain⟨c,vs,rfl,h1,h2⟩:=bU (Rep.same E2.vis _ _ r1);obtain⟨d,us,rfl,h3,h4⟩:=bU r2;have l1:=h2.length;have l2:=h4.length;refine⟨c,d,rfl,⟨vs,E2.sub.tup h1⟩,⟨us,E2.sub.tup h3⟩,hq _ H2 Hs2 (E1.trans E2) λHs' H' e1 e2=>⟨⟨vs,us,e2.tup (e1.tup h1),e2.tup (e1.tup h3),?_⟩,λi z hz=>?_⟩⟩
 .rw[F4z,W4z]
  omega
 .rw[List.getElem?_map] at hz
  obtain⟨⟨x1,y1⟩,e3,rfl⟩:=R0z.mp hz;rw[List.getElem?_zip_eq_some] at e3;obtain⟨v1,g1,g2⟩:=h2.get e3.1;obtain⟨v2,g3,g4⟩:=h4.get e3.2;refine⟨⟨vs,us,v1,v2,e2.tup (e1.tup h1),e2.tup (e1.tup h3),g1,g3⟩,λw H3 y=>?_⟩;obtain⟨p,hp',rfl,y⟩:=y;rw[y vs us v1 v2 (e2.tup (e1.tup h1)) (e2.tup (e1.tup h3)) g1 g3];refine⟨_,Ext.new e2 (.tup [v1,v2]) hp',?_⟩;have sm:=(Ext.new e2 (.tup [v1,v2]) hp').vis;exact⟨p,[v1,v2],rfl,.of aA,.cons (Rep.same sm _ _ (Rep.same e1 _ _ g2)) (.cons (Rep.same sm _ _ (Rep.same e1 _ _ g4)) .nil)⟩
theorem yC{ls:List Str}:∀{us:List Value}{l:List Str},Vals (l.map V.str) us->∀(i:Nat)(v:Value),us[i]?=some v->∃t,v=Value.str (l.getD i ⟨#[]⟩) t
 |_,[],h,i,v,e=>by rw[G6z] at h;cases h;cases e
 |_,k::l,h,i,v,e=>by
  rw[O5z] at h
  cases h with
  |cons h1 h2 =>
   cases i with
   |zero=>cases e;exact h1
   |succ i=>exact yC (ls:=ls) h2 i v e
theorem range_getD(l:List Str):(List.range' 0 l.length).map (λi=>l.getD i ⟨#[]⟩)=l:=by
 refine P3z (by simp) λi q1 q2=>?_;simp[List.getElem_range',List.getD_eq_getElem?_getD,q2]
theorem GQ(l:List Str):∀r:List Str,(l.foldl (λl k=>if k∈l then l else l++[k]) r).length<=r.length+l.length:=by
 induction l with
 |nil=>intro r;exact I6z _
 |cons a l ih =>
  intro r;refine B6z (ih _) ?_;dsimp only;split
  .simp only[E3z];omega
  .simp only[B2z,E3z,R4z];omega
theorem xU{x y:Str}{a:Expr}{xs:List D}{l l':List Str}{p q q' pos:Pos}(G:Good cx k X sc)(hx:bw cx sc x=some "sorted")(hy:bw cx sc y=some "set")(ha:Ev X ρ a (.lst xs))(hp:aG a=true)(hn:m9 xs=some l)(hz:xs.length<64)(h2:2<=(Mx l).length)(hs':Pb (Mx l)=some l') :
  Ev X ρ (.Call (.Name x p) [.Call (.Name y q) [a] [] q'] [] pos) (.lst (l'.map .str)):=by
 obtain⟨hg,hm,rfl⟩:=bZ G hx;obtain⟨hg2,hm2,rfl⟩:=bZ G hy;intro σ H Hs Q hs hst hq z0 s I;refine Call_ (eG I hg hm (show bootBuiltins "sorted"=some (.builtin "sorted") by decide +kernel) (PyProof.Rows.callWith_builtin1 ?_ rfl rfl));show wpAny _ _ (spliced [(false,eval (.Call (.Name _ q) [a] [] q') X.env)]) _ _ _;refine Z1z ?_;refine Call_ (eG I hg2 hm2 (show bootBuiltins "set"=some (.type "set") by decide +kernel) (A0z ?_ (aj hp) rfl))
 refine thn ((au ak aK (aj hp)) q' z0 s σ H (λvs H1=>∃Hs1 b ws,vs=[.ref b]/\SqL X.K Hs1 b ws/\aJ X.K Hs1 xs ws/\Ext Hs H Hs1 H1) I (ha σ H Hs _ hs hst λv H1 Hs1 E1 r1=>by
  obtain⟨b,ws,rfl,h1,h2⟩:=cu r1
  exact⟨Hs1,b,ws,rfl,h1,h2,E1⟩)) λus s1 ⟨vs,H1,I1,r1,Hs1,b,ws,e1,t1,r2,E1⟩=>?_
 subst e1;obtain⟨u,w1,rfl,rx,rr⟩:=yD r1;cases rr;cases (show u=Value.ref b from rx);obtain⟨its,rv,pt,hz'⟩:=I1.list (E1.sub.seq t1);have hl:=rv.length;have hl2:=r2.length;have e:=jd hn r2;subst e
 have ln:its.length=l.length:=by rw[<- hl,F4z]
 have lx:xs.length=l.length:=by rw[hl2,F4z]
 have sz:its.toArray.size=l.length:=by rw[P2z,ln]
 refine SetS.G4 (val:=λi=>l.getD i ⟨#[]⟩) (I1.ok.hd G.calm) pt.isList (λi v hv=>yC (ls:=l) rv i v (by rw[<- Array.getElem?_toList] at hv;exact hv)) (by rw[sz];show l.length+1<4096;omega) λh' tk ep es t hS W kp=>O2z ?_
 rw[sz,range_getD] at W;have hle:(Mx l).length<=0+l.length:=GQ l [];have I2:Inv X z0 σ H1 {s1 with heap:=h',toks:=tk}:=I1.kept (t':=tk) λc o e=>kp c o (Z5z e) e;refine SetS.lO (s:={s1 with heap:=h',toks:=tk}) (show X.A.in1.handled=none from I1.ok.hd G.calm) W hS h2 (by show(Mx l).length<64;omega) λh2 tk2 d L e ss vs hk2 hn2 hl2 hss hpm hsrt=>?_;obtain⟨hH,J⟩:=I2.laidAt (a:=L) (o:=.lst (ss.map V.str)) (t':=tk2) (h':=h2) hk2 hn2 ⟨by show(ss.map V.str).length<=sizeLine;rw[F4z,hpm.length_eq];exact B6z (by show(Mx l).length<=64;omega) (by decide),vs.toList,e,j4 hss,hl2⟩;have J2:Inv X z0 σ (upd H1 L (.lst (ss.map V.str))) {s1 with heap:=h2,toks:=tk2,drawn:=d}:=⟨J.ok,J.os,J.bare,J.base,J.loc,J.cell,J.free,J.freeC,J.pin,J.hok,J.len⟩;have es':=zq hs' hpm hsrt;subst es';exact⟨.ref L,_,J2,rfl,nW E1.sub (strs_rep ss) hH λw H' Hs' E' R'=>hq w H' Hs' (E1.trans E') R'⟩
where
 strs_rep {K:Zf} {H:Hp}:∀ss:List Str,aJ K H (ss.map D.str) (ss.map V.str)
  |[]=>rfl
  |s::r=>⟨_,_,rfl,by simp[Rep],strs_rep r⟩
theorem Mp{xs:List D}:(enD xs).length=xs.length:=by simp[enD]
theorem Mq{xs:List D}{i:Nat}{d:D}(h:(enD xs)[i]?=some d):∃x,xs[i]?=some x/\d=.tup [.int i,x]:=by
 unfold enD at h;rw[List.getElem?_map] at h;obtain⟨⟨x,j⟩,e1,e2⟩:=R0z.mp h;rw[List.getElem?_zipIdx] at e1;obtain⟨y,e3,e4⟩:=R0z.mp e1;simp at e4;obtain⟨rfl,rfl⟩:=e4;exact⟨y,e3,e2.symm⟩
theorem Gs{x:Str}{xs:List D}{p pos pt:Pos}{es:List Expr}{kt:Nat}(G:Good cx k X sc)(hx:bw cx sc x=some "enumerate")(ha:Ev X ρ a (.tup xs))(hp:aG a=true) :
  EvI X ρ (.Tuple es kt pt) (.Call (.Name x p) [a] [] pos) (enD xs):=by
 obtain⟨hg,hm,rfl⟩:=bZ G hx;intro σ H Hs R hs hst hq;have q:=J1 (es:=es) (kt:=kt) (pt:=pt) (p:=p) (pos:=pos) hg hm (au (ak (X:=X) (e:=a)) aK (aj hp)) (aj hp);refine PI.sem q (ha σ H Hs _ hs hst λv H1 Hs1 E1 r1=>?_);obtain⟨c,vs,rfl,h1,h2⟩:=bU r1;refine⟨c,rfl,⟨vs,E1.sub.tup h1⟩,hq _ H1 Hs1 E1 λHs' H' e1 e2=>⟨⟨vs,e2.tup (e1.tup h1),by rw[Mp,h2.length]⟩,λi d hd=>?_⟩⟩;obtain⟨y,e3,rfl⟩:=Mq hd;obtain⟨w,g1,g2⟩:=h2.get e3;refine⟨⟨vs,w,e2.tup (e1.tup h1),g1⟩,λu H2 yl=>?_⟩;obtain⟨p,hp',rfl,yl⟩:=yl;rw[yl vs w (e2.tup (e1.tup h1)) g1];refine⟨_,Ext.new e2 (.tup [.int i,w]) hp',?_⟩;have sm:=(Ext.new e2 (.tup [.int i,w]) hp').vis;simp only[Rep];exact⟨p,[.int i,w],rfl,.of aA,.cons (by simp[Rep]) (.cons (Rep.same sm _ _ (Rep.same e1 _ _ g2)) .nil)⟩
end
theorem aV(h:(x >>=f)=some y):∃a,x=some a/\f a=some y:=by
 cases x with
 |none=>cases h
 |some a=>exact⟨a,rfl,h⟩
def Gb(X:Cx)(tg:Expr):TG:=λv σ H Q=>∀z0 s u,Inv X z0 σ H s->RelV v u->wpAny (model X.prog X.w) X.A (assign tg X.env u) (λ_ s'=>∃σ' H',Inv X z0 σ' H' s'/\Q σ' H') X.xe s
def Lb(X:Cx)(es:List Expr):TGs:=λvs σ H Q=>∀z0 s us,Inv X z0 σ H s->Vals vs us->wpAny (model X.prog X.w) X.A (assignInOrder ((assignEach es X.env).map (·.2)) us) (λ_ s'=>∃σ' H',Inv X z0 σ' H' s'/\Q σ' H') X.xe s
section
variable{X:Cx}{tg:Expr}{es:List Expr}
theorem iK:PG X tg (Gb X tg):=λz0 s σ H v u Q I r h=>h z0 s u I r
theorem PG.sem(h:PG X tg t)(q:t v σ H Q):Gb X tg v σ H Q:=λz0 s u I r=>h z0 s σ H v u Q I r q
theorem sE:PGs X es (Lb X es):=λz0 s σ H v u Q I r h=>h z0 s u I r
theorem PGs.sem(h:PGs X es t)(q:t v σ H Q):Lb X es v σ H Q:=λz0 s u I r=>h z0 s σ H v u Q I r q
end
theorem aP:∀(ρ:Rho)(x:Str)(v:Sl),(eE ρ x v).map (·.1)=ρ.map (·.1)
 |[],_,_=>rfl
 |(y,s)::r,x,v=>by
  unfold eE;split
  .rfl
  .simp[aP r x v]
theorem cG:∀{ρ:Rho}{x:Str}{v:Sl}{i:Nat},(ρ.map (·.1)).Nodup->(ρ.map (·.1))[i]?=some x->∀j:Nat,(eE ρ x v)[j]?=if j=i then some (x,v) else ρ[j]?
 |[],x,v,i,_,h,_=>by simp at h
 |(y,s)::r,x,v,0,hn,h,j=>by
  simp at h;subst h
  cases j with
  |zero=>simp[eE]
  |succ j=>simp[eE]
 |(y,s)::r,x,v,i+1,hn,h,j=>by
  rw[O5z,J4z] at hn
  have h':(r.map (·.1))[i]?=some x:=by simpa using h
  have hne:(x==y)=false:=by
   rw[Q1z];intro e;subst e;exact hn.1 (List.mem_of_getElem? h')
  simp[eE,hne,D2z,C7z]
  cases j with
  |zero=>simp
  |succ j =>
   have:=cG (v:=v) hn.2 h' j;simp[List.getElem?_cons_succ,this,Nat.add_right_cancel_iff]
theorem cD{l:List Str}(h:l.contains x=true):∃i:Nat,l[i]?=some x:=by
 have:=List.mem_of_elem_eq_true h;exact List.mem_iff_getElem?.mp this
structure Owns(X:Cx)(scope:Scope):Prop where
 own:∀x,ownIn scope x=true->Loc X.env.scope x/\(X.fn x=true\/X.env.scope.names.lookup x=some .local)
def nq(K:Zf)(Hs:Hp)(scope:Scope)(P:Rho->St->Prop):Prop:=∀ρ σ (i:Nat) x d v,(ρ.map (·.1)).Nodup->(ρ.map (·.1))[i]?=some x->ownIn scope x=true->P ρ σ->Rep K Hs d v->P (eE ρ x (.sh d)) (σ.set i (some v))
section
variable{X:Cx}{scope:Scope}{Hs H:Hp}{P:Rho->St->Prop}{Q:St->Hp->Prop}
theorem qW(hO:Owns X scope)(hnd:X.N.Nodup)(hN:X.N=ρ.map (·.1))(KE:nq X.K Hs scope P)(hb:(if ownIn scope x&&(ρ.map (·.1)).contains x then some (eE ρ x (.sh d)) else none)=some ρ')(hp:P ρ σ)(rd:Rep X.K Hs d v)
  (hq:∀σ',X.N=ρ'.map (·.1)->P ρ' σ'->Q σ' H):Gb X (.Name x pos) v σ H Q:=by
 split at hb
 .rename_i hc
  cases hb;rw[J3z] at hc;obtain⟨i,hi⟩:=cD hc.2;obtain⟨h1,h2⟩:=hO.own x hc.1;exact PG.sem (J4 hnd (by rw[hN];exact hi) h1 h2) (hq _ (by rw[aP];exact hN) (KE ρ σ i x d v (by rw[<- hN];exact hnd) hi hc.1 hp rd))
 .cases hb
theorem gG:∀{es:List Expr}{ds:List D}{ρ ρ':Rho},bindNames scope es ds ρ=some ρ'->(assignEach es env).length=es.length/\(assignEach es env).findIdx? (·.1)=none/\es.length=ds.length
 |[],[],_,_,_=>⟨rfl,rfl,rfl⟩
 |[],d::ds,ρ,ρ',h=>by simp[bindNames] at h
 |e::es,[],ρ,ρ',h=>by cases e<;>simp[bindNames] at h
 |e::es,d::ds,ρ,ρ',h=>by
  cases e<;>try (simp[bindNames] at h;done)
  rename_i x pos;simp only[bindNames] at h;split at h
  .obtain⟨h1,h2,h3⟩:=gG h
   refine⟨by show(assignEach es env).length+1=_;rw[h1];rfl,?_,by simp[h3]⟩
   show((false,assign (.Name x pos) env)::assignEach es env).findIdx? (·.1)=none;rw[List.findIdx?_cons];simp only[C7z,h2];rfl
  .cases h
theorem jt(hO:Owns X scope)(hnd:X.N.Nodup)(KE:nq X.K Hs scope P):∀{es:List Expr}{ds:List D}{vs:List V}{ρ ρ':Rho}{σ:St},X.N=ρ.map (·.1)->bindNames scope es ds ρ=some ρ'->P ρ σ->aJ X.K Hs ds vs->(∀σ',X.N=ρ'.map (·.1)->P ρ' σ'->Q σ' H)->Lb X es vs σ H Q
 |[],[],vs,ρ,ρ',σ,hN,h,hp,rd,hq=>by
  simp[bindNames,Y2z] at h;subst h;exact PGs.sem J3 ⟨rd,hq _ hN hp⟩
 |[],d::ds,vs,ρ,ρ',σ,hN,h,hp,rd,hq=>by simp[bindNames] at h
 |e::es,[],vs,ρ,ρ',σ,hN,h,hp,rd,hq=>by cases e<;>simp[bindNames] at h
 |e::es,d::ds,vs,ρ,ρ',σ,hN,h,hp,rd,hq=>by
  cases e<;>try (simp[bindNames] at h;done)
  rename_i x pos;simp only[bindNames] at h;split at h
  .rename_i hc
   obtain⟨v,r,rfl,r1,r2⟩:=rd;refine PGs.sem (Ei iK sE) ⟨v,r,rfl,?_⟩;exact qW hO hnd hN KE (by rw[G7z hc]) hp r1 λσ' hN' hp'=>jt hO hnd KE hN' h hp' r2 hq
  .cases h
theorem tZ(hc:X.calm=true)(hO:Owns X scope)(hnd:X.N.Nodup)(hs:Same Hs H)(hN:X.N=ρ.map (·.1))(KE:nq X.K Hs scope P)(hb:fH scope tg d ρ=some ρ')(hp:P ρ σ)(rd:Rep X.K Hs d v)
  (hq:∀σ',X.N=ρ'.map (·.1)->P ρ' σ'->Q σ' H):Gb X tg v σ H Q:=by
 unfold fH at hb;split at hb
 .exact qW hO hnd hN KE hb hp rd hq
 .obtain⟨a,vs,rfl,h1,h2⟩:=bU rd
  obtain⟨e1,e2,e3⟩:=gG hb;exact PG.sem (Hy hc sE e1 e2) ⟨a,vs,rfl,hs.tup h1,by rw[<- h2.length,e3],jt hO hnd KE hN hb hp h2 hq⟩
 .cases hb
end
section
variable{X Xc:Cx}{scope sc:Scope}{cx:Cxt}{k:Nat}{ρ:Rho}
theorem qe:∀{l:List Str},u6 l=true->l.Nodup
 |[],_=>.nil
 |x::r,h=>by
  unfold u6 at h;rw[J3z] at h;refine J4z.mpr ⟨λhm=>?_,qe h.2⟩
  have:r.contains x=true:=by simpa using hm
  rw[this] at h;exact absurd h.1 (by decide)
theorem dg(G:Good cx k X sc)(h:dN sc scope=true):scope.kind=.function/\(scope.names.map (·.1)).Nodup/\∀x,(x,NameKind.free)∈scope.names->X.env.kindOf x=some .cell\/X.env.kindOf x=some .free:=by
 unfold dN at h;rw[J3z,J3z] at h;refine⟨by simpa using h.1.1,qe h.1.2,λx hx=>?_⟩;have:=A4z.mp h.2 _ hx;show X.env.scope.names.lookup x=_\/X.env.scope.names.lookup x=_;rw[G.sce];simpa using this
theorem PX(G:Good cx k X sc):relabel scope X.env=jg scope sc:=by
 unfold relabel jg Env.kindOf;rw[G.sce]
theorem Good.comp(G:Good cx k X sc)(C:CompOf X scope Xc)(h:dN sc scope=true):Good cx k Xc (jg scope sc) where
 calm:=C.calm
 room:=by rw[C.A];exact G.room
 sce:=by rw[C.sc,PX G]
 kind:=(dg G h).1
 nd:=by rw[C.N];exact(dg G h).2.1
 cst:=by rw[C.mg,C.K];exact G.cst
 blt:=by rw[C.mg];exact G.blt
 exs:=by rw[C.mg,C.K];exact G.exs
 fns:=by rw[C.mg,C.prog,C.w,C.K,C.base];exact G.fns
 kw:=by rw[C.K,C.w];exact G.kw
theorem Owns.comp(G:Good cx k X sc)(C:CompOf X scope Xc):Owns Xc scope where
 own:=λx hx=>by
  unfold ownIn at hx;rw[S4z] at hx
  have look:∀kd,scope.names.lookup x=some kd->kd≠.free->Xc.env.scope.names.lookup x=some kd:=λkd e hne=>by
   rw[C.sc];show(scope.names.map _).lookup x=_;rw[eN,e];simp[hne]
  rcases hx with hx|hx
  .have e:scope.names.lookup x=some .local:=by simpa using hx
   have e2:=look _ e (by decide);exact⟨.inl e2,.inr e2⟩
  .have e:scope.names.lookup x=some .cell:=by simpa using hx
   have e2:=look _ e (by decide);refine⟨.inr e2,.inl ?_⟩;rw[C.fn];show(scope.names.lookup x==some .cell)=true;rw[e];rfl
theorem dO:(bH scope ρ).map (·.1)=scope.names.map (·.1):=by
 unfold bH;rw[H6z];rfl
theorem lK{K:Zf}(hN:N=ρ.map (·.1))(h:cJ K Hs ρ σ):cJ K Hs (bH scope ρ) (sO N scope.names σ):=by
 intro i x d e;unfold bH at e;rw[List.getElem?_map] at e;obtain⟨p,e1,e2⟩:=R0z.mp e
 cases hk:p.2==NameKind.free with
 |false=>rw[hk] at e2;simp at e2
 |true =>
  rw[hk] at e2;simp[Prod.mk.injEq] at e2;obtain⟨rfl,e2⟩:=e2
  have e3:ρ.lookup p.1=some (.sh d):=by
   cases q:ρ.lookup p.1 with
   |none=>rw[q] at e2;simp[Ue] at e2
   |some sl =>
    rw[q] at e2
    cases sl<;>simp[Ue] at e2
    rw[e2]
  obtain⟨j,g1,g2⟩:=eX e3;obtain⟨v,g3,g4⟩:=h j _ d g1;refine⟨v,?_,g4⟩;unfold sO;rw[List.getElem?_map,e1];simp only[K4z,hk];unfold uy;rw[hN,g2];simp[g3]
def CSt(K:Zf)(Hs:Hp)(n:Nat)(ρ0:Rho):Rho->St->Prop:=λρ σ=>σ.length=n/\cJ K Hs ρ σ/\cJ K Hs ρ0 σ
theorem pL{K:Zf}(hn:(ρ.map (·.1)).Nodup)(hi:(ρ.map (·.1))[i]?=some x)(hl:i<σ.length)(h:cJ K Hs ρ σ)(r:Rep K Hs d v):cJ K Hs (eE ρ x (.sh d)) (σ.set i (some v)):=by
 intro j y d' e;rw[cG hn hi j] at e;split at e
 .rename_i hj
  subst hj;cases e;exact⟨v,by rw[List.getElem?_set_self hl],r⟩
 .rename_i hj
  obtain⟨w,h1,h2⟩:=h j y d' e;exact⟨w,by rw[List.getElem?_set_ne (λz=>hj z.symm)];exact h1,h2⟩
theorem mV{K:Zf}(hnd:(scope.names.map (·.1)).Nodup)(hn:n=scope.names.length):nq K Hs scope (λρ1 σ=>ρ1.map (·.1)=scope.names.map (·.1)/\CSt K Hs n (bH scope ρ) ρ1 σ):=by
 intro ρ1 σ i x d v h1 h2 h3 ⟨h4,h5,h6,h7⟩ r;refine⟨by rw[aP];exact h4,by rw[X4z];exact h5,?_,?_⟩
 .have hi:i<σ.length:=by
   rw[h5,hn];have:=(List.getElem?_eq_some_iff.mp h2).1;rw[h4] at this;simpa using this
  exact pL h1 h2 hi h6 r
 .intro j y d' e
  obtain⟨w,g1,g2⟩:=h7 j y d' e;refine⟨w,?_,g2⟩
  have hj:i≠j:=by
   intro z;subst z;rw[h4] at h2;unfold bH at e;rw[List.getElem?_map] at e;rw[List.getElem?_map] at h2;obtain⟨p,e1,e2⟩:=R0z.mp e;rw[e1] at h2
   have ex:p.1=x:=by simpa using h2
   cases hk:p.2==NameKind.free with
   |false=>rw[hk] at e2;simp at e2
   |true =>
    have ek:p.2=.free:=by simpa using hk
    have hm:=List.mem_of_getElem? e1;have:=cB hnd (by rw[show p=(x,p.2) from by rw[<- ex]] at hm;exact hm);unfold ownIn at h3;rw[this,ek] at h3;exact absurd h3 (by decide)
  rw[List.getElem?_set_ne hj];exact g1
def tG(X:Cx)(ifs:List Expr):TT:=λσ H Q=>∀z0 s,Inv X z0 σ H s->wpAny (model X.prog X.w) X.A (forIn ifs true λc r=>if r=true then do let ok <- isTrue c X.env (eval c X.env);pure (ForInStep.yield ok) else pure (ForInStep.yield r)) (TP X z0 σ Q) X.xe s
theorem gD:CZ X ifs (tG X ifs):=λz0 s σ H Q I h=>h z0 s I
theorem CZ.sem(h:CZ X ifs t)(q:t σ H Q):tG X ifs σ H Q:=λz0 s I=>h z0 s σ H Q I q
theorem Ext.acc{Hs H Hs' H':Hp}{acc:Addr}{o:HO}(E:Ext Hs H Hs' H')(h:H acc=none)(h':Hs' acc=none):Ext Hs H Hs' (upd H' acc o) where
 vis:=E.vis
 all:=λb u e=>by rw[ao (aq e h)];exact E.all b u e
 sub:=λb u e=>by rw[ao (aq e h')];exact E.sub b u e
 hid:=E.hid
theorem tV(h:aU f (d::r)=some out):(∃v o',f d=some (some v)/\aU f r=some o'/\out=v::o')\/(f d=some none/\aU f r=some out):=by
 simp[aU,bind,Option.bind] at h
 cases hf:f d with
 |none=>rw[hf] at h;cases h
 |some o =>
  rw[hf] at h
  cases o with
  |none=>exact .inr ⟨rfl,h⟩
  |some v =>
   simp[R0z] at h;obtain⟨o',h1,rfl⟩:=h;exact .inl ⟨v,o',rfl,h1,rfl⟩
def qM(E:Rho->Expr->Option D)(scope:Scope)(ρ:Rho)(tg elt:Expr)(ifs:List Expr):D->Option (Option D):=λd=>do
 let ρ1 <- fH scope tg d (bH scope ρ)
 let b <- lZ (E ρ1) ifs
 if b then(E ρ1 elt).map some else some none
abbrev MN(cx:Cxt)(n:Nat)(sc scope:Scope)(ρ:Rho)(tg elt:Expr)(ifs:List Expr):D->Option (Option D):=qM (ev cx n (jg scope sc)) scope ρ tg elt ifs
def yr(Hs0 H0:Hp)(X:Cx)(ρ:Rho)(e:Expr)(d:D):Prop:=∀σ H Hs Q,Ext Hs0 H0 Hs H->cJ X.K Hs ρ σ->(∀v H' Hs',Ext Hs H Hs' H'->Rep X.K Hs' d v->Q v H')->jx X e σ H Q
def Nr(Hs0 H0:Hp)(X:Cx)(ρ:Rho)(e:Expr)(b:Bool):Prop:=∀σ H Hs Q,Ext Hs0 H0 Hs H->cJ X.K Hs ρ σ->(∀H' Hs',Ext Hs H Hs' H'->Q b H')->rM X e σ H Q
theorem Rn(hf:∀e,e∈ifs->∀d,f e=some d->yr Hs0 H0 X ρ e d/\∀b,d=.bl b->Nr Hs0 H0 X ρ e b)(h:lZ f ifs=some b)(hs:Ext Hs0 H0 Hs H)(hst:cJ X.K Hs ρ σ)(hq:∀H' Hs',Ext Hs H Hs' H'->Q b H'):tG X ifs σ H Q:=by
 unfold lZ at h;split at h
 .cases h
  exact CZ.sem uO (hq H Hs (.refl hs.sub))
 .rename_i c
  cases hc:f c with
  |none=>rw[hc] at h;cases h
  |some d =>
   rw[hc] at h
   cases d<;>simp[asB] at h
   subst h;exact CZ.sem (Ef cY) ((hf c (by simp) _ hc).2 _ rfl σ H Hs Q hs hst hq)
 .cases h
theorem jq(G:Good cx k X sc)(hN:X.N=ρ.map (·.1))(hok:dN sc scope=true)(hI:∀R,(∀J H' Hs',Ext Hs H Hs' H'->uf X.K J Hs' l->R J H')->jJ X tg iter σ H R)(hz:szl l.length=true)(hgo:aU (qM E scope ρ tg elt ifs) l=some out)
    (hE:∀Xc, CompOf X scope Xc->∀ρ1:Rho, Xc.N=ρ1.map (·.1)->∀e, (e=elt \/ e∈ifs)->∀d, E ρ1 e=some d->yr Hs H Xc ρ1 e d/\∀b, d=.bl b->Nr Hs H Xc ρ1 e b)
     (hst:cJ X.K Hs ρ σ) (hq:∀acc vs Hs' H',Ext Hs H Hs' H'->H acc=none->Hs' acc=none->H' acc=some (.lst vs)->aJ X.K Hs' out vs->Q (.ref acc) H') :
    rN X scope (jJ X tg iter) (sO X.N scope.names) (λXc=>Gb Xc tg) (λXc=>tG Xc ifs) (λXc=>jx Xc elt) σ H Q:=by
  obtain⟨ok1,ok2,ok3⟩:=dg G hok
  refine hI _ λJ H1 Hs1 E1 hJ acc hacc Xc C=>?_
  have GC:=G.comp C hok
  have OC:=Owns.comp G C
  have hNc:∀ρ1:Rho,ρ1.map (·.1)=scope.names.map (·.1)->Xc.N=ρ1.map (·.1):=λρ1 h=>by rw[C.N,h]
  have a1:=E1.sub.free hacc
  have a0:=E1.all.free hacc
  let W:Nat->Nat->St->Hp->Prop:=λi m σc H=>m=l.length-i/\i<=l.length/\∃Hs3 ys pre rest,Ext Hs1 H1 Hs3 H/\Hs3 acc=none/\H acc=some (.lst ys)/\aJ X.K Hs3 pre ys/\aU (qM E scope ρ tg elt ifs) (l.drop i)=some rest/\pre++rest=out/\pre.length<=i/\σc.length=scope.names.length/\cJ X.K Hs3 (bH scope ρ) σc
  refine⟨W,⟨l.length,rfl,K6z _,Hs1,[],[],out,Ext.acc (.refl E1.sub) hacc a1,a1,aA,.nil,by simpa using hgo,rfl,I6z _,by simp[sO],lK hN (hst.same E1.vis)⟩,?_⟩
  rintro i m σc H3 ⟨rfl,hi,Hs3,ys,pre,rest,E3,b3,c3,r3,g3,p3,q3,l3,s3⟩
  obtain⟨st3,go3⟩:=hJ Hs3 H3 E3.vis E3.sub
  by_cases hlt:i<l.length
  . have hd:=List.getElem?_eq_getElem hlt
    obtain⟨gi,yi⟩:=go3 i l[i] hd
    refine .inr ⟨gi,λσ' H'=>W (i+1) (l.length-(i+1)) σ' H',λσ' H' w=>⟨_,by omega,w⟩,λx H4 y4=>?_⟩
    obtain⟨Hs4,E4,rx⟩:=yi x H4 y4
    have b4:=E4.hid acc _ c3 b3
    have c4:=E4.all _ _ c3
    rw[C0z hlt] at g3
    have key:∃ρ1,fH scope tg l[i] (bH scope ρ)=some ρ1/\∃b,lZ (E ρ1) ifs=some b/\((b=true/\∃v o',E ρ1 elt=some v/\aU (qM E scope ρ tg elt ifs) (l.drop (i+1))=some o'/\rest=v::o')\/(b=false/\aU (qM E scope ρ tg elt ifs) (l.drop (i+1))=some rest)):=by
      have inv:∀o,qM E scope ρ tg elt ifs l[i]=some o->∃ρ1,fH scope tg l[i] (bH scope ρ)=some ρ1/\∃b,lZ (E ρ1) ifs=some b/\(if b then(E ρ1 elt).map some else some none)=some o:=by
        intro o h
        obtain⟨ρ1,h1,h⟩:=aV h
        obtain⟨b,h2,h⟩:=aV h
        exact⟨ρ1,h1,b,h2,h⟩
      obtain⟨v,o',f1,f2,f3⟩|⟨f1,f2⟩:=tV g3
      . obtain⟨ρ1,h1,b,h2,h3⟩:=inv _ f1
        refine⟨ρ1,h1,b,h2,?_⟩
        cases b with
        |false=>simp at h3
        |true =>
          simp only[F7z,R0z] at h3
          obtain⟨w,h3,h4⟩:=h3
          have h5:=C4z h4
          subst h5
          exact .inl ⟨rfl,w,o',h3,f2,f3⟩
      . obtain⟨ρ1,h1,b,h2,h3⟩:=inv _ f1
        refine⟨ρ1,h1,b,h2,?_⟩
        cases b with
        |true=>simp at h3
        |false=>exact .inr ⟨rfl,f2⟩
    obtain⟨ρ1,k1,b,k2,k3⟩:=key
    have s4:=s3.same E4.vis
    have KE:=mV (K:=Xc.K) (Hs:=Hs4) (ρ:=ρ) ok2 rfl
    refine tZ GC.calm OC GC.nd E4.sub (hNc _ dO) KE k1 ⟨dO,l3,by rw[C.K];exact s4,by rw[C.K];exact s4⟩ (by rw[C.K];exact rx) λσ5 hN5 p5=>?_
    obtain⟨_,l5,s5,s5'⟩:=p5
    have hev:=hE Xc C ρ1 hN5
    refine Rn (λe he=>hev e (.inr he)) k2 (E1.trans (E3.trans E4)) s5 λH6 Hs6 E6=>?_
    have b6:=E6.hid acc _ c4 b4
    have c6:=E6.all _ _ c4
    have s6:cJ X.K Hs6 (bH scope ρ) σ5:=by rw[<- C.K];exact s5'.same E6.vis
    obtain⟨rfl,v,o',k3,k4,k5⟩|⟨rfl,k3⟩:=k3
    . refine lY ((hev elt (.inl rfl) v k3).1 σ5 H6 Hs6 _ (E1.trans (E3.trans (E4.trans E6))) (s5.same E6.vis) λw H7 Hs7 E7 r7=>?_)
      have b7:=E7.hid acc _ c6 b6
      refine⟨ys,(E7.all _ _ c6),?_,rfl,hlt,Hs7,ys++[w],pre++[v],o',Ext.acc (E3.trans (E4.trans (E6.trans E7))) hacc b7,b7,aA,?_,k4,?_,by simp;omega,l5,s6.same E7.vis⟩
      . have:=r3.length
        have:=yQ hz
        omega
      . rw[<- C.K]
        refine aJ.append ?_ (.cons r7 .nil)
        rw[C.K]
        exact aJ.same (E4.trans (E6.trans E7)).vis pre ys r3
      . rw[<- p3,k5];simp
    . exact mW ⟨rfl,hlt,Hs6,ys,pre,rest,E3.trans (E4.trans E6),b6,c6,aJ.same (E4.trans E6).vis pre ys r3,k3,p3,by omega,l5,s6⟩
  . have hi':i=l.length:=by omega
    subst hi'
    refine .inl ⟨st3,?_⟩
    rw[Y3z] at g3
    simp[aU,Y2z] at g3
    subst g3
    rw[G4z] at p3
    subst p3
    exact hq acc ys Hs3 H3 (E1.trans E3) a0 b3 c3 r3
theorem yr.of(h:Ev Xc ρ1 e d/\∀b,d=.bl b->EvT Xc ρ1 e b):yr Hs0 H0 Xc ρ1 e d/\∀b,d=.bl b->Nr Hs0 H0 Xc ρ1 e b:=⟨λσ H Hs Q E=>h.1 σ H Hs Q E.sub,λb hb σ H Hs Q E=>h.2 b hb σ H Hs Q E.sub⟩
theorem qI(G:Good cx k X sc)(hN:X.N=ρ.map (·.1))(hok:dN sc scope=true)(hI:EvI X ρ tg iter l)(hz:szl l.length=true)(hgo:aU (MN cx n sc scope ρ tg elt ifs) l=some out)
    (hE:∀Xc,CompOf X scope Xc->∀ρ1:Rho,Xc.N=ρ1.map (·.1)->∀e d,ev cx n (jg scope sc) ρ1 e=some d->Ev Xc ρ1 e d/\∀b,d=.bl b->EvT Xc ρ1 e b)
       (hs:Same Hs H) (hst:cJ X.K Hs ρ σ) (hq:∀acc vs Hs' H',Ext Hs H Hs' H'->H acc=none->Hs' acc=none->H' acc=some (.lst vs)->aJ X.K Hs' out vs->Q (.ref acc) H') :
    rN X scope (jJ X tg iter) (sO X.N scope.names) (λXc=>Gb Xc tg) (λXc=>tG Xc ifs) (λXc=>jx Xc elt) σ H Q :=
  jq G hN hok (λR k=>hI σ H Hs R hs hst k) hz hgo (λXc C ρ1 h e _ d q=>yr.of (hE Xc C ρ1 h e d q)) hst hq
end
end L2
namespace L2
open PySem PySem.Spec PySem.Calls PyProof.Rows DE
section
variable{X:Cx}{ρ:Rho}{cx:Cxt}{k:Nat}{sc:Scope}
theorem pN{o:Expr}(h:JL o=true)(m:Str):attributeBase o m X.env (eval o X.env)=eval o X.env:=by
 cases o<;>first|rfl|exact nomatch (show false=true from h)
theorem Gf{o e:Expr}{m:Str}{x z d:D}{ap cp:Pos}(hc:X.calm=true)(hb:∀m,attributeBase o m X.env (eval o X.env)=eval o X.env)(ha:Ev X ρ o x)(he:Ev X ρ e z)(hp:aG e=true)(hline:(ap.endLine==cp.line)=true)(h:bR m x z=some d):Ev X ρ (.Call (.Attribute o m ap) [e] [] cp) d:=by
 unfold bR at h;split at h
 .rename_i z y
  intro σ H Hs Q hs hst hq;split at h
  .rename_i hm
   cases h;rw[J3z,J3z,V2z] at hm
   have em:m="split":=by simpa using hm.1.1
   subst em;refine(lW V0z PySem.F.slot_str_split PySem.F.type_str_split Fp ak (au ak aK (aj hp)) (hb _) (by rw[aj hp];rfl) hline (aj hp) rfl).sem ?_;refine ha σ H Hs _ hs hst λv H1 Hs1 E1 r1=>?_;cases cX r1;refine⟨rfl,he σ H1 Hs1 _ E1.sub (hst.same E1.vis) λv2 H2 Hs2 E2 r2=>?_⟩;cases cX r2;refine⟨z,y,rfl,rfl,hm.1.2,?_,λa hn=>?_⟩
   .have h2:z.length<=100000:=X2z hm.2
    have h3:(100002:Nat)<=sizeLine:=by decide
    omega
   .have rl:aJ X.K Hs2 ((Txt.split z y).map D.str) ((Txt.split z y).map V.str):=by
     generalize Txt.split z y=l
     induction l with
     |nil=>exact .nil
     |cons a r ih=>exact .cons (by simp[Rep]) ih
    exact nW E2.sub rl hn λw H' Hs' E r=>hq w H' Hs' ((E1.trans E2).trans E) r
  .split at h
   .rename_i hm
    cases h
    have em:m="endswith":=by simpa using hm
    subst em;refine(lW V0z PySem.F.slot_str_endswith PySem.F.type_str_endswith sJ ak (au ak aK (aj hp)) (hb _) (by rw[aj hp];rfl) hline (aj hp) rfl).sem ?_;refine ha σ H Hs _ hs hst λv H1 Hs1 E1 r1=>?_;cases cX r1;refine⟨rfl,he σ H1 Hs1 _ E1.sub (hst.same E1.vis) λv2 H2 Hs2 E2 r2=>?_⟩;cases cX r2;exact⟨z,y,rfl,rfl,hq _ H2 Hs2 (E1.trans E2) (by simp[Rep])⟩
   .split at h
    .rename_i hm
     cases h;rw[J3z,J3z,V2z] at hm
     have em:m="partition":=by simpa using hm.1.1
     subst em;refine(lW V0z PySem.F.slot_str_partition PySem.F.type_str_partition qg ak (au ak aK (aj hp)) (hb _) (by rw[aj hp];rfl) hline (aj hp) rfl).sem ?_;refine ha σ H Hs _ hs hst λv H1 Hs1 E1 r1=>?_;cases cX r1;refine⟨rfl,he σ H1 Hs1 _ E1.sub (hst.same E1.vis) λv2 H2 Hs2 E2 r2=>?_⟩;cases cX r2;refine⟨z,y,rfl,rfl,hm.1.2,fU hm.2,λa hn=>?_⟩
     have rl:aJ X.K Hs2 [D.str (Txt.partition z y).1,.str (Txt.partition z y).2.1,.str (Txt.partition z y).2.2] [V.str (Txt.partition z y).1,.str (Txt.partition z y).2.1,.str (Txt.partition z y).2.2] :=
      .cons (by simp[Rep]) (.cons (by simp[Rep]) (.cons (by simp[Rep]) .nil))
     exact fZ E2.sub rl hn λw H' Hs' E r=>hq w H' Hs' ((E1.trans E2).trans E) r
    .cases h
 .rename_i z xs
  split at h
  .rename_i hm
   have em:m="join":=by simpa using hm
   subst em;obtain⟨ts,h1,h2⟩:=N0z.mp h;split at h2
   .rename_i hj
    cases h2;intro σ H Hs Q hs hst hq;refine(lW V0z B1z C1z Al ak (au ak aK (aj hp)) (hb _) (by rw[aj hp];rfl) hline (aj hp) rfl).sem ?_;refine ha σ H Hs _ hs hst λv H1 Hs1 E1 r1=>?_;cases cX r1;refine⟨rfl,he σ H1 Hs1 _ E1.sub (hst.same E1.vis) λv2 H2 Hs2 E2 r2=>?_⟩;obtain⟨p,vs,rfl,g1,g2⟩:=cu r2;have e:=jd h1 g2;subst e;exact⟨z,p,ts,rfl,rfl,E2.sub.seq g1,hj,hq _ H2 Hs2 (E1.trans E2) (by simp[Rep])⟩
   .cases h2
  .cases h
 .cases h
theorem Gi{o a:Expr}{y:Str}{z:Str}{xs:List D}{ts:List Str}{q q' ap cp:Pos}(G:Good cx k X sc)(hb:∀m,attributeBase o m X.env (eval o X.env)=eval o X.env)(hy:bw cx sc y=some "reversed")(ha:Ev X ρ o (.str z))(he:Ev X ρ a (.lst xs))(hp:aG a=true)(hline:(ap.endLine==cp.line)=true)(hs1:m9 xs=some ts)(hj:JoinOk z ts.reverse=true) :
  Ev X ρ (.Call (.Attribute o "join" ap) [.Call (.Name y q) [a] [] q'] [] cp) (.str (Txt.join z ts.reverse)):=by
 obtain⟨hg2,hm2,rfl⟩:=bZ G hy;intro σ H Hs Q hs hst hq z0 s I;refine wpAny_Call_method_late (hb _) rfl hline rfl (thn (ak z0 s σ H (λv H1=>∃Hs1,v=.str z/\Ext Hs H Hs1 H1) I (ha σ H Hs _ hs hst λv H1 Hs1 E1 r1=>⟨Hs1,cX r1,E1⟩)) λv s1 ⟨x,H1,I1,r1,Hs1,ex,E1⟩=>?_);subst ex;obtain⟨t,rfl⟩:=r1;refine⟨"str",_,V0z,B1z,C1z,U6z _ _ _,(λ_ e=>nomatch e),?_⟩;refine Q0z rfl (G1z ?_);show wpAny _ _ (spliced [(false,eval (.Call (.Name _ q) [a] [] q') X.env)]) _ _ _;refine Z1z ?_;refine Call_ (eG I1 hg2 hm2 boot_reversed (A0z ?_ (aj hp) rfl))
 refine thn ((au ak aK (aj hp)) q' z0 s1 σ H1 (λvs H2=>∃Hs2 p,vs=[.ref p]/\SqL X.K Hs2 p (ts.map V.str)/\Ext Hs1 H1 Hs2 H2) I1 (he σ H1 Hs1 _ E1.sub (hst.same E1.vis) λv H2 Hs2 E2 r2=>by
  obtain⟨p,vs,rfl,g1,g2⟩:=cu r2;have e:=jd hs1 g2;subst e
  exact⟨Hs2,p,rfl,g1,E2⟩)) λus s2 ⟨vs,H2,I2,r2,Hs2,p,e1,t1,E2⟩=>?_
 subst e1;obtain⟨u,w1,rfl,rx,rr⟩:=yD r2;cases rr;cases (show u=Value.ref p from rx);obtain⟨its,rv,pt,hz⟩:=I2.list (E2.sub.seq t1);obtain⟨l,rfl,rfl⟩:=nF rv;refine call_reversed_list pt.isList (O2z ?_)
 have hlen:(strValues l).toArray.size=l.length:=by simp[strValues]
 rw[hlen]
 have hne:p≠s2.heap.objs.size:=λe=>by
  obtain⟨o,ho,_⟩:=pt.isList;rw[e] at ho;exact M5z _ (Z5z ho)
 have st:(s2.heap.push (revObj p ((l.length:Int)-1))).IsRevIter s2.heap.objs.size p ((l.length:Int)-1):=⟨_,Heap.get?_push_size _ rfl,rfl,rfl⟩;have I3:Inv X z0 σ H2 {s2 with heap:=s2.heap.push (revObj p ((l.length:Int)-1))}:=I2.kept (t':=s2.toks) λb o e=>Heap.get?_push_of_some _ e;have hfr:H2 s2.heap.objs.size=none:=I2.hok.fresh (I6z _);obtain⟨f0,f1,f2,f3,f4,f5⟩:=I2.fpOk (I6z _) hfr
 have hz':l.length<=sizeLine:=by simpa using hz
 refine Bd (I3.ok.hd G.calm) hne st (pt.isList.at λo e=>Heap.get?_push_of_some _ e) hz' hj λs' t' k' hm=>?_
 have I4:Inv X z0 σ H2 {s' with toks:=k'}:=by
  have:=I3.turned (t':=k') (h':=s'.heap) (λc o hc e=>hm.heap c o (by simpa using hc) e) f0 f1 f3 f4 f5;rw[vf hm];exact this
 exact⟨.str _,H2,I4,⟨t',rfl⟩,hq _ H2 Hs2 (E1.trans E2) (by simp[Rep])⟩
end
end L2
namespace L2
open PySem PySem.Spec PyProof.Rows DE PySem.SeqAt
theorem Ext.shown{Hs H Hs' H':Hp}{acc:Addr}{o:HO}(E:Ext Hs H Hs' H')(h:H acc=none)(h1:Hs' acc=none)(h2:H' acc=some o):Ext Hs H (upd Hs' acc o) H' where
 vis:=λb u e=>by rw[ao (aq (E.vis b u e) h1)];exact E.vis b u e
 all:=E.all
 sub:=λb u e=>by
  by_cases hb:b=acc
  .subst hb;rw[aA] at e;rw[h2];exact e
  .rw[ao hb] at e;exact E.sub b u e
 hid:=λb u e n=>by rw[ao (aq e h)];exact E.hid b u e n
section
variable{X:Cx}{ρ:Rho}{cx:Cxt}{k:Nat}{sc scope:Scope}
theorem LK(G:Good cx k X sc)(hN:X.N=ρ.map (·.1))(hok:dN sc scope=true)(hI:EvI X ρ tg iter l)(hp:aG iter=true)(hz:szl l.length=true)(hgo:aU (MN cx n sc scope ρ tg elt ifs) l=some out)
  (hE:∀Xc,CompOf X scope Xc->∀ρ1:Rho,Xc.N=ρ1.map (·.1)->∀e d,ev cx n (jg scope sc) ρ1 e=some d->Ev Xc ρ1 e d/\∀b,d=.bl b->EvT Xc ρ1 e b) :
  Ev X ρ (.ListComp elt [⟨tg,iter,ifs,0⟩] scope pos) (.lst out):=by
 obtain⟨ok1,ok2,ok3⟩:=dg G hok;intro σ H Hs Q hs hst hq;refine PE.sem (kj G.calm ok1 ok2 ok3 j8 (λXc C=>⟨iK,gD,ak⟩) (dW hp)) (qI G hN hok hI hz hgo hE hs hst λacc vs Hs' H' E1 h1 h2 h3 r=>?_);refine hq _ H' _ (E1.shown h1 h2 h3) ?_;refine⟨acc,vs,rfl,.of aA,aJ.same (λb u e=>?_) out vs r⟩;rw[ao (aq e h2)];exact e
def WkP(cx:Cxt)(sc:Scope)(e:Expr):Wk->Prop
    |.r1 a=>∃x p pos,e=.Call (.Name x p) [a] [] pos/\bw cx sc x=some "range"
    |.r2 a b=>∃x p pos,e=.Call (.Name x p) [a,b] [] pos/\bw cx sc x=some "range"
    |.r3 a b c=>∃x p pos,e=.Call (.Name x p) [a,b,c] [] pos/\bw cx sc x=some "range"
    |.zp a b=>∃x p pos,e=.Call (.Name x p) [a,b] [] pos/\bw cx sc x=some "zip"
    |.rv a=>∃x p pos,e=.Call (.Name x p) [a] [] pos/\bw cx sc x=some "reversed"
    |.en a=>∃x p pos,e=.Call (.Name x p) [a] [] pos/\bw cx sc x=some "enumerate"
    |.sq=>True
theorem Om{e:Expr}:WkP cx sc e (rG cx sc e):=by
 unfold rG;split
 .rename_i x p args pos
  split
  .rename_i h
   split
   .exact⟨x,p,pos,rfl,h⟩
   .exact⟨x,p,pos,rfl,h⟩
   .exact⟨x,p,pos,rfl,h⟩
   .trivial
  .rename_i h
   split
   .exact⟨x,p,pos,rfl,h⟩
   .trivial
  .rename_i h
   split
   .exact⟨x,p,pos,rfl,h⟩
   .trivial
  .rename_i h
   split
   .exact⟨x,p,pos,rfl,h⟩
   .trivial
  .trivial
 .trivial
theorem oX(h:x.bind asI=some i):x=some (.int i):=by
 obtain⟨d,h1,h2⟩:=aV h
 cases d<;>simp[asI] at h2
 subst h2;exact h1
theorem jX(h:x.bind asB=some i):x=some (.bl i):=by
 obtain⟨d,h1,h2⟩:=aV h
 cases d<;>simp[asB] at h2
 subst h2;exact h1
theorem pA(h:x.bind tupI=some i):x=some (.tup i):=by
 obtain⟨d,h1,h2⟩:=aV h
 cases d<;>simp[tupI] at h2
 subst h2;exact h1
theorem qm{x:Option D}{i:List D}(h:x.bind QT=some i):x=some (.lst i):=by
 obtain⟨d,h1,h2⟩:=aV (show(x >>=QT)=some i from h)
 cases d<;>simp[QT] at h2
 subst h2;exact h1
theorem vJ{f:Expr->Option D}{tg e:Expr}{l:List D}(G:Good cx k X sc)(hf:∀e d,f e=some d->Ev X ρ e d/\aG e=true)(h:evI cx (fP tg) f sc e=some l):EvI X ρ tg e l/\aG e=true:=by
 unfold evI at h;have w:=Om (cx:=cx) (sc:=sc) (e:=e);split at h
 .rename_i a hw
  rw[hw] at w;obtain⟨x,p,pos,rfl,hx⟩:=w;obtain⟨j,h1,h⟩:=aV h;split at h
  .rename_i hj
   cases h;obtain⟨ha,hp⟩:=hf _ _ (oX h1);exact⟨xW G hx ha hp hj,rfl⟩
  .cases h
 .rename_i a b hw
  rw[hw] at w;obtain⟨x,p,pos,rfl,hx⟩:=w;obtain⟨i,h1,h⟩:=aV h;obtain⟨j,h2,h⟩:=aV h;split at h
  .rename_i hj
   cases h;rw[J3z] at hj;obtain⟨ha,hp⟩:=hf _ _ (oX h1);obtain⟨hb,hpb⟩:=hf _ _ (oX h2);exact⟨xV G hx ha hp hb hpb hj.1 hj.2,rfl⟩
  .cases h
 .rename_i a b c hw
  rw[hw] at w;obtain⟨x,p,pos,rfl,hx⟩:=w;simp at h
 .rename_i a b hw
  rw[hw] at w;obtain⟨x,p,pos,rfl,hx⟩:=w;obtain⟨d1,h1,h⟩:=aV h;obtain⟨d2,h2,h⟩:=aV (show(f b >>=λy=>if fP tg=true then Sd d1 y else none)=some l from h);have h':(if fP tg=true then Sd d1 d2 else none)=some l:=h;clear h;split at h'
  .rename_i ht
   obtain⟨ha,hp⟩:=hf _ _ h1;obtain⟨hb,hpb⟩:=hf _ _ h2
   cases tg<;>simp[fP] at ht
   unfold Sd at h';split at h'
   .cases h';exact⟨Mg G hx ha hp hb hpb,rfl⟩
   .simp at h'
   .simp at h'
   .simp at h'
   .cases h'
  .cases h'
 .rename_i a hw
  rw[hw] at w;obtain⟨x,p,pos,rfl,hx⟩:=w;obtain⟨xs,h1,h⟩:=aV h;cases h;obtain⟨ha,hp⟩:=hf _ _ (pA h1);exact⟨Mj G hx ha hp,rfl⟩
 .rename_i a hw
  rw[hw] at w;obtain⟨x,p,pos,rfl,hx⟩:=w;obtain⟨d1,h1,h⟩:=aV h;split at h
  .rename_i ht
   obtain⟨us,hu,rfl⟩:=R0z.mp h;obtain⟨ha,hp⟩:=hf _ _ h1
   cases tg<;>simp[fP] at ht
   cases d1<;>simp[tupI] at hu
   subst hu;exact⟨Gs G hx ha hp,rfl⟩
  .cases h
 .obtain⟨d,h1,h2⟩:=aV (show(f e >>=qt)=some l from h)
  obtain⟨ha,hp⟩:=hf _ _ h1;exact⟨Mh G.kw ha h2,hp⟩
theorem Iz(h:tyOf cx sc t=some T):∃x p,t=.Name x p/\bw cx sc x=some T:=by
 unfold tyOf at h;split at h
 .exact⟨_,_,rfl,h⟩
 .cases h
def WcP(cx:Cxt)(sc:Scope)(b:String)(args:List Expr):Wc->Prop
    |.lr1 a=>∃x p pos,args=[.Call (.Name x p) [a] [] pos]/\bw cx sc x=some "range"/\b="list"
    |.lr2 a a'=>∃x p pos,args=[.Call (.Name x p) [a,a'] [] pos]/\bw cx sc x=some "range"/\b="list"
    |.tv a=>∃x p pos,args=[.Call (.Name x p) [a] [] pos]/\bw cx sc x=some "reversed"/\b="tuple"
    |.tr1 a=>∃x p pos,args=[.Call (.Name x p) [a] [] pos]/\bw cx sc x=some "range"/\b="tuple"
    |.ls a=>∃x p pos,args=[.Call (.Name x p) [a] [] pos]/\bw cx sc x=some "set"/\b="len"
    |.ss a=>∃x p pos,args=[.Call (.Name x p) [a] [] pos]/\bw cx sc x=some "set"/\b="sorted"
    |.li a=>∃y py ap p,a=.Name y py/\args=[.Call (.Attribute (.Name y py) "items" ap) [] [] p]/\(ap.endLine==p.line)=true/\b="list"
    |.al=>True
theorem Tp{b:String}{args:List Expr}:WcP cx sc b args (Ny cx sc b args):=by
 unfold Ny;split
 .rename_i e
  have w:=Om (cx:=cx) (sc:=sc) (e:=e);split
  .rename_i hw
   rw[hw] at w;obtain⟨x,p,pos,rfl,hx⟩:=w;exact⟨x,p,pos,rfl,hx,rfl⟩
  .rename_i hw
   rw[hw] at w;obtain⟨x,p,pos,rfl,hx⟩:=w;exact⟨x,p,pos,rfl,hx,rfl⟩
  .rename_i hw
   rw[hw] at w;obtain⟨x,p,pos,rfl,hx⟩:=w;exact⟨x,p,pos,rfl,hx,rfl⟩
  .rename_i hw
   rw[hw] at w;obtain⟨x,p,pos,rfl,hx⟩:=w;exact⟨x,p,pos,rfl,hx,rfl⟩
  .split
   .rename_i a ha
    unfold Sh at ha;split at ha
    .rename_i y q a' q' _
     split at ha
     .rename_i hb
      cases ha;exact⟨y,q,q',rfl,by simpa using hb,rfl⟩
     .cases ha
    .cases ha
   .trivial
  .split
   .rename_i a ha
    unfold Sh at ha;split at ha
    .rename_i y q a' q' _
     split at ha
     .rename_i hb
      cases ha;exact⟨y,q,q',rfl,by simpa using hb,rfl⟩
     .cases ha
    .cases ha
   .trivial
  .split
   .rename_i a ha
    unfold Wh at ha;split at ha
    .rename_i y py m ap p _
     split at ha
     .rename_i hb
      rw[J3z] at hb;cases ha;have em:=eq_of_beq hb.1;subst em;exact⟨y,py,ap,p,rfl,rfl,hb.2,rfl⟩
     .cases ha
    .cases ha
   .trivial
  .trivial
 .trivial
end
theorem JF{cx:Cxt}{sc:Scope}{e a:Expr}(h:PN cx sc e=some a):∃y q q',e=.Call (.Name y q) [a] [] q'/\bw cx sc y=some "reversed":=by
 unfold PN at h;split at h
 .split at h
  .rename_i hy
   cases h;exact⟨_,_,_,rfl,eq_of_beq hy⟩
  .cases h
 .cases h
theorem dZ(cx:Cxt):∀(n:Nat){k:Nat}{X:Cx}{sc:Scope}{ρ:Rho}{e:Expr}{d:D},Good cx k X sc->X.N=ρ.map (·.1)->ev cx n sc ρ e=some d->Ev X ρ e d/\∀b,d=.bl b->EvT X ρ e b
 |0,k,X,sc,ρ,e,d,_,_,h=>by exact nomatch (show(Option.none:Option D)=some d from h)
 |n+1,k,X,sc,ρ,e,d,G,hN,h=>by
  have ih:∀e d,ev cx n sc ρ e=some d->Ev X ρ e d/\∀b,d=.bl b->EvT X ρ e b:=λe d h=>dZ cx n G hN h;have ihp:∀e d,ev cx n sc ρ e=some d->Ev X ρ e d/\aG e=true:=λe d h=>⟨(ih e d h).1,aY h⟩;have val:∀{e d},(∀whole,isTrue e X.env whole=(do let v <- whole;standAt e.pos;holding [v] (truthy v)))->Ev X ρ e d->Ev X ρ e d/\∀b,d=.bl b->EvT X ρ e b:=λhe h1=>⟨h1,λb hb=>by subst hb;exact Ma h1 he⟩
  cases e with
  |Name x pos =>
   simp only[ev] at h;split at h
   .rename_i hp
    refine val (λ_=>rfl) ?_
    have fin:∀kd,sc.names.lookup x=some kd->(kd=.local\/kd=.cell\/kd=.free)->(match ρ.lookup x with|some (.sh d)=>some d|_=>none)=some d->Ev X ρ (.Name x pos) d:=by
     intro kd hk hkd hm;split at hm
     .rename_i d' hl
      cases hm;refine Lx hN ?_ hp hl;unfold Vis;rw[G.sce,hk];rcases hkd with rfl|rfl|rfl
      .exact .inl rfl
      .exact .inr (.inl rfl)
      .exact .inr (.inr rfl)
     .cases hm
    split at h
    .rename_i hk;exact fin _ hk (.inl rfl) h
    .rename_i hk;exact fin _ hk (.inr (.inl rfl)) h
    .rename_i hk;exact fin _ hk (.inr (.inr rfl)) h
    .rename_i hk
     obtain⟨v,u,h0,h1,h2⟩:=G.cst x d h;exact Rp (show X.env.scope.names.lookup x=_ by rw[G.sce];exact hk) h0 h1 h2 hp
    .cases h
   .cases h
  |Constant c j pos =>
   simp only[ev] at h;exact val (λ_=>rfl) (Gj h)
  |BinOp a op b pos =>
   simp only[ev] at h;obtain⟨x,h1,h⟩:=aV h;obtain⟨y,h2,h⟩:=aV h;exact val (λ_=>rfl) (Gm (ih _ _ h1).1 (ih _ _ h2).1 h)
  |UnaryOp op a pos =>
   simp only[ev] at h;obtain⟨x,h1,h⟩:=aV h
   cases op<;>simp only[R0z] at h<;>try (cases h;done)
   .obtain⟨b,h2,rfl⟩:=h
    cases x<;>simp[asB] at h2
    subst h2;refine⟨Rj (ih _ _ h1).1,λc hc=>?_⟩;cases hc;exact Mf ((ih _ _ h1).2 _ rfl)
   .obtain⟨i,h2,rfl⟩:=h
    cases x<;>simp[asI] at h2
    subst h2;exact val (λ_=>rfl) (Rk (ih _ _ h1).1)
  |BoolOp op es pos =>
   simp only[ev] at h;obtain⟨h1,h2⟩:=qC (pos:=pos) (λe _ d hd=>ih e d hd) h;exact⟨h1,λb hb=>(h2 b hb).t⟩
  |Compare a ops bs pos =>
   simp only[ev] at h;split at h
   .obtain⟨x,h1,h⟩:=aV h
    obtain⟨y,h2,h⟩:=aV h;exact LQ G.room G.kw (ih _ _ h1).1 (ih _ _ h2).1 (aY h2) h
   .split at h
    .cases h
    rename_i e3 hpl
    have hpl':aG e3=true:=by simpa using hpl
    obtain⟨x,h1,h⟩:=aV h;obtain⟨y,h2,h⟩:=aV h;obtain⟨c,h3,h⟩:=aV h;have h3':=jX h3
    cases c with
    |false =>
     simp only[D2z,C7z,Y2z] at h;subst h;exact Bu G.room G.kw (ih _ _ h1).1 (ih _ _ h2).1 hpl' h3' ⟨λq=>(nomatch q),λ_=>rfl⟩
    |true =>
     simp only[F7z] at h;obtain⟨z,h4,h⟩:=aV h;exact Bu G.room G.kw (ih _ _ h1).1 (ih _ _ h2).1 (aY h4) h3' ⟨λ_=>⟨z,(ih _ _ h4).1,h⟩,λq=>nomatch q⟩
   .cases h
  |IfExp c a b pos =>
   simp only[ev] at h;obtain⟨t,h1,h⟩:=aV h;have h1':=(ih _ _ (jX h1)).2 _ rfl
   cases t with
   |true =>
    simp only[F7z] at h;refine⟨Ro h1' (λ_=>(ih _ _ h).1) (λq=>nomatch q),λr hr=>Ii h1' (λ_=>(ih _ _ h).2 r hr) (λq=>nomatch q)⟩
   |false =>
    simp only[D2z,C7z] at h;refine⟨Ro h1' (λq=>nomatch q) (λ_=>(ih _ _ h).1),λr hr=>Ii h1' (λq=>nomatch q) (λ_=>(ih _ _ h).2 r hr)⟩
  |Tuple es j pos =>
   simp only[ev] at h;obtain⟨ds,h1,h⟩:=aV h;split at h
   .rename_i hz
    cases h;exact val (λ_=>rfl) (Ge (gb (λe _ d hd=>ihp e d hd) h1).1 hz)
   .cases h
  |List es pos =>
   simp only[ev] at h;obtain⟨ds,h1,h⟩:=aV h;split at h
   .rename_i hz
    cases h;exact val (λ_=>rfl) (Lz (gb (λe _ d hd=>ihp e d hd) h1).1 hz)
   .cases h
  |Subscript a b pos =>
   simp only[ev] at h;obtain⟨x,h1,h⟩:=aV h;split at h
   .split at h
    .obtain⟨l,h2,h⟩:=aV h
     obtain⟨u,h3,h⟩:=aV h
     have hl:∀{o:Option Expr}{l:Option Int},(match o with|none=>some none|some e=>(ev cx n sc ρ e).bind λd=>(asI d).map some)=some l->EvO X ρ o l:=by
      intro o l h2
      cases o with
      |none=>cases h2;exact Gq
      |some e =>
       simp only at h2;obtain⟨d',g1,g2⟩:=N0z.mp h2;obtain⟨i,g3,rfl⟩:=R0z.mp g2
       cases d'<;>simp[asI] at g3
       subst g3;exact Gp (ih _ _ g1).1
     split at h
     .rename_i xs
      split at h
      .cases h
      .rename_i hw
       cases h;refine val (λ_=>rfl) (Gh (ih _ _ h1).1 (hl h2) (hl h3) λq=>hw ?_);rw[q.1,q.2];simp
     .split at h
      .rename_i hz
       cases h;exact val (λ_=>rfl) (Bt (ih _ _ h1).1 hz (hl h2) (hl h3))
      .cases h
     .cases h
    .simp[V8] at h
   .obtain⟨y,h2,h⟩:=aV h
    have hp2:=aY h2;have hr:=G.room;unfold O6 at h;split at h
    .exact val (λ_=>rfl) (vH (ih _ _ h1).1 (ih _ _ h2).1 hp2 rfl h)
    .exact val (λ_=>rfl) (vH (ih _ _ h1).1 (ih _ _ h2).1 hp2 rfl h)
    .obtain⟨k',h3,h4⟩:=N0z.mp h
     exact val (λ_=>rfl) (LC G.kw (ih _ _ h1).1 (ih _ _ h2).1 hp2 h3 h4)
    .cases h
  |Call f args kws pos =>
   refine val (λ_=>rfl) ?_;simp only[ev] at h;split at h
   .rename_i x p
    split at h
    .rename_i hg
     have hb:∀{b},cx.blt.lookup x=some b->bw cx sc x=some b:=λq=>by unfold bw;rw[G7z hg];exact q
     split at h
     .rename_i hx
      split at h
      .obtain⟨d',h1,h⟩:=aV h
       obtain⟨T,h2,h5⟩:=aV h;clear h;obtain⟨t,pt,rfl,ht⟩:=Iz h2;split at h5
       .rename_i hk
        cases h5;rw[J3z] at hk;exact Rm G (hb hx) ht hk.1 (ih _ _ h1).1 (aY h1) (by simpa using hk.2)
       .cases h5
      .cases h
     .rename_i b _ hx
      have wc:=Tp (cx:=cx) (sc:=sc) (b:=b) (args:=args);split at h
      .rename_i a hw
       rw[hw] at wc;obtain⟨y,q,q',rfl,hy,rfl⟩:=wc;simp at h
      .rename_i a a' hw
       rw[hw] at wc;obtain⟨y,q,q',rfl,hy,rfl⟩:=wc;simp at h
      .rename_i a hw
       rw[hw] at wc;obtain⟨y,q,q',rfl,hy,rfl⟩:=wc;simp at h
      .rename_i a hw
       rw[hw] at wc;obtain⟨y,q,q',rfl,hy,rfl⟩:=wc;obtain⟨xs,h1,h⟩:=aV h;cases h;have h1':=pA h1;exact Lq G (hb hx) hy (ih _ _ h1').1 (aY h1')
      .rename_i a hw
       rw[hw] at wc;obtain⟨y,q,q',rfl,hy,rfl⟩:=wc;simp at h
      .rename_i a hw
       rw[hw] at wc;obtain⟨y,q,q',rfl,hy,rfl⟩:=wc;obtain⟨xs,h1,h⟩:=aV h;obtain⟨ns,h2,h⟩:=aV h;split at h
       .rename_i hz
        rw[J3z,W2z,W2z] at hz;obtain⟨l',h3,h⟩:=R0z.mp h;cases h;have h1':=qm h1;exact xU G (hb hx) hy (ih _ _ h1').1 (aY h1') h2 hz.1 hz.2 h3
       .cases h
      .rename_i a hw
       rw[hw] at wc;obtain⟨y,py,ap,q,rfl,rfl,hy,rfl⟩:=wc;simp at h
      .split at h
       .cases h
       .rename_i hne
        obtain⟨ds,h1,h2⟩:=aV h;obtain⟨ha,hp⟩:=gb (λe _ d hd=>ihp e d hd) h1
        cases args with
        |nil=>exact absurd rfl hne
        |cons e es=>exact Gn G (hb hx) ha hp h2
     .split at h
      .rename_i hf
       obtain⟨ds,h1,h5⟩:=aV h;clear h;obtain⟨ha,hp⟩:=gb (λe _ d hd=>ihp e d hd) h1
       have hgl:Gl X x:=by
        have e:sc.names.lookup x=some .globalImplicit:=by unfold K9 at hg;simpa using hg
        show X.env.scope.names.lookup x=_;rw[G.sce,e]
       cases args with
       |nil=>cases h1;exact Gk G hgl hf h5
       |cons e es=>exact LR G hgl hf (by simp) ha hp h5
      .cases h
    .cases h
   .split at h
    .split at h
     .rename_i hx
      obtain⟨c,h1,h⟩:=aV h;obtain⟨d',h2,h⟩:=aV h;exact Ly G (by simpa using hx) h1 (ih _ _ h2).1 (aY h2) h
     .cases h
    .cases h
   .split at h
    .split at h
     .rename_i hl
      rw[J3z] at hl;obtain⟨x,h1,h⟩:=aV h;split at h
      .rename_i e _ a hra
       obtain⟨z,h2,h⟩:=aV h;obtain⟨xs,h3,h⟩:=aV h;obtain⟨ts,h4,h⟩:=aV h;split at h
       .rename_i hm
        cases h;rw[J3z,J3z] at hm;obtain⟨y,q,q',rfl,hy⟩:=JF hra
        have ez:x=.str z:=by cases x<;>simp at h2;rw[h2]
        subst ez;have em:=eq_of_beq hm.1.1;subst em;exact Gi G (pN hl.1) hy (ih _ _ h1).1 (ih _ _ (qm h3)).1 hm.2 hl.2 h4 hm.1.2
       .cases h
      .obtain⟨z,h2,h⟩:=aV h
       exact Gf G.calm (pN hl.1) (ih _ _ h1).1 (ih _ _ h2).1 (aY h2) hl.2 h
     .cases h
    .cases h
   .simp at h
   .cases h
  |ListComp elt gens scope pos =>
   refine val (λ_=>rfl) ?_;simp only[ev] at h;split at h
   .rename_i tg iter ifs a
    split at h
    .rename_i hok
     rw[J3z] at hok
     have ea:a=0:=by simpa using hok.1
     subst ea;obtain⟨l,h1,h⟩:=aV h;split at h
     .rename_i hz
      obtain⟨out,h2,h⟩:=aV h;cases h;obtain⟨hI,hp⟩:=vJ (tg:=tg) G ihp h1;exact LK G hN hok.2 hI hp hz h2 λXc C ρ1 hN1 e d he=>dZ cx n (G.comp C hok.2) hN1 he
     .cases h
    .cases h
   .cases h
  |_=>exact nomatch (show(Option.none:Option D)=some d from h)
end L2
namespace L2
open PySem PySem.Spec PyProof.Rows
structure LamT(H:Hp)(P:Addr)(qual:Str)(l:List (Pos×Addr)):Prop where
 tab:H P=some (XR P (triples l).toArray)
 cod:∀q∈l,H q.2=some (X6 q.2 qual)
theorem LamT.same(h:LamT H P qual l)(e:∀b o,H b=some o->H' b=some o):LamT H' P qual l:=⟨e _ _ h.tab,λq hq=>e _ _ (h.cod q hq)⟩
theorem LamT.upd{H:Hp}{P a:Addr}{qual:Str}{l:List (Pos×Addr)}{us vs:List V}(h:LamT H P qual l)(e:H a=some (.lst us)):LamT (upd H a (.lst vs)) P qual l:=by
 refine⟨?_,λq hq=>?_⟩
 .rw[ao λz=>by rw[<- z,h.tab] at e;cases e];exact h.tab
 .rw[ao λz=>by rw[<- z,h.cod q hq] at e;cases e];exact h.cod q hq
section
variable{X:Cx}{z0:List (Addr×Obj)}{σ:St}{H:Hp}{s:Shared}
end
end L2
namespace L2
open PySem PySem.Spec PyProof.Rows DE PySem.SeqAt
section
variable{prog:Program}{w:World}{A:Around}{E:Value->Shared->Prop}
end
section
variable{X:Cx}{es:List Expr}{k:Nat}{t:TGs}{n:Nat}{pos:Pos}
end
structure Hd(K:Zf)(lm:Option (Addr×Str))(Hs0 H0 Hs H:Hp)(ρ:Rho)(σ:St):Prop where
 ext:Ext Hs0 H0 Hs H
 len:σ.length=ρ.length
 sh:cJ K Hs ρ σ
 ow:∀(i:Nat)(x:Str)(ds:List D),ρ[i]?=some (x,.ow ds)->∃a vs,σ[i]?=some (some (.ref a))/\H a=some (.lst vs)/\aJ K Hs ds vs/\Hs a=none/\H0 a=none
 dis:∀(i j:Nat)(x y:Str)(ds es:List D)(a:Addr),i≠j->ρ[i]?=some (x,.ow ds)->ρ[j]?=some (y,.ow es)->σ[i]?=some (some (.ref a))->σ[j]?=some (some (.ref a))->False
 oo:∀(i:Nat)(x:Str)(dss:List (List D)),ρ[i]?=some (x,.oo dss)->False
 lam:∀p,lm=some p->H0 p.1=none/\∃l,LamT H p.1 p.2 l/\Hs p.1=none/\∀q∈l,Hs q.2=none
section
variable{K:Zf}{lm:Option (Addr×Str)}{Hs0 H0 Hs H Hs' H':Hp}{ρ:Rho}{σ:St}
theorem Hd.step(h:Hd K lm Hs0 H0 Hs H ρ σ)(E:Ext Hs H Hs' H'):Hd K lm Hs0 H0 Hs' H' ρ σ where
 ext:=h.ext.trans E
 len:=h.len
 sh:=h.sh.same E.vis
 ow:=λi x ds e=>by
  obtain⟨a,vs,h1,h2,h3,h4,h5⟩:=h.ow i x ds e;exact⟨a,vs,h1,E.all _ _ h2,aJ.same E.vis ds vs h3,E.hid a _ h2 h4,h5⟩
 dis:=h.dis
 oo:=h.oo
 lam:=λp hp=>by
  obtain⟨h0,l,T,n1,n2⟩:=h.lam p hp;exact⟨h0,l,T.same E.all,E.hid _ _ T.tab n1,λq hq=>E.hid _ _ (T.cod q hq) (n2 q hq)⟩
def LmT(lm:Option (Addr×Str))(H:Hp):Prop:=∀p,lm=some p->∃l,LamT H p.1 p.2 l
theorem Hd.lmt(h:Hd K lm Hs0 H0 Hs H ρ σ):LmT lm H:=λp hp=>by
 obtain⟨_,l,T,_⟩:=h.lam p hp;exact⟨l,T⟩
theorem lE{i:Nat}(h:(frz n e ρ)[i]?=some (x,s)):(ρ[i]?=some (x,s)/\(RG s=false->iD n x e=false))\/(∃ds,s=.sh (.lst ds)/\ρ[i]?=some (x,.ow ds)/\iD n x e=true)\/∃dss,s=.sh (.lst (dss.map .lst))/\ρ[i]?=some (x,.oo dss)/\iD n x e=true:=by
 unfold frz at h;rw[List.getElem?_map] at h;obtain⟨⟨y,t⟩,h1,h2⟩:=R0z.mp h
 cases t with
 |no=>simp at h2;obtain⟨rfl,rfl⟩:=h2;exact .inl ⟨h1,λz=>nomatch z⟩
 |sh d=>simp at h2;obtain⟨rfl,rfl⟩:=h2;exact .inl ⟨h1,λz=>nomatch z⟩
 |ow ds =>
  simp only at h2
  cases hm:iD n y e with
  |true =>
   rw[hm,G7z rfl] at h2;cases h2;exact .inr (.inl ⟨ds,rfl,h1,hm⟩)
  |false =>
   rw[hm] at h2;obtain⟨rfl,rfl⟩:=h2;exact .inl ⟨h1,λ_=>hm⟩
 |oo dss =>
  simp only at h2
  cases hm:iD n y e with
  |true =>
   rw[hm,G7z rfl] at h2;cases h2;exact .inr (.inr ⟨dss,rfl,h1,hm⟩)
  |false =>
   rw[hm] at h2;obtain⟨rfl,rfl⟩:=h2;exact .inl ⟨h1,λ_=>hm⟩
theorem bf(n:Nat)(e:Expr):(frz n e ρ).map (·.1)=ρ.map (·.1):=by
 unfold frz;rw[H6z];apply List.map_congr_left;intro p _;obtain⟨x,s⟩:=p
 cases s<;>simp<;>(split<;>rfl)
open Classical in
theorem Hd.frozen2(n:Nat)(e:Expr)(h:Hd K lm Hs0 H0 Hs H ρ σ):∃Hs1,Same Hs Hs1/\(∀b o,Hs1 b=some o->Hs b=some o\/∃vs,o=.lst vs)/\Hd K lm Hs0 H0 Hs1 H (frz n e ρ) σ:=by
 let Fo:Addr->Prop:=λb=>∃(i:Nat)(x:Str)(ds:List D),ρ[i]?=some (x,Sl.ow ds)/\iD n x e=true/\σ[i]?=some (some (V.ref b))
 let Hs1:Hp:=λb=>if Fo b then H b else Hs b
 have vis:=λb o q=>by
  show(if Fo b then H b else Hs b)=some o;split
  .exact h.ext.sub b o q
  .exact q
 have sub:=λb o q=>by
  have q':(if Fo b then H b else Hs b)=some o:=q;split at q'
  .exact q'
  .exact h.ext.sub b o q'
 have fz:∀b,Fo b->∃vs,H b=some (.lst vs)/\H0 b=none:=λb ⟨i,x,ds,g1,_,g3⟩=>by
  obtain⟨a,vs,k1,k2,k3,k4,k5⟩:=h.ow i x ds g1;rw[k1] at g3;cases g3;exact⟨vs,k2,k5⟩
 have shp:∀b o,Hs1 b=some o->Hs b=some o\/∃vs,o=.lst vs:=λb o q=>by
  have q':(if Fo b then H b else Hs b)=some o:=q;split at q'
  .rename_i f
   obtain⟨vs,k2,_⟩:=fz b f;rw[k2] at q';cases q';exact .inr ⟨vs,rfl⟩
  .exact .inl q'
 have hz:∀(b:Addr)(u:Heap->Prop),H b=some (.ext u)->Hs b=none->Hs1 b=none:=λb u q n=>by
  show(if Fo b then H b else Hs b)=none;rw[H7z λf=>?_]
  .exact n
  .obtain⟨vs,k2,_⟩:=fz b f
   rw[k2] at q;cases q
 refine⟨Hs1,vis,shp,⟨h.ext.vis.trans vis,h.ext.all,sub,λb o q z=>?_⟩,by rw[h.len];simp[frz],λi x d q=>?_,λi x ds q=>?_,λi j x y ds es a hij q1 q2=>?_,λi x dss q=>?_,λp hp=>by obtain⟨h0,l,T,n1,n2⟩:=h.lam p hp;exact⟨h0,l,T,hz _ _ T.tab n1,λq hq=>hz _ _ (T.cod q hq) (n2 q hq)⟩⟩
 .show(if Fo b then H b else Hs b)=none
  rw[H7z λf=>by obtain⟨_,_,k⟩:=fz b f;rw[k] at q;cases q]
  exact h.ext.hid b o q z
 .obtain⟨q,_⟩|⟨ds,e1,q2,hm⟩|⟨dss,e1,q2,hm⟩:=lE q
  .obtain⟨v,k1,k2⟩:=h.sh i x d q
   exact⟨v,k1,Rep.same vis d v k2⟩
  .cases e1
   obtain⟨a,vs,k1,k2,k3,k4,k5⟩:=h.ow i x ds q2;refine⟨_,k1,?_⟩;refine⟨a,vs,rfl,.of ?_,aJ.same vis ds vs k3⟩;show(if Fo a then H a else Hs a)=_;rw[G7z ⟨i,x,ds,q2,hm,k1⟩];exact k2
  .exact(h.oo i x dss q2).elim
 .obtain⟨q,hm⟩|⟨ds',e1,q,hm⟩|⟨ds',e1,q,hm⟩:=lE q
  .obtain⟨a,vs,k1,k2,k3,k4,k5⟩:=h.ow i x ds q
   refine⟨a,vs,k1,k2,aJ.same vis ds vs k3,?_,k5⟩;show(if Fo a then H a else Hs a)=none;rw[H7z]
   .exact k4
   .rintro⟨j,y,es,g1,g2,g3⟩
    by_cases hij:i=j
    .subst hij
     rw[q] at g1;cases g1;rw[hm rfl] at g2;cases g2
    .exact h.dis i j x y ds es a hij q g1 k1 g3
  .cases e1
  .cases e1
 .obtain⟨q1,_⟩|⟨ds',e1,_⟩|⟨ds',e1,_⟩:=lE q1
  .obtain⟨q2,_⟩|⟨ds',e1,_⟩|⟨ds',e1,_⟩:=lE q2
   .exact h.dis i j x y ds es a hij q1 q2
   .cases e1
   .cases e1
  .cases e1
  .cases e1
 .obtain⟨q,_⟩|⟨ds',e1,_⟩|⟨ds',e1,_⟩:=lE q
  .exact h.oo i x dss q
  .cases e1
  .cases e1
theorem Hd.frozen(n:Nat)(e:Expr)(h:Hd K lm Hs0 H0 Hs H ρ σ):∃Hs1,Same Hs Hs1/\Hd K lm Hs0 H0 Hs1 H (frz n e ρ) σ :=
 let ⟨Hs1,a,_,b⟩:=h.frozen2 n e
 ⟨Hs1,a,b⟩
theorem Hd.set(h:Hd K lm Hs0 H0 Hs H ρ σ)(hn:(ρ.map (·.1)).Nodup)(hi:(ρ.map (·.1))[i]?=some x)(r:Rep K Hs d v):Hd K lm Hs0 H0 Hs H (eE ρ x (.sh d)) (σ.set i (some v)):=by
 have hl:i<σ.length:=by have:=(List.getElem?_eq_some_iff.mp hi).1;rw[h.len];simpa using this
 refine⟨h.ext,by rw[X4z,h.len];have:=congrArg List.length (aP ρ x (.sh d));simpa using this.symm,pL hn hi hl h.sh r,λj y ds e=>?_,λj j' y y' ds es a hjj e1 e2 e3 e4=>?_,λj y dss e=>?_,h.lam⟩
 .rw[cG hn hi j] at e
  split at e
  .cases e
  .rename_i hj
   obtain⟨a,vs,k1,k⟩:=h.ow j y ds e;exact⟨a,vs,by rw[List.getElem?_set_ne (λz=>hj z.symm)];exact k1,k⟩
 .rw[cG hn hi] at e1 e2
  split at e1
  .cases e1
  .rename_i hj
   split at e2
   .cases e2
   .rename_i hj'
    rw[List.getElem?_set_ne (λz=>hj z.symm)] at e3;rw[List.getElem?_set_ne (λz=>hj' z.symm)] at e4;exact h.dis j j' y y' ds es a hjj e1 e2 e3 e4
 .rw[cG hn hi j] at e
  split at e
  .cases e
  .rename_i hj
   exact h.oo j y dss e
theorem Hd.own(h:Hd K lm Hs0 H0 Hs H ρ σ)(hn:(ρ.map (·.1)).Nodup)(hi:(ρ.map (·.1))[i]?=some x)(h1:H acc=some (.lst vs))(r:aJ K Hs ds vs)(h2:Hs acc=none)(h3:H0 acc=none)
  (no:∀(j:Nat) y dss,j≠i->ρ[j]?=some (y,.oo dss)->False) (ap:∀(j:Nat) y es,j≠i->ρ[j]?=some (y,.ow es)->σ[j]?=some (some (.ref acc))->False):Hd K lm Hs0 H0 Hs H (eE ρ x (.ow ds)) (σ.set i (some (.ref acc))):=by
 have hl:i<σ.length:=by have:=(List.getElem?_eq_some_iff.mp hi).1;rw[h.len];simpa using this
 refine⟨h.ext,by rw[X4z,h.len];have:=congrArg List.length (aP ρ x (.ow ds));simpa using this.symm,λj y d e=>?_,λj y es e=>?_,λj j' y y' ds' es a hjj e1 e2 e3 e4=>?_,λj y dss e=>?_,h.lam⟩
 .rw[cG hn hi j] at e
  split at e
  .cases e
  .rename_i hj
   obtain⟨v,k1,k2⟩:=h.sh j y d e;exact⟨v,by rw[List.getElem?_set_ne (λz=>hj z.symm)];exact k1,k2⟩
 .rw[cG hn hi j] at e
  split at e
  .rename_i hj
   subst hj;cases e;exact⟨acc,vs,by rw[List.getElem?_set_self hl],h1,r,h2,h3⟩
  .rename_i hj
   obtain⟨a,vs',k1,k⟩:=h.ow j y es e;exact⟨a,vs',by rw[List.getElem?_set_ne (λz=>hj z.symm)];exact k1,k⟩
 .rw[cG hn hi] at e1 e2
  split at e1
  .rename_i hj
   split at e2
   .rename_i hj'
    exact hjj (hj.trans hj'.symm)
   .rename_i hj'
    subst hj;rw[List.getElem?_set_self hl] at e3;cases e3;rw[List.getElem?_set_ne (λz=>hj' z.symm)] at e4;exact ap j' y' es hj' e2 e4
  .rename_i hj
   split at e2
   .rename_i hj'
    subst hj';rw[List.getElem?_set_self hl] at e4;cases e4;rw[List.getElem?_set_ne (λz=>hj z.symm)] at e3;exact ap j y ds' hj e1 e3
   .rename_i hj'
    rw[List.getElem?_set_ne (λz=>hj z.symm)] at e3;rw[List.getElem?_set_ne (λz=>hj' z.symm)] at e4;exact h.dis j j' y y' ds' es a hjj e1 e2 e3 e4
 .rw[cG hn hi j] at e
  split at e
  .cases e
  .rename_i hj
   exact(no j y dss hj e).elim
theorem Hd.app{i:Nat}(h:Hd K lm Hs0 H0 Hs H ρ σ)(hn:(ρ.map (·.1)).Nodup)(hi:ρ[i]?=some (x,.ow ds))(hσ:σ[i]?=some (some (.ref a)))(r:aJ K Hs es vs):Hd K lm Hs0 H0 Hs (upd H a (.lst vs)) (eE ρ x (.ow es)) σ:=by
 obtain⟨a',vs',k1,k2,k3,k4,k5⟩:=h.ow i x ds hi;rw[hσ] at k1;cases k1
 have hi':(ρ.map (·.1))[i]?=some x:=by rw[List.getElem?_map,hi];rfl
 refine⟨Ext.acc h.ext k5 k4,by rw[h.len];have:=congrArg List.length (aP ρ x (.ow es));simpa using this.symm,λj y d e=>?_,λj y es' e=>?_,λj j' y y' ds' es' b hjj e1 e2 e3 e4=>?_,λj y dss e=>?_,λp hp=>by obtain⟨h0,l,T,n⟩:=h.lam p hp;exact⟨h0,l,T.upd k2,n⟩⟩
 .rw[cG hn hi' j] at e
  split at e
  .cases e
  .exact h.sh j y d e
 .rw[cG hn hi' j] at e
  split at e
  .rename_i hj
   subst hj;cases e;exact⟨a,vs,hσ,aA,r,k4,k5⟩
  .rename_i hj
   obtain⟨b,us,g1,g2,g⟩:=h.ow j y es' e;refine⟨b,us,g1,?_,g⟩;rw[ao]
   .exact g2
   .rintro rfl
    exact h.dis j i y x es' ds b hj e hi g1 hσ
 .rw[cG hn hi'] at e1 e2
  split at e1
  .rename_i hj
   split at e2
   .rename_i hj'
    exact hjj (hj.trans hj'.symm)
   .subst hj
    exact h.dis j j' x y' ds es' b hjj hi e2 e3 e4
  .split at e2
   .rename_i hj'
    subst hj';exact h.dis j j' y x ds' ds b hjj e1 hi e3 e4
   .exact h.dis j j' y y' ds' es' b hjj e1 e2 e3 e4
 .rw[cG hn hi' j] at e
  split at e
  .cases e
  .rename_i hj
   exact h.oo j y dss e
theorem Kv(hn:(ρ.map (·.1)).Nodup)(hi:(ρ.map (·.1))[i]?=some x)(h:HJ ρ x=true):∀(j:Nat) y dss,j≠i->ρ[j]?=some (y,.oo dss)->False:=λj y dss hj e=>by
 have:=A4z.mp h _ (List.mem_of_getElem? e);rw[S4z] at this;obtain q|q:=this
 .have ey:y=x:=by simpa using q
  have e':(ρ.map (·.1))[j]?=some x:=by rw[List.getElem?_map,e,<- ey];rfl
  exact hj ((List.getElem?_inj (List.getElem?_eq_some_iff.mp e').1 hn).mp (e'.trans hi.symm))
 .exact nomatch q
theorem vA:nq K Hs scope (λρ σ=>Hd K lm Hs0 H0 Hs H ρ σ):=λρ σ i x d v hn hi _ h r=>h.set hn hi r
end
end L2
namespace L2
open PySem PySem.Spec PyProof.Rows PySem.SeqAt
open DE hiding st
def oZ(X:Cx)(s:Stmt):TS:=λD σ H=>∀z0 s0,Inv X z0 σ H s0->wpAny (model X.prog X.w) X.A (exec s X.env) (SP X z0 D) X.xe s0
def eO(X:Cx)(s:List Stmt):TS:=λD σ H=>∀z0 s0,Inv X z0 σ H s0->wpAny (model X.prog X.w) X.A (execs s X.env) (SP X z0 D) X.xe s0
section
variable{X:Cx}{s:Stmt}{ss:List Stmt}{t:TS}{D:Ends}{σ:St}{H:Hp}
theorem pO:PS X s (oZ X s):=λz0 s σ H D I h=>h z0 s I
theorem PS.sem(h:PS X s t)(q:t D σ H):oZ X s D σ H:=λz0 s I=>h z0 s σ H D I q
theorem cP:PSs X ss (eO X ss):=λz0 s σ H D I h=>h z0 s I
theorem PSs.sem(h:PSs X ss t)(q:t D σ H):eO X ss D σ H:=λz0 s I=>h z0 s σ H D I q
end
def Runs(X:Cx)(Hs0 H0:Hp)(ρ:Rho)(fl:Fl)(t:TS):Prop:=∀σ H Hs D,Hd X.K X.lm Hs0 H0 Hs H ρ σ->X.N=ρ.map (·.1)->(∀ρ' σ' Hs' H',fl=.nxt ρ'->Same Hs Hs'->X.N=ρ'.map (·.1)->Hd X.K X.lm Hs0 H0 Hs' H' ρ' σ'->D.nx σ' H') ->
 (∀d v Hs' H',fl=.ret d->Ext Hs0 H0 Hs' H'->Rep X.K Hs' d v->LmT X.lm H'->D.rt v H')->t D σ H
structure GoodS(cx:Cxt)(k:Nat)(X:Cx)(sc:Scope):Prop where
 good:Good cx k X sc
 own:Owns X sc
 pass:PassesOwn (model X.prog X.w) X.A X.env X.xe
 stk:X.stack=X.env::X.outer/\X.env.frame=some X.env.locals
section
variable{X:Cx}{ρ:Rho}{cx:Cxt}{k F:Nat}{sc scope:Scope}{Hs0 H0:Hp}{e:Expr}{d:D}
theorem Gg(G:GoodS cx k X sc)(hN:X.N=ρ.map (·.1))(he:ev cx F sc (frz F e ρ) e=some d)(h:Hd X.K X.lm Hs0 H0 Hs H ρ σ)(q:∀v Hs' H',Same Hs Hs'->Hd X.K X.lm Hs0 H0 Hs' H' (frz F e ρ) σ->Rep X.K Hs' d v->Q v H'):jx X e σ H Q:=by
 obtain⟨Hs1,sm1,h1⟩:=h.frozen F e;exact(dZ cx F G.good (by rw[bf];exact hN) he).1 σ H Hs1 Q h1.ext.sub h1.sh λv H' Hs' E r=>q v Hs' H' (sm1.trans E.vis) (h1.step E) r
theorem Rh(G:GoodS cx k X sc)(hN:X.N=ρ.map (·.1))(he:ev cx F sc (frz F e ρ) e=some (.bl b))(h:Hd X.K X.lm Hs0 H0 Hs H ρ σ)(q:∀Hs' H',Same Hs Hs'->Hd X.K X.lm Hs0 H0 Hs' H' (frz F e ρ) σ->Q b H'):rM X e σ H Q:=by
 obtain⟨Hs1,sm1,h1⟩:=h.frozen F e;exact(dZ cx F G.good (by rw[bf];exact hN) he).2 b rfl σ H Hs1 Q h1.ext.sub h1.sh λH' Hs' E=>q Hs' H' (sm1.trans E.vis) (h1.step E)
theorem Lr(G:GoodS cx k X sc)(hN:X.N=ρ.map (·.1))(he:ev cx F sc (frz F e ρ) e=some (.bl b))(h:Hd X.K X.lm Hs0 H0 Hs H ρ σ)(q:∀Hs' H',Same Hs Hs'->Hd X.K X.lm Hs0 H0 Hs' H' ρ σ->Q b H'):rM X e σ H Q:=by
 obtain⟨Hs1,sm1,shp,h1⟩:=h.frozen2 F e;exact(dZ cx F G.good (by rw[bf];exact hN) he).2 b rfl σ H Hs1 Q h1.ext.sub h1.sh λH' Hs' E=>q Hs H' (.refl _) (h.step ⟨.refl _,E.all,h.ext.sub.trans E.all,λ_ _ _ z=>z⟩)
theorem jZ(he:ev cx F sc ρ e=some d)(hc:∀a b c p,e≠.ListComp a b c p):swapsWith e t l env=pure false:=by
 cases F with
 |zero=>simp[ev] at he
 |succ F =>
  cases e<;>first|rfl|(exact nomatch (show(Option.none:Option D)=some d from he))|(exact absurd rfl (hc _ _ _ _))
theorem DN(h:dI e=false):pG e d=.sh d:=by
 unfold pG;split
 .rw[h];rfl
 .rfl
def X3(X:Cx)(ρ:Rho)(e:Expr)(ds:List D):Prop:=∀σ H Hs Q,Same Hs H->cJ X.K Hs ρ σ->(∀acc vs Hs' H',Ext Hs H Hs' H'->H acc=none->Hs' acc=none->H' acc=some (.lst vs)->aJ X.K Hs' ds vs->Q (.ref acc) H')->jx X e σ H Q
theorem Et(h:EvA X ρ es ds)(hz:szl ds.length=true):X3 X ρ (.List es pos) ds:=λσ H Hs Q hs hst hq =>
 (pY cR).sem (h σ H Hs _ hs hst λvs H1 Hs1 E1 r1=>⟨by rw[<- r1.length];exact fU hz,λp hp =>
  hq p vs Hs1 _ (Ext.acc E1 (E1.all.free hp) (E1.sub.free hp)) (E1.all.free hp) (E1.sub.free hp) aA r1⟩)
theorem Cg(G:Good cx k X sc)(hN:X.N=ρ.map (·.1))(he:ev cx (n+1) sc ρ (.ListComp elt gens scope pos)=some d) :
    ∃tg iter ifs l out, gens=[⟨tg, iter, ifs, 0⟩]/\dN sc scope=true/\EvI X ρ tg iter l/\aG iter=true/\szl l.length=true/\aU (MN cx n sc scope ρ tg elt ifs) l=some out/\d=.lst out /\
      (∀Xc,CompOf X scope Xc->∀ρ1:Rho,Xc.N=ρ1.map (·.1)->∀e d,ev cx n (jg scope sc) ρ1 e=some d->Ev Xc ρ1 e d/\∀b,d=.bl b->EvT Xc ρ1 e b):=by
  simp only[ev] at he
  split at he
  . rename_i tg iter ifs a
    split at he
    . rename_i hok
      rw[J3z] at hok
      have ea:a=0:=by simpa using hok.1
      subst ea
      obtain⟨l,h1,he⟩:=aV he
      split at he
      . rename_i hz
        obtain⟨out,h2,he⟩:=aV he
        cases he
        obtain⟨hI,hp⟩:=vJ G (λe d h=>⟨(dZ cx n G hN h).1,aY h⟩) h1
        exact⟨tg,iter,ifs,l,out,rfl,hok.2,hI,hp,hz,h2,rfl,λXc C ρ1 hN1 e d he=>dZ cx n (G.comp C hok.2) hN1 he⟩
      . cases he
    . cases he
  . cases he
theorem Ho(G:GoodS cx k X sc)(hN:X.N=ρ.map (·.1))(hx:ownIn sc x=true)(hc:(ρ.map (·.1)).contains x=true)(hno:HJ (frz F e ρ) x=true)
  (hrun:∀(i:Nat),X.N[i]?=some x->∀σ H Hs D,Same Hs H->cJ X.K Hs (frz F e ρ) σ->(∀acc vs Hs' H',Ext Hs H Hs' H'->H acc=none->Hs' acc=none->H' acc=some (.lst vs)->aJ X.K Hs' ds vs->D.nx (σ.set i (some (.ref acc))) H')->oZ X (.Assign [.Name x px] e pos) D σ H) :
  Runs X Hs0 H0 ρ (.nxt (eE (frz F e ρ) x (.ow ds))) (oZ X (.Assign [.Name x px] e pos)):=by
 intro σ H Hs D h _ hn hr;obtain⟨i,hi⟩:=cD hc;obtain⟨Hs1,sm1,h1⟩:=h.frozen F e
 have hnd:((frz F e ρ).map (·.1)).Nodup:=by rw[bf,<- hN];exact G.good.nd
 refine hrun i (by rw[hN];exact hi) σ H Hs1 D h1.ext.sub h1.sh λacc vs Hs' H' E a1 a2 a3 r=>?_
 refine hn _ _ Hs' H' rfl (sm1.trans E.vis) (by rw[aP,bf];exact hN) ((h1.step E).own hnd (by rw[bf];exact hi) a3 r a2 (h1.ext.all.free a1) (Kv hnd (by rw[bf];exact hi) hno) λj y es hj q1 q2=>?_)
 obtain⟨b,us,k1,k2,_⟩:=h1.ow j y es q1;rw[k1] at q2;cases q2;rw[a1] at k2;cases k2
theorem Ji{x:Str}{px pos:Pos}(G:GoodS cx k X sc)(hN:X.N=ρ.map (·.1))(hx:ownIn sc x=true)(hc:(ρ.map (·.1)).contains x=true)(hno:dI e=true->HJ (frz F e ρ) x=true)(he:ev cx F sc (frz F e ρ) e=some d) :
  Runs X Hs0 H0 ρ (.nxt (eE (frz F e ρ) x (pG e d))) (oZ X (.Assign [.Name x px] e pos)):=by
 obtain⟨ox,of⟩:=G.own.own x hx
 have hN':X.N=(frz F e ρ).map (·.1):=by rw[bf];exact hN
 by_cases hfr:dI e=true
 .cases F with
  |zero=>simp[ev] at he
  |succ F =>
   cases e with
   |List es p2 =>
    simp only[ev] at he;obtain⟨ds,h1,he⟩:=aV he;split at he
    .rename_i hz
     cases he;have hA:=(gb (λe _ d hd=>⟨(dZ cx F G.good hN' hd).1,aY hd⟩) h1).1;refine Ho G hN hx hc (hno rfl) λi hi σ H Hs D hs hst hq=>?_;refine PS.sem (fK G.good.nd hi ox ak rfl of) (Et hA hz σ H Hs _ hs hst λacc vs Hs' H' E a1 a2 a3 r=>hq acc vs Hs' H' E a1 a2 a3 r)
    .cases he
   |ListComp elt gens scope p2 =>
    obtain⟨tg,iter,ifs,l,out,rfl,hok,hI,hp,hz,hgo,rfl,hE⟩:=Cg G.good hN' he;obtain⟨ok1,ok2,ok3⟩:=dg G.good hok;refine Ho G hN hx hc (hno rfl) λi hi σ H Hs D hs hst hq=>?_
    have rd:rN X scope (jJ X tg iter) (sO X.N scope.names) (λXc=>Gb Xc tg) (λXc=>tG Xc ifs) (λXc=>jx Xc elt) σ H (λv H1=>D.nx (σ.set i (some v)) H1) :=
     qI G.good hN' hok hI hz hgo hE hs hst λacc vs Hs' H' E a1 a2 a3 r=>hq acc vs Hs' H' E a1 a2 a3 r
    cases hsw:(X.env.blockKind==.function&&X.env.kindOf x==some .local&&px.line==p2.line && !(scope.names.any λ(n,k)=>n==x&&(k==.local||k==.cell))) with
    |true =>
     have e1:swapsWith (.ListComp elt [⟨tg,iter,ifs,0⟩] scope p2) (some (.Name x px)) pos.line X.env=pure true:=by rw[<- hsw];rfl
     rw[J3z,J3z,J3z] at hsw
     have hl:X.env.scope.names.lookup x=some .local:=by simpa[Env.kindOf] using hsw.1.1.2
     exact PS.sem (JR G.good.nd hi hl G.good.calm ok1 ok2 ok3 j8 (λXc C=>⟨iK,gD,ak⟩) (dW hp) e1) rd
    |false =>
     have e1:swapsWith (.ListComp elt [⟨tg,iter,ifs,0⟩] scope p2) (some (.Name x px)) pos.line X.env=pure false:=by rw[<- hsw];rfl
     exact PS.sem (fK G.good.nd hi ox (kj G.good.calm ok1 ok2 ok3 j8 (λXc C=>⟨iK,gD,ak⟩) (dW hp)) e1 of) rd
   |_=>simp[dI] at hfr
 .have hfr':dI e=false:=by simpa using hfr
  rw[DN hfr'];intro σ H Hs D h _ hn hr;obtain⟨i,hi⟩:=cD hc
  have hsw:=jZ (t:=some (.Name x px)) (l:=pos.line) (env:=X.env) he λa b c p q=>by rw[q] at hfr';cases hfr'
  refine PS.sem (fK (i:=i) G.good.nd (by rw[hN];exact hi) ox ak hsw of) (Gg G hN he h λv Hs' H' sm h' r=>?_)
  exact hn _ _ Hs' H' rfl sm (by rw[aP];exact hN') (h'.set (by rw[<- hN'];exact G.good.nd) (by rw[bf];exact hi) r)
theorem yh(G:GoodS cx k X sc)(hs:Same Hs H)(hN:X.N=ρ.map (·.1))(KE:nq X.K Hs sc P)(hl:tupI d=some l)(hb:bindNames sc es l ρ=some ρ')(hp:P ρ σ)(rd:Rep X.K Hs d v)
  (hq:∀σ',X.N=ρ'.map (·.1)->P ρ' σ'->Q σ' H):Gb X (.Tuple es kt pos) v σ H Q:=by
 obtain⟨e1,e2,e3⟩:=gG (env:=X.env) hb
 cases d with
 |tup xs =>
  simp[tupI,Y2z] at hl;subst hl
  obtain⟨a,vs,rfl,h1,h2⟩:=bU rd;exact PG.sem (Hy G.good.calm sE e1 e2) ⟨a,vs,rfl,hs.tup h1,by rw[<- h2.length,e3],jt G.own G.good.nd KE hN hb hp h2 hq⟩
 |_=>simp[tupI] at hl
theorem vd(h:nc0 e=true):foldedForSure n e=false/\constantsAlone n e=false:=by
 cases e with
 |Name x p =>
  have h':(!(x==("__debug__":Str)))=true:=h
  have e:(x==("__debug__":Str))=false:=by simpa using h'
  exact⟨by cases n<;>rfl,by cases n<;>exact e⟩
 |_=>cases n<;>first|exact⟨rfl,rfl⟩|exact nomatch h
theorem QG(h:nc1 e=true):constantsAlone (n+1) e=false:=by
 unfold nc1 at h;split at h
 .show(constantsAlone n _&&constantsAlone n _)=false
  rw[(vd h).2];rfl
 .exact(vd h).2
theorem Fi(h:nc e=true):foldedForSure 8 e=false/\constantsAlone 8 e=false:=by
 unfold nc at h;split at h
 .rw[S4z] at h
  refine⟨rfl,show(constantsAlone 7 _&&constantsAlone 7 _)=false from ?_⟩
  rcases h with h|h<;>simp[(vd h).2]
 .rw[S4z] at h
  refine⟨rfl,show(constantsAlone 7 _&&constantsAlone 7 _)=false from ?_⟩
  rcases h with h|h<;>simp[QG h]
 .exact vd h
theorem G7(G:Good cx k X sc):X.env.blockKind=.function:=by
 unfold Env.blockKind;rw[G.sce,G.kind];rfl
theorem O5(G:Good cx k X sc)(h:swp sc es e=some false):swappedStores [.Tuple es kt pt] e X.env=pure none:=by
 cases e with
 |Tuple vs k2 p2 =>
  simp[swp] at h;split at h
  .split at h
   .split at h<;>cases h
   .cases h
  .cases h
 |_=>rfl
theorem Jg(G:Good cx k X sc)(h:swp sc es e=some true):∃x px y py a b k2 p2,es=[.Name x px,.Name y py]/\e=.Tuple [a,b] k2 p2/\X.env.scope.names.lookup x=some .local/\X.env.scope.names.lookup y=some .local/\x≠y/\aG a=true/\aG b=true /\
    swappedStores [.Tuple es kt pt] e X.env=pure (some [x,y]):=by
  cases e with
  |Tuple vs k2 p2 =>
    simp only[swp] at h
    split at h
    . rename_i x px y py a b
      split at h
      . rename_i hl
        split at h
        . rename_i hq
          rw[J3z] at hl
          rw[J3z,J3z,J3z,J3z,S4z] at hq
          obtain⟨⟨⟨⟨q1,q2⟩,q3⟩,q4⟩,q5⟩:=hq
          have l1:X.env.kindOf x=some .local:=by unfold Env.kindOf;rw[G.sce];simpa using hl.1
          have l2:X.env.kindOf y=some .local:=by unfold Env.kindOf;rw[G.sce];simpa using hl.2
          have hxy:x≠y:=by simpa using q2
          have hpl : py.line = px.line := by have : px.line = py.line := by simpa using q1
                                             exact this.symm
          have f1:(foldedForSure 8 a&&foldedForSure 8 b)=false:=by
            obtain q|q:=q3
            . rw[(Fi q).1];rfl
            . rw[(Fi q).1,I5z]
          have f2:(constantsAlone 8 a&&constantsAlone 8 b)=false:=by
            obtain q|q:=q3
            . rw[(Fi q).2];rfl
            . rw[(Fi q).2,I5z]
          refine⟨x,px,y,py,a,b,k2,p2,rfl,rfl,l1,l2,hxy,q4,q5,?_⟩
          unfold swappedStores
          have ed:([x,y]:List Str).eraseDups.length=2:=by
            have:(y==x)=false:=by simpa using hxy.symm
            simp[List.eraseDups_cons,this]
          have al1:[a,b].all (foldedForSure 8)=false:=by simpa using f1
          have al2:[a,b].all (constantsAlone 8)=false:=by simpa using f2
          simp only[al1,al2,G7 G]
          generalize hst:[a,b].any _=sb
          have hsb:sb=false:=by
            rw[<- hst,S5z,S5z,List.any_nil,Bool.or_false,Bool.or_eq_false_iff]
            refine⟨?_,?_⟩
            . cases a<;>first|rfl|(simp[aG] at q4)
            . cases b<;>first|rfl|(simp[aG] at q5)
          generalize hf:List.filterMap _ [Expr.Name x px,Expr.Name y py]=nm
          have hnm:nm=[x,y]:=by
            rw[<- hf]
            simp[l1,l2,hpl,Expr.pos]
          rw[hsb,hnm]
          simp only[ed]
          rfl
        . cases h
      . cases h
    . cases h
  |_=>simp[swp] at h
end
section
variable{X:Cx}{pos:Pos}
end
section
variable{X:Cx}{ρ:Rho}{cx:Cxt}{k F:Nat}{sc scope:Scope}{Hs0 H0:Hp}{e:Expr}{d:D}
theorem O8(G:GoodS cx k X sc)(hN:X.N=ρ.map (·.1))(hs:(swp sc es e).isSome=true)(he:ev cx F sc (frz F e ρ) e=some d)(hl:tupI d=some l)(hb:bindNames sc es l (frz F e ρ)=some ρ') :
  Runs X Hs0 H0 ρ (.nxt ρ') (oZ X (.Assign [.Tuple es kt pt] e pos)):=by
 have hN':X.N=(frz F e ρ).map (·.1):=by rw[bf];exact hN
 obtain⟨b,hb'⟩:=Option.isSome_iff_exists.mp hs
 cases b with
 |false =>
  have hso:swapsWithSole [.Tuple es kt pt] e pos.line X.env=pure false:=by
   show swapsWith e (some (.Tuple es kt pt)) pos.line X.env=pure false
   by_cases hc:∃a b c p,e=.ListComp a b c p
   .obtain⟨a,b,c,p,rfl⟩:=hc
    rfl
   .exact jZ he λa b c p q=>hc ⟨a,b,c,p,q⟩
  intro σ H Hs D h _ hn hr;exact PS.sem (Qd ak iK hso (O5 (kt:=kt) (pt:=pt) G.good hb') rfl) (Gg G hN he h λv Hs' H' sm h' r=>yh G h'.ext.sub hN' vA hl hb h' r λσ' hN2 p=>hn ρ' σ' Hs' H' rfl sm hN2 p)
 |true =>
  obtain⟨x,px,y,py,a,b,k2,p2,rfl,rfl,lx,ly,hxy,pa,pb,hw⟩:=Jg (kt:=kt) (pt:=pt) G.good hb'
  cases F with
  |zero=>simp[ev] at he
  |succ F =>
   obtain⟨ds,h1,he⟩:=aV he;split at he
   .cases he
    simp[tupI,Y2z] at hl;subst hl;have hA:=(gb (λe _ d hd=>⟨(dZ cx F G.good hN' hd).1,aY hd⟩) h1).1
    have hlen:ds.length=2:=by have:=(gG (env:=X.env) hb).2.2;simpa using this.symm
    obtain⟨d1,d2,rfl⟩:∃d1 d2,ds=[d1,d2]:=by
     match ds,hlen with
     |[d1,d2],_=>exact⟨d1,d2,rfl⟩
    simp only[bindNames] at hb;split at hb
    .rename_i c1
     split at hb
     .rename_i c2
      cases hb;rw[J3z] at c1 c2;rw[aP] at c2;obtain⟨i,hi⟩:=cD c1.2;obtain⟨j,hj⟩:=cD c2.2;intro σ H Hs D h _ hn hr;obtain⟨Hs1,sm1,h1'⟩:=h.frozen (F+1) (.Tuple [a,b] k2 p2);refine PS.sem (Qa G.good.calm G.good.nd (by rw[hN'];exact hi) (by rw[hN'];exact hj) (λz=>by rw[z,hj] at hi;cases hi;exact hxy rfl) lx ly cR hw rfl) (hA σ H Hs1 _ h1'.ext.sub h1'.sh λvs H' Hs' E r=>?_);obtain⟨v,w,rfl,r1,r2⟩:=repL2 r
      have nd:((frz (F+1) (.Tuple [a,b] k2 p2) ρ).map (·.1)).Nodup:=by rw[<- hN'];exact G.good.nd
      have g2:=((h1'.step E).set nd hi r1).set (by rw[aP];exact nd) (by rw[aP];exact hj) r2
      exact⟨v,w,rfl,hn _ _ Hs' H' rfl (sm1.trans E.vis) (by rw[aP,aP];exact hN') g2⟩
     .cases hb
    .cases hb
   .cases he
theorem zj(G:GoodS cx k X sc)(hN:X.N=ρ.map (·.1))(hx:(frz F e ρ).lookup x=some (.ow ds))(ho:ownIn sc x=true)(hp:aZ x=true)(hline:(ap.endLine==cp.line)=true)(hz:szl (ds.length+1)=true)(he:ev cx F sc (frz F e ρ) e=some d) :
  Runs X Hs0 H0 ρ (.nxt (eE (frz F e ρ) x (.ow (ds++[d])))) (oZ X (.Expr (.Call (.Attribute (.Name x px) "append" ap) [e] [] cp) pos)):=by
 have hN':X.N=(frz F e ρ).map (·.1):=by rw[bf];exact hN
 obtain⟨i,hi,_⟩:=eX hx
 have nd:((frz F e ρ).map (·.1)).Nodup:=by rw[<- hN'];exact G.good.nd
 have hpl:=aY he;intro σ H Hs D h _ hn hr;obtain⟨Hs1,sm1,h1⟩:=h.frozen F e;obtain⟨a,vs,k1,k2,k3,k4,k5⟩:=h1.ow i x ds hi;unfold aZ at hp;rw[J3z,X6z,X6z] at hp;refine PS.sem (bW (lW M0z H0z I0z iQ (pX (i:=i) (by rw[hN',List.getElem?_map,hi];rfl) ((G.own.own x ho).1.elim .inl λq=>.inr (.inl q)) (by simpa using hp.1) (by simpa using hp.2)) (au ak aK (aj hpl)) rfl (by rw[aj hpl];rfl) hline (aj hpl) rfl) rfl) ?_;refine⟨_,k1,.inl ⟨rfl,vs,.of k2⟩,?_⟩;refine(dZ cx F G.good hN' he).1 σ H Hs1 _ h1.ext.sub h1.sh λv H' Hs' E r=>?_;refine⟨a,vs,v,rfl,rfl,E.all _ _ k2,by have:=k3.length;have:=yQ hz;omega,?_⟩;exact hn _ _ Hs' _ rfl (sm1.trans E.vis) (by rw[aP];exact hN') ((h1.step E).app nd hi k1 (aJ.append (aJ.same E.vis ds vs k3) (.cons r .nil)))
theorem Bs(l:Addr)(xs:Array Value)(n:Nat)(b:Addr)(ys:Array Value)(m:Nat)(dd:Option Addr)(sl:Array (Option Value))(c0:¬(!xs.isEmpty&&Builtin.List.listTooLong (xs.size+ys.size))=true)(c1:xs.size<=sizeLine)(c2:xs.size+ys.size<=sizeLine+1) :
  Meets (Builtin.«list.extend» ⟨[.ref l,.ref b],[]⟩) (λ_ R s=>s.heap.get? l=some {cls:=.type "list",data:=.seq xs n}/\s.heap.get? b=some {cls:=.type "list",dict:=dd,data:=.seq ys m,slots:=sl} /\
   R (.ok (.ret Value.none)) {s with heap:=s.heap.update l (Obj.mapSeq λx=>x++ys),toks:=s.toks}) :=
 .of_wp λprog w A R s h=>by
  obtain⟨hp,g,d,tk,os⟩:=s;obtain⟨hl,hb,h⟩:=h;have f1:=sub_list_list;have f2:=AutoSeq1.sub_tuple_list;have f3:=AutoSeq1.sub_list_tuple
  have z:(xs++ys).size<=sizeLine+1:=by rw[Array.size_append];exact c2
  wp_walk using(Q4z hl rfl (hz:=c1) (_hz':=z)),F0z hl,F0z hb;exact⟨_,rfl,h⟩
def Us(K:Zf):V->List V->Hp->VK->Prop:=λx vs H Q=>∃l b xs zs,x=.ref l/\vs=[.ref b]/\H l=some (.lst xs)/\SqL K H b zs/\xs.length+zs.length<=sizeLine/\Q .non (upd H l (.lst (xs++zs)))
theorem KH:MtM X "list.extend" (Us X.K):=by
 intro z0 s σ H x vs v us Q I rx rv h;obtain⟨l,b,xs,zs,rfl,rfl,hH,hB,hz,q⟩:=h;cases (show v=Value.ref l from rx);obtain⟨u,rfl,ru⟩:=rv.one;cases (show u=Value.ref b from ru);obtain⟨z,its,n,r,hl,e⟩:=I.lstM hH;obtain⟨its2,r2,pl,hz2⟩:=I.list hB;have hl2:=r2.length;obtain⟨⟨c2,dd2,data2,sl2⟩,n2,e2,hc2,hd2,hs2⟩:=pl;simp only at hc2 hs2
 have hsz:its.toArray.size+its2.toArray.size<=sizeLine:=by rw[P2z,P2z];omega
 have lng:¬ (!its.toArray.isEmpty&&Builtin.List.listTooLong (its.toArray.size+its2.toArray.size))=true:=λw=>by
  rw[uY hsz,I5z] at w;cases w
 obtain⟨h3,h4⟩:=(show dd2=none/\data2=.seq its2.toArray n2 from⟨hd2,hs2⟩);subst hc2 h4;refine V6z F.slot_list_extend ⟨_,e,rfl⟩ F.entry_list_extend (F.args_list_extend_2 _ _) (Bs l its.toArray n b its2.toArray n2 dd2 sl2 lng (by rw[P2z];omega) (by omega)) ⟨e,e2,?_⟩;exact⟨.non,_,I.lset (its':=its++its2) hH e (by simp) (r.append r2) (by rw[B2z];omega),rfl,q⟩
theorem xT(l:Addr)(xs:Array Value)(n:Nat)(b:Addr)(ys:Array Value)(m:Nat)(dd:Option Addr)(sl:Array (Option Value))(c0:¬(!xs.isEmpty&&Builtin.List.listTooLong (xs.size+ys.size))=true)(c1:xs.size<=sizeLine)(c2:xs.size+ys.size<=sizeLine+1) :
  Meets (Builtin.«list.extend» ⟨[.ref l,.ref b],[]⟩) (λ_ R s=>s.heap.get? l=some {cls:=.type "list",data:=.seq xs n}/\s.heap.get? b=some {cls:=.type "tuple",dict:=dd,data:=.seq ys m,slots:=sl} /\
   R (.ok (.ret Value.none)) {s with heap:=s.heap.update l (Obj.mapSeq λx=>x++ys),toks:=s.toks}) :=
 .of_wp λprog w A R s h=>by
  obtain⟨hp,g,d,tk,os⟩:=s;obtain⟨hl,hb,h⟩:=h
  have z:(xs++ys).size<=sizeLine+1:=by rw[Array.size_append];exact c2
  wp_walk using(Q4z hl rfl),F0z hl,F0z hb;exact⟨_,rfl,h⟩
def Ur(K:Zf):V->List V->Hp->VK->Prop:=λx vs H Q=>∃l b xs zs,x=.ref l/\vs=[.ref b]/\H l=some (.lst xs)/\SqT K H b zs/\xs.length+zs.length<=sizeLine/\Q .non (upd H l (.lst (xs++zs)))
theorem KD:MtM X "list.extend" (Ur X.K):=by
 intro z0 s σ H x vs v us Q I rx rv h;obtain⟨l,b,xs,zs,rfl,rfl,hH,hB,hz,q⟩:=h;cases rx;obtain⟨u,rfl,ru⟩:=rv.one;cases ru;obtain⟨z,its,n,r,hl,e⟩:=I.lstM hH;obtain⟨its2,r2,pl,hz2⟩:=I.tuple hB;have hl2:=r2.length;obtain⟨⟨c2,dd2,data2,sl2⟩,e2,hc2,n2,hs2⟩:=pl
 have hsz:its.toArray.size+its2.toArray.size<=sizeLine:=by rw[P2z,P2z];omega
 have lng:¬ (!its.toArray.isEmpty&&Builtin.List.listTooLong (its.toArray.size+its2.toArray.size))=true:=λw=>by
  rw[uY hsz,I5z] at w;cases w
 subst hc2 hs2;refine V6z F.slot_list_extend ⟨_,e,rfl⟩ F.entry_list_extend (F.args_list_extend_2 _ _) (xT l its.toArray n b its2.toArray n2 dd2 sl2 lng (by rw[P2z];omega) (by omega)) ⟨e,e2,?_⟩;exact⟨.non,_,I.lset hH e (by simp) (r.append r2) (by rw[B2z];omega),rfl,q⟩
theorem zc{x:Str}{ds zs:List D}{px ap cp pos:Pos}(G:GoodS cx k X sc)(hN:X.N=ρ.map (·.1))(hx:(frz F e ρ).lookup x=some (.ow ds))(ho:ownIn sc x=true)(hp:aZ x=true)(hline:(ap.endLine==cp.line)=true)(hz:szl (ds.length+zs.length)=true)(he:ev cx F sc (frz F e ρ) e=some (.lst zs)) :
  Runs X Hs0 H0 ρ (.nxt (eE (frz F e ρ) x (.ow (ds++zs)))) (oZ X (.Expr (.Call (.Attribute (.Name x px) "extend" ap) [e] [] cp) pos)):=by
 have hN':X.N=(frz F e ρ).map (·.1):=by rw[bf];exact hN
 obtain⟨i,hi,_⟩:=eX hx
 have nd:((frz F e ρ).map (·.1)).Nodup:=by rw[<- hN'];exact G.good.nd
 have hpl:=aY he;intro σ H Hs D h _ hn hr;obtain⟨Hs1,sm1,h1⟩:=h.frozen F e;obtain⟨a,vs,k1,k2,k3,k4,k5⟩:=h1.ow i x ds hi;unfold aZ at hp;rw[J3z,X6z,X6z] at hp;have vis:Vis X.env.scope x:=(G.own.own x ho).1.elim .inl λq=>.inr (.inl q);refine PS.sem (bW (lW M0z PySem.F.slot_list_extend PySem.F.type_list_extend KH (pX (i:=i) (by rw[hN',List.getElem?_map,hi];rfl) vis (by simpa using hp.1) (by simpa using hp.2)) (au ak aK (aj hpl)) rfl (by rw[aj hpl];rfl) hline (aj hpl) rfl) rfl) ?_;refine⟨_,k1,.inl ⟨rfl,vs,.of k2⟩,?_⟩;refine(dZ cx F G.good hN' he).1 σ H Hs1 _ h1.ext.sub h1.sh λv H' Hs' E r=>?_;have h2:=h1.step E;obtain⟨b,us,rfl,g1,g2⟩:=cu r;refine⟨a,b,vs,us,rfl,rfl,E.all _ _ k2,E.sub.seq g1,by have:=k3.length;have:=g2.length;have:=fU hz;omega,?_⟩;exact hn _ _ Hs' _ rfl (sm1.trans E.vis) (by rw[aP];exact hN') (h2.app nd hi k1 (aJ.append (aJ.same E.vis ds vs k3) g2))
theorem wQ(G:GoodS cx k X sc)(hN:X.N=ρ.map (·.1))(hx:(frz F e ρ).lookup x=some (.ow ds))(ho:ownIn sc x=true)(hp:aZ x=true)(hline:(ap.endLine==cp.line)=true)(hz:szl (ds.length+zs.length)=true)(he:ev cx F sc (frz F e ρ) e=some (.tup zs)) :
  Runs X Hs0 H0 ρ (.nxt (eE (frz F e ρ) x (.ow (ds++zs)))) (oZ X (.Expr (.Call (.Attribute (.Name x px) "extend" ap) [e] [] cp) pos)):=by
 have hN':X.N=(frz F e ρ).map (·.1):=by rw[bf];exact hN
 obtain⟨i,hi,_⟩:=eX hx
 have nd:((frz F e ρ).map (·.1)).Nodup:=by rw[<- hN'];exact G.good.nd
 have hpl:=aY he;intro σ H Hs D h _ hn hr;obtain⟨Hs1,sm1,h1⟩:=h.frozen F e;obtain⟨a,vs,k1,k2,k3,k4,k5⟩:=h1.ow i x ds hi;unfold aZ at hp;rw[J3z,X6z,X6z] at hp;refine PS.sem (bW (lW M0z PySem.F.slot_list_extend PySem.F.type_list_extend KD (pX (i:=i) (by rw[hN',List.getElem?_map,hi];rfl) ((G.own.own x ho).1.elim .inl λq=>.inr (.inl q)) (by simpa using hp.1) (by simpa using hp.2)) (au ak aK (aj hpl)) rfl (by rw[aj hpl];rfl) hline (aj hpl) rfl) rfl) ?_;refine⟨_,k1,.inl ⟨rfl,vs,.of k2⟩,?_⟩;refine(dZ cx F G.good hN' he).1 σ H Hs1 _ h1.ext.sub h1.sh λv H' Hs' E r=>?_;obtain⟨b,us,rfl,g1,g2⟩:=bU r;refine⟨a,b,vs,us,rfl,rfl,E.all _ _ k2,E.sub.tup g1,by have:=k3.length;have:=g2.length;have:=fU hz;omega,?_⟩;exact hn _ _ Hs' _ rfl (sm1.trans E.vis) (by rw[aP];exact hN') ((h1.step E).app nd hi k1 (aJ.append (aJ.same E.vis ds vs k3) g2))
theorem Jj(G:GoodS cx k X sc)(hN:X.N=ρ.map (·.1))(he:ev cx F sc (frz F e ρ) e=some d)(hc:∀a b c p,e≠.ListComp a b c p):Runs X Hs0 H0 ρ (.nxt (frz F e ρ)) (oZ X (.Expr e pos)):=by
 exact λσ H Hs D h _ hn hr=>PS.sem (bW ak (jZ he hc)) (Gg G hN he h λv Hs' H' sm h' r=>hn _ _ Hs' H' rfl sm (by rw[bf];exact hN) h')
theorem Lg(hf:∀ρ s fl,X.N=ρ.map (·.1)->f ρ s=some fl->Runs X Hs0 H0 ρ fl (oZ X s)):∀(l:List Stmt)(ρ:Rho)(fl:Fl),X.N=ρ.map (·.1)->lV f l ρ=some fl->Runs X Hs0 H0 ρ fl (eO X l)
 |[],ρ,fl,hN,h=>by
  simp[lV,Y2z] at h;subst h;exact λσ H Hs D h _ hn hr=>PSs.sem fY (hn _ _ Hs H rfl (.refl _) hN h)
 |s::r,ρ,fl,hN,h=>by
  obtain⟨fl1,h1,h2⟩:=aV h;intro σ H Hs D hd _ hn hr;refine PSs.sem (aM pO cP) (hf ρ s fl1 hN h1 σ H Hs _ hd hN (λρ' σ' Hs' H' q sm hN' hd'=>?_) λd v Hs' H' q E rr lm'=>?_)
  .subst q
   exact Lg hf r ρ' fl hN' h2 σ' H' Hs' D hd' hN' (λρ2 σ2 Hs2 H2 q2 sm2=>hn ρ2 σ2 Hs2 H2 q2 (sm.trans sm2)) hr
  .subst q
   cases h2;exact hr d v Hs' H' rfl E rr lm'
theorem O9(G:GoodS cx k X sc)(hN:X.N=ρ.map (·.1))(hI:evI cx (fP tg) (ev cx F sc (frz F iter ρ)) sc iter=some l)
  (hf:∀d ρ1 fl,f d ρ1=some fl->X.N=ρ1.map (·.1)->∃ρ2,fH sc tg d ρ1=some ρ2/\(X.N=ρ2.map (·.1)->Runs X Hs0 H0 ρ2 fl (eO X body))) (h:iW f l (frz F iter ρ)=some fl):Runs X Hs0 H0 ρ fl (oZ X (.For tg iter body [] pos)):=by
 have hN':X.N=(frz F iter ρ).map (·.1):=by rw[bf];exact hN
 obtain⟨hI',hp⟩:=vJ G.good (λe d h=>⟨(dZ cx F G.good hN' h).1,aY h⟩) hI;intro σ H Hs D hd _ hn hr;obtain⟨Hs1,sm1,h1⟩:=hd.frozen F iter;refine PS.sem (Qc G.pass G.good.calm j8 iK cP (dW hp)) (hI' σ H Hs1 _ h1.ext.sub h1.sh λJ H2 Hs2 E2 hJ=>?_)
 let W:Nat->Nat->St->Hp->Prop:=λi m σ H=>m=l.length-i/\i<=l.length/\∃ρi Hsi,Same Hs2 Hsi/\Hd X.K X.lm Hs0 H0 Hsi H ρi σ/\X.N=ρi.map (·.1)/\iW f (l.drop i) ρi=some fl
 refine⟨W,⟨l.length,rfl,K6z _,_,Hs2,.refl _,h1.step E2,hN',by simpa using h⟩,?_⟩;rintro i m σi Hi ⟨rfl,hi,ρi,Hsi,sm,hdi,hNi,gi⟩;obtain⟨stp,go⟩:=hJ Hsi Hi sm hdi.ext.sub
 by_cases hlt:i<l.length
 .obtain⟨g1,g2⟩:=go i l[i] (List.getElem?_eq_getElem hlt)
  refine .inr ⟨g1,λσ' H'=>W (i+1) (l.length-(i+1)) σ' H',λσ' H' w=>⟨_,by omega,w⟩,λx H' y=>?_⟩;obtain⟨Hs3,E3,rx⟩:=g2 x H' y;rw[C0z hlt] at gi;obtain⟨fl1,b1,b2⟩:=aV gi;obtain⟨ρ2,c1,c2⟩:=hf _ _ _ b1 hNi;have hd3:=hdi.step E3;refine tZ G.good.calm G.own G.good.nd hd3.ext.sub hNi (vA) c1 hd3 rx λσ' hN2 p=>?_;refine c2 hN2 σ' H' Hs3 _ p hN2 (λρ' σ'' Hs' H'' q sm4 hN3 hd4=>?_) λd v Hs' H'' q E rr lm'=>?_
  .subst q
   exact⟨rfl,hlt,ρ',Hs',sm.trans (E3.vis.trans sm4),hd4,hN3,b2⟩
  .subst q
   cases b2;exact hr d v Hs' H'' rfl E rr lm'
 .have hi':i=l.length:=by omega
  subst hi';refine .inl ⟨stp,?_⟩;rw[Y3z] at gi;simp[iW,Y2z] at gi;exact hn ρi σi Hsi Hi gi.symm (sm1.trans (E2.vis.trans sm)) hNi hdi
theorem Dy{c:Expr}{body:List Stmt}{fl:Fl}{pos:Pos}{f:Rho->Option Fl}{m:Nat}(G:GoodS cx k X sc)(hN:X.N=ρ.map (·.1))(hf:∀ρ fl,X.N=ρ.map (·.1)->f ρ=some fl->Runs X Hs0 H0 ρ fl (eO X body))
  (h:Nx (λρ=>((ev cx F sc (frz F c ρ) c).bind asB).map λb=>(frz F c ρ,b)) f m ρ=some fl):Runs X Hs0 H0 ρ fl (oZ X (.While c body [] pos)):=by
 intro σ H Hs D hd _ hn hr
 let W:Nat->St->Hp->Prop:=λm σ H=>∃ρi Hsi,Same Hs Hsi/\Hd X.K X.lm Hs0 H0 Hsi H ρi σ/\X.N=ρi.map (·.1)/\Nx (λρ=>((ev cx F sc (frz F c ρ) c).bind asB).map λb=>(frz F c ρ,b)) f m ρi=some fl
 refine PS.sem (Ed G.pass cY cP) ⟨W,⟨m,ρ,Hs,.refl _,hd,hN,h⟩,?_⟩;rintro m σi Hi ⟨ρi,Hsi,sm,hdi,hNi,gi⟩
 cases m with
 |zero=>simp[Nx] at gi
 |succ m =>
  simp only[Nx] at gi;split at gi
  .cases gi
  .rename_i ρ1 b hb
   obtain⟨b',h1,h2⟩:=R0z.mp hb;cases h2;have he:=jX h1
   have hN':X.N=(frz F c ρi).map (·.1):=by rw[bf];exact hNi
   refine Rh G hNi he hdi λHs' H' sm' h'=>?_
   cases b with
   |true =>
    rw[G7z rfl] at gi ⊢;split at gi
    .cases gi
    .rename_i d hfd
     cases gi;refine⟨λσ' H'=>W m σ' H',λσ' H' w=>⟨m,F3z _,w⟩,?_⟩
     exact hf _ _ hN' hfd σi H' Hs' _ h' hN' (λρ2 σ2 Hs2 H2 q2=>by cases q2) λd2 v Hs2 H2 q2 E rr lm'=>by cases q2;exact hr d v Hs2 H2 rfl E rr lm'
    .rename_i ρ' hfd
     refine⟨λσ' H'=>W m σ' H',λσ' H' w=>⟨m,F3z _,w⟩,?_⟩
     refine hf _ _ hN' hfd σi H' Hs' _ h' hN' (λρ2 σ2 Hs2 H2 q2 sm2 hN2 hd2=>?_) λd2 v Hs2 H2 q2=>by cases q2
     cases q2;exact⟨_,Hs2,sm.trans (sm'.trans sm2),hd2,hN2,gi⟩
   |false =>
    rw[H7z X1z] at gi ⊢;cases gi;exact hn _ _ Hs' H' rfl (sm.trans sm') hN' h'
end
section
variable{X:Cx}{ρ:Rho}{cx:Cxt}{k F:Nat}{sc scope:Scope}{Hs0 H0:Hp}{e:Expr}{d:D}
abbrev Cx.pinned(X:Cx)(pn:List (Addr×Obj))(xe:Value->Shared->Prop):Cx:={X with pn:=pn,xe:=xe}
end
theorem yZ(cx:Cxt)(F:Nat):∀(n:Nat){k:Nat}{X:Cx}{sc:Scope}{ρ:Rho}{s:Stmt}{fl:Fl}{Hs0 H0:Hp},GoodS cx k X sc->X.N=ρ.map (·.1)->DE.st cx F n sc ρ s=some fl->Runs X Hs0 H0 ρ fl (oZ X s)
 |0,k,X,sc,ρ,s,fl,Hs0,H0,_,_,h=>by simp[DE.st] at h
 |n+1,k,X,sc,ρ,s,fl,Hs0,H0,G,hN,h=>by
  have block:∀(l:List Stmt)(ρ:Rho)(fl:Fl),X.N=ρ.map (·.1)->lV (λρ s=>DE.st cx F n sc ρ s) l ρ=some fl->Runs X Hs0 H0 ρ fl (eO X l):=Lg λρ s fl hN h=>yZ cx F n G hN h
  cases s with
  |Pass pos =>
   simp only[DE.st,Y2z] at h;subst h;intro σ H Hs D hd _ hn hr;exact PS.sem JV (hn _ _ Hs H rfl (.refl _) hN hd)
  |Return v pos =>
   simp only[DE.st] at h
   cases v with
   |none =>
    simp only[Y2z] at h;subst h;intro σ H Hs D hd _ hn hr;exact PS.sem JT (hr .non .non Hs H rfl hd.ext (by simp[Rep]) hd.lmt)
   |some e =>
    simp only[R0z] at h;obtain⟨d,he,rfl⟩:=h;intro σ H Hs D hd _ hn hr;exact PS.sem (eU ak) (Gg G hN he hd λv Hs' H' sm h' r=>hr d v Hs' H' rfl h'.ext r h'.lmt)
  |Assign tgs e pos =>
   simp only[DE.st] at h;split at h
   .split at h
    .rename_i hc
     rw[J3z] at hc;split at h
     .cases h
     .split at h
      .cases h
      .split at h
       .cases h
       .rename_i hno
        split at h
        .cases h
        .simp only[R0z] at h
         obtain⟨d,he,rfl⟩:=h;refine Ji G hN hc.1 hc.2 (λhf=>?_) he;rw[hf,W5z] at hno;simpa using hno
    .cases h
   .split at h
    .rename_i hs
     obtain⟨d,he,h⟩:=aV h;obtain⟨l,hl,h⟩:=aV h;simp only[R0z] at h;obtain⟨ρ',hb,rfl⟩:=h;rcases S4z _ _ |>.mp hs with hs|hs
     .exact O8 G hN hs he hl hb
     .cases hs
    .cases h
   .cases h
  |Expr v pos =>
   simp only[DE.st] at h;split at h
   .rename_i x px m ap e cp
    split at h
    .rename_i ds hx
     split at h
     .rename_i hc
      rw[J3z,J3z] at hc;obtain⟨⟨c1,c2⟩,c4⟩:=hc;split at h
      .rename_i hc2
       rw[J3z] at hc2;simp only[R0z] at h;obtain⟨d,he,rfl⟩:=h
       have em:m="append":=by simpa using hc2.1
       subst em;exact zj G hN hx c1 c2 c4 hc2.2 he
      .split at h
       .rename_i hc3
        obtain⟨d,he,h⟩:=aV h
        have em:m="extend":=by simpa using hc3
        subst em;split at h
        .split at h
         .rename_i hz
          cases h;exact zc G hN hx c1 c2 c4 hz he
         .cases h
        .split at h
         .rename_i hz
          cases h;exact wQ G hN hx c1 c2 c4 hz he
         .cases h
        .cases h
       .cases h
     .cases h
    .cases h
   .cases h
   .cases h
   .rename_i h1 h3 h4
    simp only[R0z] at h;obtain⟨d,he,rfl⟩:=h;exact Jj G hN he λa b c p q=>h3 a b c p q
  |If c a b pos =>
   simp only[DE.st] at h;obtain⟨t,h1,h⟩:=aV h;have he:=jX h1;intro σ H Hs D hd _ hn hr;refine PS.sem (pP cY cP cP) (Lr G hN he hd λHs' H' sm h'=>?_)
   cases t with
   |true =>
    simp only[F7z] at h;exact lY (block a _ fl hN h σ H' Hs' D h' hN (λρ2 σ2 Hs2 H2 q2 sm2=>hn ρ2 σ2 Hs2 H2 q2 (sm.trans sm2)) hr)
   |false =>
    simp only[D2z,C7z] at h;exact mW (block b _ fl hN h σ H' Hs' D h' hN (λρ2 σ2 Hs2 H2 q2 sm2=>hn ρ2 σ2 Hs2 H2 q2 (sm.trans sm2)) hr)
  |For tg iter body orelse pos =>
   simp only[DE.st] at h;split at h
   .obtain⟨l,hI,h⟩:=aV h
    refine O9 G hN hI (λd ρ1 fl hf hN1=>?_) h;obtain⟨ρ2,g1,g2⟩:=aV hf;exact⟨ρ2,g1,λhN2=>block body ρ2 fl hN2 g2⟩
   .cases h
  |While c body orelse pos =>
   simp only[DE.st] at h;split at h
   .exact Dy G hN (λρ fl hN h=>block body ρ fl hN h) h
   .cases h
  |_=>exact nomatch (show(Option.none:Option Fl)=some fl from h)
structure FunAt(K:Zf)(mg:Str->Option Value)(f:Str)(fd:Fd):Prop where
 ex:∃(nm:Str)(t:Stmt)(a:Addr)(g:FuncData),mg f=some (.ref a)/\Fun K nm nm t a g/\Binds K g fd.ps []/\fd.body=aL t/\fd.sc=aB t
 fs:FnScope fd.N fd.ps fd.sc
 nd:(f==("__debug__":Str))=false
structure Text(w:World)(K:Zf)(mg:Str->Option Value)(P:Pg):Prop where
 cst:∀x d,P.cst.lookup x=some d->∃v u,(∀H,Rep K H d v)/\mg x=some u/\RelV v u
 blt:∀x b,P.blt.lookup x=some b->mg x=none/\x=Str.ofString b
 fns:∀f fd,P.defs.lookup f=some fd->FunAt K mg f fd
 exs:XText K mg P.exs P.top
 kw:KnW K w
theorem eY:∀{l:List (Str×α)}{x:Str},(l.map (·.1)).contains x=true->∃a,l.lookup x=some a
 |[],x,h=>by simp at h
 |(y,a)::r,x,h=>by
  rw[K3z]
  cases hb:x==y with
  |true=>exact⟨a,rfl⟩
  |false =>
   refine eY ?_;rw[O5z,List.contains_cons,hb,Bool.false_or] at h;exact h
theorem iI{K:Zf}(S:FnScope fd.N fd.ps fd.sc)(hl:ds.length=fd.ps.length)(r:aJ K H ds vs) :
  fd.N=(bD fd ds).map (·.1)/\(start fd.N vs).length=(bD fd ds).length/\∀(i:Nat)(x:Str)(s:Sl),(bD fd ds)[i]?=some (x,s)->(s=.no\/∃d v,s=.sh d/\(start fd.N vs)[i]?=some (some v)/\Rep K H d v):=by
 have lv:=r.length
 have lz:(fd.ps.zip (ds.map Sl.sh)).length=fd.ps.length:=by rw[W4z,F4z];omega
 refine⟨?_,?_,λi x s e=>?_⟩
 .unfold bD
  rw[U4z,H6z,List.map_fst_zip (by rw[F4z];omega)]
  have:(fd.N.drop fd.ps.length).map ((λp:Str×Sl=>p.1)∘λx=>(x,Sl.no))=fd.N.drop fd.ps.length:=by
   rw[show((λp:Str×Sl=>p.1)∘λx=>(x,Sl.no))=id from rfl,P6z]
  rw[this]
  conv=>lhs;rw[<- List.take_append_drop fd.ps.length fd.N,S.pre]
 .unfold start bD
  simp;omega
 .unfold bD at e
  by_cases hi:i<fd.ps.length
  .rw[List.getElem?_append_left (by rw[lz];exact hi),List.getElem?_zip_eq_some] at e
   obtain⟨_,e2⟩:=e;rw[List.getElem?_map] at e2;obtain⟨d,e3,rfl⟩:=R0z.mp e2;obtain⟨v,g1,g2⟩:=r.get e3;refine .inr ⟨d,v,rfl,?_,g2⟩;unfold start;rw[List.getElem?_append_left (by rw[F4z];omega),List.getElem?_map,g1];rfl
  .rw[List.getElem?_append_right (by rw[lz];omega),List.getElem?_map] at e
   obtain⟨y,_,e3⟩:=R0z.mp e;cases e3;exact .inl rfl
section
variable{P:Program}{w:World}{K:Zf}{mg:Str->Option Value}{base:Heap}{T:Pg}{F:Nat}
abbrev vR(c:Str->List D->Option Rs):Str->List D->Option D:=λf ds=>Rs.val? (c f ds)
abbrev xR(c:Str->List D->Option Rs):Str->List D->Option Str:=λf ds=>Rs.exc? (c f ds)
theorem fu(h:Rs.val? o=some d):o=some (.val d):=by
 unfold Rs.val? at h;split at h
 .cases h;rfl
 .cases h
theorem fD(h:Rs.exc? o=some c):o=some (.exc c):=by
 unfold Rs.exc? at h;split at h
 .cases h;rfl
 .cases h
theorem dB(hf:T.defs.lookup f=some fd):∀ds r,aR T F k f ds=some r->ds.length=fd.ps.length:=by
 intro ds d h
 cases k with
 |zero=>simp[oW] at h
 |succ k =>
  simp only[oV,hf] at h;split at h
  .rename_i hl;simpa using hl
  .cases h
theorem Fun.okX{st:Stmt}(F:Fun K x qual st f fd)(S:FnScope N ps (aB st))(len:∀vs H Q E,sp vs H Q E->vs.length=ps.length)
  (hbody:∀(cdv:Value)(A:Around)(outer:List Env)(s:Shared)(H:Hp)(vs:List V)(Q:VK)(E:XK), Room k (A.deeper (envOfC qual (aB st) s.heap.objs.size f cdv))->sp vs H Q E ->
   ∃t,PSs (jE (CX1 P w) P w K mg base N qual (aB st) f cdv A outer s H E) (aL st) t/\t {nx:=λ_ H'=>Q .non H',rt:=Q} (start N vs) H):FnOk P w K mg base (CX1 P w) (k+1) f fd ps sp:=by
 obtain⟨oc,od,kV,doc,pm,an,cdv,ct,osl,rfl,lk,hcd⟩:=F.ex;exact Vt lk hcd S len λA outer s H vs Q E hr hsp=>hbody cdv A outer s H vs Q E hr hsp
theorem rE(X:Text w K mg T):∀(k:Nat)(nm f:Str)(fd:Fd)(t:Stmt)(a:Addr)(g:FuncData),T.defs.lookup f=some fd->Fun K nm nm t a g->fd.body=aL t->fd.sc=aB t->FnScope fd.N fd.ps fd.sc->FnOk P w K mg base (CX1 P w) k a g fd.ps (spX K (vR (aR T F k)) (xR (aR T F k)) f fd.ps)
  |0,nm,f,fd,t,a,g,hf,Fn,hb,hs,S=>by
    refine⟨λvs H Q E h=>h.1,λA outer s H args us vs Q E _ _ _ _ h=>?_⟩
    obtain⟨_,Hs,ds,_,_,⟨d,hc,_⟩|⟨c,hc,_⟩⟩:=h
    . have:=fu hc;simp[oW] at this
    . have:=fD hc;simp[oW] at this
  |k+1,nm,f,fd,t,a,g,hf,Fn,hb,hs,S=>by
    refine Fun.okX (N:=fd.N) Fn (by rw[<- hs];exact S) (λvs H Q E h=>h.1) λcdv A outer s H vs Q E hr h=>?_
    obtain⟨hlv,Hs,ds,hsm,rl,hcase⟩:=h
    have hld:ds.length=fd.ps.length:=by
      rcases hcase with⟨d,hc,_⟩|⟨c,hc,_⟩
      . exact dB hf ds _ (fu hc)
      . exact dB hf ds _ (fD hc)
    have unf:aR T F (k+1) f ds=tY (T.cx (aR T F k)) F fd.sc fd.body (bD fd ds):=by
      simp only[oV,hf]
      rw[G7z (by simpa using hld)]
    obtain⟨s1,s2,s3⟩:=iI S hld rl
    refine⟨eO _ (aL t),cP,?_⟩
    have G:GoodS (T.cx (aR T F k)) k (jE (CX1 P w) P w K mg base fd.N nm (aB t) a cdv A outer s H E).nox fd.sc :=
      { good := { calm := rfl, room := hr, sce := hs.symm, kind := S.kind, nd := S.nd, cst := X.cst, blt := X.blt, exs := X.exs, kw := X.kw
                  fns:=λf' hf'=>by
                    obtain⟨fd',hl'⟩:=eY (l:=T.defs) hf'
                    have FA:=X.fns f' fd' hl'
                    obtain⟨nm',t',a',g',m1,m2,m3,m4,m5⟩:=FA.ex
                    exact⟨FA.nd,a',g',fd'.ps,λds d h=>dB hl' ds _ (fu h),λds c h=>dB hl' ds _ (fD h),m1,m2.kp,m3,rE X k nm' f' fd' t' a' g' hl' m2 m4 m5 FA.fs⟩ }
        own:=⟨λx hx=>⟨by
          unfold ownIn at hx
          rw[S4z] at hx
          show(aB t).names.lookup x=_\/(aB t).names.lookup x=_
          rw[<- hs]
          exact hx.imp (λq=>by simpa using q) (λq=>by simpa using q),.inl rfl⟩⟩
        pass:=PassesOwn.never
        stk:=⟨rfl,rfl⟩ }
    have noow:∀(i:Nat)(x:Str)(ds':List D),(bD fd ds)[i]?=some (x,.ow ds')->False:=λi x ds' e=>by
      rcases s3 i x _ e with q|⟨d',v,q,q1,q2⟩
      . cases q
      . cases q
    have hd:Hd K none Hs H Hs H (bD fd ds) (start fd.N vs):=by
      refine⟨.refl hsm,s2,λi x d e=>?_,λi x ds' e=>(noow i x ds' e).elim,λi j x y ds' es a' _ e=>(noow i x ds' e).elim,(λi x dss e=>by
        rcases s3 i x _ e with q|⟨d',v,q,q1,q2⟩
        . cases q
        . cases q),λp hp=>nomatch hp⟩
      rcases s3 i x _ e with q|⟨d',v,q,q1,q2⟩
      . cases q
      . cases q
        exact⟨v,q1,q2⟩
    rcases hcase with⟨d,hc,hq⟩|⟨c,hc,hq⟩
    . have hc':=fu hc
      rw[unf] at hc'
      unfold tY at hc'
      intro z0 s0 I
      have fin:∀fl,lV (λρ s=>DE.st (T.cx (aR T F k)) F F fd.sc ρ s) fd.body (bD fd ds)=some fl->(match fl with|.ret d'=>d'=d|.nxt _=>d=.non)->eO (jE (CX1 P w) P w K mg base fd.N nm (aB t) a cdv A outer s H E).nox (aL t) {nx:=λ_ H'=>Q .non H',rt:=Q} (start fd.N vs) H:=by
        intro fl hg hfl
        rw[hb] at hg
        refine Lg (λρ s fl hN h=>yZ _ F F G hN h) (aL t) (bD fd ds) fl s1 hg (start fd.N vs) H Hs _ hd s1 (λρ' σ' Hs' H' q _ _ hd'=>?_) λd' v Hs' H' q E' r _=>?_
        . subst q
          have e:d=.non:=hfl
          subst e
          exact hq .non H' Hs' hd'.ext (by simp[Rep])
        . subst q
          have e:d'=d:=hfl
          subst e
          exact hq v H' Hs' E' r
      have key:eO (jE (CX1 P w) P w K mg base fd.N nm (aB t) a cdv A outer s H E).nox (aL t) {nx:=λ_ H'=>Q .non H',rt:=Q} (start fd.N vs) H:=by
        split at hc'
        . rename_i d' hg;cases hc';exact fin _ hg rfl
        . rename_i ρ' hg;cases hc';exact fin _ hg rfl
        . cases hc'
      exact Q6z (key z0 s0 (I.wish _)) (λ_ _ q=>q.unwish) λ_ _ z=>False.elim z
    . have hc':=fD hc
      rw[unf] at hc'
      unfold tY at hc'
      split at hc'<;>cases hc'
theorem FnOk.calm{k:Nat}{f:Addr}{fd:FuncData}{ps:List Str}{sp:Sp}(F:FnOk P w K mg base (CX1 P w) k f fd ps sp)(h:∀vs H Q E,sp vs H Q E->sp vs H Q E0):FnOk P w K mg base CX0 k f fd ps sp :=
 ⟨F.len,λA outer s H args us vs Q E hr he hb hv hs=>E6z (F.run A outer s H args us vs Q E0 hr he hb hv (h _ _ _ _ hs)) λr s' q=>by
  cases r with
  |error e=>obtain⟨_,_,_,_,_,_,z⟩:=(show CX1 P w outer H s E0 e s' from q);exact z.elim
  | ok fl=>cases fl<;>exact q⟩
def pC(K:Zf):Sp:=λvs H Q _=>∃(a:Addr)(ns:List Int),vs=[.ref a]/\SqL K H a (ns.map V.int)/\ns.length<=63/\∀H',Q (.bl true) H'
end
end L2
namespace DE
open PySem
def Ls{α:Type}(m:Nat)(h:Nat->α):List α:=(List.range m).map h
theorem bx:(Ls m h).length=m:=by simp[Ls]
theorem dH(hi:i<m):(Ls m h)[i]?=some (h i):=by simp[Ls,hi]
theorem RP:(Ls m h).map f=Ls m λi=>f (h i):=by
 unfold Ls;rw[H6z];rfl
theorem Ir:(Ls m h).reverse=Ls m λi=>h (m-1-i):=by
 apply List.ext_getElem?;intro i
 by_cases hi:i<m
 .rw[List.getElem?_reverse (by rw[bx];exact hi),bx,dH hi,dH (by omega)]
 .rw[List.getElem?_eq_none (by rw[U1z,bx];omega),List.getElem?_eq_none (by rw[bx];omega)]
theorem RN:(Ls m h).zip (Ls m g)=Ls m λi=>(h i,g i):=by
 apply List.ext_getElem?;intro i
 by_cases hi:i<m
 .rw[dH hi,List.getElem?_zip_eq_some]
  exact⟨dH hi,dH hi⟩
 .rw[List.getElem?_eq_none (by rw[W4z,bx,bx];omega),List.getElem?_eq_none (by rw[bx];omega)]
theorem Dd:Ls (m+1) h=Ls m h++[h m]:=by
 unfold Ls;rw[List.range_succ,U4z];rfl
theorem Dc{α:Type}{m k:Nat}{h:Nat->α}(hk:k<=m):(Ls m h).take k=Ls k h:=by
 apply List.ext_getElem?;intro i;rw[List.getElem?_take];split
 .rw[dH (by omega),dH (by omega)]
 .rw[List.getElem?_eq_none (by rw[bx];omega)]
theorem Nq{α:Type}{m k:Nat}{h:Nat->α}:(Ls m h).drop k=Ls (m-k) λi=>h (k+i):=by
 apply List.ext_getElem?;intro i;rw[List.getElem?_drop]
 by_cases hi:k+i<m
 .rw[dH hi,dH (by omega)]
 .rw[List.getElem?_eq_none (by rw[bx];omega),List.getElem?_eq_none (by rw[bx];omega)]
theorem Ip(hj:j<m):atD (Ls m h) (j:Int)=some (h j):=by
 unfold atD ixD;rw[bx,G7z (by omega),G7z (by omega)];simp[dH hj]
theorem CK{j:Nat}(h:l[j]?=some d):atD l (j:Int)=some d:=by
 have hj:=(List.getElem?_eq_some_iff.mp h).1;unfold atD ixD;rw[G7z (by omega),G7z (by omega)];simpa using h
theorem zQ{lo hi:Int}:eF lo hi=Ls (hi-lo).toNat λk=>.int (lo+(k:Int)):=rfl
theorem zR{n:Nat}:eF 0 (n:Int)=Ls n λk=>.int k:=by
 unfold eF Ls;simp
def Xo(cx:Cxt)(sc:Scope)(ρ:Rho)(x:Str):Option D:=if aZ x then(match sc.names.lookup x with
    |some .local=>(match ρ.lookup x with|some (.sh d)=>some d|_=>none)
    |some .cell=>(match ρ.lookup x with|some (.sh d)=>some d|_=>none)
    |some .free=>(match ρ.lookup x with|some (.sh d)=>some d|_=>none)
    |some .globalImplicit=>cx.cst.lookup x
    | _=>none) else none
def XD(c:Const):Option D:=(match c with
    |.none=>some .non
    |.bool b=>some (.bl b)
    |.int i=>some (.int i)
    |.str x=>some (.str x)
    | _=>none)
section
variable{cx:Cxt}{n:Nat}{sc scope:Scope}{ρ:Rho}{a b c e:Expr}{es:List Expr}{p q:Pos}{x y z d:D}{ds:List D}{nm:Str}{op op':CmpOp}
theorem xName(h:Xo cx sc ρ nm=some d):ev cx (n+1) sc ρ (.Name nm p)=some d:=h
theorem Og(h:XD k=some d):ev cx (n+1) sc ρ (.Constant k j p)=some d:=h
theorem d9(h1:ev cx n sc ρ a=some x)(h2:ev cx n sc ρ b=some y)(h:binop o x y=some d):ev cx (n+1) sc ρ (.BinOp a o b p)=some d:=by
 simp[ev,h1,h2];exact h
theorem Sg(h1:ev cx n sc ρ a=some (.bl t)):ev cx (n+1) sc ρ (.UnaryOp .Not a p)=some (.bl (!t)):=by
 simp[ev,h1];rfl
theorem jh(h1:ev cx n sc ρ a=some (.bl true)):ev cx (n+1) sc ρ (.UnaryOp .Not a p)=some (.bl false):=Sg h1
theorem Ob(h1:ev cx n sc ρ a=some (.bl false)):ev cx (n+1) sc ρ (.UnaryOp .Not a p)=some (.bl true):=Sg h1
theorem Oc(h1:ev cx n sc ρ a=some (.int i)):ev cx (n+1) sc ρ (.UnaryOp .USub a p)=some (.int (-i)):=by
 simp[ev,h1];rfl
theorem wC(h1:ev cx n sc ρ a=some (.bl true))(h2:cU .And (ev cx n sc ρ) (b::es)=some d):cU .And (ev cx n sc ρ) (a::b::es)=some d:=by
 simp[cU,h1];exact h2
theorem wD(h1:ev cx n sc ρ a=some (.bl false)):cU .And (ev cx n sc ρ) (a::b::es)=some (.bl false):=by
 simp[cU,h1];rfl
theorem Nu(h1:ev cx n sc ρ a=some (.bl false))(h2:cU .Or (ev cx n sc ρ) (b::es)=some d):cU .Or (ev cx n sc ρ) (a::b::es)=some d:=by
 simp[cU,h1];exact h2
theorem Wu(h1:ev cx n sc ρ a=some (.bl true)):cU .Or (ev cx n sc ρ) (a::b::es)=some (.bl true):=by
 simp[cU,h1];rfl
theorem yu(h1:ev cx n sc ρ a=some d):cU o (ev cx n sc ρ) [a]=some d:=h1
theorem gM(h:cU o (ev cx n sc ρ) es=some d):ev cx (n+1) sc ρ (.BoolOp o es p)=some d:=h
theorem jf(h1:ev cx n sc ρ a=some x)(h2:ev cx n sc ρ b=some y)(h:cmpop op x y=some d):ev cx (n+1) sc ρ (.Compare a [op] [b] p)=some d:=by
 simp[ev,h1,h2];exact h
theorem Oh(h1:ev cx n sc ρ a=some x)(h2:ev cx n sc ρ b=some y)(h:cmpop op x y=some (.bl true))(h3:ev cx n sc ρ c=some z)(h4:cmpop op' y z=some d)(hp:aG c=true:=by rfl):ev cx (n+1) sc ρ (.Compare a [op,op'] [b,c] p)=some d:=by
 simp[ev,h1,h2,h3,hp];show((cmpop op x y).bind asB).bind _=_;rw[h];exact h4
theorem V0(h1:ev cx n sc ρ c=some (.bl true))(h2:ev cx n sc ρ a=some d):ev cx (n+1) sc ρ (.IfExp c a b p)=some d:=by
 simp[ev,h1];exact h2
theorem V1(h1:ev cx n sc ρ c=some (.bl false))(h2:ev cx n sc ρ b=some d):ev cx (n+1) sc ρ (.IfExp c a b p)=some d:=by
 simp[ev,h1];exact h2
theorem cg:n6 f []=some []:=rfl
theorem aF(h1:f a=some x)(h2:n6 f es=some ds):n6 f (a::es)=some (x::ds):=by
 simp only[n6,h1,h2];rfl
theorem Nt(h1:n6 (ev cx n sc ρ) es=some ds)(hz:szl ds.length=true):ev cx (n+1) sc ρ (.Tuple es j p)=some (.tup ds):=by
 simp only[ev,h1];show(if szl ds.length=true then _ else _)=_;rw[G7z hz]
theorem Wv(h1:n6 (ev cx n sc ρ) es=some ds)(hz:szl ds.length=true):ev cx (n+1) sc ρ (.List es p)=some (.lst ds):=by
 simp only[ev,h1];show(if szl ds.length=true then _ else _)=_;rw[G7z hz]
theorem Jh(h:items x=some xs):O6 x (.int i)=atD xs i:=by cases x<;>simp[items] at h<;>subst h<;>rfl
theorem xIx(h1:ev cx n sc ρ a=some x)(h2:ev cx n sc ρ b=some (.int i))(h3:items x=some xs)(h4:atD xs i=some d)(hs:aG b=true:=by rfl):ev cx (n+1) sc ρ (.Subscript a b p)=some d:=by
 simp only[ev,h1]
 cases b<;>first|(simp[aG] at hs;done)|(simp[h2];show O6 x (.int i)=some d;rw[Jh h3];exact h4)
theorem Tn(h1:ev cx n sc ρ a=some x)(h2:ev cx n sc ρ b=some y)(h:O6 x y=some d)(hs:aG b=true:=by rfl):ev cx (n+1) sc ρ (.Subscript a b p)=some d:=by
 simp only[ev,h1]
 cases b<;>first|(simp[aG] at hs;done)|(simp[h2];exact h)
def oI(cx:Cxt)(n:Nat)(sc:Scope)(ρ:Rho):Option Expr->Option (Option Int)
 |none=>some none
 |some e=>(ev cx n sc ρ e).bind λd=>(asI d).map some
theorem xSl{xs:List D}{lo hi:Option Expr}{l u:Option Int}(h1:ev cx n sc ρ a=some (.tup xs))(h2:oI cx n sc ρ lo=some l)(h3:oI cx n sc ρ hi=some u)(h4:(jL xs.length 0 l==0&&jL xs.length xs.length u==xs.length)=false) :
  ev cx (n+1) sc ρ (.Subscript a (.Slice lo hi none q) p)=some (.tup (Ce xs l u)):=by
 unfold oI at h2 h3;simp only[ev,h1,bind,Z3z]
 have e:∀(A B:Option (Option Int)),A=some l->B=some u->(A.bind λl=>B.bind λh=>if(jL xs.length 0 l==0&&jL xs.length xs.length h==xs.length)=true then none else some (D.tup (Ce xs l h)))=some (.tup (Ce xs l u)):=by
  intro A B ha hb;subst ha hb;simp only[Z3z,h4,D2z,C7z]
 exact e _ _ h2 h3
theorem EY:oI cx n sc ρ none=some none:=rfl
theorem Ez{i:Int}(h:ev cx n sc ρ e=some (.int i)):oI cx n sc ρ (some e)=some (some i):=by
 simp only[oI,h];rfl
theorem Od{t:Expr}{T:String}(hg:bw cx sc nm=some "isinstance")(ht:tyOf cx sc t=some T)(hk:ji T=true)(h1:ev cx n sc ρ a=some x)(h:Ie T x=c')(hne:isExc x=false:=by rfl):ev cx (n+1) sc ρ (.Call (.Name nm q) [a,t] [] p)=some (.bl c'):=by
 unfold bw at hg;split at hg
 .rename_i hgl
  subst h;simp only[ev,hgl,hg,h1,ht,F7z,bind,Z3z,hk,hne,J5z,T5z]
 .cases hg
theorem fj(hg:bw cx sc nm=some B)(hw:Ny cx sc B es=.al)(hn:(B=="isinstance"||es.isEmpty)=false)(h1:n6 (ev cx n sc ρ) es=some ds)(h:blt B ds=some d):ev cx (n+1) sc ρ (.Call (.Name nm q) es [] p)=some d:=by
 rw[Bool.or_eq_false_iff] at hn;unfold bw at hg;split at hg
 .rename_i hgl
  simp only[ev,hgl,hg,F7z];split
  .rename_i he;cases he;simp at hn
  .rename_i he;cases he
   simp[hw,hn.2,h1];exact h
  .rename_i he;cases he
 .cases hg
theorem xTv(hg:bw cx sc nm=some "tuple")(hw:Ny cx sc "tuple" es=.tv a)(h1:ev cx n sc ρ a=some (.tup xs)):ev cx (n+1) sc ρ (.Call (.Name nm q) es [] p)=some (.tup xs.reverse):=by
 unfold bw at hg;split at hg
 .rename_i hgl
  simp only[ev,hgl,hg,F7z];split
  .rename_i he;exact absurd he (by decide)
  .rename_i he;cases he
   simp[hw,h1];rfl
  .rename_i he;cases he
 .cases hg
def isFn(cx:Cxt)(sc:Scope)(nm:Str)(es:List Expr):Bool:=K9 cx sc nm&&(cx.blt.lookup nm).isNone&&cx.fns.contains nm && !es.isEmpty
theorem aD(hf:isFn cx sc nm es=true)(h1:n6 (ev cx n sc ρ) es=some ds)(h:cx.call nm ds=some d):ev cx (n+1) sc ρ (.Call (.Name nm q) es [] p)=some d:=by
 unfold isFn at hf;rw[J3z,J3z,J3z] at hf;obtain⟨⟨⟨h2,h3⟩,h4⟩,h5⟩:=hf
 have h3':cx.blt.lookup nm=none:=by simpa using h3
 simp only[ev,h2,h3',h4,h5,h1];exact h
theorem wR1(hw:rG cx sc e=.r1 a)(h1:ev cx n sc ρ a=some (.int j))(hz:fW j=true):evI cx tup (ev cx n sc ρ) sc e=some (eF 0 j):=by
 unfold evI;rw[hw];simp only[h1];show(if fW j=true then _ else _)=_;rw[G7z hz]
theorem wR2{tup:Bool}{i j:Int}(hw:rG cx sc e=.r2 a b)(h1:ev cx n sc ρ a=some (.int i))(h2:ev cx n sc ρ b=some (.int j))(hz:(fW i&&fW j)=true):evI cx tup (ev cx n sc ρ) sc e=some (eF i j):=by
 unfold evI;rw[hw];simp only[h1,h2,Z3z,asI];show(if(fW i&&fW j)=true then _ else _)=_;rw[G7z hz]
theorem wZp(hw:rG cx sc e=.zp a b)(h1:ev cx n sc ρ a=some (.tup xs))(h2:ev cx n sc ρ b=some (.tup ys)):evI cx true (ev cx n sc ρ) sc e=some ((xs.zip ys).map λq=>.tup [q.1,q.2]):=by
 unfold evI;rw[hw];simp[h1,h2];rfl
theorem wRv(hw:rG cx sc e=.rv a)(h1:ev cx n sc ρ a=some (.tup xs)):evI cx tup (ev cx n sc ρ) sc e=some xs.reverse:=by
 unfold evI;rw[hw];simp only[h1];rfl
theorem wEn{xs:List D}(hw:rG cx sc e=.en a)(h1:ev cx n sc ρ a=some (.tup xs)):evI cx true (ev cx n sc ρ) sc e=some (enD xs):=by
 unfold evI;rw[hw];simp only[h1,bind,Z3z];rfl
theorem wSq(hw:rG cx sc e=.sq)(h1:ev cx n sc ρ e=some x)(h2:items x=some xs):evI cx tup (ev cx n sc ρ) sc e=some xs:=by
 unfold evI;rw[hw];simp[h1];exact Bg h2
theorem bh:∀{m:Nat},(∀i,i<m->f (h i)=some (some (g i)))->aU f (Ls m h)=some (Ls m g):=by
 have key:∀(l:List Nat),(∀i∈l,f (h i)=some (some (g i)))->aU f (l.map h)=some (l.map g):=by
  intro l
  induction l with
  |nil=>intro _;rfl
  |cons i r ih =>
   intro hi;simp only[O5z,aU,hi i W1z,ih λj hj=>hi j (E1z _ hj)];rfl
 exact λm hm=>key _ λi hi=>hm i (List.mem_range.mp hi)
def cF(cx:Cxt)(n:Nat)(sc scope:Scope)(ρ:Rho)(tg elt:Expr)(ifs:List Expr):D->Option (Option D):=λd=>do
 let ρ1 <- fH scope tg d (bH scope ρ)
 let b <- lZ (ev cx n (jg scope sc) ρ1) ifs
 if b then(ev cx n (jg scope sc) ρ1 elt).map some else some none
theorem dj(h1:fH scope tg x (bH scope ρ)=some ρ1)(h2:ev cx n (jg scope sc) ρ1 elt=some d):cF cx n sc scope ρ tg elt [] x=some (some d):=by
 simp only[cF,h1];show Option.map some (ev cx n (jg scope sc) ρ1 elt)=_;rw[h2];rfl
theorem M9(h1:fH scope tg x (bH scope ρ)=some ρ1)(h3:ev cx n (jg scope sc) ρ1 c=some (.bl t))(h2:ev cx n (jg scope sc) ρ1 elt=some d):cF cx n sc scope ρ tg elt [c] x=some (if t then some d else none):=by
 simp[cF,h1,lZ,h3,h2,bind,Z3z]
 cases t<;>rfl
theorem cW(hok:dN sc scope=true)(hI:evI cx (fP tg) (ev cx n sc ρ) sc iter=some l)(hz:szl l.length=true)(hgo:aU (cF cx n sc scope ρ tg elt ifs) l=some out) :
  ev cx (n+1) sc ρ (.ListComp elt [⟨tg,iter,ifs,0⟩] scope p)=some (.lst out):=by
 simp only[ev,hok,hI];show(if szl l.length=true then(aU (cF cx n sc scope ρ tg elt ifs) l).bind (λout=>some (D.lst out)) else none)=some (D.lst out);rw[G7z hz,hgo];rfl
variable{F:Nat}{f:Rho->Stmt->Option Fl}{r:List Stmt}{fl:Fl}{m:Nat}
abbrev blk(cx:Cxt)(F m:Nat)(sc:Scope):List Stmt->Rho->Option Fl:=lV (λρ s=>st cx F m sc ρ s)
theorem lD:blk cx F m sc [] ρ=some (.nxt ρ):=rfl
def yL(cx:Cxt)(F m:Nat)(sc:Scope)(r:List Stmt):Fl->Option Fl
 |.ret d=>some (.ret d)
 |.nxt ρ'=>blk cx F m sc r ρ'
theorem gSt(h:st cx F m sc ρ s=some fl1)(k:yL cx F m sc r fl1=some fl):blk cx F m sc (s::r) ρ=some fl:=by
 show(st cx F m sc ρ s).bind _=_;rw[h]
 cases fl1<;>exact k
theorem cV(h:ev cx F sc (frz F e ρ) e=some d):blk cx F (m+1) sc (.Return (some e) p::r) ρ=some (.ret d):=by
 refine gSt (fl1:=.ret d) ?_ rfl;simp only[st,h];rfl
theorem oh(ho:(ownIn sc nm&&(ρ.map (·.1)).contains nm)=true)(h:ev cx F sc (frz F e ρ) e=some d)(k:blk cx F (m+1) sc r (eE (frz F e ρ) nm (pG e d))=some fl)(hoo:(ooE cx sc e&&Kl (frz F e ρ) nm)=false:=by rfl)(hno:(dI e && !HJ (frz F e ρ) nm)=false:=by rfl)(hle:SQ cx sc e=false:=by rfl)(hrd:rdA e=false:=by rfl):blk cx F (m+1) sc (.Assign [.Name nm px] e p::r) ρ=some fl:=by
 refine gSt (fl1:=.nxt _) ?_ k;simp only[st,h,G7z ho,hoo,hno,hle,hrd];rfl
theorem gTup(hs:(swp sc es e).isSome=true)(h:ev cx F sc (frz F e ρ) e=some d)(hl:tupI d=some l)(hb:bindNames sc es l (frz F e ρ)=some ρ')(k:blk cx F (m+1) sc r ρ'=some fl):blk cx F (m+1) sc (.Assign [.Tuple es j q] e p::r) ρ=some fl:=by
 refine gSt (fl1:=.nxt _) ?_ k;simp[st,h,hs,Bool.true_or,F7z,hl,bind,Z3z,hb,K4z]
def N8:Expr->Bool
 |.Call (.Name ..) _ _ _=>true
 |_=>false
theorem vC(hx:N8 e=true)(h:ev cx F sc (frz F e ρ) e=some d)(k:blk cx F (m+1) sc r (frz F e ρ)=some fl):blk cx F (m+1) sc (.Expr e p::r) ρ=some fl:=by
 unfold N8 at hx;split at hx
 .refine gSt (fl1:=.nxt _) ?_ k
  simp[st,h,K4z]
 .cases hx
theorem Wo{M:Str}(hx:(frz F e ρ).lookup nm=some (.ow ds))(ho:(ownIn sc nm&&aZ nm&&ap.endLine==cp.line)=true)(hM:(M=="append")=true)(hz:szl (ds.length+1)=true)(h:ev cx F sc (frz F e ρ) e=some d)(k:blk cx F (m+1) sc r (eE (frz F e ρ) nm (.ow (ds++[d])))=some fl) :
  blk cx F (m+1) sc (.Expr (.Call (.Attribute (.Name nm px) M ap) [e] [] cp) p::r) ρ=some fl:=by
 refine gSt (fl1:=.nxt _) ?_ k;simp[st,hx,ho,hM,hz,T5z,F7z,h,K4z]
theorem Wn{px ap cp:Pos}{M:Str}{ds zs:List D}(hx:(frz F e ρ).lookup nm=some (.ow ds))(ho:(ownIn sc nm&&aZ nm&&ap.endLine==cp.line)=true)(hM:(M=="append")=false)(hM2:(M=="extend")=true)(hz:szl (ds.length+zs.length)=true)(h:ev cx F sc (frz F e ρ) e=some (.lst zs))(k:blk cx F (m+1) sc r (eE (frz F e ρ) nm (.ow (ds++zs)))=some fl) :
  blk cx F (m+1) sc (.Expr (.Call (.Attribute (.Name nm px) M ap) [e] [] cp) p::r) ρ=some fl:=by
 refine gSt (fl1:=.nxt _) ?_ k;simp only[st,hx,ho,hM,hM2,Y4z,D2z,C7z,F7z,h,bind,Z3z,hz]
theorem NT(h:ev cx F sc (frz F c ρ) c=some (.bl true))(k:blk cx F m sc A ρ=some fl1)(k2:yL cx F (m+1) sc r fl1=some fl):blk cx F (m+1) sc (.If c A B p::r) ρ=some fl:=by
 refine gSt ?_ k2;simp only[st,h,bind,Z3z,asB,F7z,k]
theorem Wm(h:ev cx F sc (frz F c ρ) c=some (.bl false))(k:blk cx F m sc B ρ=some fl1)(k2:yL cx F (m+1) sc r fl1=some fl):blk cx F (m+1) sc (.If c A B p::r) ρ=some fl:=by
 refine gSt ?_ k2;simp only[st,h,bind,Z3z,asB,D2z,C7z,k]
theorem o8(h:ev cx F sc (frz F c ρ) c=some (.bl false))(k:blk cx F (m+1) sc r ρ=some fl):blk cx F (m+1) sc (.If c A [] p::r) ρ=some fl :=
 Wm h lD k
theorem oE{f:D->Rho->Option Fl}{R:Nat->Rho}(hs:∀i,i<N->f (h i) (R i)=some (.nxt (R (i+1)))):iW f (Ls N h) (R 0)=some (.nxt (R N)):=by
  have key:∀(j i:Nat),i+j=N->iW f ((List.range' i j).map h) (R i)=some (.nxt (R N)):=by
    intro j
    induction j with
    | zero => intro i hi; have : i = N := by omega
              subst this;rfl
    |succ j ih =>
      intro i hi
      rw[List.range'_succ,O5z]
      simp[iW,hs i (by omega)]
      exact ih (i+1) (by omega)
  have:=key N 0 (by omega)
  rw[<- List.range_eq_range'] at this
  exact this
def fF(cx:Cxt)(F m:Nat)(sc:Scope)(tg:Expr)(body:List Stmt):D->Rho->Option Fl:=λd ρ=>do let ρ1 <- fH sc tg d ρ;lV (λρ s=>st cx F m sc ρ s) body ρ1
theorem xP(h1:fH sc tg d ρ=some ρ1)(h2:blk cx F m sc body ρ1=some fl):fF cx F m sc tg body d ρ=some fl:=by
 simp only[fF,h1];exact h2
theorem NZ(hI:evI cx (fP tg) (ev cx F sc (frz F iter ρ)) sc iter=some l)(hgo:iW (fF cx F m sc tg body) l (frz F iter ρ)=some fl1)(k2:yL cx F (m+1) sc r fl1=some fl):blk cx F (m+1) sc (.For tg iter body [] p::r) ρ=some fl:=by
 refine gSt ?_ k2;have hgo':iW (λd ρ=>(fH sc tg d ρ).bind λρ1=>lV (λρ s=>st cx F m sc ρ s) body ρ1) l (frz F iter ρ)=some fl1:=hgo;simp[st,hI,bind,Z3z,hgo']
abbrev cxN(P:Pg)(F k:Nat):Cxt:=⟨P.cst,P.blt,P.defs.map (·.1),P.exs,P.top,true,aH P F k,M8 P F k⟩
theorem Cd:P.cx (aR P F k)=cxN P F k:=by
 have e1:aH P F k=λf ds=>Rs.val? (aR P F k f ds):=by funext f ds;exact jc
 have e2:M8 P F k=λf ds=>Rs.exc? (aR P F k f ds):=by funext f ds;exact G6
 unfold cxN;rw[e1,e2];rfl
theorem dh{f:Str}(hf:P.defs.lookup f=some fd)(hl:(ds.length==fd.ps.length)=true)(h:blk (cxN P F k) F F fd.sc fd.body (bD fd ds)=some (.ret d)):aH P F (k+1) f ds=some d:=by
 rw[jc];simp only[oV,hf,hl,F7z,tY,Cd,h,Rs.val?]
theorem Dn{f:Str}(hf:P.defs.lookup f=some fd)(hl:(ds.length==fd.ps.length)=true)(h:blk (cxN P F k) F F fd.sc fd.body (bD fd ds)=some (.nxt ρ')):aH P F (k+1) f ds=some .non:=by
 rw[jc];simp only[oV,hf,hl,F7z,tY,Cd,h,Rs.val?]
end
abbrev row(n:Nat)(f:Nat->Int):D:=.tup (Ls n λj=>.int (f j))
abbrev tbl(m n:Nat)(f:Nat->Nat->Int):D:=.tup (Ls m λi=>.tup (Ls n λj=>.int (f i j)))
def fJ:Nat->(Nat->Int)->Int
 |0,_=>0
 |n+1,f=>fJ n f+f n
theorem CN:∀{n:Nat},lR (Ls n λi=>D.int (f i))=some (Ls n f):=by
 have key:∀l:List Nat,lR (l.map λi=>D.int (f i))=some (l.map f):=by
  intro l
  induction l with
  |nil=>rfl
  |cons a r ih=>simp only[O5z,lR,ih];rfl
 exact λn=>key _
theorem yS:∀{n:Nat},(Ls n f).sum=fJ n f
 |0=>rfl
 |n+1=>by rw[Dd,List.sum_append,yS];simp[fJ]
theorem XJ:blt "len" [.tup (Ls n h)]=some (.int n):=by
 show some (D.int ((Ls n h).length:Int))=_;rw[bx]
theorem Te:blt "sum" [.lst (Ls n λi=>.int (f i))]=some (.int (fJ n f)):=by
 show(lR (Ls n λi=>D.int (f i))).bind (λis=>some (D.int is.sum))=_;rw[CN,Z3z,yS]
theorem wu:blt "tuple" [.lst l]=some (.tup l):=rfl
theorem gZ(h:n<=100000):szl n=true:=by unfold szl;exact A5z h
theorem iw(hn:n<=100000):szl (Ls n h).length=true:=by rw[bx];exact gZ hn
theorem Xf{n:Nat}(h:n<=100000):fW (n:Int)=true:=by
 unfold fW;rw[A5z (by omega),A5z (by omega)];rfl
theorem oLe(h:i<=j):cmpop .LtE (.int i) (.int j)=some (.bl true):=by
 show some (D.bl (decide (i<=j)))=_;rw[A5z h]
theorem oLt(h:i<j):cmpop .Lt (.int i) (.int j)=some (.bl true):=by
 show some (D.bl (decide (i<j)))=_;rw[A5z h]
theorem Wb(h:¬ i<j):cmpop .Lt (.int i) (.int j)=some (.bl false):=by
 show some (D.bl (decide (i<j)))=_;rw[B4z h]
theorem Sy(h:i=j):cmpop .Eq (.int i) (.int j)=some (.bl true):=by
 subst h;show some (D.bl (i==i))=_;rw[L3z]
theorem U4(h:i≠j):cmpop .Eq (.int i) (.int j)=some (.bl false):=by
 show some (D.bl (i==j))=_;rw[Q1z.mpr h]
theorem Ku(h:i=j):cmpop .NotEq (.int i) (.int j)=some (.bl false):=by
 subst h;show some (D.bl (!(i==i)))=_;rw[L3z];rfl
theorem Dk(h:small i=true\/small j=true):binop .Mult (.int i) (.int j)=some (.int (i*j)):=by
 show(if(small i||small j||(mid i&&mid j))=true then _ else _)=_;rw[G7z (by rw[S4z,S4z];exact .inl h)]
theorem Io(h:0<j):binop .Mod (.int i) (.int j)=some (.int (i%j)):=by
 show(if decide (0<j)=true then _ else _)=_;rw[G7z (A5z h)]
theorem XM(h:0<j)(h':j<1073741824):binop .FloorDiv (.int i) (.int j)=some (.int (i / j)):=by
 show(if(decide (0<j)&&decide (j<1073741824))=true then _ else _)=_;rw[G7z (by rw[A5z h,A5z h'];rfl)]
mutual
theorem tL:∀d:D,dep d<1000->deq d d=true
 |.non,_=>rfl
 |.bl b,_=>by simp[deq]
 |.int i,_=>by simp[deq]
 |.str x,_=>by simp[deq]
 |.tup xs,h=>by simp only[deq];exact oG xs (by simp only[dep] at h;omega)
 |.lst xs,h=>by simp only[deq];exact oG xs (by simp only[dep] at h;omega)
 |.exc c,h=>absurd h (by simp[dep])
 |.dic _ _,h=>absurd h (by simp[dep])
 |.obj _,h=>absurd h (by simp[dep])
theorem oG:∀ds:List D,deps ds<1000->oJ ds ds=true
 |[],_=>rfl
 |d::ds,h=>by
  simp only[deps] at h;simp only[oJ,tL d (by omega),oG ds (by omega),T5z]
end
theorem oEq(h1:dep x<=50)(h2:dep y<=50)(hk:gw x y=true:=by rfl):cmpop .Eq x y=some (.bl (deq x y)):=by
 show(if(decide (dep x<=50)&&decide (dep y<=50)&&gw x y)=true then some (D.bl (deq x y)) else none)=_;rw[A5z h1,A5z h2,hk];rfl
theorem dF:∀{xs ys:List D},(∀x∈xs,∀y∈ys,gw x y=true)->lM xs ys=true
 |[],_,_=>by simp[lM]
 |_::_,[],_=>by simp[lM]
 |x::xs,y::ys,h=>by
  rw[lM,h x (W1z ..) y (W1z ..),dF λa ha b hb=>h a (E1z _ ha) b (E1z _ hb)];rfl
theorem oNe(h1:dep x<=50)(h2:dep y<=50)(hk:gw x y=true:=by rfl):cmpop .NotEq x y=some (.bl (!deq x y)):=by
 show(if(decide (dep x<=50)&&decide (dep y<=50)&&gw x y)=true then some (D.bl (!deq x y)) else none)=_;rw[A5z h1,A5z h2,hk];rfl
theorem iB:∀{l:List D},(∀d∈l,dep d<=b)->deps l<=b
 |[],_=>K6z _
 |d::r,h=>by
  exact Nat.max_le.mpr ⟨h d W1z,iB λe he=>h e (E1z _ he)⟩
theorem Mw:dep (row n f)<=1:=by
 simp[dep]
 have:=iB (b:=0) (l:=Ls n λj=>D.int (f j)) λd hd=>by
  obtain⟨i,_,rfl⟩:=List.mem_map.mp hd;simp[dep]
 omega
theorem oM:dep (tbl m n f)<=2:=by
 simp[dep]
 have:=iB (l:=Ls m λi=>D.tup (Ls n λj=>D.int (f i j))) λd hd=>by
  obtain⟨i,_,rfl⟩:=List.mem_map.mp hd;exact Mw
 omega
section
variable{cx:Cxt}{n:Nat}{sc scope:Scope}{ρ:Rho}{a b c e:Expr}{es:List Expr}{p q:Pos}{x y z d:D}{ds:List D}{nm:Str}
theorem Wz{j:Nat}(hw:rG cx sc e=.r1 a)(h1:ev cx n sc ρ a=some (.int j))(hz:j<=100000):evI cx tup (ev cx n sc ρ) sc e=some (Ls j λk=>.int k):=by
 rw[wR1 hw h1 (Xf hz),zR]
theorem Wx(hw:rG cx sc e=.zp a b)(h1:ev cx n sc ρ a=some (.tup (Ls m h)))(h2:ev cx n sc ρ b=some (.tup (Ls m g))):evI cx true (ev cx n sc ρ) sc e=some (Ls m λi=>.tup [h i,g i]):=by
 rw[wZp hw h1 h2,RN,RP]
theorem Wy(hw:rG cx sc e=.rv a)(h1:ev cx n sc ρ a=some (.tup (Ls m h))):evI cx tup (ev cx n sc ρ) sc e=some (Ls m λi=>h (m-1-i)):=by
 rw[wRv hw h1,Ir]
theorem V2(hw:rG cx sc e=.sq)(h1:ev cx n sc ρ e=some (.tup xs)):evI cx tup (ev cx n sc ρ) sc e=some xs:=wSq hw h1 rfl
theorem Wt(hg:bw cx sc nm=some "tuple")(hw:Ny cx sc "tuple" es=.tv a)(h1:ev cx n sc ρ a=some (.tup (Ls m h))):ev cx (n+1) sc ρ (.Call (.Name nm q) es [] p)=some (.tup (Ls m λi=>h (m-1-i))):=by
 rw[xTv hg hw h1,Ir]
theorem Nv{m j:Nat}(h1:ev cx n sc ρ a=some (.tup (Ls m h)))(h2:ev cx n sc ρ b=some (.int j))(hj:j<m)(hs:aG b=true)(hd:h j=d):ev cx (n+1) sc ρ (.Subscript a b p)=some d:=hd▸xIx h1 h2 rfl (Ip hj) hs
theorem Ww(h1:ev cx n sc ρ a=some (.tup (Ls m h)))(h2:ev cx n sc ρ b=some (.int 0))(hj:0<m)(hs:aG b=true)(hd:h 0=d):ev cx (n+1) sc ρ (.Subscript a b p)=some d:=hd▸xIx h1 h2 rfl (Ip hj) hs
end
abbrev plc(q:Nat)(c:Nat->Nat):D:=.tup (Ls q λj=>.int ((c j:Nat):Int))
theorem Rz{m a:Nat}{h:Nat->D}(ha:a<=m):Ce (Ls m h) (some (a:Int)) none=Ls (m-a) λi=>h (a+i):=by
 unfold Ce
 have e1:jL (Ls m h).length 0 (some (a:Int))=a:=by
  unfold jL;rw[bx];simp only;rw[H7z (by omega)];omega
 have e2:jL (Ls m h).length (Ls m h).length none=m:=bx;rw[e1,e2,Nq,Dc (I6z _)]
theorem RB{m a:Nat}{h:Nat->D}(ha:a<=m):Ce (Ls m h) none (some (a:Int))=Ls a h:=by
 unfold Ce;have e1:jL (Ls m h).length 0 none=0:=rfl
 have e2:jL (Ls m h).length (Ls m h).length (some (a:Int))=a:=by
  unfold jL;rw[bx];simp only;rw[H7z (by omega)];omega
 rw[e1,e2,List.drop_zero,Nat.sub_zero,Dc ha]
section
variable{cx:Cxt}{n:Nat}{sc scope:Scope}{ρ:Rho}{a b c e:Expr}{es:List Expr}{p q:Pos}{x y z d:D}{ds:List D}{nm:Str}
theorem Tg{m j:Nat}{h:Nat->D}(h1:ev cx n sc ρ a=some (.tup (Ls m h)))(h2:ev cx n sc ρ b=some (.int j))(hj:0<j)(hm:0<m)(hjm:j<=m):ev cx (n+1) sc ρ (.Subscript a (.Slice (some b) none none q) p)=some (.tup (Ls (m-j) λi=>h (j+i))):=by
 rw[xSl h1 (Ez h2) EY,Rz hjm]
 have:(jL (Ls m h).length 0 (some (j:Int))==0)=false:=by
  unfold jL;rw[bx];simp only;rw[H7z (by omega)]
  have:min (j:Int).toNat m≠0:=by omega
  exact Q1z.mpr this
 rw[this];rfl
end
theorem Ru{m:Nat}{h:Nat->D}:enD (Ls m h)=Ls m λi=>.tup [.int i,h i]:=by
 apply List.ext_getElem?;intro i;unfold enD;rw[List.getElem?_map,List.getElem?_zipIdx]
 by_cases hi:i<m
 .rw[dH hi,dH hi];simp
 .rw[List.getElem?_eq_none (by rw[bx];omega),List.getElem?_eq_none (by rw[bx];omega)];rfl
theorem WD{cx:Cxt}{n:Nat}{sc:Scope}{ρ:Rho}{a e:Expr}{m:Nat}{h:Nat->D}(hw:rG cx sc e=.en a)(h1:ev cx n sc ρ a=some (.tup (Ls m h))):evI cx true (ev cx n sc ρ) sc e=some (Ls m λi=>.tup [.int i,h i]):=by
 rw[wEn hw h1,Ru]
theorem VN{α β:Type}(d:α)(g:α->β)(l:List α):l.map g=Ls l.length λi=>g (l.getD i d):=by
 apply List.ext_getElem?;intro i
 by_cases hi:i<l.length
 .rw[List.getElem?_map,dH hi,List.getElem?_eq_getElem hi,List.getD_eq_getElem?_getD,List.getElem?_eq_getElem hi];rfl
 .rw[List.getElem?_eq_none (by rw[F4z];omega),List.getElem?_eq_none (by rw[bx];omega)]
theorem Wd(h:¬ i<=j):cmpop .LtE (.int i) (.int j)=some (.bl false):=by
 show some (D.bl (decide (i<=j)))=_;rw[B4z h]
theorem Wf:cmpop .LtE (.int i) (.int j)=some (.bl (decide (i<=j))):=rfl
section
variable{cx:Cxt}{n:Nat}{sc scope:Scope}{ρ:Rho}{a b c e:Expr}{es:List Expr}{p q:Pos}{x y z d:D}{ds:List D}{nm:Str}{F m:Nat}{r:List Stmt}{fl:Fl}{op op':CmpOp}
theorem Oi(h1:ev cx n sc ρ a=some x)(h2:ev cx n sc ρ b=some y)(h:cmpop op x y=some (.bl false))(hp:aG c=true:=by rfl):ev cx (n+1) sc ρ (.Compare a [op,op'] [b,c] p)=some (.bl false):=by
 simp[ev,hp,Bool.not_true,D2z,C7z,h1,h2,bind,Z3z,h,asB]
theorem Vq{px ap cp:Pos}{M:Str}{ds zs:List D}(hx:(frz F e ρ).lookup nm=some (.ow ds))(ho:(ownIn sc nm&&aZ nm&&ap.endLine==cp.line)=true)(hM:(M=="append")=false)(hM2:(M=="extend")=true)(hz:szl (ds.length+zs.length)=true)(h:ev cx F sc (frz F e ρ) e=some (.tup zs))(k:blk cx F (m+1) sc r (eE (frz F e ρ) nm (.ow (ds++zs)))=some fl) :
  blk cx F (m+1) sc (.Expr (.Call (.Attribute (.Name nm px) M ap) [e] [] cp) p::r) ρ=some fl:=by
 refine gSt (fl1:=.nxt _) ?_ k;simp only[st,hx,ho,hM,hM2,Y4z,D2z,C7z,F7z,h,bind,Z3z,hz]
end
section
variable{cx:Cxt}{n:Nat}{sc scope:Scope}{ρ:Rho}{a b c e:Expr}{es:List Expr}{p q:Pos}{x y z d:D}{ds:List D}{nm:Str}{F m:Nat}{r:List Stmt}{fl:Fl}
end
section
variable{cx:Cxt}{n:Nat}{sc scope:Scope}{ρ:Rho}{a b c e:Expr}{p q:Pos}
end
theorem BW{x:D}:∀{l:List D},x∈l->dep x<=deps l
 |y::l,h=>by
  simp only[deps];rcases V5z.mp h with rfl|h
  .omega
  .have:=BW h;omega
theorem cH{f:D->Option (Option D)}{g:D->D}:∀{l:List D},(∀x∈l,f x=some (some (g x)))->aU f l=some (l.map g)
 |[],_=>rfl
 |x::l,h=>by
  simp only[aU,h x W1z,bind,Z3z,cH (l:=l) λy hy=>h y (E1z _ hy),K4z,O5z]
theorem rB{l:List D}:blt "all" [.lst (l.map λx=>.bl (t x))]=some (.bl (l.all t)):=by
 have key:∀l:List D,rF (l.map λx=>.bl (t x))=some (l.map t):=by
  intro l
  induction l with
  |nil=>rfl
  |cons a r ih=>simp only[O5z,rF,ih];rfl
 show(rF (l.map λx=>.bl (t x))).bind (λbs=>some (D.bl (bs.all id)))=_;rw[key,Z3z,List.all_map];rfl
theorem qz{f:D->Rho->Option Fl}{R:List D->Rho}{whole:List D}(h:∀pre x post,pre++x::post=whole->f x (R pre)=some (.nxt (R (pre++[x])))):∀{l pre:List D},pre++l=whole->iW f l (R pre)=some (.nxt (R whole))
 |[],pre,e=>by rw[G4z] at e;rw[e];rfl
 |x::l,pre,e=>by
  simp only[iW,h pre x l e];exact qz h (l:=l) (pre:=pre++[x]) (by rw[C3z];exact e)
def K4:List D->Sl
 |[]=>.no
 |x::r=>.sh (r.getLastD x)
theorem xK:∀(l:List D)(x:D),K4 (l++[x])=.sh x
 |[],x=>rfl
 |y::l,x=>by
  show Sl.sh ((l++[x]).getLastD y)=_;simp
theorem Xn{x:D}(h:dep x<1000):isExc x=false:=by cases x<;>first|rfl|exact absurd h (by simp[dep])
def nOw:Sl->Bool
 |.ow _=>false
 |.oo _=>false
 |_=>true
def oR(ρ:Rho):Bool:=ρ.all λp=>nOw p.2
theorem qy(h:oR ρ=true):frz F e ρ=ρ:=by
 conv=>rhs;rw[<- P6z ρ]
 apply List.map_congr_left;intro p hp;have:=A4z.mp h p hp;obtain⟨x,s⟩:=p
 cases s<;>first|rfl|simp[nOw] at this
theorem Ck(h:oR ρ=true):HJ ρ x=true:=by
 unfold HJ;rw[A4z];intro p hp;have:=A4z.mp h p hp;obtain⟨y,s⟩:=p
 cases s<;>first|(simp[nOw] at this;done)|simp[Wi]
section
variable{cx:Cxt}{sc:Scope}{ρ:Rho}{c e:Expr}{p:Pos}{d:D}{nm:Str}{F m:Nat}{r:List Stmt}{fl:Fl}
theorem XF(hc:oR ρ=true)(ho:(ownIn sc nm&&(ρ.map (·.1)).contains nm)=true)(h:ev cx F sc ρ e=some d)(k:blk cx F (m+1) sc r (eE ρ nm (pG e d))=some fl)(hoo:(ooE cx sc e&&Kl ρ nm)=false:=by rfl)(hle:SQ cx sc e=false:=by rfl)(hrd:rdA e=false:=by rfl):blk cx F (m+1) sc (.Assign [.Name nm px] e p::r) ρ=some fl:=by
 refine oh ho (by rw[qy hc];exact h) ?_ (by rw[qy hc];exact hoo) (by rw[qy hc,Ck hc];simp) hle hrd
 rw[qy hc];exact k
theorem Ac(h:dI e=false):ooE cx sc e=false:=by
 cases e<;>first|rfl|exact absurd h (by simp[dI])
theorem zB(h:dI e=false):pG e d=.sh d:=by
 unfold pG;split
 .rw[h];rfl
 .rfl
theorem Nb(hc:oR ρ=true)(ho:(ownIn sc nm&&(ρ.map (·.1)).contains nm)=true)(hfr:dI e=false)(h:ev cx F sc ρ e=some d)(k:blk cx F (m+1) sc r (eE ρ nm (.sh d))=some fl)(hle:SQ cx sc e=false:=by rfl)(hrd:rdA e=false:=by rfl):blk cx F (m+1) sc (.Assign [.Name nm px] e p::r) ρ=some fl:=XF hc ho h (by rw[zB hfr];exact k) (by rw[Ac hfr];rfl) hle hrd
theorem XH{A B:List Stmt}{fl1:Fl}(hc:oR ρ=true)(h:ev cx F sc ρ c=some (.bl false))(k:blk cx F m sc B ρ=some fl1)(k2:yL cx F (m+1) sc r fl1=some fl):blk cx F (m+1) sc (.If c A B p::r) ρ=some fl:=Wm (by rw[qy hc];exact h) k k2
theorem Vz{A:List Stmt}(hc:oR ρ=true)(h:ev cx F sc ρ c=some (.bl false))(k:blk cx F (m+1) sc r ρ=some fl):blk cx F (m+1) sc (.If c A [] p::r) ρ=some fl:=XH hc h lD k
end
theorem U3(h:dep d<=50)(hk:gw d d=true):cmpop .NotEq d d=some (.bl false):=by
 rw[oNe h h hk,tL d (by omega)];rfl
def upd(f:Nat->Nat->Int)(a b:Nat)(v:Int):Nat->Nat->Int:=λi j=>if i=a then(if j=b then v else f i j) else f i j
section
variable{cx:Cxt}{sc:Scope}{ρ ρ' ρ2:Rho}{e:Expr}{p:Pos}{d:D}{nm:Str}{F m:Nat}{r:List Stmt}{fl:Fl}{ds:List D}
end
end DE
namespace L2
open PySem PySem.Spec PyProof.Rows
open DE (D)
structure Cst where
 tabs:List (Str×D)
 don:List D
 und:List D
def Sv(l:List (Str×D))(n:Str)(d:D):List (Str×D):=if(l.any λp=>decide (p.1=n))=true then l.map (λp=>if p.1=n then(p.1,d) else p) else l++[(n,d)]
def Mt(l:List (Str×D))(n:Str):List (Str×D):=l.filter λp=>decide (p.1≠n)
def qx(l:List (Str×D))(n:Str):Option D:=(l.find? λp=>decide (p.1=n)).map (·.2)
def KvR(K:Zf)(Hs:Hp):List (Str×D)->List (Key×V)->Prop
 |[],kvs=>kvs=[]
 |(n,d)::r,kvs=>∃v q,kvs=(Sum.inr n,v)::q/\Rep K Hs d v/\KvR K Hs r q
section
variable{K:Zf}{Hs Hs' H H':Hp}
theorem KvR.same(e:Same Hs Hs'):∀{l:List (Str×D)}{kvs:List (Key×V)},KvR K Hs l kvs->KvR K Hs' l kvs
 |[],_,h=>h
 |(n,d)::r,_,h=>by
  obtain⟨v,q,rfl,h1,h2⟩:=h;exact⟨v,q,rfl,h1.same e,KvR.same e h2⟩
theorem KvR.length:∀{l:List (Str×D)}{kvs:List (Key×V)},KvR K Hs l kvs->kvs.length=l.length
 |[],_,h=>by cases h;rfl
 |(n,d)::r,_,h=>by
  obtain⟨v,q,rfl,h1,h2⟩:=h;simp[h2.length]
theorem KvR.keys:∀{l:List (Str×D)}{kvs:List (Key×V)},KvR K Hs l kvs->kvs.map (·.1)=(l.map (·.1)).map Sum.inr
 |[],_,h=>by cases h;rfl
 |(n,d)::r,_,h=>by
  obtain⟨v,q,rfl,h1,h2⟩:=h;simp[h2.keys]
theorem KvR.append:∀{l:List (Str×D)}{kvs:List (Key×V)}{n:Str}{d:D}{v:V},KvR K Hs l kvs->Rep K Hs d v->KvR K Hs (l++[(n,d)]) (kvs++[(Sum.inr n,v)])
 |[],_,n,d,v,h,r=>by cases h;exact⟨v,[],rfl,r,rfl⟩
 |(m,e)::l,_,n,d,v,h,r=>by
  obtain⟨u,q,rfl,h1,h2⟩:=h;exact⟨u,_,rfl,h1,h2.append r⟩
theorem qw:((Sum.inr m:Key)=Sum.inr n)↔m=n:=⟨λh=>by cases h;rfl,λh=>by rw[h]⟩
theorem KvR.any:∀{l:List (Str×D)}{kvs:List (Key×V)},KvR K Hs l kvs->(kvs.any λkv=>decide (kv.1=(Sum.inr n:Key)))=(l.any λp=>decide (p.1=n))
 |[],_,h=>by cases h;rfl
 |(m,e)::l,_,h=>by
  obtain⟨u,q,rfl,h1,h2⟩:=h;rw[S5z,S5z,h2.any];congr 1;exact decide_eq_decide.mpr qw
theorem KvR.repl(r:Rep K Hs d v):∀{l:List (Str×D)}{kvs:List (Key×V)},KvR K Hs l kvs->KvR K Hs (l.map (λp=>if p.1=n then(p.1,d) else p)) (kvs.map (λkv=>if kv.1=(Sum.inr n:Key) then(kv.1,v) else kv))
 |[],_,h=>by cases h;rfl
 |(m,e)::l,_,h=>by
  obtain⟨u,q,rfl,h1,h2⟩:=h;rw[O5z,O5z]
  by_cases hm:m=n
  .rw[G7z hm,G7z (qw.mpr hm)]
   exact⟨v,_,rfl,r,KvR.repl r h2⟩
  .rw[H7z hm,H7z (λz=>hm (qw.mp z))]
   exact⟨u,_,rfl,h1,KvR.repl r h2⟩
theorem KvR.put(h:KvR K Hs l kvs)(r:Rep K Hs d v):KvR K Hs (Sv l n d) (putK kvs (Sum.inr n) v):=by
 unfold Sv putK;rw[h.any];split
 .exact h.repl r
 .exact h.append r
theorem KvR.drop:∀{l:List (Str×D)}{kvs:List (Key×V)},KvR K Hs l kvs->KvR K Hs (Mt l n) (tK kvs (Sum.inr n))
 |[],_,h=>by cases h;rfl
 |(m,e)::l,_,h=>by
  obtain⟨u,q,rfl,h1,h2⟩:=h;have ih:=KvR.drop (n:=n) h2;unfold Mt tK at ih ⊢
  by_cases hm:m=n
  .rw[List.filter_cons_of_neg (by simpa using hm),List.filter_cons_of_neg (by simpa using hm)]
   exact ih
  .rw[List.filter_cons_of_pos (by simpa using hm),List.filter_cons_of_pos (by simpa using hm)]
   exact⟨u,_,rfl,h1,ih⟩
theorem KvR.get:∀{l:List (Str×D)}{kvs:List (Key×V)},KvR K Hs l kvs->(qx l n=none/\ju kvs (Sum.inr n)=none)\/∃d v,qx l n=some d/\ju kvs (Sum.inr n)=some v/\Rep K Hs d v
 |[],_,h=>by cases h;exact .inl ⟨rfl,rfl⟩
 |(m,e)::l,_,h=>by
  obtain⟨u,q,rfl,h1,h2⟩:=h
  by_cases hm:m=n
  .refine .inr ⟨e,u,?_,iG (qw.mpr hm),h1⟩
   unfold qx;rw[List.find?_cons_of_pos (by simpa using hm)];rfl
  .rw[iH (λz=>hm (qw.mp z))]
   have:qx ((m,e)::l) n=qx l n:=by
    unfold qx;rw[List.find?_cons_of_neg (by simpa using hm)]
   rw[this];exact h2.get
end
abbrev nT:Str:="tables"
abbrev nD:Str:="done"
abbrev nU:Str:="undone"
theorem n1:¬ (nT=nD):=by decide +kernel
theorem n2:¬ (nT=nU):=by decide +kernel
theorem n3:¬ (nD=nU):=by decide +kernel
abbrev fl1(d:Addr):List (Str×V):=[(nT,.ref d)]
abbrev fl2(d dn:Addr):List (Str×V):=[(nT,.ref d),(nD,.ref dn)]
abbrev lF(d dn un:Addr):List (Str×V):=[(nT,.ref d),(nD,.ref dn),(nU,.ref un)]
theorem Xl(d dn:Addr):nM nD (.ref dn) (fl1 d)=fl2 d dn:=by
 show(if nT=nD then _ else _)=_;rw[H7z n1];rfl
theorem put2(d dn un:Addr):nM nU (.ref un) (fl2 d dn)=lF d dn un:=by
 show(if nT=nU then _ else(nT,V.ref d)::(if nD=nU then _ else _))=_;rw[H7z n2,H7z n3];rfl
theorem put3(d dn un un':Addr):nM nU (.ref un') (lF d dn un)=lF d dn un':=by
 show(if nT=nU then _ else(nT,V.ref d)::(if nD=nU then _ else(nD,V.ref dn)::(if nU=nU then _ else _)))=_;rw[H7z n2,H7z n3,G7z rfl]
theorem sY(d dn un:Addr):(lF d dn un).lookup nT=some (.ref d):=by rfl
theorem QW(d dn un:Addr):(lF d dn un).lookup nD=some (.ref dn):=by rfl
theorem Va(d dn un:Addr):(lF d dn un).lookup nU=some (.ref un):=by rfl
structure CRep(K:Zf)(C:Addr)(Hs H:Hp)(p d dn un:Addr)(S:Cst):Prop where
 ob:∃dx,H p=some (.ins C dx (lF d dn un))
 dc:∃kvs,H d=some (.dK kvs)/\KvR K Hs S.tabs kvs
 dl:∃vs,H dn=some (.lst vs)/\aJ K Hs S.don vs
 ul:∃vs,H un=some (.lst vs)/\aJ K Hs S.und vs
 ne:dn≠un
 hp:Hs p=none
 hd:Hs d=none
 hn:Hs dn=none
 hu:Hs un=none
structure ExtM(p d dn un un':Addr)(Hs H Hs' H':Hp):Prop where
 vis:Same Hs Hs'
 all:∀b o,H b=some o->b≠p->b≠d->b≠dn->b≠un->H' b=some o
 sub:Same Hs' H'
 hid:∀b o,H b=some o->b≠p->b≠d->b≠dn->b≠un->Hs b=none->Hs' b=none
 nu:un'=un\/H un'=none
theorem cQ(E:Same H H1)(z:H1 b=none):H b=none:=by
 cases q:H b with
 |none=>rfl
 |some o=>rw[E _ _ q] at z;cases z
section
variable{K:Zf}{C:Addr}{Hs H Hs1 H1 Hs2 H2:Hp}{p d dn un un1 un2:Addr}{S:Cst}
theorem CRep.ext(S0:CRep K C Hs H p d dn un S)(E:Ext Hs H Hs1 H1):CRep K C Hs1 H1 p d dn un S:=by
 obtain⟨⟨dx,a1⟩,⟨kvs,b1,b2⟩,⟨vs,c1,c2⟩,⟨us,d1,d2⟩,e,f1,f2,f3,f4⟩:=S0;exact⟨⟨dx,E.all _ _ a1⟩,⟨kvs,E.all _ _ b1,b2.same E.vis⟩,⟨vs,E.all _ _ c1,aJ.same E.vis _ _ c2⟩,⟨us,E.all _ _ d1,aJ.same E.vis _ _ d2⟩,e,E.hid _ _ a1 f1,E.hid _ _ b1 f2,E.hid _ _ c1 f3,E.hid _ _ d1 f4⟩
theorem ExtM.of(E:Ext Hs H Hs1 H1):ExtM p d dn un un Hs H Hs1 H1:=⟨E.vis,λb o e _ _ _ _=>E.all b o e,E.sub,λb o e _ _ _ _=>E.hid b o e,.inl rfl⟩
theorem ExtM.trans(M:ExtM p d dn un un1 Hs H Hs1 H1)(N:ExtM p d dn un1 un2 Hs1 H1 Hs2 H2)(hu:un2=un1\/H un2=none\/un2=un):ExtM p d dn un un2 Hs H Hs2 H2:=by
 have nu:∀b o,H b=some o->b≠un->b≠un1:=λb o e h z=>by
  obtain q|q:=M.nu
  .exact h (z.trans q)
  .rw[z,q] at e;cases e
 refine⟨M.vis.trans N.vis,λb o e a1 a2 a3 a4=>N.all b o (M.all b o e a1 a2 a3 a4) a1 a2 a3 (nu b o e a4),N.sub,λb o e a1 a2 a3 a4 n=>N.hid b o (M.all b o e a1 a2 a3 a4) a1 a2 a3 (nu b o e a4) (M.hid b o e a1 a2 a3 a4 n),?_⟩;obtain h|h|h:=hu
 .rw[h];exact M.nu
 .exact .inr h
 .exact .inl h
theorem ExtM.pre(E:Ext Hs H Hs1 H1)(M:ExtM p d dn un un2 Hs1 H1 Hs2 H2):ExtM p d dn un un2 Hs H Hs2 H2:=by
 refine(ExtM.of E).trans M ?_;obtain z|z:=M.nu
 .exact .inl z
 .exact .inr (.inl (cQ E.all z))
theorem CRep.npd(S0:CRep K C Hs H p d dn un S):p≠d:=by obtain⟨⟨dx,a1⟩,⟨kvs,b1,b2⟩,_⟩:=S0;exact nY a1 b1 (by intro z;cases z)
theorem CRep.npn(S0:CRep K C Hs H p d dn un S):p≠dn:=by obtain⟨⟨dx,a1⟩,_,⟨vs,b1,b2⟩,_⟩:=S0;exact nY a1 b1 (by intro z;cases z)
theorem CRep.npu(S0:CRep K C Hs H p d dn un S):p≠un:=by obtain⟨⟨dx,a1⟩,_,_,⟨vs,b1,b2⟩,_⟩:=S0;exact nY a1 b1 (by intro z;cases z)
theorem CRep.ndn(S0:CRep K C Hs H p d dn un S):d≠dn:=by obtain⟨_,⟨dx,a1,_⟩,⟨vs,b1,b2⟩,_⟩:=S0;exact nY a1 b1 (by intro z;cases z)
theorem CRep.ndu(S0:CRep K C Hs H p d dn un S):d≠un:=by obtain⟨_,⟨dx,a1,_⟩,_,⟨vs,b1,b2⟩,_⟩:=S0;exact nY a1 b1 (by intro z;cases z)
theorem iz(hs:Same Hs H)(ha:a=d\/a=dn\/a=un)(n:Hs a=none):ExtM p d dn un un Hs H Hs (upd H a o):=by
 refine⟨.refl _,λb u e a1 a2 a3 a4=>?_,λb u e=>?_,λ_ _ _ _ _ _ _ z=>z,.inl rfl⟩
 .rw[ao (by rcases ha with h|h|h<;>rw[h]<;>assumption)];exact e
 .rw[ao (λz=>by rw[z,n] at e;cases e)];exact hs b u e
theorem CRep.setD(S0:CRep K C Hs H p d dn un S)(r:KvR K Hs t kvs):CRep K C Hs (upd H d (.dK kvs)) p d dn un {S with tabs:=t}:=by
 have h1:=S0.npd;have h2:=S0.ndn;have h3:=S0.ndu
 obtain⟨⟨dx,a1⟩,⟨ks,b1,b2⟩,⟨vs,c1,c2⟩,⟨us,d1,d2⟩,e,f1,f2,f3,f4⟩:=S0;exact⟨⟨dx,by rw[ao h1];exact a1⟩,⟨kvs,aA,r⟩,⟨vs,by rw[ao h2.symm];exact c1,c2⟩,⟨us,by rw[ao h3.symm];exact d1,d2⟩,e,f1,f2,f3,f4⟩
theorem CRep.setN(S0:CRep K C Hs H p d dn un S)(r:aJ K Hs l vs):CRep K C Hs (upd H dn (.lst vs)) p d dn un {S with don:=l}:=by
 have h1:=S0.npn;have h2:=S0.ndn
 obtain⟨⟨dx,a1⟩,⟨ks,b1,b2⟩,⟨vs,c1,c2⟩,⟨us,d1,d2⟩,e,f1,f2,f3,f4⟩:=S0;exact⟨⟨dx,by rw[ao h1];exact a1⟩,⟨ks,by rw[ao h2];exact b1,b2⟩,⟨_,aA,r⟩,⟨us,by rw[ao e.symm];exact d1,d2⟩,e,f1,f2,f3,f4⟩
theorem CRep.setU(S0:CRep K C Hs H p d dn un S)(r:aJ K Hs l vs):CRep K C Hs (upd H un (.lst vs)) p d dn un {S with und:=l}:=by
 have h1:=S0.npu;have h2:=S0.ndu
 obtain⟨⟨dx,a1⟩,⟨ks,b1,b2⟩,⟨vs,c1,c2⟩,⟨us,d1,d2⟩,e,f1,f2,f3,f4⟩:=S0;exact⟨⟨dx,by rw[ao h1];exact a1⟩,⟨ks,by rw[ao h2];exact b1,b2⟩,⟨vs,by rw[ao e];exact c1,c2⟩,⟨_,aA,r⟩,e,f1,f2,f3,f4⟩
theorem CRep.newU(hs:Same Hs H)(S0:CRep K C Hs H p d dn un S)(hu:H un1=none):CRep K C Hs (upd (upd H un1 (.lst [])) p (.ins C dx (lF d dn un1))) p d dn un1 {S with und:=[]}/\ExtM p d dn un un1 Hs H Hs (upd (upd H un1 (.lst [])) p (.ins C dx (lF d dn un1))):=by
 have h1:=S0.npd;have h2:=S0.npn;have h3:=S0.npu
 obtain⟨⟨dx',a1⟩,⟨ks,b1,b2⟩,⟨vs,c1,c2⟩,⟨us,d1,d2⟩,e,f1,f2,f3,f4⟩:=S0;have k1:=aq a1 hu;have k2:=aq b1 hu;have k3:=aq c1 hu;refine⟨⟨⟨dx,aA⟩,⟨ks,by rw[ao h1.symm,ao k2];exact b1,b2⟩,⟨vs,by rw[ao h2.symm,ao k3];exact c1,c2⟩,⟨[],by rw[ao k1.symm,aA],.nil⟩,k3,f1,f2,f3,cQ hs hu⟩,.refl _,λb u q a1 a2 a3 a4=>?_,λb u q=>?_,λ_ _ _ _ _ _ _ z=>z,.inr hu⟩
 .rw[ao a1,ao (aq q hu)];exact q
 .rw[ao (λz=>by rw[z,f1] at q;cases q),ao (aq (hs _ _ q) hu)];exact hs b u q
end
end L2
namespace M92
open PySem L2 DE
def top(i:Nat):Stmt:=PySem.Challenge.pw_minortables_k92_whole_cases_and_minors.main.body.getD i (.Pass ⟨0,0,0,0⟩)
def aW(t:Stmt):Fd:=⟨(cC t).args.map (·.arg),(cC t).args.map (·.arg)++(((aB t).names.filter λp=>(p.2==.local||p.2==.cell) && !((cC t).args.map (·.arg)).contains p.1).map (·.1)),aB t,aL t⟩
noncomputable def cs:List (Str×D):=[("MOST_LINES",.int 4),("MOST_NUMBER",.int 99),("LETTERS",.str "abcdefghijklmnopqrstuvwxyz"),("MOST_LETTERS",.int 4)]
noncomputable def bl:List (Str×String):=[("len","len"),("all","all"),("sum","sum"),("tuple","tuple"),("dict","dict"),("min","min"),("max","max"),("int","int"),("bool","bool"),("str","str"),("isinstance","isinstance"),("range","range"),("zip","zip"),("enumerate","enumerate"),("reversed","reversed"),("set","set"),("sorted","sorted")]
structure Rw where
 (x:Str) (i:Nat) (f:Addr) (m:Value)
def m0:Value:=.str "minortables.checks" 294
def m1:Value:=.str "minortables.tables" 379
def m2:Value:=.str "minortables.joining" 462
def m3:Value:=.str "minortables.texts" 480
def m4:Value:=.str "minortables.cases" 521
def m5:Value:=.str "minortables.minors" 727
def m6:Value:=.str "minortables.good" 840
def m7:Value:=.str "minortables.measuring" 855
noncomputable def m8:Value:=.str "law_minortables_k92_whole_cases_and_minors" 876
def r0:List Rw:=[⟨"written_numbers",43,270,m3⟩]
def r1:List Rw:=[⟨"is_whole",10,101,m0⟩,⟨"is_short_tuple",12,115,m0⟩,⟨"has_lines",13,120,m0⟩,⟨"numbers_of",14,127,m0⟩,⟨"has_table_form",15,132,m0⟩,⟨"is_square",16,139,m0⟩,⟨"need_table",17,146,m0⟩,⟨"need_square",18,153,m0⟩,⟨"is_small_row",23,172,m1⟩,⟨"is_table",24,177,m1⟩,⟨"columns_of",26,187,m1⟩,⟨"turned",27,194,m1⟩,⟨"flipped",28,199,m1⟩,⟨"number_text",40,255,m3⟩,⟨"row_text",41,260,m3⟩,⟨"table_text",42,265,m3⟩,⟨"read_row",44,275,m3⟩,⟨"read_table",45,280,m3⟩,⟨"is_name",49,285,m4⟩,⟨"need_name",50,292,m4⟩,⟨"case_text",53,423,m4⟩,⟨"read_block",54,430,m4⟩,⟨"read_blocks",55,435,m4⟩,⟨"read_case",56,440,m4⟩,⟨"worth_of",59,450,m5⟩,⟨"greatest_size",65,488,m5⟩,⟨"minors_in",68,509,m5⟩,⟨"all_minors",69,516,m5⟩,⟨"whole_minor",70,523,m5⟩,⟨"rank",71,528,m5⟩,⟨"none_below",73,533,m6⟩,⟨"is_good",74,540,m6⟩,⟨"line_sums",76,545,m7⟩,⟨"sums",77,552,m7⟩,⟨"slant_sum",78,557,m7⟩,⟨"_law_worth",83,581,m8⟩,⟨"law",84,586,m8⟩]
def r2:List Rw:=[⟨"need_same_size",19,160,m0⟩,⟨"need_size",20,167,m0⟩,⟨"column_of",25,182,m1⟩,⟨"picked",29,204,m1⟩,⟨"row_by_column",31,214,m1⟩,⟨"row_by_columns",32,219,m1⟩,⟨"times",33,224,m1⟩,⟨"row_plus",34,229,m1⟩,⟨"plus",35,234,m1⟩,⟨"set_below",37,241,m2⟩,⟨"set_beside",38,248,m2⟩,⟨"row_with_rests",62,469,m5⟩,⟨"with_behind",63,474,m5⟩,⟨"rising_tuples",64,481,m5⟩,⟨"minors_of_rows",66,495,m5⟩,⟨"minors_of_size",67,502,m5⟩,⟨"_law_cell",80,564,m8⟩]
def r3:List Rw:=[⟨"is_whole_within",11,108,m0⟩,⟨"part_at",30,209,m1⟩,⟨"joined",51,299,m4⟩,⟨"without",58,445,m5⟩,⟨"rest_worth",60,457,m5⟩,⟨"signed_rest",61,464,m5⟩,⟨"_law_pick",81,571,m8⟩]
def r4:List Rw:=[⟨"_law_table",82,576,m8⟩]
def ro:List Rw:=r0++r1++r2++r3++r4
def df:List (Str×Fd):=ro.map λr=>(r.x,aW (top r.i))
noncomputable def xs:List Str:=["NoTable","NoFit","NoText","NoName","NoBack"]
def T:Pg:=⟨cs,bl,df,xs,"MinorError"⟩
def BnO(nm:Str)(t:Stmt):Prop:=∀(kV doc pm:Value)(an:Option Addr)(cdv ct:Value)(us:List Value),us.length=(aW t).ps.length->bindArgs (W.fnOf nm nm (cC t) (aL t) (aB t) .none kV doc pm an cdv ct) ⟨us,[]⟩=pure ((aW t).ps.zip us)
def fsB(fd:Fd):Bool:=decide (fd.sc.kind=.function) && !fd.sc.isCoroutine && !fd.sc.isGenerator&&decide fd.N.Nodup&&decide (fd.N.take fd.ps.length=fd.ps)&&fd.ps.all (λx=>decide (fd.sc.names.lookup x=some .local)||decide (fd.sc.names.lookup x=some .cell))&&fd.sc.names.all λy=>decide (y.2≠.free)
theorem Rf{fd:Fd}(h:fsB fd=true):FnScope fd.N fd.ps fd.sc:=by
 unfold fsB at h;simp only[J3z,W2z,V2z,A4z,S4z] at h;obtain⟨⟨⟨⟨⟨⟨h1,h2⟩,h3⟩,h4⟩,h5⟩,h6⟩,h7⟩:=h;exact⟨h1,h2,h3,h4,h5,h6,h7⟩
theorem Rc{K:Zf}{h:Heap}{mg:Str->Option Value}{x nm:Str}{t:Stmt}(X:K.In h)(G:h.Ns mainGlobals mg)(f:Addr)(dc pm cd:Value)(hb:BnO nm t)(a:W.nsIn K mainGlobals x=some (some (.ref f)))
  (l:K.lookup f=some ⟨.type "function",none,.func (W.fnOf nm nm (cC t) (aL t) (aB t) .none .none dc pm none cd .none),#[]⟩) (c:(W.codeIn K cd nm&&W.keepIn K (.ref f)&&fsB (aW t) && !(x==("__debug__":Str)))=true):FunAt K mg x (aW t):=by
 simp only[J3z,V2z] at c;obtain⟨⟨⟨c,k⟩,hs⟩,hd⟩:=c;exact⟨⟨nm,t,f,_,X5z X G a,fun_mk l c k,(fun_mk l c k).binds hb,rfl,rfl⟩,Rf hs,hd⟩
theorem len0{us:List Value}(h:us.length=0):us=[]:=List.length_eq_zero_iff.mp h
theorem len1{us:List Value}(h:us.length=1):∃a,us=[a]:=List.length_eq_one_iff.mp h
theorem len2{us:List Value}(h:us.length=2):∃a b,us=[a,b]:=by cases us with|nil=>cases h|cons a r=>obtain⟨b,z⟩:=len1 (us:=r) (Nat.succ.inj h);exact⟨a,b,congrArg (List.cons a) z⟩
theorem SX{us:List Value}(h:us.length=3):∃a b c,us=[a,b,c]:=by cases us with|nil=>cases h|cons a r=>obtain⟨b,c,z⟩:=len2 (us:=r) (Nat.succ.inj h);exact⟨a,b,c,congrArg (List.cons a) z⟩
theorem Vb{us:List Value}(h:us.length=4):∃a b c d,us=[a,b,c,d]:=by cases us with|nil=>cases h|cons a r=>obtain⟨b,c,d,z⟩:=SX (us:=r) (Nat.succ.inj h);exact⟨a,b,c,d,congrArg (List.cons a) z⟩
theorem b84:BnO "law" (top 84):=λ_ _ _ _ _ _ _ h=>by obtain⟨_,rfl⟩:=len1 h;rfl
theorem in_of{α:Type}{Q:Str->α->Prop}:∀{l:List (Str×α)},(∀p∈l,Q p.1 p.2)->∀f fd,l.lookup f=some fd->Q f fd
 |(y,e)::r,hp,f,fd,h=>by
  rw[K3z] at h
  cases hb:f==y with
  |true =>
   rw[hb] at h
   have e1:f=y:=by simpa using hb
   cases h;subst e1;exact hp _ W1z
  |false =>
   rw[hb] at h;exact in_of (λp hm=>hp p (E1z _ hm)) f fd h
theorem aC{α:Type}{Q:α->Prop}{a:α}{l:List α}(h:Q a)(t:∀p∈l,Q p):∀p∈a::l,Q p:=List.forall_mem_cons.mpr ⟨h,t⟩
theorem aN{α:Type}{Q:α->Prop}:∀p∈([]:List α),Q p:=List.forall_mem_nil _
theorem cA{K:Zf}{h:Heap}{mg:Str->Option Value}{x:Str}{i:Int}(X:K.In h)(G:h.Ns mainGlobals mg)(tk:Tok)(e:W.nsIn K mainGlobals x=some (some (.int i tk))):∃v u,(∀H,Rep K H (D.int i) v)/\mg x=some u/\RelV v u:=⟨.int i,_,λ_=>by simp[Rep],X5z X G e,⟨_,rfl⟩⟩
theorem cS{K:Zf}{h:Heap}{mg:Str->Option Value}{x y:Str}(X:K.In h)(G:h.Ns mainGlobals mg)(tk:Tok)(e:W.nsIn K mainGlobals x=some (some (.str y tk))):∃v u,(∀H,Rep K H (D.str y) v)/\mg x=some u/\RelV v u:=⟨.str y,_,λ_=>by simp[Rep],X5z X G e,⟨_,rfl⟩⟩
theorem bA{K:Zf}{h:Heap}{mg:Str->Option Value}{x:Str}{b:String}(X:K.In h)(G:h.Ns mainGlobals mg)(e:W.nsIn K mainGlobals x=some none)(q:x=Str.ofString b):mg x=none/\x=Str.ofString b:=⟨W.mg_none_of X G e,q⟩
theorem bn0:∀r∈r0,BnO r.x (top r.i):=λr hr kV doc pm an cdv ct us h=>by
 cases len0 (h.trans (X2z (A4z.mp (show(r0.all λr=>decide ((aW (top r.i)).ps.length=0))=true by rfl') r hr)));exact List.map_inj_left.mp (show(r0.map λr=>bindArgs (W.fnOf r.x r.x (cC (top r.i)) (aL (top r.i)) (aB (top r.i)) .none kV doc pm an cdv ct) ⟨[],[]⟩)=r0.map λr=>pure ((aW (top r.i)).ps.zip []) by rfl') r hr
theorem bn1:∀r∈r1,BnO r.x (top r.i):=λr hr kV doc pm an cdv ct us h=>by
 obtain⟨a,rfl⟩:=len1 (h.trans (X2z (A4z.mp (show(r1.all λr=>decide ((aW (top r.i)).ps.length=1))=true by rfl') r hr)));exact List.map_inj_left.mp (show(r1.map λr=>bindArgs (W.fnOf r.x r.x (cC (top r.i)) (aL (top r.i)) (aB (top r.i)) .none kV doc pm an cdv ct) ⟨[a],[]⟩)=r1.map λr=>pure ((aW (top r.i)).ps.zip [a]) by rfl') r hr
theorem bn2:∀r∈r2,BnO r.x (top r.i):=λr hr kV doc pm an cdv ct us h=>by
 obtain⟨a,b,rfl⟩:=len2 (h.trans (X2z (A4z.mp (show(r2.all λr=>decide ((aW (top r.i)).ps.length=2))=true by rfl') r hr)));exact List.map_inj_left.mp (show(r2.map λr=>bindArgs (W.fnOf r.x r.x (cC (top r.i)) (aL (top r.i)) (aB (top r.i)) .none kV doc pm an cdv ct) ⟨[a,b],[]⟩)=r2.map λr=>pure ((aW (top r.i)).ps.zip [a,b]) by rfl') r hr
theorem bn3:∀r∈r3,BnO r.x (top r.i):=λr hr kV doc pm an cdv ct us h=>by
 obtain⟨a,b,c,rfl⟩:=SX (h.trans (X2z (A4z.mp (show(r3.all λr=>decide ((aW (top r.i)).ps.length=3))=true by rfl') r hr)));exact List.map_inj_left.mp (show(r3.map λr=>bindArgs (W.fnOf r.x r.x (cC (top r.i)) (aL (top r.i)) (aB (top r.i)) .none kV doc pm an cdv ct) ⟨[a,b,c],[]⟩)=r3.map λr=>pure ((aW (top r.i)).ps.zip [a,b,c]) by rfl') r hr
theorem bn4:∀r∈r4,BnO r.x (top r.i):=λr hr kV doc pm an cdv ct us h=>by
 obtain⟨a,b,c,d,rfl⟩:=Vb (h.trans (X2z (A4z.mp (show(r4.all λr=>decide ((aW (top r.i)).ps.length=4))=true by rfl') r hr)));exact List.map_inj_left.mp (show(r4.map λr=>bindArgs (W.fnOf r.x r.x (cC (top r.i)) (aL (top r.i)) (aB (top r.i)) .none kV doc pm an cdv ct) ⟨[a,b,c,d],[]⟩)=r4.map λr=>pure ((aW (top r.i)).ps.zip [a,b,c,d]) by rfl') r hr
theorem bns:∀r∈ro,BnO r.x (top r.i):=λr h=>(List.mem_append.mp h).elim (λh=>(List.mem_append.mp h).elim (λh=>(List.mem_append.mp h).elim (λh=>(List.mem_append.mp h).elim (λh=>bn0 r h) (bn1 r)) (bn2 r)) (bn3 r)) (bn4 r)
theorem Li{K:Zf}{h:Heap}{mg:Str->Option Value}(X:K.In h)(G:h.Ns mainGlobals mg)(e1:(ro.map λr=>W.nsIn K mainGlobals r.x)=ro.map λr=>some (some (.ref r.f)))
  (e2:(ro.map λr=>K.lookup r.f)=ro.map λr=>some ⟨.type "function",none,.func (W.fnOf r.x r.x (cC (top r.i)) (aL (top r.i)) (aB (top r.i)) .none .none .none r.m none (.ref (r.f-1)) .none),#[]⟩)
  (e3:(ro.all λr=>W.codeIn K (.ref (r.f-1)) r.x&&W.keepIn K (.ref r.f)&&fsB (aW (top r.i)) && !(r.x==("__debug__":Str)))=true):∀p∈df,FunAt K mg p.1 p.2:=λp hp=>by
 obtain⟨r,hr,rfl⟩:=List.mem_map.mp hp;exact Rc X G r.f .none r.m (.ref (r.f-1)) (bns r hr) (List.map_inj_left.mp e1 r hr) (List.map_inj_left.mp e2 r hr) (A4z.mp e3 r hr)
theorem Nh{K:Zf}{h:Heap}{mg:Str->Option Value}(X:K.In h)(G:h.Ns mainGlobals mg)(e1:(bl.map λp=>W.nsIn K mainGlobals p.1)=bl.map λ_=>some none):∀p∈bl,mg p.1=none/\p.1=Str.ofString p.2:=λp hp =>
 bA X G (List.map_inj_left.mp e1 p hp) (List.map_inj_left.mp (show(bl.map λp=>p.1)=bl.map λp=>Str.ofString p.2 by rfl') p hp)
theorem walk{l:W.OpenLaw}{q:Program}{loose:List Str}{XP:(Str->Option Value)->Heap->Prop}{YP:World->Heap->Prop}{d:DefRec}{K:Params->Zf}(hn:l.most=some 63)(hdf:d.params.defaults=[])
  (hY:∀(w:World)(h:Heap),YP w h->(K w.params).In h)
  (F:∀(w:World)(mg:Str->Option Value)(fa:Addr)(h:Heap), (K w.params).In h->h.Ns mainGlobals mg->mg d.name=some (.ref fa) ->
   ∃fd:FuncData,(∀(s:Shared)(u:Value),BindsTo s fd ⟨[u],[]⟩ [("_law_script",u)])/\∀base:Heap,(K w.params).In base->base.Ns mainGlobals mg->FnOk l.prog w (K w.params) mg base CX0 40 fa fd ["_law_script"] (pC (K w.params))) :
  W.WalkO q loose XP YP l.row.toRowW d [] (λf vs=>PySem.call f vs) :=
 L2.Iv (n:=63) (k:=40) (x:="_law_script") (CX:=λ_=>CX0) (sp:=λw=>pC (K w.params)) hn (by decide) hdf ⟨rfl,by decide,by decide⟩ hY F (λ_ _ a ns hl _ hS=>⟨a,ns,rfl,hS,hl,λ_=>rfl⟩) λ_ _ _ _ _ z=>z
end M92
local macro_rules | `(tactic| walk_at "xs") => `(tactic| first | exact DE.XJ | exact DE.bLenL | exact DE.Te | rfl | assumption | omega)
local macro_rules | `(tactic| walk_at "xm") => `(tactic| first | exact DE.cg | (refine' DE.aF ?hA ?hB; (case hA=>walk_at "xv"); (case hB=>walk_at "xm")))
local macro_rules | `(tactic| walk_at "xi") => `(tactic| first
 |(refine' DE.V2 ?hA ?hB; (case hA=>rfl); (case hB=>walk_at "xv"))
 |(refine' DE.wSq ?hA ?hB ?hC; (case hA=>rfl); (case hB=>walk_at "xv"); (case hC=>rfl))
 |(refine' DE.Wz ?hA ?hB ?hC; (case hA=>rfl); (case hB=>walk_at "xv"); (case hC=>omega))
 |(refine' DE.wR2 ?hA ?hB ?hC ?hD; (case hA=>rfl); (case hB=>walk_at "xv"); (case hC=>walk_at "xv"); (case hD=>walk_at "xs"))
 |(refine' DE.Wx ?hA ?hB ?hC; (case hA=>rfl); (case hB=>walk_at "xv"); (case hC=>walk_at "xv"))
 |(refine' DE.Wy ?hA ?hB; (case hA=>rfl); (case hB=>walk_at "xv"))
 | (refine' DE.WD ?hA ?hB; (case hA=>rfl); (case hB=>walk_at "xv")))
local macro_rules | `(tactic| walk_at "xl") => `(tactic| (refine' DE.cW ?hA ?hB ?hC (DE.bh ?hD); (case hA=>rfl); (case hB=>walk_at "xi"); (case hC=>(exact DE.iw (by omega))); (case hD=>(intro i hi; refine' DE.dj ?hE ?hF; (case hE=>rfl); (case hF=>walk_at "xv")))))
local macro_rules | `(tactic| walk_at "xv") => `(tactic| first
 |exact DE.xName rfl
 |exact DE.Og rfl
 |(refine' DE.d9 ?hA ?hB ?hC; (case hA=>walk_at "xv"); (case hB=>walk_at "xv"); (case hC=>walk_at "xs"))
 |(refine' DE.jf ?hA ?hB ?hC; (case hA=>walk_at "xv"); (case hB=>walk_at "xv"); (case hC=>walk_at "xs"))
 |(refine' DE.Ww ?hA ?hB ?hC ?hD ?hE; (case hA=>walk_at "xv"); (case hB=>walk_at "xv"); (case hC=>omega); (case hD=>rfl); (case hE=>rfl))
 |(refine' DE.Nv ?hA ?hB ?hC ?hD ?hE; (case hA=>walk_at "xv"); (case hB=>walk_at "xv"); (case hC=>omega); (case hD=>rfl); (case hE=>rfl))
 |(refine' DE.xIxLl ?hA ?hB ?hC ?hD ?hE; (case hA=>walk_at "xv"); (case hB=>walk_at "xv"); (case hC=>omega); (case hD=>rfl); (case hE=>rfl))
 |(refine' DE.Od ?hA ?hB ?hC ?hD ?hE ?hF; (case hA=>rfl); (case hB=>rfl); (case hC=>rfl); (case hD=>walk_at "xv"); (case hE=>rfl); (case hF=>rfl))
 |(refine' DE.fj ?hA ?hB ?hC ?hD ?hE; (case hA=>rfl); (case hB=>rfl); (case hC=>rfl); (case hD=>walk_at "xm"); (case hE=>walk_at "xs"))
 |(refine' DE.aD ?hA ?hB ?hC; (case hA=>rfl); (case hB=>walk_at "xm"); (case hC=>walk_at "xc"))
 |(refine' DE.Wt ?hA ?hB ?hC; (case hA=>rfl); (case hB=>rfl); (case hC=>walk_at "xv"))
 |(refine' DE.Nt ?hA ?hB; (case hA=>walk_at "xm"); (case hB=>rfl))
 |(refine' DE.Wv ?hA ?hB; (case hA=>walk_at "xm"); (case hB=>rfl))
 |walk_at "xl"
 |(refine' DE.Oc ?hA; (case hA=>walk_at "xv"))
 | (refine' DE.Sg ?hA; (case hA=>walk_at "xv")))
local macro_rules|`(tactic|nofun)=>`(tactic|walk_at "xv")
namespace M92
open PySem DE
theorem M7{P:Pg}{F:Nat}{f:Str}{ds:List D}:aH P F 0 f ds=none:=by rw[jc,oW];rfl
def whole:D->Bool
 |.int _=>true
 |_=>false
theorem is_whole(k:Nat){d:D}(h:dep d<1000):aH T 60 (k+1) "is_whole" [d]=some (.bl (whole d)):=by
 cases d with
 |exc c=>exact absurd h (by simp[dep])
 |dic _ _=>exact absurd h (by simp[dep])
 |obj _=>exact absurd h (by simp[dep])
 |_=>rfl'
def within(l m:Int):D->Bool
 |.int i=>decide (l<=i)&&decide (i<=m)
 |_=>false
theorem Bh(k:Nat){d:D}{l m:Int}(h:dep d<1000):aH T 60 (k+2) "is_whole_within" [d,.int l,.int m]=some (.bl (within l m d)):=by
 cases hw:whole d with
 |false =>
  have e:within l m d=false:=by cases d<;>first|rfl|simp[whole] at hw
  rw[e];refine dh (fd:=aW (top 11)) rfl rfl (cV (gM (wD ?_)));refine' aD ?L92a_1a ?L92a_1b ?L92a_1c;(case L92a_1a=>rfl);(case L92a_1b=>walk_at "xm");(case L92a_1c=>exact hw▸is_whole k h)
 |true =>
  cases d<;>simp[whole] at hw
  rename_i i;refine dh (fd:=aW (top 11)) rfl rfl (cV (gM (wC ?_ (yu ?_))))
  .refine' aD ?L92a_2a ?L92a_2b ?L92a_2c;(case L92a_2a=>rfl);(case L92a_2b=>walk_at "xm");(case L92a_2c=>exact is_whole k (by simp[dep]))
  .by_cases h1:l<=i
   .have e:within l m (.int i)=decide (i<=m):=by simp[within,h1]
    rw[e];exact Oh (by nofun) (by nofun) (oLe h1) (by nofun) Wf
   .have e:within l m (.int i)=false:=by simp[within,h1]
    rw[e];exact Oi (by nofun) (by nofun) (Wd h1)
def bJ:D->Bool
 |.tup us=>decide (1<=us.length)&&decide (us.length<=4)
 |_=>false
theorem G8{us:List D}:blt "len" [.tup us]=some (.int (us.length:Int)):=rfl
theorem iV(k:Nat){d:D}(h:dep d<1000):aH T 60 (k+1) "is_short_tuple" [d]=some (.bl (bJ d)):=by
 cases ht:Ie "tuple" d with
 |false =>
  have e:bJ d=false:=by cases d<;>first|rfl|simp[Ie] at ht
  rw[e];exact dh (fd:=aW (top 12)) rfl rfl (cV (gM (wD (Od rfl rfl rfl (by nofun) ht (Xn h)))))
 |true =>
  cases d<;>simp[Ie] at ht
  rename_i us;refine dh (fd:=aW (top 12)) rfl rfl (cV (gM (wC (Od rfl rfl rfl (by nofun) rfl) (yu ?_))))
  by_cases h1:1<=us.length
  .have e:bJ (.tup us)=decide ((us.length:Int)<=4):=by
    simp only[bJ,h1,decide_true,W5z];exact decide_eq_decide.mpr (by omega)
   rw[e];refine Oh (by nofun) (y:=.int (us.length:Int)) ?_ (oLe (by omega)) (by nofun) Wf;refine' fj ?L92a_3a ?L92a_3b ?L92a_3c ?L92a_3d ?L92a_3e;(case L92a_3a=>rfl);(case L92a_3b=>rfl);(case L92a_3c=>rfl);(case L92a_3d=>walk_at "xm");(case L92a_3e=>exact G8)
  .have e:bJ (.tup us)=false:=by simp only[bJ];rw[B4z h1];rfl
   rw[e];refine Oi (by nofun) (y:=.int (us.length:Int)) ?_ (Wd (by omega));refine' fj ?L92a_4a ?L92a_4b ?L92a_4c ?L92a_4d ?L92a_4e;(case L92a_4a=>rfl);(case L92a_4b=>rfl);(case L92a_4c=>rfl);(case L92a_4d=>walk_at "xm");(case L92a_4e=>exact G8)
theorem at0{z:D}{zs:List D}:atD (z::zs) 0=some z:=CK (j:=0) rfl
def QX:D->Nat
 |.tup us=>us.length
 |_=>0
def lens(us:List D):Bool:=us.all λr=>QX r==QX (us.headD .non)
def dY:D->Bool
 |.tup us=>bJ (.tup us)&&us.all bJ&&lens us
 |_=>false
theorem dD{d:D}(h:bJ d=true):∃us,d=.tup us/\1<=us.length/\us.length<=4:=by
 cases d<;>simp[bJ] at h
 rename_i us;exact⟨us,rfl,by omega,by omega⟩
theorem lH{us:List D}(h:dep (.tup us)<1000):∀x∈us,dep x<1000:=λx hx=>by
 have:=BW hx;simp only[dep] at h;omega
theorem has_lines(k:Nat){d:D}(h:dep d<1000):aH T 60 (k+2) "has_lines" [d]=some (.bl (dY d)):=by
 cases hs:bJ d with
 |false =>
  have e:dY d=false:=by cases d<;>first|rfl|(simp only[dY,hs];rfl)
  rw[e];refine dh (fd:=aW (top 13)) rfl rfl (NT (fl1:=.ret (.bl false)) (gM (Wu (Ob ?_))) (cV (by nofun)) rfl);refine' aD ?L92a_5a ?L92a_5b ?L92a_5c;(case L92a_5a=>rfl);(case L92a_5b=>walk_at "xm");(case L92a_5c=>exact hs▸iV k h)
 |true =>
  obtain⟨us,rfl,g1,g4⟩:=dD hs;have hd:=lH h
  cases ha:us.all bJ with
  |false =>
   have e:dY (.tup us)=false:=by simp only[dY,ha,I5z,Y4z]
   rw[e];refine dh (fd:=aW (top 13)) rfl rfl (NT (fl1:=.ret (.bl false)) (gM (Nu (jh ?_) (yu (Ob ?_)))) (cV (by nofun)) rfl)
   .refine' aD ?L92a_6a ?L92a_6b ?L92a_6c;(case L92a_6a=>rfl);(case L92a_6b=>walk_at "xm");(case L92a_6c=>exact hs▸iV k h)
   .refine fj rfl rfl rfl (aF (cW (l:=us) rfl (wSq rfl (by nofun) rfl) (gZ (by omega)) (cH (g:=λx=>.bl (bJ x)) λx hx=>dj rfl ?_)) cg) (by rw[rB,ha])
    refine' aD ?L92a_7a ?L92a_7b ?L92a_7c;(case L92a_7a=>rfl);(case L92a_7b=>walk_at "xm");(case L92a_7c=>exact iV k (hd x hx))
  |true =>
   have e:dY (.tup us)=lens us:=by simp only[dY,ha,hs,W5z]
   rw[e];refine dh (fd:=aW (top 13)) rfl rfl (o8 (gM (Nu (jh ?_) (yu (jh ?_)))) (cV ?_))
   .refine' aD ?L92a_8a ?L92a_8b ?L92a_8c;(case L92a_8a=>rfl);(case L92a_8b=>walk_at "xm");(case L92a_8c=>exact hs▸iV k h)
   .refine fj rfl rfl rfl (aF (cW (l:=us) rfl (wSq rfl (by nofun) rfl) (gZ (by omega)) (cH (g:=λx=>.bl (bJ x)) λx hx=>dj rfl ?_)) cg) (by rw[rB,ha])
    refine' aD ?L92a_9a ?L92a_9b ?L92a_9c;(case L92a_9a=>rfl);(case L92a_9b=>walk_at "xm");(case L92a_9c=>exact iV k (hd x hx))
   .refine fj rfl rfl rfl (aF (cW (l:=us) rfl (wSq rfl (by nofun) rfl) (gZ (by omega)) (cH (g:=λx=>.bl (QX x==QX (us.headD .non))) λx hx=>dj rfl ?_)) cg) rB
    obtain⟨ys,rfl,y1,y4⟩:=dD (A4z.mp ha x hx)
    cases us with
    |nil=>simp at g1
    |cons z zs =>
     obtain⟨ws,rfl,w1,w4⟩:=dD (A4z.mp ha z (by simp));refine jf (x:=.int (ys.length:Int)) (y:=.int (ws.length:Int)) ?_ ?_ ?_
     .refine' fj ?L92a_10a ?L92a_10b ?L92a_10c ?L92a_10d ?L92a_10e;(case L92a_10a=>rfl);(case L92a_10b=>rfl);(case L92a_10c=>rfl);(case L92a_10d=>walk_at "xm");(case L92a_10e=>exact G8)
     .refine fj rfl rfl rfl (aF ?_ cg) G8
      exact xIx (by nofun) (by nofun) rfl at0
     .show some (D.bl ((ys.length:Int)==(ws.length:Int)))=_
      congr 2;show _=(ys.length==ws.length);rw[Bool.eq_iff_iff];simp only[W6z];omega
def dJ:D->List D
 |.tup us=>us
 |_=>[]
def nums:List D->List D
 |[]=>[]
 |r::rs=>dJ r++nums rs
theorem qb:∀(a:List D)(r:D),nums (a++[r])=nums a++dJ r
 |[],r=>by simp[nums]
 |x::a,r=>by simp[nums,qb a r]
theorem jT:∀{us:List D},us.all bJ=true->(nums us).length<=4*us.length
 |[],_=>by simp[nums]
 |r::us,h=>by
  rw[U5z,J3z] at h;obtain⟨ys,rfl,y1,y4⟩:=dD h.1;have:=jT h.2;simp only[nums,dJ,B2z,E3z];omega
theorem numbers_of(k:Nat){us:List D}(h4:us.length<=4)(ha:us.all bJ=true):aH T 60 (k+1) "numbers_of" [.tup us]=some (.lst (nums us)):=by
 have hl:=jT ha
 have key:∀(s:Sl),(s=.no\/∃d,s=.sh d)->blk (cxN T 60 k) 60 60 (aW (top 14)).sc ((aW (top 14)).body.drop 2) [("table",.sh (.tup us)),("told",.ow (nums us)),("row",s)]=some (.ret (.lst (nums us))):=by
  intro s hs;rcases hs with rfl|⟨d,rfl⟩
  .exact cV (by nofun)
  .exact cV (by nofun)
 refine dh (fd:=aW (top 14)) rfl rfl (oh rfl (d:=.lst []) (by nofun) (NZ (l:=us) (fl1:=.nxt [("table",.sh (.tup us)),("told",.ow (nums us)),("row",K4 us)]) (wSq rfl (by nofun) rfl) ?_ (key _ ?_)))
 .refine qz (R:=λpre=>[("table",.sh (.tup us)),("told",.ow (nums pre)),("row",K4 pre)]) (whole:=us) (λpre x post e=>?_) (pre:=[]) rfl
  have hx:bJ x=true:=A4z.mp ha x (by rw[<- e];simp)
  have hp:pre.all bJ=true:=by rw[<- e,List.all_append,J3z] at ha;exact ha.1
  have hl2:=jT hp
  have hl3:pre.length<=us.length:=by rw[<- e];simp
  obtain⟨ys,rfl,y1,y4⟩:=dD hx;rw[qb,xK,show dJ (.tup ys)=ys from rfl];exact xP rfl (Vq rfl rfl rfl rfl (gZ (by omega)) (by nofun) lD)
 .cases us with
  |nil=>exact .inl rfl
  |cons x r=>exact .inr ⟨_,rfl⟩
def gU(d:D):Bool:=dY d&&(nums (dJ d)).all whole
theorem kW{d:D}(h:dY d=true):∃us,d=.tup us/\1<=us.length/\us.length<=4/\us.all bJ=true/\lens us=true:=by
 cases d<;>simp only[dY,J3z] at h<;>try (cases h;done)
 rename_i us;obtain⟨us',e,h1,h4⟩:=dD h.1.1;cases e;exact⟨us,rfl,h1,h4,h.1.2,h.2⟩
theorem nR{x:D}:∀{us:List D},x∈nums us->∃r∈us,x∈dJ r
 |r::us,h=>by
  simp only[nums,List.mem_append] at h;rcases h with h|h
  .exact⟨r,by simp,h⟩
  .obtain⟨r',h1,h2⟩:=nR h
   exact⟨r',E1z _ h1,h2⟩
theorem Fb{us:List D}(h:dep (.tup us)<1000):∀x∈nums us,dep x<1000:=λx hx=>by
 obtain⟨r,h1,h2⟩:=nR hx;have h3:=lH h r h1
 cases r<;>simp only[dJ] at h2<;>try (cases h2;done)
 exact lH h3 x h2
theorem n8(k:Nat){d:D}(h:dep d<1000):aH T 60 (k+3) "has_table_form" [d]=some (.bl (gU d)):=by
 cases hl:dY d with
 |false =>
  have e:gU d=false:=by simp only[gU,hl,Y4z]
  rw[e];refine dh (fd:=aW (top 15)) rfl rfl (cV (gM (wD ?_)));refine' aD ?L92a_11a ?L92a_11b ?L92a_11c;(case L92a_11a=>rfl);(case L92a_11b=>walk_at "xm");(case L92a_11c=>exact hl▸has_lines k h)
 |true =>
  obtain⟨us,rfl,g1,g4,ga,_⟩:=kW hl
  have e:gU (.tup us)=(nums us).all whole:=by simp only[gU,hl,W5z,dJ]
  have hn:=jT ga;have hd:=Fb h;rw[e];refine dh (fd:=aW (top 15)) rfl rfl (cV (gM (wC ?_ (yu ?_))))
  .refine' aD ?L92a_12a ?L92a_12b ?L92a_12c;(case L92a_12a=>rfl);(case L92a_12b=>walk_at "xm");(case L92a_12c=>exact hl▸has_lines k h)
  .refine fj rfl rfl rfl (aF (cW (l:=nums us) rfl (wSq rfl (aD rfl (by walk_at "xm") (numbers_of (k+1) g4 ga)) rfl) (gZ (by omega)) (cH (g:=λx=>.bl (whole x)) λx hx=>dj rfl ?_)) cg) rB
   refine' aD ?L92a_13a ?L92a_13b ?L92a_13c;(case L92a_13a=>rfl);(case L92a_13b=>walk_at "xm");(case L92a_13c=>exact is_whole (k+1) (hd x hx))
theorem Aj(k:Nat){d:D}(h:dep d<1000)(hf:gU d=true):aH T 60 (k+4) "need_table" [d]=some .non:=by
 refine Dn (fd:=aW (top 17)) rfl rfl (o8 (jh ?_) lD);refine' aD ?L92a_14a ?L92a_14b ?L92a_14c;(case L92a_14a=>rfl);(case L92a_14b=>walk_at "xm");(case L92a_14c=>exact hf▸n8 k h)
theorem jQ{m:Nat}{h:Nat->D}:bJ (.tup (Ls m h))=(decide (1<=m)&&decide (m<=4)):=by simp only[bJ,bx]
theorem kNil{l:List D}:gw (.lst l) (.lst [])=true:=by cases l<;>simp[gw,lM]
theorem Vf{l:List D}:gw (.tup l) (.tup [])=true:=by cases l<;>simp[gw,lM]
theorem fM(hx:x∈Ls m h):∃i,i<m/\x=h i:=by
 obtain⟨i,hi,rfl⟩:=List.mem_map.mp hx;exact⟨i,List.mem_range.mp hi,rfl⟩
theorem La{m:Nat}{h:Nat->D}(hm:1<=m):(Ls m h).headD .non=h 0:=by
 obtain⟨m',rfl⟩:∃m',m=m'+1:=⟨m-1,by omega⟩;unfold Ls;rw[S0z];rfl
theorem vG{m n:Nat}{f:Nat->Nat->Int}(h1:1<=m)(h2:1<=n):gU (tbl m n f)=(decide (m<5)&&decide (n<5)):=by
 by_cases hm:m<=4
 .by_cases hn:n<=4
  .have e1:dY (tbl m n f)=true:=by
    show(bJ (tbl m n f)&&(Ls m λi=>row n (f i)).all bJ&&lens (Ls m λi=>row n (f i)))=true;rw[jQ,A5z h1,A5z hm]
    have a1:(Ls m λi=>row n (f i)).all bJ=true:=by
     rw[A4z];intro x hx;obtain⟨i,_,rfl⟩:=fM hx;rw[jQ,A5z h2,A5z hn];rfl
    have a2:lens (Ls m λi=>row n (f i))=true:=by
     unfold lens;rw[A4z,La h1];intro x hx;obtain⟨i,_,rfl⟩:=fM hx;simp[QX,bx]
    rw[a1,a2];rfl
   have e2:(nums (dJ (tbl m n f))).all whole=true:=by
    rw[A4z];intro x hx;obtain⟨r,hr,hx⟩:=nR hx;obtain⟨i,_,rfl⟩:=fM (show r∈Ls m λi=>row n (f i) from hr);obtain⟨j,_,rfl⟩:=fM (show x∈Ls n λj=>D.int (f i j) from hx);rfl
   unfold gU;rw[e1,e2,A5z (show m<5 by omega),A5z (show n<5 by omega)]
  .have e1:dY (tbl m n f)=false:=by
    show(bJ (tbl m n f)&&(Ls m λi=>row n (f i)).all bJ&&lens (Ls m λi=>row n (f i)))=false
    have a1:(Ls m λi=>row n (f i)).all bJ=false:=by
     rw[List.all_eq_false];refine⟨row n (f 0),?_,?_⟩
     .unfold Ls;exact List.mem_map.mpr ⟨0,List.mem_range.mpr (by omega),rfl⟩
     .rw[jQ,B4z hn];simp
    rw[a1,I5z,Y4z]
   unfold gU;rw[e1,B4z (show ¬ n<5 by omega),I5z,Y4z]
 .have e1:dY (tbl m n f)=false:=by
   show(bJ (tbl m n f)&&(Ls m λi=>row n (f i)).all bJ&&lens (Ls m λi=>row n (f i)))=false;rw[jQ,B4z hm,I5z,Y4z,Y4z]
  unfold gU;rw[e1,B4z (show ¬ m<5 by omega),Y4z,Y4z]
theorem Ln{m n:Nat}{f:Nat->Nat->Int}(h1:1<=m)(h2:m<=4)(h3:1<=n)(h4:n<=4):gU (tbl m n f)=true:=by rw[vG h1 h3,A5z (by omega),A5z (by omega)];rfl
theorem need_table(k:Nat){m n:Nat}{f:Nat->Nat->Int}(h1:1<=m)(h2:m<=4)(h3:1<=n)(h4:n<=4):aH T 60 (k+4) "need_table" [tbl m n f]=some .non :=
 Aj k (C2z oM (by decide)) (Ln h1 h2 h3 h4)
theorem column_of(k:Nat)(hj:j<n)(h2:m<=4):aH T 60 (k+1) "column_of" [tbl m n f,.int j]=some (row m λi=>f i j):=by
 refine dh rfl rfl (cV ?_);refine' fj ?L83a_2a ?L83a_2b ?L83a_2c ?L83a_2d ?L83a_2e;(case L83a_2a=>rfl);(case L83a_2b=>rfl);(case L83a_2c=>rfl);(case L83a_2d=>walk_at "xm");(case L83a_2e=>exact wu)
theorem columns_of(k:Nat)(h1:1<=m)(h2:m<=4)(h4:n<=4):aH T 60 (k+2) "columns_of" [tbl m n f]=some (tbl n m λi j=>f j i):=by
 refine dh rfl rfl (cV ?_);refine fj rfl rfl rfl (aF ?_ cg) wu;refine' cW ?L83a_3a ?L83a_3b ?L83a_3c (bh ?L83a_3d);(case L83a_3a=>rfl);(case L83a_3b=>walk_at "xi");(case L83a_3c=>exact iw (by omega))
 case L83a_3d =>
  intro i hi;refine' dj ?L83a_3e ?L83a_3f;(case L83a_3e=>rfl)
  case L83a_3f =>
   refine' aD ?L83a_4a ?L83a_4b ?L83a_4c;(case L83a_4a=>rfl);(case L83a_4b=>walk_at "xm");(case L83a_4c=>exact column_of _ hi h2)
theorem picked(k:Nat){n q:Nat}{f:Nat->Int}{c:Nat->Nat}(h4:q<=4)(hc:∀j,j<q->c j<n):aH T 60 (k+1) "picked" [row n f,plc q c]=some (row q λj=>f (c j)):=by
 refine dh (fd:=aW (top 29)) rfl rfl (cV (fj rfl rfl rfl (aF ?_ cg) wu));refine' cW ?L92a_18a ?L92a_18b ?L92a_18c (bh ?L92a_18d);(case L92a_18a=>rfl);(case L92a_18b=>walk_at "xi");(case L92a_18c=>exact iw (by omega))
 case L92a_18d =>
  intro j hj;refine' dj ?L92a_18e ?L92a_18f;(case L92a_18e=>rfl)
  case L92a_18f =>
   refine' Nv ?L92a_19a ?L92a_19b ?L92a_19c ?L92a_19d ?L92a_19e;(case L92a_19a=>nofun);(case L92a_19b=>nofun);(case L92a_19c=>exact hc j hj);(case L92a_19d=>rfl);(case L92a_19e=>rfl)
theorem part_at(k:Nat){m n q p:Nat}{f:Nat->Nat->Int}{r c:Nat->Nat}(g2:q<=4)(g4:p<=4)
  (hr:∀j,j<q->r j<m) (hc:∀j,j<p->c j<n):aH T 60 (k+2) "part_at" [tbl m n f,plc q r,plc p c]=some (tbl q p λi j=>f (r i) (c j)):=by
 refine dh (fd:=aW (top 30)) rfl rfl (cV (fj rfl rfl rfl (aF ?_ cg) wu))
 .refine' cW ?L92a_20a ?L92a_20b ?L92a_20c (bh ?L92a_20d);(case L92a_20a=>rfl);(case L92a_20b=>walk_at "xi");(case L92a_20c=>exact iw (by omega))
  case L92a_20d =>
   intro i hi;refine' dj ?L92a_20e ?L92a_20f;(case L92a_20e=>rfl)
   case L92a_20f =>
    refine' aD ?a1 (aF ?a2 (aF ?a3 cg)) (picked _ g4 hc);(case a1=>rfl)
    .refine' Nv ?L92a_21a ?L92a_21b ?L92a_21c ?L92a_21d ?L92a_21e;(case L92a_21a=>nofun);(case L92a_21b=>nofun);(case L92a_21c=>exact hr i hi);(case L92a_21d=>rfl);(case L92a_21e=>rfl)
    .nofun
def Sm(m n:Nat)(f:Nat->Nat->Int):Prop:=∀i j,i<m->j<n->small (f i j)=true
noncomputable def G3(ns:List Int)(k:Nat):Int:=if k<ns.length then ns.getD k 0 else if ns=[] then 0 else ns.getD (k%ns.length) 0*31+k
def gj(ns:List Int)(k:Nat):Int:=(G3 ns k+6151*((k:Int)+1))*40692%2147483399
def pickN(ns:List Int)(k many:Nat):Nat:=((gj ns k*gj ns k+gj ns k / 31)%2147483629%(many:Int)).toNat
theorem nP(h:0<many):pickN ns k many<many:=by
 unfold pickN;have h2:=Int.emod_lt_of_pos ((gj ns k*gj ns k+gj ns k / 31)%2147483629) (show(0:Int)<many by omega);omega
abbrev scr(ns:List Int):D:=.lst (ns.map D.int)
theorem nJ:blt "len" [scr ns]=some (.int (ns.length:Int)):=by
 show some (D.int ((ns.map D.int).length:Int))=_;rw[F4z]
theorem Ht{ns:List Int}(h:k<ns.length):atD (ns.map D.int) (k:Int)=some (.int (ns.getD k 0)):=by
 refine CK ?_;rw[List.getElem?_map,List.getElem?_eq_getElem h,List.getD_eq_getElem?_getD,List.getElem?_eq_getElem h];rfl
theorem Js:dep (scr ns)<=50:=by
 simp[dep]
 have:=iB (b:=0) (l:=ns.map D.int) λd hd=>by
  obtain⟨i,_,rfl⟩:=List.mem_map.mp hd;simp[dep]
 omega
theorem cell(k:Nat)(ns:List Int)(kk:Nat):aH T 60 (k+1) "_law_cell" [scr ns,.int kk]=some (.int (G3 ns kk)):=by
 unfold G3
 by_cases h:kk<ns.length
 .rw[G7z h]
  refine dh rfl rfl (NT (jf (by nofun) (fj rfl rfl rfl (by walk_at "xm") nJ) (oLt (by omega))) (cV ?_) rfl);exact xIx (by nofun) (by nofun) rfl (Ht h)
 .rw[H7z h]
  by_cases e:ns=[]
  .subst e
   refine dh rfl rfl (o8 (jf (by nofun) (fj rfl rfl rfl (by walk_at "xm") (nJ)) (Wb (by simp))) (NT (jf (by nofun) (by nofun) rfl) (cV (by nofun)) rfl))
  .rw[H7z e]
   have hl:=List.length_pos_iff.mpr e;refine dh rfl rfl (o8 (jf (by nofun) (fj rfl rfl rfl (by walk_at "xm") nJ) (Wb (by omega))) (o8 (jf (by nofun) (by nofun) ?_) (cV ?_)))
   .rw[oEq Js (by simp[dep,deps]) (show gw (scr ns) (.lst [])=true from dF λ_ _ _ h=>nomatch h)]
    cases ns with
    |nil=>exact absurd rfl e
    |cons a r=>rfl
   .refine d9 (d9 (xIx (by nofun) ?_ rfl (Ht (Nat.mod_lt _ hl))) (by nofun) (Dk (.inr rfl))) (by nofun) rfl
    refine d9 (by nofun) (fj rfl rfl rfl (by walk_at "xm") nJ) ?_;rw[Io (by omega)];rfl
theorem pick(k:Nat)(ns:List Int)(kk:Nat){many:Nat}(h:0<many):aH T 60 (k+2) "_law_pick" [scr ns,.int kk,.int many]=some (.int ((pickN ns kk many:Nat):Int)):=by
 have e:((pickN ns kk many:Nat):Int)=(gj ns kk*gj ns kk+gj ns kk / 31)%2147483629%(many:Int):=by
  exact Int.toNat_of_nonneg (Int.emod_nonneg _ (by omega))
 rw[e];refine dh rfl rfl (oh rfl (d:=.int (gj ns kk)) ?_ (cV ?_))
 .refine d9 (d9 (d9 (x:=.int (G3 ns kk)) (y:=.int (6151*((kk:Int)+1))) ?_ ?_ rfl) (by nofun) (Dk (.inr rfl))) (by nofun) (Io (by decide))
  .refine' aD ?L83a_5a ?L83a_5b ?L83a_5c;(case L83a_5a=>rfl);(case L83a_5b=>walk_at "xm");(case L83a_5c=>exact cell _ ns kk)
  .exact d9 (by nofun) (d9 (by nofun) (by nofun) rfl) (Dk (.inl rfl))
 .refine d9 (d9 (d9 (d9 (by nofun) (by nofun) (Dk (.inl ?_))) (d9 (by nofun) (by nofun) (XM (by decide) (by decide))) rfl) (by nofun) (Io (by decide))) (by nofun) (Io (by omega))
  unfold small;unfold gj;rw[A5z (by omega),A5z (by omega)];rfl
theorem Df(h:ev cx n sc ρ e=some d)(q:d=d'):ev cx n sc ρ e=some d':=q▸h
def Ft:Nat->Nat
 |0=>0
 |1=>0
 |2=>1
 |_=>4
theorem K1(p:Nat):Ft p<=4:=by unfold Ft;split<;>omega
def rK(ns:List Int)(at':Nat):Nat->Nat->Int:=λi j=>((pickN ns (at'+1+8*i+j) (6+Ft (pickN ns at' 4)):Nat):Int)-((Ft (pickN ns at' 4):Nat):Int)
def V6:Nat->Sl
 |0=>.no
 |i+1=>.sh (.int i)
def V7(ns:List Int)(a m n low:Nat)(md:List D)(rw:Sl):Rho:=[("_law_script",.sh (scr ns)),("_law_at",.sh (.int a)),("_law_rows",.sh (.int m)),("_law_columns",.sh (.int n)),("_law_low",.sh (.int low)),("_law_made",.ow md),("_law_row",rw)]
theorem table(k:Nat)(ns:List Int)(a:Nat){m n:Nat}(hm:m<=4)(hn:n<=4):aH T 60 (k+3) "_law_table" [scr ns,.int a,.int m,.int n]=some (tbl m n (rK ns a)):=by
 have hp:=nP (ns:=ns) (k:=a) (many:=4) (by omega);refine dh rfl rfl (oh rfl (d:=.int ((Ft (pickN ns a 4):Nat):Int)) ?_ (oh rfl (by nofun) (NZ (l:=Ls m λi=>.int i) (fl1:=.nxt (V7 ns a m n (Ft (pickN ns a 4)) (Ls m λi=>row n (rK ns a i)) (V6 m))) ?_ ?_ (cV (fj rfl rfl rfl (by walk_at "xm") wu)))))
 .refine xIx (i:=((pickN ns a 4:Nat):Int)) (by nofun) ?_ rfl ?_
  .refine aD rfl (by walk_at "xm") (pick (k+0) ns a (by omega))
  .generalize pickN ns a 4=p at hp
   match p,hp with
   |0,_=>rfl
   |1,_=>rfl
   |2,_=>rfl
   |3,_=>rfl
 .walk_at "xi"
 .refine oE (R:=λi=>V7 ns a m n (Ft (pickN ns a 4)) (Ls i λi=>row n (rK ns a i)) (V6 i)) λi hi=>?_
  refine xP rfl ?_;rw[Dd];refine Wo rfl rfl rfl (gZ (by rw[bx];omega)) ?_ rfl;refine fj rfl rfl rfl (aF ?_ cg) wu;refine' cW ?L83a_6a ?L83a_6b ?L83a_6c (bh ?L83a_6d);(case L83a_6a=>rfl);(case L83a_6b=>walk_at "xi");(case L83a_6c=>exact iw (by omega))
  case L83a_6d =>
   intro j hj;refine' dj ?L83a_6e ?L83a_6f;(case L83a_6e=>rfl)
   case L83a_6f =>
    refine d9 (aD rfl (aF ?_ (aF ?_ (aF ?_ cg))) (pick (k+0) ns (a+1+8*i+j) (many:=6+Ft (pickN ns a 4)) (by omega))) (by nofun) rfl
    .nofun
    .refine Df (d9 (d9 (d9 (by nofun) (by nofun) rfl) (d9 (by nofun) (by nofun) (Dk (.inl rfl))) rfl) (by nofun) rfl) (congrArg D.int (by omega))
    .refine Df (d9 (by nofun) (by nofun) rfl) (congrArg D.int (by omega))
theorem turned(k:Nat)(h1:1<=m)(h2:m<=4)(h3:1<=n)(h4:n<=4):aH T 60 (k+5) "turned" [tbl m n f]=some (tbl n m λi j=>f j i):=by
 refine dh rfl rfl (vC rfl (d:=.non) ?_ (cV ?_))
 .refine' aD ?L83a_7a ?L83a_7b ?L83a_7c;(case L83a_7a=>rfl);(case L83a_7b=>walk_at "xm");(case L83a_7c=>exact need_table k h1 h2 h3 h4)
 .refine' aD ?L83a_8a ?L83a_8b ?L83a_8c;(case L83a_8a=>rfl);(case L83a_8b=>walk_at "xm");(case L83a_8c=>exact columns_of (k+2) h1 h2 h4)
theorem flipped(k:Nat)(h1:1<=m)(h2:m<=4)(h3:1<=n)(h4:n<=4):aH T 60 (k+5) "flipped" [tbl m n f]=some (tbl m n λi j=>f (m-1-i) (n-1-j)):=by
 refine dh rfl rfl (vC rfl (d:=.non) ?_ (cV ?_))
 .refine' aD ?L83a_9a ?L83a_9b ?L83a_9c;(case L83a_9a=>rfl);(case L83a_9b=>walk_at "xm");(case L83a_9c=>exact need_table k h1 h2 h3 h4)
 .refine' fj ?L83a_10a ?L83a_10b ?L83a_10c ?L83a_10d ?L83a_10e;(case L83a_10a=>rfl);(case L83a_10b=>rfl);(case L83a_10c=>rfl);(case L83a_10d=>walk_at "xm");(case L83a_10e=>exact wu)
theorem row_by_column(k:Nat)(h4:n<=4)(hs:∀j,j<n->small (f j)=true\/small (g j)=true):aH T 60 (k+1) "row_by_column" [row n f,row n g]=some (.int (fJ n λj=>f j*g j)):=by
 refine dh rfl rfl (cV (fj rfl rfl rfl (aF ?_ cg) Te));refine' cW ?L83a_11a ?L83a_11b ?L83a_11c (bh ?L83a_11d);(case L83a_11a=>rfl);(case L83a_11b=>walk_at "xi");(case L83a_11c=>exact iw (by omega))
 case L83a_11d =>
  intro j hj;refine' dj ?L83a_11e ?L83a_11f;(case L83a_11e=>rfl)
  case L83a_11f =>
   refine' d9 ?a1 ?a2 (Dk (hs j hj));(case a1=>nofun);(case a2=>nofun)
theorem row_by_columns(k:Nat)(h4:n<=4)(h5:p<=4)(hs:∀i j,i<p->j<n->small (f j)=true\/small (g i j)=true):aH T 60 (k+2) "row_by_columns" [row n f,tbl p n g]=some (row p λi=>fJ n λj=>f j*g i j):=by
 refine dh rfl rfl (cV (fj rfl rfl rfl (aF ?_ cg) wu));refine' cW ?L83a_12a ?L83a_12b ?L83a_12c (bh ?L83a_12d);(case L83a_12a=>rfl);(case L83a_12b=>walk_at "xi");(case L83a_12c=>exact iw (by omega))
 case L83a_12d =>
  intro i hi;refine' dj ?L83a_12e ?L83a_12f;(case L83a_12e=>rfl)
  case L83a_12f =>
   refine' aD ?L83a_13a ?L83a_13b ?L83a_13c;(case L83a_13a=>rfl);(case L83a_13b=>walk_at "xm");(case L83a_13c=>exact row_by_column k h4 (hs i · hi ·))
def mul(n:Nat)(f g:Nat->Nat->Int):Nat->Nat->Int:=λi j=>fJ n λl=>f i l*g l j
theorem times(k:Nat)(h1:1<=m)(h2:m<=4)(h3:1<=n)(h4:n<=4)(h5:1<=p)(h6:p<=4)(hs:Sm m n f\/Sm n p g):aH T 60 (k+6) "times" [tbl m n f,tbl n p g]=some (tbl m p (mul n f g)):=by
 refine dh rfl rfl (vC rfl (d:=.non) ?_ (vC rfl (d:=.non) ?_ (o8 (jf (x:=.int n) ?_ ?_ (Ku rfl)) (oh rfl (d:=tbl p n λi j=>g j i) ?_ (cV (fj rfl rfl rfl (aF ?_ cg) wu))))))
 .refine' aD ?L83a_14a ?L83a_14b ?L83a_14c;(case L83a_14a=>rfl);(case L83a_14b=>walk_at "xm");(case L83a_14c=>exact need_table (k+1) h1 h2 h3 h4)
 .refine' aD ?L83a_15a ?L83a_15b ?L83a_15c;(case L83a_15a=>rfl);(case L83a_15b=>walk_at "xm");(case L83a_15c=>exact need_table (k+1) h3 h4 h5 h6)
 .nofun
 .nofun
 .refine' aD ?L83a_16a ?L83a_16b ?L83a_16c;(case L83a_16a=>rfl);(case L83a_16b=>walk_at "xm");(case L83a_16c=>exact columns_of (k+3) h3 h4 h6)
 .refine' cW ?L83a_17a ?L83a_17b ?L83a_17c (bh ?L83a_17d);(case L83a_17a=>rfl);(case L83a_17b=>walk_at "xi");(case L83a_17c=>exact iw (by omega))
  case L83a_17d =>
   intro i hi;refine' dj ?L83a_17e ?L83a_17f;(case L83a_17e=>rfl)
   case L83a_17f =>
    refine' aD ?a1 (aF ?a2 (aF ?a3 cg)) (row_by_columns (k+3) h4 h6 ?a4);(case a1=>rfl)
    case a2=>nofun
    case a3=>nofun
    case a4=>exact λa b ha hb=>hs.imp (λq=>q i b hi hb) (λq=>q b a hb ha)
theorem row_plus(k:Nat)(h4:n<=4):aH T 60 (k+1) "row_plus" [row n f,row n g]=some (row n λj=>f j+g j):=by
 refine dh rfl rfl (cV ?_);refine' fj ?L83a_18a ?L83a_18b ?L83a_18c ?L83a_18d ?L83a_18e;(case L83a_18a=>rfl);(case L83a_18b=>rfl);(case L83a_18c=>rfl);(case L83a_18d=>walk_at "xm");(case L83a_18e=>exact wu)
theorem zG(k:Nat)(h1:1<=m):aH T 60 (k+1) "need_same_size" [tbl m n f,tbl m n g]=some .non:=by
 refine Dn rfl rfl (o8 (gM (Nu (jf (x:=.int m) ?_ ?_ (Ku rfl)) (yu (jf (x:=.int n) ?_ ?_ (Ku rfl))))) lD)
 .nofun
 .nofun
 .nofun
 .nofun
theorem plus(k:Nat)(h1:1<=m)(h2:m<=4)(h3:1<=n)(h4:n<=4):aH T 60 (k+5) "plus" [tbl m n f,tbl m n g]=some (tbl m n λi j=>f i j+g i j):=by
 refine dh rfl rfl (vC rfl (d:=.non) ?_ (vC rfl (d:=.non) ?_ (vC rfl (d:=.non) ?_ (cV (fj rfl rfl rfl (aF ?_ cg) wu)))))
 .refine' aD ?L83a_19a ?L83a_19b ?L83a_19c;(case L83a_19a=>rfl);(case L83a_19b=>walk_at "xm");(case L83a_19c=>exact need_table k h1 h2 h3 h4)
 .refine' aD ?L83a_20a ?L83a_20b ?L83a_20c;(case L83a_20a=>rfl);(case L83a_20b=>walk_at "xm");(case L83a_20c=>exact need_table k h1 h2 h3 h4)
 .refine' aD ?L83a_21a ?L83a_21b ?L83a_21c;(case L83a_21a=>rfl);(case L83a_21b=>walk_at "xm");(case L83a_21c=>exact zG (k+3) h1)
 .refine' cW ?L83a_22a ?L83a_22b ?L83a_22c (bh ?L83a_22d);(case L83a_22a=>rfl);(case L83a_22b=>walk_at "xi");(case L83a_22c=>exact iw (by omega))
  case L83a_22d =>
   intro i hi;refine' dj ?L83a_22e ?L83a_22f;(case L83a_22e=>rfl)
   case L83a_22f =>
    refine' aD ?L83a_23a ?L83a_23b ?L83a_23c;(case L83a_23a=>rfl);(case L83a_23b=>walk_at "xm");(case L83a_23c=>exact row_plus (k+3) h4)
def dl(i j:Nat):Int:=if j=i then 1 else 0
def skip(j b:Nat):Nat:=if b<j then b else b+1
def sg(b:Nat)(w:Int):Int:=if b%2=1 then -w else w
def sub(f:Nat->Nat->Int)(r c:Nat):Nat->Nat->Int:=λa b=>f (skip r a) (skip c b)
def det:Nat->(Nat->Nat->Int)->Int
 |0,_=>1
 |n+1,f=>fJ (n+1) λj=>f 0 j*sg (0+j) (det n (sub f 0 j))
def cof(n:Nat)(f:Nat->Nat->Int)(r c:Nat):Int:=sg (r+c) (det (n-1) (sub f r c))
theorem RQ{m r:Nat}{h:Nat->D}(hr:r<m):Ls r h++Ls (m-(r+1)) (λi=>h (r+1+i))=Ls (m-1) λi=>h (skip r i):=by
 apply List.ext_getElem?;intro i
 by_cases h1:i<r
 .rw[List.getElem?_append_left (by rw[bx];exact h1),dH h1,dH (by omega)]
  simp[skip,h1]
 .rw[List.getElem?_append_right (by rw[bx];omega),bx]
  by_cases h2:i<m-1
  .rw[dH (by omega),dH h2]
   simp only[skip,h1,C7z];rw[show r+1+(i-r)=i+1 by omega]
  .rw[List.getElem?_eq_none (by rw[bx];omega),List.getElem?_eq_none (by rw[bx];omega)]
section
variable{cx:Cxt}{n:Nat}{sc:Scope}{ρ:Rho}{a b a2 b2:Expr}{p p2 q q2:Pos}{op:Pos}
theorem Oa{m j:Nat}{h:Nat->D}(h1:ev cx n sc ρ a=some (.tup (Ls m h)))(h2:ev cx n sc ρ b=some (.int j))(hj:j<m):ev cx (n+1) sc ρ (.Subscript a (.Slice none (some b) none q) p)=some (.tup (Ls j h)):=by
 rw[xSl h1 EY (Ez h2),RB (by omega)]
 have:(jL (Ls m h).length (Ls m h).length (some (j:Int))==(Ls m h).length)=false:=by
  unfold jL;rw[bx];simp only;rw[H7z (by omega)];exact Q1z.mpr (by omega)
 rw[this,I5z]
theorem Ti{m r:Nat}{h:Nat->D}(h1:ev cx n sc ρ a=some (.tup (Ls m h)))(h2:ev cx n sc ρ b=some (.int r))(h3:ev cx n sc ρ a2=some (.tup (Ls m h)))(h4:ev cx n sc ρ b2=some (.int ((r:Int)+1)))(hr:r<m)(hm:m<=100000) :
  ev cx (n+2) sc ρ (.BinOp (.Subscript a (.Slice none (some b) none q) p) .Add (.Subscript a2 (.Slice (some b2) none none q2) p2) op)=some (.tup (Ls (m-1) λi=>h (skip r i))):=by
 refine d9 (Oa h1 h2 hr) (Tg (j:=r+1) h3 (by rw[h4];rfl) (by omega) (by omega) (by omega)) ?_
 rw[<- RQ hr];show(if szl ((Ls r h).length+(Ls (m-(r+1)) _).length)=true then _ else _)=_;rw[G7z (by rw[bx,bx];exact gZ (by omega))]
end
theorem without(k:Nat){m n r c:Nat}{f:Nat->Nat->Int}(hr:r<m)(hc:c<n)(h2:m<=4)(h4:n<=4):aH T 60 (k+1) "without" [tbl m n f,.int r,.int c]=some (tbl (m-1) (n-1) (sub f r c)):=by
 refine dh (fd:=aW (top 58)) rfl rfl (oh rfl (d:=.tup (Ls (m-1) λi=>row n (f (skip r i)))) ?_ (cV (fj rfl rfl rfl (aF ?_ cg) wu)))
 .refine Ti (h:=λi=>row n (f i)) ?_ ?_ ?_ ?_ hr (by omega)
  .nofun
  .nofun
  .nofun
  .exact d9 (by nofun) (by nofun) rfl
 .refine' cW ?L92a_42a ?L92a_42b ?L92a_42c (bh ?L92a_42d);(case L92a_42a=>rfl);(case L92a_42b=>walk_at "xi");(case L92a_42c=>exact iw (by omega))
  case L92a_42d =>
   intro i hi;refine' dj ?L92a_42e ?L92a_42f;(case L92a_42e=>rfl)
   case L92a_42f =>
    refine Ti (h:=λj=>.int (f (skip r i) j)) ?_ ?_ ?_ ?_ hc (by omega)
    .nofun
    .nofun
    .nofun
    .exact d9 (by nofun) (by nofun) rfl
theorem wF(k:Nat){n:Nat}{f:Nat->Nat->Int}(h4:n+1<=4)(hs:Sm (n+1) (n+1) f)(ih:∀r c,r<n+1->c<n+1->aH T 60 k "worth_of" [tbl n n (sub f r c)]=some (.int (det n (sub f r c)))) :
  (∀r c,r<n+1->c<n+1->aH T 60 (k+2) "signed_rest" [tbl (n+1) (n+1) f,.int r,.int c]=some (.int (cof (n+1) f r c)))/\aH T 60 (k+4) "worth_of" [tbl (n+1) (n+1) f]=some (.int (det (n+1) f)):=by
 have rest:∀r c,r<n+1->c<n+1->aH T 60 (k+1) "rest_worth" [tbl (n+1) (n+1) f,.int r,.int c]=some (.int (det n (sub f r c))):=by
  intro r c hr hc;refine dh (fd:=aW (top 60)) rfl rfl (cV ?_);refine aD rfl (aF ?_ cg) (ih r c hr hc)
  cases k with
  |zero=>have:=ih r c hr hc;rw[M7] at this;cases this
  |succ k=>refine' aD ?L92a_43a ?L92a_43b ?L92a_43c;(case L92a_43a=>rfl);(case L92a_43b=>walk_at "xm");(case L92a_43c=>exact without k hr hc h4 h4)
 have sgn:∀r c,r<n+1->c<n+1->aH T 60 (k+2) "signed_rest" [tbl (n+1) (n+1) f,.int r,.int c]=some (.int (cof (n+1) f r c)):=by
  intro r c hr hc;refine dh (fd:=aW (top 61)) rfl rfl (oh rfl (d:=.int (det n (sub f r c))) ?_ (cV ?_))
  .refine' aD ?L92a_44a ?L92a_44b ?L92a_44c;(case L92a_44a=>rfl);(case L92a_44b=>walk_at "xm");(case L92a_44c=>exact rest r c hr hc)
  .unfold cof sg
   by_cases q:(r+c)%2=1
   .rw[G7z q]
    refine V0 (jf (x:=.int (((r+c)%2:Nat):Int)) (Df (d9 (d9 (by nofun) (by nofun) rfl) (by nofun) (Io (by decide))) (congrArg D.int (by omega))) (by nofun) (Sy (by omega))) (Oc ?_)
    nofun
   .rw[H7z q]
    refine V1 (jf (x:=.int (((r+c)%2:Nat):Int)) (Df (d9 (d9 (by nofun) (by nofun) rfl) (by nofun) (Io (by decide))) (congrArg D.int (by omega))) (by nofun) (U4 (by omega))) ?_
    nofun
 refine⟨sgn,?_⟩
 have rows:aH T 60 (k+3) "row_with_rests" [tbl (n+1) (n+1) f,.int 0]=some (.lst (Ls (n+1) λc=>.tup [.int (f 0 c),.int (cof (n+1) f 0 c)])):=by
  refine dh (fd:=aW (top 62)) rfl rfl (cV ?_);refine' cW ?L92a_45a ?L92a_45b ?L92a_45c (bh ?L92a_45d);(case L92a_45a=>rfl);(case L92a_45b=>walk_at "xi");(case L92a_45c=>exact iw (by omega))
  case L92a_45d =>
   intro c hc;refine' dj ?L92a_45e ?L92a_45f;(case L92a_45e=>rfl)
   case L92a_45f =>
    refine Nt (aF (by nofun) (aF ?_ cg)) rfl;refine aD rfl (aF ?_ (aF ?_ (aF ?_ cg))) (sgn 0 c (by omega) hc)
    .nofun
    .nofun
    .nofun
 refine dh (fd:=aW (top 59)) rfl rfl (o8 (jf (x:=.int ((n+1:Nat):Int)) ?_ (by nofun) (U4 (by omega))) (cV ?_))
 .nofun
 .have e:det (n+1) f=fJ (n+1) λj=>f 0 j*cof (n+1) f 0 j:=rfl
  rw[e];refine fj rfl rfl rfl (aF ?_ cg) Te;refine' cW ?a1 ?a2 ?a3 (bh ?a4);(case a1=>rfl)
  case a2 =>
   refine wSq rfl (x:=.lst (Ls (n+1) λc=>.tup [.int (f 0 c),.int (cof (n+1) f 0 c)])) ?_ rfl;refine' aD ?L92a_46a ?L92a_46b ?L92a_46c;(case L92a_46a=>rfl);(case L92a_46b=>walk_at "xm");(case L92a_46c=>exact rows)
  case a3=>exact iw (by omega)
  case a4 =>
   intro c hc;refine' dj ?b1 (d9 ?b2 ?b3 (Dk (.inl (hs 0 c (by omega) hc))));(case b1=>rfl);(case b2=>nofun);(case b3=>nofun)
theorem worth:∀(n k:Nat){f:Nat->Nat->Int},n<=4->Sm n n f->aH T 60 (k+4*n+1) "worth_of" [tbl n n f]=some (.int (det n f))
 |0,k,f,_,_=>by
  show aH T 60 (k+1) "worth_of" [.tup []]=some (.int 1);rfl'
 |n+1,k,f,h,hs=>by
  have q:=wF (k+4*n+1) h hs λr c hr hc=>worth n k (by omega) λi j hi hj=>hs _ _ (by unfold skip;split<;>omega) (by unfold skip;split<;>omega)
  have e:k+4*(n+1)+1=k+4*n+1+4:=by omega
  rw[e];exact q.2
theorem whole_minor(k n:Nat){f:Nat->Nat->Int}(h1:1<=n)(h4:n<=4)(hs:Sm n n f):aH T 60 (k+4*n+5) "whole_minor" [tbl n n f]=some (.int (det n f)):=by
 have sq:aH T 60 (k+4*n+3) "is_square" [tbl n n f]=some (.bl true):=by
  refine dh (fd:=aW (top 16)) rfl rfl (cV (jf (x:=.int n) ?_ ?_ (Sy rfl)))
  .nofun
  .nofun
 have ns:aH T 60 (k+4*n+4) "need_square" [tbl n n f]=some .non:=by
  refine Dn (fd:=aW (top 18)) rfl rfl (o8 (jh ?_) lD);refine' aD ?L92a_47a ?L92a_47b ?L92a_47c;(case L92a_47a=>rfl);(case L92a_47b=>walk_at "xm");(case L92a_47c=>exact sq)
 refine dh (fd:=aW (top 70)) rfl rfl (vC rfl (d:=.non) ?_ (vC rfl (d:=.non) ?_ (cV ?_)))
 .refine' aD ?L92a_48a ?L92a_48b ?L92a_48c;(case L92a_48a=>rfl);(case L92a_48b=>walk_at "xm");(case L92a_48c=>exact need_table (k+4*n) h1 h4 h1 h4)
 .refine' aD ?L92a_49a ?L92a_49b ?L92a_49c;(case L92a_49a=>rfl);(case L92a_49b=>walk_at "xm");(case L92a_49c=>exact ns)
 .refine aD rfl (by walk_at "xm") ?_
  have q:=worth n (k+3) h4 hs;rw[show k+3+4*n+1=k+4*n+4 by omega] at q;exact q
theorem fQ(h:nOw s=true)(r:oR ρ=true):oR ((y,s)::ρ)=true:=by
 unfold oR at r ⊢;rw[U5z,h,r];rfl
section
variable{cx:Cxt}{sc:Scope}{ρ ρ':Rho}{e:Expr}{p:Pos}{d:D}{nm:Str}{F m:Nat}{r:List Stmt}{fl:Fl}{y:Str}{s:Sl}{ds:List D}
theorem fz_n:frz F e []=[]:=rfl
end
abbrev plL(l:List Nat):D:=.tup (l.map λ(k:Nat)=>D.int k)
theorem Hw(l:List Nat):plL l=plc l.length λi=>l.getD i 0:=by
 show D.tup _=D.tup _;rw[VN 0]
def subs(many:Nat):Nat->List (List Nat)
 |0=>[[]]
 |s+1=>(subs many s).flatMap λa=>(List.range' ((a.getLast?.map (· + 1)).getD 0) (many-(a.getLast?.map (· + 1)).getD 0)).map λx=>a++[x]
theorem pK(k:Nat){n s:Nat}(h1:1<=n)(h4:n<=4)(s1:1<=s)(sn:s<=n):aH T 60 (k+2) "rising_tuples" [.int n,.int s]=some (.lst ((subs n s).map plL)):=by
 match n,s,h1,h4,s1,sn with
 |1,1,_,_,_,_=>rfl'
 |2,1,_,_,_,_=>rfl'
 |2,2,_,_,_,_=>rfl'
 |3,1,_,_,_,_=>rfl'
 |3,2,_,_,_,_=>rfl'
 |3,3,_,_,_,_=>rfl'
 |4,1,_,_,_,_=>rfl'
 |4,2,_,_,_,_=>rfl'
 |4,3,_,_,_,_=>rfl'
 |4,4,_,_,_,_=>rfl'
def okL(n:Nat)(l:List Nat):Bool:=l.all λx=>decide (x<n)
theorem HF{n:Nat}{l:List Nat}(h:okL n l=true):∀j,j<l.length->l.getD j 0<n:=by
 unfold okL at h;rw[A4z] at h;intro j hj;have:=h l[j] (S3z _);rw[List.getD_eq_getElem?_getD,List.getElem?_eq_getElem hj];simpa using this
def VH(n s:Nat):Bool:=(subs n s).all λS=>okL n S&&decide (S.length=s)
theorem gC{n s:Nat}(h1:1<=n)(h4:n<=4)(s1:1<=s)(sn:s<=n):VH n s=true/\(subs n s).length<=6:=by
 match n,s,h1,h4,s1,sn with
 |1,1,_,_,_,_=>decide
 |2,1,_,_,_,_=>decide
 |2,2,_,_,_,_=>decide
 |3,1,_,_,_,_=>decide
 |3,2,_,_,_,_=>decide
 |3,3,_,_,_,_=>decide
 |4,1,_,_,_,_=>decide
 |4,2,_,_,_,_=>decide
 |4,3,_,_,_,_=>decide
 |4,4,_,_,_,_=>decide
theorem yU{n s:Nat}{S:List Nat}(h1:1<=n)(h4:n<=4)(s1:1<=s)(sn:s<=n)(hS:S∈subs n s):okL n S=true/\S.length=s:=by
 have q:=A4z.mp (gC h1 h4 s1 sn).1 S hS;simp only[J3z,W2z] at q;exact q
def dM(f:Nat->Nat->Int)(R C:List Nat):Int:=det R.length λi j=>f (R.getD i 0) (C.getD j 0)
def mnD(f:Nat->Nat->Int)(R C:List Nat):D:=.tup [plL R,plL C,.int (dM f R C)]
theorem oA{α:Type}{f:D->Rho->Option Fl}{g:α->D}{R:List α->Rho}{whole:List α}(h:∀pre x post,pre++x::post=whole->f (g x) (R pre)=some (.nxt (R (pre++[x])))):∀{l pre:List α},pre++l=whole->iW f (l.map g) (R pre)=some (.nxt (R whole))
 |[],pre,e=>by rw[G4z] at e;rw[e];rfl
 |x::l,pre,e=>by
  simp only[O5z,iW,h pre x l e];exact oA h (l:=l) (pre:=pre++[x]) (by rw[C3z];exact e)
def lg{α:Type}(g:α->D)(l:List α):Sl:=match l.getLast? with
 |none=>.no
 |some x=>.sh (g x)
theorem mR{α:Type}{g:α->D}{l:List α}{x:α}:lg g (l++[x])=.sh (g x):=by simp[lg]
theorem vq{α:Type}(g:α->D)(l:List α):lg g l=.no\/∃d,lg g l=.sh d:=by
 unfold lg;split
 .exact .inl rfl
 .exact .inr ⟨_,rfl⟩
structure Tb(m n:Nat)(f:Nat->Nat->Int):Prop where
 m1:1<=m
 m4:m<=4
 n1:1<=n
 n4:n<=4
 sm:Sm m n f
theorem mK(k:Nat){m n:Nat}{f:Nat->Nat->Int}{R C:List Nat}(t:Tb m n f)(hR:okL m R=true)(hC:okL n C=true)(hl:C.length=R.length)(h4:R.length<=4) :
  aH T 60 (k+2) "part_at" [tbl m n f,plL R,plL C]=some (tbl R.length R.length λi j=>f (R.getD i 0) (C.getD j 0))/\aH T 60 (k+4*R.length+1) "worth_of" [tbl R.length R.length λi j=>f (R.getD i 0) (C.getD j 0)]=some (.int (dM f R C)):=by
 have r:=HF hR;have c:=HF hC;rw[hl] at c;refine⟨?_,worth R.length k h4 λi j hi hj=>t.sm _ _ (r i hi) (c j hj)⟩;rw[Hw R,Hw C,hl];exact part_at k h4 h4 r c
theorem Ia(l:List Nat):blt "len" [plL l]=some (.int (l.length:Int)):=by
 show some (D.int ((l.map λ(k:Nat)=>D.int k).length:Int))=_;rw[F4z]
def PJ(t R:D)(md:List D)(c:Sl):Rho:=[("table",.sh t),("rows",.sh R),("told",.ow md),("columns",c)]
theorem sW(k:Nat){m n:Nat}{f:Nat->Nat->Int}{R:List Nat}(t:Tb m n f)(hR:okL m R=true)(g1:1<=R.length)(gn:R.length<=n):aH T 60 (k+4*R.length+2) "minors_of_rows" [tbl m n f,plL R]=some (.lst ((subs n R.length).map λC=>mnD f R C)):=by
 have t':=t;obtain⟨m1,m4,n1,n4,hs⟩:=t'
 have key:∀(s:Sl),(s=.no\/∃d,s=.sh d)->blk (cxN T 60 (k+4*R.length+1)) 60 60 (aW (top 66)).sc ((aW (top 66)).body.drop 2) (PJ (tbl m n f) (plL R) ((subs n R.length).map λC=>mnD f R C) s)=some (.ret (.lst ((subs n R.length).map λC=>mnD f R C))):=by
  intro s hs;rcases hs with rfl|⟨d,rfl⟩
  .exact cV (by nofun)
  .exact cV (by nofun)
 refine dh (fd:=aW (top 66)) rfl rfl (oh rfl (d:=.lst []) (by nofun) (NZ (l:=(subs n R.length).map plL) (fl1:=.nxt (PJ (tbl m n f) (plL R) ((subs n R.length).map λC=>mnD f R C) (lg plL (subs n R.length)))) (wSq (x:=.lst ((subs n R.length).map plL)) rfl ?_ rfl) ?_ (key _ (vq _ _))))
 .refine aD rfl (aF (x:=.int n) ?_ (aF (x:=.int (R.length:Int)) ?_ cg)) (pK (k+4*R.length-1+0) n1 n4 g1 gn |> λq=>by rw[show k+4*R.length-1+0+2=k+4*R.length+1 by omega] at q;exact q)
  .nofun
  .refine' fj ?L92n_1a ?L92n_1b ?L92n_1c ?L92n_1d ?L92n_1e;(case L92n_1a=>rfl);(case L92n_1b=>rfl);(case L92n_1c=>rfl);(case L92n_1d=>walk_at "xm");(case L92n_1e=>exact Ia R)
 .refine oA (R:=λpre=>PJ (tbl m n f) (plL R) (pre.map λC=>mnD f R C) (lg plL pre)) (whole:=subs n R.length) (λpre C post e=>?_) (pre:=[]) rfl
  have hC:=yU n1 n4 g1 gn (S:=C) (by rw[<- e];simp)
  have hz:pre.length<=6:=by
   have h6:=(gC n1 n4 g1 gn).2;rw[<- e] at h6;simp at h6;omega
  obtain⟨p1,p2⟩:=mK (k+4*R.length-1) t hR hC.1 hC.2 (by omega);obtain⟨q1,q2⟩:=mK k t hR hC.1 hC.2 (by omega);rw[show k+4*R.length-1+2=k+4*R.length+1 by omega] at p1;refine xP (ρ1:=PJ (tbl m n f) (plL R) (pre.map λC=>mnD f R C) (.sh (plL C))) rfl ?_;show _=some (Fl.nxt (PJ (tbl m n f) (plL R) ((pre++[C]).map λC=>mnD f R C) (lg plL (pre++[C]))));rw[U4z,mR];refine Wo (d:=mnD f R C) rfl rfl rfl (gZ (by rw[F4z];omega)) ?_ rfl;exact Nt (aF (by nofun) (aF (by nofun) (aF (aD rfl (aF (aD rfl (by walk_at "xm") p1) cg) q2) cg))) rfl
theorem vm{α β:Type}{g:α->List β}{b:Nat}:∀{l:List α},(∀x∈l,(g x).length<=b)->(l.flatMap g).length<=l.length*b
 |[],_=>by simp
 |x::l,h=>by
  have h1:=h x W1z;have h2:=vm (l:=l) λy hy=>h y (E1z _ hy);simp only[List.flatMap_cons,B2z,E3z,Nat.succ_mul];omega
def mS(m n:Nat)(f:Nat->Nat->Int)(s:Nat):List D:=(subs m s).flatMap λR=>(subs n s).map λC=>mnD f R C
def mA(m n:Nat)(f:Nat->Nat->Int)(i:Nat):List D:=(List.range i).flatMap λj=>mS m n f (j+1)
theorem HY{m n s:Nat}{f:Nat->Nat->Int}(m1:1<=m)(m4:m<=4)(n1:1<=n)(n4:n<=4)(s1:1<=s)(sm:s<=m)(sn:s<=n):(mS m n f s).length<=36:=by
 have h1:=(gC m1 m4 s1 sm).2;have h2:=(gC n1 n4 s1 sn).2
 have:=vm (l:=subs m s) (g:=λR=>(subs n s).map λC=>mnD f R C) (b:=6) λR _=>by rw[F4z];exact h2
 unfold mS;omega
theorem Av{m n i:Nat}{f:Nat->Nat->Int}(m1:1<=m)(m4:m<=4)(n1:1<=n)(n4:n<=4)(im:i<=m)(in':i<=n):(mA m n f i).length<=i*36:=by
 have:=vm (l:=List.range i) (g:=λj=>mS m n f (j+1)) (b:=36) λj hj=>by
  have:=List.mem_range.mp hj;exact HY m1 m4 n1 n4 (by omega) (by omega) (by omega)
 rw[D3z] at this;exact this
theorem KY{m n i:Nat}{f:Nat->Nat->Int}:mA m n f (i+1)=mA m n f i++mS m n f (i+1):=by
 unfold mA;rw[List.range_succ,List.flatMap_append];simp
theorem dist{α β:Type}{g:α->List β}{l:List α}{x:α}:(l++[x]).flatMap g=l.flatMap g++g x:=by
 rw[List.flatMap_append];simp
def Pz(t s:D)(md:List D)(c:Sl):Rho:=[("table",.sh t),("size",.sh s),("told",.ow md),("rows",c)]
theorem sV(k:Nat){m n s:Nat}{f:Nat->Nat->Int}(t:Tb m n f)(s1:1<=s)(hm:s<=m)(hn:s<=n):aH T 60 (k+4*s+3) "minors_of_size" [tbl m n f,.int s]=some (.lst (mS m n f s)):=by
 have t':=t;obtain⟨m1,m4,n1,n4,hs⟩:=t'
 have key:∀(c:Sl),(c=.no\/∃d,c=.sh d)->blk (cxN T 60 (k+4*s+2)) 60 60 (aW (top 67)).sc ((aW (top 67)).body.drop 2) (Pz (tbl m n f) (.int s) (mS m n f s) c)=some (.ret (.lst (mS m n f s))):=by
  intro c hc;rcases hc with rfl|⟨d,rfl⟩
  .exact cV (by nofun)
  .exact cV (by nofun)
 refine dh (fd:=aW (top 67)) rfl rfl (oh rfl (d:=.lst []) (by nofun) (NZ (l:=(subs m s).map plL) (fl1:=.nxt (Pz (tbl m n f) (.int s) (mS m n f s) (lg plL (subs m s)))) (wSq (x:=.lst ((subs m s).map plL)) rfl ?_ rfl) ?_ (key _ (vq _ _))))
 .refine aD rfl (aF (x:=.int m) ?_ (aF (x:=.int s) ?_ cg)) (pK (k+4*s) m1 m4 s1 hm)
  .nofun
  .nofun
 .refine oA (R:=λpre=>Pz (tbl m n f) (.int s) (pre.flatMap λR=>(subs n s).map λC=>mnD f R C) (lg plL pre)) (whole:=subs m s) (λpre R post e=>?_) (pre:=[]) rfl
  have hR:=yU m1 m4 s1 hm (S:=R) (by rw[<- e];simp)
  have h6:=(gC n1 n4 s1 hn).2
  have hz:(pre.flatMap λR=>(subs n s).map λC=>mnD f R C).length<=36:=by
   have h1:=(gC m1 m4 s1 hm).2;rw[<- e] at h1;simp at h1
   have:=vm (l:=pre) (g:=λR=>(subs n s).map λC=>mnD f R C) (b:=6) λR _=>by rw[F4z];exact h6
   omega
  have mr:=sW k t hR.1 (by rw[hR.2];exact s1) (by rw[hR.2];exact hn)
  rw[hR.2] at mr;refine xP (ρ1:=Pz (tbl m n f) (.int s) (pre.flatMap λR=>(subs n s).map λC=>mnD f R C) (.sh (plL R))) rfl ?_;show _=some (Fl.nxt (Pz (tbl m n f) (.int s) ((pre++[R]).flatMap λR=>(subs n s).map λC=>mnD f R C) (lg plL (pre++[R]))));rw[dist,mR];refine Wn rfl rfl rfl rfl (gZ (by rw[F4z];omega)) ?_ rfl;exact aD rfl (by walk_at "xm") mr
theorem greatest(k:Nat){m n:Nat}{f:Nat->Nat->Int}(h:1<=m):aH T 60 (k+1) "greatest_size" [tbl m n f]=some (.int ((min m n:Nat):Int)):=by
 refine dh (fd:=aW (top 65)) rfl rfl (cV (Df (fj (ds:=[.int m,.int n]) rfl rfl rfl (aF ?_ (aF ?_ cg)) rfl) ?_))
 .nofun
 .nofun
 .congr 1
  by_cases q:(n:Int)<(m:Int)
  .rw[G7z q];omega
  .rw[H7z q];omega
def PK(t:D)(md:List D)(c:Sl):Rho:=[("table",.sh t),("told",.ow md),("size",c)]
def szS:Nat->Sl
 |0=>.no
 |i+1=>.sh (.int (1+(i:Int)))
theorem minors_in(k:Nat){m n:Nat}{f:Nat->Nat->Int}(t:Tb m n f):aH T 60 (k+20) "minors_in" [tbl m n f]=some (.lst (mA m n f (min m n))):=by
 have t':=t;obtain⟨m1,m4,n1,n4,hs⟩:=t'
 have key:∀(c:Sl),(c=.no\/∃d,c=.sh d)->blk (cxN T 60 (k+19)) 60 60 (aW (top 68)).sc ((aW (top 68)).body.drop 2) (PK (tbl m n f) (mA m n f (min m n)) c)=some (.ret (.lst (mA m n f (min m n)))):=by
  intro c hc;rcases hc with rfl|⟨d,rfl⟩
  .exact cV (by nofun)
  .exact cV (by nofun)
 refine dh (fd:=aW (top 68)) rfl rfl (oh rfl (d:=.lst []) (by nofun) (NZ (l:=Ls (min m n) λi=>.int (1+(i:Int))) (fl1:=.nxt (PK (tbl m n f) (mA m n f (min m n)) (szS (min m n)))) ?_ ?_ (key _ ?_)))
 .have e:eF 1 (((min m n:Nat):Int)+1)=Ls (min m n) λi=>.int (1+(i:Int)):=by
   rw[zQ];congr 1;omega
  rw[<- e];refine wR2 rfl (by nofun) (d9 (x:=.int ((min m n:Nat):Int)) ?_ (by nofun) rfl) ?_
  .refine' aD ?L92n_2a ?L92n_2b ?L92n_2c;(case L92n_2a=>rfl);(case L92n_2b=>walk_at "xm");(case L92n_2c=>exact greatest (k+18) m1)
  .unfold fW
   simp only[J3z,W2z];omega
 .refine oE (R:=λi=>PK (tbl m n f) (mA m n f i) (szS i)) λi hi=>?_
  have hl:=Av (f:=f) m1 m4 n1 n4 (i:=i) (by omega) (by omega);have hl2:=HY (f:=f) m1 m4 n1 n4 (s:=i+1) (by omega) (by omega) (by omega);refine xP (ρ1:=PK (tbl m n f) (mA m n f i) (.sh (.int (1+(i:Int))))) rfl ?_;show _=some (Fl.nxt (PK (tbl m n f) (mA m n f (i+1)) (.sh (.int (1+(i:Int))))));rw[KY];refine Wn rfl rfl rfl rfl (gZ (by omega)) ?_ rfl;refine aD rfl (aF (x:=tbl m n f) (by nofun) (aF (x:=.int ((i+1:Nat):Int)) (Df (by nofun) (congrArg D.int (by omega))) cg)) ?_;have q:=sV (k+16-4*(i+1)) t (s:=i+1) (by omega) (by omega) (by omega);rw[show k+16-4*(i+1)+4*(i+1)+3=k+19 by omega] at q;exact q
 .cases h:min m n with
  |zero=>exact .inl rfl
  |succ i=>exact .inr ⟨_,rfl⟩
def nb:D->Bool
 |.tup [_,_,.int w]=>decide (0<=w)
 |_=>false
theorem none_below(k:Nat){L:List D}(hL:∀x∈L,∃a b w,x=.tup [a,b,.int w])(hz:L.length<=1000):aH T 60 (k+1) "none_below" [.lst L]=some (.bl (L.all nb)):=by
 refine dh (fd:=aW (top 73)) rfl rfl (cV (fj rfl rfl rfl (aF (cW (l:=L) rfl (wSq (x:=.lst L) rfl (by nofun) rfl) (gZ (by omega)) (cH (g:=λx=>.bl (nb x)) λx hx=>?_)) cg) rB));obtain⟨a,b,w,rfl⟩:=hL x hx;exact dj rfl (jf (x:=.int w) (y:=.int 0) (by nofun) (by nofun) rfl)
theorem QM{m n i:Nat}{f:Nat->Nat->Int}:∀x∈mA m n f i,∃a b w,x=.tup [a,b,.int w]:=λx hx=>by
 obtain⟨j,_,h⟩:=List.mem_flatMap.mp hx;obtain⟨R,_,h⟩:=List.mem_flatMap.mp h;obtain⟨C,_,h⟩:=List.mem_map.mp h;exact⟨_,_,_,h.symm⟩
def jN(m n:Nat)(f:Nat->Nat->Int):Bool:=(mA m n f (min m n)).all nb
theorem all_minors(k:Nat){m n:Nat}{f:Nat->Nat->Int}(t:Tb m n f):aH T 60 (k+21) "all_minors" [tbl m n f]=some (.lst (mA m n f (min m n))):=by
 refine dh (fd:=aW (top 69)) rfl rfl (vC rfl (d:=.non) ?_ (cV ?_))
 .refine' aD ?L92n_3a ?L92n_3b ?L92n_3c;(case L92n_3a=>rfl);(case L92n_3b=>walk_at "xm");(case L92n_3c=>exact need_table (k+16) t.m1 t.m4 t.n1 t.n4)
 .refine' aD ?L92n_4a ?L92n_4b ?L92n_4c;(case L92n_4a=>rfl);(case L92n_4b=>walk_at "xm");(case L92n_4c=>exact minors_in k t)
theorem is_good(k:Nat){m n:Nat}{f:Nat->Nat->Int}(t:Tb m n f):aH T 60 (k+22) "is_good" [tbl m n f]=some (.bl (jN m n f)):=by
 have hl:=Av (f:=f) t.m1 t.m4 t.n1 t.n4 (i:=min m n) (by omega) (by omega);have:=t.m4;refine dh (fd:=aW (top 74)) rfl rfl (cV (aD rfl (aF (aD rfl (by walk_at "xm") (all_minors k t)) cg) (none_below (k+20) QM (by omega))))
def pI(b:Nat):Int:=if b%2=1 then -1 else 1
def xJ:Nat->(Nat->Nat->Int)->Int
 |0,_=>1
 |n+1,f=>fJ (n+1) λc=>pI (n+c)*f n c*xJ n λa b=>f a (skip c b)
theorem zx{b:Nat}{x:Int}(h:small x=true):small (pI b*x)=true:=by
 unfold small at h ⊢;simp only[J3z,W2z] at h ⊢;unfold pI
 split<;>omega
def NK(t md la:D)(c r s:Sl):Rho:=[("_law_table_here",.sh t),("_law_made",.sh md),("_law_last",.sh la),("_law_column",c),("_law_rest",r),("_law_sign",s)]
def lwB:List Stmt:=match (aW (top 83)).body.getD 3 (.Pass ⟨0,0,0,0⟩) with|.For _ _ b _ _=>b|_=>[]
def lwT:Expr:=match (aW (top 83)).body.getD 3 (.Pass ⟨0,0,0,0⟩) with|.For t _ _ _ _=>t|_=>.Name "" ⟨0,0,0,0⟩
theorem KZ(k:Nat){n c:Nat}{f:Nat->Nat->Int}{v:Int}{s1 s2 s3:Sl}(c1:nOw s1=true)(c2:nOw s2=true)(c3:nOw s3=true)(h4:n+1<=4)(hc:c<n+1)(hs:Sm (n+1) (n+1) f)(ih:aH T 60 (k+1) "_law_worth" [tbl n n λa b=>f a (skip c b)]=some (.int (xJ n λa b=>f a (skip c b)))) :
  fF (cxN T 60 (k+1)) 60 59 (aW (top 83)).sc lwT lwB (.int c) (NK (tbl (n+1) (n+1) f) (.int v) (.int n) s1 s2 s3) =
   some (.nxt (NK (tbl (n+1) (n+1) f) (.int (v+pI (n+c)*f n c*xJ n λa b=>f a (skip c b))) (.int n) (.sh (.int c)) (.sh (tbl n n λa b=>f a (skip c b))) (.sh (.int (pI (n+c)))))):=by
 refine xP (ρ1:=NK (tbl (n+1) (n+1) f) (.int v) (.int n) (.sh (.int c)) s2 s3) rfl ?_;refine Nb (d:=tbl n n λa b=>f a (skip c b)) (fQ rfl (fQ rfl (fQ rfl (fQ rfl (fQ c2 (fQ c3 rfl)))))) rfl rfl ?_ ?_
 .refine fj rfl rfl rfl (aF ?_ cg) wu
  refine' cW ?a1 (V2 ?a2 (Oa (m:=n+1) (j:=n) (h:=λi=>row (n+1) (f i)) ?a3 ?a4 (by omega))) ?a5 (bh ?a6);(case a1=>rfl);(case a2=>rfl);(case a3=>nofun);(case a4=>nofun);(case a5=>exact iw (by omega))
  case a6 =>
   intro i hi;refine' dj ?b1 (Ti (m:=n+1) (r:=c) (h:=λj=>.int (f i j)) ?b2 ?b3 ?b4 ?b5 hc (by omega));(case b1=>rfl);(case b2=>nofun);(case b3=>nofun);(case b4=>nofun)
   case b5=>exact d9 (by nofun) (by nofun) rfl
 show blk _ _ _ _ _ (NK (tbl (n+1) (n+1) f) (.int v) (.int n) (.sh (.int c)) (.sh (tbl n n λa b=>f a (skip c b))) s3)=_;refine Nb (d:=.int (pI (n+c))) (fQ rfl (fQ rfl (fQ rfl (fQ rfl (fQ rfl (fQ c3 rfl)))))) rfl rfl ?_ ?_
 .unfold pI
  by_cases q:(n+c)%2=1
  .rw[G7z q]
   exact V0 (jf (x:=.int (((n+c)%2:Nat):Int)) (Df (d9 (d9 (by nofun) (by nofun) rfl) (by nofun) (Io (by decide))) (congrArg D.int (by omega))) (by nofun) (Sy (by omega))) (Oc (by nofun))
  .rw[H7z q]
   exact V1 (jf (x:=.int (((n+c)%2:Nat):Int)) (Df (d9 (d9 (by nofun) (by nofun) rfl) (by nofun) (Io (by decide))) (congrArg D.int (by omega))) (by nofun) (U4 (by omega))) (by nofun)
 refine oh rfl (d:=.int (v+pI (n+c)*f n c*xJ n λa b=>f a (skip c b))) ?_ rfl;refine d9 (x:=.int v) (by nofun) (d9 (x:=.int (pI (n+c)*f n c)) (d9 (x:=.int (pI (n+c))) (y:=.int (f n c)) (by nofun) ?_ (Dk (.inl ?_))) (aD rfl (by walk_at "xm") ih) (Dk (.inl (zx (hs n c (by omega) hc))))) rfl
 .refine Nv (m:=n+1) (j:=c) (h:=λj=>.int (f n j)) (Nv (m:=n+1) (j:=n) (h:=λi=>row (n+1) (f i)) ?_ ?_ (by omega) rfl rfl) ?_ hc rfl rfl
  .nofun
  .nofun
  .nofun
 .unfold pI;split<;>decide
def s3(g:Nat->D):Nat->Sl
 |0=>.no
 |i+1=>.sh (g i)
theorem rR(g:Nat->D)(i:Nat):nOw (s3 g i)=true:=by cases i<;>rfl
theorem Kw{n:Nat}{f:Nat->Nat->Int}:cmpop .Eq (tbl (n+1) (n+1) f) (.tup [])=some (.bl false):=by
 rw[oEq (B6z oM (by decide)) (by simp[dep,deps]) Vf];show some (D.bl (oJ (Ls (n+1) _) []))=_;simp[Ls,S0z,oJ]
theorem vp:∀(n k:Nat){f:Nat->Nat->Int},n<=4->Sm n n f->aH T 60 (k+n+1) "_law_worth" [tbl n n f]=some (.int (xJ n f))
 |0,k,f,_,_=>by
  show aH T 60 (k+1) "_law_worth" [.tup []]=some (.int 1);rfl'
 |n+1,k,f,h4,hs=>by
  have ih:=λc (hc:c<n+1)=>vp n k (f:=λa b=>f a (skip c b)) (by omega) λi j hi hj=>hs _ _ (by omega) (by unfold skip;split<;>omega)
  show aH T 60 (k+n+1+1) "_law_worth" _=_;refine dh (fd:=aW (top 83)) rfl rfl (o8 (jf (x:=tbl (n+1) (n+1) f) (by nofun) (by nofun) Kw) (oh rfl (d:=.int 0) (by nofun) (oh rfl (d:=.int n) ?_ (NZ (l:=Ls (n+1) λi=>.int i) (fl1:=.nxt (NK (tbl (n+1) (n+1) f) (.int (xJ (n+1) f)) (.int n) (.sh (.int n)) (s3 (λc=>tbl n n λa b=>f a (skip c b)) (n+1)) (s3 (λc=>.int (pI (n+c))) (n+1)))) ?_ ?_ (cV ?_)))))
  .refine Df (d9 (x:=.int ((n+1:Nat):Int)) ?_ (by nofun) rfl) (congrArg D.int (by omega))
   nofun
  .walk_at "xi"
  .exact oE (R:=λi=>NK (tbl (n+1) (n+1) f) (.int (fJ i λc=>pI (n+c)*f n c*xJ n λa b=>f a (skip c b))) (.int n) (s3 (λc=>.int c) i) (s3 (λc=>tbl n n λa b=>f a (skip c b)) i) (s3 (λc=>.int (pI (n+c))) i)) λi hi=>KZ (k+n) (rR _ _) (rR _ _) (rR _ _) h4 hi hs (ih i hi)
  .nofun
section
variable{cx:Cxt}{sc:Scope}{ρ ρ':Rho}{e:Expr}{p:Pos}{d:D}{nm:Str}{F m:Nat}{r:List Stmt}{fl:Fl}{y:Str}{s:Sl}{ds:List D}
end
theorem vN(f:Nat->Nat->Int):det 1 f=f 0 0:=by simp[det,fJ,sg]
theorem Di(f:Nat->Nat->Int):det 2 f=f 0 0*f 1 1-f 0 1*f 1 0:=by
 simp[det,fJ,sg,sub,skip];grind
theorem ld1(g:Nat->Nat->Int):xJ 1 g=det 1 g:=by
 simp only[vN,xJ,fJ,pI];grind
theorem ld2(g:Nat->Nat->Int):xJ 2 g=det 2 g:=by
 rw[show xJ 2 g=fJ 2 (λc=>pI (1+c)*g 1 c*xJ 1 λa b=>g a (skip c b)) from rfl];simp only[ld1,Di,vN,fJ,pI,skip];simp;grind
theorem Vc{n:Nat}(h1:1<=n)(h4:n<=2)(f:Nat->Nat->Int):xJ n f=det n f:=by
 match n,h1,h4 with
 |1,_,_=>exact ld1 f
 |2,_,_=>exact ld2 f
def jH(d:D):Bool:=gU d&&(dJ d).all λr=>(dJ r).all (within (-99) 99)
theorem zy(k:Nat){us:List D}(h:dep (.tup us)<1000)(h4:us.length<=4):aH T 60 (k+3) "is_small_row" [.tup us]=some (.bl (us.all (within (-99) 99))):=by
 refine dh (fd:=aW (top 23)) rfl rfl (cV (fj rfl rfl rfl (aF (cW (l:=us) rfl (wSq rfl (by nofun) rfl) (gZ (by omega)) (cH (g:=λx=>.bl (within (-99) 99 x)) λx hx=>dj rfl ?_)) cg) rB));refine' aD ?L92c_1a ?L92c_1b ?L92c_1c;(case L92c_1a=>rfl);(case L92c_1b=>walk_at "xm");(case L92c_1c=>exact Bh k (lH h x hx))
theorem is_table(k:Nat){d:D}(h:dep d<1000):aH T 60 (k+4) "is_table" [d]=some (.bl (jH d)):=by
 cases hl:gU d with
 |false =>
  have e:jH d=false:=by simp only[jH,hl,Y4z]
  rw[e];refine dh (fd:=aW (top 24)) rfl rfl (cV (gM (wD ?_)));refine' aD ?L92c_2a ?L92c_2b ?L92c_2c;(case L92c_2a=>rfl);(case L92c_2b=>walk_at "xm");(case L92c_2c=>exact hl▸n8 k h)
 |true =>
  have hl2:dY d=true:=by unfold gU at hl;rw[J3z] at hl;exact hl.1
  obtain⟨us,rfl,g1,g4,ga,_⟩:=kW hl2
  have e:jH (.tup us)=us.all λr=>(dJ r).all (within (-99) 99):=by simp only[jH,hl,W5z,dJ]
  rw[e];refine dh (fd:=aW (top 24)) rfl rfl (cV (gM (wC ?_ (yu ?_))))
  .refine' aD ?L92c_3a ?L92c_3b ?L92c_3c;(case L92c_3a=>rfl);(case L92c_3b=>walk_at "xm");(case L92c_3c=>exact hl▸n8 k h)
  .refine fj rfl rfl rfl (aF (cW (l:=us) rfl (wSq rfl (by nofun) rfl) (gZ (by omega)) (cH (g:=λx=>.bl ((dJ x).all (within (-99) 99))) λx hx=>dj rfl ?_)) cg) rB
   obtain⟨ys,rfl,y1,y4⟩:=dD (A4z.mp ga x hx);refine' aD ?L92c_4a ?L92c_4b ?L92c_4c;(case L92c_4a=>rfl);(case L92c_4b=>walk_at "xm");(case L92c_4c=>exact zy k (lH h _ hx) y4)
theorem yM{m n:Nat}{f:Nat->Nat->Int}(h1:1<=m)(h2:1<=n)(hf:∀i j,-99<=f i j/\f i j<=99):jH (tbl m n f)=(decide (m<5)&&decide (n<5)):=by
 have e:((dJ (tbl m n f)).all λr=>(dJ r).all (within (-99) 99))=true:=by
  rw[A4z];intro r hr;obtain⟨i,_,rfl⟩:=fM (show r∈Ls m λi=>row n (f i) from hr);show(Ls n λj=>D.int (f i j)).all (within (-99) 99)=true;rw[A4z];intro x hx;obtain⟨j,_,rfl⟩:=fM hx;have:=hf i j;simp only[within];rw[A5z this.1,A5z this.2];rfl
 unfold jH;rw[vG h1 h2,e,Bool.and_true]
def nT(i:Int):Str:=Str.ofString (toString i)
def num(i:Nat):Int:=(i:Int)-99
theorem Ah(k:Nat):((List.range 199).map λi=>aH T 60 (k+2) "number_text" [.int (num i)])=(List.range 199).map λi=>some (.str (nT (num i))):=by rfl'
section
variable{cx:Cxt}{sc:Scope}{ρ ρ':Rho}{e:Expr}{p:Pos}{d:D}{nm:Str}{F m:Nat}{r:List Stmt}{fl:Fl}{y:Str}{s:Sl}{ds:List D}
end
section
variable{cx:Cxt}{sc:Scope}{ρ ρ':Rho}{F m:Nat}{r:List Stmt}{fl:Fl}
end
theorem is_square(k:Nat){m n:Nat}{f:Nat->Nat->Int}(h:1<=m):aH T 60 (k+1) "is_square" [tbl m m f]=some (.bl true):=by
 refine dh (fd:=aW (top 16)) rfl rfl (cV (jf (x:=.int m) ?_ ?_ (Sy rfl)))
 .nofun
 .nofun
theorem need_square(k:Nat){m:Nat}{f:Nat->Nat->Int}(h:1<=m):aH T 60 (k+2) "need_square" [tbl m m f]=some .non:=by
 refine Dn (fd:=aW (top 18)) rfl rfl (o8 (jh ?_) lD);refine' aD ?L92c_5a ?L92c_5b ?L92c_5c;(case L92c_5a=>rfl);(case L92c_5b=>walk_at "xm");(case L92c_5c=>exact is_square (m:=m) (n:=m) k h)
theorem VD{n:Nat}{f:Nat->Int}:blt "sum" [row n f]=some (.int (fJ n f)):=by
 show(lR (Ls n λi=>D.int (f i))).bind (λis=>some (D.int is.sum))=_;rw[CN,Z3z,yS]
theorem line_sums(k:Nat){m n:Nat}{f:Nat->Nat->Int}(h2:m<=4):aH T 60 (k+1) "line_sums" [tbl m n f]=some (row m λi=>fJ n (f i)):=by
 refine dh (fd:=aW (top 76)) rfl rfl (cV (fj rfl rfl rfl (aF ?_ cg) wu));refine' cW ?L92c_6a ?L92c_6b ?L92c_6c (bh ?L92c_6d);(case L92c_6a=>rfl);(case L92c_6b=>walk_at "xi");(case L92c_6c=>exact iw (by omega))
 case L92c_6d =>
  intro i hi;refine' dj ?L92c_6e ?L92c_6f;(case L92c_6e=>rfl)
  case L92c_6f =>
   refine' fj ?L92c_7a ?L92c_7b ?L92c_7c ?L92c_7d ?L92c_7e;(case L92c_7a=>rfl);(case L92c_7b=>rfl);(case L92c_7c=>rfl);(case L92c_7d=>walk_at "xm");(case L92c_7e=>exact VD)
theorem sums(k:Nat){m n:Nat}{f:Nat->Nat->Int}(h1:1<=m)(h2:m<=4)(h3:1<=n)(h4:n<=4):aH T 60 (k+5) "sums" [tbl m n f]=some (.tup [row m λi=>fJ n (f i),row n λj=>fJ m λi=>f i j]):=by
 refine dh (fd:=aW (top 77)) rfl rfl (vC rfl (d:=.non) ?_ (cV (Nt (aF ?_ (aF ?_ cg)) rfl)))
 .refine' aD ?L92c_8a ?L92c_8b ?L92c_8c;(case L92c_8a=>rfl);(case L92c_8b=>walk_at "xm");(case L92c_8c=>exact need_table k h1 h2 h3 h4)
 .refine' aD ?L92c_9a ?L92c_9b ?L92c_9c;(case L92c_9a=>rfl);(case L92c_9b=>walk_at "xm");(case L92c_9c=>exact line_sums (k+3) h2)
 .exact aD rfl (aF (aD rfl (by walk_at "xm") (columns_of (k+2) h1 h2 h4)) cg) (line_sums (k+3) (f:=λi j=>f j i) h4)
theorem slant_sum(k:Nat){m:Nat}{f:Nat->Nat->Int}(h1:1<=m)(h2:m<=4):aH T 60 (k+5) "slant_sum" [tbl m m f]=some (.int (fJ m λi=>f i i)):=by
 refine dh (fd:=aW (top 78)) rfl rfl (vC rfl (d:=.non) ?_ (vC rfl (d:=.non) ?_ (cV (fj rfl rfl rfl (aF ?_ cg) Te))))
 .refine' aD ?L92c_10a ?L92c_10b ?L92c_10c;(case L92c_10a=>rfl);(case L92c_10b=>walk_at "xm");(case L92c_10c=>exact need_table k h1 h2 h1 h2)
 .refine' aD ?L92c_11a ?L92c_11b ?L92c_11c;(case L92c_11a=>rfl);(case L92c_11b=>walk_at "xm");(case L92c_11c=>exact need_square (k+2) h1)
 .refine' cW ?L92c_12a ?L92c_12b ?L92c_12c (bh ?L92c_12d);(case L92c_12a=>rfl);(case L92c_12b=>walk_at "xi");(case L92c_12c=>exact iw (by omega))
  case L92c_12d =>
   intro i hi;refine' dj ?L92c_12e ?L92c_12f;(case L92c_12e=>rfl)
   case L92c_12f =>
    refine' Nv ?L92c_13a ?L92c_13b ?L92c_13c ?L92c_13d ?L92c_13e;(case L92c_13a=>nofun);(case L92c_13b=>nofun);(case L92c_13c=>exact hi);(case L92c_13d=>rfl);(case L92c_13e=>rfl)
theorem Tj{cx:Cxt}{n:Nat}{sc:Scope}{ρ:Rho}{a:Expr}{kw:Keyword}{nm:Str}{q p:Pos}{c:Int}{ds:List D}{is:List Int}(hg:bw cx sc nm=some "max")(hk:Td kw=some c)(h:ev cx n sc ρ a=some (.lst ds))(hi:lR ds=some is):ev cx (n+1) sc ρ (.Call (.Name nm q) [a] [kw] p)=some (.int (mxD is c)):=by
 simp only[ev,hg,hk,h,bind,Z3z,L3z,F7z,SJ,hi,K4z]
theorem qL{f:D->Option (Option D)}{g:D->Option Int}:∀{l:List D},(∀x∈l,f x=some ((g x).map D.int))->aU f l=some ((l.filterMap g).map D.int)
 |[],_=>rfl
 |x::l,h=>by
  simp only[aU,h x W1z,bind,Z3z];have ih:=qL (l:=l) λy hy=>h y (E1z _ hy)
  cases e:g x with
  |none=>simp only[Option.map_none,L1z,e];exact ih
  |some v=>simp only[K4z,L1z,e,ih,O5z]
theorem wA:∀l:List Int,lR (l.map D.int)=some l
 |[]=>rfl
 |x::l=>by simp only[O5z,lR,wA l,K4z]
def gR:D->Option Int
 |.tup [.tup R,_,.int w]=>if w !=0 then some (R.length:Int) else none
 |_=>none
theorem Vo{f:Nat->Nat->Int}{R C:List Nat}:gR (mnD f R C)=if dM f R C !=0 then some (R.length:Int) else none:=by
 show(if dM f R C !=0 then some (((R.map λ(k:Nat)=>D.int k).length:Nat):Int) else none)=_;rw[F4z]
theorem QS{m n i:Nat}{f:Nat->Nat->Int}{x:D}:x∈mA m n f i↔∃s R C,s<i/\R∈subs m (s+1)/\C∈subs n (s+1)/\x=mnD f R C:=by
 unfold mA mS;simp only[List.mem_flatMap,List.mem_map,List.mem_range];constructor
 .rintro⟨s,h,R,hR,C,hC,e⟩;exact⟨s,R,C,h,hR,hC,e.symm⟩
 .rintro⟨s,R,C,h,hR,hC,e⟩;exact⟨s,h,R,hR,C,hC,e.symm⟩
theorem zP(k:Nat){m n:Nat}{f:Nat->Nat->Int}(t:Tb m n f):aH T 60 (k+22) "rank" [tbl m n f]=some (.int (mxD ((mA m n f (min m n)).filterMap gR) 0)):=by
 have hl:=Av (f:=f) t.m1 t.m4 t.n1 t.n4 (i:=min m n) (by omega) (by omega);have h4:=t.m4;refine dh (fd:=aW (top 71)) rfl rfl (cV (Tj (ds:=((mA m n f (min m n)).filterMap gR).map D.int) rfl rfl (cW (l:=mA m n f (min m n)) rfl (wSq (x:=.lst (mA m n f (min m n))) rfl (aD rfl (by walk_at "xm") (all_minors k t)) rfl) (gZ (by omega)) (qL (g:=gR) λx hx=>?_)) (wA _)));obtain⟨s,R,C,hs,hR,hC,rfl⟩:=QS.mp hx;rw[Vo];refine Eq.trans (M9 (d:=.int (R.length:Int)) (t:=dM f R C !=0) rfl (jf (x:=.int (dM f R C)) (y:=.int 0) ?_ ?_ rfl) ?_) ?_
 .nofun
 .nofun
 .exact fj (ds:=[plL R]) rfl rfl rfl (aF (x:=plL R) (by nofun) cg) (Ia R)
 .congr 1
  split<;>rfl
end M92
namespace M92
open PySem DE PySem.StrLaws
abbrev cL(z:Str):List Nat:=z.cps.toList
abbrev mkS(l:List Nat):Str:=⟨l.toArray⟩
theorem Gd{x y:Str}(h:cL x=cL y):x=y:=Str.ext' (Array.ext' h)
theorem iu(x y:Str):cL (x++y)=cL x++cL y:=by show(x.cps++y.cps).toList=_;rw[Array.toList_append]
theorem f9(x:Str):x.length=(cL x).length:=rfl
def J(c:Nat):List (List Nat)->List Nat
 |[]=>[]
 |[a]=>a
 |a::b::r=>a++c::J c (b::r)
theorem RV(c:Nat)(a:List Nat):∀{r:List (List Nat)},r≠[]->J c (a::r)=a++c::J c r
 |[],h=>absurd rfl h
 |_::_,_=>rfl
theorem Bf(c:Nat):∀ws:List Str,cL (Str.join ⟨#[c]⟩ ws)=J c (ws.map cL)
 |[]=>rfl
 |[_]=>rfl
 |x::y::r=>by
  show cL (x++⟨#[c]⟩++Str.join ⟨#[c]⟩ (y::r))=_;rw[iu,iu,Bf c (y::r),C3z];rfl
theorem Dq(c:Nat)(ws:List Str):Txt.join ⟨#[c]⟩ ws=mkS (J c (ws.map cL)):=Gd (by
 show cL (Builtin.Str.glued _ _)=_
 rw[glued_eq_join,Bf])
theorem Wq{c:Nat}:∀{a b X Y:List Nat},c∉a->c∉b->a++c::X=b++c::Y->a=b/\X=Y
 |[],[],_,_,_,_,h=>⟨rfl,by simpa using h⟩
 |[],y::b,_,_,_,hb,h=>by
  rw[List.nil_append,T3z] at h;exact absurd (by rw[(Y5z h).1];simp) hb
 |x::a,[],_,_,ha,_,h=>by
  rw[List.nil_append,T3z] at h;exact absurd (by rw[(Y5z h).1];simp) ha
 |x::a,y::b,_,_,ha,hb,h=>by
  rw[T3z,T3z] at h;obtain⟨h1,h2⟩:=Y5z h;obtain⟨h3,h4⟩:=Wq (λz=>ha (E1z _ z)) (λz=>hb (E1z _ z)) h2;exact⟨by rw[h1,h3],h4⟩
theorem uniq{c:Nat}:∀{as bs:List (List Nat)},as≠[]->bs≠[]->(∀a∈as,c∉a)->(∀b∈bs,c∉b)->J c as=J c bs->as=bs
 |[],_,h,_,_,_,_=>absurd rfl h
 |_,[],_,h,_,_,_=>absurd rfl h
 |[a],[b],_,_,_,_,h=>by rw[show a=b from h]
 |[a],b::d::r,_,_,ha,_,h=>by
  have:c∈a:=by rw[show a=b++c::J c (d::r) from h];simp
  exact absurd this (ha a (by simp))
 |a::d::r,[b],_,_,_,hb,h=>by
  have:c∈b:=by rw[<- show a++c::J c (d::r)=b from h];simp
  exact absurd this (hb b (by simp))
 |a::d::r,b::e::t,_,_,ha,hb,h=>by
  obtain⟨h1,h2⟩:=Wq (ha a (by simp)) (hb b (by simp)) h;rw[h1,uniq (by simp) (by simp) (λx hx=>ha x (E1z _ hx)) (λx hx=>hb x (E1z _ hx)) h2]
def sp(z:Str)(c:Nat):List Str:=Txt.split z ⟨#[c]⟩
theorem Uc(z:Str)(c:Nat):sp z c≠[]:=by
 unfold sp Txt.split;split
 .simp
 .split
  .simp
  .rw[partsBetween_eq]
   obtain⟨p,r,h⟩:=partsFrom_ne z (⟨#[c]⟩:Str).length 0 (Builtin.Str.occurrences z ⟨#[c]⟩ 0 z.length (z.length+1));rw[h];simp
theorem Xb(z:Str)(c:Nat):J c ((sp z c).map cL)=cL z:=by rw[<- Bf];exact congrArg cL (join_split z _)
theorem Jk(z:Str)(c:Nat):∀w∈sp z c,c∉cL w:=split_free z c
theorem HX:∀{as bs:List Str},as.map cL=bs.map cL->as=bs
 |[],[],_=>rfl
 |a::as,b::bs,h=>by
  rw[O5z,O5z] at h;obtain⟨h1,h2⟩:=Y5z h;rw[Gd h1,HX h2]
theorem Pk{z:Str}{c:Nat}{ws:List Str}(hn:ws≠[])(hf:∀w∈ws,c∉cL w)(h:J c (ws.map cL)=cL z):sp z c=ws:=by
 have fr:∀{l:List Str},(∀w∈l,c∉cL w)->∀a∈l.map cL,c∉a:=λhl a ha=>by
  obtain⟨w,hw,rfl⟩:=List.mem_map.mp ha;exact hl w hw
 exact HX (uniq (by simpa using Uc z c) (by simpa using hn) (fr (Jk z c)) (fr hf) ((Xb z c).trans h.symm))
theorem Hr(z:Str)(c:Nat):(sp z c).length<=z.length+1:=by
 have:=PyProof.Rows.split_weight z ⟨#[c]⟩ (I6z 1);show(Txt.split z ⟨#[c]⟩).length<=_;omega
theorem Dz{z w:Str}{c:Nat}(h:w∈sp z c):w.length<=z.length:=PyProof.Rows.part_short h
theorem RT{c x:Nat}:∀{l:List (List Nat)},x∈J c l->x=c\/∃a∈l,x∈a
 |[],h=>by cases h
 |[a],h=>.inr ⟨a,by simp,h⟩
 |a::b::r,h=>by
  rcases List.mem_append.mp (show x∈a++c::J c (b::r) from h) with h|h
  .exact .inr ⟨a,by simp,h⟩
  .rcases V5z.mp h with h|h
   .exact .inl h
   .rcases RT h with h|⟨d,h1,h2⟩
    .exact .inl h
    .exact .inr ⟨d,E1z _ h1,h2⟩
def Asc(z:Str):Prop:=∀x∈cL z,x<128
def oL{α β:Type}(f:α->Option β):List α->Option (List β)
 |[]=>some []
 |a::r=>(f a).bind λb=>(oL f r).map (b::·)
theorem Ag{α β γ:Type}{f:α->Option β}{g:γ->α}{h:γ->β}:∀{l:List γ},(∀x∈l,f (g x)=some (h x))->oL f (l.map g)=some (l.map h)
 |[],_=>rfl
 |x::l,k=>by
  simp only[O5z,oL,k x (by simp),Z3z,Ag λy hy=>k y (E1z _ hy),K4z]
def uX:List (Str×Int):=(List.range 199).map λi=>(nT (num i),num i)
def val(w:Str):Option Int:=(uX.find? λp=>decide (p.1=w)).map (·.2)
theorem uW{v:Int}(h1:-99<=v)(h2:v<=99):∃i,i<199/\v=num i:=⟨(v+99).toNat,by omega,by unfold num;omega⟩
theorem vals:((List.range 199).map λi=>val (nT (num i)))=(List.range 199).map λi=>some (num i):=by rfl'
theorem vg{α:Type}{f g:Nat->α}{n i:Nat}(h:(List.range n).map f=(List.range n).map g)(hi:i<n):f i=g i:=by
 have:=congrArg (λl=>l[i]?) h;simpa[hi] using this
theorem Oo{v:Int}(h1:-99<=v)(h2:v<=99):val (nT v)=some v:=by
 obtain⟨i,hi,rfl⟩:=uW h1 h2;exact vg vals hi
def chB(l:List Nat):Bool:=l.all (λc=>decide (c≠10)&&decide (c≠32)&&decide (c<128))&&decide (l.length<=3)
theorem chs:((List.range 199).map λi=>chB (cL (nT (num i))))=(List.range 199).map λ_=>true:=by rfl'
theorem GZ{v:Int}(h1:-99<=v)(h2:v<=99):10∉cL (nT v)/\32∉cL (nT v)/\(nT v).length<=3/\Asc (nT v):=by
 obtain⟨i,hi,rfl⟩:=uW h1 h2;have h:=vg chs hi;unfold chB at h;rw[J3z,A4z] at h
 have k:∀c∈cL (nT (num i)),(c≠10/\c≠32)/\c<128:=λc hc=>by simpa using h.1 c hc
 exact⟨λz=>(k _ z).1.1 rfl,λz=>(k _ z).1.2 rfl,X2z h.2,λc hc=>(k c hc).2⟩
def rowL(r:List Int):List Nat:=J 32 (r.map λv=>cL (nT v))
def TTl(rows:List (List Int)):List Nat:=rows.flatMap λr=>rowL r++[10]
def TTZ(rows:List (List Int)):Str:=mkS (TTl rows)
theorem Hf:∀{rows:List (List Int)},rows≠[]->TTl rows=J 10 (rows.map rowL)++[10]
 |[],h=>absurd rfl h
 |[r],_=>by simp[TTl,J]
 |r::s::t,_=>by
  have:=Hf (rows:=s::t) (by simp);show(rowL r++[10])++TTl (s::t)=_;rw[this,C3z,<- C3z [10]];show _=(rowL r++10::J 10 (rowL s::t.map rowL))++[10];simp
def tD(rows:List (List Int)):D:=.tup (rows.map λr=>.tup (r.map .int))
structure TbR(rows:List (List Int)):Prop where
 ok:jH (tD rows)=true
 ne:rows≠[]
 len:rows.length<=4
 row:∀r∈rows,r≠[]/\r.length<=4/\∀v∈r,-99<=v/\v<=99
theorem Tt{rows:List (List Int)}(h:jH (tD rows)=true):TbR rows:=by
 have h0:=h;unfold jH gU at h;rw[J3z,J3z] at h;obtain⟨us,e,g1,g4,ga,_⟩:=kW h.1.1
 have e':us=rows.map λr=>D.tup (r.map D.int):=by unfold tD at e;cases e;rfl
 subst e';refine⟨h0,λz=>by subst z;simp at g1,by simpa using g4,λr hr=>?_⟩;have hm:D.tup (r.map D.int)∈rows.map λr=>D.tup (r.map D.int):=List.mem_map_of_mem hr;obtain⟨ys,e2,y1,y4⟩:=dD (A4z.mp ga _ hm);cases e2;refine⟨λz=>by subst z;simp at y1,by simpa using y4,λv hv=>?_⟩;have:=A4z.mp (A4z.mp h.2 _ hm) _ (List.mem_map_of_mem hv);simpa[within] using this
def Nz(f:Str->Option Int)(l:Str):Option (List Int):=oL f (sp l 32)
def rdP(y:Str):Option (List (List Int)):=oL (Nz val) (sp y 10)
theorem row_free{r:List Int}(h:∀v∈r,-99<=v/\v<=99):10∉rowL r:=λz=>by
 rcases RT z with z|⟨a,ha,z⟩
 .cases z
 .obtain⟨v,hv,rfl⟩:=List.mem_map.mp ha
  exact(GZ (h v hv).1 (h v hv).2).1 z
theorem Pj{r:List Int}(hn:r≠[])(h:∀v∈r,-99<=v/\v<=99):sp (mkS (rowL r)) 32=r.map nT:=by
 refine Pk (by simpa using hn) (λw hw=>?_) ?_
 .obtain⟨v,hv,rfl⟩:=List.mem_map.mp hw
  exact(GZ (h v hv).1 (h v hv).2).2.1
 .rw[H6z];rfl
theorem JB{f:Str->Option Int}{r:List Int}(hf:∀v,-99<=v->v<=99->f (nT v)=some v)(hn:r≠[])(h:∀v∈r,-99<=v/\v<=99):Nz f (mkS (rowL r))=some r:=by
 unfold Nz;rw[Pj hn h,Ag (h:=id) λv hv=>hf v (h v hv).1 (h v hv).2,P6z]
theorem DG{rows:List (List Int)}{z:Str}{more:List Str}(T:TbR rows)(hm:∀w∈more,10∉cL w)(h:J 10 (rows.map rowL++more.map cL)=cL z):sp z 10=(rows.map λr=>mkS (rowL r))++more:=by
 refine Pk (by simpa using λz=>absurd z T.ne) (λw hw=>?_) (by rw[U4z,H6z];exact h)
 rcases List.mem_append.mp hw with hw|hw
 .obtain⟨r,hr,rfl⟩:=List.mem_map.mp hw
  exact row_free (T.row r hr).2.2
 .exact hm w hw
theorem Jy{f:Str->Option Int}{rows:List (List Int)}(hf:∀v,-99<=v->v<=99->f (nT v)=some v)(T:TbR rows):oL (Nz f) (rows.map λr=>mkS (rowL r))=some rows:=by
 rw[Ag (g:=λr=>mkS (rowL r)) (h:=id) λr hr=>JB hf (T.row r hr).1 (T.row r hr).2.2,P6z]
theorem ends(z:Str):Txt.endswith z ⟨#[10]⟩=decide ((cL z).getLast?=some 10):=by
 unfold Txt.endswith;rw[subAt_eq];have e1:(⟨#[10]⟩:Str).length=1:=rfl;rw[e1,f9];rcases List.eq_nil_or_concat (cL z) with h|⟨y,c,h⟩
 .rw[h];rfl
 .rw[List.concat_eq_append] at h
  have h':z.cps.toList=y++[c]:=h;rw[h,h'];simp;rfl
def cutX(z:Str):Str:=Dj z none (some (-1))
theorem Im(z:Str):cL (cutX z)=(cL z).dropLast:=by
 show((z.cps.toList.drop 0).take _)=_;rw[List.drop_zero,D1z];congr 1;show((-1:Int)+((cL z).length:Int)).toNat-0=(cL z).length-1;omega
def okT(f:List (List Int)->Bool)(o:Option (List (List Int))):Option (List (List Int)):=o.bind λrows=>if f rows then some rows else none
theorem Ew{f:List (List Int)->Bool}{o:Option (List (List Int))}{rows:List (List Int)}(h:okT f o=some rows):o=some rows/\f rows=true:=by
 unfold okT at h
 cases o with
 |none=>cases h
 |some r =>
  rw[Z3z] at h;split at h
  .rename_i q;cases h;exact⟨rfl,q⟩
  .cases h
def rP(x:Str):Option (List (List Int)):=if Txt.endswith x ⟨#[10]⟩ then okT (λrows=>jH (tD rows)) (rdP (cutX x)) else none
theorem XS{rows:List (List Int)}(T:TbR rows):cL (TTZ rows)=J 10 (rows.map rowL)++[10]:=Hf T.ne
theorem Uq{rows:List (List Int)}(T:TbR rows):rP (TTZ rows)=some rows:=by
 have hx:=XS T;unfold rP;rw[ends,hx,G7z (by simp)]
 have e:cL (cutX (TTZ rows))=J 10 (rows.map rowL):=by rw[Im,hx,List.dropLast_concat]
 unfold rdP okT;rw[DG (more:=[]) T (λw hw=>by cases hw) (by rw[e];simp),G4z,Jy (λv=>Oo) T,Z3z,G7z T.ok]
abbrev jy(i j:Nat):Stmt:=(aW (top i)).body.getD j (.Pass ⟨0,0,0,0⟩)
theorem written(k:Nat):aH T 60 (k+3) "written_numbers" []=some (BP (uX.map λp=>(.inr p.1,.int p.2))):=by rfl'
end M92
namespace DE
open PySem
section
variable{cx:Cxt}{n F m:Nat}{sc scope:Scope}{ρ:Rho}{p q ap:Pos}{a b e o tg elt iter:Expr}{nm c:Str}{d x z:D}
theorem xTm{M:Str}(h:(JL o&&ap.endLine==p.line&&(PN cx sc e).isNone)=true)(h1:ev cx n sc ρ o=some x)(h2:ev cx n sc ρ e=some z)(h4:bR M x z=some d):ev cx (n+1) sc ρ (.Call (.Attribute o M ap) [e] [] p)=some d:=by
 rw[J3z] at h
 have hr:PN cx sc e=none:=by simpa using h.2
 simp only[ev,h.1,F7z,h1,hr,h2,bind,Z3z,h4]
theorem VR{z:Str}{lo hi:Option Expr}{l u:Option Int}(h1:ev cx n sc ρ a=some (.str z))(h2:oI cx n sc ρ lo=some l)(h3:oI cx n sc ρ hi=some u)(hz:szl z.length=true):ev cx (n+1) sc ρ (.Subscript a (.Slice lo hi none q) p)=some (.str (Dj z l u)):=by
 have e:∀(A B:Option (Option Int)),A=some l->B=some u->(A.bind λl=>B.bind λh=>if szl z.length=true then some (D.str (Dj z l h)) else none)=some (.str (Dj z l u)):=by
  intro A B hA hB;rw[hA,hB];simp only[Z3z,hz,F7z]
 simp only[ev,h1,bind,Z3z];exact e _ _ h2 h3
end
end DE
namespace M92
open PySem DE PySem.StrLaws
theorem jV:∀ts:List Str,m9 (ts.map D.str)=some ts
 |[]=>rfl
 |t::ts=>by simp only[O5z,m9,jV ts,K4z]
theorem Oq(w:Str):nA (uX.map λp=>Sum.inr p.1) (uX.map λp=>D.int p.2) (.inr w)=(val w).map D.int:=by
 have key:∀l:List (Str×Int),nA (l.map λp=>Sum.inr p.1) (l.map λp=>D.int p.2) (.inr w)=((l.find? λp=>decide (p.1=w)).map (·.2)).map D.int:=by
  intro l
  induction l with
  |nil=>rfl
  |cons a l ih =>
   unfold nA at ih ⊢;simp only[O5z,I2z,List.find?_cons,Sum.inr.injEq]
   cases decide (a.1=w) with
   |true=>rfl
   |false=>exact ih
 exact key uX
theorem Rx:BP (uX.map λp=>(.inr p.1,.int p.2))=.dic (uX.map λp=>Sum.inr p.1) (uX.map λp=>D.int p.2):=by
 unfold BP;rw[H6z,H6z];rfl
theorem number_text(k:Nat){v:Int}(h1:-99<=v)(h2:v<=99):aH T 60 (k+2) "number_text" [.int v]=some (.str (nT v)):=by
 obtain⟨i,hi,rfl⟩:=uW h1 h2;exact vg (Ah k) hi
theorem Q8{c:Nat}{ts:List Str}{B:Nat}(hB:∀y∈ts,y.length<=B)(h:ts.length*B+ts.length<=16777216):JoinOk ⟨#[c]⟩ ts=true:=by
 unfold JoinOk;rw[joinFits hB (by show ts.length*B+ts.length*1<=_;omega)];rfl
theorem V3{z:Str}{ts:List Str}(h:JoinOk z ts=true):bR "join" (.str z) (.lst (ts.map D.str))=some (.str (Txt.join z ts)):=by
 simp only[bR,L3z,F7z,jV,Z3z,h]
theorem IV{c:Nat}{ts:List Str}{B:Nat}(hB:∀y∈ts,y.length<=B)(h:ts.length*B+ts.length<=16777216):bR "join" (.str ⟨#[c]⟩) (.lst (ts.map D.str))=some (.str (mkS (J c (ts.map cL)))):=by
 rw[V3 (Q8 hB h),Dq]
theorem ur{ts:List Str}{B:Nat}(hB:∀y∈ts,y.length<=B)(h:ts.length*B<=16777216):bR "join" (.str ⟨#[]⟩) (.lst (ts.map D.str))=some (.str (mkS (ts.flatMap cL))):=by
 have hj:JoinOk ⟨#[]⟩ ts=true:=by
  unfold JoinOk;rw[joinFits hB (by show ts.length*B+ts.length*0<=_;omega)];rfl
 have e:∀l:List Str,cL (Str.join ⟨#[]⟩ l)=l.flatMap cL:=by
  intro l
  induction l with
  |nil=>rfl
  |cons a l ih =>
   cases l with
   |nil=>simp[Str.join]
   |cons b l =>
    show cL (a++⟨#[]⟩++Str.join ⟨#[]⟩ (b::l))=_;rw[iu,iu,ih];simp
 rw[V3 hj];congr 2;exact Gd ((congrArg cL (glued_eq_join _ _)).trans (e ts))
theorem rT{r:List Int}(h4:r.length<=4)(hv:∀v∈r,-99<=v/\v<=99):(rowL r).length<=16:=by
 have key:∀l:List (List Nat),(∀a∈l,a.length<=3)->(J 32 l).length<=4*l.length:=by
  intro l
  induction l with
  |nil=>intro _;exact I6z _
  |cons a l ih =>
   intro ha
   cases l with
   |nil=>have:=ha a (by simp);simp only[J,List.length_singleton];omega
   |cons b l =>
    have h1:=ha a (by simp);have h2:=ih λx hx=>ha x (E1z _ hx);simp only[J,B2z,E3z] at h2 ⊢;omega
 have:=key (r.map λv=>cL (nT v)) λa ha=>by
  obtain⟨v,hv',rfl⟩:=List.mem_map.mp ha;exact(GZ (hv v hv').1 (hv v hv').2).2.2.1
 rw[F4z] at this;unfold rowL;omega
theorem row_text(k:Nat){r:List Int}(h4:r.length<=4)(hv:∀v∈r,-99<=v/\v<=99):aH T 60 (k+3) "row_text" [.tup (r.map D.int)]=some (.str (mkS (rowL r++[10]))):=by
 refine dh (fd:=aW (top 41)) rfl rfl (cV (d9 (x:=.str (mkS (rowL r))) (y:=.str ⟨#[10]⟩) ?_ (by nofun) ?_))
 .refine xTm (x:=.str ⟨#[32]⟩) (z:=.lst ((r.map nT).map D.str)) rfl (by nofun) ?_ ?_
  .refine cW (l:=r.map D.int) rfl (wSq rfl (by nofun) rfl) (gZ (by rw[F4z];omega)) ?_
   rw[cH (g:=λx=>match x with|D.int v=>D.str (nT v)|d=>d) λx hx=>?_,H6z,H6z]
   .rfl
   .obtain⟨v,hv',rfl⟩:=List.mem_map.mp hx
    refine dj rfl ?_;refine' aD ?L92p_1a ?L92p_1b ?L92p_1c;(case L92p_1a=>rfl);(case L92p_1b=>walk_at "xm");(case L92p_1c=>exact number_text k (hv v hv').1 (hv v hv').2)
  .rw[IV (B:=3) (λy hy=>?_) (by rw[F4z];omega),H6z]
   .rfl
   .obtain⟨v,hv',rfl⟩:=List.mem_map.mp hy
    exact(GZ (hv v hv').1 (hv v hv').2).2.2.1
 .have:=rT h4 hv
  show(if szl ((mkS (rowL r)).length+1)=true then some (D.str (mkS (rowL r)++⟨#[10]⟩)) else none)=_;rw[G7z (gZ (by show(rowL r).length+1<=_;omega))];exact congrArg (λz=>some (D.str z)) (Gd (iu _ _))
theorem yO{rows:List (List Int)}:dep (tD rows)<=2:=by
 have h1:deps (rows.map λr=>D.tup (r.map D.int))<=1:=iB λd hd=>by
  obtain⟨r,_,rfl⟩:=List.mem_map.mp hd
  have h2:deps (r.map D.int)<=0:=iB λd hd=>by
   obtain⟨v,_,rfl⟩:=List.mem_map.mp hd;exact I6z _
  simp only[dep];omega
 unfold tD;simp only[dep];omega
theorem Lk{rows:List (List Int)}(Q:TbR rows):gU (tD rows)=true:=by
 have h:=Q.ok;unfold jH at h;rw[J3z] at h;exact h.1
theorem table_text(k:Nat){rows:List (List Int)}(Q:TbR rows):aH T 60 (k+5) "table_text" [tD rows]=some (.str (TTZ rows)):=by
 have hl:=Q.len;refine dh (fd:=aW (top 42)) rfl rfl (vC (d:=.non) rfl ?_ (cV ?_))
 .refine' aD ?L92p_2a ?L92p_2b ?L92p_2c;(case L92p_2a=>rfl);(case L92p_2b=>walk_at "xm");(case L92p_2c=>exact Aj k (C2z yO (by decide)) (Lk Q))
 .refine xTm (x:=.str ⟨#[]⟩) (z:=.lst ((rows.map λr=>mkS (rowL r++[10])).map D.str)) rfl (by nofun) ?_ ?_
  .refine cW (l:=rows.map λr=>D.tup (r.map D.int)) rfl (wSq rfl (by nofun) rfl) (gZ (by rw[F4z];omega)) ?_
   have key:∀l:List (List Int),(∀r∈l,r.length<=4/\∀v∈r,-99<=v/\v<=99)->∀(f:D->Option (Option D)),(∀r:List Int,r.length<=4->(∀v∈r,-99<=v/\v<=99)->f (.tup (r.map D.int))=some (some (.str (mkS (rowL r++[10])))))->aU f (l.map λr=>D.tup (r.map D.int))=some ((l.map λr=>mkS (rowL r++[10])).map D.str):=by
    intro l
    induction l with
    |nil=>intro _ _ _;rfl
    |cons r l ih =>
     intro h f hf;simp only[O5z,aU,hf r (h r (by simp)).1 (h r (by simp)).2,ih (λr hr=>h r (E1z _ hr)) f hf];rfl
   refine key rows (λr hr=>(Q.row r hr).2) _ λr h4 hv=>dj rfl ?_;refine' aD ?L92p_3a ?L92p_3b ?L92p_3c;(case L92p_3a=>rfl);(case L92p_3b=>walk_at "xm");(case L92p_3c=>exact row_text (k+1) h4 hv)
  .rw[ur (B:=17) (λy hy=>?_) (by rw[F4z];omega)]
   .rw[List.flatMap_map];rfl
   .obtain⟨r,hr,rfl⟩:=List.mem_map.mp hy
    have:=rT (Q.row r hr).2.1 (Q.row r hr).2.2;show(rowL r++[10]).length<=17;simp;omega
end M92
namespace DE
open PySem
theorem Oj{cx:Cxt}{n:Nat}{sc:Scope}{ρ:Rho}{nm:Str}{q p:Pos}{d:D}(hf:(K9 cx sc nm&&(cx.blt.lookup nm).isNone&&cx.fns.contains nm)=true)(h:cx.call nm []=some d):ev cx (n+1) sc ρ (.Call (.Name nm q) [] [] p)=some d:=by
 rw[J3z,J3z] at hf;obtain⟨⟨h2,h3⟩,h4⟩:=hf
 have h3':cx.blt.lookup nm=none:=by simpa using h3
 simp only[ev,h2,h3',h4,F7z];exact h
end DE
namespace M92
open PySem DE PySem.StrLaws
theorem gk{α:Type}{f:D->Option (Option D)}{h g:α->D}:∀{l:List α},(∀x∈l,f (h x)=some (some (g x)))->aU f (l.map h)=some (l.map g)
 |[],_=>rfl
 |x::l,k=>by
  simp only[O5z,aU,k x (by simp),gk λy hy=>k y (E1z _ hy)];rfl
theorem qK{α β:Type}{f:α->Option β}{F:D->Option (Option D)}{h:α->D}{g:β->D}(hf:∀a b,f a=some b->F (h a)=some (some (g b))):∀{l:List α}{r:List β},oL f l=some r->aU F (l.map h)=some (r.map g)
 |[],r,e=>by cases e;rfl
 |x::l,r,e=>by
  simp only[oL,N0z,R0z] at e;obtain⟨b,hb,t,ht,rfl⟩:=e;simp only[O5z,aU,hf x b hb,qK hf ht];rfl
theorem RM{α:Type}{p:α->Bool}:∀{l:List α},blt "all" [.lst (l.map λx=>.bl (p x))]=some (.bl (l.all p)):=by
 intro l
 have e:(l.map λx=>D.bl (p x))=(l.map λx=>D.bl (p x)).map λd=>D.bl (match d with|D.bl b=>b|_=>false):=by
  rw[H6z];rfl
 rw[e,rB,List.all_map];rfl
theorem pZ{α β:Type}{f:α->Option β}:∀{l:List α},(l.all λx=>(f x).isSome)=(oL f l).isSome
 |[]=>rfl
 |x::l=>by
  rw[U5z,pZ];simp only[oL]
  cases f x with
  |none=>rfl
  |some b=>cases oL f l<;>rfl
theorem HN{z:Str}:(sp z 32).length<=z.length+1:=Hr z 32
theorem uq{z:Str}{c:Nat}(h:z.length<=1000):bR "split" (.str z) (.str ⟨#[c]⟩)=some (.lst ((sp z c).map D.str)):=by
 have e:szl z.length=true:=gZ (by omega);have e1:((⟨#[c]⟩:Str).length==0)=false:=rfl;simp only[bR,L3z,e,e1,J5z,T5z,F7z];rfl
def N5:D:=.dic (uX.map λp=>Sum.inr p.1) (uX.map λp=>D.int p.2)
theorem Dp(k:Nat):aH T 60 (k+3) "written_numbers" []=some N5:=by rw[written,Rx];rfl
def PB(z:Str):Rho:=[("line",.sh (.str z)),("numbers",.sh N5),("words",.sh (.lst ((sp z 32).map D.str)))]
theorem Ad{cx:Cxt}{F m:Nat}{sc:Scope}{s:Stmt}{ρ ρ1:Rho}(h:blk cx F m sc [s] ρ=some (.nxt ρ1)):st cx F m sc ρ s=some (.nxt ρ1):=by
 unfold blk at h;simp only[lV,bind,N0z] at h;obtain⟨f,h1,h2⟩:=h
 cases f with
 |nxt ρ=>rw[h1];exact h2
 |ret d=>cases h2
theorem Jz(k:Nat){z:Str}(h:z.length<=1000){fl:Fl}
  (hc:blk (cxN T 60 (k+3)) 60 60 (aW (top 44)).sc ((aW (top 44)).body.drop 2) (PB z)=some fl):blk (cxN T 60 (k+3)) 60 60 (aW (top 44)).sc (aW (top 44)).body (bD (aW (top 44)) [.str z])=some fl:=by
 refine oh rfl (d:=N5) (Oj rfl (Dp k)) (oh rfl (d:=.lst ((sp z 32).map D.str)) ?_ hc);exact xTm (x:=.str z) (z:=.str ⟨#[32]⟩) rfl (by nofun) (by nofun) (uq h)
theorem Rb(w:Str):cmpop .In (.str w) N5=some (.bl (val w).isSome):=by
 show some (D.bl (nA (uX.map λp=>Sum.inr p.1) (uX.map λp=>D.int p.2) (.inr w)).isSome)=_
 rw[Oq];cases val w<;>rfl
theorem row_cond(k:Nat){z:Str}(h:z.length<=1000):ev (cxN T 60 (k+3)) 59 (aW (top 44)).sc (PB z) (match jy 44 2 with|.If (.UnaryOp _ c _) _ _ _=>c|_=>.Name "" ⟨0,0,0,0⟩)=some (.bl (Nz val z).isSome):=by
 have hl:=HN (z:=z);refine fj rfl rfl rfl (aF (cW (l:=(sp z 32).map D.str) rfl (wSq rfl (by nofun) rfl) (gZ (by rw[F4z];omega)) (gk (g:=λw=>.bl (val w).isSome) λw hw=>dj rfl ?_)) cg) (by rw[RM,pZ];rfl);exact jf (x:=.str w) (y:=N5) (by nofun) (by nofun) (Rb w)
theorem rZ(k:Nat){z:Str}{r:List Int}(h:z.length<=1000)(hr:Nz val z=some r):aH T 60 (k+4) "read_row" [.str z]=some (.tup (r.map D.int)):=by
 refine dh (fd:=aW (top 44)) rfl rfl (Jz k h (o8 (jh ?_) (cV ?_)))
 .have:=row_cond k h
  rw[hr] at this;exact this
 .have hl:=HN (z:=z)
  refine fj rfl rfl rfl (aF (cW (l:=(sp z 32).map D.str) rfl (wSq rfl (by nofun) rfl) (gZ (by rw[F4z];omega)) (qK (g:=D.int) (λw v hv=>dj rfl ?_) hr)) cg) rfl
  refine Tn (x:=N5) (y:=.str w) (by nofun) (by nofun) ?_;show nA (uX.map λp=>Sum.inr p.1) (uX.map λp=>D.int p.2) (.inr w)=_;rw[Oq,hv];rfl
theorem mY{α β:Type}{f:α->Option β}{F:D->Option (Option D)}{h:α->D}{g:β->D}:∀{l:List α}{r:List β},(∀a∈l,∀b,f a=some b->F (h a)=some (some (g b)))->oL f l=some r->aU F (l.map h)=some (r.map g)
 |[],r,_,e=>by cases e;rfl
 |x::l,r,hf,e=>by
  simp only[oL,N0z,R0z] at e;obtain⟨b,hb,t,ht,rfl⟩:=e;simp only[O5z,aU,hf x (by simp) b hb,mY (λa ha=>hf a (E1z _ ha)) ht];rfl
theorem IW{z:Str}:bR "endswith" (.str z) (.str ⟨#[10]⟩)=some (.bl (Txt.endswith z ⟨#[10]⟩)):=by
 have e:(("endswith":Str)=="split")=false:=by decide +kernel
 simp only[bR,e,Y4z,D2z,C7z,L3z,F7z]
def JC(z:Str):Rho:=[("text",.sh (.str z)),("table",.no)]
theorem tR{z:Str}(h:z.length<=1000):(cutX z).length<=1000:=by
 have:(cL z).length<=1000:=h;rw[f9,Im,List.length_dropLast];omega
theorem Fw(k:Nat){z:Str}{n:Nat}(h:z.length<=1000):ev (cxN T 60 k) (n+4) (aW (top 45)).sc (JC z) (match jy 45 1 with|.Assign _ (.Call _ [.ListComp _ [⟨_,i,_,_⟩] _ _] _ _) _=>i|_=>.Name "" ⟨0,0,0,0⟩)=some (.lst ((sp (cutX z) 10).map D.str)):=by
 refine xTm (x:=.str (cutX z)) (z:=.str ⟨#[10]⟩) rfl ?_ (by nofun) (uq (tR h));exact VR (l:=none) (u:=some (-1)) (by nofun) EY (Ez (Oc (i:=1) (by nofun))) (gZ (by omega))
theorem zO(k:Nat){z:Str}:ev (cxN T 60 k) 60 (aW (top 45)).sc (JC z) (match jy 45 0 with|.If c _ _ _=>c|_=>.Name "" ⟨0,0,0,0⟩)=some (.bl (!Txt.endswith z ⟨#[10]⟩)) :=
 gM (Nu (jh (Od rfl rfl rfl (by nofun) rfl)) (yu (Sg (xTm (x:=.str z) (z:=.str ⟨#[10]⟩) rfl (by nofun) (by nofun) IW))))
theorem Xa{z:Str}(h:z.length<=1000):((sp (cutX z) 10).map D.str).length<=100000:=by
 have:=Hr (cutX z) 10;have:=tR h;rw[F4z];omega
theorem zN(k:Nat){z:Str}{rows:List (List Int)}(h:z.length<=1000)(hr:rdP (cutX z)=some rows):ev (cxN T 60 (k+5)) 60 (aW (top 45)).sc (JC z) (match jy 45 1 with|.Assign _ e _=>e|_=>.Name "" ⟨0,0,0,0⟩)=some (tD rows):=by
 refine fj rfl rfl rfl (aF (cW (l:=(sp (cutX z) 10).map D.str) rfl (wSq rfl (Fw _ h) rfl) (gZ (Xa h)) (mY (g:=λr=>D.tup (r.map D.int)) (λl hl r hv=>dj rfl ?_) hr)) cg) rfl;have:=Dz hl;have:=tR h;refine' aD ?L92r_1a ?L92r_1b ?L92r_1c;(case L92r_1a=>rfl);(case L92r_1b=>walk_at "xm");(case L92r_1c=>exact rZ (k+1) (by omega) hv)
theorem JM(k:Nat){z:Str}{rows:List (List Int)}(h:z.length<=1000)(hr:rP z=some rows):aH T 60 (k+6) "read_table" [.str z]=some (tD rows):=by
 unfold rP at hr;split at hr
 .rename_i he
  obtain⟨h1,h2⟩:=Ew hr;refine dh (fd:=aW (top 45)) rfl rfl (o8 ?_ (oh rfl (d:=tD rows) (zN k h h1) (o8 (jh ?_) (cV (by nofun)))))
  .have:=zO (k+5) (z:=z)
   rw[he] at this;exact this
  .have:=is_table (k+1) (d:=tD rows) (C2z yO (by decide))
   rw[h2] at this;refine' aD ?L92r_2a ?L92r_2b ?L92r_2c;(case L92r_2a=>rfl);(case L92r_2b=>walk_at "xm");(case L92r_2c=>exact this)
 .cases hr
end M92
namespace M92
open PySem DE PySem.StrLaws PySem.Builtin PySem.Builtin.Str
abbrev yy:Str:=⟨#[10,10]⟩
def NN:List Nat->Bool
 |[]=>true
 |[c]=>c !=10
 |c::d::r=>(c !=10||d !=10)&&NN (d::r)
theorem NN.tail{c:Nat}{r:List Nat}(h:NN (c::r)=true):NN r=true:=by
 cases r with
 |nil=>rfl
 |cons d r=>unfold NN at h;rw[J3z] at h;exact h.2
theorem NN.drop:∀{l:List Nat}(k:Nat),NN l=true->NN (l.drop k)=true
 |_,0,h=>h
 |[],_+1,_=>rfl
 |_::_,k+1,h=>NN.drop k (NN.tail h)
theorem NN.no:∀{l t:List Nat},NN l=true->l≠[]->(l++t).take 2≠[10,10]
 |[],_,_,h,_=>h rfl
 |[c],t,h,_,e=>by
  cases t with
  |nil=>simp at e
  |cons d t=>simp at e;simp[NN,e.1] at h
 |c::d::r,t,h,_,e=>by
  simp at e;simp[NN,e.1,e.2] at h
theorem NN.free:∀{a:List Nat},10∉a->NN a=true
 |[],_=>rfl
 |[c],h=>by simp at h;simp[NN];omega
 |c::d::r,h=>by
  have:=NN.free (a:=d::r) λz=>h (E1z _ z);have hc:c≠10:=λz=>h (by simp[z]);unfold NN;rw[this,X6z.mpr hc];rfl
theorem NN.app{t:List Nat}(ht:NN (10::t)=true):∀{a:List Nat},10∉a->NN (a++10::t)=true
 |[],_=>ht
 |[c],h=>by
  have hc:c≠10:=λz=>h (by simp[z]);show((c !=10||(10:Nat) !=10)&&NN (10::t))=true;rw[ht,X6z.mpr hc];rfl
 |c::d::r,h=>by
  have:=NN.app ht (a:=d::r) λz=>h (E1z _ z);have hc:c≠10:=λz=>h (by simp[z]);show((c !=10||d !=10)&&NN (d::r++10::t))=true;rw[this,X6z.mpr hc];rfl
theorem NN.J:∀{l:List (List Nat)},(∀a∈l,a≠[]/\10∉a)->NN (M92.J 10 l)=true
 |[],_=>rfl
 |[a],h=>NN.free (h a (by simp)).2
 |a::b::r,h=>by
  have ih:=NN.J (l:=b::r) λx hx=>h x (E1z _ hx);refine NN.app ?_ (h a (by simp)).2;obtain⟨b1,b2⟩:=h b (by simp)
  obtain⟨c,q,e⟩:∃c q,M92.J 10 (b::r)=c::q/\c≠10:=by
   cases b with
   |nil=>exact absurd rfl b1
   |cons c b=>cases r with
    |nil=>exact⟨c,b,rfl,λz=>b2 (by simp[z])⟩
    |cons d r=>exact⟨c,_,rfl,λz=>b2 (by simp[z])⟩
  rw[e.1] at ih ⊢;show(((10:Nat) !=10||c !=10)&&NN (c::q))=true;rw[ih,X6z.mpr e.2];rfl
def J2:List (List Nat)->List Nat
 |[]=>[]
 |[a]=>a
 |a::b::r=>a++10::10::J2 (b::r)
def cutsOf:Nat->List (List Nat)->List Nat
 |_,[]=>[]
 |_,[_]=>[]
 |a,b::c::r=>(a+b.length)::cutsOf (a+b.length+2) (c::r)
theorem at2{x:Str}{k:Nat}:At x yy x.length k↔((cL x).drop k).take 2=[10,10]:=by
 unfold At;rw[subAt_eq];show(k+2<=x.length/\(((cL x).drop k).take 2==[10,10])=true)↔_;rw[W6z];refine⟨λh=>h.2,λh=>⟨?_,h⟩⟩;have:=congrArg List.length h;rw[G3z,H3z,<- f9] at this;simp at this;omega
theorem uw{x:Str}{a b:Nat}{l:List Nat}(h:((cL x).drop a).take (b-a)=l):strSub x a b=mkS l:=Gd (by
 rw[<- h];exact strSub_toList x a b)
theorem vY{x:Str}:∀(bs:List (List Nat))(a:Nat),bs≠[]->(∀B∈bs,NN B=true)->(cL x).drop a=J2 bs->a<=x.length->∃f,ChainG x yy x.length a (cutsOf a bs) f/\(∀k,f<=k->¬ At x yy x.length k)/\partsFrom x 2 a (cutsOf a bs)=bs.map mkS
 |[],_,h,_,_,_=>absurd rfl h
 |[B],a,_,hB,e,ha=>by
  have e:(cL x).drop a=B:=e;refine⟨a,rfl,λk hk hA=>?_,?_⟩
  .rw[at2,show k=a+(k-a) by omega,<- K5z,e] at hA
   by_cases hn:B.drop (k-a)=[]
   .rw[hn] at hA;cases hA
   .have:=NN.no (t:=[]) (NN.drop (k-a) (hB B (by simp))) hn
    rw[G4z] at this;exact this hA
  .show[strSub x a x.length]=[mkS B]
   rw[uw (l:=B) (by rw[<- e];exact U0z (by rw[H3z,<- f9];exact I6z _))]
 |B::C::r,a,_,hB,e,ha=>by
  have e:(cL x).drop a=B++10::10::J2 (C::r):=e
  have hl:(cL x).length-a=B.length+(2+(J2 (C::r)).length):=by
   have:=congrArg List.length e;rw[H3z,B2z,E3z,E3z] at this;omega
  rw[<- f9] at hl
  have e2:(cL x).drop (a+B.length)=10::10::J2 (C::r):=by rw[<- K5z,e,List.drop_left]
  have e3:(cL x).drop (a+B.length+2)=J2 (C::r):=by rw[<- K5z,e2];rfl
  obtain⟨f,h1,h2,h3⟩:=vY (x:=x) (C::r) (a+B.length+2) (by simp) (λb hb=>hB b (E1z _ hb)) e3 (by omega);refine⟨f,⟨by omega,at2.mpr (by rw[e2];rfl),λk k1 k2 hA=>?_,h1⟩,h2,?_⟩
  .rw[at2,show k=a+(k-a) by omega,<- K5z,e,List.drop_append_of_le_length (by omega)] at hA
   exact NN.no (NN.drop (k-a) (hB B (by simp))) (λz=>by have:=congrArg List.length z;rw[H3z] at this;simp at this;omega) hA
  .show strSub x a (a+B.length)::partsFrom x 2 (a+B.length+2) (cutsOf (a+B.length+2) (C::r))=_
   rw[h3,uw (l:=B) (by rw[e,Nat.add_sub_cancel_left,List.take_left])];rfl
theorem mZ{x y:Str}:∀{l1 l2:List Nat}{a f1 f2:Nat},ChainG x y x.length a l1 f1->(∀k,f1<=k->¬ At x y x.length k)->ChainG x y x.length a l2 f2->(∀k,f2<=k->¬ At x y x.length k)->l1=l2
 |[],[],_,_,_,_,_,_,_=>rfl
 |[],c::r,a,_,_,h1,n1,h2,_=>by
  cases (show _=a from h1);exact absurd h2.2.1 (n1 c h2.1)
 |c::r,[],a,_,_,h1,_,h2,n2=>by
  cases (show _=a from h2);exact absurd h1.2.1 (n2 c h1.1)
 |c::r,d::q,a,_,_,h1,n1,h2,n2=>by
  rcases Nat.lt_trichotomy c d with h|rfl|h
  .exact absurd h1.2.1 (h2.2.2.1 c h1.1 h)
  .rw[mZ h1.2.2.2 n1 h2.2.2.2 n2]
  .exact absurd h2.2.1 (h1.2.2.1 d h2.1 h)
theorem Ve(x:Str):(decide (strKind x<strKind yy))=false:=by
 have e:strKind yy=1:=by rfl'
 rw[e];refine B4z ?_;unfold PySem.Builtin.Str.strKind;split
 .omega
 .split<;>omega
theorem Ph{x:Str}{bs:List (List Nat)}(hn:bs≠[])(hB:∀B∈bs,NN B=true)(e:cL x=J2 bs):Txt.split x yy=bs.map mkS:=by
 obtain⟨f,h1,h2,h3⟩:=vY (x:=x) bs 0 hn hB e (K6z _);obtain⟨f',g1,g2⟩:=occ_tight x yy (by decide);have eo:=mZ g1 g2 h1 h2
 match bs,hn,e with
 |[B],_,e =>
  have ex:x=mkS B:=Gd e;have eo:occurrences x yy 0 x.length (x.length+1)=[]:=eo;unfold Txt.split;rw[eo];show(if _ then[x] else[x])=[mkS B];rw[ite_self,ex]
 |B::C::r,_,e =>
  unfold Txt.split
  have hl:x.length=B.length+(2+(J2 (C::r)).length):=by
   have:=congrArg List.length e;rw[<- f9] at this;show x.length=_;rw[this];show(B++10::10::J2 (C::r)).length=_;rw[B2z,E3z,E3z];omega
  rw[Ve,Bool.or_false,H7z (by rw[K2z];show ¬ x.length<2;omega),eo,H7z (by intro z;cases z),partsBetween_eq]
  exact h3
theorem part1{z:Str}{n t:List Nat}(e:cL z=n++10::t)(hn:10∉n):Txt.partition z ⟨#[10]⟩=(mkS n,⟨#[10]⟩,mkS t):=by
 have ha:(cL z)[n.length]?=some 10:=by rw[e];simp
 have hA:At z ⟨#[10]⟩ z.length n.length:=(subAt_one z 10 n.length).mpr ha;unfold Txt.partition;rcases occ_head z ⟨#[10]⟩ 1 (I6z 1) with⟨h0,h1⟩|⟨i,r,h0,h1,h2⟩
 .exact absurd hA (h1 _)
 .rw[h0]
  have hi:i=n.length:=by
   rcases Nat.lt_trichotomy i n.length with h|h|h
   .have:=(subAt_one z 10 i).mp h1
    have e':z.cps.toList=n++10::t:=e;rw[e',List.getElem?_append_left h] at this;exact absurd (List.mem_of_getElem? this) hn
   .exact h
   .exact absurd hA (h2 _ h)
  subst hi;show(strSub z 0 n.length,_,strSub z (n.length+1) z.length)=_
  rw[uw (l:=n) (by rw[e];simp),uw (l:=t) (by
   rw[e,<- K5z,List.drop_left];refine U0z ?_;have:=congrArg List.length e;rw[<- f9,B2z,E3z] at this;show t.length<=_
   omega)]
theorem Vv{z:Str}{w:List Nat}(e:cL z=w++[10,10]):Txt.endswith z yy=true:=by
 unfold Txt.endswith;rw[subAt_eq]
 have hl:z.length=w.length+2:=by rw[f9,e];simp
 have e':z.cps.toList=w++[10,10]:=e;have e1:(yy:Str).length=2:=rfl;rw[e1,hl,e'];simp
theorem XC{z:Str}{w:List Nat}(e:cL z=w++[10,10]):Dj z none (some (-2))=mkS w:=Gd (by
 show((z.cps.toList.drop 0).take _)=w;rw[List.drop_zero]
 have hl:(cL z).length=w.length+2:=by rw[e];simp
 show List.take (((-2:Int)+((cL z).length:Int)).toNat-0) (cL z)=w
 rw[show((-2:Int)+((cL z).length:Int)).toNat-0=w.length by omega,e,List.take_left])
end M92
namespace L2
open PySem PySem.Spec PyProof.Rows
open DE (D)
set_option genInjectivity true in
inductive MR where
 |val (d:D) (S:Cst)
 |exc (c:Str)
def Np(K:Zf)(C p d dn un:Addr)(Hs H:Hp)(Q:VK)(E:XK):MR->Prop
 |.val r S=>∀v H' Hs' un',ExtM p d dn un un' Hs H Hs' H'->CRep K C Hs' H' p d dn un' S->Rep K Hs' r v->Q v H'
 |.exc c=>∀Cc H' Hs',W.nsIn K mainGlobals c=some (some (.ref Cc))->Ext Hs H Hs' H'->E (.ref Cc) none H'
def spM(K:Zf)(C:Addr)(n:Nat)(f:Cst->List D->Option MR):Sp:=λvs H Q E=>∃(p d dn un:Addr)(Hs:Hp)(S:Cst)(ds:List D)(us:List V)(o:MR),
 vs=.ref p::us/\ds.length=n/\Same Hs H/\CRep K C Hs H p d dn un S/\aJ K Hs ds us/\f S ds=some o/\Np K C p d dn un Hs H Q E o
theorem jk{K:Zf}(h:spM K C n f vs H Q E):vs.length=n+1:=by
 obtain⟨p,d,dn,un,Hs,S,ds,us,o,rfl,e,_,_,r,_⟩:=h;rw[E3z,<- r.length,e]
def wW(S:Cst)(n:Str):D->Option Cst
 |.non=>if(qx S.tabs n).isSome then some {S with tabs:=Mt S.tabs n} else none
 |.obj _=>none
 |t=>if decide (S.tabs.length<1000) then some {S with tabs:=Sv S.tabs n t} else none
def yX(w n:Str)(old t:D):D:=.tup [.str w,.str n,old,t]
def doS(S:Cst)(w n:Str)(t:D):Option Cst:=if decide (S.don.length<1000) then wW {S with don:=S.don++[yX w n ((qx S.tabs n).getD .non) t],und:=[]} n t else none
structure CTxt(K:Zf)(mg:Str->Option Value)(C:Addr):Prop where
 cl:Cls K C
 nT:je K C nT
 nD:je K C nD
 nU:je K C nU
 mgC:mg "Case"=some (.ref C)
def bV(P:Program)(w:World)(K:Zf)(mg:Str->Option Value)(C:Addr)(nm:Str)(ps:List Str)(k:Nat)(sp:Sp):Prop :=
 ∃f fd,Meth K C nm f/\Binds K fd ps []/\∀base:Heap,FnOk P w K mg base (CX1 P w) k f fd ps sp
def iC(P:Program)(w:World)(K:Zf)(mg:Str->Option Value)(nm:Str)(ps:List Str)(k:Nat)(sp:Sp):Prop :=
 ∃f fd,mg nm=some (.ref f)/\W.keepIn K (.ref f)=true/\Binds K fd ps []/\∀base:Heap,FnOk P w K mg base (CX1 P w) k f fd ps sp
theorem gK{K:Zf}(X:Text w K mg T)(h:T.defs.lookup f=some fd):iC P w K mg f fd.ps k (spX K (vR (DE.aR T F k)) (xR (DE.aR T F k)) f fd.ps):=by
 have FA:=X.fns f fd h;obtain⟨nm',t',a',g',m1,m2,m3,m4,m5⟩:=FA.ex;exact⟨a',g',m1,m2.kp,m3,λbase=>rE X k nm' f fd t' a' g' h m2 m4 m5 FA.fs⟩
section
variable{P:Program}{w:World}{K:Zf}{mg:Str->Option Value}{base:Heap}{N:List Str}{qual:Str}{scope:Scope}{f:Addr}{cd:Value}{A:Around}{outer:List Env}{s:Shared}{H:Hp}{E:XK}
theorem jR(XT:XText K mg exs top)(hin:exs.contains x=true)(hh:(A.deeper (envOfC qual scope s.heap.objs.size f cd)).handled=none)(hg:Gl (jE (CX1 P w) P w K mg base N qual scope f cd A outer s H E) x)(hd:(x==("__debug__":Str))=false) :
  PS (jE (CX1 P w) P w K mg base N qual scope f cd A outer s H E) (.Raise (some (.Call (.Name x np) [.Constant (.str txt) j p1] [] cpos)) none pos) (λ_ _ H1=>∀C,W.nsIn K mainGlobals x=some (some (.ref C))->E (.ref C) none H1):=by
 intro z0 s1 σ H1 D I h;obtain⟨C,M,e1,_,e2,_⟩:=XT.cls x hin;exact Ea I hh hg (XT.glob _ _ e1) hd e2 λs2 h' e args I2 hm=>wZ I2 hm (h C e1)
end
end L2
namespace M92
open PySem PySem.Spec PyProof.Rows L2
open DE (D)
abbrev jM:Stmt:=top 52
abbrev zH:Stmt:=inClass jM 1
abbrev sDo:Stmt:=inClass jM 2
section
variable{P:Program}{w:World}{K:Zf}{mg:Str->Option Value}{base:Heap}{C:Addr}
def DK(K:Zf)(C:Addr):Sp:=λvs H Q _=>∃(p d dn un:Addr)(n:Str)(t:D)(v:V)(Hs:Hp)(S S':Cst),vs=[.ref p,.str n,v]/\Same Hs H/\CRep K C Hs H p d dn un S/\Rep K Hs t v/\wW S n t=some S' /\
 ∀H',ExtM p d dn un un Hs H Hs H'->CRep K C Hs H' p d dn un S'->Q .non H'
theorem scS:FnScope ["self","name","table"] ["self","name","table"] (aB zH):=⟨rfl,rfl,rfl,by decide +kernel,rfl,by decide +kernel,by decide +kernel⟩
theorem Qy(F:Fun K "set_to" "Case.set_to" zH f fd)(T:CTxt K mg C):FnOk P w K mg base (CX1 P w) 1 f fd ["self","name","table"] (DK K C):=by
  refine F.okX scS (λvs H Q E h=>?_) (λcdv A outer s H vs Q E hr h=>?_)
  . obtain⟨p,d,dn,un,n,t,v,Hs,S,S',rfl,_⟩:=h
    rfl
  . obtain⟨p,d,dn,un,n,t,v,Hs,S,S',rfl,hs,S0,rt,h,k⟩:=h
    obtain⟨dx,h1⟩:=S0.ob
    obtain⟨kvs,h2,h3⟩:=S0.dc
    refine⟨_,bM (pP (zW (Qn (pv 2))) (bM (bW (En (g8 (pv 0) rfl) (pv 1) ?m1))) (bM (JW (FP hr) (g8 (pv 0) rfl) (pv 1) (pv 2) rfl))),?_⟩
    case m1=>exact⟨rfl,rfl,rfl,rfl⟩
    by_cases hn:t=.non
    . subst hn
      have ev:=rW rt
      subst ev
      refine⟨_,rfl,true,rfl,lY ?_⟩
      simp only[wW] at h
      split at h
      . rename_i hg
        cases h
        rcases h3.get with⟨z,_⟩|⟨d',v,_,e2,_⟩
        . rw[z] at hg;cases hg
        . exact⟨_,rfl,p,C,dx,_,_,rfl,h1,T.cl,T.nT,sY _ _ _,d,rfl,.inl ⟨_,.inl h2⟩,_,rfl,kvs,Sum.inr n,v,h2,rfl,e2,k _ (iz hs (.inl rfl) S0.hd) (S0.setD h3.drop)⟩
      . cases h
    . have hv:v≠.non:=λz=>hn (by
        have e:=FJ rt
        rw[z,A5z rfl] at e
        cases t<;>first|rfl|simp[DE.Ra] at e)
      have h':S.tabs.length<1000/\S'={S with tabs:=Sv S.tabs n t}:=by
        cases t<;>simp[wW] at h hn ⊢ <;> exact⟨h.1,h.2.symm⟩
      obtain⟨h4,rfl⟩:=h'
      refine⟨_,rfl,false,by rw[B4z hv],mW ?_⟩
      have hl : kvs.length < sizeLine := by have := h3.length; have : (1000 : Nat) <= sizeLine := by decide
                                            omega
      exact⟨_,rfl,_,rfl,p,C,dx,_,_,rfl,h1,T.cl,T.nT,sY _ _ _,_,rfl,d,_,rfl,RX.k (k:=Sum.inr n) h2 hl,k _ (iz hs (.inl rfl) S0.hd) (S0.setD (h3.put rt))⟩
def Jl(K:Zf)(C:Addr):Sp:=λvs H Q _=>∃(p d dn un:Addr)(wd n:Str)(t:D)(v:V)(Hs:Hp)(S S':Cst),vs=[.ref p,.str wd,.str n,v]/\Same Hs H/\CRep K C Hs H p d dn un S/\Rep K Hs t v/\doS S wd n t=some S' /\
 ∀H' Hs' un',ExtM p d dn un un' Hs H Hs' H'->CRep K C Hs' H' p d dn un' S'->Q .non H'
theorem scD:FnScope ["self","word","name","table"] ["self","word","name","table"] (aB sDo):=⟨rfl,rfl,rfl,by decide +kernel,rfl,by decide +kernel,by decide +kernel⟩
theorem U0(F:Fun K "do" "Case.do" sDo f fd)(T:CTxt K mg C)(G:bV P w K mg C "set_to" ["self","name","table"] 1 (DK K C)):FnOk P w K mg base (CX1 P w) 2 f fd ["self","word","name","table"] (Jl K C):=by
 obtain⟨g,gd,mG,bG,GS⟩:=G;refine F.okX scD (λvs H Q E h=>?_) (λcdv A outer s H vs Q E hr h=>?_)
 .obtain⟨p,d,dn,un,wd,n,t,v,Hs,S,S',rfl,_⟩:=h
  rfl
 .obtain⟨p,d,dn,un,wd,n,t,v,Hs,S,S',rfl,hs,S0,rt,h,k⟩:=h
  obtain⟨dx,h1⟩:=S0.ob;obtain⟨kvs,h2,h3⟩:=S0.dc;obtain⟨ls,h4,h5⟩:=S0.dl
  refine⟨_,aM (bW (lW M0z H0z I0z iQ (g8 (pv 0) rfl) (au (Hz (au (pv 1) (au (pv 2) (au (Ep (FP hr) (g8 (pv 0) rfl) (pv 2) ?m1) (au (pv 3) aK))))) aK)))
   (aM (pQ (pv 0) (pY aK) rfl)
   (bM (bW (cZ (pv 0) T.cl mG (GS _) hr bG .nil aQ (au (pv 2) (au (pv 3) aK)))))),?_⟩
  case m1=>exact⟨rfl,rfl,rfl,rfl⟩
  unfold doS at h;split at h
  .rename_i hl
   have hl':=X2z hl
   have lin:(1000:Nat)<=sizeLine:=by decide
   have hll:=h5.length;refine⟨_,rfl,p,C,dx,_,_,rfl,h1,T.cl,T.nD,QW _ _ _,.inl ⟨rfl,_,SqL.of h4⟩,_,rfl,_,rfl,_,rfl,p,C,dx,_,_,rfl,h1,T.cl,T.nT,sY _ _ _,d,rfl,.inl ⟨_,.inl h2⟩,_,rfl,_,ug.k (k:=Sum.inr n) h2,_,rfl,(by show 4<=sizeLine;decide),λx hx=>?_⟩;have E1:=Ext.new hs (.tup [.str wd,.str n,(ju kvs (Sum.inr n)).getD .non,v]) hx;have S1:=S0.ext E1
   have rold:Rep K Hs ((qx S.tabs n).getD .non) ((ju kvs (Sum.inr n)).getD .non):=by
    rcases h3.get with⟨z1,z2⟩|⟨d',v',z1,z2,z3⟩
    .rw[z1,z2];simp[Rep]
    .rw[z1,z2];exact z3
   have rst:Rep K (upd Hs x (.tup [.str wd,.str n,(ju kvs (Sum.inr n)).getD .non,v])) (yX wd n ((qx S.tabs n).getD .non) t) (.ref x):=by
    exact⟨x,_,rfl,.inl (.inl aA),aJ.same E1.vis _ _ (.cons (by simp[Rep]) (.cons (by simp[Rep]) (.cons rold (.cons rt .nil))))⟩
   have S2:=S1.setN (aJ.append (aJ.same E1.vis _ _ h5) (.cons rst .nil));have M2:=(iz (p:=p) (d:=d) (dn:=dn) (un:=un) (o:=.lst (ls++[.ref x])) E1.sub (.inr (.inl rfl)) S1.hn).pre E1;refine⟨dn,_,_,rfl,rfl,(E1.all _ _ h4),(by omega),?_⟩;refine⟨by decide,λun' hun=>?_⟩;obtain⟨dx2,p2⟩:=S2.ob;refine⟨_,rfl,p,C,dx2,_,rfl,(by rw[ao (aq p2 hun)];exact p2),T.cl,T.nU,(by show 3<1000;decide),?_⟩;obtain⟨S3,M3⟩:=S2.newU (dx:=dx2) M2.sub hun
   have hun0:H un'=none:=by
    rw[ao (λz=>by rw[z,aA] at hun;cases hun)] at hun
    exact cQ E1.all hun
   have M4:=M2.trans M3 (.inr (.inl hun0));exact⟨_,rfl,p,dx2,_,rfl,aA,rfl,_,rfl,_,rfl,p,d,dn,un',n,t,v,_,_,S',rfl,M4.sub,S3,rt.same E1.vis,h,λH' M5 S5=>k H' _ un' (M4.trans M5 (.inl rfl)) S5⟩
  .cases h
end
end M92
namespace L2
open PySem PySem.Spec PyProof.Rows
open DE (D)
theorem FnOk.weak{K:Zf}(F:FnOk P w K mg base CX k f fd ps sp)(h:∀vs H Q E,sp' vs H Q E->sp vs H Q E):FnOk P w K mg base CX k f fd ps sp' :=
 ⟨λvs H Q E q=>F.len vs H Q E (h _ _ _ _ q),λA outer s H args us vs Q E a b c d e=>F.run A outer s H args us vs Q E a b c d (h _ _ _ _ e)⟩
def X4(K:Zf)(Hs H:Hp)(Q:VK)(E:XK):Sum D Str->Prop
 |.inl r=>∀v H' Hs',Ext Hs H Hs' H'->Rep K Hs' r v->Q v H'
 |.inr c=>∀Cc H' Hs',W.nsIn K mainGlobals c=some (some (.ref Cc))->Ext Hs H Hs' H'->E (.ref Cc) none H'
def spR(K:Zf)(C:Addr)(n:Nat)(f:Cst->List D->Option (Sum D Str)):Sp:=λvs H Q E=>∃(p d dn un:Addr)(Hs:Hp)(S:Cst)(ds:List D)(us:List V)(o:Sum D Str),
 vs=.ref p::us/\ds.length=n/\Same Hs H/\CRep K C Hs H p d dn un S/\aJ K Hs ds us/\f S ds=some o/\X4 K Hs H Q E o
theorem rO{K:Zf}(h:spR K C n f vs H Q E):vs.length=n+1:=by
 obtain⟨p,d,dn,un,Hs,S,ds,us,o,rfl,e,_,_,r,_⟩:=h;rw[E3z,<- r.length,e]
def toM(S:Cst):Sum D Str->MR
 |.inl d=>.val d S
 |.inr c=>.exc c
theorem Pn{K:Zf}(h:spM K C n (λS ds=>(f S ds).map (toM S)) vs H Q E):spR K C n f vs H Q E:=by
 obtain⟨p,d,dn,un,Hs,S,ds,us,o,rfl,e,hs,S0,r,ho,k⟩:=h;obtain⟨o',h1,rfl⟩:=R0z.mp ho;refine⟨p,d,dn,un,Hs,S,ds,us,o',rfl,e,hs,S0,r,h1,?_⟩
 cases o' with
 |inl r=>exact λv H' Hs' E1 r1=>k v H' Hs' un (.of E1) (S0.ext E1) r1
 |inr c=>exact k
section
variable(call:Str->List D->Option D)(callx:Str->List D->Option Str)
def ndN(x:D):Option (Sum Str Str):=match callx "need_name" [x] with
 |some c=>some (.inr c)
 |none=>match call "need_name" [x],x with
  |some _,.str s=>some (.inl s)
  |_,_=>none
def gQ(S:Cst):List D->Option (Sum D Str)
 |[n]=>match ndN call callx n with
  |some (.inr c)=>some (.inr c)
  |some (.inl s)=>match qx S.tabs s with
   |some d=>some (.inl d)
   |none=>some (.inr "NoName")
  |none=>none
 |_=>none
def NQ(S:Cst):List D->Option MR
 |[n,t]=>match call "is_table" [t] with
  |some (.bl false)=>some (.exc "NoTable")
  |some (.bl true)=>match ndN call callx n with
   |some (.inr c)=>some (.exc c)
   |some (.inl s)=>(doS S "put" s t).map (.val (.bl (qx S.tabs s).isSome))
   |none=>none
  |_=>none
 |_=>none
def xG(S:Cst):List D->Option MR
 |[.str s]=>match gQ call callx S [.str s] with
  |some (.inl d)=>(doS S "take" s .non).map (.val d)
  |some (.inr c)=>some (.exc c)
  |none=>none
 |[n]=>match gQ call callx S [n] with
  |some (.inr c)=>some (.exc c)
  |_=>none
 |_=>none
def doF(fn wd:Str)(S:Cst)(s:Str)(d:D):Option MR:=match callx fn [d] with
 |some c=>some (.exc c)
 |none=>match call fn [d] with
  |some t=>(doS S wd s t).map (.val t)
  |none=>none
def iT(fn wd:Str)(S:Cst):List D->Option MR
 |[.str s]=>match gQ call callx S [.str s] with
  |some (.inl d)=>doF call callx fn wd S s d
  |some (.inr c)=>some (.exc c)
  |none=>none
 |[n]=>match gQ call callx S [n] with
  |some (.inr c)=>some (.exc c)
  |_=>none
 |_=>none
theorem Ky{x:D}{c:Str}(h:ndN call callx x=some (.inr c)):callx "need_name" [x]=some c:=by
 unfold ndN at h;split at h
 .rename_i c' e;cases h;exact e
 .split at h
  .cases h
  .cases h
theorem Fg{x:D}{s:Str}(h:ndN call callx x=some (.inl s)):x=.str s/\∃d,call "need_name" [x]=some d:=by
 unfold ndN at h;split at h
 .cases h
 .split at h
  .cases h;exact⟨rfl,_,by assumption⟩
  .cases h
end
end L2
namespace M92
open PySem PySem.Spec PyProof.Rows L2
open DE (D)
abbrev Uh:Stmt:=inClass jM 3
abbrev Ug:Stmt:=inClass jM 4
abbrev Ju:Stmt:=inClass jM 5
section
variable{P:Program}{w:World}{K:Zf}{mg:Str->Option Value}{base:Heap}{C:Addr}{call:Str->List D->Option D}{callx:Str->List D->Option Str}{kk:Nat}{exs:List Str}{tp:Str}
theorem scT:FnScope ["self","name"] ["self","name"] (aB Ug):=⟨rfl,rfl,rfl,by decide +kernel,rfl,by decide +kernel,by decide +kernel⟩
theorem Qx(F:Fun K "table_of" "Case.table_of" Ug f fd)(T:CTxt K mg C)(XT:XText K mg exs tp)(hin:exs.contains "NoName"=true)(GN:iC P w K mg "need_name" ["thing"] kk (spX K call callx "need_name" ["thing"])) :
  FnOk P w K mg base (CX1 P w) (kk+1) f fd ["self","name"] (spR K C 1 (gQ call callx)):=by
 obtain⟨fn,fdn,mgN,kN,bN,gN⟩:=GN;refine F.okX scT (λvs H Q E h=>rO h) (λcdv A outer s H vs Q E hr h=>?_);obtain⟨p,d,dn,un,Hs,S,ds,us,o,rfl,e,hs,S0,r,ho,k⟩:=h;obtain⟨x,rfl⟩:∃x,ds=[x]:=List.length_eq_one_iff.mp e
 obtain⟨v,rfl,rv⟩:∃v,us=[v]/\Rep K Hs x v:=by
  obtain⟨v,q,rfl,r1,rfl⟩:=r;exact⟨v,rfl,r1⟩
 have hu:=FP hr
 refine⟨_,aM (bW (dw (gN _) hr rfl mgN kN bN .nil aQ (au (pv 1) aK)))
  (aM (pP (zW (Aa hu (pv 1) (g8 (pv 0) rfl))) (bM (jR XT hin hr.hd rfl rfl)) fY)
  (bM (eU (J8 hu (g8 (pv 0) rfl) (pv 1) (λ_ _=>rfl))))),?_⟩
 simp[gQ] at ho;refine⟨_,rfl,rfl,Hs,[x],hs,.cons rv .nil,?_⟩;split at ho
 .rename_i c hn
  cases ho;exact .inr ⟨c,Ky _ _ hn,k⟩
 .rename_i sn hn
  obtain⟨rfl,dd,hc⟩:=Fg _ _ hn;refine .inl ⟨dd,hc,λv1 H1 Hs1 E1 _=>?_⟩;cases (show v=.str sn by simpa[Rep] using rv);have S1:=S0.ext E1;obtain⟨dx,h1⟩:=S1.ob;obtain⟨kvs,h2,h3⟩:=S1.dc;refine⟨_,rfl,_,rfl,p,C,dx,_,_,rfl,h1,T.cl,T.nT,sY _ _ _,d,_,rfl,ug.k (k:=Sum.inr sn) h2,?_⟩;rcases h3.get with⟨z1,z2⟩|⟨d',v',z1,z2,z3⟩
  .rw[z1] at ho
   cases ho;rw[z2];exact⟨true,rfl,lY λCc hC=>k Cc H1 Hs1 hC E1⟩
  .rw[z1] at ho
   cases ho;rw[z2];exact⟨false,rfl,mW ⟨_,rfl,p,C,dx,_,_,rfl,h1,T.cl,T.nT,sY _ _ _,_,rfl,d,v',rfl,z2▸ug.k (k:=Sum.inr sn) h2,k v' H1 Hs1 E1 z3⟩⟩
 .cases ho
end
abbrev Jt:Stmt:=inClass jM 7
abbrev Jw:Stmt:=inClass jM 8
theorem repL1{K:Zf}(r:aJ K Hs [x] us):∃v,us=[v]/\Rep K Hs x v:=by
 obtain⟨v,q,rfl,r1,rfl⟩:=r;exact⟨v,rfl,r1⟩
theorem repL2{K:Zf}(r:aJ K Hs [x,y] us):∃v u,us=[v,u]/\Rep K Hs x v/\Rep K Hs y u:=by
 obtain⟨v,q,rfl,r1,u,q',rfl,r2,rfl⟩:=r;exact⟨v,u,rfl,r1,r2⟩
section
variable{P:Program}{w:World}{K:Zf}{mg:Str->Option Value}{base:Heap}{C:Addr}{call:Str->List D->Option D}{callx:Str->List D->Option Str}{kk:Nat}{exs:List Str}{tp:Str}
theorem scP:FnScope ["self","name","table","had"] ["self","name","table"] (aB Uh):=⟨rfl,rfl,rfl,by decide +kernel,rfl,by decide +kernel,by decide +kernel⟩
theorem Qz(F:Fun K "put" "Case.put" Uh f fd)(T:CTxt K mg C)(XT:XText K mg exs tp)(hin:exs.contains "NoTable"=true)(hkk:2<=kk)(GN:iC P w K mg "need_name" ["thing"] kk (spX K call callx "need_name" ["thing"]))
  (GT:iC P w K mg "is_table" ["thing"] kk (spX K call callx "is_table" ["thing"])) (GO:bV P w K mg C "do" ["self","word","name","table"] 2 (Jl K C)):FnOk P w K mg base (CX1 P w) (kk+1) f fd ["self","name","table"] (spM K C 2 (NQ call callx)):=by
 obtain⟨fn,fdn,mgN,kN,bN,gN⟩:=GN;obtain⟨ft,fdt,mgT,kT,bT,gT⟩:=GT;obtain⟨fo,fdo,mO,bO,gO⟩:=GO;refine F.okX scP (λvs H Q E h=>jk h) (λcdv A outer s H vs Q E hr h=>?_);obtain⟨p,d,dn,un,Hs,S,ds,us,o,rfl,e,hs,S0,r,ho,k⟩:=h
 obtain⟨x,t,rfl⟩:∃x t,ds=[x,t]:=by
  obtain⟨x,q,rfl⟩:=List.exists_cons_of_length_eq_add_one e;obtain⟨t,rfl⟩:=List.length_eq_one_iff.mp (by simpa using e);exact⟨x,t,rfl⟩
 obtain⟨v,u,rfl,rv,ru⟩:=repL2 r;have hu:=FP hr
 refine⟨_,aM (pP (zU (mH (dw (gT _) hr rfl mgT kT bT .nil aQ (au (pv 2) aK)))) (bM (jR XT hin hr.hd rfl (by decide +kernel))) fY)
  (aM (bW (dw (gN _) hr rfl mgN kN bN .nil aQ (au (pv 1) aK)))
  (aM (fK (i:=3) scP.nd rfl (Or.inl rfl) (Ql (Qq hu (pv 1) (g8 (pv 0) rfl))))
  (aM (bW (cZ (pv 0) T.cl mO (gO _) (hr.mono hkk) bO .nil aQ (au j9 (au (pv 1) (au (pv 2) aK)))))
  (bM (eU (pv 3)))))),?_⟩
 simp[NQ] at ho;refine⟨_,rfl,rfl,Hs,[t],hs,.cons ru .nil,?_⟩;split at ho
 .rename_i ht
  cases ho;refine .inl ⟨_,ht,λv1 H1 Hs1 E1 r1=>?_⟩;cases bY r1;exact⟨false,rfl,lY λCc hC=>k Cc H1 Hs1 hC E1⟩
 .rename_i ht
  refine .inl ⟨_,ht,λv1 H1 Hs1 E1 r1=>?_⟩;cases bY r1;refine⟨true,rfl,mW ?_⟩;refine⟨_,rfl,rfl,Hs1,[x],E1.sub,.cons (rv.same E1.vis) .nil,?_⟩;split at ho
  .rename_i c hn
   cases ho;exact .inr ⟨c,Ky _ _ hn,λCc H2 Hs2 hC E2=>k Cc H2 Hs2 hC (E1.trans E2)⟩
  .rename_i sn hn
   obtain⟨rfl,dd,hc⟩:=Fg _ _ hn;obtain⟨S',hd,rfl⟩:=R0z.mp ho;refine .inl ⟨dd,hc,λv2 H2 Hs2 E2 _=>?_⟩;cases (show v=.str sn by simpa[Rep] using rv);have E12:=E1.trans E2;have S1:=S0.ext E12;obtain⟨dx,h1⟩:=S1.ob;obtain⟨kvs,h2,h3⟩:=S1.dc;refine⟨_,rfl,_,rfl,p,C,dx,_,_,rfl,h1,T.cl,T.nT,sY _ _ _,d,_,rfl,ug.k (k:=Sum.inr sn) h2,?_⟩;refine⟨_,rfl,p,dx,_,rfl,h1,rfl,_,rfl,_,rfl,p,d,dn,un,"put",sn,t,u,Hs2,S,S',rfl,E12.sub,S1,ru.same E12.vis,hd,λH3 Hs3 un3 M3 S3=>?_⟩;refine⟨_,rfl,k _ H3 Hs3 un3 (M3.pre E12) S3 ?_⟩;rcases h3.get with⟨z1,z2⟩|⟨d',v',z1,z2,z3⟩
   .rw[z1,z2];simp[Rep]
   .rw[z1,z2];simp[Rep]
  .cases ho
 .cases ho
theorem scK:FnScope ["self","name","table"] ["self","name"] (aB Ju):=⟨rfl,rfl,rfl,by decide +kernel,rfl,by decide +kernel,by decide +kernel⟩
theorem rJ(h:gQ call callx S [x]=some (.inl d)):∃s,x=.str s:=by
 simp[gQ] at h;split at h
 .cases h
 .rename_i s e;exact⟨s,(Fg _ _ e).1⟩
 .cases h
theorem Ko(F:Fun K "take" "Case.take" Ju f fd)(T:CTxt K mg C)(hkk:1<=kk)(GT:bV P w K mg C "table_of" ["self","name"] (kk+1) (spR K C 1 (gQ call callx)))(GO:bV P w K mg C "do" ["self","word","name","table"] 2 (Jl K C)) :
  FnOk P w K mg base (CX1 P w) (kk+2) f fd ["self","name"] (spM K C 1 (xG call callx)):=by
 obtain⟨ft,fdt,mT,bT,gT⟩:=GT;obtain⟨fo,fdo,mO,bO,gO⟩:=GO;refine F.okX scK (λvs H Q E h=>jk h) (λcdv A outer s H vs Q E hr h=>?_);obtain⟨p,d,dn,un,Hs,S,ds,us,o,rfl,e,hs,S0,r,ho,k⟩:=h;obtain⟨x,rfl⟩:∃x,ds=[x]:=List.length_eq_one_iff.mp e;obtain⟨v,rfl,rv⟩:=repL1 r;obtain⟨dx,h1⟩:=S0.ob
 refine⟨_,aM (fK (i:=2) scK.nd rfl (Or.inl rfl) (cZ (pv 0) T.cl mT (gT _) hr bT .nil aQ (au (pv 1) aK)))
  (aM (bW (cZ (pv 0) T.cl mO (gO _) (hr.mono (by omega)) bO .nil aQ (au j9 (au (pv 1) (au HD aK)))))
  (bM (eU (pv 2)))),?_⟩
 refine⟨_,rfl,p,dx,_,rfl,h1,rfl,_,rfl,p,d,dn,un,Hs,S,[x],[v],?_⟩
 cases hm:gQ call callx S [x] with
 |none=>cases x<;>simp[xG,hm] at ho
 |some o' =>
  refine⟨o',rfl,rfl,hs,S0,.cons rv .nil,rfl,?_⟩
  cases o' with
  |inr c =>
   have:o=.exc c:=by cases x<;>simp[xG,hm] at ho<;>exact ho.symm
   subst this;exact k
  |inl t =>
   obtain⟨sn,rfl⟩:=rJ hm;simp only[xG,hm] at ho;obtain⟨S',hd,rfl⟩:=R0z.mp ho;cases (show v=.str sn by simpa[Rep] using rv);intro v1 H1 Hs1 E1 r1;have S1:=S0.ext E1;obtain⟨dx1,h2⟩:=S1.ob;exact⟨_,rfl,p,dx1,_,rfl,h2,rfl,_,rfl,p,d,dn,un,"take",sn,.non,.non,Hs1,S,S',rfl,E1.sub,S1,by simp[Rep],hd,λH3 Hs3 un3 M3 S3=>⟨_,rfl,k _ H3 Hs3 un3 (M3.pre E1) S3 (r1.same M3.vis)⟩⟩
theorem scU:FnScope ["self","name","table"] ["self","name"] (aB Jt):=⟨rfl,rfl,rfl,by decide +kernel,rfl,by decide +kernel,by decide +kernel⟩
theorem Km(F:Fun K "turn" "Case.turn" Jt f fd)(T:CTxt K mg C)(hkk:1<=kk)(GF:iC P w K mg "turned" ["table"] kk (spX K call callx "turned" ["table"]))(GT:bV P w K mg C "table_of" ["self","name"] (kk+1) (spR K C 1 (gQ call callx)))(GO:bV P w K mg C "do" ["self","word","name","table"] 2 (Jl K C)) :
  FnOk P w K mg base (CX1 P w) (kk+2) f fd ["self","name"] (spM K C 1 (iT call callx "turned" "turn")):=by
 obtain⟨ff,fdf,mgF,kF,bF,gF⟩:=GF;obtain⟨ft,fdt,mT,bT,gT⟩:=GT;obtain⟨fo,fdo,mO,bO,gO⟩:=GO;refine F.okX scU (λvs H Q E h=>jk h) (λcdv A outer s H vs Q E hr h=>?_);obtain⟨p,d,dn,un,Hs,S,ds,us,o,rfl,e,hs,S0,r,ho,k⟩:=h;obtain⟨x,rfl⟩:∃x,ds=[x]:=List.length_eq_one_iff.mp e;obtain⟨v,rfl,rv⟩:=repL1 r;have hr2:Room 2 _:=hr.mono (by omega);obtain⟨dx,h1⟩:=S0.ob
 refine⟨_,aM (fK (i:=2) scU.nd rfl (Or.inl rfl) (dw (gF _) (hr.mono (by omega)) rfl mgF kF bF .nil aQ (au (cZ (pv 0) T.cl mT (gT _) hr bT .nil aQ (au (pv 1) aK)) aK)))
  (aM (bW (cZ (pv 0) T.cl mO (gO _) hr2 bO .nil aQ (au j9 (au (pv 1) (au (pv 2) aK)))))
  (bM (eU (pv 2)))),?_⟩
 refine⟨_,rfl,p,dx,_,rfl,h1,rfl,_,rfl,p,d,dn,un,Hs,S,[x],[v],?_⟩
 cases hm:gQ call callx S [x] with
 |none=>cases x<;>simp[iT,hm] at ho
 |some o' =>
  refine⟨o',rfl,rfl,hs,S0,.cons rv .nil,rfl,?_⟩
  cases o' with
  |inr c =>
   have:o=.exc c:=by cases x<;>simp[iT,hm] at ho<;>exact ho.symm
   subst this;exact k
  |inl t =>
   obtain⟨sn,rfl⟩:=rJ hm;simp[iT,hm,doF] at ho;cases (show v=.str sn by simpa[Rep] using rv);intro v1 H1 Hs1 E1 r1;refine⟨rfl,Hs1,[t],E1.sub,.cons r1 .nil,?_⟩;split at ho
   .rename_i c hc
    cases ho;exact .inr ⟨c,hc,λCc H2 Hs2 hC E2=>k Cc H2 Hs2 hC (E1.trans E2)⟩
   .split at ho
    .rename_i t' ht
     obtain⟨S',hd,rfl⟩:=R0z.mp ho;refine .inl ⟨t',ht,λv2 H2 Hs2 E2 r2=>?_⟩;have E12:=E1.trans E2;have S1:=S0.ext E12;obtain⟨dx1,h2⟩:=S1.ob;exact⟨_,rfl,p,dx1,_,rfl,h2,rfl,_,rfl,_,rfl,p,d,dn,un,"turn",sn,t',v2,Hs2,S,S',rfl,E12.sub,S1,r2,hd,λH3 Hs3 un3 M3 S3=>⟨_,rfl,k _ H3 Hs3 un3 (M3.pre E12) S3 (r2.same M3.vis)⟩⟩
    .cases ho
theorem scF:FnScope ["self","name","table"] ["self","name"] (aB Jw):=⟨rfl,rfl,rfl,by decide +kernel,rfl,by decide +kernel,by decide +kernel⟩
theorem Kq(F:Fun K "flip" "Case.flip" Jw f fd)(T:CTxt K mg C)(hkk:1<=kk)(GF:iC P w K mg "flipped" ["table"] kk (spX K call callx "flipped" ["table"]))(GT:bV P w K mg C "table_of" ["self","name"] (kk+1) (spR K C 1 (gQ call callx)))(GO:bV P w K mg C "do" ["self","word","name","table"] 2 (Jl K C)) :
  FnOk P w K mg base (CX1 P w) (kk+2) f fd ["self","name"] (spM K C 1 (iT call callx "flipped" "flip")):=by
 obtain⟨ff,fdf,mgF,kF,bF,gF⟩:=GF;obtain⟨ft,fdt,mT,bT,gT⟩:=GT;obtain⟨fo,fdo,mO,bO,gO⟩:=GO;refine F.okX scF (λvs H Q E h=>jk h) (λcdv A outer s H vs Q E hr h=>?_);obtain⟨p,d,dn,un,Hs,S,ds,us,o,rfl,e,hs,S0,r,ho,k⟩:=h;obtain⟨x,rfl⟩:∃x,ds=[x]:=List.length_eq_one_iff.mp e;obtain⟨v,rfl,rv⟩:=repL1 r;have hr2:Room 2 _:=hr.mono (by omega);obtain⟨dx,h1⟩:=S0.ob
 refine⟨_,aM (fK (i:=2) scF.nd rfl (Or.inl rfl) (dw (gF _) (hr.mono (by omega)) rfl mgF kF bF .nil aQ (au (cZ (pv 0) T.cl mT (gT _) hr bT .nil aQ (au (pv 1) aK)) aK)))
  (aM (bW (cZ (pv 0) T.cl mO (gO _) hr2 bO .nil aQ (au j9 (au (pv 1) (au (pv 2) aK)))))
  (bM (eU (pv 2)))),?_⟩
 refine⟨_,rfl,p,dx,_,rfl,h1,rfl,_,rfl,p,d,dn,un,Hs,S,[x],[v],?_⟩
 cases hm:gQ call callx S [x] with
 |none=>cases x<;>simp[iT,hm] at ho
 |some o' =>
  refine⟨o',rfl,rfl,hs,S0,.cons rv .nil,rfl,?_⟩
  cases o' with
  |inr c =>
   have:o=.exc c:=by cases x<;>simp[iT,hm] at ho<;>exact ho.symm
   subst this;exact k
  |inl t =>
   obtain⟨sn,rfl⟩:=rJ hm;simp[iT,hm,doF] at ho;cases (show v=.str sn by simpa[Rep] using rv);intro v1 H1 Hs1 E1 r1;refine⟨rfl,Hs1,[t],E1.sub,.cons r1 .nil,?_⟩;split at ho
   .rename_i c hc
    cases ho;exact .inr ⟨c,hc,λCc H2 Hs2 hC E2=>k Cc H2 Hs2 hC (E1.trans E2)⟩
   .split at ho
    .rename_i t' ht
     obtain⟨S',hd,rfl⟩:=R0z.mp ho;refine .inl ⟨t',ht,λv2 H2 Hs2 E2 r2=>?_⟩;have E12:=E1.trans E2;have S1:=S0.ext E12;obtain⟨dx1,h2⟩:=S1.ob;exact⟨_,rfl,p,dx1,_,rfl,h2,rfl,_,rfl,_,rfl,p,d,dn,un,"flip",sn,t',v2,Hs2,S,S',rfl,E12.sub,S1,r2,hd,λH3 Hs3 un3 M3 S3=>⟨_,rfl,k _ H3 Hs3 un3 (M3.pre E12) S3 (r2.same M3.vis)⟩⟩
    .cases ho
end
end M92
namespace L2
open PySem PySem.Spec PyProof.Rows
open DE (D)
section
variable(call:Str->List D->Option D)(callx:Str->List D->Option Str)
def Aq(S:Cst)(n:D)(x y w:D):Option MR:=match callx "joined" [w,x,y] with
 |some c=>some (.exc c)
 |none=>match call "joined" [w,x,y] with
  |some t=>match call "is_table" [t] with
   |some (.bl false)=>some (.exc "NoFit")
   |some (.bl true)=>match n with
    |.str s=>(doS S "join" s t).map (.val t)
    |_=>none
   |_=>none
  |none=>none
def xH(S:Cst):List D->Option MR
 |[n,w,a,b]=>match ndN call callx n with
  |some (.inr c)=>some (.exc c)
  |some (.inl _)=>match gQ call callx S [a] with
   |some (.inr c)=>some (.exc c)
   |some (.inl x)=>match gQ call callx S [b] with
    |some (.inr c)=>some (.exc c)
    |some (.inl y)=>Aq call callx S n x y w
    |none=>none
   |none=>none
  |none=>none
 |_=>none
end
def undo(l:List D):Option (List D×Str×Str×D×D):=match l.getLast? with
 |some (.tup [.str w,.str n,o,t])=>some (l.dropLast,w,n,o,t)
 |_=>none
def qj(S:Cst):List D->Option MR
 |[]=>match S.don with
  |[]=>some (.exc "NoBack")
  |_=>if decide (S.und.length<1000) then match undo S.don with
   |some (l,w,n,o,t)=>(wW {S with don:=l,und:=S.und++[yX w n o t]} n o).map (.val (.str w))
   |none=>none else none
 |_=>none
def Ar(S:Cst):List D->Option MR
 |[]=>match S.und with
  |[]=>some (.exc "NoBack")
  |_=>if decide (S.don.length<1000) then match undo S.und with
   |some (l,w,n,o,t)=>(wW {S with und:=l,don:=S.don++[yX w n o t]} n t).map (.val (.str w))
   |none=>none else none
 |_=>none
def fO(S:Cst):List D->Option (Sum D Str)
 |[]=>if decide (S.tabs.length<64) then(DE.Pb (S.tabs.map (·.1))).map λl=>.inl (.lst (l.map .str)) else none
 |_=>none
theorem yG{K:Zf}(r:aJ K Hs l vs)(h:undo l=some (l',w,n,o,t)):∃v,vs[vs.length-1]?=some v/\Rep K Hs (yX w n o t) v/\aJ K Hs l' vs.dropLast:=by
 unfold undo at h;split at h
 .rename_i e
  cases h;rw[List.getLast?_eq_getElem?] at e;obtain⟨v,h1,h2⟩:=r.get e;refine⟨v,by rw[<- r.length];exact h1,h2,?_⟩;rw[D1z,D1z,<- r.length];exact r.take _
 .cases h
end L2
namespace M92
open PySem PySem.Spec PyProof.Rows L2
open DE (D)
abbrev zJ:Stmt:=inClass jM 0
abbrev Jv:Stmt:=inClass jM 6
abbrev uD:Stmt:=inClass jM 9
abbrev sGo:Stmt:=inClass jM 10
abbrev Jx:Stmt:=inClass jM 11
theorem JK{K:Zf}(r:aJ K Hs [x,y,z,t] us):∃v u q s,us=[v,u,q,s]/\Rep K Hs x v/\Rep K Hs y u/\Rep K Hs z q/\Rep K Hs t s:=by
 obtain⟨v,_,rfl,r1,u,_,rfl,r2,q,_,rfl,r3,s,_,rfl,r4,rfl⟩:=r;exact⟨v,u,q,s,rfl,r1,r2,r3,r4⟩
section
variable{P:Program}{w:World}{K:Zf}{mg:Str->Option Value}{base:Heap}{C:Addr}{call:Str->List D->Option D}{callx:Str->List D->Option Str}{kk:Nat}{exs:List Str}{tp:Str}
theorem scJ:FnScope ["self","name","word","one","other","table"] ["self","name","word","one","other"] (aB Jv):=⟨rfl,rfl,rfl,by decide +kernel,rfl,by decide +kernel,by decide +kernel⟩
theorem Kp(F:Fun K "join" "Case.join" Jv f fd)(T:CTxt K mg C)(XT:XText K mg exs tp)(hin:exs.contains "NoFit"=true)(hkk:1<=kk)(GN:iC P w K mg "need_name" ["thing"] kk (spX K call callx "need_name" ["thing"]))(GB:iC P w K mg "is_table" ["thing"] kk (spX K call callx "is_table" ["thing"]))
  (GF:iC P w K mg "joined" ["word","one","other"] kk (spX K call callx "joined" ["word","one","other"])) (GT:bV P w K mg C "table_of" ["self","name"] (kk+1) (spR K C 1 (gQ call callx))) (GO:bV P w K mg C "do" ["self","word","name","table"] 2 (Jl K C)) :
  FnOk P w K mg base (CX1 P w) (kk+2) f fd ["self","name","word","one","other"] (spM K C 4 (xH call callx)):=by
 obtain⟨fn,fdn,mgN,kN,bN,gN⟩:=GN;obtain⟨fb,fdb,mgB,kB,bB,gB⟩:=GB;obtain⟨ff,fdf,mgF,kF,bF,gF⟩:=GF;obtain⟨ft,fdt,mT,bT,gT⟩:=GT;obtain⟨fo,fdo,mO,bO,gO⟩:=GO;refine F.okX scJ (λvs H Q E h=>jk h) (λcdv A outer s H vs Q E hr h=>?_);obtain⟨p,d,dn,un,Hs,S,ds,us,o,rfl,e,hs,S0,r,ho,k⟩:=h
 match ds,e with
 |[n,wd,a,b],_ =>
 obtain⟨vn,vw,va,vb,rfl,rn,rw',ra,rb⟩:=JK r;have hr1:Room kk _:=hr.mono (by omega)
 refine⟨_,aM (bW (dw (gN _) hr1 rfl mgN kN bN .nil aQ (au (pv 1) aK)))
  (aM (fK (i:=5) scJ.nd rfl (Or.inl rfl) (dw (gF _) hr1 rfl mgF kF bF .nil aQ (au (pv 2) (au (cZ (pv 0) T.cl mT (gT _) hr bT .nil aQ (au (pv 3) aK)) (au (cZ (pv 0) T.cl mT (gT _) hr bT .nil aQ (au (pv 4) aK)) aK)))))
  (aM (pP (zU (mH (dw (gB _) hr1 rfl mgB kB bB .nil aQ (au (pv 5) aK)))) (bM (jR XT hin hr.hd rfl (by decide +kernel))) fY)
  (aM (bW (cZ (pv 0) T.cl mO (gO _) (hr.mono (by omega)) bO .nil aQ (au j9 (au (pv 1) (au (pv 5) aK)))))
  (bM (eU (pv 5)))))),?_⟩
 simp[xH] at ho;refine⟨_,rfl,rfl,Hs,[n],hs,.cons rn .nil,?_⟩;split at ho
 .rename_i c hn
  cases ho;exact .inr ⟨c,Ky _ _ hn,k⟩
 .rename_i sn hn
  obtain⟨rfl,dd,hc⟩:=Fg _ _ hn;cases (show vn=.str sn by simpa[Rep] using rn);refine .inl ⟨dd,hc,λv1 H1 Hs1 E1 _=>?_⟩;have S1:=S0.ext E1;obtain⟨dx1,q1⟩:=S1.ob;refine⟨_,rfl,_,rfl,p,dx1,_,rfl,q1,rfl,_,rfl,p,d,dn,un,Hs1,S,[a],[va],?_⟩
  cases hm:gQ call callx S [a] with
  |none=>rw[hm] at ho;cases ho
  |some o1 =>
   rw[hm] at ho;refine⟨o1,rfl,rfl,E1.sub,S1,.cons (ra.same E1.vis) .nil,rfl,?_⟩
   cases o1 with
   |inr c=>cases ho;exact λCc H2 Hs2 hC E2=>k Cc H2 Hs2 hC (E1.trans E2)
   |inl x =>
    intro v2 H2 Hs2 E2 r2;have E12:=E1.trans E2;have S2:=S0.ext E12;obtain⟨dx2,q2⟩:=S2.ob;refine⟨_,rfl,p,dx2,_,rfl,q2,rfl,_,rfl,p,d,dn,un,Hs2,S,[b],[vb],?_⟩
    cases hm2:gQ call callx S [b] with
    |none=>simp only[hm2] at ho;cases ho
    |some o2 =>
     simp[hm2] at ho;refine⟨o2,rfl,rfl,E2.sub,S2,.cons (rb.same E12.vis) .nil,rfl,?_⟩
     cases o2 with
     |inr c=>cases ho;exact λCc H2 Hs2 hC E2=>k Cc H2 Hs2 hC (E12.trans E2)
     |inl y =>
      intro v3 H3 Hs3 E3 r3;have E13:=E12.trans E3;simp[Aq] at ho;refine⟨rfl,Hs3,[wd,x,y],E3.sub,.cons (rw'.same E13.vis) (.cons (r2.same E3.vis) (.cons r3 .nil)),?_⟩;split at ho
      .rename_i c hc
       cases ho;exact .inr ⟨c,hc,λCc H2 Hs2 hC E2=>k Cc H2 Hs2 hC (E13.trans E2)⟩
      .split at ho
       .rename_i t ht
        refine .inl ⟨t,ht,λv4 H4 Hs4 E4 r4=>?_⟩;have E14:=E13.trans E4;refine⟨_,rfl,rfl,Hs4,[t],E4.sub,.cons r4 .nil,?_⟩;split at ho
        .rename_i hb
         cases ho;refine .inl ⟨_,hb,λv5 H5 Hs5 E5 r5=>?_⟩;cases bY r5;exact⟨false,rfl,lY λCc hC=>k Cc H5 Hs5 hC (E14.trans E5)⟩
        .rename_i hb
         refine .inl ⟨_,hb,λv5 H5 Hs5 E5 r5=>?_⟩;cases bY r5;refine⟨true,rfl,mW ?_⟩;obtain⟨S',hd,rfl⟩:=R0z.mp ho;have E15:=E14.trans E5;have S5:=S0.ext E15;obtain⟨dx5,q5⟩:=S5.ob;exact⟨_,rfl,p,dx5,_,rfl,q5,rfl,_,rfl,_,rfl,p,d,dn,un,"join",sn,t,v4,Hs5,S,S',rfl,E15.sub,S5,r4.same E5.vis,hd,λH6 Hs6 un6 M6 S6=>⟨_,rfl,k _ H6 Hs6 un6 (M6.pre E15) S6 (r4.same (E5.vis.trans M6.vis))⟩⟩
        .cases ho
       .cases ho
 .cases ho
end
end M92
namespace L2
open PySem PySem.Spec PyProof.Rows
open DE hiding st
abbrev nj:=List (Str×Nat×(Cst->List D->Option MR))
theorem Ld(Tx:Text X.w X.K X.mg T)(hk:k<=k')(h1:X.calm=true)(h2:Room k' X.A)(h3:X.env.scope=sc)(h4:sc.kind=.function)(h5:X.N.Nodup):Good (T.cx (aR T F k)) k' X sc :=
  { calm:=h1, room:=h2, sce:=h3, kind:=h4, nd:=h5, cst:=Tx.cst, blt:=Tx.blt, exs:=Tx.exs, kw:=Tx.kw
    fns:=λf' hf'=>by
      obtain⟨fd',hl'⟩:=eY hf'
      have FA:=Tx.fns f' fd' hl'
      obtain⟨nm',t',a',g',m1,m2,m3,m4,m5⟩:=FA.ex
      exact⟨FA.nd,a',g',fd'.ps,λds d h=>dB hl' ds _ (fu h),λds c h=>dB hl' ds _ (fD h),m1,m2.kp,m3,(rE Tx k nm' f' fd' t' a' g' hl' m2 m4 m5 FA.fs).mono hk⟩ }
def isNm:Expr->Bool
 |.Name _ _=>true
 |_=>false
structure CaseOk(P:Program)(w:World)(K:Zf)(mg:Str->Option Value)(k:Nat)(C:Addr)(ms:nj):Prop where
 cl:Cls K C
 met:∀m n f,ms.lookup m=some (n,f)->(lF 0 0 0).lookup m=none/\∃ps,bV P w K mg C m ps k (spM K C n f)
def o7(cx:Cxt)(F:Nat)(sc:Scope)(ρ:Rho):Expr->Option (Addr×Str×List D)
 |.Call (.Attribute o m ap) args [] cp=>match ev cx F sc ρ o with
  |some (.obj a)=>if isNm o&&ap.endLine==cp.line&&decide (args.length<30) then(n6 (ev cx F sc ρ) args).map λds=>(a,m,ds) else none
  |_=>none
 |_=>none
def QL(ms:nj)(S:Cst):Addr×Str×List D->Option (Addr×MR):=λq=>match ms.lookup q.2.1 with
 |some (n,f)=>if q.2.2.length==n then(f S q.2.2).map λo=>(q.1,o) else none
 |none=>none
def KQ(cx:Cxt)(ms:nj)(F:Nat)(sc:Scope)(ρ:Rho)(S:Cst)(e:Expr):Option (Addr×MR):=(o7 cx F sc ρ e).bind (QL ms S)
theorem Np.pre{K:Zf}(h:Np K C p d dn un Hs H Q E o)(E1:Ext Hs H Hs1 H1):Np K C p d dn un Hs1 H1 Q E o:=by
 cases o with
 |val r S=>exact λv H' Hs' un' M S' r'=>h v H' Hs' un' (M.pre E1) S' r'
 |exc c=>exact λCc H' Hs' hC E2=>h Cc H' Hs' hC (E1.trans E2)
theorem QV(a b c:Addr)(h:(lF 0 0 0).lookup m=none):(lF a b c).lookup m=none:=by
 simp[List.lookup] at h ⊢
 cases e1:m==nT<;>cases e2:m==nD<;>cases e3:m==nU<;>simp[e1,e2,e3] at h ⊢
theorem yj{l:List (Bool×Sem Value)}(h:l.any (·.1)=false):l.all (λq => !q.1)=true:=by
 rw[A4z];intro q hq;rw[List.any_eq_false] at h;simpa using h q hq
theorem Cu(hp:(backTo cp (starEach args env)).any (·.1)=false)(hl:args.length<30)(hline:(ap.endLine==cp.line)=true) :
  eval (.Call (.Attribute (.Name x px) m ap) args [] cp) env=(do
   let ov <- eval (.Name x px) env
   standAt ap.atName
   let (f,first) <- holding [ov] (getMethod ov m (do return (<- importBound (.Name x px) env).getD true))
   callWith cp f first (backTo cp (starEach args env)) (backToKw cp (keywordEach [] env))):=by
 have hf:methodCallForm (args.length+([]:List Keyword).length) (backTo cp (starEach args env)) (backToKw cp (keywordEach [] env))=true:=by
  unfold methodCallForm;rw[yj hp];show(true&&true&&decide (args.length<30))=true;rw[A5z hl];rfl
 show(do
  let ov <- attributeBase (.Name x px) m env (eval (.Name x px) env)
  standAt ap.atName
  methodCall (.Name x px) m ap cp env ov (args.length+([]:List Keyword).length) (backTo cp (starEach args env)) (backToKw cp (keywordEach [] env)))=_
 unfold methodCall;rw[hf];unfold methodCallPos;rw[G7z (by rw[hline];rfl)];rfl
theorem iR(G:Good cx k X sc)(hN:X.N=ρ.map (·.1))(cl:Cls X.K C)(nf:(lF 0 0 0).lookup m=none)(MO:bV X.prog X.w X.K X.mg C m ps kM sp)(hr:Room kM X.A)(hx:Passes (CX1 X.prog X.w) X E)
  (h:o7 cx F sc ρ e=some (p,m,ds)) (hs:Same Hs H) (hst:cJ X.K Hs ρ σ) (S0:CRep X.K C Hs H p d dn un S) (k:∀H1 Hs1 vs,Ext Hs H Hs1 H1->aJ X.K Hs1 ds vs->sp (.ref p::vs) H1 Q E):jx X e σ H Q/\aG e=true:=by
 unfold o7 at h;split at h
 .rename_i o m' ap args cp
  split at h
  .rename_i a ha
   split at h
   .rename_i hp
    rw[J3z,J3z] at hp;obtain⟨⟨hnm,hline⟩,hl30⟩:=hp;have hl30:=X2z hl30;obtain⟨ds',h1,h2⟩:=R0z.mp h;cases h2
    cases o with
    |Name x px =>
     have hn:=(dZ cx F G hN ha).1;obtain⟨hA,hpl⟩:=gb (λe _ d he=>⟨(dZ cx F G hN he).1,aY he⟩) h1;obtain⟨g,gd,mG,bG,GS⟩:=MO;refine⟨?_,rfl⟩
     cases args with
     |nil =>
      simp[n6,Y2z] at h1;subst h1;refine(Ek ak cl mG (GS _) hr bG .nil hx (Cu rfl hl30 hline)).sem (hn σ H Hs _ hs hst λv H1 Hs1 E1 r1=>?_);cases (show v=.ref p by simpa[Rep] using r1);obtain⟨dx,h3⟩:=(S0.ext E1).ob;exact⟨p,dx,_,rfl,h3,QV _ _ _ nf,k H1 Hs1 [] E1 .nil⟩
     |cons e1 es =>
      refine(cZ ak cl mG (GS _) hr bG .nil hx cR (aj (hpl e1 (by simp))) (fV λe' he=>hpl e' (E1z _ he)) (Cu (fV hpl) hl30 hline)).sem (hn σ H Hs _ hs hst λv H1 Hs1 E1 r1=>?_);cases (show v=.ref p by simpa[Rep] using r1);obtain⟨dx,h3⟩:=(S0.ext E1).ob;refine⟨p,dx,_,rfl,h3,QV _ _ _ nf,hA σ H1 Hs1 _ E1.sub (hst.same E1.vis) λvs H2 Hs2 E2 r2=>?_⟩;rw[G4z];exact k H2 Hs2 vs (E1.trans E2) r2
    |_=>cases hnm
   .cases h
  .cases h
 .cases h
theorem gH(h:o7 cx F sc ρ e=some q):aG e=true:=by
 unfold o7 at h;split at h
 .rfl
 .cases h
theorem KR{K:Zf}(CO:CaseOk P w K mg kM C ms)(h:QL ms S (p',m,ds)=some (p,o))(hs:Same Hs H)(S0:CRep K C Hs H p d dn un S)(k:Np K C p d dn un Hs H Q E o) :
  p'=p/\(lF 0 0 0).lookup m=none/\∃ps sp,bV P w K mg C m ps kM sp/\∀H1 Hs1 vs,Ext Hs H Hs1 H1->aJ K Hs1 ds vs->sp (.ref p::vs) H1 Q E:=by
 unfold QL at h;split at h
 .rename_i n f hm
  split at h
  .rename_i hl
   obtain⟨o',h2,h5⟩:=R0z.mp h;cases h5;obtain⟨nf,ps,MO⟩:=CO.met m n f hm;exact⟨rfl,nf,ps,_,MO,λH1 Hs1 vs E1 r=>⟨_,d,dn,un,Hs1,S,ds,vs,_,rfl,by simpa using hl,E1.sub,S0.ext E1,r,h2,k.pre E1⟩⟩
  .cases h
 .cases h
theorem sX(G:Good cx k X sc)(hN:X.N=ρ.map (·.1))(CO:CaseOk X.prog X.w X.K X.mg kM C ms)(hr:Room kM X.A)(hx:Passes (CX1 X.prog X.w) X E)
  (h:KQ cx ms F sc ρ S e=some (p,o)) (hs:Same Hs H) (hst:cJ X.K Hs ρ σ) (S0:CRep X.K C Hs H p d dn un S) (k:Np X.K C p d dn un Hs H Q E o):jx X e σ H Q/\aG e=true:=by
 obtain⟨⟨p',m,ds⟩,h1,h2⟩:=N0z.mp h;obtain⟨rfl,nf,ps,sp,MO,q⟩:=KR CO h2 hs S0 k;exact iR G hN CO.cl nf MO hr hx h1 hs hst S0 q
def big(Hs H:Hp)(p d dn un:Addr):Hp:=λb=>match Hs b with
 |some o=>some o
 |none=>if b=p\/b=d\/b=dn\/b=un then H b else none
section
variable{Hs H:Hp}{p d dn un:Addr}
theorem Cy(hs:Same Hs H):Same (big Hs H p d dn un) H:=λb o e=>by
 unfold big at e;split at e
 .rename_i q;cases e;exact hs _ _ q
 .split at e
  .exact e
  .cases e
theorem wk(h:b=p\/b=d\/b=dn\/b=un)(n:Hs b=none)(e:H b=some o):big Hs H p d dn un b=some o:=by
 unfold big;rw[n];simp only;rw[G7z h];exact e
theorem Cz(h:¬ (b=p\/b=d\/b=dn\/b=un))(n:Hs b=none):big Hs H p d dn un b=none:=by
 unfold big;rw[n];simp only;rw[H7z h]
end
section
variable{K:Zf}{lm:Option (Addr×Str)}{Hs0 H0 Hs H Hs' H':Hp}{ρ:Rho}{σ:St}{C p d dn un un':Addr}{S S':Cst}
theorem CRep.core(S0:CRep K C Hs H p d dn un S):CRep K C Hs (L2.big Hs H p d dn un) p d dn un S:=by
 obtain⟨⟨dx,a1⟩,⟨kvs,b1,b2⟩,⟨vs,c1,c2⟩,⟨us,d1,d2⟩,e,f1,f2,f3,f4⟩:=S0;exact⟨⟨dx,wk (.inl rfl) f1 a1⟩,⟨kvs,wk (.inr (.inl rfl)) f2 b1,b2⟩,⟨vs,wk (.inr (.inr (.inl rfl))) f3 c1,c2⟩,⟨us,wk (.inr (.inr (.inr rfl))) f4 d1,d2⟩,e,f1,f2,f3,f4⟩
theorem CRep.nY(S0:CRep K C Hs H p d dn un S)(h:H b=none):b≠p/\b≠d/\b≠dn/\b≠un:=by
 obtain⟨⟨dx,a1⟩,⟨kvs,b1,b2⟩,⟨vs,c1,c2⟩,⟨us,d1,d2⟩,_⟩:=S0
 refine⟨?_,?_,?_,?_⟩<;>rintro rfl
 .rw[a1] at h;cases h
 .rw[b1] at h;cases h
 .rw[c1] at h;cases h
 .rw[d1] at h;cases h
theorem Hd.rebase(h:Hd K lm Hs0 H0 Hs H ρ σ)(vis:Same Hs Hs')(ext:Ext Hs' H0' Hs' H')(key:∀b vs,H b=some (.lst vs)->Hs b=none->H0 b=none->H' b=some (.lst vs)/\Hs' b=none/\H0' b=none)(lam:∀q,lm=some q->H0' q.1=none/\∃l,LamT H' q.1 q.2 l/\Hs' q.1=none/\∀r∈l,Hs' r.2=none):Hd K lm Hs' H0' Hs' H' ρ σ:=by
 refine⟨ext,h.len,h.sh.same vis,λi x ds e=>?_,h.dis,λi x dss e=>?_,lam⟩
 .obtain⟨a,vs,h1,h2,h3,h4,h5⟩:=h.ow i x ds e
  obtain⟨k1,k2,k3⟩:=key a _ h2 h4 h5;exact⟨a,vs,h1,k1,aJ.same vis ds vs h3,k2,k3⟩
 .exact h.oo i x dss e
theorem Hd.stepN(h:Hd K lm Hs0 H0 Hs H ρ σ)(all:Same H H')(n1:H p=none)(n2:H d=none)(n3:H dn=none)(n4:H un=none):Hd K lm Hs (big Hs H' p d dn un) Hs H' ρ σ:=by
 have sub:Same Hs H':=h.ext.sub.trans all
 have out:∀{b o},H b=some o->Hs b=none->big Hs H' p d dn un b=none:=λ{b o} e n=>Cz (λz=>by
  rcases z with rfl|rfl|rfl|rfl
  .rw[n1] at e;cases e
  .rw[n2] at e;cases e
  .rw[n3] at e;cases e
  .rw[n4] at e;cases e) n
 refine h.rebase (.refl _) ⟨.refl _,Cy sub,sub,λ_ _ _ z=>z⟩ (λb vs e n _=>⟨all b _ e,n,out e n⟩) λq hq=>?_;obtain⟨_,l,T,m1,m2⟩:=h.lam q hq;exact⟨out T.tab m1,l,T.same all,m1,m2⟩
end
section
variable{X:Cx}{e:Expr}{σ:St}{H:Hp}
end
section
variable{K:Zf}{lm:Option (Addr×Str)}{Hs0 H0 Hs H Hs' H':Hp}{ρ:Rho}{σ:St}{C p d dn un un':Addr}{S S':Cst}
theorem Hd.stepM(hl:lm=none)(h:Hd K lm Hs0 H0 Hs H ρ σ)(S0:CRep K C Hs0 H0 p d dn un S)(E:ExtM p d dn un un' Hs H Hs' H'):Hd K lm Hs' (big Hs' H' p d dn un') Hs' H' ρ σ:=by
 subst hl
 refine h.rebase E.vis ⟨.refl _,Cy E.sub,E.sub,λ_ _ _ z=>z⟩ (λb vs e n hb=>?_) λq hq=>by cases hq
 obtain⟨a1,a2,a3,a4⟩:=S0.nY hb;have n':=E.hid b _ e a1 a2 a3 a4 n;refine⟨E.all b _ e a1 a2 a3 a4,n',Cz (λz=>?_) n'⟩;rcases z with z|z|z|z
 .exact a1 z
 .exact a2 z
 .exact a3 z
 .rcases E.nu with q|q
  .exact a4 (z.trans q)
  .rw[z,q] at e;cases e
end
structure GoodK(T:Pg)(F k:Nat)(ms:nj)(X:Cx)(sc:Scope)(C:Addr):Prop where
 s:GoodS (T.cx (aR T F k)) (k+3) X sc
 t:Text X.w X.K X.mg T
 lm:X.lm=none
 co:CaseOk X.prog X.w X.K X.mg k C ms
section
variable{X:Cx}{ρ:Rho}{T:Pg}{F k:Nat}{sc:Scope}{ms:nj}{C p d dn un:Addr}{S S':Cst}{Hs0 H0 Hs H:Hp}{σ:St}
def AfC(X:Cx)(C p d dn:Addr)(r:D)(S':Cst)(ρ:Rho)(σ:St)(Hs:Hp)(Q:VK):Prop:=∀v H' Hs' Hs1 H1 un',Same Hs Hs'->CRep X.K C Hs1 H1 p d dn un' S'->Hd X.K X.lm Hs1 H1 Hs' H' ρ σ->Rep X.K Hs' r v->Q v H'
def AfB(X:Cx)(C p d dn:Addr)(b:Bool)(S':Cst)(ρ:Rho)(σ:St)(Hs:Hp)(Q:Bool->Hp->Prop):Prop:=∀H' Hs' Hs1 H1 un',Same Hs Hs'->CRep X.K C Hs1 H1 p d dn un' S'->Hd X.K X.lm Hs1 H1 Hs' H' ρ σ->Q b H'
def OkC(X:Cx)(C p d dn:Addr)(e:Expr)(r:D)(S S':Cst)(ρ:Rho):Prop:=∀(σ:St)(Hs0 H0 Hs H:Hp)(un:Addr),CRep X.K C Hs0 H0 p d dn un S->Hd X.K X.lm Hs0 H0 Hs H ρ σ ->
 (∀Q,AfC X C p d dn r S' ρ σ Hs Q->jx X e σ H Q)/\(∀b Q,r=.bl b->AfB X C p d dn b S' ρ σ Hs Q->rM X e σ H Q)
def OkW(X:Cx)(C p d dn:Addr)(e:Expr)(r:D)(S S':Cst)(ρ:Rho):Prop:=∀(σ:St)(Hs0 H0 Hs H:Hp)(un:Addr),CRep X.K C Hs0 H0 p d dn un S->Hd X.K X.lm Hs0 H0 Hs H ρ σ ->
 (∀Q,AfC X C p d dn r S' ρ σ Hs Q->jx X e σ H Q)/\(∀b Q,r=.bl b->AfB X C p d dn b S' ρ σ Hs Q->Dv X e σ H Q)
theorem Ri{e:Expr}{r:D}(G:GoodK T F k ms X sc C)(hN:X.N=ρ.map (·.1))(h:ev (T.cx (aR T F k)) F sc ρ e=some r):OkC X C p d dn e r S S ρ:=by
 intro σ Hs0 H0 Hs H un S0 hd;obtain⟨h1,h2⟩:=dZ _ F G.s.good hN h;exact⟨λQ q=>h1 σ H Hs Q hd.ext.sub hd.sh λv H' Hs' E rv=>q v H' Hs' Hs0 H0 un E.vis S0 (hd.step E) rv,λb Q hb q=>h2 b hb σ H Hs Q hd.ext.sub hd.sh λH' Hs' E=>q H' Hs' Hs0 H0 un E.vis S0 (hd.step E)⟩
theorem KN{e:Expr}{r:D}(G:GoodK T F k ms X sc C)(hN:X.N=ρ.map (·.1))(h:KQ (T.cx (aR T F k)) ms F sc ρ S e=some (p,.val r S'))(he:∀whole,isTrue e X.env whole=(do let v <- whole;standAt e.pos;holding [v] (truthy v))):OkC X C p d dn e r S S' ρ:=by
 intro σ Hs0 H0 Hs H un S0 hd;have key:∀Q,AfC X C p d dn r S' ρ σ Hs Q->jx X e σ H Q:=λQ q=>(sX (E:=E0) G.s.good hN G.co (G.s.good.room.mono (by omega)) iM h hd.ext.sub hd.sh (S0.ext hd.ext) λv H' Hs' un' M S1 r1=>q v H' Hs' _ _ un' M.vis S1.core (hd.stepM G.lm S0 M) r1).1;refine⟨key,λb Q hb q=>(mH ak he).sem (key _ λv H' Hs' Hs1 H1 un' sm S1 hd' rv=>?_)⟩;subst hb;exact⟨b,bY rv,q H' Hs' Hs1 H1 un' sm S1 hd'⟩
end
def BX(H:Hp)(a:Addr):Hp:=λb=>if b=a then none else H b
section
variable{Hs Hx Hs' H':Hp}{a b:Addr}{o:HO}{K:Zf}{C p d dn un un':Addr}{S S':Cst}
theorem lJ:BX Hx a a=none:=G7z rfl
theorem fG(h:b≠a):BX Hx a b=Hx b:=H7z h
theorem vP(h:H' a=some o):H'=upd (BX H' a) a o:=by
 funext b
 by_cases e:b=a
 .rw[e,aA,h]
 .rw[ao e,fG e]
theorem Ext.cut(E:Ext Hs (upd Hx a o) Hs' H')(n:Hx a=none)(ns:Hs a=none):Ext Hs Hx Hs' (BX H' a)/\H'=upd (BX H' a) a o/\Hs' a=none:=by
 have h1:H' a=some o:=E.all _ _ aA;have h2:Hs' a=none:=E.hid a o aA ns;refine⟨⟨E.vis,λb u e=>?_,λb u e=>?_,λb u e z=>?_⟩,vP h1,h2⟩
 .have hb:b≠a:=aq e n
  rw[fG hb];exact E.all b u (by rw[ao hb];exact e)
 .rw[fG (aq e h2)]
  exact E.sub b u e
 .exact E.hid b u (by rw[ao (aq e n)];exact e) z
theorem ExtM.cut(E:ExtM p d dn un un' Hs (upd Hx a o) Hs' H')(n:Hx a=none)(ns:Hs a=none)(ha:a≠p/\a≠d/\a≠dn/\a≠un):ExtM p d dn un un' Hs Hx Hs' (BX H' a)/\H'=upd (BX H' a) a o/\Hs' a=none/\a≠un':=by
 obtain⟨q1,q2,q3,q4⟩:=ha;have h1:H' a=some o:=E.all _ _ aA q1 q2 q3 q4;have h2:Hs' a=none:=E.hid a o aA q1 q2 q3 q4 ns
 have h3:a≠un':=λz=>by
  rcases E.nu with q|q
  .exact q4 (z.trans q)
  .rw[<- z,aA] at q;cases q
 refine⟨⟨E.vis,λb u e m1 m2 m3 m4=>?_,λb u e=>?_,λb u e m1 m2 m3 m4 z=>?_,?_⟩,vP h1,h2,h3⟩
 .have hb:b≠a:=aq e n
  rw[fG hb];exact E.all b u (by rw[ao hb];exact e) m1 m2 m3 m4
 .rw[fG (aq e h2)]
  exact E.sub b u e
 .exact E.hid b u (by rw[ao (aq e n)];exact e) m1 m2 m3 m4 z
 .refine E.nu.imp id λq=>?_
  rwa [ao (E7z h3)] at q
theorem CRep.cut(S0:CRep K C Hs' H' p d dn un S)(h1:a≠p)(h2:a≠d)(h3:a≠dn)(h4:a≠un):CRep K C Hs' (BX H' a) p d dn un S:=by
 obtain⟨⟨dx,a1⟩,⟨kvs,b1,b2⟩,⟨vs,c1,c2⟩,⟨us,d1,d2⟩,e,f1,f2,f3,f4⟩:=S0;exact⟨⟨dx,(fG (E7z h1)).trans a1⟩,⟨kvs,(fG (E7z h2)).trans b1,b2⟩,⟨vs,(fG (E7z h3)).trans c1,c2⟩,⟨us,(fG (E7z h4)).trans d1,d2⟩,e,f1,f2,f3,f4⟩
end
def goM(f:Cst->D->Option (Addr×D×Cst)):List D->Cst->Option (List Addr×List D×Cst)
 |[],S=>some ([],[],S)
 |d::r,S=>match f S d with
  |some (a,v,S1)=>(goM f r S1).map λq=>(a::q.1,v::q.2.1,q.2.2)
  |none=>none
def elM(cx:Cxt)(ms:nj)(F:Nat)(scope sc:Scope)(ρ:Rho)(tg elt:Expr)(S:Cst)(d:D):Option (Addr×D×Cst):=(fH scope tg d (bH scope ρ)).bind λρ1=>match KQ cx ms F (jg scope sc) ρ1 S elt with
 |some (a,.val r S')=>some (a,r,S')
 |_=>none
section
variable{X:Cx}{ρ:Rho}{T:Pg}{F k:Nat}{sc scope:Scope}{ms:nj}{C p d dn un:Addr}{S S':Cst}{Hs0 H0 Hs H:Hp}{σ:St}
theorem GR{tg iter elt:Expr}{l out:List D}{as:List Addr}{Q:VK}(G:GoodK T F k ms X sc C)(hN:X.N=ρ.map (·.1))(hok:dN sc scope=true)(hI:∀R,(∀J H' Hs' Hb Hc un',Same Hs Hs'->CRep X.K C Hb Hc p d dn un' S->Hd X.K X.lm Hb Hc Hs' H' ρ σ->uf X.K J Hs' l->R J H')->jJ X tg iter σ H R)(hz:szl l.length=true)
  (hgo:goM (elM (T.cx (aR T F k)) ms F scope sc ρ tg elt) l S=some (as,out,S')) (ha:∀a∈as,a=p)
  (hq:∀acc vs Hs' H' Hb Hc un',Same Hs Hs'->H' acc=none->Hs' acc=none->CRep X.K C Hb Hc p d dn un' S'->Hd X.K X.lm Hb Hc Hs' H' ρ σ->aJ X.K Hs' out vs->Q (.ref acc) (upd H' acc (.lst vs))) :
  rN X scope (jJ X tg iter) (sO X.N scope.names) (λXc=>Gb Xc tg) (λXc=>tG Xc []) (λXc=>jx Xc elt) σ H Q:=by
 obtain⟨ok1,ok2,ok3⟩:=dg G.s.good hok;refine hI _ λJ H1 Hs1 Hs0 H0 un sm1 S0 hd hJ acc hacc Xc Cc=>?_;have GC:=G.s.good.comp Cc hok;have OC:=Owns.comp (scope:=scope) G.s.good Cc
 have hNc:∀ρ1:Rho,ρ1.map (·.1)=scope.names.map (·.1)->Xc.N=ρ1.map (·.1):=λρ1 h=>by rw[Cc.N,h]
 have a1:Hs1 acc=none:=hd.ext.sub.free hacc
 let W:Nat->Nat->St->Hp->Prop:=λi m σc H=>m=l.length-i/\i<=l.length/\∃Hs3 Hx Hb Hc un3 S3 ys pre as3 rest,Hx acc=none/\H=upd Hx acc (.lst ys)/\Hs3 acc=none/\Same Hs1 Hs3/\CRep X.K C Hb Hc p d dn un3 S3/\Hd X.K X.lm Hb Hc Hs3 Hx ρ σ/\aJ X.K Hs3 pre ys/\goM (elM (T.cx (aR T F k)) ms F scope sc ρ tg elt) (l.drop i) S3=some (as3,rest,S')/\(∀a∈as3,a=p)/\pre++rest=out/\pre.length<=i/\σc.length=scope.names.length/\cJ X.K Hs3 (bH scope ρ) σc
 refine⟨W,⟨l.length,rfl,K6z _,Hs1,H1,Hs0,H0,un,S,[],[],as,out,hacc,rfl,a1,.refl _,S0,hd,.nil,by simpa using hgo,ha,rfl,I6z _,by simp[sO],lK hN hd.sh⟩,?_⟩;rintro i m σc H3 ⟨rfl,hi,Hs3,Hx,Hb,Hc,un3,S3,ys,pre,as3,rest,x1,rfl,b3,v3,S3',hd3,r3,g3,a3,p3,q3,l3,s3⟩
 have sub3:Same Hs3 (upd Hx acc (.lst ys)):=λb o e=>by rw[ao (aq e b3)];exact hd3.ext.sub b o e
 obtain⟨st3,go3⟩:=hJ Hs3 _ v3 sub3
 by_cases hlt:i<l.length
 .have hd':l[i]?=some l[i]:=List.getElem?_eq_getElem hlt
  obtain⟨gi,yi⟩:=go3 i l[i] hd';refine .inr ⟨gi,λσ' H'=>W (i+1) (l.length-(i+1)) σ' H',λσ' H' w=>⟨_,by omega,w⟩,λx H4 y4=>?_⟩;obtain⟨Hs4,E4,rx⟩:=yi x H4 y4;obtain⟨E4',e4,b4⟩:=E4.cut x1 b3;rw[C0z hlt] at g3;unfold goM at g3;split at g3
  .rename_i a v S4 hf
   obtain⟨⟨as4,rest4,S5⟩,g4,g5⟩:=R0z.mp g3;cases g5;unfold elM at hf;obtain⟨ρ1,k1,hf⟩:=N0z.mp hf;split at hf
   .rename_i a' r' S4' hm
    cases hf;have ea:p=a:=(a3 a (by simp)).symm;subst ea;have s4:cJ X.K Hs4 (bH scope ρ) σc:=s3.same E4.vis;have KE:=mV (K:=Xc.K) (Hs:=Hs4) (ρ:=ρ) (n:=scope.names.length) ok2 rfl;refine tZ (X:=Xc) (scope:=scope) (Hs:=Hs4) GC.calm OC GC.nd E4.sub (hNc _ dO) KE k1 ⟨dO,l3,by rw[Cc.K];exact s4,by rw[Cc.K];exact s4⟩ (by rw[Cc.K];exact rx) λσ5 hN5 p5=>?_;obtain⟨_,l5,s5,s5'⟩:=p5;refine CZ.sem uO (lY ?_);have hd4:=hd3.step E4'
    have ne4:=S3'.nY (b:=acc) (by
     cases e:Hc acc with
     |none=>rfl
     | some o=>exact absurd (hd3.ext.all _ _ e) (by rw[x1];exact λz=>by cases z))
    have S4r:CRep X.K C Hs4 H4 p d dn un3 S3:=by
     have q:=Ext.acc (o:=.lst ys) (Ext.refl hd4.ext.sub) lJ b4;rw[<- e4] at q;exact(S3'.ext hd4.ext).ext q
    refine(sX (X:=Xc) (E:=E0) (C:=C) (ms:=ms) (kM:=k) (d:=d) (dn:=dn) (un:=un3) GC hN5 (by rw[Cc.prog,Cc.w,Cc.K,Cc.mg];exact G.co) (by rw[Cc.A];exact G.s.good.room.mono (by omega)) iM hm E4.sub s5 (by rw[Cc.K];exact S4r) λw H7 Hs7 un7 M S7 r7=>?_).1
    rw[e4] at M;obtain⟨M',e7,b7,n7⟩:=M.cut lJ b4 ne4;rw[Cc.K] at S7 r7;have S7':CRep X.K C Hs7 (BX H7 acc) p d dn un7 S4:=S7.cut ne4.1 ne4.2.1 ne4.2.2.1 n7;refine⟨ys,by rw[e7,aA],?_,rfl,hlt,Hs7,BX H7 acc,Hs7,big Hs7 (BX H7 acc) p d dn un7,un7,S4,ys++[w],pre++[v],as4,rest4,lJ,?_,b7,v3.trans (E4.vis.trans M.vis),S7'.core,hd4.stepM G.lm S3' M',?_,g4,λa h=>a3 a (E1z _ h),by rw[<- p3];simp,by simp;omega,l5,?_⟩
    .have:=r3.length
     have:=yQ hz;omega
    .rw[e7,Iw,<- e7]
    .exact aJ.append (aJ.same (E4.vis.trans M.vis) pre ys r3) (.cons r7 .nil)
    .rw[<- Cc.K]
     exact s5'.same M.vis
   .cases hf
  .cases g3
 .have hi':i=l.length:=by omega
  subst hi';refine .inl ⟨st3,?_⟩;rw[Y3z] at g3;simp only[goM,Y2z,Prod.mk.injEq] at g3;obtain⟨_,g3,g4⟩:=g3;subst g3;subst g4;rw[G4z] at p3;subst p3;exact hq acc ys Hs3 Hx Hb Hc un3 (sm1.trans v3) x1 b3 S3' hd3 r3
theorem vV{tg iter elt:Expr}{l out:List D}{as:List Addr}{S1:Cst}{pos:Pos}(G:GoodK T F k ms X sc C)(hN:X.N=ρ.map (·.1))(hok:dN sc scope=true)(hp:aG iter=true)(hz:szl l.length=true)(hgo:goM (elM (T.cx (aR T F k)) ms F scope sc ρ tg elt) l S1=some (as,out,S'))(ha:∀a∈as,a=p)
  (hI:∀{σ:St}{Hs0 H0 Hs H:Hp}{un:Addr},CRep X.K C Hs0 H0 p d dn un S->Hd X.K X.lm Hs0 H0 Hs H ρ σ->∀R,(∀J H' Hs' Hb Hc un',Same Hs Hs'->CRep X.K C Hb Hc p d dn un' S1->Hd X.K X.lm Hb Hc Hs' H' ρ σ->uf X.K J Hs' l->R J H')->jJ X tg iter σ H R) :
  OkC X C p d dn (.ListComp elt [⟨tg,iter,[],0⟩] scope pos) (.lst out) S S' ρ:=by
 intro σ Hs0 H0 Hs H un S0 hd;obtain⟨ok1,ok2,ok3⟩:=dg G.s.good hok;refine⟨λQ q=>PE.sem (kj G.s.good.calm ok1 ok2 ok3 j8 (λXc C=>⟨iK,gD,ak⟩) (dW hp)) (GR G hN hok (hI S0 hd) hz hgo ha λacc vs Hs' H' Hb Hc un' sm n1 n2 S2 hd2 r2=>?_),λb Q hb=>by cases hb⟩;have E2:=Ext.new hd2.ext.sub (.lst vs) n1;refine q (.ref acc) _ _ _ _ un' (sm.trans E2.vis) S2 (hd2.step E2) ?_;simp only[Rep];exact⟨acc,vs,rfl,.of aA,aJ.same E2.vis out vs r2⟩
theorem K8{tg iter:Expr}{l:List D}(G:GoodK T F k ms X sc C)(hN:X.N=ρ.map (·.1))(h:DE.evI (T.cx (aR T F k)) (fP tg) (ev (T.cx (aR T F k)) F sc ρ) sc iter=some l):aG iter=true/\∀{σ:St}{Hs0 H0 Hs H:Hp}{un:Addr},CRep X.K C Hs0 H0 p d dn un S->Hd X.K X.lm Hs0 H0 Hs H ρ σ->∀R,(∀J H' Hs' Hb Hc un',Same Hs Hs'->CRep X.K C Hb Hc p d dn un' S->Hd X.K X.lm Hb Hc Hs' H' ρ σ->uf X.K J Hs' l->R J H')->jJ X tg iter σ H R:=by
 obtain⟨hI,hp⟩:=vJ (tg:=tg) G.s.good (λe d h=>⟨(dZ _ F G.s.good hN h).1,aY h⟩) h;exact⟨hp,λ{σ Hs0 H0 Hs H un} S0 hd R kR=>hI σ H Hs R hd.ext.sub hd.sh λJ H' Hs' E J'=>kR J H' Hs' Hs0 H0 un E.vis S0 (hd.step E) J'⟩
theorem Fz{tg iter:Expr}{l:List D}{S1:Cst}(ok:OkC X C p d dn iter (.lst l) S S1 ρ){σ:St}{Hs0 H0 Hs H:Hp}{un:Addr}(S0:CRep X.K C Hs0 H0 p d dn un S)(hd:Hd X.K X.lm Hs0 H0 Hs H ρ σ):∀R,(∀J H' Hs' Hb Hc un',Same Hs Hs'->CRep X.K C Hb Hc p d dn un' S1->Hd X.K X.lm Hb Hc Hs' H' ρ σ->uf X.K J Hs' l->R J H')->jJ X tg iter σ H R:=λR kR=>by
 refine(nQ (tg:=tg) ak).sem ((ok _ _ _ _ _ _ S0 hd).1 _ λv H1 Hs1 Hb Hc un' sm S1' hd1 r1=>?_);obtain⟨p,vs,rfl,h1,h2⟩:=cu r1;refine⟨p,rfl,⟨vs,hd1.ext.sub.seq h1⟩,kR _ H1 Hs1 Hb Hc un' sm S1' hd1 λHs' H' e1 e2=>⟨⟨vs,e2.seq (e1.seq h1),by rw[h2.length];exact I6z _⟩,λi d hd=>?_⟩⟩;obtain⟨v,g1,g2⟩:=h2.get hd;refine⟨⟨vs,v,e2.seq (e1.seq h1),g1⟩,λx H2 y=>?_⟩;obtain⟨rfl,y⟩:=y;have:=y vs (e2.seq (e1.seq h1));rw[g1] at this;cases this;exact⟨Hs',.refl e2,Rep.same e1 d v g2⟩
end
def mC(cx:Cxt)(F:Nat)(sc:Scope)(ρ:Rho):Nat->Expr->Bool
 |0,_=>false
 |n+1,e=>match e with
  |.Call (.Attribute (.Name x q) _ _) _ _ _=>(match ev cx F sc ρ (.Name x q) with|some (.obj _)=>true|_=>false)
  |.Call (.Name _ _) [a] [] _=>mC cx F sc ρ n a
  |.Compare l [_] [r] _=>mC cx F sc ρ n l||mC cx F sc ρ n r
  |.BoolOp _ es _=>es.any (mC cx F sc ρ n)
  |.ListComp e _ _ _=>mC cx F sc ρ n e
  |_=>false
def bC(f:Cst->Expr->Option (List Addr×D×Cst))(op:BoolOp):List Expr->Cst->Option (List Addr×D×Cst)
 |[],_=>none
 |[e],S=>f S e
 |e::e'::r,S=>match f S e with
  |some (as,.bl b,S1)=>if b==(match op with|.And=>true|.Or=>false) then(bC f op (e'::r) S1).map λq=>(as++q.1,q.2) else some (as,.bl b,S1)
  |_=>none
def eC(cx:Cxt)(ms:nj)(F:Nat)(sc:Scope)(ρ:Rho):Nat->Cst->Expr->Option (List Addr×D×Cst)
 |0,_,_=>none
 | n+1,S,e=>if mC cx F sc ρ 5 e then(match e with
  |.Call (.Attribute o m ap) args kws cp=>match KQ cx ms F sc ρ S (.Call (.Attribute o m ap) args kws cp) with
   |some (a,.val r S')=>some ([a],r,S')
   |_=>none
  | .Call (.Name f q) [a] [] cp=>if sc.names.lookup f==some .globalImplicit&&cx.fns.contains f then(match eC cx ms F sc ρ n S a with
   |some (as,x,S1)=>(cx.call f [x]).map λz=>(as,z,S1)
   | none=>none) else none
  |.Compare l [op] [r] _=>match eC cx ms F sc ρ n S l with
   | some (as,x,S1)=>(match eC cx ms F sc ρ n S1 r with
    |some (bs,y,S2)=>(cmpop op x y).map λz=>(as++bs,z,S2)
    | none=>none)
   |none=>none
  |.BoolOp op es _=>bC (eC cx ms F sc ρ n) op es S
  | .ListComp elt [⟨tg,iter,[],0⟩] scope _=>if dN sc scope then(match (if mC cx F sc ρ 5 iter then(match KQ cx ms F sc ρ S iter with
    |some (a,.val (.lst l) S1)=>some ([a],l,S1)
    | _=>none) else(evI cx (fP tg) (ev cx F sc ρ) sc iter).map λl=>([],l,S)) with
   |some (as,l,S1)=>if szl l.length then(goM (elM cx ms F scope sc ρ tg elt) l S1).map λq=>(as++q.1,.lst q.2.1,q.2.2) else none
   | none=>none) else none
  | _=>none) else(ev cx F sc ρ e).map λd=>([],d,S)
section
variable{X:Cx}{ρ:Rho}{T:Pg}{F k:Nat}{sc:Scope}{ms:nj}{C p d dn un:Addr}{S S':Cst}{Hs0 H0 Hs H:Hp}{σ:St}
theorem Ni{f:Cst->Expr->Option (List Addr×D×Cst)}{op:BoolOp}{pos:Pos}(hf:∀e S S' r as,f S e=some (as,r,S')->(∀a∈as,a=p)->OkC X C p d dn e r S S' ρ):∀(es:List Expr){S S':Cst}{r:D}{as:List Addr},bC f op es S=some (as,r,S')->(∀a∈as,a=p)->OkW X C p d dn (.BoolOp op es pos) r S S' ρ
 |[],S,S',r,as,h,_=>by cases h
 |[e],S,S',r,as,h,ha=>by
  intro σ Hs0 H0 Hs H un S0 hd;obtain⟨h1,h2⟩:=hf e S S' r as h ha _ _ _ _ _ _ S0 hd;refine⟨λQ q=>(HB ak).sem (h1 Q q),λb Q hb q=>?_⟩
  cases op with
  |And=>exact(zT cY).sem (h2 b Q hb q)
  |Or=>exact(Hu cY).sem (h2 b Q hb q)
 |e::e'::r',S,S',r,as,h,ha=>by
  intro σ Hs0 H0 Hs H un S0 hd;unfold bC at h;split at h
  .rename_i as1 b1 S1 h1
   cases op with
   |And =>
    cases b1 with
    |true =>
     replace h:Option.map (λq=>(as1++q.1,q.2)) (bC f .And (e'::r') S1)=some (as,r,S'):=h
     obtain⟨⟨as2,r2,S2⟩,g1,g2⟩:=R0z.mp h;cases g2;have ih:=Ni hf (e'::r') (pos:=pos) g1 (λa h=>ha a (W0z _ h));obtain⟨k1,k2⟩:=hf e S S1 (.bl true) as1 h1 (λa h=>ha a (F1z _ h)) _ _ _ _ _ _ S0 hd
     exact⟨λQ q=>(uT ak ak).sem (k1 _ λv H' Hs' Hs1 H1 un' sm S1' hd' rv=>⟨true,bY rv,lY ((ih _ _ _ _ _ _ S1' hd').1 Q λw H2 Hs2 Hs3 H3 un2 sm2=>q w H2 Hs2 Hs3 H3 un2 (sm.trans sm2))⟩),
      λb Q hb q=>(uN cY iJ).sem (k2 true _ rfl λH' Hs' Hs1 H1 un' sm S1' hd'=>lY ((ih _ _ _ _ _ _ S1' hd').2 b Q hb λH2 Hs2 Hs3 H3 un2 sm2=>q H2 Hs2 Hs3 H3 un2 (sm.trans sm2)))⟩
    |false =>
     replace h:some (as1,D.bl false,S1)=some (as,r,S'):=h
     cases h;obtain⟨k1,k2⟩:=hf e S S' (.bl false) as h1 ha _ _ _ _ _ _ S0 hd
     exact⟨λQ q=>(uT ak ak).sem (k1 _ λv H' Hs' Hs1 H1 un' sm S1' hd' rv=>⟨false,bY rv,mW (bY rv▸q v H' Hs' Hs1 H1 un' sm S1' hd' rv)⟩),
      λb Q hb q=>(uN cY iJ).sem (k2 false _ rfl λH' Hs' Hs1 H1 un' sm S1' hd'=>mW (by cases hb;exact q H' Hs' Hs1 H1 un' sm S1' hd'))⟩
   |Or =>
    cases b1 with
    |false =>
     replace h:Option.map (λq=>(as1++q.1,q.2)) (bC f .Or (e'::r') S1)=some (as,r,S'):=h
     obtain⟨⟨as2,r2,S2⟩,g1,g2⟩:=R0z.mp h;cases g2;have ih:=Ni hf (e'::r') (pos:=pos) g1 (λa h=>ha a (W0z _ h));obtain⟨k1,k2⟩:=hf e S S1 (.bl false) as1 h1 (λa h=>ha a (F1z _ h)) _ _ _ _ _ _ S0 hd
     exact⟨λQ q=>(Ej ak ak).sem (k1 _ λv H' Hs' Hs1 H1 un' sm S1' hd' rv=>⟨false,bY rv,mW ((ih _ _ _ _ _ _ S1' hd').1 Q λw H2 Hs2 Hs3 H3 un2 sm2=>q w H2 Hs2 Hs3 H3 un2 (sm.trans sm2))⟩),
      λb Q hb q=>(Eb cY iJ).sem (k2 false _ rfl λH' Hs' Hs1 H1 un' sm S1' hd'=>mW ((ih _ _ _ _ _ _ S1' hd').2 b Q hb λH2 Hs2 Hs3 H3 un2 sm2=>q H2 Hs2 Hs3 H3 un2 (sm.trans sm2)))⟩
    |true =>
     replace h:some (as1,D.bl true,S1)=some (as,r,S'):=h
     cases h;obtain⟨k1,k2⟩:=hf e S S' (.bl true) as h1 ha _ _ _ _ _ _ S0 hd
     exact⟨λQ q=>(Ej ak ak).sem (k1 _ λv H' Hs' Hs1 H1 un' sm S1' hd' rv=>⟨true,bY rv,lY (bY rv▸q v H' Hs' Hs1 H1 un' sm S1' hd' rv)⟩),
      λb Q hb q=>(Eb cY iJ).sem (k2 true _ rfl λH' Hs' Hs1 H1 un' sm S1' hd'=>lY (by cases hb;exact q H' Hs' Hs1 H1 un' sm S1' hd'))⟩
  .cases h
theorem qD(G:GoodK T F k ms X sc C)(hN:X.N=ρ.map (·.1)):∀(n:Nat){e:Expr}{S S':Cst}{r:D}{as:List Addr},eC (T.cx (aR T F k)) ms F sc ρ n S e=some (as,r,S')->(∀a∈as,a=p)->aG e=true/\OkC X C p d dn e r S S' ρ
 |0,_,_,_,_,_,h,_=>by cases h
 |n+1,e,S,S',r,as,h,ha=>by
  unfold eC at h;split at h
  .split at h
   .split at h
    .rename_i a r1 S1 hm
     cases h;have ea:p=a:=(ha a (by simp)).symm;subst ea;exact⟨rfl,KN G hN hm (by intro _;rfl)⟩
    .cases h
   .rename_i f q a cp _
    split at h
    .rename_i hg
     rw[J3z] at hg;split at h
     .rename_i as1 x S1 h1
      obtain⟨z,h2,h3⟩:=R0z.mp h;cases h3;obtain⟨pl,ok⟩:=qD G hN n h1 ha
      have key:∀{σ Hs0 H0 Hs H un},CRep X.K C Hs0 H0 p d dn un S->Hd X.K X.lm Hs0 H0 Hs H ρ σ->∀Q,AfC X C p d dn r S' ρ σ Hs Q->jx X (.Call (.Name f q) [a] [] cp) σ H Q:=λ{σ Hs0 H0 Hs H un} S0 hd Q qq=>by
       obtain⟨hdb,a1,fd,ps,har,_,hm,hk,hb,FN⟩:=G.s.good.fns f hg.2
       have hgl:Gl X f:=by show X.env.scope.names.lookup f=_;rw[G.s.good.sce];exact eq_of_beq hg.1
       refine(dw FN G.s.good.room hgl hm hk hb .nil iM (au ak aK (aj pl)) hdb (aj pl) rfl).sem ((ok _ _ _ _ _ _ S0 hd).1 _ λv H' Hs' Hs1 H1 un' sm S1' hd' rv=>?_);refine⟨?_,Hs',[x],hd'.ext.sub,?_,.inl ⟨r,h2,λw H2 Hs2 E2 r2=>qq w H2 Hs2 Hs1 H1 un' (sm.trans E2.vis) S1' (hd'.step E2) r2⟩⟩
       .rw[G4z,<- har _ _ h2];rfl
       .rw[G4z];exact .cons rv .nil
      refine⟨rfl,λσ Hs0 H0 Hs H un S0 hd=>⟨key S0 hd,λb Q hb qq=>(mH ak (by intro _;rfl)).sem (key S0 hd _ λv H' Hs' Hs1 H1 un' sm S1 hd' rv=>?_)⟩⟩
      subst hb;exact⟨b,bY rv,qq H' Hs' Hs1 H1 un' sm S1 hd'⟩
     .cases h
    .cases h
   .rename_i l op r' pos _
    split at h
    .rename_i as1 x S1 h1
     split at h
     .rename_i bs y S2 h2
      obtain⟨z,h3,h4⟩:=R0z.mp h;cases h4;obtain⟨p1,ok1⟩:=qD G hN n h1 λa h=>ha a (F1z _ h);obtain⟨p2,ok2⟩:=qD G hN n h2 λa h=>ha a (W0z _ h);have opc:=jB (X:=X) G.s.good.room G.s.good.kw op
      have key:∀{σ Hs0 H0 Hs H un},CRep X.K C Hs0 H0 p d dn un S->Hd X.K X.lm Hs0 H0 Hs H ρ σ->∀Q:VK,AfC X C p d dn r S' ρ σ Hs Q->tOp (Ss X op) (jx X l) (jx X r') σ H Q:=λ{σ Hs0 H0 Hs H un} S0 hd Q qq =>
       (ok1 _ _ _ _ _ _ S0 hd).1 _ λv H1 Hs1 Hb1 Hc1 un1 sm1 S1' hd1 r1=>(ok2 _ _ _ _ _ _ S1' hd1).1 _ λu H2 Hs2 Hb2 Hc2 un2 sm2 S2' hd2 r2=>by
        obtain⟨b,rfl⟩:∃b,r=.bl b:=Ci h3;exact⟨Hs2,x,y,_,hd2.ext.sub,Rep.same sm2 x v r1,r2,h3,b,rfl,qq _ _ _ _ _ _ (sm1.trans sm2) S2' hd2 (by simp[Rep])⟩
      refine⟨rfl,λσ Hs0 H0 Hs H un S0 hd=>⟨λQ qq=>(sG opc ak ak (dU p2)).sem (key S0 hd Q qq),λb Q hb qq=>(zV opc ak ak (dU p2)).sem (key S0 hd _ λv H' Hs' Hs1 H1 un' sm S1 hd' rv=>?_)⟩⟩;subst hb;cases bY rv;exact⟨b,rfl,qq H' Hs' Hs1 H1 un' sm S1 hd'⟩
     .cases h
    .cases h
   .rename_i op es pos _
    have ok:=Ni (X:=X) (C:=C) (p:=p) (d:=d) (dn:=dn) (ρ:=ρ) (pos:=pos) (λe S S' r as he ha=>(qD G hN n he ha).2) es h ha;exact⟨rfl,λσ Hs0 H0 Hs H un S0 hd=>⟨(ok _ _ _ _ _ _ S0 hd).1,λb Q hb q=>(PW.pt iJ).sem ((ok _ _ _ _ _ _ S0 hd).2 b Q hb q)⟩⟩
   .rename_i elt tg iter scope pos _
    split at h
    .rename_i hok
     split at h
     .rename_i as1 l S1 hw
      split at h
      .rename_i hz
       obtain⟨⟨as2,out,S2⟩,h1,h2⟩:=R0z.mp h;cases h2;split at hw
       .split at hw
        .rename_i a l' S1' hm
         cases hw;have ea:p=a:=(ha a (by simp)).symm;subst ea;exact⟨rfl,vV G hN hok (by obtain⟨q,h3,_⟩:=N0z.mp hm;exact gH h3) hz h1 (λa h=>ha a (W0z _ h)) λS0 hd=>Fz (λσ Hs0 H0 Hs H un S0 hd=>⟨λQ q=>(sX (E:=E0) G.s.good hN G.co (G.s.good.room.mono (by omega)) iM hm hd.ext.sub hd.sh (S0.ext hd.ext) λv H' Hs' un' M S1 r1=>q v H' Hs' _ _ un' M.vis S1.core (hd.stepM G.lm S0 M) r1).1,λb Q hb=>by cases hb⟩) S0 hd⟩
        .cases hw
       .obtain⟨l',h3,h4⟩:=R0z.mp hw
        cases h4;obtain⟨hp,hI⟩:=K8 (p:=p) (d:=d) (dn:=dn) (S:=S) (C:=C) G hN h3;exact⟨rfl,vV G hN hok hp hz h1 (λa h=>ha a (W0z _ h)) hI⟩
      .cases h
     .cases h
    .cases h
   .cases h
  .obtain⟨z,h1,h2⟩:=R0z.mp h
   cases h2;exact⟨aY h1,Ri G hN h1⟩
end
def DQ(f:Rho->Cst->Stmt->Option (List Addr×Rho×Cst)):List Stmt->Rho->Cst->Option (List Addr×Rho×Cst)
 |[],ρ,S=>some ([],ρ,S)
 |s::r,ρ,S=>match f ρ S s with
  |some (as,ρ',S')=>(DQ f r ρ' S').map λq=>(as++q.1,q.2)
  |none=>none
def plC(S:Cst):Option Fl->Option (List Addr×Rho×Cst)
 |some (.nxt ρ)=>some ([],ρ,S)
 |_=>none
def sC(cx:Cxt)(F:Nat)(sc:Scope)(ρ:Rho):Nat->Stmt->Bool
 |0,_=>false
 |n+1,s=>match s with
  |.Expr e _=>mC cx F sc ρ 5 e
  |.Assign [.Name _ _] e _=>mC cx F sc ρ 5 e
  |.If t body [] _=>mC cx F sc ρ 5 t||body.any (sC cx F sc ρ n)
  |_=>false
def stC(cx:Cxt)(ms:nj)(F:Nat)(sc:Scope):Nat->Rho->Cst->Stmt->Option (List Addr×Rho×Cst)
 |0,_,_,_=>none
 | n+1,ρ,S,s=>if sC cx F sc ρ 4 s then(match s with
  |.Expr (.Call f args kws cp) _=>(eC cx ms F sc ρ 6 S (.Call f args kws cp)).map λq=>(q.1,ρ,q.2.2)
  |.Assign [.Name x _] (.Call f args kws cp) _=>match eC cx ms F sc ρ 6 S (.Call f args kws cp) with
   |some (as,r,S')=>if ownIn sc x&&(ρ.map (·.1)).contains x then some (as,eE ρ x (.sh r),S') else none
   |none=>none
  |.If t body [] _=>match eC cx ms F sc ρ 6 S t with
   |some (as,.bl b,S')=>if b then(DQ (λρ S s=>stC cx ms F sc n ρ S s) body ρ S').map λq=>(as++q.1,q.2) else some (as,ρ,S')
   |_=>none
  | _=>none) else plC S (DE.st cx F F sc ρ s)
section
variable{X:Cx}{ρ:Rho}{T:Pg}{F k:Nat}{sc:Scope}{ms:nj}{C p d dn un:Addr}{S S':Cst}{Hs0 H0 Hs H:Hp}{σ:St}
def NxC(X:Cx)(C p d dn:Addr)(S':Cst)(ρ':Rho)(P:St->Hp->Prop):Prop:=∀σ' H' Hs' Hs1 H1 un',X.N=ρ'.map (·.1)->CRep X.K C Hs1 H1 p d dn un' S'->Hd X.K X.lm Hs1 H1 Hs' H' ρ' σ'->P σ' H'
def StC(X:Cx)(C p d dn:Addr)(S S':Cst)(ρ ρ':Rho)(t:Ends->St->Hp->Prop):Prop:=∀(D:Ends)(σ:St)(Hs0 H0 Hs H:Hp)(un:Addr),X.N=ρ.map (·.1)->CRep X.K C Hs0 H0 p d dn un S->Hd X.K X.lm Hs0 H0 Hs H ρ σ->NxC X C p d dn S' ρ' D.nx->t D σ H
theorem rQ{f:Rho->Cst->Stmt->Option (List Addr×Rho×Cst)}(hf:∀ρ S s ρ' S' as,f ρ S s=some (as,ρ',S')->(∀a∈as,a=p)->StC X C p d dn S S' ρ ρ' (λD σ H=>oZ X s D σ H)):∀(l:List Stmt){ρ ρ':Rho}{S S':Cst}{as:List Addr},DQ f l ρ S=some (as,ρ',S')->(∀a∈as,a=p) ->
  ∀(rest:List Stmt)(D:Ends)(σ:St)(Hs0 H0 Hs H:Hp)(un:Addr),X.N=ρ.map (·.1)->CRep X.K C Hs0 H0 p d dn un S->Hd X.K X.lm Hs0 H0 Hs H ρ σ->NxC X C p d dn S' ρ' (λσ' H'=>eO X rest D σ' H')->eO X (l++rest) D σ H
 |[],ρ,ρ',S,S',as,h,_=>by
  cases h;exact λrest D σ Hs0 H0 Hs H un hN S0 hd kn=>kn σ H Hs Hs0 H0 un hN S0 hd
 |s::l,ρ,ρ',S,S',as,h,ha=>by
  unfold DQ at h;split at h
  .rename_i as1 ρ1 S1 h1
   obtain⟨⟨as2,ρ2,S2⟩,g1,g2⟩:=R0z.mp h;cases g2;have k1:=hf ρ S s ρ1 S1 as1 h1 λa h=>ha a (F1z _ h);have k2:=rQ hf l g1 λa h=>ha a (W0z _ h);exact λrest D σ Hs0 H0 Hs H un hN S0 hd kn=>PSs.sem (aM pO cP) (k1 _ σ Hs0 H0 Hs H un hN S0 hd λσ' H' Hs' Hs1 H1 un' hN1 S1' hd'=>k2 rest D σ' Hs1 H1 Hs' H' un' hN1 S1' hd' kn)
  .cases h
theorem Hq(G:GoodK T F k ms X sc C):∀(n:Nat){ρ ρ':Rho}{s:Stmt}{S S':Cst}{as:List Addr},stC (T.cx (aR T F k)) ms F sc n ρ S s=some (as,ρ',S')->(∀a∈as,a=p)->StC X C p d dn S S' ρ ρ' (λD σ H=>oZ X s D σ H)
 |0,_,_,_,_,_,_,h,_=>by cases h
 |n+1,ρ,ρ',s,S,S',as,h,ha=>by
  intro D σ Hs0 H0 Hs H un hN S0 hd kn;unfold stC at h;split at h
  .split at h
   .rename_i f args kws cp pos _
    obtain⟨⟨as1,r,S1⟩,h1,h2⟩:=R0z.mp h;cases h2;obtain⟨pl,ok⟩:=qD G hN 6 h1 ha;exact PS.sem (bW ak) ((ok _ _ _ _ _ _ S0 hd).1 _ λv H' Hs' Hs1 H1 un' sm S1' hd' rv=>kn σ H' Hs' Hs1 H1 un' hN S1' hd')
   .rename_i x px f args kws cp pos _
    split at h
    .rename_i as1 r S1 h1
     split at h
     .rename_i hc
      rw[J3z] at hc;cases h;obtain⟨pl,ok⟩:=qD G hN 6 h1 ha;obtain⟨ox,of⟩:=G.s.own.own x hc.1;obtain⟨i,hi⟩:=cD hc.2
      have hnd:(ρ.map (·.1)).Nodup:=by rw[<- hN];exact G.s.good.nd
      exact PS.sem (fK G.s.good.nd (by rw[hN];exact hi) ox ak rfl of) ((ok _ _ _ _ _ _ S0 hd).1 _ λv H' Hs' Hs1 H1 un' sm S1' hd' rv=>kn _ H' Hs' Hs1 H1 un' (by rw[aP];exact hN) S1' (hd'.set hnd hi rv))
     .cases h
    .cases h
   .rename_i t body pos _
    split at h
    .rename_i as1 b S1 h1
     cases b with
     |true =>
      replace h:(DQ (λρ S s=>stC (T.cx (aR T F k)) ms F sc n ρ S s) body ρ S1).map (λq=>(as1++q.1,q.2))=some (as,ρ',S'):=h
      obtain⟨⟨as2,ρ2,S2⟩,g1,g2⟩:=R0z.mp h;cases g2;obtain⟨pl,ok⟩:=qD G hN 6 h1 λa h=>ha a (F1z _ h);have k2:=rQ (X:=X) (C:=C) (p:=p) (d:=d) (dn:=dn) (λρ S s ρ' S' as h ha=>Hq G n h ha) body g1 λa h=>ha a (W0z _ h);refine PS.sem (pP cY cP fY) ((ok _ _ _ _ _ _ S0 hd).2 true _ rfl λH' Hs' Hs1 H1 un' sm S1' hd'=>lY ?_);have:=k2 [] D σ Hs1 H1 Hs' H' un' hN S1' hd' λσ' H2 Hs2 Hb Hc un2 hN2 S2' hd2=>PSs.sem fY (kn σ' H2 Hs2 Hb Hc un2 hN2 S2' hd2)
      rwa [G4z] at this
     |false =>
      replace h:some (as1,ρ,S1)=some (as,ρ',S'):=h
      cases h;obtain⟨pl,ok⟩:=qD G hN 6 h1 ha;exact PS.sem (pP cY cP fY) ((ok _ _ _ _ _ _ S0 hd).2 false _ rfl λH' Hs' Hs1 H1 un' sm S1' hd'=>mW (kn σ H' Hs' Hs1 H1 un' hN S1' hd'))
    .cases h
   .cases h
  .unfold plC at h
   split at h
   .rename_i ρ1 h1
    cases h;exact yZ _ F F G.s hN h1 σ H Hs D hd hN (λρ2 σ2 Hs2 H2 q2 sm2 hN2 h2=>by cases q2;exact kn σ2 H2 Hs2 Hs0 H0 un hN2 S0 h2) (λ_ _ _ _ q=>by cases q)
   .cases h
end
end L2
namespace M92
open PySem PySem.Spec PyProof.Rows L2
open DE (D)
def mGo(bk:Bool)(S:Cst):Option MR:=if bk then qj S [] else Ar S []
def Ud(K:Zf)(C:Addr):Sp:=λvs H Q E=>∃(p d dn un:Addr)(Hs:Hp)(S:Cst)(bk:Bool)(o:MR),vs=[.ref p,.ref (if bk=true then dn else un),.ref (if bk=true then un else dn),.int (if bk=true then 2 else 3)]/\Same Hs H/\CRep K C Hs H p d dn un S/\mGo bk S=some o/\Np K C p d dn un Hs H Q E o
section
variable{P:Program}{w:World}{K:Zf}{mg:Str->Option Value}{base:Heap}{C:Addr}{kk:Nat}{exs:List Str}{tp:Str}
theorem scG:FnScope ["self","some","others","place","step"] ["self","some","others","place"] (aB sGo):=⟨rfl,rfl,rfl,by decide +kernel,rfl,by decide +kernel,by decide +kernel⟩
theorem UW(F:Fun K "go" "Case.go" sGo f fd)(T:CTxt K mg C)(XT:XText K mg exs tp)(hin:exs.contains "NoBack"=true)(hlen:mg "len"=none)(G:bV P w K mg C "set_to" ["self","name","table"] 1 (DK K C)):FnOk P w K mg base (CX1 P w) 2 f fd ["self","some","others","place"] (Ud K C):=by
 obtain⟨g,gd,mG,bG,GS⟩:=G;refine F.okX scG (λvs H Q E h=>by obtain⟨p,d,dn,un,Hs,S,bk,o,rfl,_⟩:=h;rfl) (λcdv A outer s H vs Q E hr h=>?_);obtain⟨p,d,dn,un,Hs,S,bk,o,rfl,hs,S0,ho,k⟩:=h
 refine⟨_,aM (pP (zW (Qp (c7 jF rfl hlen PySem.boot_len (au (pv 1) aK)) mJ)) (bM (jR XT hin hr.hd rfl rfl)) fY)
  (aM (fK (i:=4) scG.nd rfl (Or.inl rfl) (Qm M0z PySem.F.slot_list_pop PySem.F.type_list_pop QJ (pv 1)))
  (aM (bW (lW M0z H0z I0z iQ (pv 2) (au (pv 4) aK)))
  (aM (bW (cZ (pv 0) T.cl mG (GS _) hr bG .nil aQ (au (z7 vB (pv 4) mJ (λ_ _=>rfl)) (au (z7 vB (pv 4) (pv 3) (λ_ _=>rfl)) aK))))
  (bM (eU (z7 vB (pv 4) mJ (λ_ _=>rfl))))))),?_⟩
 cases bk with
 |true =>
  obtain⟨la,a1,a2⟩:=S0.dl;obtain⟨lb,b1,b2⟩:=S0.ul;have la':=a2.length;have lb':=b2.length
  replace ho:qj S []=some o:=ho
  simp only[qj] at ho;refine⟨_,rfl,dn,la,rfl,.inl (SqL.of a1),?_⟩;refine⟨_,_,rfl,rfl,?_⟩;split at ho
  .rename_i hnil
   cases ho
   have e0:((la.length:Nat):Int)=0:=by rw[<- la',hnil];rfl
   exact⟨true,congrArg V.bl (A5z e0),lY λCc hC=>k Cc H Hs hC (.refl hs)⟩
  .rename_i hne
   split at ho
   .rename_i hl
    split at ho
    .rename_i l wd n old t hun
     obtain⟨S',hd,rfl⟩:=R0z.mp ho;obtain⟨v,e1,rst,rl⟩:=yG a2 hun
     have lpos:0<la.length:=Nat.pos_of_ne_zero λz=>by rw[<- la'] at z;exact hne (List.length_eq_zero_iff.mp z)
     have e0:¬ ((la.length:Nat):Int)=0:=by omega
     refine⟨false,congrArg V.bl (B4z e0),mW ?_⟩;refine⟨_,rfl,.inl ⟨rfl,_,SqL.of a1⟩,dn,la,v,rfl,rfl,a1,e1,?_⟩;have S1:=S0.setN rl;have M1:=iz (p:=p) (d:=d) (un:=un) (o:=.lst la.dropLast) hs (.inr (.inl rfl)) S0.hn;obtain⟨lb2,c1,c2⟩:=S1.ul
     have ee:lb2=lb:=by
      rw[ao (S0.ne.symm)] at c1;rw[b1] at c1;cases c1;rfl
     subst ee;refine⟨_,rfl,.inl ⟨rfl,_,SqL.of c1⟩,_,rfl,un,lb2,v,rfl,rfl,c1,(V1z (by rw[<- lb'];exact X2z hl) (show(1000:Nat)<=sizeLine by decide)),?_⟩;have S2:=S1.setU (aJ.append c2 (.cons rst .nil));have M2:=M1.trans (iz (o:=.lst (lb2++[v])) M1.sub (.inr (.inr rfl)) S1.hu) (.inl rfl);obtain⟨dx2,q2⟩:=S2.ob;obtain⟨x,ws,rfl,sq,rws⟩:=rst;obtain⟨w1,w2,w3,w4,rfl,g1,g2,g3,g4⟩:=JK rws;have sq2:=M2.sub.tup sq;cases (show w2=.str n by simpa[Rep] using g2);refine⟨_,rfl,p,dx2,_,rfl,q2,rfl,_,rfl,x,_,1,_,rfl,rfl,sq2,rfl,_,rfl,_,rfl,x,_,2,_,rfl,rfl,sq2,rfl,?_⟩;refine⟨p,d,dn,un,n,old,_,Hs,_,S',rfl,M2.sub,S2,g3,hd,λH3 M3 S3=>⟨_,rfl,x,_,0,_,rfl,rfl,M3.sub.tup sq,rfl,k _ H3 Hs un (M2.trans M3 (.inl rfl)) S3 g1⟩⟩
    .cases ho
   .cases ho
 |false =>
  obtain⟨la,a1,a2⟩:=S0.ul;obtain⟨lb,b1,b2⟩:=S0.dl;have la':=a2.length;have lb':=b2.length
  replace ho:Ar S []=some o:=ho
  simp only[Ar] at ho;refine⟨_,rfl,un,la,rfl,.inl (SqL.of a1),?_⟩;refine⟨_,_,rfl,rfl,?_⟩;split at ho
  .rename_i hnil
   cases ho
   have e0:((la.length:Nat):Int)=0:=by rw[<- la',hnil];rfl
   exact⟨true,congrArg V.bl (A5z e0),lY λCc hC=>k Cc H Hs hC (.refl hs)⟩
  .rename_i hne
   split at ho
   .rename_i hl
    split at ho
    .rename_i l wd n old t hun
     obtain⟨S',hd,rfl⟩:=R0z.mp ho;obtain⟨v,e1,rst,rl⟩:=yG a2 hun
     have lpos:0<la.length:=Nat.pos_of_ne_zero λz=>by rw[<- la'] at z;exact hne (List.length_eq_zero_iff.mp z)
     have e0:¬ ((la.length:Nat):Int)=0:=by omega
     refine⟨false,congrArg V.bl (B4z e0),mW ?_⟩;refine⟨_,rfl,.inl ⟨rfl,_,SqL.of a1⟩,un,la,v,rfl,rfl,a1,e1,?_⟩;have S1:=S0.setU rl;have M1:=iz (p:=p) (d:=d) (dn:=dn) (o:=.lst la.dropLast) hs (.inr (.inr rfl)) S0.hu;obtain⟨lb2,c1,c2⟩:=S1.dl
     have ee:lb2=lb:=by
      rw[ao (S0.ne)] at c1;rw[b1] at c1;cases c1;rfl
     subst ee;refine⟨_,rfl,.inl ⟨rfl,_,SqL.of c1⟩,_,rfl,dn,lb2,v,rfl,rfl,c1,(V1z (by rw[<- lb'];exact X2z hl) (show(1000:Nat)<=sizeLine by decide)),?_⟩;have S2:=S1.setN (aJ.append c2 (.cons rst .nil));have M2:=M1.trans (iz (o:=.lst (lb2++[v])) M1.sub (.inr (.inl rfl)) S1.hn) (.inl rfl);obtain⟨dx2,q2⟩:=S2.ob;obtain⟨x,ws,rfl,sq,rws⟩:=rst;obtain⟨w1,w2,w3,w4,rfl,g1,g2,g3,g4⟩:=JK rws;have sq2:=M2.sub.tup sq;cases (show w2=.str n by simpa[Rep] using g2);refine⟨_,rfl,p,dx2,_,rfl,q2,rfl,_,rfl,x,_,1,_,rfl,rfl,sq2,rfl,_,rfl,_,rfl,x,_,3,_,rfl,rfl,sq2,rfl,?_⟩;refine⟨p,d,dn,un,n,t,_,Hs,_,S',rfl,M2.sub,S2,g4,hd,λH3 M3 S3=>⟨_,rfl,x,_,0,_,rfl,rfl,M3.sub.tup sq,rfl,k _ H3 Hs un (M2.trans M3 (.inl rfl)) S3 g1⟩⟩
    .cases ho
   .cases ho
end
section
variable{P:Program}{w:World}{K:Zf}{mg:Str->Option Value}{base:Heap}{C:Addr}{kk:Nat}{exs:List Str}{tp:Str}
theorem scB:FnScope ["self"] ["self"] (aB Jx):=⟨rfl,rfl,rfl,by decide +kernel,rfl,by decide +kernel,by decide +kernel⟩
theorem Kr(F:Fun K "back" "Case.back" Jx f fd)(T:CTxt K mg C)(G:bV P w K mg C "go" ["self","some","others","place"] 2 (Ud K C)):FnOk P w K mg base (CX1 P w) 3 f fd ["self"] (spM K C 0 qj):=by
 obtain⟨g,gd,mG,bG,GS⟩:=G;refine F.okX scB (λvs H Q E h=>jk h) (λcdv A outer s H vs Q E hr h=>?_);obtain⟨p,d,dn,un,Hs,S,ds,us,o,rfl,e,hs,S0,r,ho,k⟩:=h;cases List.length_eq_zero_iff.mp e;cases (show us=[] by simpa[aJ] using r);obtain⟨dx,h1⟩:=S0.ob;exact⟨_,bM (eU (cZ (pv 0) T.cl mG (GS _) hr bG .nil aQ (au (g8 (pv 0) rfl) (au (g8 (pv 0) rfl) (au mJ aK))))),⟨_,rfl,p,dx,_,rfl,h1,rfl,_,rfl,p,C,dx,_,_,rfl,h1,T.cl,T.nD,QW _ _ _,_,rfl,p,C,dx,_,_,rfl,h1,T.cl,T.nU,Va _ _ _,p,d,dn,un,Hs,S,true,o,rfl,hs,S0,ho,k⟩⟩
theorem scN:FnScope ["self"] ["self"] (aB uD):=⟨rfl,rfl,rfl,by decide +kernel,rfl,by decide +kernel,by decide +kernel⟩
theorem Eu(F:Fun K "names" "Case.names" uD f fd)(T:CTxt K mg C)(hsrt:mg "sorted"=none):FnOk P w K mg base (CX1 P w) 1 f fd ["self"] (spR K C 0 fO):=by
 refine F.okX scN (λvs H Q E h=>rO h) (λcdv A outer s H vs Q E hr h=>?_);obtain⟨p,d,dn,un,Hs,S,ds,us,o,rfl,e,hs,S0,r,ho,k⟩:=h;cases List.length_eq_zero_iff.mp e;cases (show us=[] by simpa[aJ] using r);obtain⟨dx,h1⟩:=S0.ob;obtain⟨kvs,h2,h3⟩:=S0.dc;simp only[fO] at ho;split at ho
 .rename_i h4
  obtain⟨l,h5,h6⟩:=R0z.mp ho;cases h6;refine⟨_,bM (eU (c7 (qR rfl) rfl hsrt rfl (au (g8 (pv 0) rfl) aK))),?_⟩;refine⟨_,rfl,p,C,dx,_,_,rfl,h1,T.cl,T.nT,sY _ _ _,d,kvs,_,rfl,h2,h3.keys,?_,λa ss ha hp hss=>?_⟩
  .rw[F4z]
   exact X2z h4
  .cases DE.zq h5 hp hss
   have rl:aJ K Hs (l.map D.str) (l.map V.str):=by
    clear h5 hp hss k ho
    induction l with
    |nil=>exact .nil
    |cons a l ih=>exact .cons (by simp[Rep]) ih
   exact nW (X:=jE (CX1 P w) P w K mg base ["self"] "Case.names" (aB uD) f cdv A outer s H E) hs rl ha λv H' Hs' E1 r1=>k v H' Hs' E1 r1
 .cases ho
def ux(K:Zf)(C:Addr):Sp:=λvs H Q _=>∃(p dx:Addr)(Hs:Hp),vs=[.ref p]/\H p=some (.ins C dx [])/\Same Hs H/\Hs p=none/\∀(d dn un:Addr)(H':Hp),CRep K C Hs H' p d dn un ⟨[],[],[]⟩->H d=none->H dn=none->H un=none->(∀b o,H b=some o->b≠p->H' b=some o)->Q .non H'
theorem scI:FnScope ["self"] ["self"] (aB zJ):=⟨rfl,rfl,rfl,by decide +kernel,rfl,by decide +kernel,by decide +kernel⟩
theorem Ae(F:Fun K "__init__" "Case.__init__" zJ f fd)(T:CTxt K mg C):FnOk P w K mg base (CX1 P w) 1 f fd ["self"] (ux K C):=by
 refine F.okX scI (λvs H Q E h=>?_) (λcdv A outer s H vs Q E hr h=>?_)
 .obtain⟨p,dx,Hs,rfl,_⟩:=h
  rfl
 .obtain⟨p,dx,Hs,rfl,hp,hs,hsp,k⟩:=h
  refine⟨_,aM (pQ (pv 0) Eo rfl) (aM (pQ (pv 0) (pY aK) rfl) (bM (pQ (pv 0) (pY aK) rfl))),?_⟩;intro d hd;have npd:=aq hp hd;refine⟨_,rfl,p,C,dx,[],rfl,(by rw[ao npd];exact hp),T.cl,T.nT,(by show 0<1000;decide),⟨by decide,λdn hdn=>?_⟩⟩
  have npn:p≠dn:=λz=>by subst z;rw[aA] at hdn;cases hdn
  have nnd:dn≠d:=λz=>by subst z;rw[ao npn.symm,aA] at hdn;cases hdn
  refine⟨_,rfl,p,C,dx,fl1 d,rfl,(by rw[ao npn,aA];rfl),T.cl,T.nD,(by show 1<1000;decide),⟨by decide,λun hun=>?_⟩⟩
  rw[Xl] at hun ⊢
  have npu:p≠un:=λz=>by subst z;rw[aA] at hun;cases hun
  have nun:un≠dn:=λz=>by subst z;rw[ao npu.symm,aA] at hun;cases hun
  have nud:un≠d:=λz=>by subst z;rw[ao npu.symm,ao nun,ao npu.symm,aA] at hun;cases hun
  refine⟨_,rfl,p,C,dx,fl2 d dn,rfl,(by rw[ao npu,aA]),T.cl,T.nU,(by show 2<1000;decide),?_⟩
  have hdn0:H dn=none:=by rw[ao npn.symm,ao nnd] at hdn;exact hdn
  have hun0:H un=none:=by rw[ao npu.symm,ao nun,ao npu.symm,ao nud] at hun;exact hun
  refine k d dn un _ ⟨⟨dx,aA⟩,⟨[],?_,rfl⟩,⟨[],?_,.nil⟩,⟨[],?_,.nil⟩,nun.symm,hsp,cQ hs hd,cQ hs hdn0,cQ hs hun0⟩ hd hdn0 hun0 λb o e hb=>?_
  .rw[ao npd.symm,ao nud.symm,ao npd.symm,ao nnd.symm,ao npd.symm,aA]
  .rw[ao npn.symm,ao nun.symm,ao npn.symm,aA]
  .rw[ao npu.symm,aA]
  .rw[ao hb,ao (aq e hun0),ao hb,ao (aq e hdn0),ao hb,ao (aq e hd)];exact e
end
end M92
namespace L2
open PySem PySem.Spec PyProof.Rows
open DE hiding st
section
variable{X:Cx}
theorem yd(hc:X.calm=true):dz X (.type "dict") (λzs H Q=>∃(a:Addr)(vs:List V)(kvs:List (Key×V)),zs=[.ref a]/\SqL X.K H a vs/\ud X.K H vs kvs/\∀p,H p=none->Q (.ref p) (upd H p (.dK (dX [] kvs)))):=by
 intro z0 s σ H zs us Q I r h;obtain⟨a,vs,kvs,rfl,hl,hp,q⟩:=h
 obtain⟨u,rfl,rfl⟩:∃u,us=[u]/\u=Value.ref a:=by
  cases r with
  |cons r1 r2=>cases r2;exact⟨_,rfl,r1⟩
 obtain⟨its,r',⟨o,n,e1,e2,e3,e4⟩,z⟩:=I.list hl;obtain⟨oc,od,odt,osl⟩:=o;dsimp only at e2 e3 e4;subst e2 e3 e4;obtain⟨rows,a1,a2,a3⟩:=zX I hp r'
 have hlen:its.length=rows.length:=by rw[a2,F4z]
 have hkl:kvs.length=rows.length:=by simpa using a1.length
 have d0:DRow:=(0,.none,.inl 0,.none)
 have hrow:∀i,i<its.toArray.size->∃rw,rows[i]?=some rw/\rows.getD i d0=rw/\rw∈rows:=λi hi=>by
  have hi':i<rows.length:=by rw[<- hlen];simpa using hi
  exact⟨rows[i],List.getElem?_eq_getElem hi',by simp[List.getD,hi'],S3z hi'⟩
 have hn:=I.hok.fresh (I6z s.heap.objs.size);have rel:KV (dX [] kvs) (merged [] (rows.map λr=>(r.2.2.1,r.2.2.2))):=a1.merge .nil
 have hz:(dX [] kvs).length<=sizeLine:=by
  have h1:=fC kvs [];rw[R4z] at h1;have:=r'.length;omega
 have hmap:(List.range' 0 its.toArray.size).map (λj=>((rows.getD j d0).2.2.1,(rows.getD j d0).2.2.2))=rows.map λr=>(r.2.2.1,r.2.2.2):=by
  apply P3z
  .simp[hlen]
  .intro i h1 h2
   simp only[F4z] at h2;simp[List.getD,h2]
 refine BL (knd:=aX X.prog X.w) (bs:=λi=>(rows.getD i d0).1) (ks:=λi=>(rows.getD i d0).2.2.1) (us:=λi=>(rows.getD i d0).2.1) (ws:=λi=>(rows.getD i d0).2.2.2) (I.ok.hd hc) e1 (λi v hi e=>?_) (λi hi=>?_) (by have:=r'.length;simpa using(by omega:its.length<=sizeLine)) λh' tk dd keep=>?_
 .obtain⟨rw',b1,b2,b3⟩:=hrow i hi
  show v=Value.ref (rows.getD i d0).1;rw[b2];rw[a2] at e;simp[b1] at e;exact e.symm
 .obtain⟨rw',b1,b2,b3⟩:=hrow i hi
  show ni s.heap (rows.getD i d0).1 (rows.getD i d0).2.1 (rows.getD i d0).2.2.2/\(aX X.prog X.w).is (rows.getD i d0).2.2.1 (rows.getD i d0).2.1=true;rw[b2];exact a3 rw' b3
 .rw[hmap] at dd
  refine⟨.ref s.heap.objs.size,_,I.laid (a:=s.heap.objs.size) (o:=.dK (dX [] kvs)) keep (I6z _) (vM hz ?_ rel dd),rfl,q _ hn⟩;exact beq_false_of_ne (D6z I.big)
end
section
variable{X:Cx}{ρ:Rho}{cx:Cxt}{k:Nat}{sc:Scope}{C:Addr}{Hs0 H0 Hs H:Hp}{σ:St}
theorem Am{x:Str}{px pp cp pos:Pos}{fI:Addr}{fdI:FuncData}{D:Ends}(G:GoodS cx (k+3) X sc)(hN:X.N=ρ.map (·.1))(hx:ownIn sc x=true)(hc:(ρ.map (·.1)).contains x=true)(MK:Mk X.K C fI)(bI:Binds X.K fdI ["self"] [])(FI:FnOk X.prog X.w X.K X.mg X.base (CX1 X.prog X.w) 1 fI fdI ["self"] (M92.ux X.K C))
  (hgl:sc.names.lookup ("Case":Str)=some .globalImplicit) (hmg:X.mg "Case"=some (.ref C)) (hd:Hd X.K X.lm Hs0 H0 Hs H ρ σ)
  (kn:∀b d dn un σ' H2,CRep X.K C Hs (big Hs H2 b d dn un) b d dn un ⟨[],[],[]⟩->Hd X.K X.lm Hs (big Hs H2 b d dn un) Hs H2 (eE ρ x (.sh (.obj b))) σ'->H b=none->H d=none->H dn=none->H un=none->Same H H2->D.nx σ' H2):oZ X (.Assign [.Name x px] (.Call (.Name "Case" pp) [] [] cp) pos) D σ H:=by
 obtain⟨ox,of⟩:=G.own.own x hx;obtain⟨i,hi⟩:=cD hc
 have hnd:(ρ.map (·.1)).Nodup:=by rw[<- hN];exact G.good.nd
 refine PS.sem (fK G.good.nd (by rw[hN];exact hi) ox (El MK FI (G.good.room.mono (by omega)) (by show X.env.scope.names.lookup ("Case":Str)=_;rw[G.good.sce];exact hgl) hmg bI .nil iM) rfl of) ?_
 intro b dx hbn hdn hne
 have fr:∀q,(upd (upd H dx (.own b)) b (.ins C dx [])) q=none->H q=none:=λq e=>by
  by_cases q1:q=b
  .subst q1;exact hbn
  .rw[ao q1] at e
   by_cases q2:q=dx
   .subst q2;exact hdn
   .rwa [ao q2] at e
 have up:∀q o,H q=some o->(upd (upd H dx (.own b)) b (.ins C dx [])) q=some o:=λq o e=>by
  rw[ao (aq e hbn),ao (aq e hdn)];exact e
 refine⟨b,dx,Hs,rfl,aA,λq o e=>up q o (hd.ext.sub q o e),hd.ext.sub.free hbn,λd dn un H2 CR n1 n2 n3 keep=>⟨rfl,?_⟩⟩;have all:Same H H2:=λq o e=>keep q o (up q o e) (aq e hbn);have h2:=hd.stepN (H':=H2) (p:=b) (d:=d) (dn:=dn) (un:=un) all hbn (fr _ n1) (fr _ n2) (fr _ n3);exact kn b d dn un _ H2 CR.core (h2.set hnd hi (by simp[Rep])) hbn (fr _ n1) (fr _ n2) (fr _ n3) all
end
theorem Uv(d dn un d':Addr):nM nT (.ref d') (lF d dn un)=lF d' dn un:=by
 show(if nT=nT then _ else _)=_;rw[G7z rfl]
theorem Ib{K:Zf}{H:Hp}:∀{tabs:List (Str×D)}{kvs:List (Key×V)},kvs.map (·.1)=tabs.map (λq=>(Sum.inr q.1:Key))->aJ K H (tabs.map (·.2)) (kvs.map (·.2))->KvR K H tabs kvs
 |[],[],_,_=>rfl
 |[],_::_,e,_=>by cases e
 |_::_,[],e,_=>by cases e
 |(n,d)::r,(k,v)::q,e,h=>by
  rw[O5z,O5z,T4z] at e;obtain⟨v',t,e2,h1,h2⟩:=h;cases e2;exact⟨v,q,by rw[<- e.1],h1,Ib e.2 h2⟩
def zu(K:Zf)(C:Addr)(g:D->Option (List (Str×D))):Sp:=λvs H Q _=>∃(v:V)(t:D)(Hs:Hp)(tabs:List (Str×D)),vs=[v]/\Same Hs H/\Rep K Hs t v/\g t=some tabs /\
 ∀p d dn un H' Hs',Ext Hs H Hs' H'->CRep K C Hs' H' p d dn un ⟨tabs,[],[]⟩->Q (.ref p) H'
section
variable{X:Cx}{Hs0 H0:Hp}
theorem Bp{f:Rho->Stmt->Option Fl}{rest:List Stmt}{D0:Ends}{ρ1:Rho}(hf:∀ρ s fl,X.N=ρ.map (·.1)->f ρ s=some fl->Runs X Hs0 H0 ρ fl (oZ X s)):∀(pre:List Stmt){ρ:Rho}{σ:St}{Hs H:Hp},X.N=ρ.map (·.1)->lV f pre ρ=some (.nxt ρ1)->Hd X.K X.lm Hs0 H0 Hs H ρ σ ->
  (∀σ' Hs' H',X.N=ρ1.map (·.1)->Hd X.K X.lm Hs0 H0 Hs' H' ρ1 σ'->eO X rest D0 σ' H')->eO X (pre++rest) D0 σ H
 |[],ρ,σ,Hs,H,hN,h,hd,k=>by
  simp only[lV] at h;cases h;exact k σ Hs H hN hd
 |s::r,ρ,σ,Hs,H,hN,h,hd,k=>by
  simp only[lV] at h;obtain⟨fl,h1,h2⟩:=N0z.mp h;refine PSs.sem (aM pO cP) ?_
  cases fl with
  |ret d=>cases h2
  |nxt ρ'=>exact hf ρ s _ hN h1 σ H Hs _ hd hN (λρ2 σ2 Hs2 H2 q2 _ hN2 h2'=>by cases q2;exact Bp hf r hN2 h2 h2' k) (λ_ _ _ _ q=>by cases q)
end
section
variable{P:Program}{w:World}{K:Zf}{mg:Str->Option Value}{base:Heap}{T:DE.Pg}{F k:Nat}
theorem wY{fd:Fd}{t:Stmt}{f C fI:Addr}{g:FuncData}{fdI:FuncData}{nm x y:Str}{pre:List Stmt}{rd:D->Option (List (Str×D))}{px pp cp pos p1 p2 p3 p4 p5 p6 p7 p8:Pos}(Tx:Text w K mg T)(Fn:Fun K nm nm t f g)(CT:CTxt K mg C)
    (hb:aL t=pre++[.Assign [.Name x px] (.Call (.Name "Case" pp) [] [] cp) pos,.Assign [.Attribute (.Name x p1) nT p2] (.Call (.Name "dict" p3) [.Name y p4] [] p5) p6,.Return (some (.Name x p7)) p8]) (hs:fd.sc=aB t) (S:FnScope fd.N fd.ps fd.sc) (h1:fd.ps.length=1)
    (hdict:mg "dict"=none) (hgd:fd.sc.names.lookup ("dict":Str)=some .globalImplicit) (hgl:fd.sc.names.lookup ("Case":Str)=some .globalImplicit) (MK:Mk K C fI) (bI:Binds K fdI ["self"] []) (FI:FnOk P w K mg base (CX1 P w) 1 fI fdI ["self"] (M92.ux K C))
    (hx:ownIn fd.sc x=true) (hxN:fd.N.contains x=true)
    (hrd:∀d tabs,rd d=some tabs->∃ρ1,lV (λρ s=>DE.st (T.cx (aR T F (k+3))) F F fd.sc ρ s) pre (bD fd [d])=some (.nxt ρ1)/\∀b,ev (T.cx (aR T F (k+3))) F fd.sc (eE ρ1 x (.sh (.obj b))) (.Name y p4)=some (.lst (tabs.map λq=>.tup [.str q.1,q.2]))/\(∀q:Pos,ev (T.cx (aR T F (k+3))) F fd.sc (eE ρ1 x (.sh (.obj b))) (.Name x q)=some (.obj b))/\mL (tabs.map λq=>.tup [.str q.1,q.2])=some (tabs.map λq=>(.inr q.1,q.2))/\SN (tabs.map λq=>(.inr q.1,q.2))=tabs.map λq=>(.inr q.1,q.2)) :
    FnOk P w K mg base (CX1 P w) (k+4) f g fd.ps (zu K C rd):=by
  refine Fun.okX (N:=fd.N) Fn (by rw[<- hs];exact S) (λvs H Q E h=>by obtain⟨v,t,Hs,tabs,rfl,_⟩:=h;rw[h1];rfl) λcdv A outer s H vs Q E hr h=>?_
  obtain⟨v,td,Hs,tabs,rfl,hsm,rv,hg,kq⟩:=h
  refine⟨eO _ (aL t),cP,?_⟩
  generalize hX:(jE (CX1 P w) P w K mg base fd.N nm (aB t) f cdv A outer s H E).nox=X
  have G:GoodS (T.cx (aR T F (k+3))) (k+3) X fd.sc:=by
    subst hX
    exact
      { good := { calm := rfl, room := hr, sce := hs.symm, kind := S.kind, nd := S.nd, cst := Tx.cst, blt := Tx.blt, exs := Tx.exs, kw := Tx.kw
                  fns:=λf' hf'=>by
                    obtain⟨fd',hl'⟩:=eY (l:=T.defs) hf'
                    have FA:=Tx.fns f' fd' hl'
                    obtain⟨nm',t',a',g',m1,m2,m3,m4,m5⟩:=FA.ex
                    exact⟨FA.nd,a',g',fd'.ps,λds d h=>dB hl' ds _ (fu h),λds c h=>dB hl' ds _ (fD h),m1,m2.kp,m3,rE Tx _ nm' f' fd' t' a' g' hl' m2 m4 m5 FA.fs⟩ }
        own:=⟨λx hx=>⟨by
          unfold ownIn at hx
          rw[S4z] at hx
          show(aB t).names.lookup x=_\/(aB t).names.lookup x=_
          rw[<- hs]
          exact hx.imp (λq=>by simpa using q) (λq=>by simpa using q),.inl rfl⟩⟩
        pass:=PassesOwn.never
        stk:=⟨rfl,rfl⟩ }
  have eK:X.K=K:=by rw[<- hX];rfl
  have eP:X.prog=P:=by rw[<- hX];rfl
  have ew:X.w=w:=by rw[<- hX];rfl
  have em:X.mg=mg:=by rw[<- hX];rfl
  have eb:X.base=base:=by rw[<- hX];rfl
  have el:X.lm=none:=by rw[<- hX];rfl
  have rl:aJ K Hs [td] [v]:=.cons rv .nil
  obtain⟨s1,s2,s3⟩:=iI S (ds:=[td]) (by rw[h1];rfl) rl
  have noow:∀(i:Nat)(x:Str)(ds':List D),(bD fd [td])[i]?=some (x,.ow ds')->False:=λi x ds' e=>by
    rcases s3 i x _ e with q|⟨d',v,q,q1,q2⟩
    . cases q
    . cases q
  have hd:Hd X.K X.lm Hs H Hs H (bD fd [td]) (start fd.N [v]):=by
    rw[eK,el]
    refine⟨.refl hsm,s2,λi x d e=>?_,λi x ds' e=>(noow i x ds' e).elim,λi j x y ds' es a' _ e=>(noow i x ds' e).elim,(λi x dss e=>by
      rcases s3 i x _ e with q|⟨d',v,q,q1,q2⟩
      . cases q
      . cases q),λp' hp'=>by cases hp'⟩
    rcases s3 i x _ e with q|⟨d',v,q,q1,q2⟩
    . cases q
    . cases q
      exact⟨v,q1,q2⟩
  have hNX:X.N=fd.N:=by rw[<- hX];rfl
  have key:∀{D:Ends},(∀b H',(∃d dn un Hs',Ext Hs H Hs' H'/\CRep K C Hs' H' b d dn un ⟨tabs,[],[]⟩)->D.rt (.ref b) H')->eO X (aL t) D (start fd.N [v]) H:=λ{D} kD=>by
    obtain⟨ρ1,g1,g2⟩:=hrd td tabs hg
    rw[hb]
    refine Bp (X:=X) (Hs0:=Hs) (H0:=H) (λρ s fl hN h=>yZ _ F F G hN h) pre (by rw[hNX];exact s1) g1 hd λσ' Hs1 H1 hN1 hd1=>?_
    refine PSs.sem (aM pO cP) ?_
    refine Am G hN1 hx (by rw[<- hN1,hNX];exact hxN) (by rw[eK];exact MK) (by rw[eK];exact bI) (by rw[eP,ew,eK,em,eb];exact FI) hgl (by rw[em];exact CT.mgC) hd1 λb d dn un σ2 H2 C2 hd2 n1 n2 n3 n4 all=>?_
    obtain⟨g3,g4,g5,g6⟩:=g2 b
    have hN2:X.N=(eE ρ1 x (.sh (.obj b))).map (·.1):=by rw[aP];exact hN1
    have E12:Ext Hs H Hs1 H2:=⟨hd1.ext.vis,hd1.ext.all.trans all,hd2.ext.sub,hd1.ext.hid⟩
    have C2':=C2.ext hd2.ext
    have hgX:Gl X "dict":=by show X.env.scope.names.lookup _=_;rw[G.good.sce];exact hgd
    refine PSs.sem (aM (pQ ak (eV (T:="dict") (yd G.good.calm) hgX (by rw[em];exact hdict) (by decide +kernel) (au ak aK)) rfl) (bM (eU ak))) ?_
    refine(dZ _ F G.good hN2 g3).1 σ2 H2 Hs1 _ hd2.ext.sub hd2.sh λvb H3 Hs3 E3 r3=>?_
    obtain⟨a,us,rfl,q1,q2⟩:=cu r3
    obtain⟨kvs,k1,k2,k3⟩:=sy g5 q2
    obtain⟨m1,m2⟩:=kJ (l0:=[]) (kvs0:=[]) k2 k3 rfl rfl
    refine⟨a,us,kvs,rfl,E3.sub.seq q1,vI.prs_same E3.sub k1,λq hq=>?_⟩
    have E4:Ext Hs3 H3 Hs3 (upd H3 q (.dK (dX [] kvs))):=Ext.acc (.refl E3.sub) hq (E3.sub.free hq)
    refine(dZ _ F G.good hN2 (g4 _)).1 σ2 _ Hs3 _ E4.sub (hd2.sh.same E3.vis) λvc H5 Hs5 E5 r5=>?_
    cases (show vc=.ref b by simpa[Rep] using r5)
    have C5:=((C2'.ext E3).ext E4).ext E5
    have hq5:H5 q=some (.dK (dX [] kvs)):=E5.all _ _ aA
    have hq6:Hs5 q=none:=E5.hid q _ aA (E3.sub.free hq)
    obtain⟨⟨dx,a1⟩,⟨kv0,b1,b2⟩,⟨vs,c1,c2⟩,⟨us',d1,d2⟩,e,f1,f2,f3,f4⟩:=C5
    refine⟨b,C,dx,_,rfl,a1,by rw[eK];exact CT.cl,by rw[eK];exact CT.nT,by show 3<1000;decide,?_⟩
    rw[Uv]
    have up:∀r o,r≠b->H5 r=some o->(upd H5 b (.ins C dx (lF q dn un))) r=some o:=λr o n z=>by rw[ao n];exact z
    have sub6:Same Hs5 (upd H5 b (.ins C dx (lF q dn un))):=λr o z=>up r o (aq z f1) (E5.sub r o z)
    refine(dZ _ F G.good hN2 (g4 _)).1 σ2 _ Hs5 _ sub6 (hd2.sh.same (E3.vis.trans E5.vis)) λvr H7 Hs7 E7 r7=>?_
    cases (show vr=.ref b by simpa[Rep] using r7)
    have ne_b:∀{r o},H5 r=some o->(∀u v,o≠.ins u v (lF d dn un))->r≠b:=λ{r o} z n z'=>by subst z';rw[a1] at z;cases z;exact n _ _ rfl
    have C6:CRep K C Hs5 (upd H5 b (.ins C dx (lF q dn un))) b q dn un ⟨tabs,[],[]⟩:=by
      refine⟨⟨dx,aA⟩,⟨_,up q _ (ne_b hq5 λ_ _ z=>by cases z) hq5,Ib ?_ ?_⟩,⟨vs,up dn _ (ne_b c1 λ_ _ z=>by cases z) c1,by rw[<- eK];exact c2⟩,⟨us',up un _ (ne_b d1 λ_ _ z=>by cases z) d1,by rw[<- eK];exact d2⟩,e,f1,hq6,f3,f4⟩
      . rw[m1]
        show(SN _).map _=_
        rw[g6,H6z]
        rfl
      . have:=aJ.same E5.vis _ _ m2
        rw[show(List.foldl (λa q=>putD a q.1 q.2) [] (tabs.map λq=>(Sum.inr q.1,q.2)))=tabs.map λq=>(Sum.inr q.1,q.2) from g6,H6z] at this
        rw[<- eK]
        exact this
    refine kD b H7 ⟨q,dn,un,Hs7,?_,C6.ext E7⟩
    have E6:Ext Hs H Hs5 (upd H5 b (.ins C dx (lF q dn un))):=by
      have E05:=((E12.trans E3).trans E4).trans E5
      have nb:H b=none:=cQ hd1.ext.all n1
      exact⟨E05.vis,λr o z=>up r o (aq z nb) (E05.all r o z),sub6,E05.hid⟩
    exact E6.trans E7
  subst hX
  intro z0 s0 I
  exact Q6z (key (D:={nx:=λ_ H'=>Q .non H',rt:=Q}) (λb H' ⟨d,dn,un,Hs',E1,C1⟩=>kq b d dn un H' Hs' E1 C1) z0 s0 (I.wish _)) (λ_ _ q=>q.unwish) λ_ _ z=>False.elim z
end
section
variable(call:Str->List D->Option D)(callx:Str->List D->Option Str)
end
open Classical in
def elE(cx:Cxt)(F:Nat)(sc:Scope)(p:Addr)(g:D->Option D)(a b:Expr)(ρ:Rho)(_:Expr):Option D:=match ev cx F sc ρ a with
 |some n=>if o7 cx F sc ρ b=some (p,("table_of":Str),[n]) then g n else none
 |none=>none
theorem gq:∀(l:List D),(∀d∈l,f d=g d)->aU f l=aU g l
 |[],_=>rfl
 |d::r,h=>by
  simp[aU];rw[h d (W1z ..),gq r λd hd=>h d (E1z _ hd)]
section
variable{P:Program}{w:World}{K:Zf}{mg:Str->Option Value}{base:Heap}{T:DE.Pg}{F k:Nat}
end
section
variable(call callT:Str->List D->Option D)(callx:Str->List D->Option Str)
def nl:Str:="\n"
def txG(S:Cst):D->Option D
 |.str x=>match gQ call callx S [.str x] with
  |some (.inl t)=>match callT "table_text" [t] with
   |some (.str y)=>if szl (x.length+nl.length)&&szl ((x++nl).length+y.length)&&szl ((x++nl++y).length+nl.length) then some (.str (x++nl++y++nl)) else none
   |_=>none
  |_=>none
 |_=>none
def Ao(S:Cst):List D->Option (Sum D Str)
 |[]=>match fO S [] with
  |some (.inl (.lst l))=>if szl l.length then(aU (λd=>(txG call callT callx S d).map some) l).bind λout=>(m9 out).bind λts=>if JoinOk ("":Str) ts then some (.inl (.str (Txt.join ("":Str) ts))) else none else none
  |_=>none
 |_=>none
end
section
variable{X:Cx}{ρ:Rho}{Hs0 H0:Hp}
theorem Bq{a b:Expr}{x y:Str}{pos:Pos}(ha:yr Hs0 H0 X ρ a (.str x))(hb:yr Hs0 H0 X ρ b (.str y))(hz:szl (x.length+y.length)=true):yr Hs0 H0 X ρ (.BinOp a .Add b pos) (.str (x++y)):=λσ H Hs Q E hst hq =>
 (kh mQ ak ak).sem (ha σ H Hs _ E hst λu H1 Hs1 E1 r1=>hb σ H1 Hs1 _ (E.trans E1) (hst.same E1.vis) λv H2 Hs2 E2 r2=>⟨x,y,cX r1,cX r2,fU hz,hq _ H2 Hs2 (E1.trans E2) (by simp[Rep])⟩)
theorem Vs{e:Expr}{d:D}(h:Ev X ρ e d):yr Hs0 H0 X ρ e d:=λσ H Hs Q E=>h σ H Hs Q E.sub
theorem Lj{cx:Cxt}{k:Nat}{sc:Scope}{f:Str}{a:Expr}{x d:D}{p pos:Pos}(G:Good cx k X sc)(hg:Gl X f)(hf:cx.fns.contains f=true)(ha:yr Hs0 H0 X ρ a x)(hp:aG a=true)(hc:cx.call f [x]=some d):yr Hs0 H0 X ρ (.Call (.Name f p) [a] [] pos) d:=λσ H Hs Q E hst hq=>by
 obtain⟨hdb,a1,fd,ps,har,_,hm,hk,hb,FN⟩:=G.fns f hf;refine(dw FN G.room hg hm hk hb .nil iM (au ak aK (aj hp)) hdb (aj hp) rfl).sem (ha σ H Hs _ E hst λv H1 Hs1 E1 r1=>?_);refine⟨?_,Hs1,[x],E1.sub,?_,.inl ⟨d,hc,λv H' Hs' E2 r2=>hq v H' Hs' (E1.trans E2) r2⟩⟩
 .rw[G4z,<- har _ _ hc];rfl
 .rw[G4z];exact .cons r1 .nil
end
section
variable{P:Program}{w:World}{K:Zf}{mg:Str->Option Value}{base:Heap}{T:DE.Pg}{F k:Nat}
theorem wO{fd:Fd}{t:Stmt}{f C:Addr}{g:FuncData}{nm:Str}{call:Str->List D->Option D}{callx:Str->List D->Option Str}{a b iter tg z1 z2 o:Expr}{scope:Scope}{p1 p2 p3 p4 p5 ap lp cp rp:Pos}{ρ1:Addr->D->Rho}{q1 q2:List Str}(Tx:Text w K mg T)(Fn:Fun K nm nm t f g)
  (hb:aL t=[.Return (some (.Call (.Attribute o "join" ap) [.ListComp (.BinOp (.BinOp (.BinOp a .Add z1 p1) .Add (.Call (.Name "table_text" p2) [b] [] p3) p4) .Add z2 p5) [⟨tg,iter,[],0⟩] scope lp] [] cp)) rp]) (hs:fd.sc=aB t) (S:FnScope fd.N fd.ps fd.sc) (h1:fd.ps.length=1)
  (ho:∀p:Addr,ev (T.cx (aR T F k)) F fd.sc (bD fd [.obj p]) o=some (.str "")) (hob:∀env m,attributeBase o m env (eval o env)=eval o env) (hline:(ap.endLine==cp.line)=true)
  (hgl:(jg scope fd.sc).names.lookup ("table_text":Str)=some .globalImplicit) (hfn:(T.cx (aR T F k)).fns.contains "table_text"=true) (hok:dN fd.sc scope=true) (cl:Cls K C)
  (GN:bV P w K mg C "names" q1 k (spR K C 0 fO)) (GT:bV P w K mg C "table_of" q2 k (spR K C 1 (gQ call callx)))
  (hI:∀p:Addr,o7 (T.cx (aR T F k)) F fd.sc (bD fd [.obj p]) iter=some (p,("names":Str),[]))
  (hB:∀(p:Addr) d,fH scope tg d (bH scope (bD fd [.obj p]))=some (ρ1 p d))
  (he1:∀p d,ev (T.cx (aR T F k)) F (jg scope fd.sc) (ρ1 p d) a=some d) (he2:∀p d,o7 (T.cx (aR T F k)) F (jg scope fd.sc) (ρ1 p d) b=some (p,("table_of":Str),[d]))
  (hz1:∀ρ,ev (T.cx (aR T F k)) F (jg scope fd.sc) ρ z1=some (.str nl)) (hz2:∀ρ,ev (T.cx (aR T F k)) F (jg scope fd.sc) ρ z2=some (.str nl)) :
  FnOk P w K mg base (CX1 P w) (k+1) f g fd.ps (spR K C 0 (Ao call (T.cx (aR T F k)).call callx)):=by
 refine Fun.okX (N:=fd.N) Fn (by rw[<- hs];exact S) (λvs H Q E h=>by rw[rO h,h1]) λcdv A outer s H vs Q E hr h=>?_
 obtain⟨p,d,dn,un,Hs,S1,ds,us,oo,rfl,e,hsm,S0,r,hoo,kq⟩:=h;cases List.length_eq_zero_iff.mp e;cases (show us=[] by simpa[aJ] using r);simp only[Ao] at hoo;split at hoo
 .rename_i l hn
  split at hoo
  .rename_i hz
   obtain⟨out,h2,h3⟩:=N0z.mp hoo;obtain⟨ts,h4,h5⟩:=N0z.mp h3;split at h5
   .rename_i hj
    cases h5;refine⟨eO _ (aL t),cP,?_⟩;rw[hb];generalize hX:jE (CX1 P w) P w K mg base fd.N nm (aB t) f cdv A outer s H E=X
    have eK:X.K=K:=by rw[<- hX];rfl
    have eP:X.prog=P:=by rw[<- hX];rfl
    have ew:X.w=w:=by rw[<- hX];rfl
    have em:X.mg=mg:=by rw[<- hX];rfl
    have G:Good (T.cx (aR T F k)) k X fd.sc:=by
     subst hX;exact Ld Tx (I6z _) rfl hr hs.symm S.kind S.nd
    have rl:aJ K Hs [.obj p] [.ref p]:=.cons (by simp[Rep]) .nil;obtain⟨s1,s2,s3⟩:=iI S (ds:=[.obj p]) (by rw[h1];rfl) rl
    have hN:X.N=(bD fd [.obj p]).map (·.1):=by rw[<- hX];exact s1
    have hst:cJ X.K Hs (bD fd [.obj p]) (start fd.N [.ref p]):=λi y dd e=>by
     rw[eK];rcases s3 i y _ e with q|⟨d',v,q,q1,q2⟩
     .cases q
     .cases q
      exact⟨v,q1,q2⟩
    obtain⟨ok1,ok2,ok3⟩:=dg G hok
    have hw:∀H Hs,Same Hs H->cJ X.K Hs (bD fd [.obj p]) (start fd.N [.ref p])->CRep K C Hs H p d dn un S1->∀Q',(∀v H' Hs',Ext Hs H Hs' H'->Rep X.K Hs' (.lst l) v->Q' v H')->jx X iter (start fd.N [.ref p]) H Q'/\aG iter=true:=λH Hs hsm hst S0 Q' hq=>by
     subst hX;exact iR (E:=E0) G hN cl rfl GN hr iM (hI p) hsm hst S0 λH1 Hs1 vs E1 r1=>⟨p,d,dn,un,Hs1,S1,[],vs,_,rfl,rfl,E1.sub,S0.ext E1,r1,hn,λv H' Hs' E2 r2=>hq v H' Hs' (E1.trans E2) r2⟩
    have hpl:aG iter=true:=gH (hI p);refine PSs.sem (bM (eU ak)) ?_;refine(lW V0z B1z C1z Al ak (au ak aK rfl) (hob _ _) rfl hline rfl rfl).sem ?_;refine(dZ _ F G hN (ho p)).1 _ H Hs _ hsm hst λvo H0 Hs0 E0' r0=>?_;cases cX r0;refine⟨rfl,?_⟩;refine PE.sem (kj G.calm ok1 ok2 ok3 j8 (λXc C=>⟨iK,gD,ak⟩) (dW hpl)) ?_;refine jq (E:=elE (T.cx (aR T F k)) F (jg scope fd.sc) p (txG call (T.cx (aR T F k)).call callx S1) a b) (l:=l) (out:=out) (Hs:=Hs0) G hN hok (λR kR=>?_) hz ?_ (λXc Cc ρ' hN' e he dd hd=>?_) (hst.same E0'.vis) λacc vs Hs' H' E1 a1 a2 a3 ra=>?_
    .refine(nQ (tg:=tg) ak).sem ((hw H0 Hs0 E0'.sub (hst.same E0'.vis) (S0.ext E0') _ λv H1 Hs1 E1 r1=>?_).1)
     obtain⟨p,vs,rfl,h1,h2⟩:=cu r1;refine⟨p,rfl,⟨vs,E1.sub.seq h1⟩,kR _ H1 Hs1 E1 λHs' H' e1 e2=>⟨⟨vs,e2.seq (e1.seq h1),by rw[h2.length];exact I6z _⟩,λi d hd=>?_⟩⟩;obtain⟨v,g1,g2⟩:=h2.get hd;refine⟨⟨vs,v,e2.seq (e1.seq h1),g1⟩,λx H2 y=>?_⟩;obtain⟨rfl,y⟩:=y;have:=y vs (e2.seq (e1.seq h1));rw[g1] at this;cases this;exact⟨Hs',.refl e2,Rep.same e1 d v g2⟩
    .rw[<- h2]
     refine gq l λd _=>?_;simp only[qM,hB,elE,he1,he2,lZ,bind,Option.bind];simp
    .obtain rfl:=he.elim id λz=>by cases z
     unfold elE at hd;split at hd
     .rename_i n hna
      split at hd
      .rename_i hmb
       unfold txG at hd;split at hd
       .rename_i x
        split at hd
        .rename_i tt ht
         split at hd
         .rename_i y hy
          split at hd
          .rename_i hzz
           rw[J3z,J3z] at hzz;cases hd;refine⟨?_,λb z=>by cases z⟩;have GC:=G.comp Cc hok;have ez:∀{e:Expr}{d:D},ev (T.cx (aR T F k)) F (jg scope fd.sc) ρ' e=some d->yr Hs0 H0 Xc ρ' e d:=λh=>Vs (dZ _ F GC hN' h).1;refine Bq (Bq (Bq (ez hna) (ez (hz1 _)) hzz.1.1) (Lj GC ?_ hfn (x:=tt) (λσ1 H1 Hs1 Q1 Ex hst1 hq1=>?_) (gH hmb) hy) hzz.1.2) (ez (hz2 _)) hzz.2
           .show Xc.env.scope.names.lookup _=_
            rw[GC.sce];exact hgl
           .have EX:=E0'.trans Ex
            exact(iR (E:=E0) (C:=C) (ps:=q2) (kM:=k) (sp:=spR K C 1 (gQ call callx)) (d:=d) (dn:=dn) (un:=un) (S:=S1) (Hs:=Hs1) GC hN' (by rw[Cc.K,eK];exact cl) rfl (by rw[Cc.prog,Cc.w,Cc.K,Cc.mg,eP,ew,eK,em];exact GT) (by rw[Cc.A];exact G.room) iM hmb Ex.sub hst1 (by rw[Cc.K,eK];exact S0.ext EX) λH3 Hs3 vs E3 r3=>⟨p,d,dn,un,Hs3,S1,[.str x],vs,_,rfl,rfl,E3.sub,S0.ext (EX.trans E3),by rw[<- eK,<- Cc.K];exact r3,ht,λv2 H4 Hs4 E4 r4=>hq1 v2 H4 Hs4 (E3.trans E4) (by rw[Cc.K,eK];exact r4)⟩).1
          .cases hd
         .cases hd
        .cases hd
       .cases hd
      .cases hd
     .cases hd
    .have E2:=E1.shown a1 a2 a3
     have er:=jd h4 ra;subst er;have sq:SqL X.K H' acc (ts.map V.str):=.of a3;exact⟨("":Str),acc,ts,rfl,rfl,sq,hj,kq _ H' _ (E0'.trans E2) (by simp[Rep])⟩
   .cases h5
  .cases hoo
 .cases hoo
end
def Jc(call:Str->List D->Option D)(callx:Str->List D->Option Str)(S:Cst)(n:D):Option D:=match gQ call callx S [n] with
 |some (.inl t)=>some t
 |_=>none
def elR(cx:Cxt)(F:Nat)(sc:Scope)(p:Addr)(g:D->Option D)(ρ:Rho)(e:Expr):Option D:=match o7 cx F sc ρ e with
 |some (q,m,[d])=>if q=p/\m=("table_of":Str) then g d else none
 |_=>none
section
variable{X:Cx}{ρ:Rho}{T:Pg}{F k:Nat}{sc:Scope}{C p d dn un p' d' dn' un':Addr}{S S':Cst}{Hs H:Hp}{σ:St}{call:Str->List D->Option D}{callx:Str->List D->Option Str}
theorem vU{tg iter elt:Expr}{scope:Scope}{l out:List D}{q1 q2:List Str}{ρ1:D->Rho}{pos:Pos}{Q:VK}(G:Good (T.cx (aR T F k)) (k+3) X sc)(hN:X.N=ρ.map (·.1))(hok:dN sc scope=true)(cl:Cls X.K C)
  (GN:bV X.prog X.w X.K X.mg C "names" q1 (k+3) (spR X.K C 0 fO)) (GT:bV X.prog X.w X.K X.mg C "table_of" q2 (k+3) (spR X.K C 1 (gQ call callx)))
  (hI:o7 (T.cx (aR T F k)) F sc ρ iter=some (p,("names":Str),[])) (hB:∀d,fH scope tg d (bH scope ρ)=some (ρ1 d)) (he:∀d,o7 (T.cx (aR T F k)) F (jg scope sc) (ρ1 d) elt=some (p',("table_of":Str),[d]))
  (hn:fO S []=some (.inl (.lst l))) (hz:szl l.length=true) (hgo:aU (λd=>(Jc call callx S' d).map some) l=some out)
  (hsm:Same Hs H) (hst:cJ X.K Hs ρ σ) (S0:CRep X.K C Hs H p d dn un S) (S1:CRep X.K C Hs H p' d' dn' un' S') (hq:∀v H' Hs',Ext Hs H Hs' H'->Rep X.K Hs' (.lst out) v->Q v H'):jx X (.ListComp elt [⟨tg,iter,[],0⟩] scope pos) σ H Q:=by
 obtain⟨ok1,ok2,ok3⟩:=dg G hok;refine PE.sem (kj G.calm ok1 ok2 ok3 j8 (λXc C=>⟨iK,gD,ak⟩) (dW (gH hI))) ?_;refine jq (E:=elR (T.cx (aR T F k)) F (jg scope sc) p' (Jc call callx S')) (l:=l) (out:=out) (Hs:=Hs) G hN hok (λR kR=>?_) hz ?_ (λXc Cc ρ' hN' e hee dd hd=>?_) hst λacc vs Hs' H' E1 a1 a2 a3 ra=>?_
 .refine(nQ (tg:=tg) ak).sem ((iR (E:=E0) G hN cl rfl GN G.room iM hI hsm hst S0 λH1 Hs1 vs E1 r1=>⟨p,d,dn,un,Hs1,S,[],vs,_,rfl,rfl,E1.sub,S0.ext E1,r1,hn,λv H2 Hs2 E2 r2=>?_⟩).1)
  have E12:=E1.trans E2;obtain⟨p,vs,rfl,h1,h2⟩:=cu r2;refine⟨p,rfl,⟨vs,E2.sub.seq h1⟩,kR _ H2 Hs2 E12 λHs' H' e1 e2=>⟨⟨vs,e2.seq (e1.seq h1),by rw[h2.length];exact I6z _⟩,λi d hd=>?_⟩⟩;obtain⟨v,g1,g2⟩:=h2.get hd;refine⟨⟨vs,v,e2.seq (e1.seq h1),g1⟩,λx H2 y=>?_⟩;obtain⟨rfl,y⟩:=y;have:=y vs (e2.seq (e1.seq h1));rw[g1] at this;cases this;exact⟨Hs',.refl e2,Rep.same e1 d v g2⟩
 .rw[<- hgo]
  refine gq l λd _=>?_;simp only[qM,hB,elR,he,lZ,bind,Option.bind];simp
 .obtain rfl:=hee.elim id λz=>by cases z
  unfold elR at hd;split at hd
  .rename_i q m n hm
   split at hd
   .rename_i hc
    obtain⟨rfl,rfl⟩:=hc;unfold Jc at hd;split at hd
    .rename_i tt ht
     cases hd;have GC:=G.comp Cc hok
     have key:∀σ1 H1 Hs1 Q1,Ext Hs H Hs1 H1->cJ Xc.K Hs1 ρ' σ1->(∀v H' Hs',Ext Hs1 H1 Hs' H'->Rep Xc.K Hs' dd v->Q1 v H')->jx Xc e σ1 H1 Q1:=λσ1 H1 Hs1 Q1 Ex hst1 hq1 =>
      (iR (E:=E0) (C:=C) (ps:=q2) (kM:=k+3) (sp:=spR X.K C 1 (gQ call callx)) (d:=d') (dn:=dn') (un:=un') (S:=S') (Hs:=Hs1) GC hN' (by rw[Cc.K];exact cl) rfl (by rw[Cc.prog,Cc.w,Cc.K,Cc.mg];exact GT) (by rw[Cc.A];exact G.room) iM hm Ex.sub hst1 (by rw[Cc.K];exact S1.ext Ex) λH3 Hs3 vs E3 r3=>⟨q,d',dn',un',Hs3,S',[n],vs,_,rfl,rfl,E3.sub,S1.ext (Ex.trans E3),by rw[<- Cc.K];exact r3,ht,λv2 H4 Hs4 E4 r4=>hq1 v2 H4 Hs4 (E3.trans E4) (by rw[Cc.K];exact r4)⟩).1
     exact⟨key,λb hb σ1 H1 Hs1 Q1 Ex hst1 hq1=>(mH ak (by obtain⟨f,args,kws,cp,rfl⟩:=metP_call hm;intro _;rfl)).sem (key σ1 H1 Hs1 _ Ex hst1 λv H' Hs' E1 r1=>by subst hb;exact⟨b,bY r1,hq1 H' Hs' E1⟩)⟩
    .cases hd
   .cases hd
  .cases hd
 .have E2:=E1.shown a1 a2 a3
  refine hq (.ref acc) H' _ E2 ?_;simp only[Rep];refine⟨acc,vs,rfl,.of aA,aJ.same (λb u e=>?_) out vs ra⟩;rw[ao (aq e a2)];exact e
where
 metP_call {cx:Cxt} {F:Nat} {sc:Scope} {ρ:Rho} {e:Expr} {q:Addr×Str×List D} (h:o7 cx F sc ρ e=some q):∃f args kws cp,e=.Call f args kws cp:=by
  unfold o7 at h
  split at h
  .exact⟨_,_,_,_,rfl⟩
  .cases h
theorem Rt{ms:nj}{Hs0 H0:Hp}{D0:Ends}{z:Str}{cE tg1 iter1 elt1 tg2 iter2 elt2:Expr}{scope1 scope2:Scope}{l o1 o2:List D}{q1 q2:List Str}{ρ1 ρ2:Addr->D->Rho}{txt:D}{tabs:List (Str×D)}{tf:Cst->List D->Option (Sum D Str)}{rd:D->Option (List (Str×D))}{a1 a2:Addr}{g1 g2:FuncData}{ps1 ps2:List Str}{zp r1 r2 r3 r4 r5 r6 r7 l1 l2:Pos}
  (G:GoodK T F k ms X sc C) (hN:X.N=ρ.map (·.1)) (hz:ownIn sc z=true) (hc:(ρ.map (·.1)).contains z=true) (ok1:dN sc scope1=true) (ok2:dN sc scope2=true)
  (GN:bV X.prog X.w X.K X.mg C "names" q1 (k+3) (spR X.K C 0 fO)) (GT:bV X.prog X.w X.K X.mg C "table_of" q2 (k+3) (spR X.K C 1 (gQ call callx)))
  (t1:sc.names.lookup ("case_text":Str)=some .globalImplicit) (t2:X.mg "case_text"=some (.ref a1)) (t3:W.keepIn X.K (.ref a1)=true) (t4:Binds X.K g1 ps1 []) (t5:FnOk X.prog X.w X.K X.mg X.base (CX1 X.prog X.w) (k+3) a1 g1 ps1 (spR X.K C 0 tf))
  (u1:sc.names.lookup ("read_case":Str)=some .globalImplicit) (u2:X.mg "read_case"=some (.ref a2)) (u3:W.keepIn X.K (.ref a2)=true) (u4:Binds X.K g2 ps2 []) (u5:FnOk X.prog X.w X.K X.mg X.base (CX1 X.prog X.w) (k+3) a2 g2 ps2 (zu X.K C rd))
  (hcE:ev (T.cx (aR T F k)) F sc ρ cE=some (.obj p)) (htx:tf S []=some (.inl txt)) (hrd:rd txt=some tabs)
  (hI1:∀p',o7 (T.cx (aR T F k)) F sc (eE ρ z (.sh (.obj p'))) iter1=some (p,("names":Str),[])) (hI2:∀p',o7 (T.cx (aR T F k)) F sc (eE ρ z (.sh (.obj p'))) iter2=some (p,("names":Str),[]))
  (hB1:∀p' d,fH scope1 tg1 d (bH scope1 (eE ρ z (.sh (.obj p'))))=some (ρ1 p' d)) (hB2:∀p' d,fH scope2 tg2 d (bH scope2 (eE ρ z (.sh (.obj p'))))=some (ρ2 p' d))
  (he1:∀p' d,o7 (T.cx (aR T F k)) F (jg scope1 sc) (ρ1 p' d) elt1=some (p',("table_of":Str),[d])) (he2:∀p' d,o7 (T.cx (aR T F k)) F (jg scope2 sc) (ρ2 p' d) elt2=some (p,("table_of":Str),[d]))
  (hn:fO S []=some (.inl (.lst l))) (hzl:szl l.length=true) (hg1:aU (λd=>(Jc call callx ⟨tabs,[],[]⟩ d).map some) l=some o1) (hg2:aU (λd=>(Jc call callx S d).map some) l=some o2) (hcmp:cmpop .Eq (.lst o1) (.lst o2)=some (.bl true))
  (S0:CRep X.K C Hs0 H0 p d dn un S) (hd:Hd X.K X.lm Hs0 H0 Hs H ρ σ) (kr:∀H',D0.rt (.bl true) H') :
  eO X [.Assign [.Name z zp] (.Call (.Name "read_case" r1) [.Call (.Name "case_text" r2) [cE] [] r3] [] r4) r5,.Return (some (.Compare (.ListComp elt1 [⟨tg1,iter1,[],0⟩] scope1 l1) [.Eq] [.ListComp elt2 [⟨tg2,iter2,[],0⟩] scope2 l2] r6)) r7] D0 σ H:=by
 have gl:∀{f:Str},sc.names.lookup f=some .globalImplicit->Gl X f:=λh=>by show X.env.scope.names.lookup _=_;rw[G.s.good.sce];exact h
 obtain⟨ox,of⟩:=G.s.own.own z hz;obtain⟨i,hi⟩:=cD hc
 have hnd:(ρ.map (·.1)).Nodup:=by rw[<- hN];exact G.s.good.nd
 have rm:=G.s.good.room
 refine PSs.sem (aM (fK G.s.good.nd (by rw[hN];exact hi) ox (dw u5 rm (gl u1) u2 u3 u4 .nil (E:=E0) iM (au (dw t5 rm (gl t1) t2 t3 t4 .nil (E:=E0) iM (au ak aK (aj (aY hcE))) (by decide) (aj (aY hcE)) rfl) aK rfl) (by decide) rfl rfl) rfl of)
  (bM (eU (sG (jB rm G.s.good.kw .Eq) ak ak (dU rfl))))) ?_
 refine(dZ _ F G.s.good hN hcE).1 σ H Hs _ hd.ext.sub hd.sh λv H1 Hs1 E1 rv=>?_;cases (show v=.ref p by simpa[Rep] using rv);have hd1:=hd.step E1;refine⟨p,d,dn,un,Hs1,S,[],[],_,rfl,rfl,E1.sub,S0.ext hd1.ext,.nil,htx,λv2 H2 Hs2 E2 rv2=>?_⟩;have hd2:=hd1.step E2;refine⟨v2,txt,Hs2,tabs,rfl,E2.sub,rv2,hrd,λp' d' dn' un' H3 Hs3 E3 C3=>?_⟩;have hd3:=hd2.step E3;have hd4:=hd3.set (d:=.obj p') (v:=.ref p') hnd hi (by simp[Rep])
 have hN4:X.N=(eE ρ z (.sh (.obj p'))).map (·.1):=by rw[aP];exact hN
 refine vU (p:=p) (p':=p') (T:=T) (F:=F) (k:=k) (ρ:=eE ρ z (.sh (.obj p'))) (ρ1:=ρ1 p') G.s.good hN4 ok1 G.co.cl GN GT (hI1 p') (hB1 p') (he1 p') hn hzl hg1 hd4.ext.sub hd4.sh (S0.ext hd4.ext) C3 λw H5 Hs5 E5 r5=>?_;have hd5:=hd4.step E5;refine vU (p:=p) (p':=p) (T:=T) (F:=F) (k:=k) (ρ:=eE ρ z (.sh (.obj p'))) (ρ1:=ρ2 p') G.s.good hN4 ok2 G.co.cl GN GT (hI2 p') (hB2 p') (he2 p') hn hzl hg2 hd5.ext.sub hd5.sh (S0.ext hd5.ext) (S0.ext hd5.ext) λw2 H6 Hs6 E6 r6=>?_;exact⟨Hs6,.lst o1,.lst o2,_,E6.sub,Rep.same E6.vis _ w r5,r6,hcmp,true,rfl,kr _⟩
end
end L2
namespace M92
open PySem PySem.Spec PyProof.Rows L2
open DE (D)
def MF(K:Zf)(C:Addr)(m qual:Str)(st:Stmt):Prop:=∃f fd,Meth K C m f/\Fun K m qual st f fd
theorem kE{K:Zf}{st:Stmt}(f:Addr)(pm cdv:Value)(y:W.findIn K (.ref C) x=some (some (.ref f)))(i:W.isFn K (.ref f)=true)(l:K.lookup f=some ⟨.type "function",none,.func (W.fnOf x qual (cC st) (aL st) (aB st) .none .none .none pm none cdv .none),#[]⟩)
  (c:W.codeIn K cdv qual=true) (k:W.keepIn K (.ref f)=true):MF K C x qual st:=⟨f,_,⟨y,i,k⟩,fun_mk l c k⟩
def cl:Str->List D->Option D:=vR (DE.aR T 60 34)
def clx:Str->List D->Option Str:=xR (DE.aR T 60 34)
def ms:nj:=[("put",2,NQ cl clx),("take",1,xG cl clx),("table_of",1,λS ds=>(gQ cl clx S ds).map (toM S)),("turn",1,iT cl clx "turned" "turn"),("flip",1,iT cl clx "flipped" "flip"),("join",4,xH cl clx),("names",0,λS ds=>(fO S ds).map (toM S)),("back",0,qj)]
structure CaseTxt(K:Zf)(mg:Str->Option Value)(C:Addr):Prop where
 t:CTxt K mg C
 set:MF K C "set_to" "Case.set_to" zH
 doo:MF K C "do" "Case.do" sDo
 put:MF K C "put" "Case.put" Uh
 tab:MF K C "table_of" "Case.table_of" Ug
 take:MF K C "take" "Case.take" Ju
 join:MF K C "join" "Case.join" Jv
 turn:MF K C "turn" "Case.turn" Jt
 flip:MF K C "flip" "Case.flip" Jw
 names:MF K C "names" "Case.names" uD
 go:MF K C "go" "Case.go" sGo
 back:MF K C "back" "Case.back" Jx
section
variable{P:Program}{w:World}{K:Zf}{mg:Str->Option Value}{C:Addr}
theorem Xp(h:us.length=n)(hn:n=5:=by rfl):∃a b c d e,us=[a,b,c,d,e]:=by
 subst hn
 match us,h with
 |[a,b,c,d,e],_=>exact⟨a,b,c,d,e,rfl⟩
theorem KJ{ms:nj}(h:∀p∈ms,(lF 0 0 0).lookup p.1=none/\∃ps,bV P w K mg C p.1 ps k (spM K C p.2.1 p.2.2)):∀m n f,ms.lookup m=some (n,f)->(lF 0 0 0).lookup m=none/\∃ps,bV P w K mg C m ps k (spM K C n f):=λm n f hl=>by
 induction ms with
 |nil=>cases hl
 |cons q r ih =>
  obtain⟨y,n',f'⟩:=q;rw[K3z] at hl;split at hl
  .rename_i e
   cases hl;have:=eq_of_beq e;subst this;exact h _ (W1z ..)
  .exact ih (λp hp=>h p (E1z _ hp)) hl
theorem jC{m:Str}{ps:List Str}{j k:Nat}{sp:Sp}(h:bV P w K mg C m ps j sp)(hk:j<=k):bV P w K mg C m ps k sp:=by
 obtain⟨f,fd,a,b,c⟩:=h;exact⟨f,fd,a,b,λbase=>(c base).mono hk⟩
theorem HW(h:bV P w K mg C m ps k (spR K C n f)):bV P w K mg C m ps k (spM K C n λS ds=>(f S ds).map (toM S)):=by
 obtain⟨f,fd,a,b,c⟩:=h;exact⟨f,fd,a,b,λbase=>(c base).weak λvs H Q E q=>Pn q⟩
theorem Vn(TX:Text w K mg T)(Y:CaseTxt K mg C):bV P w K mg C "table_of" ["self","name"] 35 (spR K C 1 (gQ cl clx)):=by
 have nn:iC P w K mg "need_name" ["thing"] 34 (spX K cl clx "need_name" ["thing"]):=gK (F:=60) TX (show T.defs.lookup ("need_name":Str)=some (aW (top 50)) by rfl');obtain⟨fs,ds,ms1,Fs⟩:=Y.tab;exact⟨fs,ds,ms1,Fs.binds λ_ _ _ _ _ _ us hl=>by obtain⟨_,_,rfl⟩:=len2 hl;rfl,λbase=>Qx Fs Y.t TX.exs (by rfl') nn⟩
theorem Vp(TX:Text w K mg T)(Y:CaseTxt K mg C):bV P w K mg C "names" ["self"] 1 (spR K C 0 fO):=by
 obtain⟨fs,ds,ms1,Fs⟩:=Y.names;exact⟨fs,ds,ms1,Fs.binds λ_ _ _ _ _ _ us hl=>by obtain⟨_,rfl⟩:=len1 hl;rfl,λbase=>Eu Fs Y.t (TX.blt "sorted" "sorted" rfl).1⟩
theorem RD(TX:Text w K mg T)(Y:CaseTxt K mg C):CaseOk P w K mg 36 C ms:=by
 have nn:iC P w K mg "need_name" ["thing"] 34 (spX K cl clx "need_name" ["thing"]):=gK (F:=60) TX (show T.defs.lookup ("need_name":Str)=some (aW (top 50)) by rfl');have it:iC P w K mg "is_table" ["thing"] 34 (spX K cl clx "is_table" ["thing"]):=gK (F:=60) TX (show T.defs.lookup ("is_table":Str)=some (aW (top 24)) by rfl');have tu:iC P w K mg "turned" ["table"] 34 (spX K cl clx "turned" ["table"]):=gK (F:=60) TX (show T.defs.lookup ("turned":Str)=some (aW (top 27)) by rfl');have fl:iC P w K mg "flipped" ["table"] 34 (spX K cl clx "flipped" ["table"]):=gK (F:=60) TX (show T.defs.lookup ("flipped":Str)=some (aW (top 28)) by rfl');have jo:iC P w K mg "joined" ["word","one","other"] 34 (spX K cl clx "joined" ["word","one","other"]):=gK (F:=60) TX (show T.defs.lookup ("joined":Str)=some (aW (top 51)) by rfl');obtain⟨fs,ds,ms1,Fs⟩:=Y.set;have GS:bV P w K mg C "set_to" ["self","name","table"] 1 (DK K C):=⟨fs,ds,ms1,Fs.binds λ_ _ _ _ _ _ us hl=>by obtain⟨_,_,_,rfl⟩:=SX hl;rfl,λbase=>Qy Fs Y.t⟩;obtain⟨fs,ds,ms1,Fs⟩:=Y.doo;have GO:bV P w K mg C "do" ["self","word","name","table"] 2 (Jl K C):=⟨fs,ds,ms1,Fs.binds λ_ _ _ _ _ _ us hl=>by obtain⟨_,_,_,_,rfl⟩:=Vb hl;rfl,λbase=>U0 Fs Y.t GS⟩;have GT:=Vn (P:=P) TX Y;obtain⟨fs,ds,ms1,Fs⟩:=Y.put;have GP:bV P w K mg C "put" ["self","name","table"] 35 (spM K C 2 (NQ cl clx)):=⟨fs,ds,ms1,Fs.binds λ_ _ _ _ _ _ us hl=>by obtain⟨_,_,_,rfl⟩:=SX hl;rfl,λbase=>Qz Fs Y.t TX.exs (by rfl') (by omega) nn it GO⟩;obtain⟨fs,ds,ms1,Fs⟩:=Y.take;have GK:bV P w K mg C "take" ["self","name"] 36 (spM K C 1 (xG cl clx)):=⟨fs,ds,ms1,Fs.binds λ_ _ _ _ _ _ us hl=>by obtain⟨_,_,rfl⟩:=len2 hl;rfl,λbase=>Ko Fs Y.t (by omega) GT GO⟩;obtain⟨fs,ds,ms1,Fs⟩:=Y.turn;have GU:bV P w K mg C "turn" ["self","name"] 36 (spM K C 1 (iT cl clx "turned" "turn")):=⟨fs,ds,ms1,Fs.binds λ_ _ _ _ _ _ us hl=>by obtain⟨_,_,rfl⟩:=len2 hl;rfl,λbase=>Km Fs Y.t (by omega) tu GT GO⟩;obtain⟨fs,ds,ms1,Fs⟩:=Y.flip;have GF:bV P w K mg C "flip" ["self","name"] 36 (spM K C 1 (iT cl clx "flipped" "flip")):=⟨fs,ds,ms1,Fs.binds λ_ _ _ _ _ _ us hl=>by obtain⟨_,_,rfl⟩:=len2 hl;rfl,λbase=>Kq Fs Y.t (by omega) fl GT GO⟩;obtain⟨fs,ds,ms1,Fs⟩:=Y.join;have GJ:bV P w K mg C "join" ["self","name","word","one","other"] 36 (spM K C 4 (xH cl clx)):=⟨fs,ds,ms1,Fs.binds λ_ _ _ _ _ _ us hl=>by obtain⟨_,_,_,_,_,rfl⟩:=Xp hl;rfl,λbase=>Kp Fs Y.t TX.exs (by rfl') (by omega) nn it jo GT GO⟩;obtain⟨fs,ds,ms1,Fs⟩:=Y.go;have GG:bV P w K mg C "go" ["self","some","others","place"] 2 (Ud K C):=⟨fs,ds,ms1,Fs.binds λ_ _ _ _ _ _ us hl=>by obtain⟨_,_,_,_,rfl⟩:=Vb hl;rfl,λbase=>UW Fs Y.t TX.exs (by rfl') (TX.blt "len" "len" (by rfl')).1 GS⟩;obtain⟨fs,ds,ms1,Fs⟩:=Y.back;have GB:bV P w K mg C "back" ["self"] 3 (spM K C 0 qj):=⟨fs,ds,ms1,Fs.binds λ_ _ _ _ _ _ us hl=>by obtain⟨_,rfl⟩:=len1 hl;rfl,λbase=>Kr Fs Y.t GG⟩;have GN:=Vp (P:=P) TX Y;refine⟨Y.t.cl,KJ λp hp=>?_⟩;simp only[ms,V5z,R3z,D7z] at hp;rcases hp with rfl|rfl|rfl|rfl|rfl|rfl|rfl|rfl
 .exact⟨by rfl',_,jC GP (by omega)⟩
 .exact⟨by rfl',_,GK⟩
 .exact⟨by rfl',_,jC (HW GT) (by omega)⟩
 .exact⟨by rfl',_,GU⟩
 .exact⟨by rfl',_,GF⟩
 .exact⟨by rfl',_,GJ⟩
 .exact⟨by rfl',_,jC (HW GN) (by omega)⟩
 .exact⟨by rfl',_,jC GB (by omega)⟩
end
end M92
namespace L2
open PySem PySem.Spec PyProof.Rows
open DE hiding st
section
variable{P:Program}{w:World}{K:Zf}{mg:Str->Option Value}{base:Heap}{T:DE.Pg}{F k:Nat}
theorem K3{fd:Fd}{t:Stmt}{f C fI:Addr}{g:FuncData}{fdI:FuncData}{nm x:Str}{pre mid rest:List Stmt}{ms:nj}{px pp cp pos:Pos}(Tx:Text w K mg T)(Fn:Fun K nm nm t f g)(CT:CTxt K mg C)
    (hb:aL t=pre++.Assign [.Name x px] (.Call (.Name "Case" pp) [] [] cp) pos::(mid++rest)) (hs:fd.sc=aB t) (S:FnScope fd.N fd.ps fd.sc) (h1:fd.ps.length=1)
    (hgl:fd.sc.names.lookup ("Case":Str)=some .globalImplicit) (MK:Mk K C fI) (bI:Binds K fdI ["self"] []) (FI:FnOk P w K mg base (CX1 P w) 1 fI fdI ["self"] (M92.ux K C)) (CO:CaseOk P w K mg (k+3) C ms)
    (hx:ownIn fd.sc x=true) (hxN:fd.N.contains x=true)
    (hlaw:∀ns:List Int,ns.length<=63->∃ρ1,lV (λρ s=>DE.st (T.cx (aR T F (k+3))) F F fd.sc ρ s) pre (bD fd [.lst (ns.map D.int)])=some (.nxt ρ1)/\∀b,∃as ρ2 S2,DQ (λρ S s=>stC (T.cx (aR T F (k+3))) ms F fd.sc 4 ρ S s) mid (eE ρ1 x (.sh (.obj b))) ⟨[],[],[]⟩=some (as,ρ2,S2)/\(∀a∈as,a=b) /\
      ∀(X:Cx)(D0:Ends)(σ:St)(Hs0 H0 Hs H:Hp)(d dn un:Addr),X.prog=P->X.w=w->X.K=K->X.mg=mg->X.base=base->GoodK T F (k+3) ms X fd.sc C->X.N=ρ2.map (·.1)->CRep X.K C Hs0 H0 b d dn un S2->Hd X.K X.lm Hs0 H0 Hs H ρ2 σ->(∀H',D0.rt (.bl true) H')->eO X rest D0 σ H) :
    FnOk P w K mg base CX0 (k+7) f g fd.ps (pC K):=by
  refine FnOk.calm (?_:FnOk P w K mg base (CX1 P w) (k+7) f g fd.ps (pC K)) λ_ _ _ _ h=>h
  refine Fun.okX (N:=fd.N) Fn (by rw[<- hs];exact S) (λvs H Q E h=>by obtain⟨a,ns,rfl,_⟩:=h;rw[h1];rfl) λcdv A outer s H vs Q E hr h=>?_
  obtain⟨a,ns,rfl,hS,hl,kq⟩:=h
  refine⟨eO _ (aL t),cP,?_⟩
  generalize hX:(jE (CX1 P w) P w K mg base fd.N nm (aB t) f cdv A outer s H E).nox=X
  have G:GoodS (T.cx (aR T F (k+3))) (k+6) X fd.sc:=by
    subst hX
    exact
      { good := { calm := rfl, room := hr, sce := hs.symm, kind := S.kind, nd := S.nd, cst := Tx.cst, blt := Tx.blt, exs := Tx.exs, kw := Tx.kw
                  fns:=λf' hf'=>by
                    obtain⟨fd',hl'⟩:=eY (l:=T.defs) hf'
                    have FA:=Tx.fns f' fd' hl'
                    obtain⟨nm',t',a',g',m1,m2,m3,m4,m5⟩:=FA.ex
                    exact⟨FA.nd,a',g',fd'.ps,λds d h=>dB hl' ds _ (fu h),λds c h=>dB hl' ds _ (fD h),m1,m2.kp,m3,(rE Tx (k+3) nm' f' fd' t' a' g' hl' m2 m4 m5 FA.fs).mono (by omega)⟩ }
        own:=⟨λx hx=>⟨by
          unfold ownIn at hx
          rw[S4z] at hx
          show(aB t).names.lookup x=_\/(aB t).names.lookup x=_
          rw[<- hs]
          exact hx.imp (λq=>by simpa using q) (λq=>by simpa using q),.inl rfl⟩⟩
        pass:=PassesOwn.never
        stk:=⟨rfl,rfl⟩ }
  have eK:X.K=K:=by rw[<- hX];rfl
  have eP:X.prog=P:=by rw[<- hX];rfl
  have ew:X.w=w:=by rw[<- hX];rfl
  have em:X.mg=mg:=by rw[<- hX];rfl
  have eb:X.base=base:=by rw[<- hX];rfl
  have el:X.lm=none:=by rw[<- hX];rfl
  have rl:aJ K H [.lst (ns.map D.int)] [.ref a]:=by
    refine .cons ?_ .nil
    simp only[Rep]
    exact⟨a,ns.map V.int,rfl,hS,uK (λx=>by simp[Rep]) ns⟩
  obtain⟨s1,s2,s3⟩:=iI S (ds:=[.lst (ns.map D.int)]) (by rw[h1];rfl) rl
  have noow:∀(i:Nat)(x:Str)(ds':List D),(bD fd [.lst (ns.map D.int)])[i]?=some (x,.ow ds')->False:=λi x ds' e=>by
    rcases s3 i x _ e with q|⟨d',v,q,q1,q2⟩
    . cases q
    . cases q
  have hd:Hd X.K X.lm H H H H (bD fd [.lst (ns.map D.int)]) (start fd.N [.ref a]):=by
    rw[eK,el]
    refine⟨.refl (.refl _),s2,λi x d e=>?_,λi x ds' e=>(noow i x ds' e).elim,λi j x y ds' es a' _ e=>(noow i x ds' e).elim,(λi x dss e=>by
      rcases s3 i x _ e with q|⟨d',v,q,q1,q2⟩
      . cases q
      . cases q),λp' hp'=>by cases hp'⟩
    rcases s3 i x _ e with q|⟨d',v,q,q1,q2⟩
    . cases q
    . cases q
      exact⟨v,q1,q2⟩
  have hNX:X.N=fd.N:=by rw[<- hX];rfl
  have GK:GoodK T F (k+3) ms X fd.sc C:=⟨G,by rw[ew,eK,em];exact Tx,el,by rw[eP,ew,eK,em];exact CO⟩
  have key:eO X (aL t) {nx:=λ_ H'=>Q .non H',rt:=Q} (start fd.N [.ref a]) H:=by
    obtain⟨ρ1,g1,g2⟩:=hlaw ns hl
    rw[hb]
    refine Bp (X:=X) (Hs0:=H) (H0:=H) (λρ s fl hN h=>yZ _ F F G hN h) pre (by rw[hNX];exact s1) g1 hd λσ' Hs1 H1 hN1 hd1=>?_
    refine PSs.sem (aM pO cP) ?_
    refine Am (k:=k+3) G hN1 hx (by rw[<- hN1,hNX];exact hxN) (by rw[eK];exact MK) (by rw[eK];exact bI) (by rw[eP,ew,eK,em,eb];exact FI) hgl (by rw[em];exact CT.mgC) hd1 λb d dn un σ2 H2 C2 hd2 n1 n2 n3 n4 all=>?_
    obtain⟨as,ρ2,S2,g3,g4,g5⟩:=g2 b
    have hN2:X.N=(eE ρ1 x (.sh (.obj b))).map (·.1):=by rw[aP];exact hN1
    exact rQ (X:=X) (C:=C) (p:=b) (d:=d) (dn:=dn) (λρ S s ρ' S' as h ha=>Hq GK 4 h ha) mid g3 g4 rest _ σ2 Hs1 _ Hs1 H2 un hN2 C2 hd2 λσ3 H3 Hs3 Hb Hc un3 hN3 C3 hd3=>g5 X _ σ3 Hb Hc Hs3 H3 d dn un3 eP ew eK em eb GK hN3 C3 hd3 kq
  subst hX
  intro z0 s0 I
  exact Q6z (key z0 s0 (I.wish _)) (λ_ _ q=>q.unwish) λ_ _ z=>False.elim z
end
def EC(cx:Cxt)(ms:nj)(F:Nat)(sc:Scope)(p:Addr)(n:Nat)(ρ:Rho)(S:Cst)(e:Expr)(r:D)(S':Cst):Prop:=∃as,eC cx ms F sc ρ n S e=some (as,r,S')/\∀a∈as,a=p
def BC(cx:Cxt)(ms:nj)(F:Nat)(sc:Scope)(p:Addr)(n:Nat)(ρ:Rho)(op:BoolOp)(S:Cst)(es:List Expr)(r:D)(S':Cst):Prop:=∃as,bC (eC cx ms F sc ρ n) op es S=some (as,r,S')/\∀a∈as,a=p
def TC(cx:Cxt)(ms:nj)(F:Nat)(sc:Scope)(p:Addr)(n:Nat)(ρ:Rho)(S:Cst)(s:Stmt)(ρ':Rho)(S':Cst):Prop:=∃as,stC cx ms F sc n ρ S s=some (as,ρ',S')/\∀a∈as,a=p
def QC(cx:Cxt)(ms:nj)(F:Nat)(sc:Scope)(p:Addr)(n:Nat)(l:List Stmt)(ρ:Rho)(S:Cst)(ρ':Rho)(S':Cst):Prop:=∃as,DQ (λρ S s=>stC cx ms F sc n ρ S s) l ρ S=some (as,ρ',S')/\∀a∈as,a=p
section
variable{cx:Cxt}{ms:nj}{F n k:Nat}{sc:Scope}{p:Addr}{ρ ρ1 ρ':Rho}{S S' S1 S2:Cst}{r x y z d:D}{b:Bool}{a e l:Expr}{f:Cst->List D->Option MR}{m:Str}{pos q cp:Pos}{s:Stmt}{ss:List Stmt}
theorem lU{as bs:List Addr}(h:∀a∈as,a=p)(k:∀a∈bs,a=p):∀a∈as++bs,a=p:=λa ha=>(List.mem_append.mp ha).elim (h a) (k a)
theorem ePl(h:mC cx F sc ρ 5 e=false)(h2:ev cx F sc ρ e=some d):EC cx ms F sc p (n+1) ρ S e d S:=⟨[],by unfold eC;rw[h,h2];rfl,λ_ h=>by cases h⟩
theorem vK{o:Expr}{ap:Pos}{args:List Expr}{kws:List Keyword}{ds:List D}(h:mC cx F sc ρ 5 (.Call (.Attribute o m ap) args kws cp)=true)(h2:o7 cx F sc ρ (.Call (.Attribute o m ap) args kws cp)=some (p,m,ds))(h3:ms.lookup m=some (k,f))(h4:(ds.length==k)=true)(h5:f S ds=some (.val r S')):EC cx ms F sc p (n+1) ρ S (.Call (.Attribute o m ap) args kws cp) r S':=by
 refine⟨[p],?_,λa h=>by simpa using h⟩
 have e:KQ cx ms F sc ρ S (.Call (.Attribute o m ap) args kws cp)=some (p,.val r S'):=by
  unfold KQ;rw[h2];show QL ms S (p,m,ds)=_;unfold QL;dsimp only;rw[h3];dsimp only;rw[h4,h5];rfl
 unfold eC;rw[h,G7z rfl];dsimp only;rw[e]
theorem Ms{fn:Str}(h:mC cx F sc ρ 5 (.Call (.Name fn q) [a] [] cp)=true)(hf:(sc.names.lookup fn==some .globalImplicit&&cx.fns.contains fn)=true)(h1:EC cx ms F sc p n ρ S a x S1)(h2:cx.call fn [x]=some z):EC cx ms F sc p (n+1) ρ S (.Call (.Name fn q) [a] [] cp) z S1:=by
 obtain⟨as,e,ha⟩:=h1;refine⟨as,?_,ha⟩;unfold eC;rw[h,G7z rfl];dsimp only;rw[hf,G7z rfl,e];dsimp only;rw[h2];rfl
theorem Ij{op:CmpOp}(h:mC cx F sc ρ 5 (.Compare l [op] [a] pos)=true)(h1:EC cx ms F sc p n ρ S l x S1)(h2:EC cx ms F sc p n ρ S1 a y S2)(h3:cmpop op x y=some z):EC cx ms F sc p (n+1) ρ S (.Compare l [op] [a] pos) z S2:=by
 obtain⟨as,e,ha⟩:=h1;obtain⟨bs,e2,hb⟩:=h2;refine⟨as++bs,?_,lU ha hb⟩;unfold eC;rw[h,G7z rfl];dsimp only;rw[e];dsimp only;rw[e2];dsimp only;rw[h3];rfl
theorem Gv{op:BoolOp}{es:List Expr}(h:mC cx F sc ρ 5 (.BoolOp op es pos)=true)(h1:BC cx ms F sc p n ρ op S es r S'):EC cx ms F sc p (n+1) ρ S (.BoolOp op es pos) r S':=by
 obtain⟨as,e,ha⟩:=h1;refine⟨as,?_,ha⟩;unfold eC;rw[h];exact e
theorem Tf{op:BoolOp}(h:EC cx ms F sc p n ρ S e r S'):BC cx ms F sc p n ρ op S [e] r S':=h
theorem VF{es:List Expr}(h:EC cx ms F sc p n ρ S e (.bl false) S1)(h2:BC cx ms F sc p n ρ .Or S1 (a::es) r S'):BC cx ms F sc p n ρ .Or S (e::a::es) r S':=by
 obtain⟨as,e1,ha⟩:=h;obtain⟨bs,e2,hb⟩:=h2;refine⟨as++bs,?_,lU ha hb⟩;unfold bC;rw[e1];show(bC (eC cx ms F sc ρ n) .Or (a::es) S1).map _=_;rw[e2];rfl
theorem VG{es:List Expr}(h:EC cx ms F sc p n ρ S e (.bl true) S1)(h2:BC cx ms F sc p n ρ .And S1 (a::es) r S'):BC cx ms F sc p n ρ .And S (e::a::es) r S':=by
 obtain⟨as,e1,ha⟩:=h;obtain⟨bs,e2,hb⟩:=h2;refine⟨as++bs,?_,lU ha hb⟩;unfold bC;rw[e1];show(bC (eC cx ms F sc ρ n) .And (a::es) S1).map _=_;rw[e2];rfl
theorem tPl(h:sC cx F sc ρ 4 s=false)(h2:DE.st cx F F sc ρ s=some (.nxt ρ')):TC cx ms F sc p (n+1) ρ S s ρ' S:=⟨[],by unfold stC;rw[h,h2];rfl,λ_ h=>by cases h⟩
theorem tEx{fn:Expr}{args:List Expr}{kws:List Keyword}(h:sC cx F sc ρ 4 (.Expr (.Call fn args kws cp) pos)=true)(h2:EC cx ms F sc p 6 ρ S (.Call fn args kws cp) r S'):TC cx ms F sc p (n+1) ρ S (.Expr (.Call fn args kws cp) pos) ρ S':=by
 obtain⟨as,e,ha⟩:=h2;refine⟨as,?_,ha⟩;unfold stC;rw[h,G7z rfl];dsimp only;rw[e];rfl
theorem tSe{fn:Expr}{args:List Expr}{kws:List Keyword}{v:Str}{px:Pos}(h:sC cx F sc ρ 4 (.Assign [.Name v px] (.Call fn args kws cp) pos)=true)(hc:(ownIn sc v&&(ρ.map (·.1)).contains v)=true)(h2:EC cx ms F sc p 6 ρ S (.Call fn args kws cp) r S')(h3:eE ρ v (.sh r)=ρ'):TC cx ms F sc p (n+1) ρ S (.Assign [.Name v px] (.Call fn args kws cp) pos) ρ' S':=by
 obtain⟨as,e,ha⟩:=h2;subst h3;refine⟨as,?_,ha⟩;unfold stC;rw[h,G7z rfl];dsimp only;rw[e];dsimp only;rw[hc,G7z rfl]
theorem Oz{t:Expr}{body:List Stmt}(h:sC cx F sc ρ 4 (.If t body [] pos)=true)(h2:EC cx ms F sc p 6 ρ S t (.bl false) S'):TC cx ms F sc p (n+1) ρ S (.If t body [] pos) ρ S':=by
 obtain⟨as,e,ha⟩:=h2;refine⟨as,?_,ha⟩;unfold stC;rw[h,G7z rfl];dsimp only;rw[e];rfl
theorem W2{t:Expr}{body:List Stmt}(h:sC cx F sc ρ 4 (.If t body [] pos)=true)(h2:EC cx ms F sc p 6 ρ S t (.bl true) S1)(h3:QC cx ms F sc p n body ρ S1 ρ' S'):TC cx ms F sc p (n+1) ρ S (.If t body [] pos) ρ' S':=by
 obtain⟨as,e,ha⟩:=h2;obtain⟨bs,e2,hb⟩:=h3;refine⟨as++bs,?_,lU ha hb⟩;unfold stC;rw[h,G7z rfl];dsimp only;rw[e];show(DQ _ body ρ S1).map _=_;rw[e2];rfl
theorem V9:QC cx ms F sc p n [] ρ S ρ S:=⟨[],rfl,λ_ h=>by cases h⟩
theorem gP(h:TC cx ms F sc p n ρ S s ρ1 S1)(k:QC cx ms F sc p n ss ρ1 S1 ρ' S'):QC cx ms F sc p n (s::ss) ρ S ρ' S':=by
 obtain⟨as,e,ha⟩:=h;obtain⟨bs,e2,hb⟩:=k;refine⟨as++bs,?_,lU ha hb⟩;unfold DQ;rw[e];dsimp only;rw[e2];rfl
end
end L2
namespace M92
open PySem DE L2
abbrev c6:Cxt:=cxN T 60 36
abbrev lSc:Scope:=(aW (top 84)).sc
theorem vr{f:Str}{ds:List D}{d:D}(h:aH T 60 34 f ds=some d):cl f ds=some d/\clx f ds=none:=by
 rw[jc] at h;refine⟨h,?_⟩;show Rs.exc? (aR T 60 34 f ds)=none
 cases e:aR T 60 34 f ds with
 |none=>rfl
 |some r =>
  rw[e] at h
  cases r with
  |val d=>rfl
  |exc c=>cases h
def N6:List Str:=["a","b","c","d","e","f","g"]
theorem QF:(N6.map λn=>ndN cl clx (.str n))=N6.map λn=>some (.inl n):=by rfl'
theorem nd6{n:Str}(h:n∈N6):ndN cl clx (.str n)=some (.inl n):=List.map_inj_left.mp QF n h
section
variable{S S':Cst}{n a b w:Str}{us:List D}{x y t:D}
theorem Hv(hn:n∈N6)(h:aH T 60 34 "is_table" [t]=some (.bl true))(hd:doS S "put" n t=some S'):NQ cl clx S [.str n,t]=some (.val (.bl (qx S.tabs n).isSome) S'):=by
 unfold NQ;dsimp only;rw[(vr h).1];dsimp only;rw[nd6 hn];dsimp only;rw[hd];rfl
theorem mz(hn:n∈N6)(h:qx S.tabs n=some x):gQ cl clx S [.str n]=some (.inl x):=by
 unfold gQ;dsimp only;rw[nd6 hn];dsimp only;rw[h]
theorem lu(hn:n∈N6)(ha:a∈N6)(hb:b∈N6)(h1:qx S.tabs a=some x)(h2:qx S.tabs b=some y)(hj:aH T 60 34 "joined" [.str w,x,y]=some t)(ht:aH T 60 34 "is_table" [t]=some (.bl true))(hd:doS S "join" n t=some S'):xH cl clx S [.str n,.str w,.str a,.str b]=some (.val t S'):=by
 unfold xH;dsimp only;rw[nd6 hn];dsimp only;rw[mz ha h1];dsimp only;rw[mz hb h2];dsimp only;unfold Aq;rw[(vr hj).2,(vr hj).1];dsimp only;rw[(vr ht).1];dsimp only;rw[hd];rfl
theorem nC{fn:Str}(hn:n∈N6)(h1:qx S.tabs n=some x)(hj:aH T 60 34 fn [x]=some t)(hd:doS S w n t=some S'):iT cl clx fn w S [.str n]=some (.val t S'):=by
 unfold iT;dsimp only;rw[mz hn h1];dsimp only;unfold doF;rw[(vr hj).2,(vr hj).1];dsimp only;rw[hd];rfl
end
def dS(S:Cst)(w n:Str)(t:D):Cst:=(doS S w n t).getD S
def bK(S:Cst):Cst:=match qj S [] with
 |some (.val _ S')=>S'
 |_=>S
def rho(ns:List Int)(sz on ot ca ma lo ag:Sl):Rho:=[("_law_script",.sh (scr ns)),("_law_size",sz),("_law_one",on),("_law_other",ot),("_law_case",ca),("_law_made",ma),("_law_low",lo),("_law_again",ag)]
section
variable(u1 u2 uP v1 v2 uQ uF uE uG uS:List D)
abbrev S0:Cst:=⟨[],[],[]⟩
abbrev S2:Cst:=dS (dS S0 "put" "a" (.tup u1)) "put" "b" (.tup u2)
abbrev S3:Cst:=dS (S2 u1 u2) "join" "c" (.tup uP)
abbrev S5:Cst:=dS (dS (S3 u1 u2 uP) "turn" "a" (.tup v1)) "turn" "b" (.tup v2)
abbrev S7:Cst:=dS (dS (S5 u1 u2 uP v1 v2) "join" "d" (.tup uQ)) "turn" "c" (.tup uQ)
abbrev S8:Cst:=bK (bK (bK (bK (S7 u1 u2 uP v1 v2 uQ))))
abbrev S9:Cst:=dS (S8 u1 u2 uP v1 v2 uQ) "flip" "a" (.tup uF)
abbrev S10:Cst:=bK (S9 u1 u2 uP v1 v2 uQ uF)
abbrev S11:Cst:=dS (S10 u1 u2 uP v1 v2 uQ uF) "join" "e" (.tup uE)
abbrev S12:Cst:=dS (S11 u1 u2 uP v1 v2 uQ uF uE) "join" "f" (.tup uG)
abbrev S13:Cst:=dS (S12 u1 u2 uP v1 v2 uQ uF uE uG) "join" "g" (.tup uS)
def Tv:List (Str×D):=[("a",.tup u1),("b",.tup u2),("c",.tup uP),("e",.tup uE),("f",.tup uG),("g",.tup uS)]
theorem Gu:(S13 u1 u2 uP v1 v2 uQ uF uE uG uS).tabs=Tv u1 u2 uP uE uG uS:=by rfl'
end
abbrev mid:List Stmt:=((aL (top 84)).drop 3).take 9
abbrev mT(i:Nat):Stmt:=(aL (top 84)).getD i (.Pass ⟨0,0,0,0⟩)
abbrev inB:List Stmt:=match mT 5 with|.If _ b _ _=>b|_=>[]
abbrev bS(i:Nat):Stmt:=inB.getD i (.Pass ⟨0,0,0,0⟩)
theorem QK:mid=[mT 3,mT 4,mT 5,mT 6,mT 7,mT 8,mT 9,mT 10,mT 11]:=by rfl'
theorem Vi:inB=[bS 0,bS 1,bS 2,bS 3,bS 4,bS 5,bS 6]:=by rfl'
theorem Nf:aL (top 84)=(aL (top 84)).take 2++mT 2::(mid++(aL (top 84)).drop 12):=by rfl'
def B4(f:Nat->Nat->Int):Prop:=∀i j,-4<=f i j/\f i j<=5
def B9(f:Nat->Nat->Int):Prop:=∀i j,-99<=f i j/\f i j<=99
def blw(a:Nat)(f g:Nat->Nat->Int):Nat->Nat->Int:=λi j=>if i<a then f i j else g (i-a) j
def bsd(a:Nat)(f g:Nat->Nat->Int):Nat->Nat->Int:=λi j=>if j<a then f i j else g i (j-a)
theorem wz{ns:List Int}{a:Nat}:B4 (rK ns a):=λi j=>by
 unfold rK;have h1:=nP (ns:=ns) (k:=a+1+8*i+j) (many:=6+Ft (pickN ns a 4)) (by omega);have h2:=K1 (pickN ns a 4);omega
section
variable{s:Nat}{f g:Nat->Nat->Int}
theorem B4.b(h:B4 f):B9 f:=λi j=>by have:=h i j;omega
theorem B9.sm(h:B9 f){m n:Nat}:Sm m n f:=λi j _ _=>by
 have:=h i j;unfold small;rw[J3z,K2z,K2z];omega
theorem B4.t(h:B4 f):B4 λi j=>f j i:=λi j=>h j i
theorem SM{x y:Int}(h1:-4<=x/\x<=5)(h2:-4<=y/\y<=5):-20<=x*y/\x*y<=25:=by
 have:x=-4\/x=-3\/x=-2\/x=-1\/x=0\/x=1\/x=2\/x=3\/x=4\/x=5:=by omega
 rcases this with rfl|rfl|rfl|rfl|rfl|rfl|rfl|rfl|rfl|rfl<;>omega
theorem xg(hs:s=1\/s=2)(hf:B4 f)(hg:B4 g):B9 (mul s f g):=λi j=>by
 have h0:=SM (hf i 0) (hg 0 j);have h1:=SM (hf i 1) (hg 1 j);rcases hs with rfl|rfl
 .show -99<=0+f i 0*g 0 j/\0+f i 0*g 0 j<=99
  omega
 .show -99<=0+f i 0*g 0 j+f i 1*g 1 j/\0+f i 0*g 0 j+f i 1*g 1 j<=99
  omega
theorem Ng(h:B4 f):B9 (blw s f f):=λi j=>by
 unfold blw;have h1:=h i j;have h2:=h (i-s) j
 split<;>omega
theorem RK(h:B4 f):B9 (bsd s f f):=λi j=>by
 unfold bsd;have h1:=h i j;have h2:=h i (j-s)
 split<;>omega
theorem isT(k:Nat){m n:Nat}(h1:1<=m)(h2:m<=4)(h3:1<=n)(h4:n<=4)(h:B9 f):aH T 60 (k+4) "is_table" [tbl m n f]=some (.bl true):=by
 rw[is_table k (C2z oM (by decide)),yM h1 h3 h,A5z (by omega),A5z (by omega)];rfl
theorem U9:mul s (λi j=>g j i) (λi j=>f j i)=λi j=>mul s f g j i:=by
 funext i j;unfold mul;congr 1;funext l;exact Int.mul_comm _ _
theorem joT(k:Nat){x y d:D}(h:aH T 60 (k+1) "times" [x,y]=some d):aH T 60 (k+2) "joined" [.str "times",x,y]=some d:=dh (fd:=aW (top 51)) rfl rfl (NT (fl1:=.ret d) (jf (by nofun) (by nofun) rfl) (cV (aD rfl (by walk_at "xm") h)) rfl)
theorem joP(k:Nat){x y d:D}(h:aH T 60 (k+1) "plus" [x,y]=some d):aH T 60 (k+2) "joined" [.str "plus",x,y]=some d:=dh (fd:=aW (top 51)) rfl rfl (o8 (jf (by nofun) (by nofun) rfl) (NT (fl1:=.ret d) (jf (by nofun) (by nofun) rfl) (cV (aD rfl (by walk_at "xm") h)) rfl))
theorem joB(k:Nat)(hs:s=1\/s=2):aH T 60 (k+9) "joined" [.str "beside",tbl s s f,tbl s s f]=some (tbl s (s+s) (bsd s f f)):=by
 rcases hs with rfl|rfl<;>rfl'
theorem joL(k:Nat)(hs:s=1\/s=2):aH T 60 (k+9) "joined" [.str "below",tbl s s f,tbl s s f]=some (tbl (s+s) s (blw s f f)):=by
 rcases hs with rfl|rfl<;>rfl'
theorem BR(hs:s=1\/s=2):det s (mul s f g)=det s f*det s g:=by
 rcases hs with rfl|rfl
 .rw[vN,vN,vN]
  show 0+f 0 0*g 0 0=_;omega
 .rw[Di,Di,Di]
  show(0+f 0 0*g 0 0+f 0 1*g 1 0)*(0+f 1 0*g 0 1+f 1 1*g 1 1)-(0+f 0 0*g 0 1+f 0 1*g 1 1)*(0+f 1 0*g 0 0+f 1 1*g 1 0)=_;grind
abbrev fl(s:Nat)(f:Nat->Nat->Int):Nat->Nat->Int:=λi j=>f (s-1-i) (s-1-j)
theorem Il(hs:s=1\/s=2):det s (fl s f)=det s f:=by
 rcases hs with rfl|rfl
 .rw[vN,vN]
 .rw[Di,Di]
  show f 1 1*f 0 0-f 1 0*f 0 1=_;grind
theorem Lf:jN 1 1 f=decide (0<=f 0 0):=by
 show(decide (0<=det 1 λi j=>f ([0].getD i 0) ([0].getD j 0))&&true)=_;rw[vN,Bool.and_true];rfl
theorem good2:jN 2 2 f=(decide (0<=f 0 0)&&(decide (0<=f 0 1)&&(decide (0<=f 1 0)&&(decide (0<=f 1 1)&&decide (0<=det 2 f))))):=by
 show(decide (0<=det 1 λi j=>f ([0].getD i 0) ([0].getD j 0))&&(decide (0<=det 1 λi j=>f ([0].getD i 0) ([1].getD j 0))&&(decide (0<=det 1 λi j=>f ([1].getD i 0) ([0].getD j 0))&&(decide (0<=det 1 λi j=>f ([1].getD i 0) ([1].getD j 0))&&(decide (0<=det 2 λi j=>f ([0,1].getD i 0) ([0,1].getD j 0))&&true)))))=_;rw[vN,vN,vN,vN,Bool.and_true,Di,Di];rfl
theorem Le(hs:s=1\/s=2):jN s s (fl s f)=jN s s f:=by
 rcases hs with rfl|rfl
 .rw[Lf,Lf]
 .rw[good2,good2,Il (.inr rfl)]
  show(decide (0<=f 1 1)&&(decide (0<=f 1 0)&&(decide (0<=f 0 1)&&(decide (0<=f 0 0)&&_))))=_;generalize decide (0<=f 1 1)=a;generalize decide (0<=f 0 1)=b;generalize decide (0<=f 1 0)=c;generalize decide (0<=f 0 0)=d
  cases a<;>cases b<;>cases c<;>cases d<;>rfl
theorem FZ(hs:s=1\/s=2)(h1:jN s s f=true)(h2:jN s s g=true):jN s s (mul s f g)=true:=by
 rcases hs with rfl|rfl
 .rw[Lf,K2z] at h1 h2 ⊢
  show 0<=0+f 0 0*g 0 0;have:=L5z h1 h2;omega
 .rw[good2,BR (.inr rfl)]
  rw[good2] at h1 h2;simp only[J3z,K2z] at h1 h2 ⊢;obtain⟨a1,a2,a3,a4,a5⟩:=h1;obtain⟨b1,b2,b3,b4,b5⟩:=h2
  have ad:∀{x y z w:Int},0<=x->0<=y->0<=z->0<=w->0<=0+x*y+z*w:=λhx hy hz hw=>by
   have:=L5z hx hy;have:=L5z hz hw;omega
  exact⟨ad a1 b1 a2 b3,ad a1 b2 a2 b4,ad a3 b1 a4 b3,ad a3 b2 a4 b4,L5z a5 b5⟩
def rk(m n:Nat)(f:Nat->Nat->Int):Int:=mxD ((mA m n f (min m n)).filterMap gR) 0
def oI(b:Bool)(x:Int):Option Int:=if b then some x else none
theorem Br{α β:Type}{g:α->Option β}:∀{l:List α}{r:List (Option β)},l.map g=r->l.filterMap g=r.filterMap id
 |[],r,h=>by cases h;rfl
 |x::l,r,h=>by
  cases h;simp only[O5z,L1z,id];rw[Br (l:=l) rfl]
theorem g1{i j:Nat}:gR (mnD f [i] [j])=oI (f i j !=0) 1:=by
 show(if(det 1 _ !=0) then _ else _)=_;rw[vN];rfl
theorem g2{a b c d:Nat}:gR (mnD f [a,b] [c,d])=oI (f a c*f b d-f a d*f b c !=0) 2:=by
 show(if(det 2 _ !=0) then _ else _)=_;rw[Di];rfl
theorem DW(hs:s=1\/s=2):rk (s+s) s (blw s f f)=rk s s f:=by
 rcases hs with rfl|rfl
 .have e1:(mA 1 1 f 1).map gR=[oI (f 0 0 !=0) 1]:=by
   show[mnD f [0] [0]].map gR=_;simp only[O5z,G6z,g1]
  have e2:(mA 2 1 (blw 1 f f) 1).map gR=[oI (f 0 0 !=0) 1,oI (f 0 0 !=0) 1]:=by
   show[mnD (blw 1 f f) [0] [0],mnD (blw 1 f f) [1] [0]].map gR=_;simp only[O5z,G6z,g1];rfl
  show mxD ((mA 2 1 (blw 1 f f) 1).filterMap gR) 0=mxD ((mA 1 1 f 1).filterMap gR) 0;rw[Br e1,Br e2]
  cases f 0 0 !=0<;>rfl
 .have q:∀{x y:Int},x=-y->(x !=0)=(y !=0):=λ{x y} h=>by
   by_cases e:y=0
   .subst e;subst h;rfl
   .rw[X6z.mpr e,X6z.mpr (λz=>e (by omega))]
  have q0:∀{x:Int},x=0->(x !=0)=false:=λ{x} h=>by subst h;rfl
  have e1:(mA 2 2 f 2).map gR=[oI (f 0 0 !=0) 1,oI (f 0 1 !=0) 1,oI (f 1 0 !=0) 1,oI (f 1 1 !=0) 1,oI (f 0 0*f 1 1-f 0 1*f 1 0 !=0) 2]:=by
   show[mnD f [0] [0],mnD f [0] [1],mnD f [1] [0],mnD f [1] [1],mnD f [0,1] [0,1]].map gR=_;simp only[O5z,G6z,g1,g2]
  have e2:(mA 4 2 (blw 2 f f) 2).map gR=[oI (f 0 0 !=0) 1,oI (f 0 1 !=0) 1,oI (f 1 0 !=0) 1,oI (f 1 1 !=0) 1,oI (f 0 0 !=0) 1,oI (f 0 1 !=0) 1,oI (f 1 0 !=0) 1,oI (f 1 1 !=0) 1,oI (f 0 0*f 1 1-f 0 1*f 1 0 !=0) 2,oI (f 0 0*f 0 1-f 0 1*f 0 0 !=0) 2,oI (f 0 0*f 1 1-f 0 1*f 1 0 !=0) 2,oI (f 1 0*f 0 1-f 1 1*f 0 0 !=0) 2,oI (f 1 0*f 1 1-f 1 1*f 1 0 !=0) 2,oI (f 0 0*f 1 1-f 0 1*f 1 0 !=0) 2]:=by
   show[mnD (blw 2 f f) [0] [0],mnD (blw 2 f f) [0] [1],mnD (blw 2 f f) [1] [0],mnD (blw 2 f f) [1] [1],mnD (blw 2 f f) [2] [0],mnD (blw 2 f f) [2] [1],mnD (blw 2 f f) [3] [0],mnD (blw 2 f f) [3] [1],mnD (blw 2 f f) [0,1] [0,1],mnD (blw 2 f f) [0,2] [0,1],mnD (blw 2 f f) [0,3] [0,1],mnD (blw 2 f f) [1,2] [0,1],mnD (blw 2 f f) [1,3] [0,1],mnD (blw 2 f f) [2,3] [0,1]].map gR=_;simp only[O5z,G6z,g1,g2];rfl
  show mxD ((mA 4 2 (blw 2 f f) 2).filterMap gR) 0=mxD ((mA 2 2 f 2).filterMap gR) 0;rw[Br e1,Br e2,q0 (show f 0 0*f 0 1-f 0 1*f 0 0=0 by grind),q0 (show f 1 0*f 1 1-f 1 1*f 1 0=0 by grind),q (show f 1 0*f 0 1-f 1 1*f 0 0=-(f 0 0*f 1 1-f 0 1*f 1 0) by grind)]
  cases f 0 0 !=0<;>cases f 0 1 !=0<;>cases f 1 0 !=0<;>cases f 1 1 !=0<;>cases f 0 0*f 1 1-f 0 1*f 1 0 !=0<;>rfl
theorem yR(hs:s=1\/s=2):(Ls (s+s) λi=>D.int (fJ s (blw s f f i)))=(Ls s λi=>.int (fJ s (f i)))++Ls s λi=>.int (fJ s (f i)):=by
 rcases hs with rfl|rfl<;>rfl
theorem wU(hs:s=1\/s=2):fJ s (λi=>f i i+g i i)=fJ s (λi=>f i i)+fJ s λi=>g i i:=by
 rcases hs with rfl|rfl
 .show 0+(f 0 0+g 0 0)=0+f 0 0+(0+g 0 0)
  omega
 .show 0+(f 0 0+g 0 0)+(f 1 1+g 1 1)=0+f 0 0+f 1 1+(0+g 0 0+g 1 1)
  omega
end
section
variable{ns:List Int}{b:Addr}{s:Nat}{f g:Nat->Nat->Int}{ma lo:Sl}
abbrev uL(m n:Nat)(f:Nat->Nat->Int):List D:=Ls m λi=>.tup (Ls n λj=>.int (f i j))
abbrev R(ns:List Int)(b:Addr)(s:Nat)(f g:Nat->Nat->Int)(ma lo:Sl):Rho:=rho ns (.sh (.int s)) (.sh (tbl s s f)) (.sh (tbl s s g)) (.sh (.obj b)) ma lo .no
abbrev Z2(s:Nat)(f g:Nat->Nat->Int):Cst:=S2 (uL s s f) (uL s s g)
abbrev Z3(s:Nat)(f g:Nat->Nat->Int):Cst:=S3 (uL s s f) (uL s s g) (uL s s (mul s f g))
abbrev tr(f:Nat->Nat->Int):Nat->Nat->Int:=λi j=>f j i
abbrev Z5(s:Nat)(f g:Nat->Nat->Int):Cst:=S5 (uL s s f) (uL s s g) (uL s s (mul s f g)) (uL s s (tr f)) (uL s s (tr g))
abbrev Z8(s:Nat)(f g:Nat->Nat->Int):Cst:=S8 (uL s s f) (uL s s g) (uL s s (mul s f g)) (uL s s (tr f)) (uL s s (tr g)) (uL s s (tr (mul s f g)))
abbrev Z9(s:Nat)(f g:Nat->Nat->Int):Cst:=S9 (uL s s f) (uL s s g) (uL s s (mul s f g)) (uL s s (tr f)) (uL s s (tr g)) (uL s s (tr (mul s f g))) (uL s s (fl s f))
abbrev Z10(s:Nat)(f g:Nat->Nat->Int):Cst:=S10 (uL s s f) (uL s s g) (uL s s (mul s f g)) (uL s s (tr f)) (uL s s (tr g)) (uL s s (tr (mul s f g))) (uL s s (fl s f))
abbrev Z11(s:Nat)(f g:Nat->Nat->Int):Cst:=dS (Z10 s f g) "join" "e" (tbl (s+s) s (blw s f f))
abbrev Z12(s:Nat)(f g:Nat->Nat->Int):Cst:=dS (Z11 s f g) "join" "f" (tbl s (s+s) (bsd s f f))
abbrev Z13(s:Nat)(f g:Nat->Nat->Int):Cst:=dS (Z12 s f g) "join" "g" (tbl s s λi j=>f i j+g i j)
theorem v3(h1:1<=s)(h2:s<=4)(hf:B4 f):TC c6 ms 60 lSc b 4 (R ns b s f g .no .no) S0 (mT 3) (R ns b s f g .no .no) (dS S0 "put" "a" (tbl s s f)) :=
 tEx (by rfl') (vK (k:=2) (by rfl') (by rfl') (by rfl') rfl (Hv (n:="a") (t:=tbl s s f) (by simp[N6]) (isT 30 h1 h2 h1 h2 hf.b) (by rfl')))
theorem v4(h1:1<=s)(h2:s<=4)(hg:B4 g):TC c6 ms 60 lSc b 4 (R ns b s f g .no .no) (dS S0 "put" "a" (tbl s s f)) (mT 4) (R ns b s f g .no .no) (Z2 s f g) :=
 tEx (by rfl') (vK (k:=2) (by rfl') (by rfl') (by rfl') rfl (Hv (n:="b") (t:=tbl s s g) (by simp[N6]) (isT 30 h1 h2 h1 h2 hg.b) (by rfl')))
theorem i0(hs:s=1\/s=2)(h1:1<=s)(h2:s<=4)(hf:B4 f)(hg:B4 g):TC c6 ms 60 lSc b 3 (R ns b s f g .no .no) (Z2 s f g) (bS 0) (R ns b s f g (.sh (tbl s s (mul s f g))) .no) (Z3 s f g) :=
 tSe (by rfl') (by rfl') (vK (k:=4) (by rfl') (by rfl') (by rfl') rfl (lu (n:="c") (a:="a") (b:="b") (w:="times") (x:=tbl s s f) (y:=tbl s s g) (t:=tbl s s (mul s f g)) (by simp[N6]) (by simp[N6]) (by simp[N6]) (by rfl') (by rfl') (joT 32 (times 27 h1 h2 h1 h2 h1 h2 (.inl hf.b.sm))) (isT 30 h1 h2 h1 h2 (xg hs hf hg)) (by rfl'))) (by rfl')
theorem Hh(h1:1<=s)(h2:s<=4)(h:B9 f):aH T 60 36 "whole_minor" [tbl s s f]=some (.int (det s f)):=by
 have q:=whole_minor (31-4*s) s h1 h2 h.sm
 rwa [show 31-4*s+4*s+5=36 by omega] at q
theorem wrt(hs:s=1\/s=2)(h:B9 f):aH T 60 36 "_law_worth" [tbl s s f]=some (.int (det s f)):=by
 have q:=vp s (35-s) (f:=f) (by omega) h.sm
 rwa [show 35-s+s+1=36 by omega,Vc (by omega) (by omega)] at q
theorem tb(h1:1<=s)(h2:s<=4)(h:B9 f):Tb s s f:=⟨h1,h2,h1,h2,h.sm⟩
theorem kT{m n:Nat}{f g:Nat->Nat->Int}:gw (tbl m n f) (tbl m n g)=true:=by
 refine dF λa ha b hb=>?_;obtain⟨i,_,rfl⟩:=fM ha;obtain⟨j,_,rfl⟩:=fM hb;refine dF λa ha b hb=>?_;obtain⟨i,_,rfl⟩:=fM ha;obtain⟨j,_,rfl⟩:=fM hb;rfl
theorem kR{n:Nat}{f g:Nat->Int}:gw (row n f) (row n g)=true:=by
 refine dF λa ha b hb=>?_;obtain⟨i,_,rfl⟩:=fM ha;obtain⟨j,_,rfl⟩:=fM hb;rfl
theorem neT{m n:Nat}{f g:Nat->Nat->Int}(h:f=g):cmpop .NotEq (tbl m n f) (tbl m n g)=some (.bl false):=by
 subst h;exact U3 (B6z oM (by decide)) kT
theorem Vx(hs:s=1\/s=2)(h:B4 f):small (det s f)=true:=by
 have:-99<=det s f/\det s f<=99:=by
  rcases hs with rfl|rfl
  .rw[vN];have:=h 0 0;omega
  .rw[Di]
   have a:=SM (h 0 0) (h 1 1);have b:=SM (h 0 1) (h 1 0);omega
 unfold small;rw[J3z,K2z,K2z];omega
theorem i1(hs:s=1\/s=2)(h1:1<=s)(h2:s<=4)(hf:B4 f)(hg:B4 g){S:Cst}:TC c6 ms 60 lSc b 3 (R ns b s f g (.sh (tbl s s (mul s f g))) .no) S (bS 1) (R ns b s f g (.sh (tbl s s (mul s f g))) .no) S:=by
 refine tPl (by rfl') (Ad (Vz (ρ:=R ns b s f g (.sh (tbl s s (mul s f g))) .no) rfl (jf (x:=.int (det s (mul s f g))) (y:=.int (det s f*det s g)) ?_ (d9 (x:=.int (det s f)) (y:=.int (det s g)) ?_ ?_ (Dk (.inl (Vx hs hf)))) (Ku (BR hs))) lD))
 .exact aD rfl (aF (x:=tbl s s (mul s f g)) (by nofun) cg) (Hh h1 h2 (xg hs hf hg))
 .exact aD rfl (aF (x:=tbl s s f) (by nofun) cg) (wrt hs hf.b)
 .exact aD rfl (aF (x:=tbl s s g) (by nofun) cg) (wrt hs hg.b)
theorem i2(hs:s=1\/s=2)(h1:1<=s)(h2:s<=4)(hf:B4 f)(hg:B4 g){S:Cst}:TC c6 ms 60 lSc b 3 (R ns b s f g (.sh (tbl s s (mul s f g))) .no) S (bS 2) (R ns b s f g (.sh (tbl s s (mul s f g))) .no) S:=by
 have e1:=is_good 14 (tb h1 h2 hf.b);have e2:=is_good 14 (tb h1 h2 hg.b);have e3:=is_good 14 (tb h1 h2 (xg hs hf hg));refine tPl (by rfl') (Ad (Vz (ρ:=R ns b s f g (.sh (tbl s s (mul s f g))) .no) rfl (gM ?_) lD))
 cases c1:jN s s f with
 |false =>
  rw[c1] at e1;exact wD (aD rfl (aF (x:=tbl s s f) (by nofun) cg) e1)
 |true =>
  rw[c1] at e1;refine wC (aD rfl (aF (x:=tbl s s f) (by nofun) cg) e1) ?_
  cases c2:jN s s g with
  |false =>
   rw[c2] at e2;exact wD (aD rfl (aF (x:=tbl s s g) (by nofun) cg) e2)
  |true =>
   rw[c2] at e2;rw[FZ hs c1 c2] at e3;exact wC (aD rfl (aF (x:=tbl s s g) (by nofun) cg) e2) (yu (jh (aD rfl (aF (x:=tbl s s (mul s f g)) (by nofun) cg) e3)))
theorem i34(h1:1<=s)(h2:s<=4):TC c6 ms 60 lSc b 3 (R ns b s f g ma lo) (Z3 s f g) (bS 3) (R ns b s f g ma lo) (dS (Z3 s f g) "turn" "a" (tbl s s (tr f)))/\TC c6 ms 60 lSc b 3 (R ns b s f g ma lo) (dS (Z3 s f g) "turn" "a" (tbl s s (tr f))) (bS 4) (R ns b s f g ma lo) (Z5 s f g) :=
  ⟨tEx (by rfl') (vK (k:=1) (by rfl') (by rfl') (by rfl') rfl (nC (n:="a") (w:="turn") (fn:="turned") (x:=tbl s s f) (t:=tbl s s (tr f)) (by simp[N6]) (by rfl') (turned 29 h1 h2 h1 h2) (by rfl'))),
   tEx (by rfl') (vK (k:=1) (by rfl') (by rfl') (by rfl') rfl (nC (n:="b") (w:="turn") (fn:="turned") (x:=tbl s s g) (t:=tbl s s (tr g)) (by simp[N6]) (by rfl') (turned 29 h1 h2 h1 h2) (by rfl')))⟩
abbrev Z6(s:Nat)(f g:Nat->Nat->Int):Cst:=dS (Z5 s f g) "join" "d" (tbl s s (tr (mul s f g)))
abbrev Z7(s:Nat)(f g:Nat->Nat->Int):Cst:=dS (Z6 s f g) "turn" "c" (tbl s s (tr (mul s f g)))
theorem i5(hs:s=1\/s=2)(h1:1<=s)(h2:s<=4)(hf:B4 f)(hg:B4 g):TC c6 ms 60 lSc b 3 (R ns b s f g (.sh (tbl s s (mul s f g))) lo) (Z5 s f g) (bS 5) (R ns b s f g (.sh (tbl s s (mul s f g))) lo) (Z7 s f g):=by
 have e:=times (f:=tr g) (g:=tr f) 27 h1 h2 h1 h2 h1 h2 (.inl hg.t.b.sm);rw[U9] at e;have hT:∀S,EC c6 ms 60 lSc b 4 (R ns b s f g (.sh (tbl s s (mul s f g))) lo) S (match bS 5 with|.If (.BoolOp _ [.Compare _ _ [e] _,_] _) _ _ _=>e|_=>.Name "" ⟨0,0,0,0⟩) (tbl s s (tr (mul s f g))) S:=λS=>ePl (by rfl') (aD rfl (aF (x:=tbl s s (mul s f g)) (by nofun) cg) (turned 31 h1 h2 h1 h2));have hU:∀S,EC c6 ms 60 lSc b 4 (R ns b s f g (.sh (tbl s s (mul s f g))) lo) S (match bS 5 with|.If (.BoolOp _ [_,.Compare _ _ [e] _] _) _ _ _=>e|_=>.Name "" ⟨0,0,0,0⟩) (tbl s s (tr (mul s f g))) S:=λS=>ePl (by rfl') (aD rfl (aF (x:=tbl s s (mul s f g)) (by nofun) cg) (turned 31 h1 h2 h1 h2));refine Oz (by rfl') (Gv (by rfl') (VF (S1:=Z6 s f g) (Ij (S1:=Z6 s f g) (x:=tbl s s (tr (mul s f g))) (y:=tbl s s (tr (mul s f g))) (by rfl') ?_ (hT _) (neT rfl)) (Tf (Ij (S1:=Z7 s f g) (x:=tbl s s (tr (mul s f g))) (y:=tbl s s (tr (mul s f g))) (by rfl') ?_ (hU _) (neT rfl)))))
 .exact vK (k:=4) (by rfl') (by rfl') (by rfl') rfl (lu (n:="d") (a:="b") (b:="a") (w:="times") (x:=tbl s s (tr g)) (y:=tbl s s (tr f)) (t:=tbl s s (tr (mul s f g))) (by simp[N6]) (by simp[N6]) (by simp[N6]) (by rfl') (by rfl') (joT 32 e) (isT 30 h1 h2 h1 h2 λi j=>xg hs hf hg j i) (by rfl'))
 .exact vK (k:=1) (by rfl') (by rfl') (by rfl') rfl (nC (n:="c") (w:="turn") (fn:="turned") (x:=tbl s s (mul s f g)) (t:=tbl s s (tr (mul s f g))) (by simp[N6]) (by rfl') (turned 29 h1 h2 h1 h2) (by rfl'))
end
section
variable{ns:List Int}{b:Addr}{s:Nat}{f g:Nat->Nat->Int}{ma lo:Sl}
theorem i6:TC c6 ms 60 lSc b 3 (R ns b s f g ma lo) (Z7 s f g) (bS 6) (R ns b s f g ma lo) (Z8 s f g):=by
 refine Oz (by rfl') (Gv (by rfl') (VF (S1:=Z8 s f g) (Ij (S1:=Z8 s f g) (x:=.lst [.str "turn",.str "join",.str "turn",.str "turn"]) (y:=.lst [.str "turn",.str "join",.str "turn",.str "turn"]) (by rfl') ⟨[b,b,b,b],by rfl',λa h=>by simpa using h⟩ (ePl (by rfl') (by rfl')) (by rfl')) (Tf (Ij (S1:=Z8 s f g) (x:=tbl s s f) (y:=tbl s s f) (by rfl') ?_ (ePl (by rfl') (by rfl')) (neT rfl)))));refine vK (k:=1) (by rfl') (by rfl') (by rfl') rfl (f:=λS ds=>(gQ cl clx S ds).map (toM S)) (ds:=[.str "a"]) ?_;rw[mz (n:="a") (x:=tbl s s f) (by simp[N6]) (by rfl')];rfl
theorem Vh(hs:s=1\/s=2)(h1:1<=s)(h2:s<=4)(hf:B4 f)(hg:B4 g):QC c6 ms 60 lSc b 3 inB (R ns b s f g .no .no) (Z2 s f g) (R ns b s f g (.sh (tbl s s (mul s f g))) .no) (Z8 s f g):=by
 rw[Vi];exact gP (i0 hs h1 h2 hf hg) (gP (i1 hs h1 h2 hf hg) (gP (i2 hs h1 h2 hf hg) (gP (i34 h1 h2).1 (gP (i34 h1 h2).2 (gP (i5 hs h1 h2 hf hg) (gP i6 V9))))))
theorem v5(hs:s=1\/s=2)(h1:1<=s)(h2:s<=4)(hf:B4 f)(hg:B4 g):TC c6 ms 60 lSc b 4 (R ns b s f g .no .no) (Z2 s f g) (mT 5) (R ns b s f g (.sh (tbl s s (mul s f g))) .no) (Z8 s f g) :=
 W2 (by rfl') (ePl (by rfl') (aD rfl (aF (x:=tbl s s (mul s f g)) (aD rfl (aF (x:=tbl s s f) (by nofun) (aF (x:=tbl s s g) (by nofun) cg)) (times 30 h1 h2 h1 h2 h1 h2 (.inl hf.b.sm))) cg) (isT 32 h1 h2 h1 h2 (xg hs hf hg)))) (Vh hs h1 h2 hf hg)
theorem v6(hs:s=1\/s=2)(h1:1<=s)(h2:s<=4)(hf:B4 f):TC c6 ms 60 lSc b 4 (R ns b s f g ma .no) (Z8 s f g) (mT 6) (R ns b s f g ma .no) (Z9 s f g):=by
 have hF:B9 (fl s f):=λi j=>hf.b _ _;have e1:=is_good 14 (tb h1 h2 hF);rw[Le hs] at e1;refine Oz (by rfl') (Gv (by rfl') (VF (S1:=Z9 s f g) (Ij (S1:=Z9 s f g) (x:=.int (det s (fl s f))) (y:=.int (det s f)) (by rfl') (Ms (x:=tbl s s (fl s f)) (by rfl') (by rfl') ?_ (Hh h1 h2 hF)) (ePl (by rfl') (aD rfl (aF (x:=tbl s s f) (by nofun) cg) (wrt hs hf.b))) (Ku (Il hs))) (Tf (Ij (S1:=Z9 s f g) (x:=.bl (jN s s f)) (y:=.bl (jN s s f)) (by rfl') (Ms (x:=tbl s s (fl s f)) (by rfl') (by rfl') ?_ e1) (ePl (by rfl') (aD rfl (aF (x:=tbl s s f) (by nofun) cg) (is_good 14 (tb h1 h2 hf.b)))) (U3 (by simp[dep]) rfl)))))
 .exact vK (k:=1) (by rfl') (by rfl') (by rfl') rfl (nC (n:="a") (w:="flip") (fn:="flipped") (x:=tbl s s f) (t:=tbl s s (fl s f)) (by simp[N6]) (by rfl') (flipped 29 h1 h2 h1 h2) (by rfl'))
 .refine vK (k:=1) (by rfl') (by rfl') (by rfl') rfl (f:=λS ds=>(gQ cl clx S ds).map (toM S)) (ds:=[.str "a"]) ?_
  rw[mz (n:="a") (x:=tbl s s (fl s f)) (by simp[N6]) (by rfl')];rfl
theorem v7:TC c6 ms 60 lSc b 4 (R ns b s f g ma lo) (Z9 s f g) (mT 7) (R ns b s f g ma lo) (Z10 s f g) :=
 tEx (by rfl') (vK (k:=0) (ds:=[]) (f:=qj) (r:=.str "flip") (by rfl') (by rfl') (by rfl') rfl (by rfl'))
theorem v8(hs:s=1\/s=2)(h1:1<=s)(hf:B4 f):TC c6 ms 60 lSc b 4 (R ns b s f g ma .no) (Z10 s f g) (mT 8) (R ns b s f g ma (.sh (tbl (s+s) s (blw s f f)))) (Z11 s f g) :=
 tSe (by rfl') (by rfl') (vK (k:=4) (by rfl') (by rfl') (by rfl') rfl (lu (n:="e") (a:="a") (b:="a") (w:="below") (x:=tbl s s f) (y:=tbl s s f) (t:=tbl (s+s) s (blw s f f)) (by simp[N6]) (by simp[N6]) (by simp[N6]) (by rfl') (by rfl') (joL 25 hs) (isT 30 (by omega) (by omega) (by omega) (by omega) (Ng hf)) (by rfl'))) (by rfl')
theorem v9(hs:s=1\/s=2)(h1:1<=s)(h2:s<=4)(hf:B4 f)(hm:nOw ma=true){S:Cst}:TC c6 ms 60 lSc b 4 (R ns b s f g ma (.sh (tbl (s+s) s (blw s f f)))) S (mT 9) (R ns b s f g ma (.sh (tbl (s+s) s (blw s f f)))) S:=by
 have t4:Tb (s+s) s (blw s f f):=⟨by omega,by omega,h1,h2,(Ng hf).sm⟩;refine tPl (by rfl') (Ad (Vz (ρ:=R ns b s f g ma (.sh (tbl (s+s) s (blw s f f)))) (by cases ma<;>first|rfl|cases hm) (gM (Nu (jf (x:=.int (rk (s+s) s (blw s f f))) (y:=.int (rk s s f)) ?_ ?_ (Ku (DW hs))) (yu (jf (x:=row (s+s) λi=>fJ s (blw s f f i)) (y:=row (s+s) λi=>fJ s (blw s f f i)) ?_ ?_ (U3 ?_ kR))))) lD))
 .exact aD rfl (aF (x:=tbl (s+s) s (blw s f f)) (by nofun) cg) (zP 14 t4)
 .exact aD rfl (aF (x:=tbl s s f) (by nofun) cg) (zP 14 (tb h1 h2 hf.b))
 .exact xIx (i:=0) (aD rfl (aF (x:=tbl (s+s) s (blw s f f)) (by nofun) cg) (sums 31 (by omega) (by omega) h1 h2)) (by nofun) rfl rfl
 .refine d9 (x:=row s λi=>fJ s (f i)) (y:=.int 2) (xIx (i:=0) (aD rfl (aF (x:=tbl s s f) (by nofun) cg) (sums 31 h1 h2 h1 h2)) (by nofun) rfl rfl) (by nofun) ?_
  rw[show row (s+s) (λi=>fJ s (blw s f f i))=.tup ((Ls s λi=>.int (fJ s (f i)))++Ls s λi=>.int (fJ s (f i))) by rw[<- yR hs]]
  rcases hs with rfl|rfl<;>rfl
 .rcases hs with rfl|rfl<;>simp[dep,deps,Ls,List.range,List.range.loop]
theorem v10(hs:s=1\/s=2)(h1:1<=s)(h2:s<=4)(hf:B4 f):TC c6 ms 60 lSc b 4 (R ns b s f g ma lo) (Z11 s f g) (mT 10) (R ns b s f g ma lo) (Z12 s f g):=by
 refine Oz (by rfl') (Ij (S1:=Z12 s f g) (x:=tbl s (s+s) (bsd s f f)) (y:=tbl s (s+s) (bsd s f f)) (by rfl') ?_ (ePl (by rfl') (by rcases hs with rfl|rfl<;>rfl')) (neT rfl))
 exact vK (k:=4) (by rfl') (by rfl') (by rfl') rfl (lu (n:="f") (a:="a") (b:="a") (w:="beside") (x:=tbl s s f) (y:=tbl s s f) (t:=tbl s (s+s) (bsd s f f)) (by simp[N6]) (by simp[N6]) (by simp[N6]) (by rfl') (by rfl') (joB 25 hs) (isT 30 h1 h2 (by omega) (by omega) (RK hf)) (by rfl'))
theorem Uw(hf:B4 f)(hg:B4 g):B9 λi j=>f i j+g i j:=λi j=>by
 have a:=hf i j;have b:=hg i j;show -99<=f i j+g i j/\f i j+g i j<=99;omega
theorem v11(hs:s=1\/s=2)(h1:1<=s)(h2:s<=4)(hf:B4 f)(hg:B4 g):TC c6 ms 60 lSc b 4 (R ns b s f g ma lo) (Z12 s f g) (mT 11) (R ns b s f g ma lo) (Z13 s f g):=by
 refine Oz (by rfl') (Gv (by rfl') (VG (S1:=Z12 s f g) (ePl (by rfl') (aD rfl (aF (x:=tbl s s λi j=>f i j+g i j) (aD rfl (aF (x:=tbl s s f) (by nofun) (aF (x:=tbl s s g) (by nofun) cg)) (plus 31 h1 h2 h1 h2)) cg) (isT 32 h1 h2 h1 h2 (Uw hf hg)))) (Tf (Ij (S1:=Z13 s f g) (x:=.int (fJ s λi=>f i i+g i i)) (y:=.int ((fJ s λi=>f i i)+fJ s λi=>g i i)) (by rfl') (Ms (x:=tbl s s λi j=>f i j+g i j) (by rfl') (by rfl') ?_ (slant_sum 31 h1 h2)) (ePl (by rfl') (d9 (x:=.int (fJ s λi=>f i i)) (y:=.int (fJ s λi=>g i i)) (aD rfl (aF (x:=tbl s s f) (by nofun) cg) (slant_sum 31 h1 h2)) (aD rfl (aF (x:=tbl s s g) (by nofun) cg) (slant_sum 31 h1 h2)) rfl)) (Ku (wU hs))))));exact vK (k:=4) (by rfl') (by rfl') (by rfl') rfl (lu (n:="g") (a:="a") (b:="b") (w:="plus") (x:=tbl s s f) (y:=tbl s s g) (t:=tbl s s λi j=>f i j+g i j) (by simp[N6]) (by simp[N6]) (by simp[N6]) (by rfl') (by rfl') (joP 32 (plus 28 h1 h2 h1 h2)) (isT 30 h1 h2 h1 h2 (Uw hf hg)) (by rfl'))
theorem mid_ok(hs:s=1\/s=2)(hf:B4 f)(hg:B4 g):QC c6 ms 60 lSc b 4 mid (R ns b s f g .no .no) S0 (R ns b s f g (.sh (tbl s s (mul s f g))) (.sh (tbl (s+s) s (blw s f f)))) (Z13 s f g):=by
 have h1:1<=s:=by omega
 have h2:s<=4:=by omega
 rw[QK];exact gP (v3 h1 h2 hf) (gP (v4 h1 h2 hg) (gP (v5 hs h1 h2 hf hg) (gP (v6 hs h1 h2 hf) (gP v7 (gP (v8 hs h1 hf) (gP (v9 hs h1 h2 hf rfl) (gP (v10 hs h1 h2 hf) (gP (v11 hs h1 h2 hf hg) V9))))))))
end
end M92
namespace M92
open PySem DE PySem.StrLaws
def cN(m n:Nat)(f:Nat->Nat->Int):List (List Int):=(List.range m).map λi=>(List.range n).map λj=>f i j
theorem yN(m n:Nat)(f:Nat->Nat->Int):tD (cN m n f)=tbl m n f:=by
 unfold tD cN tbl Ls;simp only[H6z,Function.comp_def]
theorem jj{m n:Nat}{f:Nat->Nat->Int}(h1:1<=m)(h2:m<=4)(h3:1<=n)(h4:n<=4)(h:B9 f):TbR (cN m n f):=Tt (by
 rw[yN,yM h1 h3 h,A5z (by omega),A5z (by omega)];rfl)
theorem CV{rows:List (List Int)}(Q:TbR rows):(TTl rows).length<=68:=by
 have key:∀l:List (List Int),(∀r∈l,r.length<=4/\∀v∈r,-99<=v/\v<=99)->(TTl l).length<=17*l.length:=by
  intro l
  induction l with
  |nil=>intro _;exact I6z _
  |cons r l ih =>
   intro h;have h1:=ih λx hx=>h x (E1z _ hx);have h2:=rT (h r (by simp)).1 (h r (by simp)).2;show((rowL r++[10])++TTl l).length<=_;rw[B2z,B2z,E3z,E3z,R4z];omega
 have:=key rows λr hr=>(Q.row r hr).2;have:=Q.len;omega
theorem nTe:((List.range 199).map λi=>(cL (nT (num i))).isEmpty)=(List.range 199).map λ_=>false:=by rfl'
theorem U7{v:Int}(h1:-99<=v)(h2:v<=99):cL (nT v)≠[]:=by
 obtain⟨i,hi,rfl⟩:=uW h1 h2;intro z;have:=vg nTe hi;rw[z] at this;cases this
theorem X5{c:Nat}:∀{l:List (List Nat)},(∀a∈l,a≠[])->l≠[]->J c l≠[]
 |[],_,h=>absurd rfl h
 |[a],h,_=>h a (by simp)
 |a::b::r,h,_=>by
  show a++c::J c (b::r)≠[];simp
theorem Py{r:List Int}(hn:r≠[])(h:∀v∈r,-99<=v/\v<=99):rowL r≠[]:=X5 (λa ha=>by
 obtain⟨v,hv,rfl⟩:=List.mem_map.mp ha
 exact U7 (h v hv).1 (h v hv).2) (by simpa using hn)
abbrev Ent:=Str×List (List Int)
def bL(q:Ent):List Nat:=cL q.1++10::J 10 (q.2.map rowL)
structure Nm(q:Ent):Prop where
 tb:TbR q.2
 inN:q.1∈N6
def nmB(n:Str):Bool := !(cL n).isEmpty&&(cL n).all (λc=>c !=10)&&decide ((cL n).length<=1)
theorem nms:(N6.all nmB)=true:=by rfl'
theorem Fe{n:Str}(h:n∈N6):cL n≠[]/\10∉cL n/\(cL n).length<=1:=by
 have:=A4z.mp nms n h;unfold nmB at this;rw[J3z,J3z,A4z] at this;obtain⟨⟨h1,h2⟩,h3⟩:=this;refine⟨λz=>by rw[z] at h1;simp at h1,λz=>by have:=h2 10 z;simp at this,X2z h3⟩
theorem VL{q:Ent}(Q:Nm q):NN (bL q)=true:=by
 obtain⟨n1,n2,_⟩:=Fe Q.inN;unfold bL;rw[<- RV 10 (cL q.1) (by simpa using Q.tb.ne)];refine NN.J λa ha=>?_;rcases V5z.mp ha with rfl|ha
 .exact⟨n1,n2⟩
 .obtain⟨r,hr,rfl⟩:=List.mem_map.mp ha
  obtain⟨r1,r2,r3⟩:=Q.tb.row r hr;exact⟨Py r1 r3,row_free r3⟩
def eT(q:Ent):List Nat:=cL q.1++10::(TTl q.2++[10])
def cT(l:List Ent):List Nat:=l.flatMap eT
theorem Mr{q:Ent}(Q:Nm q):eT q=bL q++[10,10]:=by
 unfold eT bL;rw[Hf Q.tb.ne];simp
theorem RJ:∀{l:List Ent},l≠[]->(∀q∈l,Nm q)->cT l=J2 (l.map bL)++[10,10]
 |[],h,_=>absurd rfl h
 |[q],_,h=>by
  show eT q++[]=_;rw[G4z,Mr (h q (by simp))];rfl
 |q::p::r,_,h=>by
  have ih:=RJ (l:=p::r) (by simp) λx hx=>h x (E1z _ hx);show eT q++cT (p::r)=(bL q++10::10::J2 ((p::r).map bL))++[10,10];rw[ih,Mr (h q (by simp))];simp
theorem wg:∀{l:List Ent},(∀q∈l,Nm q)->(cT l).length<=71*l.length
 |[],_=>I6z _
 |q::l,h=>by
  have ih:=wg (l:=l) λx hx=>h x (E1z _ hx);have h1:=CV (h q (by simp)).tb;have h2:=(Fe (h q (by simp)).inN).2.2;show(eT q++cT l).length<=_;unfold eT;simp only[B2z,E3z,R4z];omega
theorem is_name(k:Nat):(N6.map λn=>aH T 60 (k+3) "is_name" [.str n])=N6.map λ_=>some (.bl true):=by rfl'
theorem IK{z:Str}(h:z.length<=1000):bR "partition" (.str z) (.str ⟨#[10]⟩)=some (.tup [.str (Txt.partition z ⟨#[10]⟩).1,.str (Txt.partition z ⟨#[10]⟩).2.1,.str (Txt.partition z ⟨#[10]⟩).2.2]):=by
 have e:szl z.length=true:=gZ (by omega)
 have e1:(("partition":Str)=="split")=false:=by decide +kernel
 have e2:(("partition":Str)=="endswith")=false:=by decide +kernel
 have e3:((⟨#[10]⟩:Str).length==0)=false:=rfl;simp only[bR,e,e1,e2,e3,Y4z,D2z,C7z,L3z,J5z,T5z,F7z]
theorem yK{z:Str}(h:z.length<=1000):bR "split" (.str z) (.str yy)=some (.lst ((Txt.split z yy).map D.str)):=by
 have e:szl z.length=true:=gZ (by omega);have e1:((yy:Str).length==0)=false:=rfl;simp only[bR,L3z,e,e1,J5z,T5z,F7z]
theorem Du{z:Str}:bR "endswith" (.str z) (.str yy)=some (.bl (Txt.endswith z yy)):=by
 have e:(("endswith":Str)=="split")=false:=by decide +kernel
 simp only[bR,e,Y4z,D2z,C7z,L3z,F7z]
theorem RL{q:Ent}(Q:Nm q):(bL q).length<=69:=by
 have h1:=wg (l:=[q]) λx hx=>by rw[List.mem_singleton.mp hx];exact Q
 have h2:cT [q]=eT q++[]:=rfl;rw[h2,G4z,Mr Q,B2z] at h1;simp at h1;omega
theorem read_block(k:Nat){q:Ent}(Q:Nm q):aH T 60 (k+7) "read_block" [.str (mkS (bL q))]=some (.tup [.str q.1,tD q.2]):=by
 have hl:=RL Q
 have hp:Txt.partition (mkS (bL q)) ⟨#[10]⟩=(q.1,⟨#[10]⟩,mkS (J 10 (q.2.map rowL))):=by
  rw[part1 (n:=cL q.1) (t:=J 10 (q.2.map rowL)) rfl (Fe Q.inN).2.1]
 have ht:=IK (z:=mkS (bL q)) (by show(bL q).length<=_;omega)
 rw[hp] at ht;have hn:aH T 60 (k+6) "is_name" [.str q.1]=some (.bl true):=List.map_inj_left.mp (is_name (k+3)) q.1 Q.inN
 have hj:(J 10 (q.2.map rowL)).length<=69:=by
  have:(bL q).length=(cL q.1).length+((J 10 (q.2.map rowL)).length+1):=by unfold bL;rw[B2z,E3z]
  omega
 have hT:=CV Q.tb;refine dh (fd:=aW (top 54)) rfl rfl (oh rfl (d:=.tup [.str q.1,.str ⟨#[10]⟩,.str (mkS (J 10 (q.2.map rowL)))]) (xTm (x:=.str (mkS (bL q))) (z:=.str ⟨#[10]⟩) rfl (by nofun) (by nofun) ht) (o8 (jh (aD rfl (aF (x:=.str q.1) (xIx (i:=0) (by nofun) (by nofun) rfl rfl) cg) hn)) (cV (Nt (aF (xIx (i:=0) (by nofun) (by nofun) rfl rfl) (aF (aD rfl (aF (x:=.str (TTZ q.2)) (d9 (x:=.str (mkS (J 10 (q.2.map rowL)))) (y:=.str ⟨#[10]⟩) (xIx (i:=2) (by nofun) (by nofun) rfl rfl) (by nofun) ?_) cg) (JM k (by show(TTl q.2).length<=_;omega) (Uq Q.tb))) cg)) rfl))));show(if szl ((mkS (J 10 (q.2.map rowL))).length+1)=true then some (D.str (mkS (J 10 (q.2.map rowL))++⟨#[10]⟩)) else none)=_;rw[G7z (gZ (by show(J 10 (q.2.map rowL)).length+1<=_;omega))];exact congrArg (λz=>some (D.str z)) (Gd ((iu _ _).trans (Hf Q.tb.ne).symm))
theorem read_blocks(k:Nat){l:List Ent}(hn:l≠[])(h6:l.length<=10)(hl:∀q∈l,Nm q):aH T 60 (k+8) "read_blocks" [.str (mkS (cT l))]=some (.lst (l.map λq=>.tup [.str q.1,tD q.2])):=by
 have hz:=wg hl;have e:=RJ hn hl
 have hz':(mkS (cT l)).length<=1000:=by show(cT l).length<=_;omega
 have hc:Dj (mkS (cT l)) none (some (-2))=mkS (J2 (l.map bL)):=XC e
 have hcl:(mkS (J2 (l.map bL))).length<=1000:=by
  have:=congrArg List.length e;rw[B2z] at this;show(J2 (l.map bL)).length<=_;omega
 have hs:Txt.split (mkS (J2 (l.map bL))) yy=(l.map bL).map mkS:=Ph (by simpa using hn) (λB hB=>by
  obtain⟨q,hq,rfl⟩:=List.mem_map.mp hB
  exact VL (hl q hq)) rfl
 refine dh (fd:=aW (top 55)) rfl rfl (o8 (jf (x:=.str (mkS (cT l))) (y:=.str "") (by nofun) (by nofun) ?_) (o8 (gM (Nu (jh (Od rfl rfl rfl (by nofun) rfl)) (yu (jh (xTm (x:=.str (mkS (cT l))) (z:=.str yy) rfl (by nofun) (by nofun) (by rw[Du,Vv e])))))) (cV (cW (l:=(l.map λq=>mkS (bL q)).map D.str) rfl (wSq (x:=.lst ((l.map λq=>mkS (bL q)).map D.str)) rfl (xTm (x:=.str (mkS (J2 (l.map bL)))) (z:=.str yy) rfl ?_ (by nofun) ?_) rfl) (gZ (by rw[F4z,F4z];omega)) ?_))))
 .rw[oEq (by simp[dep]) (by simp[dep]) rfl]
  congr 2;show(mkS (cT l)==("":Str))=false;rw[Q1z];intro z;have:=congrArg (λx:Str=>(cL x).length) z;have e2:=congrArg List.length e;rw[B2z] at e2;have e3:(cL (mkS (cT l))).length=(cT l).length:=rfl
  have e4:(cL ("":Str)).length=0:=by rfl'
  simp only[e4] at this;rw[e3,e2] at this;simp at this
 .have:=VR (cx:=cxN T 60 (k+7)) (n:=56) (sc:=(aW (top 55)).sc) (ρ:=[("text",.sh (.str (mkS (cT l))))]) (z:=mkS (cT l)) (l:=none) (u:=some (-2)) (a:=match jy 55 2 with|.Return (some (.ListComp _ [⟨_,.Call (.Attribute (.Subscript a _ _) _ _) _ _ _,_,_⟩] _ _)) _=>a|_=>.Name "" ⟨0,0,0,0⟩) (lo:=none) (hi:=match jy 55 2 with|.Return (some (.ListComp _ [⟨_,.Call (.Attribute (.Subscript _ (.Slice _ hi _ _) _) _ _) _ _ _,_,_⟩] _ _)) _=>hi|_=>none) (q:=match jy 55 2 with|.Return (some (.ListComp _ [⟨_,.Call (.Attribute (.Subscript _ (.Slice _ _ _ q) _) _ _) _ _ _,_,_⟩] _ _)) _=>q|_=>⟨0,0,0,0⟩) (p:=match jy 55 2 with|.Return (some (.ListComp _ [⟨_,.Call (.Attribute (.Subscript _ _ p) _ _) _ _ _,_,_⟩] _ _)) _=>p|_=>⟨0,0,0,0⟩) (by nofun) EY (Ez (Oc (i:=2) (by nofun))) (gZ (by omega))
  rw[hc] at this;exact this
 .rw[yK hcl,hs]
  simp only[H6z];rfl
 .rw[H6z]
  refine gk λq hq=>dj rfl ?_;refine' aD ?L92u_1a ?L92u_1b ?L92u_1c;(case L92u_1a=>rfl);(case L92u_1b=>walk_at "xm");(case L92u_1c=>exact read_block k (hl q hq))
end M92
namespace M92
open PySem DE L2
section
variable{ns:List Int}{b:Addr}{s:Nat}{f g:Nat->Nat->Int}
abbrev l6(s:Nat)(f g:Nat->Nat->Int):List Ent:=[("a",cN s s f),("b",cN s s g),("c",cN s s (mul s f g)),("e",cN (s+s) s (blw s f f)),("f",cN s (s+s) (bsd s f f)),("g",cN s s λi j=>f i j+g i j)]
theorem nm6(hs:s=1\/s=2)(hf:B4 f)(hg:B4 g):∀q∈l6 s f g,Nm q:=λq hq=>by
 simp only[l6,V5z,R3z,D7z] at hq;rcases hq with rfl|rfl|rfl|rfl|rfl|rfl
 .exact⟨jj (by omega) (by omega) (by omega) (by omega) hf.b,by simp[N6]⟩
 .exact⟨jj (by omega) (by omega) (by omega) (by omega) hg.b,by simp[N6]⟩
 .exact⟨jj (by omega) (by omega) (by omega) (by omega) (xg hs hf hg),by simp[N6]⟩
 .exact⟨jj (by omega) (by omega) (by omega) (by omega) (Ng hf),by simp[N6]⟩
 .exact⟨jj (by omega) (by omega) (by omega) (by omega) (RK hf),by simp[N6]⟩
 .exact⟨jj (by omega) (by omega) (by omega) (by omega) (Uw hf hg),by simp[N6]⟩
def jw(l:List Ent):List (Str×D):=l.map λq=>(q.1,tD q.2)
theorem Jb:(Z13 s f g).tabs=jw (l6 s f g):=by
 refine(Gu (uL s s f) (uL s s g) (uL s s (mul s f g)) (uL s s (tr f)) (uL s s (tr g)) (uL s s (tr (mul s f g))) (uL s s (fl s f)) (uL (s+s) s (blw s f f)) (uL s (s+s) (bsd s f f)) (uL s s λi j=>f i j+g i j)).trans ?_;show _=[(("a":Str),tD (cN s s f)),("b",tD (cN s s g)),("c",tD (cN s s (mul s f g))),("e",tD (cN (s+s) s (blw s f f))),("f",tD (cN s (s+s) (bsd s f f))),("g",tD (cN s s λi j=>f i j+g i j))];simp only[yN];rfl
theorem Wj{S:Cst}(h:S.tabs=jw (l6 s f g)):∀q∈l6 s f g,gQ cl clx S [.str q.1]=some (.inl (tD q.2)):=λq hq=>by
 have hn:q.1∈N6:=by
  simp only[l6,V5z,R3z,D7z] at hq
  rcases hq with rfl|rfl|rfl|rfl|rfl|rfl<;>simp[N6]
 refine mz hn ?_;rw[h];simp only[l6,V5z,R3z,D7z] at hq
 rcases hq with rfl|rfl|rfl|rfl|rfl|rfl<;>rfl'
theorem names6{S:Cst}(h:S.tabs=jw (l6 s f g)):fO S []=some (.inl (.lst ((l6 s f g).map λq=>.str q.1))):=by
 unfold fO;rw[h];rfl'
theorem Vg{ts:List Str}{B:Nat}(hB:∀y∈ts,y.length<=B)(h:ts.length*B<=16777216):JoinOk ("":Str) ts=true/\Txt.join ("":Str) ts=mkS (ts.flatMap cL):=by
 have q:=ur hB h
 have e:("":Str)=⟨#[]⟩:=by rfl'
 rw[e]
 have q2:bR "join" (.str ⟨#[]⟩) (.lst (ts.map D.str))=(m9 (ts.map D.str)).bind λts=>if JoinOk ⟨#[]⟩ ts then some (.str (Txt.join ⟨#[]⟩ ts)) else none:=by
  simp only[bR,L3z,F7z]
 rw[q2,jV,Z3z] at q;split at q
 .rename_i hj
  exact⟨hj,D.str.inj (C4z q)⟩
 .cases q
theorem Rr{S:Cst}(h:S.tabs=jw (l6 s f g)){q:Ent}(hq:q∈l6 s f g)(Q:Nm q):txG cl (aH T 60 36) clx S (.str q.1)=some (.str (mkS (eT q))):=by
 have h1:=CV Q.tb;have h2:=(Fe Q.inN).2.2
 have en:cL nl=[10]:=by rfl'
 have ln:nl.length=1:=by rfl'
 have l1:(q.1:Str).length<=1:=h2;have lt:(TTZ q.2).length<=68:=h1
 have la:∀x y:Str,(x++y).length=x.length+y.length:=λx y=>by rw[f9,f9,f9,iu,B2z]
 unfold txG;dsimp only;rw[Wj h q hq];dsimp only;rw[table_text 31 Q.tb];dsimp only;rw[gZ (by omega),gZ (by rw[la];omega),gZ (by rw[la,la];omega)];refine congrArg (λz=>some (D.str z)) (Gd ?_);rw[iu,iu,iu,en];show cL q.1++[10]++TTl q.2++[10]=_;unfold eT;simp
theorem Ja{S:Cst}(h:S.tabs=jw (l6 s f g))(hQ:∀q∈l6 s f g,Nm q):Ao cl (aH T 60 36) clx S []=some (.inl (.str (mkS (cT (l6 s f g))))):=by
 unfold Ao;dsimp only;rw[names6 h]
 have e:aU (λd=>(txG cl (aH T 60 36) clx S d).map some) ((l6 s f g).map λq=>D.str q.1)=some ((l6 s f g).map λq=>D.str (mkS (eT q))):=gk λq hq=>by rw[Rr h hq (hQ q hq)];rfl
 obtain⟨j1,j2⟩:=Vg (ts:=(l6 s f g).map λq=>mkS (eT q)) (B:=71) (λy hy=>by
  obtain⟨q,hq,rfl⟩:=List.mem_map.mp hy
  have:=wg (l:=[q]) λx hx=>by rw[List.mem_singleton.mp hx];exact hQ q hq
  have h2:cT [q]=eT q++[]:=rfl;rw[h2,G4z] at this
  exact this) (by rw[F4z];show 6*71<=_;decide)
 dsimp only;rw[G7z (gZ (by rw[F4z];show 6<=_;decide)),e,Z3z]
 have e2:((l6 s f g).map λq=>D.str (mkS (eT q)))=((l6 s f g).map λq=>mkS (eT q)).map D.str:=by rw[H6z];rfl
 rw[e2,jV,Z3z,G7z j1,j2,List.flatMap_map];rfl
end
section
variable{ns:List Int}{b:Addr}{s:Nat}{f g:Nat->Nat->Int}
theorem Qf(ns:List Int):∃s:Nat,(s=1\/s=2)/\DE.lV (λρ x=>DE.st c6 60 60 lSc ρ x) ((aL (top 84)).take 2) (DE.bD (aW (top 84)) [scr ns])=some (.nxt (rho ns (.sh (.int s)) (.sh (tbl s s (rK ns 10))) (.sh (tbl s s (rK ns 60))) .no .no .no .no)):=by
 have hm:=nP (ns:=ns) (k:=0) (many:=2) (by decide);obtain⟨s,es⟩:∃s,s=1+pickN ns 0 2:=⟨_,rfl⟩;refine⟨s,by omega,?_⟩
 have key:blk c6 60 60 lSc ((aL (top 84)).take 2) (rho ns .no .no .no .no .no .no .no)=some (.nxt (rho ns (.sh (.int s)) (.sh (tbl s s (rK ns 10))) (.sh (tbl s s (rK ns 60))) .no .no .no .no)):=by
  refine oh rfl (d:=.int s) (Df (d9 (x:=.int 1) (y:=.int ((pickN ns 0 2:Nat):Int)) (by nofun) (aD rfl (aF (x:=scr ns) (by nofun) (aF (x:=.int 0) (by nofun) (aF (x:=.int 2) (by nofun) cg))) (pick 34 ns 0 (many:=2) (by decide))) rfl) (congrArg D.int (by omega))) ?_;refine gTup (d:=.tup [tbl s s (rK ns 10),tbl s s (rK ns 60)]) (ρ':=rho ns (.sh (.int s)) (.sh (tbl s s (rK ns 10))) (.sh (tbl s s (rK ns 60))) .no .no .no .no) rfl (Nt (aF (aD rfl (aF (x:=scr ns) (by nofun) (aF (x:=.int 10) (by nofun) (aF (x:=.int s) (by nofun) (aF (x:=.int s) (by nofun) cg)))) (table 33 ns 10 (by omega) (by omega))) (aF (aD rfl (aF (x:=scr ns) (by nofun) (aF (x:=.int 60) (by nofun) (aF (x:=.int s) (by nofun) (aF (x:=.int s) (by nofun) cg)))) (table 33 ns 60 (by omega) (by omega))) cg)) rfl) rfl rfl lD
 exact key
end
section
variable{P:Program}{w:World}{K:Zf}{mg:Str->Option Value}{C fI:Addr}{fdI:FuncData}
theorem Tq(TX:Text w K mg T)(Y:CaseTxt K mg C)(base:Heap):∃a g,mg "case_text"=some (.ref a)/\W.keepIn K (.ref a)=true/\Binds K g (aW (top 53)).ps []/\FnOk P w K mg base (CX1 P w) 39 a g (aW (top 53)).ps (spR K C 0 (Ao cl (T.cx (aR T 60 36)).call clx)):=by
 have FA:=TX.fns "case_text" (aW (top 53)) (by rfl');obtain⟨nm,t,a,g,m1,m2,m3,m4,m5⟩:=FA.ex;have GN:=jC (Vp (P:=P) TX Y) (show 1<=36 by omega);have GT:=jC (Vn (P:=P) TX Y) (show 35<=36 by omega);exact⟨a,g,m1,m2.kp,m3,(wO (k:=36) (F:=60) (fd:=aW (top 53)) (ρ1:=λp d=>[(".0",.no),("name",.sh d),("table_text",.no),("case",.sh (.obj p))]) TX m2 (m4.symm.trans (show(aW (top 53)).body=_ from rfl)) m5 FA.fs rfl (λp=>by rfl') (λ_ _=>rfl) rfl (by rfl') (by rfl') (by rfl') Y.t.cl GN GT (λp=>by rfl') (λp d=>by rfl') (λp d=>by rfl') (λp d=>by rfl') (λρ=>by rfl') (λρ=>by rfl')).mono (by omega)⟩
end
abbrev rSc:Scope:=(aW (top 56)).sc
def PL(z b n:Sl):Rho:=[("text",z),("blocks",b),("names",n),("case",.no)]
def U5:List D:=[.str "a",.str "b",.str "c",.str "e",.str "f",.str "g"]
def bl6(t1 t2 t3 t4 t5 t6:D):List D:=[.tup [.str "a",t1],.tup [.str "b",t2],.tup [.str "c",t3],.tup [.str "e",t4],.tup [.str "f",t5],.tup [.str "g",t6]]
theorem pre2(z t1 t2 t3 t4 t5 t6:D):DE.lV (λρ s=>DE.st c6 60 60 rSc ρ s) (((aW (top 56)).body.drop 1).take 2) (PL (.sh z) (.sh (.lst (bl6 t1 t2 t3 t4 t5 t6))) .no)=some (.nxt (PL (.sh z) (.sh (.lst (bl6 t1 t2 t3 t4 t5 t6))) (.ow U5))):=by rfl'
open Classical in
def rdF(z:D)(tabs:List (Str×D))(d:D):Option (List (Str×D)):=if d=z then some tabs else none
theorem Ul:(aW (top 56)).body=(aW (top 56)).body.take 3++[(aW (top 56)).body.getD 3 (.Pass ⟨0,0,0,0⟩),(aW (top 56)).body.getD 4 (.Pass ⟨0,0,0,0⟩),(aW (top 56)).body.getD 5 (.Pass ⟨0,0,0,0⟩)]:=by rfl'
section
variable{P:Program}{w:World}{K:Zf}{mg:Str->Option Value}{C fI:Addr}{fdI:FuncData}{s:Nat}{f g:Nat->Nat->Int}
theorem Qe(hQ:∀q∈l6 s f g,Nm q):DE.lV (λρ x=>DE.st c6 60 60 rSc ρ x) ((aW (top 56)).body.take 3) (DE.bD (aW (top 56)) [.str (mkS (cT (l6 s f g)))])=some (.nxt (PL (.sh (.str (mkS (cT (l6 s f g))))) (.sh (.lst ((l6 s f g).map λq=>.tup [.str q.1,tD q.2]))) (.ow U5))):=by
 have k2:=pre2 (.str (mkS (cT (l6 s f g)))) (tD (cN s s f)) (tD (cN s s g)) (tD (cN s s (mul s f g))) (tD (cN (s+s) s (blw s f f))) (tD (cN s (s+s) (bsd s f f))) (tD (cN s s λi j=>f i j+g i j));have e:((l6 s f g).map λq=>D.tup [.str q.1,tD q.2])=bl6 (tD (cN s s f)) (tD (cN s s g)) (tD (cN s s (mul s f g))) (tD (cN (s+s) s (blw s f f))) (tD (cN s (s+s) (bsd s f f))) (tD (cN s s λi j=>f i j+g i j)):=rfl;have hr:=read_blocks 28 (l:=l6 s f g) (by simp) (by simp) hQ;rw[e] at hr ⊢;generalize mkS (cT (l6 s f g))=z at hr k2 ⊢;generalize bl6 (tD (cN s s f)) (tD (cN s s g)) (tD (cN s s (mul s f g))) (tD (cN (s+s) s (blw s f f))) (tD (cN s (s+s) (bsd s f f))) (tD (cN s s λi j=>f i j+g i j))=L at hr k2 ⊢
 have key:blk c6 60 60 rSc ((aW (top 56)).body.getD 0 (.Pass ⟨0,0,0,0⟩)::((aW (top 56)).body.drop 1).take 2) (PL (.sh (.str z)) .no .no)=some (.nxt (PL (.sh (.str z)) (.sh (.lst L)) (.ow U5))) :=
  Nb rfl rfl rfl (d:=.lst L) (aD rfl (aF (x:=.str z) (by nofun) cg) hr) k2
 exact key
theorem Uk(TX:Text w K mg T)(Y:CaseTxt K mg C)(MK:Mk K C fI)(FI:Fun K "__init__" "Case.__init__" zJ fI fdI)(hQ:∀q∈l6 s f g,Nm q)(base:Heap):∃a gg,mg "read_case"=some (.ref a)/\W.keepIn K (.ref a)=true/\Binds K gg (aW (top 56)).ps []/\FnOk P w K mg base (CX1 P w) 39 a gg (aW (top 56)).ps (zu K C (rdF (.str (mkS (cT (l6 s f g)))) (jw (l6 s f g)))):=by
 have FA:=TX.fns "read_case" (aW (top 56)) (by rfl');obtain⟨nm,t,a,gg,m1,m2,m3,m4,m5⟩:=FA.ex;refine⟨a,gg,m1,m2.kp,m3,(wY (k:=33) (F:=60) (fd:=aW (top 56)) (x:="case") (y:="blocks") (pre:=(aW (top 56)).body.take 3) TX m2 Y.t (m4.symm.trans Ul) m5 FA.fs rfl (TX.blt "dict" "dict" (by rfl')).1 (by rfl') (by rfl') MK (FI.binds λ_ _ _ _ _ _ us hl=>by obtain⟨_,rfl⟩:=len1 hl;rfl) (Ae FI Y.t) (by rfl') (by rfl') λd tabs hd=>?_).mono (by omega)⟩;unfold rdF at hd;split at hd
 .rename_i e
  subst e;cases hd;rw[Cd];refine⟨_,Qe hQ,λb=>⟨?_,λq=>by rfl',by rfl',by rfl'⟩⟩;unfold jw;rw[H6z];rfl'
 .cases hd
end
section
variable{s:Nat}{f g:Nat->Nat->Int}
theorem Hl{S:Cst}(h:S.tabs=jw (l6 s f g)):aU (λd=>(Jc cl clx S d).map some) ((l6 s f g).map λq=>D.str q.1)=some ((l6 s f g).map λq=>tD q.2):=gk λq hq=>by
 unfold Jc;rw[Wj h q hq];rfl
theorem kD{r r':List (List Int)}:gw (tD r) (tD r')=true:=by
 refine dF λa ha b hb=>?_;obtain⟨i,_,rfl⟩:=List.mem_map.mp ha;obtain⟨j,_,rfl⟩:=List.mem_map.mp hb;refine dF λa ha b hb=>?_;obtain⟨i,_,rfl⟩:=List.mem_map.mp ha;obtain⟨j,_,rfl⟩:=List.mem_map.mp hb;rfl
theorem kDs{l:List (Str×List (List Int))}:gw (.lst (l.map λq=>tD q.2)) (.lst (l.map λq=>tD q.2))=true:=by
 refine dF λa ha b hb=>?_;obtain⟨i,_,rfl⟩:=List.mem_map.mp ha;obtain⟨j,_,rfl⟩:=List.mem_map.mp hb;exact kD
theorem eq_self:cmpop .Eq (.lst ((l6 s f g).map λq=>tD q.2)) (.lst ((l6 s f g).map λq=>tD q.2))=some (.bl true):=by
 have hd:dep (.lst ((l6 s f g).map λq=>tD q.2))<=3:=by
  have:=iB (b:=2) (l:=(l6 s f g).map λq=>tD q.2) λd hd=>by
   obtain⟨q,_,rfl⟩:=List.mem_map.mp hd;exact yO
  simp only[dep];omega
 rw[oEq (by omega) (by omega) (by exact kDs),tL _ (by omega)]
end
theorem JG:(aL (top 84)).drop 12=[mT 12,mT 13]:=by rfl'
def rA(p:Addr)(d:D):Rho:=[(".0",.no),("_law_name",.sh d),("_law_again",.sh (.obj p))]
def rC(p:Addr)(d:D):Rho:=[(".0",.no),("_law_name",.sh d),("_law_case",.sh (.obj p))]
theorem finK{l:W.OpenLaw}{w:World}{K:Zf}{h:Heap}{mg:Str->Option Value}{fa C fI:Addr}{fdI:FuncData}(TX:Text w K mg T)(Y:CaseTxt K mg C)(MK:Mk K C fI)(FI:Fun K "__init__" "Case.__init__" zJ fI fdI)(X:K.In h)(G:h.Ns mainGlobals mg)(hfa:mg "law"=some (.ref fa))(f:Addr)(dc pm cd:Value)(a:W.nsIn K mainGlobals "law"=some (some (.ref f)))
  (lk:K.lookup f=some ⟨.type "function",none,.func (W.fnOf "law" "law" (cC (top 84)) (aL (top 84)) (aB (top 84)) .none .none dc pm none cd .none),#[]⟩) (c:W.codeIn K cd "law"=true) (kp:W.keepIn K (.ref f)=true) :
  ∃fd:FuncData,(∀(s:Shared)(v:Value),BindsTo s fd ⟨[v],[]⟩ [("_law_script",v)])/\∀base:Heap,K.In base->base.Ns mainGlobals mg->FnOk l.prog w K mg base CX0 40 fa fd ["_law_script"] (pC K):=by
 have e:=hfa.symm.trans (X5z X G a);cases e;refine⟨_,λs v=>.of_eq (b84 .none dc pm none cd .none [v] rfl),λbase _ _=>?_⟩;refine K3 (P:=l.prog) (k:=33) (F:=60) (fd:=aW (top 84)) (t:=top 84) (ms:=ms) (x:="_law_case") (pre:=(aL (top 84)).take 2) (mid:=mid) (rest:=(aL (top 84)).drop 12) TX (fun_mk lk c kp) Y.t Nf rfl (Rf (by decide +kernel)) rfl (by rfl') MK (FI.binds λ_ _ _ _ _ _ us hl=>by obtain⟨_,rfl⟩:=len1 hl;rfl) (Ae FI Y.t) (RD TX Y) (by rfl') (by rfl') λns hl=>?_;obtain⟨s,hs,hp⟩:=Qf ns;rw[Cd];refine⟨_,hp,λb=>?_⟩;obtain⟨as,hm,ha⟩:=mid_ok (ns:=ns) (b:=b) hs (wz (ns:=ns) (a:=10)) (wz (ns:=ns) (a:=60));refine⟨as,_,_,hm,ha,λX D0 σ Hs0 H0 Hs H d dn un eP ew eK em eb GK hN S0 hd kr=>?_⟩;have hQ:=nm6 hs (wz (ns:=ns) (a:=10)) (wz (ns:=ns) (a:=60));have ht:=Jb (s:=s) (f:=rK ns 10) (g:=rK ns 60)
 have TX':Text X.w X.K X.mg T:=by rw[ew,eK,em];exact TX
 have Y':CaseTxt X.K X.mg C:=by rw[eK,em];exact Y
 have MK':Mk X.K C fI:=by rw[eK];exact MK
 have FI':Fun X.K "__init__" "Case.__init__" zJ fI fdI:=by rw[eK];exact FI
 obtain⟨a1,g1,t2,t3,t4,t5⟩:=Tq (P:=X.prog) TX' Y' X.base;obtain⟨a2,g2,u2,u3,u4,u5⟩:=Uk (P:=X.prog) TX' Y' MK' FI' hQ X.base;rw[JG];refine Rt (k:=36) (T:=T) (F:=60) (ms:=ms) (z:="_law_again") (call:=cl) (callx:=clx) (ρ1:=rA) (ρ2:=λ_=>rC b) GK hN (by rfl') (by rfl') (by rfl') (by rfl') (jC (Vp (P:=X.prog) TX' Y') (by omega)) (jC (Vn (P:=X.prog) TX' Y') (by omega)) (by rfl') t2 t3 t4 t5 (by rfl') u2 u3 u4 u5 (by rfl') (by rw[Cd];exact Ja ht hQ) (G7z rfl) (λp=>by rfl') (λp=>by rfl') (λp d=>by rfl') (λp d=>by rfl') (λp d=>by rfl') (λp d=>by rfl') (names6 ht) (by rfl') (Hl rfl) (Hl ht) eq_self S0 hd kr
end M92
noncomputable section
namespace HS
open PySem PySem.W
theorem goT{p:Program}{w:World}{m:Nat}{a:Option Value}{n:Nat}{x y:Shared}{u:Thread}{c:Code}{o:Pos}{l:List Frame}(h:Fast.tw15667345088766844465 Fast.tw14364793385576792824 p w m a n x u=some (y,⟨Fast.tw11892475500146522536 Fast.tw14364793385576792824 c,c,o,l⟩)):topGo treeTable p w m a n x u=some (y,⟨denote treeTable c,c,o,l⟩):=by
 rw[Fast.te15667345088766844465,B0z,Fast.te11892475500146522536];exact h
theorem Xd{p:Program}{w:World}{m:Nat}{a:Option Value}{k n:Nat}{x:Shared}{u:Thread}{y:Option (Flow×Shared×Code×Pos)}(h:Fast.tw14374325043358763698 Fast.tw14364793385576792824 p w m a k n x u=y):segRun treeTable p w m a k n x u=y:=by
 rw[Fast.te14374325043358763698,B0z];exact h
theorem wX{p:Program}{w:World}{m:Nat}{a:Option Value}{k n:Nat}{x:SharedT}{u:Thread}{y:Option (Flow×SharedT×Code×Pos)}(h:Fast.tw10110043849684766642 Fast.tw14364793385576792824 p w m a k n x u=y):segRunT treeTable p w m a k n x u=y:=by
 rw[Fast.te10110043849684766642,B0z];exact h
theorem WK{p:Program}{w:World}{m:Nat}{a:Option Value}{n:Nat}{x:Shared}{u:Thread}{y:Option Shared}(h:Fast.tw14082659384304107361 Fast.tw14364793385576792824 p w m a n x u=y):topRun treeTable p w m a n x u=y:=by
 rw[Fast.te14082659384304107361,B0z];exact h
theorem Uj{p:Program}{w:World}{m:Nat}{a:Option Value}{n:Nat}{x:Shared}{b l:List Stmt}{E:Env}{c:Code}{o:Pos}{B:List Frame}{y:Option Shared}(e:b=l)(h:topRun treeTable p w m a n x (restOf l E c o B)=y):topRun treeTable p w m a n x (restOf b E c o B)=y:=by
 rw[e];exact h
end HS
namespace H92
open PySem PySem.W HS
noncomputable abbrev p:Program:=PySem.Challenge.pw_minortables_k92_whole_cases_and_minors
abbrev q:Program:=W.view p [0,2,3,4,5,6,7,9,10,11,12,13,14,15,16,17,18,19,20,22,23,24,25,26,27,28,29,30,31,32,33,34,35,37,38,40,41,42,43,44,45,47,48,49,50,51,52,53,54,55,56,58,59,60,61,62,63,64,65,66,67,68,69,70,71,73,74,76,77,78,80,81,82,83,84]
abbrev N:Nat:=7820
noncomputable abbrev lo:List Str:=[]
abbrev z:Value:=.none
noncomputable abbrev r(a:Nat):Value:=.ref a
noncomputable abbrev i(a:Int)(n:Nat):Value:=.int a n
abbrev s(x:Str)(n:Nat):Value:=.str x n
abbrev t(x:String):Value:=.type x
abbrev b(x:String):Value:=.builtin x
abbrev e(P:Params)(x:Str)(n:Nat)(v:Value):DictEntry:=⟨PyData.keyHash P x,.str x n,v⟩
def d(j:Nat):Stmt:=p.main.body.getD j (.Pass ⟨0,0,0,0⟩)
def m(j k:Nat):Stmt:=match d j with|.ClassDef _ _ _ l .. =>l.getD k (.Pass ⟨0,0,0,0⟩)|x=>x
def f(x:Stmt)(qn:Str)(g:Nat)(dV kV dc pm cd ct:Value):FuncData:=match x with|.FunctionDef n a l _ _ _ sc .. =>⟨n,qn,a,.stmts l,sc,g,[],dV,kV,dc,pm,none,cd,ct,0⟩|_=>default
def y:Obj:=⟨.type "tuple",none,.seq #[] 0,#[]⟩
noncomputable def x:Obj:=⟨.none,none,.fields #[],#[]⟩
noncomputable def tnV:List Str->Nat->List Value|[],_=>[]|a::l,k=>.str a k::tnV l (k+1)
def tn(l:List Str)(k:Nat):Obj:=⟨.type "tuple",none,.seq (tnV l k).toArray 0,#[]⟩
def g(a:Stmt)(n:Str):Obj:=⟨.none,none,.func (f a n 0 z z z z z z),#[]⟩
def u(a:Stmt)(n:Str)(pm:Value)(c:Nat):Obj:=⟨.type "function",none,.func (f a n 3 z z z pm (r c) z),#[]⟩
def c(n:Str)(k:Nat)(l a fl:Int)(q:Nat)(bb:Bool)(h:Int)(q':Nat)(v w v':Value)(k':Nat):Obj:=⟨.type "code",none,.fields #[s n k,s n (k+1),s "/claim/cut.py" (k+2),i l 0,i a 0,i 0 0,i 0 0,i fl 0,r q,.bool bb,i h 0,r q',z,v,w,v',i k' 0,i l 0,s "/claim/cut.py" (k'+1)],#[]⟩
def c2(n m:Str)(k:Nat)(l a fl:Int)(q:Nat)(bb:Bool)(h:Int)(q':Nat)(v w v':Value)(k':Nat):Obj:=⟨.type "code",none,.fields #[s n k,s m (k+1),s "/claim/cut.py" (k+2),i l 0,i a 0,i 0 0,i 0 0,i fl 0,r q,.bool bb,i h 0,r q',z,v,w,v',i k' 0,i l 0,s "/claim/cut.py" (k'+1)],#[]⟩
def I(t:BT):Nat->List Obj->BT|_,[]=>t|n,o::l=>I (t.ins n o) (n+1) l
structure Pl where
 (j b k:Nat) (ns ws:List Str)
def Pl.v(p:Pl):Bool:=p.ns.isEmpty
def Pl.c(p:Pl):Nat:=p.b+if p.v then 3 else 5
def Pl.e(p:Pl):Nat:=p.k+3+p.ns.length+p.ws.length
def pls:Nat->Nat->Nat->List (List Str×List Str)->List Pl
 |_,_,_,[]=>[]
 |j,b,k,(ns,ws)::l=>⟨j,b,k,ns,ws⟩::pls (j+1) (Pl.c ⟨j,b,k,ns,ws⟩+2) (Pl.e ⟨j,b,k,ns,ws⟩+3) l
def nmS:Stmt->Str×Nat×Nat|.FunctionDef n a _ _ _ _ _ _ _ o=>(n,a.args.length,o.line)|_=>("",0,0)
def fo(st:Nat->Stmt)(q:Str)(mt:Value)(p:Pl):List Obj :=
 let G:=st p.j;let h:=nmS G;let n:=q++h.1
 [y,x]++(if p.v then[] else[tn p.ns (p.k+3),tn p.ws (p.k+3+p.ns.length)])++[g G n,c2 h.1 n p.k h.2.2 h.2.1 3 p.b true 181 (p.b+1) (if p.v then z else r (p.b+2)) (if p.v then z else r (p.b+3)) (r (p.c-1)) p.e,u G n mt p.c]
def fe(P:Params)(st:Nat->Stmt)(p:Pl):DictEntry:=e P (nmS (st p.j)).1 (p.e+2) (r (p.c+1))
def fw(st:Nat->Stmt)(p:Pl):List Value:=[i (nmS (st p.j)).2.2 0,i 0 0,r p.c]
def fa(p:Pl):List Nat:=p.b::(if p.v then[] else[p.b+2,p.b+3])++[p.c,p.c+1]
def xn:List Str:=["NoTable","NoFit","NoText","NoName","NoBack"]
def R0:List Pl:=pls 0 15 187 [(["k"],[])]
def R1:List Pl:=pls 10 95 298 [(["thing"],[]),(["thing","least","most"],[]),(["thing"],[]),([],[]),(["table","told","row"],[]),([],[]),(["table"],[]),(["thing"],[]),(["table"],[]),(["one","other"],[]),(["thing","most"],[])]
def R2:List Pl:=pls 23 168 383 [([],[]),([],[]),([],[]),([],[]),(["table"],[]),([],[]),([],[]),([],[]),([],[]),([],[]),([],[]),([],[]),([],[])]
def R3:List Pl:=pls 37 235 464 [(["one","other"],[]),(["one","other"],[])]
def R4:List Pl:=pls 40 249 482 [(["number","far","pieces"],[]),([],[]),([],[]),([],[]),([],[]),([],[])]
def R5:List Pl:=pls 49 281 527 [([],[]),(["thing"],[]),(["word","one","other"],[])]
def R6:List Pl:=pls 0 307 561 [(["self"],[]),(["self","name","table"],[]),(["self","word","name","table"],[]),(["self","name","table","had"],[]),(["self","name"],[]),(["self","name","table"],[]),(["self","name","word","one","other","table"],[]),(["self","name","table"],[]),(["self","name","table"],[]),(["self"],[]),(["self","some","others","place","step"],[]),(["self"],[]),(["self"],[]),(["self"],[]),(["self"],[])]
def R7:List Pl:=pls 53 419 701 [([],[]),(["block","parts"],[]),([],[]),([],[])]
def R8:List Pl:=pls 58 441 729 [([],[]),([],[]),(["table","row","column"],[]),(["table","row","column","worth"],[]),([],[]),([],[]),(["many","size","told","length","longer","places"],[]),(["table"],[]),(["table","rows","told","columns"],[]),(["table","size","told","rows"],[]),(["table","told","size"],[]),(["table"],[]),(["table"],[]),([],[])]
def R9:List Pl:=pls 73 529 842 [([],[]),(["table"],[])]
def R10:List Pl:=pls 76 541 857 [([],[]),(["table"],[]),([],[])]
def R11:List Pl:=pls 80 558 878 [(["_law_script","_law_k"],[]),(["_law_script","_law_k","_law_many","_law_drawn"],[]),([],[]),([],[]),([],[])]
def bm(n:String)(v:Value):Obj:=⟨t "builtin_function_or_method",none,.fields #[b n,v],#[]⟩
def su(a:Nat):Obj:=⟨t "super",none,.fields #[r a,r a,r a],#[]⟩
def es(P:Params):List DictEntry:=[e P "__doc__" 166 z,e P "__package__" 167 z,e P "__loader__" 168 (b "__main__.__loader__#opaque"),e P "__spec__" 169 z,e P "__annotations__" 170 (r 6),e P "__builtins__" 171 (r 4),e P "__file__" 173 (s "/claim/cut.py" 172),e P "__cached__" 174 z]++R0.map (fe P d)++[e P "MinorError" 213 (r 31)]++(xn.zipIdx.map λq=>e P q.1 (229+16*q.2) (r (44+12*q.2)))++[e P "MOST_LINES" 297 (i 4 296)]++R1.map (fe P d)++[e P "MOST_NUMBER" 382 (i 99 381)]++R2.map (fe P d)++R3.map (fe P d)++R4.map (fe P d)++[e P "LETTERS" 524 (s "abcdefghijklmnopqrstuvwxyz" 523),e P "MOST_LETTERS" 526 (i 4 525)]++R5.map (fe P d)++[e P "Case" 700 (r 414)]++R7.map (fe P d)++R8.map (fe P d)++R9.map (fe P d)++R10.map (fe P d)++R11.map (fe P d)
def og(k n:Nat)(v:Value)(P:Params):Obj:=⟨.type "dict",none,.dict ((e P "__name__" 165 v::es P).take k).toArray n,#[]⟩
def fv:List Value:=R0.flatMap (fw d)++[(i 5 0),(i 0 0),(r 27)]++((List.range 5).flatMap λ(q:Nat)=>[i (7+2*q:Nat) 0,i 0 0,r (40+12*q)])++R1.flatMap (fw d)++R2.flatMap (fw d)++R3.flatMap (fw d)++R4.flatMap (fw d)++R5.flatMap (fw d)++[(i 149 0),(i 0 0),(r 305)]++R7.flatMap (fw d)++R8.flatMap (fw d)++R9.flatMap (fw d)++R10.flatMap (fw d)++R11.flatMap (fw d)
def o12(n:Nat):Obj:=⟨z,none,.fields (fv.take n).toArray,#[]⟩
def o31(n:Nat):Obj:=⟨(t "type"),none,(.cls ⟨"MinorError",[(t "ValueError")],[(r 31),(t "ValueError"),(t "Exception"),(t "BaseException"),(t "object")],30,"MinorError",true,[],((List.range n).map λ(q:Nat)=>r (44+12*q)),false,none,false⟩),#[some (r 22),none,some (s "MinorError" 196),some (s "MinorError" 204),some (b "ValueError.__new__"),some (.bool true)]⟩
def xb(P:Params)(q:Str×Nat):List Obj :=
 let n:=q.1;let a:=35+12*q.2;let k:=214+16*q.2;let l:Int:=(7+2*q.2:Nat);let mo:=s "minortables.errors" 194
 [⟨t "tuple",none,.seq #[r 31] 0,#[]⟩,bm "type.__prepare__" (t "type"),⟨t "dict",none,.dict #[e P "__module__" (k+7) mo,e P "__qualname__" (k+9) (s n (k+8)),e P "__firstlineno__" (k+11) (i l (k+10)),e P "__static_attributes__" (k+12) (r (a+7))] 4,#[]⟩,y,x,
  c n (k+2) l 0 0 (a+3) false 181 (a+4) z z z (k+5),⟨t "frame",none,.plain,#[some (r (a+5)),some (r 3),some (r (a+2)),none,some mo,none,some (r 0)]⟩,y,⟨t "dict",none,.dict #[e P "__module__" (k+7) mo,e P "__firstlineno__" (k+11) (i l (k+10)),e P "__static_attributes__" (k+12) (r (a+7)),e P "__doc__" (k+13) z] 2,#[]⟩,
  ⟨t "type",none,.cls ⟨n,[r 31],[r (a+9),r 31,t "ValueError",t "Exception",t "BaseException",t "object"],a+8,n,true,[],[],false,none,false⟩,#[some (r a),none,some (s n k),some (s n (k+8)),some (b "ValueError.__new__"),some (.bool true)]⟩,su (a+9),bm "object.__init_subclass__" (r (a+9))]
def ini(P:Params):List Obj:=[boot_o_0 P,boot_o_1 P,boot_o_2 P,boot_o_3 P,boot_o_4 P,boot_o_5 P,boot_o_6 P,boot_o_7 P,boot_o_8 P,boot_o_9 P,boot_o_10 P,y,o12 0,c "<module>" 182 1 0 0 11 false 181 12 z z z 185,⟨(t "frame"),none,.plain,#[some (r 13),some (r 3),some (r 3),none,some (s "__main__" 164),none,some (r 0)]⟩]++R0.flatMap (fo d "" (s "__main__" 164))++[⟨(t "tuple"),none,(.seq #[(t "ValueError")] 0),#[]⟩,bm "type.__prepare__" (t "type"),⟨(t "dict"),none,(.dict #[e P "__module__" 203 (s "minortables.errors" 194),e P "__qualname__" 205 (s "MinorError" 204),e P "__firstlineno__" 207 (i 5 206),e P "__static_attributes__" 208 (r 29)] 4),#[]⟩,y,x,c "MinorError" 198 5 0 0 25 false 181 26 z z z 201,⟨(t "frame"),none,.plain,#[some (r 27),some (r 3),some (r 24),none,some (s "minortables.errors" 194),none,some (r 0)]⟩,y,⟨(t "dict"),none,(.dict #[e P "__module__" 203 (s "minortables.errors" 194),e P "__firstlineno__" 207 (i 5 206),e P "__static_attributes__" 208 (r 29),e P "__weakref__" 210 (r 32),e P "__doc__" 211 z] 3),#[]⟩,o31 0,⟨(t "getset_descriptor"),none,(.fields #[(s "__weakref__" 209),(r 31),(b "ExceptionGroup.__weakref__"),z]),#[]⟩,su 31,bm "object.__init_subclass__" (r 31)]++xn.zipIdx.flatMap (xb P)++R1.flatMap (fo d "" (s "minortables.checks" 294))++R2.flatMap (fo d "" (s "minortables.tables" 379))++R3.flatMap (fo d "" (s "minortables.joining" 462))++R4.flatMap (fo d "" (s "minortables.texts" 480))++R5.flatMap (fo d "" (s "minortables.cases" 521))++[y,bm "type.__prepare__" (t "type"),⟨(t "dict"),none,(.dict ([e P "__module__" 556 (s "minortables.cases" 521),e P "__qualname__" 558 (s "Case" 557),e P "__firstlineno__" 560 (i 149 559)]++R6.map (fe P (m 52))++[e P "__static_attributes__" 693 (r 412)]).toArray 19),#[]⟩,y,⟨z,none,(.fields #[(i 151 0),(i 4 0),(r 312),(i 156 0),(i 4 0),(r 319),(i 162 0),(i 4 0),(r 326),(i 167 0),(i 4 0),(r 333),(i 175 0),(i 4 0),(r 340),(i 181 0),(i 4 0),(r 347),(i 186 0),(i 4 0),(r 354),(i 194 0),(i 4 0),(r 361),(i 199 0),(i 4 0),(r 368),(i 204 0),(i 4 0),(r 375),(i 207 0),(i 4 0),(r 382),(i 215 0),(i 4 0),(r 389),(i 218 0),(i 4 0),(r 396),(i 221 0),(i 4 0),(r 403),(i 224 0),(i 4 0),(r 410)]),#[]⟩,c "Case" 551 149 0 0 303 false 181 304 z z z 554,⟨(t "frame"),none,.plain,#[some (r 305),some (r 3),some (r 302),none,some (s "minortables.cases" 521),none,some (r 0)]⟩]++R6.flatMap (fo (m 52) "Case." (s "minortables.cases" 521))++[tn ["done","tables","undone"] 690,⟨(t "dict"),none,(.dict ([e P "__module__" 556 (s "minortables.cases" 521),e P "__firstlineno__" 560 (i 149 559)]++R6.map (fe P (m 52))++[e P "__static_attributes__" 693 (r 412),e P "__dict__" 695 (r 415),e P "__weakref__" 697 (r 416),e P "__doc__" 698 z]).toArray 4),#[]⟩,⟨(t "type"),none,(.cls ⟨"Case",[(t "object")],[(r 414),(t "object")],413,"Case",true,[],[],false,none,false⟩),#[none,none,some (s "Case" 549),some (s "Case" 557),some (b "object.__new__"),some (.bool true)]⟩,⟨(t "getset_descriptor"),none,(.fields #[(s "__dict__" 694),(r 414),(b "function.__dict__"),(b "function.__dict__#set")]),#[]⟩,⟨(t "getset_descriptor"),none,(.fields #[(s "__weakref__" 696),(r 414),(b "ExceptionGroup.__weakref__"),z]),#[]⟩,su 414,bm "object.__init_subclass__" (r 414)]++R7.flatMap (fo d "" (s "minortables.cases" 521))++R8.flatMap (fo d "" (s "minortables.minors" 727))++R9.flatMap (fo d "" (s "minortables.good" 840))++R10.flatMap (fo d "" (s "minortables.measuring" 855))++R11.flatMap (fo d "" (s "law_minortables_k92_whole_cases_and_minors" 876))
def Tx(t:BT)(P:Params)(n m:Nat):BT:=I t n (((ini P).drop n).take m)
def Ha(P:Params):Heap:=⟨⟨(ini P).take 15⟩,{}⟩
def T0(P:Params):BT:=I .nil 0 ((ini P).take 15)
def T1(P:Params):BT:=Tx (T0 P) P 15 20 |>.set 3 (λ_=>og 11 11 (s "minortables.errors" 194) P) |>.set 12 (λ_=>o12 6)
def T2(P:Params):BT:=Tx (T1 P) P 35 12 |>.set 3 (λ_=>og 12 12 (s "minortables.errors" 194) P) |>.set 12 (λ_=>o12 9) |>.set 31 (λ_=>o31 1)
def T3(P:Params):BT:=Tx (T2 P) P 47 12 |>.set 3 (λ_=>og 13 13 (s "minortables.errors" 194) P) |>.set 12 (λ_=>o12 12) |>.set 31 (λ_=>o31 2)
def T4(P:Params):BT:=Tx (T3 P) P 59 12 |>.set 3 (λ_=>og 14 14 (s "minortables.errors" 194) P) |>.set 12 (λ_=>o12 15) |>.set 31 (λ_=>o31 3)
def T5(P:Params):BT:=Tx (T4 P) P 71 12 |>.set 3 (λ_=>og 15 15 (s "minortables.errors" 194) P) |>.set 12 (λ_=>o12 18) |>.set 31 (λ_=>o31 4)
def T6(P:Params):BT:=Tx (T5 P) P 83 45 |>.set 3 (λ_=>og 22 22 (s "minortables.checks" 294) P) |>.set 12 (λ_=>o12 36) |>.set 31 (λ_=>o31 5)
def T7(P:Params):BT:=Tx (T6 P) P 128 77 |>.set 3 (λ_=>og 36 36 (s "minortables.tables" 379) P) |>.set 12 (λ_=>o12 75)
def T8(P:Params):BT:=Tx (T7 P) P 205 76 |>.set 3 (λ_=>og 50 50 (s "minortables.texts" 480) P) |>.set 12 (λ_=>o12 117)
def T9(P:Params):BT:=Tx (T8 P) P 281 19 |>.set 3 (λ_=>og 55 55 (s "minortables.cases" 521) P) |>.set 12 (λ_=>o12 126)
def T10(P:Params):BT:=Tx (T9 P) P 300 119 |>.set 3 (λ_=>og 56 56 (s "minortables.cases" 521) P) |>.set 12 (λ_=>o12 129)
def T11(P:Params):BT:=Tx (T10 P) P 419 77 |>.set 3 (λ_=>og 69 69 (s "minortables.minors" 727) P) |>.set 12 (λ_=>o12 168)
def T12(P:Params):BT:=Tx (T11 P) P 496 81 |>.set 3 (λ_=>og 82 82 (s "law_minortables_k92_whole_cases_and_minors" 876) P) |>.set 12 (λ_=>o12 207)
def T13(P:Params):BT:=Tx (T12 P) P 577 10 |>.set 3 (λ_=>og 84 84 (s "law_minortables_k92_whole_cases_and_minors" 876) P) |>.set 12 (λ_=>o12 213)
def H1(P:Params):Heap:=⟨⟨(((ini P).set 3 (og 84 84 (s "law_minortables_k92_whole_cases_and_minors" 876) P)).set 12 (o12 213)).set 31 (o31 5)⟩,{}⟩
def Sx(T:Params->BT)(n k:Nat)(w:World)(os:OsState):SharedT:=⟨T w.params,n,{},⟨[]⟩,{},k,os⟩
abbrev S0:=Sx T0 15 187
abbrev S1:=Sx T1 35 214
abbrev S2:=Sx T2 47 230
abbrev S3:=Sx T3 59 246
abbrev S4:=Sx T4 71 262
abbrev S5:=Sx T5 83 278
abbrev S6:=Sx T6 128 336
abbrev S7:=Sx T7 205 426
abbrev S8:=Sx T8 281 521
abbrev S9:=Sx T9 300 549
abbrev S10:=Sx T10 419 701
abbrev S11:=Sx T11 496 801
abbrev S12:=Sx T12 577 902
abbrev S13:=Sx T13 587 914
def S(w:World)(os:OsState):Shared:=⟨H1 w.params,⟨[]⟩,{},914,os⟩
def E:Env:={scope:=p.main.scope,locals:=mainNs,globals:=mainNs,cells:=[],code:=(r 13),frame:=some 14}
abbrev C:Code:=.body (behindTheImports p) E
abbrev B:List Frame:=[topFrame ⟨0,0,0,0⟩]
def lx(a b:Nat):List Stmt:=((behindTheImports p).drop a).take b
abbrev l1:=lx 0 3
abbrev l2:=lx 3 1
abbrev l3:=lx 4 1
abbrev l4:=lx 5 1
abbrev l5:=lx 6 1
abbrev l6:=lx 7 8
abbrev l7:=lx 15 15
abbrev l8:=lx 30 16
abbrev l9:=lx 46 6
abbrev l10:=lx 52 1
abbrev l11:=lx 53 14
abbrev l12:=lx 67 16
abbrev l13:=lx 83 2
theorem pre(w:World)(os:OsState):topGo treeTable p w 11 (some (r 6)) 12 ⟨boot_heap w.params,Array.mk [],boot_drawn,boot_toks,os⟩ (topStub p)=some (⟨Ha w.params,⟨[]⟩,{},187,os⟩,⟨denote treeTable C,C,⟨0,0,0,0⟩,B⟩):=goT (by rfl')
theorem blk(w:World)(os:OsState):segRun treeTable p w 11 (some (r 6)) 1 1 ⟨Ha w.params,⟨[]⟩,{},187,os⟩ (blockOf (behindTheImports p) E C ⟨0,0,0,0⟩ B)=some (.next,(S0 w os).abs,C,⟨0,0,0,0⟩):=Xd (by rfl')
abbrev Px(w:World)(os:OsState)(n:Nat)(A B':World->OsState->SharedT)(l:List Stmt)(o o':Pos):Prop:=segRun treeTable p w 11 (some (r 6)) 1 n (A w os).abs (piecesOf l E C o B)=some (.next,(B' w os).abs,C,o')
theorem p1(w:World)(os:OsState):Px w os 225 S0 S1 l1 ⟨0,0,0,0⟩ ⟨5,0,6,8⟩:=A7z (wX (by rfl'))
theorem p2(w:World)(os:OsState):Px w os 214 S1 S2 l2 ⟨5,0,6,8⟩ ⟨7,0,8,8⟩:=A7z (wX (by rfl'))
theorem p3(w:World)(os:OsState):Px w os 214 S2 S3 l3 ⟨7,0,8,8⟩ ⟨9,0,10,8⟩:=A7z (wX (by rfl'))
theorem p4(w:World)(os:OsState):Px w os 214 S3 S4 l4 ⟨9,0,10,8⟩ ⟨11,0,12,8⟩:=A7z (wX (by rfl'))
theorem p5(w:World)(os:OsState):Px w os 214 S4 S5 l5 ⟨11,0,12,8⟩ ⟨13,0,14,8⟩:=A7z (wX (by rfl'))
theorem p6(w:World)(os:OsState):Px w os 378 S5 S6 l6 ⟨13,0,14,8⟩ ⟨29,0,33,15⟩:=A7z (wX (by rfl'))
theorem p7(w:World)(os:OsState):Px w os 377 S6 S7 l7 ⟨29,0,33,15⟩ ⟨66,0,67,53⟩:=A7z (wX (by rfl'))
theorem p8(w:World)(os:OsState):Px w os 396 S7 S8 l8 ⟨66,0,67,53⟩ ⟨122,0,128,16⟩:=A7z (wX (by rfl'))
theorem p9(w:World)(os:OsState):Px w os 114 S8 S9 l9 ⟨122,0,128,16⟩ ⟨139,0,148,37⟩:=A7z (wX (by rfl'))
theorem p10(w:World)(os:OsState):Px w os 682 S9 S10 l10 ⟨139,0,148,37⟩ ⟨149,0,225,16⟩:=A7z (wX (by rfl'))
theorem p11(w:World)(os:OsState):Px w os 380 S10 S11 l11 ⟨149,0,225,16⟩ ⟨275,0,279,15⟩:=A7z (wX (by rfl'))
theorem p12(w:World)(os:OsState):Px w os 399 S11 S12 l12 ⟨275,0,279,15⟩ ⟨324,0,329,27⟩:=A7z (wX (by rfl'))
theorem p13(w:World)(os:OsState):Px w os 53 S12 S13 l13 ⟨324,0,329,27⟩ ⟨340,0,369,148⟩:=A7z (wX (by rfl'))
theorem fin(w:World)(os:OsState):topRun treeTable p w 11 (some (r 6)) 2 (S13 w os).abs ⟨doneF .next,C,⟨285,0,321,15⟩,B⟩=some (S w os):=WK (by rfl')
abbrev M:Nat:=(12+(1+(225+(214+(214+(214+(214+(378+(377+(396+(114+(682+(380+(399+(53+2)))))))))))))))
theorem lst:behindTheImports p=(l1++(l2++(l3++(l4++(l5++(l6++(l7++(l8++(l9++(l10++(l11++(l12++(l13++[]))))))))))))):=by rfl'
theorem r0(w:World)(os:OsState):topRun treeTable p w 11 (some (r 6)) (225+(214+(214+(214+(214+(378+(377+(396+(114+(682+(380+(399+(53+2))))))))))))) (S0 w os).abs (restOf (l1++(l2++(l3++(l4++(l5++(l6++(l7++(l8++(l9++(l10++(l11++(l12++(l13++[]))))))))))))) E C ⟨0,0,0,0⟩ B)=some (S w os):=B7z (p1 w os) (B7z (p2 w os) (B7z (p3 w os) (B7z (p4 w os) (B7z (p5 w os) (B7z (p6 w os) (B7z (p7 w os) (B7z (p8 w os) (B7z (p9 w os) (B7z (p10 w os) (B7z (p11 w os) (B7z (p12 w os) (B7z (p13 w os) (fin w os)))))))))))))
theorem run(w:World)(os:OsState):topRun treeTable p w 11 (some (r 6)) M ⟨boot_heap w.params,Array.mk [],boot_drawn,boot_toks,os⟩ (topStub p)=some (S w os):=go_top (pre w os) (piece_block (blk w os) (Uj lst (r0 w os)))
def ka:List Addr:=[2,3]++R0.flatMap fa++[22,29,30,31,32]++((List.range 5).flatMap λ(q:Nat)=>[35+12*q,42+12*q,43+12*q,44+12*q])++R1.flatMap fa++R2.flatMap fa++R3.flatMap fa++R4.flatMap fa++R5.flatMap fa++R6.flatMap fa++[412,413,414,415,416]++R7.flatMap fa++R8.flatMap fa++R9.flatMap fa++R10.flatMap fa++R11.flatMap fa
def K(P:Params):Frag:=ka.map λa=>(a,(H1 P).objs.toList.getD a x)
abbrev as:List Addr:=ka
abbrev m0:Nat:=11
abbrev tk:Nat:=914
abbrev ann:Option Value:=(some (r 6))
def Xt(s:Shared):Bool:=xlAt q [] s&&recOk PySem.Challenge.rw_minortables_k92_whole_cases_and_minors.row.toRowW.records s
theorem lk0(w:World)(os:OsState):(staticsOk (importedModules p.main.body) (boot_heap w.params) (H1 w.params)&&namesBound p (H1 w.params)&&gensDone (S w os)&&laidKept (boot_heap w.params) (H1 w.params))=true:=by
 rw[Fast.te5923862056798008813];rfl'
theorem lk1(w:World)(os:OsState):PyProof.Rows.seen ((PyProof.Rows.recsOf q).map (·.name)) (PyProof.Rows.ownsOf q) [] {S w os with gens := #[]}=PyProof.Rows.expectedOf q:=by
 rw[Fast.te5160383126252970620,Fast.te3399658132070893891,Fast.te5991557255702980513];rfl'
theorem lk2(w:World)(os:OsState):(S w os).heap.bltView=bltViewBooted:=by rfl'
theorem lk3(w:World)(os:OsState):((S w os).heap.keysOk (looseW q lo) ((PyProof.Rows.recsOf q).map (·.name)) ((PyProof.Rows.litsOf q).map (·.1)) ((PyProof.Rows.clssOf q (looseW q lo)).map (·.name))&&(S w os).heap.accountedOkI (importedModules p.main.body)&&(S w os).heap.isNs mainGlobals&&(S w os).heap.isNs builtinsNs&&PyProof.Rows.tablesOk q (S w os).heap&&Xt (S w os)&&(if true then(S w os).gens.size==0 else !leftWithCleanup (S w os).gens))=true:=by
 rw[Fast.te10880121769531294198,Fast.te821141287760084731,Fast.te3399658132070893891,Fast.te7409074990110511671,Fast.te13664370479719496447,Fast.te14722251495701143533,Fast.te5923862056798008813];rfl'
theorem lk4(w:World)(os:OsState):PyProof.Rows.tabsOk q (S w os)=true:=by rw[Fast.te479339242167458305];rfl'
theorem lk5(w:World)(os:OsState):pinSeenD q (PyProof.Rows.drecsOf q) (S w os)=pinGoodD (PyProof.Rows.drecsOf q):=by rw[Fast.te16090120013241838585,Fast.te3247288618530077131];rfl'
theorem lk6(w:World)(os:OsState):PyProof.Rows.plainSeenE q (looseW q lo) (S w os)=PyProof.Rows.plainGoodE q (looseW q lo):=by rw[Fast.te2386780881361962483,Fast.te821141287760084731];rfl'
theorem lk7(w:World)(os:OsState):PyProof.Rows.plainSeenD q lo (S w os)=PyProof.Rows.plainGoodD q lo:=by rw[Fast.te11698064438423848299];rfl'
theorem lk8(w:World)(os:OsState):wideSeen q (S w os)=wideGood q:=by rw[Fast.te7317090234206586261];rfl'
theorem lk9(w:World)(os:OsState):clsSeenW q lo (S w os)=clsGoodW q lo:=by rw[Fast.te7369524293546568484];rfl'
theorem asK(P:Params):as=(K P).map (·.1):=by rfl'
abbrev H:Hook:=kHook K as asK
theorem lkY(w:World)(os:OsState):H.obs (S w os)=H.val w:=by rfl'
theorem looks(w:World):(λos=>((staticsOk (importedModules p.main.body) (boot_heap w.params) (H1 w.params)&&namesBound p (H1 w.params)&&gensDone (S w os)&&laidKept (boot_heap w.params) (H1 w.params)),openSeen q lo (importedModules p.main.body) Xt true (S w os),H.obs (S w os)))=λ_=>(true,openGood q lo,H.val w) :=
 funext λos=>Y6z (lk0 w os) (Y6z (Y6z (lk1 w os) (Y6z (lk2 w os) (Y6z (lk3 w os) (Y6z (lk4 w os) (Y6z (lk5 w os) (Y6z (lk6 w os) (Y6z (lk7 w os) (Y6z (lk8 w os) (lk9 w os))))))))) (lkY w os))
theorem size(w:World):((boot_heap w.params).isNs mainGlobals&&(Array.mk ([]:List GenState)).size==0,(boot_heap w.params).objs.size,(boot_heap w.params).nsMap mainGlobals "__annotations__")=(true,m0,ann):=by
 rw[Fast.te8920871248978507458];rfl'
theorem bt(w:World):(fencedOpening treeTable p w N).map (λs=>(s.heap,s.gens,s.drawn,s.toks))=some (boot_heap w.params,Array.mk [],boot_drawn,boot_toks) :=
 boot_open (p:=p) (N:=N) (by rfl') (by rfl') (λ_=>rfl) w
theorem left:LeftO p q lo Xt H.obs H.val N :=
 LeftO.of_pieces (H₀:=boot_heap) (H₁:=H1) (m₀:=m0) (ann:=ann) (M:=M) (gs₀:=Array.mk []) (gs₁:=⟨[]⟩) (d₀:=boot_drawn) (d₁:={}) (k₀:=boot_toks) (k₁:=tk) bt size run (by rfl') looks
abbrev R:OpenLaw:=PySem.Challenge.rw_minortables_k92_whole_cases_and_minors
theorem said:R.wellSaid=true:=by rw[Fast.te9446332074065402090];rfl'
def dr:DefRec:=match d 84 with|.FunctionDef n a l _ _ _ sc _ _ o=>⟨n,a,l,sc,o⟩|_=>⟨"",default,[],default,⟨0,0,0,0⟩⟩
theorem hdef:defOf q R.row.name=some (dr,[]):=by rfl'
theorem hthe:R.row.prog.theDef R.row.name=some (dr.params,dr.body,dr.scope):=by rfl'
theorem hkw:kwWritten? dr.params.kwonlyargs dr.params.kw_defaults=some []:=by rfl'
theorem hok:(chainsOk q&&opensWell R.row.prog&&(frees R.row.toRowW&&R.row.within.isEmpty))=true:=by rfl'
theorem hbare:R.row.prog.bare:=⟨rfl,rfl,rfl,rfl,rfl,by rfl'⟩
theorem Xx:R.row.toRowW.promised:=⟨[.list []],by rfl',by rfl'⟩
theorem holds(call:WalkO q lo (XL q []) H.says R.row.toRowW dr [] λf vs=>PySem.call f vs):R.Holds :=
 holds_law said λk1=>holds_open (r:=R.row) (q:=q) (loose:=lo) (Xt:=Xt) (XP:=XL q []) (Yf:=H.obs) (Ya:=H.val) (YP:=H.says) (N:=N) left H.of H.keeps (λs e=>xl_of s (Bool.and_eq_true_iff.mp e).1) XL.keeps hdef hthe hkw (λs e=>recFacts_of (Bool.and_eq_true_iff.mp e).2) rfl k1 hok hbare Xx call
end H92
end
namespace M92
open PySem PySem.W L2 DE
theorem txt(w:World){mg:Str->Option Value}{h:Heap}(X:(H92.K w.params).In h)(G:h.Ns mainGlobals mg):Text w (H92.K w.params) mg T :=
 ⟨in_of (l:=cs) (Q:=λ(x:Str)(d:D)=>∃v u,(∀H',Rep (H92.K w.params) H' d v)/\mg x=some u/\RelV v u) (aC (cA X G 296 (by rfl')) (aC (cA X G 381 (by rfl')) (aC (cS X G 523 (by rfl')) (aC (cA X G 525 (by rfl')) (aN))))),
  in_of (l:=bl) (Q:=λx b=>mg x=none/\x=Str.ofString b) (Nh X G (by rfl')),
  in_of (l:=df) (Q:=λx fd=>FunAt (H92.K w.params) mg x fd) (Li X G (by rfl') (by rfl') (by rfl')),XText.of (λx v h=>X5z X G h) (by rfl'),by show List.map _ _=List.map _ _;rfl'⟩
theorem cas(w:World){mg:Str->Option Value}{h:Heap}(X:(H92.K w.params).In h)(G:h.Ns mainGlobals mg):CaseTxt (H92.K w.params) mg 414 :=
 ⟨⟨⟨(by rfl'),(by rfl'),(by rfl'),(by rfl')⟩,by show findIn _ _ _=_;rfl',by show findIn _ _ _=_;rfl',by show findIn _ _ _=_;rfl',X5z X G (by rfl')⟩,
  kE 320 (.str "minortables.cases" 521) (.ref 319) (by rfl') (by rfl') (by rfl') (by rfl') (by rfl'),
  kE 327 (.str "minortables.cases" 521) (.ref 326) (by rfl') (by rfl') (by rfl') (by rfl') (by rfl'),
  kE 334 (.str "minortables.cases" 521) (.ref 333) (by rfl') (by rfl') (by rfl') (by rfl') (by rfl'),
  kE 341 (.str "minortables.cases" 521) (.ref 340) (by rfl') (by rfl') (by rfl') (by rfl') (by rfl'),
  kE 348 (.str "minortables.cases" 521) (.ref 347) (by rfl') (by rfl') (by rfl') (by rfl') (by rfl'),
  kE 355 (.str "minortables.cases" 521) (.ref 354) (by rfl') (by rfl') (by rfl') (by rfl') (by rfl'),
  kE 362 (.str "minortables.cases" 521) (.ref 361) (by rfl') (by rfl') (by rfl') (by rfl') (by rfl'),
  kE 369 (.str "minortables.cases" 521) (.ref 368) (by rfl') (by rfl') (by rfl') (by rfl') (by rfl'),
  kE 376 (.str "minortables.cases" 521) (.ref 375) (by rfl') (by rfl') (by rfl') (by rfl') (by rfl'),
  kE 383 (.str "minortables.cases" 521) (.ref 382) (by rfl') (by rfl') (by rfl') (by rfl') (by rfl'),
  kE 390 (.str "minortables.cases" 521) (.ref 389) (by rfl') (by rfl') (by rfl') (by rfl') (by rfl')⟩
end M92
open PySem PySem.W PyProof.Rows
set_option maxRecDepth 100000 in
set_option maxHeartbeats 0 in
theorem PySem.Challenge.cw_minortables_k92_whole_cases_and_minors_holds : PySem.Challenge.rw_minortables_k92_whole_cases_and_minors.Holds :=
 H92.holds (M92.walk (l := PySem.Challenge.rw_minortables_k92_whole_cases_and_minors) (K := H92.K) rfl (by rfl') (fun w h Y => W.kIn_of (e := H92.asK) Y) fun w mg fa h KX G hmg => M92.finK (fI := 313) (M92.txt w KX G) (M92.cas w KX G) ⟨by rfl', by rfl', by rfl', by rfl'⟩ (L2.fun_mk (f := 313) (oc := .type "function") (od := none) (osl := #[]) (kV := .none) (doc := .none) (pm := (.str "minortables.cases" 521)) (cdv := .ref 312) (ct := .none) (an := none) (by rfl') (by rfl') (by rfl')) KX G hmg 586 .none (.str "law_minortables_k92_whole_cases_and_minors" 876) (.ref 585) (by rfl') (by rfl') (by rfl') (by rfl'))
#print axioms PySem.Challenge.cw_minortables_k92_whole_cases_and_minors_holds
