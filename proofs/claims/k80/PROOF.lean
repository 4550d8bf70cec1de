import PyProof.Rows.All
import Wide.All
import OpenK.AllK
import Wide.FinOn
import Lean
import PyProof.EqAt
import PyProof.EqKinds
import PyProof.TupleCall
import PyProof.ListRange
import KE.KIntText
import PySem.Names
import PySem.Builtin.Str.Common
import PyProof.Rows.TmSorted
import PyProof.StrBlockL
import PyProof.Rows.StrNews2
import PyProof.NeKinds
import PyProof.AttrMiss
import PyProof.FactsAll.list
import KE.KDictOf
import KE.KEqDict
import KE.KItemsList
import PyProof.DictItems
import PyProof.DictStraight
import PyProof.DictWalks
import KE.IntTextLaws
import PySem.Challenge.RW_minortables_k80_whole_texts
set_option compiler.extract_closed false
set_option genSizeOf false
set_option genInjectivity false
set_option maxHeartbeats 0
set_option Elab.async false
set_option linter.all false
set_option maxRecDepth 100000
noncomputable section
namespace Zz
abbrev Zf:=PySem.W.Frag
open PySem
def A0z:=@PyProof.Rows.slot_tuple_getitem
def B0z:=@PyProof.Rows.callWith_type1
def C0z:=@PySem.W.Fast.te14364793385576792824
def D0z:=@List.drop_eq_getElem_cons
def E0z:=@PySem.F.args_tuple_add_2
def F0z:=@PySem.AutoSeq1.wpAny_loadPart'
def G0z:=@PySem.F.entry_tuple_add
def H0z:=@PySem.F.plainAttrs_list
def I0z:=@Option.bind_eq_some_iff
def J0z:=@PySem.W.cellsFrom_some
def K0z:=@PySem.F.slot_tuple_add
def L0z:=@Option.map_eq_some_iff
def M0z:=@PySem.F.plainAttrs_str
def N0z:=@List.take_of_length_le
def O0z:=@List.mem_append_right
def P0z:=@List.length_singleton
def Q0z:=@PySem.F.typeOf_object_class
def R0z:=@PySem.builtinLookup_eq_fast
def S0z:=@List.mem_cons_of_mem
def T0z:=@List.mem_append_left
def U0z:=@PySem.Calls.evalArgs_plain
def V0z:=@PySem.codeAny_call_builtin
def W0z:=@PySem.W.looks_findIn
def X0z:=@List.mem_of_mem_drop
def Y0z:=@List.mem_of_mem_take
def Z0z:=@PySem.Around.under_plainId
def A1z:=@Bool.or_eq_false_iff
def B1z:=@List.dropLast_concat
def C1z:=@List.filterMap_cons
def D1z:=@Array.length_toList
def E1z:=@PySem.mem_of_lookup
def F1z:=@beq_eq_false_iff_ne
def G1z:=@ne_true_of_eq_false
def H1z:=@List.mem_map_of_mem
def I1z:=@Nat.lt_of_lt_of_le
def J1z:=@List.mem_cons_self
def K1z:=@Bool.false_ne_true
def L1z:=@PySem.wpAny_pyIter_tuple
def M1z:=@PySem.wpAny_Call_Name_kw
def N1z:=@List.length_append
def O1z:=@Bool.false_eq_true
def P1z:=@PySem.Obj.data_mapFields
def Q1z:=@PySem.wpAny_setField_rec
def R1z:=@PySem.F.args_str_split_2
def S1z:=@Nat.lt_of_le_of_lt
def T1z:=@List.zip_cons_cons
def U1z:=@PySem.W.kitx_tuple
def V1z:=@PySem.wpAny_truthy_bool
def W1z:=@PySem.wpAny_newObj_type
def X1z:=@List.size_toArray
def Y1z:=@Bool.not_eq_true'
def Z1z:=@Nat.lt_succ_of_lt
def A2z:=@Nat.le_of_succ_le
def B2z:=@decide_eq_true_eq
def C2z:=@Option.some.injEq
def D2z:=@of_decide_eq_true
def E2z:=@PySem.W.kitx_bool
def F2z:=@PySem.W.kitx_list
def G2z:=@List.append_assoc
def H2z:=@List.all_eq_false
def I2z:=@List.length_take
def J2z:=@List.length_drop
def K2z:=@PySem.wpAny_call_entry
def L2z:=@Bool.and_eq_true
def M2z:=@List.lookup_cons
def N2z:=@Nat.lt_succ_self
def O2z:=@beq_self_eq_true
def P2z:=@Nat.le_add_right
def Q2z:=@List.length_cons
def R2z:=@List.range'_succ
def S2z:=@List.not_mem_nil
def T2z:=@List.getElem_mem
def U2z:=@Option.bind_some
def V2z:=@PySem.W.kitx_int
def W2z:=@PySem.W.kitx_str
def X2z:=@List.drop_length
def Y2z:=@List.filter_cons
def Z2z:=@List.cons_append
def A3z:=@List.all_eq_true
def B3z:=@Option.bind_none
def C3z:=@decide_eq_false
def D3z:=@Option.some.inj
def E3z:=@PySem.wpAny_execs_nil
def F3z:=@PySem.wpAny_passesOwn
def G3z:=@List.append_nil
def H3z:=@List.of_mem_zip
def I3z:=@List.length_map
def J3z:=@PySem.codeAny_builtin
def K3z:=@List.nodup_cons
def L3z:=@Option.map_some
def M3z:=@PySem.pushCells_keeps
def N3z:=@List.length_nil
def O3z:=@Bool.or_eq_true
def P3z:=@List.map_append
def Q3z:=@PySem.W.kia_one
def R3z:=@List.length_set
def S3z:=@Option.map_none
def T3z:=@Bool.eq_iff_iff
def U3z:=@Int.emod_nonneg
def V3z:=@List.nil_append
def W3z:=@Nat.min_eq_left
def X3z:=@Bool.false_and
def Y3z:=@decide_eq_true
def Z3z:=@PySem.Heap.size_push
def A4z:=@PySem.wpAny_seqItems
def B4z:=@Bool.and_false
def C4z:=@List.drop_zero
def D4z:=@Nat.lt_irrefl
def E4z:=@PySem.wpAny_standAt
def F4z:=@PySem.wpAny_holding
def G4z:=@List.map_cons
def H4z:=@List.any_cons
def I4z:=@PySem.plainId_quiet
def J4z:=@Bool.and_self
def K4z:=@List.all_cons
def L4z:=@List.mem_cons
def M4z:=@Bool.true_and
def N4z:=@PySem.W.mg_of
def O4z:=@List.cons.inj
def P4z:=@PySem.Heap.lt_size
def Q4z:=@Nat.ne_of_lt
def R4z:=@Nat.le_trans
def S4z:=@Nat.le_of_lt
def T4z:=@Nat.ne_of_gt
def U4z:=@PySem.codeAny_mono
def V4z:=@PySem.wpAny_typeOf
def W4z:=@List.map_map
def X4z:=@Nat.le_refl
def Y4z:=@PySem.wpAny_field
def Z4z:=@Nat.zero_le
def A5z:=@List.map_id
def B5z:=@PySem.wpAny_mono
def C5z:=@PySem.wpAny_bind
def D5z:=@PySem.wpAny_pure
def E5z:=@PySem.wpAny_rule
def F5z:=@PySem.typeIs_str
def G5z:=@PySem.call_meets
def H5z:=@beq_iff_eq
def I5z:=@bne_iff_ne
def J5z:=@PySem.W.looks_pair
def K5z:=@PySem.W.segRun_of
def L5z:=@PySem.W.piece_app
def M5z:=@if_false
def N5z:=@Ne.symm
def O5z:=@if_true
def P5z:=@if_pos
def Q5z:=@if_neg
end Zz
open Zz
local macro_rules|`(tactic|rfl')=>`(tactic|kernel_rfl)
namespace L2
open PySem PySem.Spec PyProof.Rows
abbrev Key:=Sum Int Str
def sU:Key->Value->Bool
 |.inl k,v=>Value.isInt k v
 |.inr x,v=>Value.isStrOf x v
def Uo(w:World):Key->Int
 |.inl k=>hashInt k
 |.inr x=>hashStr w x
theorem bD:∀{k:Key}{v:Value},sU k v=true->(∃i t,k=Sum.inl i/\v=Value.int i t)\/(∃x t,k=Sum.inr x/\v=Value.str x t)
 |.inl i,v,h=>by
  obtain⟨t,e⟩:=Value.isInt_shape (k:=i) (v:=v) h;exact .inl ⟨i,t,rfl,e⟩
 |.inr x,v,h=>by
  obtain⟨t,e⟩:=Value.isStrOf_shape (x:=x) (v:=v) h;exact .inr ⟨x,t,rfl,e⟩
theorem vO(i:Int)(t:Tok):sU (.inl i) (.int i t)=true:=by simp[sU,Value.isInt]
theorem vN(x:Str)(t:Tok):sU (.inr x) (.str x t)=true:=by simp[sU,Value.isStrOf]
theorem Jt(a b:Int):decide ((Sum.inl a:Key)=Sum.inl b)=(a==b):=by
 by_cases e:a=b
 .subst e;simp
 .have h:¬ (Sum.inl a:Key)=Sum.inl b:=λq=>e (Sum.inl.inj q)
  rw[C3z h];exact(F1z.mpr e).symm
theorem Jq(a b:Str):decide ((Sum.inr a:Key)=Sum.inr b)=decide (a=b):=by
 by_cases e:a=b
 .subst e;simp
 .have h:¬ (Sum.inr a:Key)=Sum.inr b:=λq=>e (Sum.inr.inj q)
  rw[C3z h,C3z e]
theorem Js(a:Int)(b:Str):decide ((Sum.inl a:Key)=Sum.inr b)=false:=C3z (λq=>nomatch q)
theorem Jr(a:Str)(b:Int):decide ((Sum.inr a:Key)=Sum.inl b)=false:=C3z (λq=>nomatch q)
def bY(prog:Program)(w:World):PySem.KeyKind prog w Key where
 is:=sU
 hash:=Uo w
 inj:=λv a b ha hb=>by
  rcases bD ha with⟨i,t,rfl,rfl⟩|⟨x,t,rfl,rfl⟩
  .rcases bD hb with⟨j,u,rfl,e⟩|⟨y,u,rfl,e⟩
   .injection e with e1 _;rw[e1]
   .exact nomatch e
  .rcases bD hb with⟨j,u,rfl,e⟩|⟨y,u,rfl,e⟩
   .exact nomatch e
   .injection e with e1 _;rw[e1]
 byValue:=λk v h=>by
  rcases bD h with⟨i,t,rfl,rfl⟩|⟨x,t,rfl,rfl⟩<;>rfl
 pyHash:=λhv h=>by
  rcases bD hv with⟨i,t,rfl,rfl⟩|⟨x,t,rfl,rfl⟩
  .exact wpAny_pyHash_int h
  .exact wpAny_pyHash_str h
 eqBool:=λhu hv h=>by
  rcases bD hu with⟨i,t,rfl,rfl⟩|⟨x,t,rfl,rfl⟩
  .rcases bD hv with⟨j,u,rfl,rfl⟩|⟨y,u,rfl,rfl⟩
   .rw[Jt] at h;exact wpAny_eqBool_int h
   .rw[Js] at h;exact SeqAt.EqAt.int_str i t y u _ _ _ _ h
  .rcases bD hv with⟨j,u,rfl,rfl⟩|⟨y,u,rfl,rfl⟩
   .rw[Jr] at h;exact SeqAt.EqAt.str_int x t j u _ _ _ _ h
   .rw[Jq] at h;exact wpAny_eqBool_str h
 «strs» :=λk x t v h=>by
  rcases bD h with⟨i,u,rfl,e⟩|⟨y,u,rfl,e⟩
  .exact nomatch e
  .injection e with e1 _
   subst e1
   cases v<;>rfl
theorem pJ(prog:Program)(w:World)(i:Int)(t:Tok):(bY prog w).is (.inl i) (.int i t)=true:=vO i t
theorem pI(prog:Program)(w:World)(x:Str)(t:Tok):(bY prog w).is (.inr x) (.str x t)=true:=vN x t
set_option genInjectivity true in
inductive V where
 |non|bl (b:Bool)|int (i:Int)|str (x:Str)|byt (b:Array UInt8)|flt (b:UInt64)|ref (a:Addr)|ty (n:String)
 deriving DecidableEq
def RelV:V->Value->Prop
 |.non,u=>u=Value.none
 |.bl b,u=>u=Value.bool b
 |.int i,u=>∃t,u=Value.int i t
 |.str x,u=>∃t,u=Value.str x t
 |.byt b,u=>∃t,u=Value.bytes b t
 |.flt b,u=>∃t,u=Value.float b t
 |.ref a,u=>u=Value.ref a
 |.ty n,u=>u=Value.type n
abbrev Vals:List V->List Value->Prop:=Paired RelV
theorem Vals.length{xs:List V}{us:List Value}(r:Vals xs us):xs.length=us.length:=Paired.length r
theorem Vals.get:∀{xs:List V}{us:List Value}{i:Nat}{x:V},Vals xs us->xs[i]?=some x->∃u,us[i]?=some u/\RelV x u
 |_,_,_,_,.nil,e=>by simp at e
 |_,_,0,_,.cons r _,e=>by simp at e;subst e;exact⟨_,rfl,r⟩
 |_,_,i+1,x,.cons _ t,e=>by
  obtain⟨u,h1,h2⟩:=Vals.get (i:=i) (x:=x) t (by simpa using e);exact⟨u,by simpa using h1,h2⟩
theorem Vals.append:∀{xs ys:List V}{us ws:List Value},Vals xs us->Vals ys ws->Vals (xs++ys) (us++ws)
 |_,_,_,_,.nil,s=>s
 |_,_,_,_,.cons r t,s=>.cons r (Vals.append t s)
theorem Vals.take:∀{xs:List V}{us:List Value}(n:Nat),Vals xs us->Vals (xs.take n) (us.take n)
 |_,_,0,_=>.nil
 |_,_,_+1,.nil=>.nil
 |_,_,n+1,.cons r t=>.cons r (Vals.take n t)
theorem Vals.drop:∀{xs:List V}{us:List Value}(n:Nat),Vals xs us->Vals (xs.drop n) (us.drop n)
 |_,_,0,r=>r
 |_,_,_+1,.nil=>.nil
 |_,_,n+1,.cons _ t=>Vals.drop n t
def Bv:Option V->Option Value->Prop
 |some v,some u=>RelV v u
 |none,none=>True
 |_,_=>False
def KV{κ:Type}:List (κ×V)->List (κ×Value)->Prop:=Paired λ(p:κ×V)(q:κ×Value)=>p.1=q.1/\RelV p.2 q.2
def kV:Key->V
 |.inl i=>.int i
 |.inr x=>.str x
set_option genInjectivity true in
inductive HO where
 |lst (xs:List V)
 |tup (xs:List V)
 |dK (kvs:List (Key×V))|dT (kvs:List (List Key×V))
 |set (S:Int->Bool) (n:Nat)
 |ins (C dx:Addr) (fs:List (Str×V))
 |own (x:Addr)
 |xd (fs:List (Str×V))
 |met (f x:Addr)
 |rng (lo hi:Int)
 |frz (o:Obj) (u:HO)
 |tbl (ps:Array Value)
 |ext (φ:Heap->Prop)
noncomputable abbrev Hp:=Addr->Option HO
def upd(H:Hp)(a:Addr)(o:HO):Hp:=λb=>if b=a then some o else H b
theorem aV{H:Hp}{a:Addr}{o:HO}:upd H a o a=some o:=by unfold upd;rw[P5z rfl]
theorem aG{H:Hp}{a b:Addr}{o:HO}(h:b≠a):upd H a o b=H b:=by unfold upd;rw[Q5z h]
theorem ao{H:Hp}{a b:Addr}{o:HO}(h:H a=some o)(h':H b=none):a≠b:=by
 intro e;subst e;rw[h] at h';cases h'
section
variable(P:Program)(w:World)
def dJ(H:Hp)(h:Heap)(a:Addr):HO->Prop
 |.lst xs=>xs.length<=sizeLine/\∃(its:List Value)(n:Nat),Vals xs its/\h.get? a=some {cls:=.type "list",data:=.seq its.toArray n}
 |.tup xs=>xs.length<=sizeLine/\∃its:List Value,Vals xs its/\IsTup h a its.toArray
 |.dK kvs=>kvs.length<=sizeLine/\(a==sysModules)=false/\∃vs,KV kvs vs/\h.DictOf (bY P w) a vs
 |.dT kvs=>kvs.length<=sizeLine/\(a==sysModules)=false/\∃xs:List (List Key×Addr×Value),
   Paired (λ(p:List Key×V)(q:List Key×Addr×Value)=>p.1=q.1/\H q.2.1=some (.tup (p.1.map kV))/\RelV p.2 q.2.2) kvs xs /\
   ∃o es ep,h.get? a=some o/\o.ExactDict/\o.data=.dict es ep/\es.toList=xs.map (entryOfKey (tupleKind (bY P w)))/\(xs.map (·.1)).Nodup
 |.set S n=>h.SetOf (intKind P w) a S n
 |.ins C dx fs=>H dx=some (.own a)/\fs.length<=1000/\dx≠a/\h.get? a=some (W.instObj C dx) /\
   ∃mA,h.Ns1 dx mA/\(∀f,Bv (fs.lookup f) (mA f))/\PySem.Within mA (fs.map (·.1))
 |.own _=>∃o,h.get? a=some o
 |.xd fs=>∃mA,h.Ns1 a mA/\∀f,Bv (fs.lookup f) (mA f)
 |.rng lo hi=>∃t u v,h.get? a=some {cls:=.type "range",data:=.fields #[.int lo t,.int hi u,.int 1 v]}
 |.frz o u=>h.get? a=some o/\dJ H h a u
 |.tbl ps=>h.get? a=some {cls:=.none,data:=.fields ps}
 |.met f x=>h.get? a=some (W.methodObj (.ref f) (.ref x))
 |.ext φ=>φ h/\(∃o,h.get? a=some o)/\∀h1 h2:Heap,φ h1->(∀o,h1.get? a=some o->h2.get? a=some o)->φ h2
def HOk(H:Hp)(h:Heap):Prop:=∀a o,H a=some o->dJ P w H h a o
end
section
variable{P:Program}{w:World}{H H':Hp}{h h':Heap}{a:Addr}{o:HO}
theorem dJ.lt(x:dJ P w H h a o):a<h.objs.size:=by
 cases o with
 |lst xs=>obtain⟨_,_,_,_,e⟩:=x;exact P4z e
 |tup xs=>obtain⟨_,_,_,p⟩:=x;exact p.lt
 |dK kvs=>obtain⟨_,_,_,_,o,_,_,e,_⟩:=x;exact P4z e
 |dT kvs=>obtain⟨_,_,_,_,o,_,_,e,_⟩:=x;exact P4z e
 |set S n=>obtain⟨o,_,_,_,e,_⟩:=x;exact P4z e
 |ins C dx fs=>obtain⟨_,_,_,e,_⟩:=x;exact P4z e
 |own y=>obtain⟨_,e⟩:=x;exact P4z e
 |xd fs=>obtain⟨_,⟨_,_,_,e,_⟩,_⟩:=x;exact P4z e
 |rng lo hi=>obtain⟨_,_,_,e⟩:=x;exact P4z e
 |frz ob u=>obtain⟨e,_⟩:=x;exact P4z e
 |tbl ps=>exact P4z (show h.get? a=some _ from x)
 |met f y=>exact P4z (show h.get? a=some _ from x)
 |ext φ=>obtain⟨_,⟨_,e⟩,_⟩:=x;exact P4z e
theorem Paired.mapP{α β:Type}{F G:α->β->Prop}:∀{l₁:List α}{l₂:List β},Paired F l₁ l₂->(∀a b,F a b->G a b)->Paired G l₁ l₂
 |_,_,.nil,_=>.nil
 |_,_,.cons r t,f=>.cons (f _ _ r) (Paired.mapP t f)
theorem dJ.stay(x:dJ P w H h a o)(k:∀b u,(b=a\/H b=some (.own a))->h.get? b=some u->h'.get? b=some u)
  (ho:∀b,H b=some (.own a)->H' b=some (.own a)) (ht:∀b xs,H b=some (.tup xs)->H' b=some (.tup xs)):dJ P w H' h' a o:=by
 induction o with
 |lst xs=>obtain⟨z,its,n,r,e⟩:=x;exact⟨z,its,n,r,k _ _ (.inl rfl) e⟩
 |tup xs=>obtain⟨z,its,r,ob,e,c⟩:=x;exact⟨z,its,r,ob,k _ _ (.inl rfl) e,c⟩
 |dK kvs=>obtain⟨z,y,vs,r,ob,es,ep,e,c⟩:=x;exact⟨z,y,vs,r,ob,es,ep,k _ _ (.inl rfl) e,c⟩
 |dT kvs =>
  obtain⟨z,y,xs,r,ob,es,ep,e,c⟩:=x;exact⟨z,y,xs,Paired.mapP r λp q z=>⟨z.1,ht _ _ z.2.1,z.2.2⟩,ob,es,ep,k _ _ (.inl rfl) e,c⟩
 |set S n=>obtain⟨ob,es,ep,t,e,c⟩:=x;exact⟨ob,es,ep,t,k _ _ (.inl rfl) e,c⟩
 |ins C dx fs =>
  obtain⟨d,z,ne,e,mA,⟨od,es,ep,e2,c⟩,r⟩:=x;exact⟨ho _ d,z,ne,k _ _ (.inl rfl) e,mA,⟨od,es,ep,k _ _ (.inr d) e2,c⟩,r⟩
 |own y=>obtain⟨ob,e⟩:=x;exact⟨ob,k _ _ (.inl rfl) e⟩
 |xd fs=>obtain⟨mA,⟨od,es,ep,e,c⟩,r⟩:=x;exact⟨mA,⟨od,es,ep,k _ _ (.inl rfl) e,c⟩,r⟩
 |rng lo hi=>obtain⟨t,u,v,e⟩:=x;exact⟨t,u,v,k _ _ (.inl rfl) e⟩
 |frz ob u ih=>obtain⟨e,q⟩:=x;exact⟨k _ _ (.inl rfl) e,ih q⟩
 |tbl ps =>
  have e:h.get? a=some {cls:=.none,data:=.fields ps}:=x;show h'.get? a=some {cls:=.none,data:=.fields ps};exact k a _ (.inl rfl) e
 |met f y =>
  have e:h.get? a=some (W.methodObj (.ref f) (.ref y)):=x;show h'.get? a=some (W.methodObj (.ref f) (.ref y));exact k a _ (.inl rfl) e
 |ext φ=>obtain⟨p,⟨o,e⟩,st⟩:=x;exact⟨st _ _ p λo q=>k _ _ (.inl rfl) q,⟨o,k _ _ (.inl rfl) e⟩,st⟩
theorem HOk.lt(x:HOk P w H h)(e:H a=some o):a<h.objs.size:=(x a o e).lt
theorem HOk.fresh(x:HOk P w H h)(e:h.objs.size<=a):H a=none:=by
 cases q:H a with
 |none=>rfl
 |some u=>exact absurd (I1z (x.lt q) e) (D4z _)
theorem HOk.kept(x:HOk P w H h)(k:∀b u,h.get? b=some u->h'.get? b=some u):HOk P w H h':=λa o e =>
 (x a o e).stay (λb u _ q=>k b u q) (λ_ q=>q) λ_ _ q=>q
theorem HOk.laid(x:HOk P w H h)(k:∀b u,h.get? b=some u->h'.get? b=some u)(hp:h.objs.size<=a)(new:dJ P w (upd H a o) h' a o):HOk P w (upd H a o) h':=λb u e=>by
 have hn:=x.fresh hp
 by_cases hb:b=a
 .subst hb;rw[aV] at e;cases e;exact new
 .rw[aG hb] at e
  exact(x b u e).stay (λc v _ q=>k c v q) (λc q=>by rw[aG (ao q hn)];exact q) λc xs q=>by rw[aG (ao q hn)];exact q
end
def Rd(H:Hp)(a:Addr)(u:HO):Prop:=H a=some u\/∃o,H a=some (.frz o u)
theorem Rd.ok{P:Program}{w:World}{H:Hp}{h:Heap}{a:Addr}{u:HO}(r:Rd H a u)(x:HOk P w H h):dJ P w H h a u:=by
 rcases r with r|⟨o,r⟩
 .exact x a u r
 .obtain⟨_,q⟩:=x a _ r
  exact q
def Mut:Option HO->Prop
 |some (.lst _)=>True
 |some (.dK _)=>True
 |some (.dT _)=>True
 |some (.set _ _)=>True
 |some (.ins _ _ _)=>True
 |some (.ext _)=>True
 |_=>False
section
variable{P:Program}{w:World}{H:Hp}{h h':Heap}{x e:Addr}{o':HO}
theorem HOk.write(ok:HOk P w H h)(mu:Mut (H x))(he:e=x\/H e=some (.own x))(k:∀b u,b≠e->h.get? b=some u->h'.get? b=some u)(heo:∃u,h'.get? e=some u)
  (new:dJ P w (upd H x o') h' x o'):HOk P w (upd H x o') h':=λb u q=>by
 have nown:∀c y,H c=some (.own y)->c≠x:=λc y r z=>by subst z;rw[r] at mu;exact mu
 have ntup:∀c xs,H c=some (.tup xs)->c≠x:=λc xs r z=>by subst z;rw[r] at mu;exact mu
 by_cases hb:b=x
 .subst hb;rw[aV] at q;cases q;exact new
 .rw[aG hb] at q
  by_cases hbe:b=e
  .have q':H b=some (.own x):=by
    rcases he with z|z
    .exact absurd (hbe.trans z) hb
    .rw[hbe];exact z
   rw[q] at q';cases q'
   obtain⟨v,hv⟩:=heo;exact⟨v,by rw[hbe];exact hv⟩
  .refine(ok b u q).stay (λc v hc r=>k c v ?_ r) (λc r=>by rw[aG (nown c b r)];exact r) λc xs r=>by rw[aG (ntup c xs r)];exact r
   rcases hc with rfl|hc
   .exact hbe
   .rintro rfl
    rcases he with z|z
    .exact nown c b hc z
    .rw[hc] at z;cases z;exact hb rfl
end
structure Un(fs ex:List Addr)(H H':Hp)(h h':Heap):Prop where
 keep:∀b o,h.get? b=some o->H b=none->b∉fs->b∉ex->h'.get? b=some o
 slot:∀b o,h.get? b=some o->H b=none->b∈fs->b∉ex->∃sl,h'.get? b=some {o with slots:=sl}
 free:∀b o,h.get? b=some o->H b=none->b∉ex->H' b=none
 there:∀b o,h.get? b=some o->b∉ex->∃o',h'.get? b=some o'
 tups:∀b xs,H b=some (.tup xs)->H' b=some (.tup xs)
 frzs:∀b o u,H b=some (.frz o u)->H' b=some (.frz o u)
 tbls:∀b ps,H b=some (.tbl ps)->∃more,H' b=some (.tbl (ps++more))
section
variable{fs fs' ex ex':List Addr}{H H1 H2:Hp}{h h1 h2 h':Heap}{a x e:Addr}{o:HO}
theorem Un.any(u:Un fs ex H H1 h h1){b:Addr}{ob:Obj}(q:h.get? b=some ob)(n:H b=none)(hx:b∉ex):∃sl,h1.get? b=some {ob with slots:=sl}:=by
 by_cases hb:b∈fs
 .exact u.slot b ob q n hb hx
 .exact⟨ob.slots,u.keep b ob q n hb hx⟩
theorem Un.trans(a:Un fs ex H H1 h h1)(b:Un fs ex H1 H2 h1 h2):Un fs ex H H2 h h2 where
 keep:=λc ob q n hc hx=>b.keep c ob (a.keep c ob q n hc hx) (a.free c ob q n hx) hc hx
 slot:=λc ob q n hc hx=>by
  obtain⟨sl,e1⟩:=a.slot c ob q n hc hx;obtain⟨sl',e2⟩:=b.slot c _ e1 (a.free c ob q n hx) hc hx;exact⟨sl',e2⟩
 free:=λc ob q n hx=>by
  obtain⟨o',e1⟩:=a.there c ob q hx;exact b.free c o' e1 (a.free c ob q n hx) hx
 there:=λc ob q hx=>by
  obtain⟨o',e1⟩:=a.there c ob q hx;exact b.there c o' e1 hx
 tups:=λc xs q=>b.tups c xs (a.tups c xs q)
 frzs:=λc ob xs q=>b.frzs c ob xs (a.frzs c ob xs q)
 tbls:=λc ps q=>by
  obtain⟨m1,e1⟩:=a.tbls c ps q;obtain⟨m2,e2⟩:=b.tbls c _ e1;exact⟨m1++m2,by rw[e2,Array.append_assoc]⟩
theorem Un.kept(k:∀b u,h.get? b=some u->h'.get? b=some u):Un fs ex H H h h' :=
 ⟨λb ob q _ _ _=>k b ob q,λb ob q _ _ _=>⟨ob.slots,k b ob q⟩,λ_ _ _ n _=>n,λb ob q _=>⟨ob,k b ob q⟩,λ_ _ q=>q,λ_ _ _ q=>q,λ_ ps q=>⟨#[],by rw[q];simp⟩⟩
theorem Un.refl:Un fs ex H H h h:=Un.kept λ_ _ q=>q
theorem Un.laid(k:∀b u,h.get? b=some u->h'.get? b=some u)(hp:h.objs.size<=a)(hn:H a=none):Un fs ex H (upd H a o) h h' where
 keep:=λb u q _ _ _=>k b u q
 slot:=λb u q _ _ _=>⟨u.slots,k b u q⟩
 free:=λb u q n _=>by rw[aG (Q4z (I1z (P4z q) hp))];exact n
 there:=λb u q _=>⟨u,k b u q⟩
 tups:=λb xs q=>by rw[aG (ao q hn)];exact q
 frzs:=λb u xs q=>by rw[aG (ao q hn)];exact q
 tbls:=λb ps q=>⟨#[],by rw[aG (ao q hn),q];simp⟩
theorem Un.write(mu:Mut (H x))(he:e=x\/H e=some (.own x))(k:∀b u,b≠e->h.get? b=some u->h'.get? b=some u)(heo:∃u,h'.get? e=some u):Un fs ex H (upd H x o) h h':=by
 have hx:∀b,H b=none->b≠x:=λb n z=>by subst z;rw[n] at mu;exact mu
 have hb:∀b,H b=none->b≠e:=λb n z=>by
  subst z;rcases he with r|r
  .exact hx b n r
  .rw[n] at r;cases r
 have hm:∀b u,H b=some u->¬ Mut (some u)->b≠x:=λb u q nm z=>by subst z;rw[q] at mu;exact nm mu
 refine⟨λb u q n _ _=>k b u (hb b n) q,λb u q n _ _=>⟨u.slots,k b u (hb b n) q⟩,λb u q n _=>by rw[aG (hx b n)];exact n,λb u q _=>?_,
  λb xs q=>by rw[aG (hm b _ q λz=>z)];exact q,λb u xs q=>by rw[aG (hm b _ q λz=>z)];exact q,λb ps q=>⟨#[],by rw[aG (hm b _ q λz=>z),q];simp⟩⟩
 by_cases hbe:b=e
 .subst hbe;exact heo
 .exact⟨u,k b u hbe q⟩
theorem Un.mono(u:Un fs ex H H1 h h1)(hs:∀b∈fs,b∈fs')(hx:∀b∈ex,b∈ex'):Un fs' ex' H H1 h h1 :=
 ⟨λb ob q n hb he=>u.keep b ob q n (λz=>hb (hs b z)) λz=>he (hx b z),λ_ _ q n _ he=>u.any q n λz=>he (hx _ z),λb ob q n he=>u.free b ob q n λz=>he (hx b z),λb ob q he=>u.there b ob q λz=>he (hx b z),u.tups,u.frzs,u.tbls⟩
end
def trk(h:Heap)(H:Hp):List Addr:=(List.range h.objs.size).filter λa=>(H a).isSome
def yZ(h:Heap)(H:Hp):Heap:=W.hideAll h (trk h H)
theorem vZ(h:Heap)(H:Hp):(yZ h H).objs.size=h.objs.size:=W.hideAll_size _ _
theorem yX{h:Heap}{H:Hp}{b:Addr}{o:Obj}(e:h.get? b=some o)(n:H b=none):(yZ h H).get? b=some o :=
 W.hideAll_get _ e λhm=>by
  have q:(H b).isSome=true:=(List.mem_filter.mp hm).2;rw[n] at q;simp at q
theorem DK{h:Heap}{H:Hp}{b:Addr}{o:Obj}(e:(yZ h H).get? b=some o):h.get? b=some o/\H b=none:=by
 have e':h.get? b=some o:=W.of_hideAll (trk h H) e;refine⟨e',?_⟩
 cases q:H b with
 |none=>rfl
 |some x =>
  have hm:b∈trk h H:=List.mem_filter.mpr ⟨List.mem_range.mpr (P4z e'),by simp[q]⟩;have z:(yZ h H).get? b=none:=W.hideAll_none (trk h H) hm;rw[z] at e;cases e
def Gi(g h:Heap)(L:Addr):List (Addr×Obj):=(List.range h.objs.size).filterMap λa=>if a=L\/(g.get? a).isSome=true then none else(h.get? a).map λo=>(a,o)
def rest(g h:Heap)(L d:Addr):List (Addr×Obj):=(Gi g h L).filter λp=>decide (p.1≠d)
structure Mod(K:Zf)(mg:Str->Option Value)(base:Heap):Prop where
 kin:K.In base
 glob:base.Ns mainGlobals mg
 blt:∃mb,base.Ns builtinsNs mb/\∀x:Str,x≠"__name__"->mb x=bootBuiltins x
 nolimit:base.NoLimit
structure Cx where
 prog:Program
 w:World
 K:Zf
 mg:Str->Option Value
 base:Heap
 A:Around
 N:List Str
 s₀:Shared
 H₀:Hp
 env:Env
 outer:List Env
 stack:List Env
 ex:List Addr
 fn:Str->Bool
 calm:Bool
 pn:List (Addr×Obj)
 xe:Value->Shared->Prop
 lm:Option (Addr×Str):=none
def frs(l:List Env):List Addr:=l.filterMap (·.frame)
abbrev Cx.fs(X:Cx):List Addr:=frs X.outer
def Vis(sc:Scope)(x:Str):Prop:=sc.names.lookup x=some .local\/sc.names.lookup x=some .cell\/sc.names.lookup x=some .free
def Loc(sc:Scope)(x:Str):Prop:=sc.names.lookup x=some .local\/sc.names.lookup x=some .cell
def Look(env:Env)(h:Heap)(m:Str->Option Value)(x:Str)(u:Value):Prop :=
 (env.kindOf x=some .local/\m x=some u)\/((env.kindOf x=some .cell\/env.kindOf x=some .free)/\∃c,env.cells.lookup x=some c/\h.IsCell c (some u))
structure Cx.Ok(X:Cx):Prop where
 mod:Mod X.K X.mg X.base
 kind:X.env.scope.kind=.function
 glob:X.env.globals=mainGlobals
 blt:X.env.builtins=builtinsNs
 above:X.s₀.heap.objs.size<=X.env.locals
 inj:∀x y c,X.env.cells.lookup x=some c->X.env.cells.lookup y=some c->x=y
 has:∀x,(X.env.kindOf x=some .cell\/X.env.kindOf x=some .free)->∃c,X.env.cells.lookup x=some c
 cab:∀x c,X.fn x=true->X.env.cells.lookup x=some c->X.s₀.heap.objs.size<=c
 hd:X.calm=true->X.A.handled=none
 frames:X.A.frames=some X.stack
 stk:X.stack=X.outer\/(X.stack=X.env::X.outer/\X.env.frame=some X.env.locals)
 exf:∀b∈X.ex,b≠X.env.locals/\∀x c,X.env.cells.lookup x=some c->c≠b
 bs:∀b o,X.base.get? b=some o->X.s₀.heap.get? b=some o/\X.H₀ b=none
 bsz:X.base.objs.size<=X.s₀.heap.objs.size
 noex:∀b o,X.base.get? b=some o->b∉X.ex
 exfs:∀b∈X.ex,b∉X.fs
 funs:X.s₀.heap.FunFrames X.base X.outer
 frf:∀b∈X.fs,X.H₀ b=none
structure Inv(X:Cx)(z0:List (Addr×Obj))(O:List (Option V))(H:Hp)(s:Shared):Prop where
 ok:X.Ok
 os:s.os=X.s₀.os
 bare:AllBare s.gens
 base:Un X.fs X.ex X.H₀ H X.s₀.heap s.heap
 loc:∃m,s.heap.Ns X.env.locals m/\∀(i:Nat)(x:Str)(v:V),X.N[i]?=some x->O[i]?=some (some v)->Vis X.env.scope x->∃u,RelV v u/\Look X.env s.heap m x u
 cell:∀x c,X.env.cells.lookup x=some c->∃v,s.heap.IsCell c v
 free:H X.env.locals=none
 freeC:∀x c,X.env.cells.lookup x=some c->H c=none
 pin:∀p∈X.pn++z0,s.heap.get? p.1=some p.2/\H p.1=none/\p.1≠X.env.locals/\p.1∉X.fs/\∀v,p.2.data≠.cell v
 hok:HOk X.prog X.w H s.heap
 len:O.length=X.N.length
section
variable{X:Cx}{z0:List (Addr×Obj)}{O:List (Option V)}{H H':Hp}{s:Shared}{h':Heap}
theorem Cx.Ok.nofr(ok:X.Ok){b:Addr}{o:Obj}(e:X.base.get? b=some o):b∉X.fs:=λhb=>by
 have:=(ok.funs.mem hb).1;rw[e] at this;cases this
theorem Inv.bs(I:Inv X z0 O H s):∀b o,X.base.get? b=some o->s.heap.get? b=some o/\H b=none:=λb o e =>
 ⟨I.base.keep b o (I.ok.bs b o e).1 (I.ok.bs b o e).2 (I.ok.nofr e) (I.ok.noex b o e),I.base.free b o (I.ok.bs b o e).1 (I.ok.bs b o e).2 (I.ok.noex b o e)⟩
theorem Inv.bk(I:Inv X z0 O H s):∀b o,X.base.get? b=some o->s.heap.get? b=some o:=λb o e=>(I.bs b o e).1
theorem Inv.mod(I:Inv X z0 O H s):Mod X.K X.mg X.base:=I.ok.mod
theorem Inv.kIn(I:Inv X z0 O H s):X.K.In s.heap:=I.ok.mod.kin.keeps I.bk
theorem Inv.lt(I:Inv X z0 O H s):X.env.locals<s.heap.objs.size:=let ⟨_,hn,_⟩:=I.loc;hn.lt
theorem Inv.sz(I:Inv X z0 O H s):X.s₀.heap.objs.size<=s.heap.objs.size:=R4z I.ok.above (S4z I.lt)
theorem Inv.nofs(I:Inv X z0 O H s){a:Addr}(h:s.heap.objs.size<=a):a∉X.fs:=λhb=>by
 obtain⟨_,o,ho,_⟩:=I.ok.funs.mem hb;exact absurd (I1z (P4z ho) (R4z I.sz h)) (D4z _)
theorem Inv.cne(I:Inv X z0 O H s):∀x c,X.env.cells.lookup x=some c->c≠X.env.locals:=λx c e z=>by
 obtain⟨v,o,ho,hd⟩:=I.cell x c e;obtain⟨m,⟨o',es,ep,ho',hd',_⟩,_⟩:=I.loc;rw[z,ho'] at ho;cases ho;rw[hd'] at hd;cases hd
theorem Inv.funs(I:Inv X z0 O H s):s.heap.FunFrames X.base X.outer:=by
 have all:∀(l:List Env),(∀b∈frs l,b∈X.fs)->X.s₀.heap.FunFrames X.base l->s.heap.FunFrames X.base l:=by
  intro l
  induction l with
  |nil=>intro _ _;trivial
  |cons env r ih =>
   intro hs hl;obtain⟨hk,⟨L,o,hf,hn,ho,hd⟩,hr⟩:=hl;have hL:L∈X.fs:=hs L (by unfold frs;rw[C1z,hf];exact J1z);obtain⟨sl,e⟩:=I.base.slot L o ho (I.ok.frf L hL) hL λz=>I.ok.exfs L z hL;exact⟨hk,⟨L,_,hf,hn,e,hd⟩,ih (λb hb=>hs b (by unfold frs;rw[C1z,hf];exact S0z _ hb)) hr⟩
 exact all X.outer (λ_ hb=>hb) I.ok.funs
theorem Inv.stack(I:Inv X z0 O H s):s.heap.FunFrames X.base X.stack:=by
 rcases I.ok.stk with e|⟨e,hf⟩
 .rw[e];exact I.funs
 .rw[e]
  obtain⟨m,hn,_⟩:=I.loc;refine .cons (by rw[I.ok.kind];decide) hf hn ?_ I.funs;exact Heap.get?_none_of_le (R4z I.ok.bsz I.ok.above)
theorem Inv.stkSub(I:Inv X z0 O H s):∀b∈frs X.stack,b∈X.env.locals::X.fs:=λb hb=>by
 rcases I.ok.stk with e|⟨e,hf⟩
 .rw[e] at hb;exact S0z _ hb
 .rw[e] at hb
  unfold frs at hb;rw[C1z,hf] at hb;exact hb
theorem Inv.stkFree(I:Inv X z0 O H s):∀b∈frs X.stack,H b=none:=λb hb=>by
 rcases L4z.mp (I.stkSub b hb) with e|hb
 .rw[e];exact I.free
 .obtain⟨_,o,ho,_⟩:=I.ok.funs.mem hb
  exact I.base.free b o ho (I.ok.frf b hb) λz=>I.ok.exfs b z hb
theorem Inv.step{g':Array GenState}{t':Nat}{d':Drawn}{ch:List Addr}(I:Inv X z0 O H s)
  (hch:∀b∈ch,(b∈X.ex\/X.s₀.heap.objs.size<=b)/\b≠X.env.locals/\(∀x c,X.env.cells.lookup x=some c->c≠b)/\∀p∈X.pn++z0,p.1≠b)
  (keep:∀b o,b≠X.env.locals->b∉X.fs->b∉ch->s.heap.get? b=some o->H b=none->h'.get? b=some o)
  (slot:∀b o,b≠X.env.locals->b∈X.fs->b∉ch->s.heap.get? b=some o->H b=none->∃sl,h'.get? b=some {o with slots:=sl}) (free:∀b o,b∉ch->s.heap.get? b=some o->H b=none->H' b=none)
  (there:∀b o,b∉ch->s.heap.get? b=some o->∃o',h'.get? b=some o')
  (tups:∀b xs,H b=some (.tup xs)->H' b=some (.tup xs)) (frzs:∀b o u,H b=some (.frz o u)->H' b=some (.frz o u)) (tbls:∀b ps,H b=some (.tbl ps)->∃more,H' b=some (.tbl (ps++more)))
  (ns:∀m,s.heap.Ns X.env.locals m->h'.Ns X.env.locals m) (hok:HOk X.prog X.w H' h') (hg:AllBare g') :
  Inv X z0 O H' {s with heap:=h',gens:=g',drawn:=d',toks:=t'}:=by
 have neL:∀b o,X.s₀.heap.get? b=some o->b≠X.env.locals:=λb o e=>Q4z (I1z (P4z e) I.ok.above)
 have neC:∀b o,X.s₀.heap.get? b=some o->b∉X.ex->b∉ch:=λb o e hx hb=>by
  rcases(hch b hb).1 with z|z
  .exact hx z
  .exact absurd (I1z (P4z e) z) (D4z _)
 have cellK:∀x c,X.env.cells.lookup x=some c->∀v,s.heap.IsCell c v->h'.IsCell c v:=λx c e v ⟨o,ho,hd⟩=>by
  have nch:c∉ch:=λz=>(hch c z).2.2.1 x c e rfl
  by_cases hc:c∈X.fs
  .obtain⟨sl,q⟩:=slot c o (I.cne x c e) hc nch ho (I.freeC x c e)
   exact⟨_,q,hd⟩
  .exact⟨o,keep c o (I.cne x c e) hc nch ho (I.freeC x c e),hd⟩
 refine⟨I.ok,I.os,hg,⟨λb o e n hb hx=>?_,λb o e n hb hx=>?_,λb o e n hx=>?_,λb o e hx=>?_,λb xs e=>tups b xs (I.base.tups b xs e),λb o xs e=>frzs b o xs (I.base.frzs b o xs e),λb ps e=>?_⟩,?_,λx c e=>?_,?_,λx c e=>?_,λp hp=>?_,hok,I.len⟩
 .exact keep b o (neL b o e) hb (neC b o e hx) (I.base.keep b o e n hb hx) (I.base.free b o e n hx)
 .obtain⟨sl,e1⟩:=I.base.slot b o e n hb hx
  obtain⟨sl',e2⟩:=slot b _ (neL b o e) hb (neC b o e hx) e1 (I.base.free b o e n hx);exact⟨sl',e2⟩
 .obtain⟨o',e1⟩:=I.base.there b o e hx
  exact free b o' (neC b o e hx) e1 (I.base.free b o e n hx)
 .obtain⟨o',e1⟩:=I.base.there b o e hx
  exact there b o' (neC b o e hx) e1
 .obtain⟨m1,e1⟩:=I.base.tbls b ps e
  obtain⟨m2,e2⟩:=tbls b _ e1;exact⟨m1++m2,by rw[e2,Array.append_assoc]⟩
 .obtain⟨m,hn,hl⟩:=I.loc
  refine⟨m,ns m hn,λi x v e1 e2 e3=>?_⟩;obtain⟨u,r,l⟩:=hl i x v e1 e2 e3;refine⟨u,r,?_⟩;rcases l with l|⟨k,c,e,z⟩
  .exact .inl l
  .exact .inr ⟨k,c,e,cellK x c e _ z⟩
 .obtain⟨v,z⟩:=I.cell x c e
  exact⟨v,cellK x c e v z⟩
 .obtain⟨m,⟨o,_,_,ho,_⟩,_⟩:=I.loc
  exact free _ o (λz=>(hch _ z).2.1 rfl) ho I.free
 .obtain⟨v,o,ho,hd⟩:=I.cell x c e
  exact free c o (λz=>(hch c z).2.2.1 x c e rfl) ho (I.freeC x c e)
 .obtain⟨e,n,ne,nf,d⟩:=I.pin p hp
  have nch:p.1∉ch:=λz=>(hch p.1 z).2.2.2 p hp rfl;exact⟨keep p.1 p.2 ne nf nch e n,free p.1 p.2 nch e n,ne,nf,d⟩
theorem Inv.un{t':Nat}(I:Inv X z0 O H s)(u:Un X.fs [] H H' s.heap h')(hok:HOk X.prog X.w H' h'):Inv X z0 O H' {s with heap:=h',toks:=t'}:=by
 obtain⟨m,⟨o,es,ep,ho,r⟩,_⟩:=id I.loc;obtain⟨sl,hL⟩:=u.any ho I.free (by simp)
 exact I.step (g':=s.gens) (d':=s.drawn) (ch:=[]) (λ_ z=>nomatch z) (λb o _ hb _ e n=>u.keep b o e n hb (by simp)) (λb o _ hb _ e n=>u.slot b o e n hb (by simp)) (λb o _ e n=>u.free b o e n (by simp)) (λb o _ e=>u.there b o e (by simp)) u.tups u.frzs u.tbls (λm' hm=>by
  obtain⟨o',es',ep',ho',r'⟩:=hm;rw[ho] at ho';cases ho'
  exact⟨_,es',ep',hL,r'⟩) hok I.bare
theorem Inv.call{g':Array GenState}{t':Nat}{d':Drawn}{ch:List Addr}(I:Inv X z0 O H s)(u:Un (frs X.stack) ch H H' s.heap h')(hok:HOk X.prog X.w H' h')(hg:AllBare g')
  (hch:∀b∈ch,(b∈X.ex\/X.s₀.heap.objs.size<=b)/\b≠X.env.locals/\(∀x c,X.env.cells.lookup x=some c->c≠b)/\∀p∈X.pn++z0,p.1≠b) :
  Inv X z0 O H' {s with heap:=h',gens:=g',drawn:=d',toks:=t'}:=by
 obtain⟨m,⟨o,es,ep,ho,r⟩,_⟩:=id I.loc;obtain⟨sl,hL⟩:=u.any ho I.free λz=>(hch _ z).2.1 rfl
 exact I.step (ch:=ch) hch (λb o hL hb hc e n=>u.keep b o e n (λz=>(L4z.mp (I.stkSub b z)).elim hL hb) hc) (λb o _ _ hc e n=>u.any e n hc) (λb o hc e n=>u.free b o e n hc) (λb o hc e=>u.there b o e hc) u.tups u.frzs u.tbls (λm' hm=>by
  obtain⟨o',es',ep',ho',r'⟩:=hm;rw[ho] at ho';cases ho'
  exact⟨_,es',ep',hL,r'⟩) hok hg
theorem Inv.turned{t':Nat}{it:Addr}(I:Inv X z0 O H s)(k:∀b o,b≠it->s.heap.get? b=some o->h'.get? b=some o)(hn:H it=none)(hL:it≠X.env.locals)
  (h1:it∈X.ex\/X.s₀.heap.objs.size<=it) (h2:∀x c,X.env.cells.lookup x=some c->c≠it) (h3:∀p∈X.pn++z0,p.1≠it):Inv X z0 O H {s with heap:=h',toks:=t'}:=by
 have nit:∀b u,H b=some u->b≠it:=λb u e z=>by rw[z,hn] at e;cases e
 refine I.step (g':=s.gens) (d':=s.drawn) (ch:=[it]) (λb hb=>?_) (λb o _ _ hc e _=>k b o (λz=>hc (by simp[z])) e) (λb o _ _ hc e _=>⟨o.slots,k b o (λz=>hc (by simp[z])) e⟩) (λ_ _ _ _ n=>n)
  (λb o hc e=>⟨o,k b o (λz=>hc (by simp[z])) e⟩) (λ_ _ e=>e) (λ_ _ _ e=>e) (λb ps e=>⟨#[],by rw[e];simp⟩) (λm hm=>?_) (λb u e=>?_) I.bare
 .have e:b=it:=by simpa using hb
  subst e;exact⟨h1,hL,h2,h3⟩
 .obtain⟨o,es,ep,ho,r⟩:=hm
  exact⟨o,es,ep,k _ o (N5z hL) ho,r⟩
 .refine(I.hok b u e).stay (λc v hc q=>k c v ?_ q) (λ_ q=>q) λ_ _ q=>q
  rcases hc with z|z
  .rw[z];exact nit b u e
  .exact nit c _ z
theorem Inv.tok(I:Inv X z0 O H s)(t:Nat):Inv X z0 O H {s with toks:=t}:=I.un (h':=s.heap) (t':=t) Un.refl I.hok
theorem Inv.kept{t':Nat}(I:Inv X z0 O H s)(k:∀b u,s.heap.get? b=some u->h'.get? b=some u):Inv X z0 O H {s with heap:=h',toks:=t'}:=I.un (Un.kept k) (I.hok.kept k)
theorem Inv.laid{a:Addr}{o:HO}{t':Nat}(I:Inv X z0 O H s)(k:∀b u,s.heap.get? b=some u->h'.get? b=some u)(hp:s.heap.objs.size<=a)(new:dJ X.prog X.w (upd H a o) h' a o) :
  Inv X z0 O (upd H a o) {s with heap:=h',toks:=t'}:=I.un (Un.laid k hp (I.hok.fresh hp)) (I.hok.laid k hp new)
theorem Inv.write{x e:Addr}{o:HO}{t':Nat}(I:Inv X z0 O H s)(mu:Mut (H x))(he:e=x\/H e=some (.own x))(k:∀b u,b≠e->s.heap.get? b=some u->h'.get? b=some u)(heo:∃u,h'.get? e=some u)
  (new:dJ X.prog X.w (upd H x o) h' x o):Inv X z0 O (upd H x o) {s with heap:=h',toks:=t'}:=I.un (Un.write mu he k heo) (I.hok.write mu he k heo new)
theorem Inv.pins_of{pins':List (Addr×Obj)}(I:Inv X z0 O H s)(h:∀p∈pins',s.heap.get? p.1=some p.2/\H p.1=none/\p.1≠X.env.locals/\p.1∉X.fs/\∀v,p.2.data≠.cell v):Inv X pins' O H s :=
 ⟨I.ok,I.os,I.bare,I.base,I.loc,I.cell,I.free,I.freeC,λp hp=>(List.mem_append.mp hp).elim (λz=>I.pin p (T0z _ z)) (h p),I.hok,I.len⟩
theorem lE{N:List Str}(hN:N.Nodup){i j:Nat}{x:Str}(a:N[i]?=some x)(b:N[j]?=some x):i=j:=by
 obtain⟨h1,e1⟩:=List.getElem?_eq_some_iff.mp a;obtain⟨h2,e2⟩:=List.getElem?_eq_some_iff.mp b;exact(List.getElem_inj hN).mp (e1.trans e2.symm)
theorem uF{M:Model}{A:Around}{E:Value->Shared->Prop}{i:Nat}{x:Str}{v:V}{u:Value}{Q:Unit->Shared->Prop}(I:Inv X z0 O H s)(hN:X.N.Nodup)(hi:X.N[i]?=some x)(hx:Loc X.env.scope x)(r:RelV v u)
  (h:∀s',Inv X z0 (O.set i (some v)) H s'->(∃a,Heap.SameBut a s.heap s'.heap/\(a=X.env.locals\/X.env.cells.lookup x=some a))->Q () s') (hf:X.fn x=true\/X.env.scope.names.lookup x=some .local:=by first|exact .inl rfl|exact .inr rfl|assumption):wpAny M A (storeName X.env x u) Q E s:=by
 obtain⟨m,hn,hl⟩:=id I.loc
 have hcls:(X.env.scope.kind==.class||(X.env.scope.kind==.module&&X.env.locals !=X.env.globals))=false:=by rw[I.ok.kind];rfl
 have hiO:i<O.length:=by rw[I.len];exact(List.getElem?_eq_some_iff.mp hi).1
 have cne:=I.cne
 have tracked:∀{a:Addr}{h':Heap},(∃o,s.heap.get? a=some o/\H a=none)->Heap.SameBut a s.heap h'->HOk X.prog X.w H h':=λ{a h'} ha hs b ob e=>by
  obtain⟨_,_,hfree⟩:=ha;refine(I.hok b ob e).stay (λc w' hc q=>(hs.2 c ?_).trans q) (λ_ q=>q) λ_ _ q=>q;rintro rfl;rcases hc with rfl|hc
  .rw[hfree] at e;cases e
  .rw[hfree] at hc;cases hc
 rcases hx with hk|hk
 .refine wpAny_storeName_local hk hn (λh' hn' hs=>?_) hcls
  obtain⟨oL,_,_,hoL,_⟩:=id hn;refine h _ ⟨I.ok,I.os,I.bare,⟨λb o e n hb hx=>?_,λb o e n hb hx=>?_,I.base.free,λb o e hx=>?_,I.base.tups,I.base.frzs,I.base.tbls⟩,⟨_,hn',λj y v' e1 e2 e3=>?_⟩,λy c e=>?_,I.free,I.freeC,λp hp=>?_,tracked ⟨oL,hoL,I.free⟩ hs,by simpa using I.len⟩ ⟨_,hs,.inl rfl⟩
  .exact(hs.2 b (Q4z (I1z (P4z e) I.ok.above))).trans (I.base.keep b o e n hb hx)
  .obtain⟨sl,e1⟩:=I.base.slot b o e n hb hx
   exact⟨sl,(hs.2 b (Q4z (I1z (P4z e) I.ok.above))).trans e1⟩
  .obtain⟨o',e1⟩:=I.base.there b o e hx
   exact⟨o',(hs.2 b (Q4z (I1z (P4z e) I.ok.above))).trans e1⟩
  .by_cases hj:j=i
   .subst hj
    rw[hi] at e1;cases e1
    rw[List.getElem?_set_self hiO] at e2;cases e2;exact⟨u,r,.inl ⟨hk,by simp⟩⟩
   .rw[List.getElem?_set_ne (N5z hj)] at e2
    obtain⟨u',r',q⟩:=hl j y v' e1 e2 e3;refine⟨u',r',?_⟩;rcases q with⟨k,e⟩|⟨k,c,e,z⟩
    .refine .inl ⟨k,?_⟩
     have:y≠x:=λe=>hj (lE hN e1 (e▸hi));simp[this,e]
    .exact .inr ⟨k,c,e,z.sameBut hs (cne y c e)⟩
  .obtain⟨w',z⟩:=I.cell y c e
   exact⟨w',z.sameBut hs (cne y c e)⟩
  .obtain⟨e,n,ne,nf,d⟩:=I.pin p hp
   exact⟨(hs.2 p.1 ne).trans e,n,ne,nf,d⟩
 .have hfn:X.fn x=true:=by
   rcases hf with z|z
   .exact z
   .rw[z] at hk;cases hk
  obtain⟨c,hc⟩:=I.ok.has x (.inl hk);obtain⟨w',z⟩:=I.cell x c hc;refine wpAny_storeName_cell I.ok.kind hk hc z (λh' hc' hs=>?_);obtain⟨oc,hoc,hocd⟩:=id z;refine h {s with heap:=h'} ⟨I.ok,I.os,I.bare,⟨λb o e n hb hx=>?_,λb o e n hb hx=>?_,I.base.free,λb o e hx=>?_,I.base.tups,I.base.frzs,I.base.tbls⟩,⟨m,hn.sameBut hs (N5z (cne x c hc)),λj y v' e1 e2 e3=>?_⟩,λy c' e=>?_,I.free,I.freeC,λp hp=>?_,tracked ⟨oc,hoc,I.freeC x c hc⟩ hs,by simpa using I.len⟩ ⟨c,hs,.inr hc⟩
  .exact(hs.2 b (Q4z (I1z (P4z e) (I.ok.cab x c hfn hc)))).trans (I.base.keep b o e n hb hx)
  .obtain⟨sl,e1⟩:=I.base.slot b o e n hb hx
   exact⟨sl,(hs.2 b (Q4z (I1z (P4z e) (I.ok.cab x c hfn hc)))).trans e1⟩
  .obtain⟨o',e1⟩:=I.base.there b o e hx
   exact⟨o',(hs.2 b (Q4z (I1z (P4z e) (I.ok.cab x c hfn hc)))).trans e1⟩
  .by_cases hj:j=i
   .subst hj
    rw[hi] at e1;cases e1
    rw[List.getElem?_set_self hiO] at e2;cases e2;exact⟨u,r,.inr ⟨.inl hk,c,hc,hc'⟩⟩
   .rw[List.getElem?_set_ne (N5z hj)] at e2
    obtain⟨u',r',q⟩:=hl j y v' e1 e2 e3;refine⟨u',r',?_⟩;rcases q with q|⟨k,c',e,z'⟩
    .exact .inl q
    .refine .inr ⟨k,c',e,z'.sameBut hs ?_⟩
     rintro rfl;exact hj (lE hN e1 (I.ok.inj _ _ _ e hc▸hi))
  .by_cases hcc:c'=c
   .subst hcc;exact⟨_,hc'⟩
   .obtain⟨w2,z2⟩:=I.cell y c' e
    exact⟨w2,z2.sameBut hs hcc⟩
  .obtain⟨e,n,ne,nf,d⟩:=I.pin p hp
   refine⟨(hs.2 p.1 ?_).trans e,n,ne,nf,d⟩;intro q;rw[q,hoc] at e;have q':oc=p.2:=D3z e;exact d w' (by rw[<- q'];exact hocd)
theorem fU{M:Model}{A:Around}{E:Value->Shared->Prop}{i:Nat}{x:Str}{v:V}{u:Value}{Q:Unit->Shared->Prop}(I:Inv X z0 O H s)(hN:X.N.Nodup)(hi:X.N[i]?=some x)(hx:Loc X.env.scope x)(r:RelV v u)
  (h:∀s',Inv X z0 (O.set i (some v)) H s'->Q () s') (hf:X.fn x=true\/X.env.scope.names.lookup x=some .local:=by first|exact .inl rfl|exact .inr rfl|assumption):wpAny M A (storeName X.env x u) Q E s :=
 uF I hN hi hx r (λs' I' _=>h s' I') hf
theorem Inv.call'{s':Shared}{ch:List Addr}(I:Inv X z0 O H s)(ho:s'.os=s.os)(u:Un (frs X.stack) ch H H' s.heap s'.heap)(hok:HOk X.prog X.w H' s'.heap)(hg:AllBare s'.gens)
  (hch:∀b∈ch,(b∈X.ex\/X.s₀.heap.objs.size<=b)/\b≠X.env.locals/\(∀x c,X.env.cells.lookup x=some c->c≠b)/\∀p∈X.pn++z0,p.1≠b):Inv X z0 O H' s':=by
 obtain⟨h',g',d',t',o'⟩:=s';have e:o'=s.os:=ho;subst e;exact I.call (g':=g') (t':=t') (d':=d') u hok hg hch
end
abbrev XK:=Value->Option Addr->Hp->Prop
abbrev St:=List (Option V)
abbrev VK:=V->Hp->Prop
abbrev TE:=St->Hp->VK->Prop
abbrev TT:=St->Hp->(Bool->Hp->Prop)->Prop
abbrev TA:=St->Hp->(List V->Hp->Prop)->Prop
structure Ends where
 nx:St->Hp->Prop
 rt:VK
 bk:St->Hp->Prop:=λ_ _=>False
 ct:St->Hp->Prop:=λ_ _=>False
abbrev TS:=Ends->St->Hp->Prop
def EP(X:Cx)(z0:List (Addr×Obj))(O:St)(Q:VK)(u:Value)(s':Shared):Prop:=∃v H',Inv X z0 O H' s'/\RelV v u/\Q v H'
def TP(X:Cx)(z0:List (Addr×Obj))(O:St)(Q:Bool->Hp->Prop)(b:Bool)(s':Shared):Prop:=∃H',Inv X z0 O H' s'/\Q b H'
def AP(X:Cx)(z0:List (Addr×Obj))(O:St)(Q:List V->Hp->Prop)(us:List Value)(s':Shared):Prop:=∃vs H',Inv X z0 O H' s'/\Vals vs us/\Q vs H'
def SP(X:Cx)(z0:List (Addr×Obj))(D:Ends)(f:Flow)(s':Shared):Prop :=
 match f with
 |.next=>∃O' H',Inv X z0 O' H' s'/\D.nx O' H'
 |.brk=>∃O' H',Inv X z0 O' H' s'/\D.bk O' H'
 |.cont=>∃O' H',Inv X z0 O' H' s'/\D.ct O' H'
 |.ret u=>∃v O' H',Inv X z0 O' H' s'/\RelV v u/\D.rt v H'
def PE(X:Cx)(e:Expr)(t:TE):Prop :=
 ∀(z0:List (Addr×Obj))(s:Shared)(O:St)(H:Hp)(Q:VK),Inv X z0 O H s->t O H Q->wpAny (model X.prog X.w) X.A (eval e X.env) (EP X z0 O Q) X.xe s
def PT(X:Cx)(e:Expr)(t:TT):Prop :=
 ∀(z0:List (Addr×Obj))(s:Shared)(O:St)(H:Hp)(Q:Bool->Hp->Prop),Inv X z0 O H s->t O H Q->wpAny (model X.prog X.w) X.A (isTrue e X.env (eval e X.env)) (TP X z0 O Q) X.xe s
def PW(X:Cx)(e:Expr)(t:TT):Prop :=
 ∀(whole:Sem Value)(z0:List (Addr×Obj))(s:Shared)(O:St)(H:Hp)(Q:Bool->Hp->Prop),Inv X z0 O H s->t O H Q->wpAny (model X.prog X.w) X.A (isTrue e X.env whole) (TP X z0 O Q) X.xe s
def PA(X:Cx)(es:List Expr)(t:TA):Prop :=
 ∀(pos:Pos)(z0:List (Addr×Obj))(s:Shared)(O:St)(H:Hp)(Q:List V->Hp->Prop),Inv X z0 O H s->t O H Q->wpAny (model X.prog X.w) X.A (spliced (backTo pos (starEach es X.env))) (AP X z0 O Q) X.xe s
def PS(X:Cx)(st:Stmt)(t:TS):Prop :=
 ∀(z0:List (Addr×Obj))(s:Shared)(O:St)(H:Hp)(D:Ends),Inv X z0 O H s->t D O H->wpAny (model X.prog X.w) X.A (exec st X.env) (SP X z0 D) X.xe s
def PSs(X:Cx)(st:List Stmt)(t:TS):Prop :=
 ∀(z0:List (Addr×Obj))(s:Shared)(O:St)(H:Hp)(D:Ends),Inv X z0 O H s->t D O H->wpAny (model X.prog X.w) X.A (execs st X.env) (SP X z0 D) X.xe s
theorem thn{α:Type}{t:Sem α}{Q Q':α->Shared->Prop}{M:Model}{A:Around}{E:Value->Shared->Prop}{s:Shared}(h:wpAny M A t Q E s)(hQ:∀a s,Q a s->Q' a s):wpAny M A t Q' E s:=B5z h hQ λ_ _ x=>x
section
variable{X:Cx}
def QG(i:Nat):TE:=λO H Q=>∃v,O[i]?=some (some v)/\Q v H
def tC(v:V):TE:=λ_ H Q=>Q v H
theorem mY{i:Nat}{x:Str}{pos:Pos}(hN:X.N[i]?=some x)(hv:Vis X.env.scope x)(hd:(x==("__debug__":Str))=false:=by decide)(hcd:(x==("__classdict__":Str))=false:=by decide):PE X (.Name x pos) (QG i):=by
 intro z0 s O H Q I h;obtain⟨v,e,h⟩:=h;obtain⟨m,hn,hl⟩:=I.loc;obtain⟨u,r,l⟩:=hl i x v hN e hv;have fin:EP X z0 O Q u s:=⟨v,H,I,r,h⟩;rcases l with⟨hk,hm⟩|⟨hk,c,hc,hcell⟩
 .exact wpAny_Name (wpAny_loadName_local I.ok.kind hk hn hm fin) hd
 .rcases hk with hk|hk
  .exact wpAny_Name (wpAny_loadName_cell I.ok.kind hk hc hcell fin) hd
  .exact wpAny_Name (wpAny_loadName_free I.ok.kind hk hc hcell fin hcd) hd
theorem IK{i j pos}:PE X (.Constant (.int i) j pos) (tC (.int i)):=λ_ _ _ H _ I h=>wpAny_Constant_int ⟨.int i,H,I.tok _,⟨_,rfl⟩,h⟩
theorem Mw{b j pos}:PE X (.Constant (.bool b) j pos) (tC (.bl b)):=λ_ _ _ H _ I h=>Constant_bool ⟨.bl b,H,I,rfl,h⟩
theorem Iz{j pos}:PE X (.Constant .none j pos) (tC .non):=λ_ _ _ H _ I h=>Constant_none ⟨.non,H,I,rfl,h⟩
theorem Av{x j pos}:PE X (.Constant (.str x) j pos) (tC (.str x)):=λ_ _ _ H _ I h=>Calls.Constant_str ⟨.str x,H,I.tok _,⟨_,rfl⟩,h⟩
def Gl(X:Cx)(x:Str):Prop:=X.env.kindOf x=some .globalImplicit
theorem gB{E:Value->Shared->Prop}{z0:List (Addr×Obj)}{s:Shared}{O:St}{H:Hp}{x:Str}{u:Value}{pos:Pos}{Q:Value->Shared->Prop}(I:Inv X z0 O H s)(hg:Gl X x)(hm:X.mg x=some u)(h:Q u s)
  (hd:(x==("__debug__":Str))=false:=by decide):wpAny (model X.prog X.w) X.A (eval (.Name x pos) X.env) Q E s :=
 Calls.Name_function_global I.ok.kind hg (Calls.loadGlobal_global (by rw[I.ok.glob];exact I.mod.glob.keeps I.bk) hm h) hd
theorem fY{E:Value->Shared->Prop}{z0:List (Addr×Obj)}{s:Shared}{O:St}{H:Hp}{x:Str}{u:Value}{pos:Pos}{Q:Value->Shared->Prop}(I:Inv X z0 O H s)(hg:Gl X x)(hm:X.mg x=none)(hv:bootBuiltins x=some u)(h:Q u s)
  (hn:x≠"__name__":=by decide) (hd:(x==("__debug__":Str))=false:=by decide):wpAny (model X.prog X.w) X.A (eval (.Name x pos) X.env) Q E s:=by
 obtain⟨mb,h1,h2⟩:=I.mod.blt;exact Calls.Name_function_global I.ok.kind hg (Calls.loadGlobal_builtin (by rw[I.ok.glob];exact I.mod.glob.keeps I.bk) hm (by rw[I.ok.blt];exact h1.keeps I.bk) ((h2 x hn).trans hv) h) hd
theorem pA{x:Str}{v:V}{u:Value}{pos:Pos}(hg:Gl X x)(hm:X.mg x=some u)(r:RelV v u)(hd:(x==("__debug__":Str))=false:=by decide):PE X (.Name x pos) (tC v) :=
 λ_ _ _ H _ I h=>gB I hg hm ⟨v,H,I,r,h⟩ hd
theorem vp{x:Str}{v:V}{u:Value}{pos:Pos}(hg:Gl X x)(hm:X.mg x=none)(hv:bootBuiltins x=some u)(r:RelV v u)(hn:x≠"__name__":=by decide)(hd:(x==("__debug__":Str))=false:=by decide):PE X (.Name x pos) (tC v) :=
 λ_ _ _ H _ I h=>fY I hg hm hv ⟨v,H,I,r,h⟩ hn hd
variable{a b:Expr}{ta tb:TE}{pos:Pos}
def tB(t:TE):TT:=λO H Q=>t O H λx H1=>∃c,x=.bl c/\Q c H1
theorem Ie{e:Expr}{t:TE}(h:PE X e t)(he:∀whole,isTrue e X.env whole=(do let v <- whole;standAt e.pos;holding [v] (truthy v)):=by intro _;rfl):PT X e (tB t):=by
 intro z0 s O H Q I hw;refine isTrue_plain (thn (h z0 s O H _ I hw) λv s1 ⟨x,H1,I1,r1,q1⟩=>?_) (he _);obtain⟨d,rfl,q⟩:=q1;cases r1;exact V1z ⟨H1,I1,q⟩
variable{tA tB':TT}{rest:List Expr}
def Ti(t u:TT):TT:=λO H Q=>t O H λc H1=>if c=true then u O H1 Q else Q false H1
def tOr(t u:TT):TT:=λO H Q=>t O H λc H1=>if c=true then Q true H1 else u O H1 Q
def Td(t:TT):TT:=λO H Q=>t O H λc H1=>Q (!c) H1
theorem CW(ha:PT X a tA):PW X (.BoolOp .And [a] pos) tA:=by
 intro wh z0 s O H Q I h;refine isTrue_and (thn (ha z0 s O H Q I h) λc s1 e=>?_)
 cases c with
 |true=>exact isTrue_and_nil e
 |false=>exact e
theorem Ia(ha:PT X a tA):PW X (.BoolOp .Or [a] pos) tA:=by
 intro wh z0 s O H Q I h;refine isTrue_or (thn (ha z0 s O H Q I h) λc s1 e=>?_)
 cases c with
 |false=>exact isTrue_or_nil e
 |true=>exact e
theorem Am(ha:PT X a tA)(hb:PW X (.BoolOp .And (b::rest) pos) tB'):PW X (.BoolOp .And (a::b::rest) pos) (Ti tA tB'):=by
 intro wh z0 s O H Q I h;refine isTrue_and (thn (ha z0 s O H _ I h) λc s1 ⟨H1,I1,q1⟩=>?_)
 cases c with
 |true=>exact hb wh z0 s1 O H1 Q I1 q1
 |false=>exact⟨H1,I1,q1⟩
theorem Ib(ha:PT X a tA)(hb:PW X (.BoolOp .Or (b::rest) pos) tB'):PW X (.BoolOp .Or (a::b::rest) pos) (tOr tA tB'):=by
 intro wh z0 s O H Q I h;refine isTrue_or (thn (ha z0 s O H _ I h) λc s1 ⟨H1,I1,q1⟩=>?_)
 cases c with
 |true=>exact⟨H1,I1,q1⟩
 |false=>exact hb wh z0 s1 O H1 Q I1 q1
theorem Ig(ha:PT X a tA):PT X (.UnaryOp .Not a pos) (Td tA):=by
 intro z0 s O H Q I h;exact isTrue_not (ha z0 s O H (λc H1=>Q (!c) H1) I h)
def Lz(ta tb:TE):TE:=λO H Q=>ta O H λx H1=>∃c,x=.bl c/\if c=true then tb O H1 Q else Q (.bl false) H1
def Tc(ta tb:TE):TE:=λO H Q=>ta O H λx H1=>∃c,x=.bl c/\if c=true then Q (.bl true) H1 else tb O H1 Q
def Lp(ta:TE):TE:=λO H Q=>ta O H λx H1=>∃c,x=.bl c/\Q (.bl (!c)) H1
theorem Iv{op}{t:TE}(h:PE X a t):PE X (.BoolOp op [a] pos) t:=λz0 s O H Q I hw=>BoolOp_one (h z0 s O H Q I hw)
theorem Ax(ha:PE X a ta)(hb:PE X (.BoolOp .And (b::rest) pos) tb):PE X (.BoolOp .And (a::b::rest) pos) (Lz ta tb):=by
 intro z0 s O H Q I h;refine BoolOp_and (thn (ha z0 s O H _ I h) λv s1 ⟨x,H1,I1,r1,q1⟩=>?_);obtain⟨c,rfl,q1⟩:=q1;cases r1;refine V1z ?_
 cases c with
 |true=>exact hb z0 s1 O H1 Q I1 q1
 |false=>exact⟨.bl false,H1,I1,rfl,q1⟩
theorem Iu(ha:PE X a ta)(hb:PE X (.BoolOp .Or (b::rest) pos) tb):PE X (.BoolOp .Or (a::b::rest) pos) (Tc ta tb):=by
 intro z0 s O H Q I h;refine BoolOp_or (thn (ha z0 s O H _ I h) λv s1 ⟨x,H1,I1,r1,q1⟩=>?_);obtain⟨c,rfl,q1⟩:=q1;cases r1;refine V1z ?_
 cases c with
 |false=>exact hb z0 s1 O H1 Q I1 q1
 |true=>exact⟨.bl true,H1,I1,rfl,q1⟩
theorem Iw(ha:PE X a ta):PE X (.UnaryOp .Not a pos) (Lp ta):=by
 intro z0 s O H Q I h;refine UnaryOp_ (thn (ha z0 s O H _ I h) λv s1 ⟨x,H1,I1,r1,q1⟩=>?_);obtain⟨c,rfl,q1⟩:=q1;cases r1;exact not_of (V1z ⟨.bl (!c),H1,I1,rfl,q1⟩)
def tIf(t:TT)(ta tb:TE):TE:=λO H Q=>t O H λc H1=>if c=true then ta O H1 Q else tb O H1 Q
theorem lA{c:Expr}(hc:PT X c tA)(ha:PE X a ta)(hb:PE X b tb):PE X (.IfExp c a b pos) (tIf tA ta tb):=by
 intro z0 s O H Q I h;refine wpAny_IfExp (thn (hc z0 s O H _ I h) λd s1 ⟨H1,I1,q1⟩=>?_)
 cases d with
 |true=>exact ha z0 s1 O H1 Q I1 q1
 |false=>exact hb z0 s1 O H1 Q I1 q1
end
def SqL(K:Zf)(H:Hp)(a:Addr)(xs:List V):Prop :=
 Rd H a (.lst xs) \/
  ∃(o:Obj)(its:Array Value)(n:Nat),K.lookup a=some o/\o.cls=.type "list"/\o.dict=none/\o.data=.seq its n/\its.size<=sizeLine/\Vals xs its.toList
def SqT(K:Zf)(H:Hp)(a:Addr)(xs:List V):Prop :=
 Rd H a (.tup xs) \/
  ∃(o:Obj)(its:Array Value)(n:Nat),K.lookup a=some o/\o.cls=.type "tuple"/\o.data=.seq its n/\its.size<=sizeLine/\Vals xs its.toList
def UL:Value->Option V
 |.none=>some .non
 |.bool b=>some (.bl b)
 |.int i _=>some (.int i)
 |.str x _=>some (.str x)
 |.bytes b _=>some (.byt b)
 |.float b _=>some (.flt b)
 |.ref a=>some (.ref a)
 |.type n=>some (.ty n)
 |_=>none
theorem RelV.abs{x:V}{u:Value}(r:RelV x u):UL u=some x:=by
 cases x with
 |non=>cases r;rfl
 |bl _=>cases r;rfl
 |int _=>obtain⟨t,rfl⟩:=r;rfl
 |str _=>obtain⟨t,rfl⟩:=r;rfl
 |byt _=>obtain⟨t,rfl⟩:=r;rfl
 |flt _=>obtain⟨t,rfl⟩:=r;rfl
 |ref _=>cases r;rfl
 |ty _=>cases r;rfl
theorem RelV.inj{x y:V}{u:Value}(r:RelV x u)(q:RelV y u):x=y:=D3z (r.abs.symm.trans q.abs)
theorem Vals.inj:∀{xs ys:List V}{us:List Value},Vals xs us->Vals ys us->xs=ys
 |_,_,_,.nil,.nil=>rfl
 |_,_,_,.cons r t,.cons r' t'=>by rw[r.inj r',Vals.inj t t']
section
variable{X:Cx}{z0:List (Addr×Obj)}{O:St}{H:Hp}{s:Shared}{a:Addr}{xs ys:List V}
theorem SqL.of{K:Zf}(h:H a=some (.lst xs)):SqL K H a xs:=.inl (.inl h)
theorem SqT.of{K:Zf}(h:H a=some (.tup xs)):SqT K H a xs:=.inl (.inl h)
theorem Inv.list(I:Inv X z0 O H s)(h:SqL X.K H a xs):∃its:List Value,Vals xs its/\PlainL s.heap a its.toArray/\xs.length<=sizeLine:=by
 rcases h with h|⟨o,its,n,hk,hc,hd,hs,hz,r⟩
 .obtain⟨z,its,n,r,e⟩:=h.ok I.hok
  exact⟨its,r,⟨_,n,e,rfl,rfl,rfl⟩,z⟩
 .refine⟨its.toList,r,⟨o,n,I.kIn a o hk,hc,hd,by simpa using hs⟩,?_⟩
  have e:=r.length;simp only[D1z] at e;omega
theorem Inv.tuple(I:Inv X z0 O H s)(h:SqT X.K H a xs):∃its:List Value,Vals xs its/\IsTup s.heap a its.toArray/\xs.length<=sizeLine:=by
 rcases h with h|⟨o,its,n,hk,hc,hs,hz,r⟩
 .obtain⟨z,its,r,p⟩:=h.ok I.hok
  exact⟨its,r,p,z⟩
 .refine⟨its.toList,r,⟨o,I.kIn a o hk,hc,n,by simpa using hs⟩,?_⟩
  have e:=r.length;simp only[D1z] at e;omega
theorem Inv.list_inj(I:Inv X z0 O H s)(h:SqL X.K H a xs)(h':SqL X.K H a ys):xs=ys:=by
 obtain⟨its,r,⟨o,n,e,_,_,d⟩,_⟩:=I.list h;obtain⟨its',r',⟨o',n',e',_,_,d'⟩,_⟩:=I.list h';rw[e] at e';cases e';rw[d] at d';injection d' with d1 _
 have:its=its':=by simpa using congrArg Array.toList d1
 subst this;exact r.inj r'
theorem Inv.tuple_inj(I:Inv X z0 O H s)(h:SqT X.K H a xs)(h':SqT X.K H a ys):xs=ys:=by
 obtain⟨its,r,⟨o,e,_,n,d⟩,_⟩:=I.tuple h;obtain⟨its',r',⟨o',e',_,n',d'⟩,_⟩:=I.tuple h';rw[e] at e';cases e';rw[d] at d';injection d' with d1 _
 have:its=its':=by simpa using congrArg Array.toList d1
 subst this;exact r.inj r'
end
abbrev Cx.wish(X:Cx)(E:Value->Shared->Prop):Cx:={X with xe:=E}
abbrev Cx.nox(X:Cx):Cx:=X.wish λ_ _=>False
theorem Cx.Ok.wish{X:Cx}(ok:X.Ok)(E:Value->Shared->Prop):(X.wish E).Ok :=
 ⟨ok.mod,ok.kind,ok.glob,ok.blt,ok.above,ok.inj,ok.has,ok.cab,ok.hd,ok.frames,ok.stk,ok.exf,ok.bs,ok.bsz,ok.noex,ok.exfs,ok.funs,ok.frf⟩
theorem Cx.Ok.unwish{X:Cx}{E:Value->Shared->Prop}(ok:(X.wish E).Ok):X.Ok :=
 ⟨ok.mod,ok.kind,ok.glob,ok.blt,ok.above,ok.inj,ok.has,ok.cab,ok.hd,ok.frames,ok.stk,ok.exf,ok.bs,ok.bsz,ok.noex,ok.exfs,ok.funs,ok.frf⟩
section
variable{X:Cx}{z0:List (Addr×Obj)}{O:St}{H:Hp}{s:Shared}{E:Value->Shared->Prop}
theorem Inv.wish(I:Inv X z0 O H s)(E:Value->Shared->Prop):Inv (X.wish E) z0 O H s:=⟨I.ok.wish E,I.os,I.bare,I.base,I.loc,I.cell,I.free,I.freeC,I.pin,I.hok,I.len⟩
theorem Inv.unwish(I:Inv (X.wish E) z0 O H s):Inv X z0 O H s:=⟨I.ok.unwish,I.os,I.bare,I.base,I.loc,I.cell,I.free,I.freeC,I.pin,I.hok,I.len⟩
theorem SP.unwish{D:Ends}{f:Flow}{s':Shared}(h:SP (X.wish E) z0 D f s'):SP X z0 D f s':=by
 cases f with
 |next=>obtain⟨O',H',I,q⟩:=h;exact⟨O',H',I.unwish,q⟩
 |brk=>obtain⟨O',H',I,q⟩:=h;exact⟨O',H',I.unwish,q⟩
 |cont=>obtain⟨O',H',I,q⟩:=h;exact⟨O',H',I.unwish,q⟩
 |ret u=>obtain⟨v,O',H',I,r,q⟩:=h;exact⟨v,O',H',I.unwish,r,q⟩
end
section
variable{X:Cx}{st:Stmt}{rest:List Stmt}{t u:TS}{e:Expr}{te:TE}{pos:Pos}
def Ca:TS:=λD O H=>D.nx O H
def QH(t u:TS):TS:=λD O H=>t {D with nx:=u D} O H
theorem uZ:PSs X [] Ca:=λ_ _ O H _ I h=>E3z ⟨O,H,I,h⟩
theorem lq(h1:PS X st t)(h2:PSs X rest u):PSs X (st::rest) (QH t u):=by
 intro z0 s O H D I h;refine wpAny_execs_cons (thn (h1 z0 s O H {D with nx:=u D} I h) λf s1 q=>?_)
 cases f with
 |next =>
  obtain⟨O',H',I',q⟩:=q;exact h2 z0 s1 O' H' D I' q
 |ret v=>exact q
 |brk=>exact q
 |cont=>exact q
theorem Df:PS X (.Pass pos) Ca:=λ_ _ O H _ I h=>wpAny_Pass ⟨O,H,I,h⟩
theorem Inv.quiet{z0:List (Addr×Obj)}{O:St}{H:Hp}{s:Shared}(I:Inv X z0 O H s):interactive X.env=false:=by simp[interactive,I.ok.kind]
def Lx(te:TE):TS:=λD O H=>te O H λ_ H1=>D.nx O H1
theorem iU(he:PE X e te)(hs:swapsWith e none pos.line X.env=pure false:=by rfl):PS X (.Expr e pos) (Lx te):=by
 intro z0 s O H D I h;exact wpAny_Expr_any (thn (he z0 s O H _ I h) λv s1 ⟨x,H1,I1,r1,q1⟩=>⟨O,H1,I1,q1⟩) I.quiet hs
def SN(te:TE):TS:=λD O H=>te O H D.rt
theorem Ih(he:PE X e te):PS X (.Return (some e) pos) (SN te):=by
 intro z0 s O H D I h;exact wpAny_Return_some (thn (he z0 s O H _ I h) λv s1 ⟨x,H1,I1,r1,q1⟩=>⟨x,O,H1,I1,r1,q1⟩)
def Lk:TS:=λD _ H=>D.rt .non H
theorem Dd:PS X (.Return none pos) Lk:=λ_ _ O H _ I h=>wpAny_Return_none ⟨.non,O,H,I,rfl,h⟩
def Tf(c:TT)(t u:TS):TS:=λD O H=>c O H λb H1=>if b=true then t D O H1 else u D O H1
theorem Ij{c:Expr}{a b:List Stmt}{tc:TT}(hc:PT X c tc)(ha:PSs X a t)(hb:PSs X b u):PS X (.If c a b pos) (Tf tc t u):=by
 intro z0 s O H D I h;refine wpAny_If (thn (hc z0 s O H _ I h) λd s1 ⟨H1,I1,q1⟩=>?_)
 cases d with
 |true=>exact ha z0 s1 O H1 D I1 q1
 |false=>exact hb z0 s1 O H1 D I1 q1
end
abbrev TG:=V->St->Hp->(St->Hp->Prop)->Prop
abbrev TGs:=List V->St->Hp->(St->Hp->Prop)->Prop
def PG(X:Cx)(target:Expr)(t:TG):Prop :=
  ∀(z0:List (Addr×Obj))(s:Shared)(O:St)(H:Hp)(v:V)(u:Value)(Q:St->Hp->Prop), Inv X z0 O H s->RelV v u->t v O H Q ->
    wpAny (model X.prog X.w) X.A (assign target X.env u) (λ_ s'=>∃O' H',Inv X z0 O' H' s'/\Q O' H') X.xe s
def PGs(X:Cx)(ts:List Expr)(t:TGs):Prop :=
  ∀(z0:List (Addr×Obj))(s:Shared)(O:St)(H:Hp)(vs:List V)(us:List Value)(Q:St->Hp->Prop), Inv X z0 O H s->Vals vs us->t vs O H Q ->
    wpAny (model X.prog X.w) X.A (assignInOrder ((assignEach ts X.env).map (·.2)) us) (λ_ s'=>∃O' H',Inv X z0 O' H' s'/\Q O' H') X.xe s
section
variable{X:Cx}{pos:Pos}
def Er(i:Nat):TG:=λv O H Q=>Q (O.set i (some v)) H
theorem Dl{i:Nat}{x:Str}(hN:X.N.Nodup)(hi:X.N[i]?=some x)(hx:Loc X.env.scope x)(hf:X.fn x=true\/X.env.scope.names.lookup x=some .local:=by first|exact .inl rfl|exact .inr rfl|assumption):PG X (.Name x pos) (Er i):=by
 intro z0 s O H v u Q I r h;exact wpAny_assign_Name (fU I hN hi hx r (λs' I'=>⟨_,H,I',h⟩) hf)
def Uv:TGs:=λvs O H Q=>vs=[]/\Q O H
def Qq(t:TG)(u:TGs):TGs:=λvs O H Q=>∃v r,vs=v::r/\t v O H λO' H'=>u r O' H' Q
theorem Dk:PGs X [] Uv:=by
 intro z0 s O H vs us Q I r h;obtain⟨e,h⟩:=h;subst e;cases r;exact assignInOrder_nil ⟨O,H,I,h⟩
theorem yF{e:Expr}{es:List Expr}{t:TG}{u:TGs}(h1:PG X e t)(h2:PGs X es u)
  (hs:(assignEach (e::es) X.env).map (·.2)=assign e X.env::(assignEach es X.env).map (·.2):=by rfl):PGs X (e::es) (Qq t u):=by
 intro z0 s O H vs us Q I r h;obtain⟨v,vr,e1,h⟩:=h;subst e1
 cases r with
 |cons r rr =>
  rw[hs];refine assignInOrder_cons (thn (h1 z0 s O H _ _ _ I r h) λ_ s1 ⟨O1,H1,I1,q1⟩=>?_);exact h2 z0 s1 O1 H1 _ _ Q I1 rr q1
def gTup(K:Zf)(n:Nat)(t:TGs):TG:=λv O H Q=>∃a xs,v=.ref a/\SqT K H a xs/\xs.length=n/\t xs O H Q
theorem Ar{es:List Expr}{k:Nat}{t:TGs}{n:Nat}(hc:X.calm=true)(h:PGs X es t)
  (hn:(assignEach es X.env).length=n:=by rfl) (hst:(assignEach es X.env).findIdx? (·.1)=none:=by rfl):PG X (.Tuple es k pos) (gTup X.K n t):=by
 intro z0 s O H v u Q I r hw;obtain⟨a,xs,e1,hq,hl,hw⟩:=hw;subst e1;cases r;obtain⟨its,rv,ht,hz⟩:=I.tuple hq;refine assign_Tuple_tuple (I.ok.hd hc) ht (by simp[hn,<- hl,rv.length]) hst λh' hx=>?_;have I1:Inv X z0 O H {s with heap:=h'}:=I.kept (t':=s.toks) λb o e=>hx b o (Q4z (P4z e)) e;exact h z0 _ O H xs _ Q I1 (by simpa using rv) hw
def Ly(te:TE)(g:TG):TS:=λD O H=>te O H λx H1=>g x O H1 D.nx
theorem Il{tg e:Expr}{te:TE}{g:TG}(he:PE X e te)(hg:PG X tg g)(hs:swapsWithSole [tg] e pos.line X.env=pure false:=by rfl)(hw:swappedStores [tg] e X.env=pure none:=by rfl)
  (h1:(assignEach [tg] X.env).map (·.2)=[assign tg X.env]:=by rfl):PS X (.Assign [tg] e pos) (Ly te g):=by
 intro z0 s O H D I h;refine wpAny_Assign_stores (thn (he z0 s O H _ I h) λv s1 ⟨x,H1,I1,r1,q1⟩=>?_) hs hw;rw[h1];exact thn (hg z0 s1 O H1 x v _ I1 r1 q1) λ_ s2 q=>q
theorem u0{i:Nat}{x:Str}{e:Expr}{te:TE}{pos':Pos}(hN:X.N.Nodup)(hi:X.N[i]?=some x)(hx:Loc X.env.scope x)(he:PE X e te)(hs:swapsWith e (some (.Name x pos')) pos.line X.env=pure false:=by rfl)(hf:X.fn x=true\/X.env.scope.names.lookup x=some .local:=by first|exact .inl rfl|exact .inr rfl|assumption) :
  PS X (.Assign [.Name x pos'] e pos) (Ly te (Er i)):=by
 intro z0 s O H D I h;refine wpAny_Assign_Name (thn (he z0 s O H _ I h) λv s1 ⟨y,H1,I1,r1,q1⟩=>?_) hs;exact fU I1 hN hi hx r1 (λs2 I2=>⟨_,H1,I2,q1⟩) hf
def SX(i j:Nat)(ta:TA):TS:=λD O H=>ta O H λvs H1=>∃v w,vs=[v,w]/\D.nx ((O.set i (some v)).set j (some w)) H1
theorem Ii{i j:Nat}{x y:Str}{a b:Expr}{ta:TA}{px py pt:Pos}{kt k2 pt2}(hc:X.calm=true)(hN:X.N.Nodup)(hi:X.N[i]?=some x)(hj:X.N[j]?=some y)(hij:i≠j)
  (hx:X.env.scope.names.lookup x=some .local) (hy:X.env.scope.names.lookup y=some .local) (ha:PA X [a,b] ta)
  (hw:swappedStores [.Tuple [.Name x px,.Name y py] kt pt] (.Tuple [a,b] k2 pt2) X.env=pure (some [x,y]))
  (hs:swapsWithSole [.Tuple [.Name x px,.Name y py] kt pt] (.Tuple [a,b] k2 pt2) pos.line X.env=pure false:=by rfl) :
  PS X (.Assign [.Tuple [.Name x px,.Name y py] kt pt] (.Tuple [a,b] k2 pt2) pos) (SX i j ta):=by
 intro z0 s O H D I h;rw[exec_Assign_arm];refine C5z (E4z ?_);rw[hs];refine C5z (D5z ?_);rw[Q5z (by decide)];refine C5z (Tuple_ (thn (ha _ z0 s O H _ I h) λus s1 ⟨vs,H1,I1,r1,q1⟩=>?_));obtain⟨v,w,e1,q1⟩:=q1;subst e1
 obtain⟨u1,u2,rfl,rv,rw'⟩:∃u1 u2,us=[u1,u2]/\RelV v u1/\RelV w u2:=by
  cases r1 with
  |cons p q =>
   cases q with
   |cons p' q' =>
    cases q';exact⟨_,_,rfl,p,p'⟩
 refine W1z ?_ (by show 2<=sizeLine;decide)
 have I2:Inv X z0 O H1 {s1 with heap:=s1.heap.push {cls:=.type "tuple",data:=.seq [u1,u2].toArray} }:=I1.kept (t':=s1.toks) λb o e=>Heap.get?_push_of_some _ e;rw[hw];refine C5z (D5z ?_);show wpAny (model X.prog X.w) X.A (do rule "assign.swapped-stores";let items <- unpackItems (.ref s1.heap.objs.size) 2 none;assignInOrder [λv=>bindName X.env y v,λv=>bindName X.env x v] items.reverse;pure Flow.next) _ _ _;refine C5z (E5z (C5z (unpackItems_tuple (items := #[u1,u2]) (I.ok.hd hc) (IsTup.new s1.heap _) λh' hx'=>?_)));have I3:=I2.kept (h':=h') (t':=s1.toks) λb o e=>hx' b o (Q4z (P4z e)) e;show wpAny _ _ (assignInOrder [λv=>bindName X.env y v,λv=>bindName X.env x v] [u2,u1] >>=λ_=>pure Flow.next) _ _ _;refine C5z (assignInOrder_cons (wpAny_bindName (fU I3 hN hj (.inl hy) rw' (λs2 I4=>?_) (.inr hy))));refine assignInOrder_cons (wpAny_bindName (fU I4 hN hi (.inl hx) rv (λs3 I5=>assignInOrder_nil (D5z ?_)) (.inr hx)));rw[List.set_comm _ _ (N5z hij)] at I5;exact⟨_,H1,I5,q1⟩
end
section
variable{X:Cx}{pos:Pos}
def G8(c:TT)(tb:TS):TS:=λD O H=>∃W:Nat->St->Hp->Prop,(∃m,W m O H)/\∀m O H,W m O H ->
 c O H λb H1=>if b=true then ∃N:St->Hp->Prop,(∀O' H',N O' H'->∃m',m'<m/\W m' O' H')/\tb {D with nx:=N,ct:=N,bk:=D.nx} O H1 else D.nx O H1
theorem yC{c:Expr}{body:List Stmt}{tc:TT}{tb:TS}(hp:PassesOwn (model X.prog X.w) X.A X.env X.xe)(hc:PT X c tc)(hb:PSs X body tb):PS X (.While c body [] pos) (G8 tc tb):=by
 intro z0 s O H D I h;obtain⟨W,⟨m0,w0⟩,turn⟩:=h;refine wpAny_While (codeAny_whileLoop (λn s'=>∃O' H',Inv X z0 O' H' s'/\W n O' H') ?_ m0 ⟨O,H,I,w0⟩);rintro n s1 ⟨O1,H1,I1,w1⟩;refine F3z hp (thn (hc z0 s1 O1 H1 _ I1 (turn n O1 H1 w1)) λb s2 ⟨H2,I2,q2⟩=>?_)
 cases b with
 |true =>
  obtain⟨N,hN,q2⟩:=q2;rw[P5z rfl];refine F3z hp (thn (hb z0 s2 O1 H2 _ I2 q2) λf s3 q3=>?_)
  cases f with
  |next =>
   obtain⟨O3,H3,I3,n3⟩:=q3;obtain⟨m',hm,w3⟩:=hN O3 H3 n3;exact⟨m',hm,O3,H3,I3,w3⟩
  |cont =>
   obtain⟨O3,H3,I3,n3⟩:=q3;obtain⟨m',hm,w3⟩:=hN O3 H3 n3;exact⟨m',hm,O3,H3,I3,w3⟩
  |brk=>exact q3
  |ret v=>exact q3
 |false =>
  rw[Q5z K1z];exact E3z ⟨O1,H2,I2,q2⟩
end
structure It where
 go:Nat->Hp->Prop
 yld:Nat->Hp->V->Hp->Prop
 stop:Nat->Hp->Prop
def tW(X:Cx)(z0:List (Addr×Obj))(H:Hp)(b:Addr):Prop :=
 H b=none/\b≠X.env.locals/\b∉X.fs/\(b∈X.ex\/X.s₀.heap.objs.size<=b)/\(∀x c,X.env.cells.lookup x=some c->c≠b)/\∀p∈X.pn++z0,p.1≠b
theorem Inv.fpOk{X:Cx}{z0:List (Addr×Obj)}{O:St}{H H':Hp}{s:Shared}{b:Addr}(I:Inv X z0 O H s)(hb:s.heap.objs.size<=b)(hn:H' b=none):tW X z0 H' b:=by
 refine⟨hn,T4z (I1z I.lt hb),I.nofs hb,.inr (R4z I.sz hb),λx c e z=>?_,λp hp z=>?_⟩
 .obtain⟨v,q⟩:=I.cell x c e
  exact absurd (I1z q.lt (by rw[z];exact hb)) (D4z _)
 .exact absurd (I1z (P4z (I.pin p hp).1) (by rw[z];exact hb)) (D4z _)
structure Turn(P:Program)(w:World)(K:Zf)(tg:Expr)(J:It)(fp:List Addr)(it:Addr)(tn:Nat->Heap->Prop):Prop where
 mem:it∈fp
 obj:∀i h,tn i h->∀b∈fp,∃o,h.get? b=some o/\∀v,o.data≠.cell v
 keep:∀i h h',tn i h->(∀b∈fp,∀o,h.get? b=some o->h'.get? b=some o)->tn i h'
 item:∀(X:Cx),X.prog=P->X.w=w->X.K=K->X.calm=true->∀(i:Nat)(z0:List (Addr×Obj))(s:Shared)(O:St)(H:Hp)(E:Value->Shared->Prop),Inv X z0 O H s->(∀b∈fp,tW X z0 H b)->tn i s.heap->J.go i H ->
  wpAny (model P w) X.A (pyNext (.ref it)) (λr s1=>∃u,r=some u /\
   wpAny (model P w) X.A (letOwnedTupleGo tg (.ref it) u) (λ_ s2=>∃x H',Inv X z0 O H' s2/\RelV x u/\J.yld i H x H'/\tn (i+1) s2.heap/\∀b∈fp,H' b=none) E s1) E s
 done:∀(X:Cx),X.prog=P->X.w=w->X.K=K->X.calm=true->∀(i:Nat)(z0:List (Addr×Obj))(s:Shared)(O:St)(H:Hp)(E:Value->Shared->Prop),Inv X z0 O H s->(∀b∈fp,tW X z0 H b)->tn i s.heap->J.stop i H ->
  wpAny (model P w) X.A (pyNext (.ref it)) (λr s1=>r=none/\Inv X z0 O H s1) E s
 self:∀(A:Around)(i:Nat)(s:Shared)(Q:Value->Shared->Prop)(E:Value->Shared->Prop),tn i s.heap->Q (.ref it) s->wpAny (model P w) A (pyIter (.ref it)) Q E s
abbrev TI:=St->Hp->(It->Hp->Prop)->Prop
def PIE(X:Cx)(z0:List (Addr×Obj))(O:St)(tg:Expr)(R:It->Hp->Prop)(itv:Value)(s2:Shared):Prop :=
 ∃(it:Addr)(fp:List Addr)(tn:Nat->Heap->Prop)(J:It)(H':Hp),itv=.ref it/\Inv X z0 O H' s2/\Turn X.prog X.w X.K tg J fp it tn/\tn 0 s2.heap/\(∀b∈fp,tW X z0 H' b)/\R J H'
def PI(X:Cx)(tg iter:Expr)(wi:TI):Prop :=
  ∀(z0:List (Addr×Obj))(s:Shared)(O:St)(H:Hp)(R:It->Hp->Prop), Inv X z0 O H s->wi O H R ->
    wpAny (model X.prog X.w) X.A (eval iter X.env) (λv s1=>wpAny (model X.prog X.w) X.A (pyIter v) (PIE X z0 O tg R) X.xe s1) X.xe s
theorem zq{M:Model}{A:Around}{E:Value->Shared->Prop}{s:Shared}{tg:Expr}{it:Addr}{u:Value}{o:Obj}{n:String}{vs:Array Value}{Q:Unit->Shared->Prop}(ho:s.heap.get? it=some o)(hc:o.cls=.type n)(hd:o.data=.fields vs)
    (hn:["enumerate","zip","dict_itemiterator","dict_reverseitemiterator","odict_iterator","itertools.zip_longest","itertools.pairwise"].contains n=false) (hQ:Q () s):wpAny M A (letOwnedTupleGo tg (.ref it) u) Q E s:=by
  unfold letOwnedTupleGo
  cases tg<;>first
    |exact D5z hQ
    | (cases u<;>first
        |exact D5z hQ
        | (refine C5z (wpAny_load ho ?_)
           rw[hc,hd]
           show wpAny M A (if(["enumerate","zip","dict_itemiterator","dict_reverseitemiterator","odict_iterator","itertools.zip_longest","itertools.pairwise"].contains n&&vs[0]?==some (rawInt _))=true then _ else _) Q E s
           rw[Q5z (by intro h;rw[hn,X3z] at h;cases h)]
           exact D5z hQ))
def Itl(K:Zf)(a:Addr):It :=
 ⟨λi H=>∃xs x,SqL K H a xs/\xs[i]?=some x,λi H x H'=>H'=H/\∀xs,SqL K H a xs->xs[i]?=some x,λi H=>∃xs,SqL K H a xs/\xs.length<=i⟩
def Itt(K:Zf)(a:Addr):It :=
 ⟨λi H=>∃xs x,SqT K H a xs/\xs[i]?=some x,λi H x H'=>H'=H/\∀xs,SqT K H a xs->xs[i]?=some x,λi H=>∃xs,SqT K H a xs/\xs.length<=i⟩
def Itr(lo:Int)(n:Nat):It:=⟨λi _=>i<n,λi H x H'=>H'=H/\x=.int (lo+i),λi _=>n<=i⟩
theorem uq{P:Program}{w:World}{K:Zf}{tg:Expr}(a it:Addr):Turn P w K tg (Itl K a) [it] it (λi h=>h.IsListIter it a i) where
 mem:=by simp
 obj:=λi h st b hb=>by
  have e:b=it:=by simpa using hb
  subst e;obtain⟨o,e,c,d⟩:=st;exact⟨o,e,λv z=>by rw[d] at z;cases z⟩
 keep:=λi h h' st k=>st.at λo e=>k it (by simp) o e
 item:=by
  intro X hP hw hK hc i z0 s O H E I hf st hg;subst hP hw hK;obtain⟨xs,x,hq,hx⟩:=hg;obtain⟨its,rv,p,hz⟩:=I.list hq;obtain⟨u,hu,ru⟩:=rv.get hx;obtain⟨f0,f1,f2,f3,f4,f5⟩:=hf it (by simp);refine wpAny_pyNext_list_item st p.isList (x:=u) (by simpa using hu) λh' st' sb=>?_;have I1:Inv X z0 O H {s with heap:=h'}:=I.turned (t':=s.toks) (λb o hb e=>(sb.2 b hb).trans e) f0 f1 f3 f4 f5;obtain⟨o,e,c,d⟩:=id st';exact⟨u,rfl,zq (s:={s with heap:=h'}) e c d (by decide) ⟨x,H,I1,ru,⟨rfl,λys hy=>by rw[I.list_inj hy hq];exact hx⟩,st',λb hb=>(hf b hb).1⟩⟩
 done:=by
  intro X hP hw hK hc i z0 s O H E I hf st hg;subst hP hw hK;obtain⟨xs,hq,hx⟩:=hg;obtain⟨its,rv,p,hz⟩:=I.list hq;obtain⟨f0,f1,f2,f3,f4,f5⟩:=hf it (by simp);have hl:=rv.length;exact wpAny_pyNext_list_end (I.ok.hd hc) st p.isList (by simp;omega) λh' eb=>⟨rfl,I.turned (t':=s.toks) (λb o hb e=>eb b o hb e) f0 f1 f3 f4 f5⟩
 self:=λ_ _ _ _ _ st h=>wpAny_pyIter_listiter st h
theorem rN{P:Program}{w:World}{K:Zf}{tg:Expr}(a it:Addr):Turn P w K tg (Itt K a) [it] it (λi h=>h.IsTupleIter it a i) where
 mem:=by simp
 obj:=λi h st b hb=>by
  have e:b=it:=by simpa using hb
  subst e;obtain⟨o,e,c,d⟩:=st;exact⟨o,e,λv z=>by rw[d] at z;cases z⟩
 keep:=λi h h' st k=>st.at λo e=>k it (by simp) o e
 item:=by
  intro X hP hw hK hc i z0 s O H E I hf st hg;subst hP hw hK;obtain⟨xs,x,hq,hx⟩:=hg;obtain⟨its,rv,p,hz⟩:=I.tuple hq;obtain⟨u,hu,ru⟩:=rv.get hx;obtain⟨f0,f1,f2,f3,f4,f5⟩:=hf it (by simp);refine wpAny_pyNext_tuple_item st (show s.heap.IsTuple a its.toArray from p) (x:=u) (by simpa using hu) λh' st' sb=>?_;have I1:Inv X z0 O H {s with heap:=h'}:=I.turned (t':=s.toks) (λb o hb e=>(sb.2 b hb).trans e) f0 f1 f3 f4 f5;obtain⟨o,e,c,d⟩:=id st';exact⟨u,rfl,zq (s:={s with heap:=h'}) e c d (by decide) ⟨x,H,I1,ru,⟨rfl,λys hy=>by rw[I.tuple_inj hy hq];exact hx⟩,st',λb hb=>(hf b hb).1⟩⟩
 done:=by
  intro X hP hw hK hc i z0 s O H E I hf st hg;subst hP hw hK;obtain⟨xs,hq,hx⟩:=hg;obtain⟨its,rv,p,hz⟩:=I.tuple hq;obtain⟨f0,f1,f2,f3,f4,f5⟩:=hf it (by simp);have hl:=rv.length;exact wpAny_pyNext_tuple_end (I.ok.hd hc) st (show s.heap.IsTuple a its.toArray from p) (by simp;omega) λh' eb=>⟨rfl,I.turned (t':=s.toks) (λb o hb e=>eb b o hb e) f0 f1 f3 f4 f5⟩
 self:=λ_ _ _ _ _ st h=>wpAny_pyIter_tupleiter st h
theorem rO{P:Program}{w:World}{K:Zf}{tg:Expr}(it:Addr)(lo:Int)(n:Nat):Turn P w K tg (Itr lo n) [it] it (λi h=>IsRangeIter h it (lo+(i:Nat)*1) ((n:Int)-(i:Nat)) 1) where
 mem:=by simp
 obj:=λi h st b hb=>by
  have e:b=it:=by simpa using hb
  subst e
  exact⟨_,st,λv z=>by
   have z':Data.fields _=Data.cell v:=z
   cases z'⟩
 keep:=λi h h' st k=>k it (by simp) _ st
 item:=by
  intro X hP hw hK hc i z0 s O H E I hf st hg;subst hP hw hK;obtain⟨f0,f1,f2,f3,f4,f5⟩:=hf it (by simp);have W:=Walks.range (prog:=X.prog) (w:=X.w) (I.ok.hd hc) it lo 1 n;refine W.item i s _ _ hg st λv h' tk hv st' kk=>?_;obtain⟨t,rfl⟩:=hv;have I1:Inv X z0 O H {s with heap:=h',toks:=tk}:=I.turned (λb o hb e=>kk b o (by simpa using hb) e) f0 f1 f3 f4 f5;refine⟨_,rfl,zq (s:={s with heap:=h',toks:=tk}) (n:="range_iterator") st' rfl rfl (by decide) ⟨.int (lo+i),H,I1,⟨t,?_⟩,⟨rfl,rfl⟩,st',λb hb=>(hf b hb).1⟩⟩;rw[Int.mul_one]
 done:=by
  intro X hP hw hK hc i z0 s O H E I hf st hg;subst hP hw hK;obtain⟨f0,f1,f2,f3,f4,f5⟩:=hf it (by simp);exact wpAny_pyNext_range_end (I.ok.hd hc) st (by have:n<=i:=hg;omega) λh' eb=>⟨rfl,I.turned (t':=s.toks) (λb o hb e=>eb b o hb e) f0 f1 f3 f4 f5⟩
 self:=λ_ _ _ _ _ st h=>wpAny_pyIter_rangeiter st h
section
variable{X:Cx}{tg:Expr}
def Qk(K:Zf)(tl:TE):TI:=λO H R=>tl O H λx H1=>∃a,x=.ref a/\(∃xs,SqL K H1 a xs)/\R (Itl K a) H1
def Ur(K:Zf)(tl:TE):TI:=λO H R=>tl O H λx H1=>∃a,x=.ref a/\(∃xs,SqT K H1 a xs)/\R (Itt K a) H1
theorem Di{l:Expr}{tl:TE}(hl:PE X l tl):PI X tg l (Qk X.K tl):=by
 intro z0 s O H R I h;refine thn (hl z0 s O H _ I h) λv s1 ⟨x,H1,I1,r1,q1⟩=>?_;obtain⟨a,e,⟨xs,hq⟩,q⟩:=q1;subst e;cases r1;obtain⟨its,rv,p,hz⟩:=I1.list hq;refine wpAny_pyIter_list p.isList ?_;refine⟨s1.heap.objs.size,[s1.heap.objs.size],_,_,H1,rfl,I1.kept (t':=s1.toks) λb o e=>Heap.get?_push_of_some _ e,uq a _,⟨_,Heap.get?_push_size _ rfl,rfl,rfl⟩,λb hb=>?_,q⟩
 have e:b=s1.heap.objs.size:=by simpa using hb
 subst e;exact I1.fpOk (X4z _) (I1.hok.fresh (X4z _))
theorem Io{l:Expr}{tl:TE}(hl:PE X l tl):PI X tg l (Ur X.K tl):=by
 intro z0 s O H R I h;refine thn (hl z0 s O H _ I h) λv s1 ⟨x,H1,I1,r1,q1⟩=>?_;obtain⟨a,e,⟨xs,hq⟩,q⟩:=q1;subst e;cases r1;obtain⟨its,rv,p,hz⟩:=I1.tuple hq;refine L1z (show s1.heap.IsTuple a its.toArray from p) ?_;refine⟨s1.heap.objs.size,[s1.heap.objs.size],_,_,H1,rfl,I1.kept (t':=s1.toks) λb o e=>Heap.get?_push_of_some _ e,rN a _,⟨_,Heap.get?_push_size _ rfl,rfl,rfl⟩,λb hb=>?_,q⟩
 have e:b=s1.heap.objs.size:=by simpa using hb
 subst e;exact I1.fpOk (X4z _) (I1.hok.fresh (X4z _))
theorem qI{z0:List (Addr×Obj)}{O:St}{H:Hp}{s:Shared}{R:It->Hp->Prop}{E:Value->Shared->Prop}{lo hi:Int}{t u v:Tok}{tk:Nat}(I:Inv X z0 O H s)(h1:-(2^62)<=lo)(h2:lo<2^62)(h3:-(2^62)<=hi)(h4:hi<2^62)
  (q:R (Itr lo (hi-lo).toNat) H):wpAny (model X.prog X.w) X.A (pyIter (.ref s.heap.objs.size)) (PIE X z0 O tg R) E {s with heap:=s.heap.push {cls:=.type "range",data:=.fields #[.int lo t,.int hi u,.int 1 v]},toks:=tk}:=by
 refine wpAny_pyIter_range (IsRange.new ..) (small_one h1 h2 h3 h4) ?_;have I1:Inv X z0 O H {s with heap:=s.heap.push {cls:=.type "range",data:=.fields #[.int lo t,.int hi u,.int 1 v]},toks:=tk}:=I.kept λb o e=>Heap.get?_push_of_some _ e
 refine⟨(s.heap.push {cls:=.type "range",data:=.fields #[.int lo t,.int hi u,.int 1 v]}).objs.size,[(s.heap.push {cls:=.type "range",data:=.fields #[.int lo t,.int hi u,.int 1 v]}).objs.size],_,_,H,rfl,
  I1.kept (t':=tk) λb o e=>Heap.get?_push_of_some _ e,rO _ lo (hi-lo).toNat,?_,λb hb=>?_,q⟩
 .have e1:lo+((0:Nat):Int)*1=lo:=by simp
  have e2:(((hi-lo).toNat:Nat):Int)-((0:Nat):Int)=Builtin.Range.rangeSize lo hi 1:=by rw[rangeSize_one];split<;>omega
  show IsRangeIter _ _ (lo+((0:Nat):Int)*1) ((((hi-lo).toNat:Nat):Int)-((0:Nat):Int)) 1;rw[e1,e2];exact Heap.get?_push_size _ rfl
 .have e:b=(s.heap.push {cls:=.type "range",data:=.fields #[.int lo t,.int hi u,.int 1 v]}).objs.size:=by simpa using hb
  subst e;exact I1.fpOk (X4z _) (I1.hok.fresh (X4z _))
def Qj(ta:TA):TI:=λO H R=>ta O H λvs H1=>∃j:Int,vs=[.int j] /\ -(2^62)<=j/\j<2^62/\R (Itr 0 j.toNat) H1
def Qi(ta:TA):TI:=λO H R=>ta O H λvs H1=>∃i j:Int,vs=[.int i,.int j]/\(-(2^62)<=i/\i<2^62 /\ -(2^62)<=j/\j<2^62)/\R (Itr i (j-i).toNat) H1
theorem vh{a:Expr}{ta:TA}{p pos:Pos}(hg:Gl X "range")(hm:X.mg "range"=none)(ha:PA X [a] ta)(hs:starEach [a] X.env=[(false,eval a X.env)]:=by rfl):PI X tg (.Call (.Name "range" p) [a] [] pos) (Qj ta):=by
 intro z0 s O H R I h;refine Call_ (fY I hg hm boot_range (B0z (thn (ha pos z0 s O H _ I h) λus s1 ⟨vs,H1,I1,r1,q1⟩=>?_) hs rfl));obtain⟨j,e,q1,q2,q⟩:=q1;subst e
 cases r1 with
 |cons r rr =>
  cases rr;obtain⟨t,rfl⟩:=r;exact call_range_1 (qI I1 (by omega) (by omega) q1 q2 (by simpa using q))
theorem vg{a b:Expr}{ta:TA}{p pos:Pos}(hg:Gl X "range")(hm:X.mg "range"=none)(ha:PA X [a,b] ta)(hs:starEach [a,b] X.env=[(false,eval a X.env),(false,eval b X.env)]:=by rfl)(hs2:starEach [b] X.env=[(false,eval b X.env)]:=by rfl) :
  PI X tg (.Call (.Name "range" p) [a,b] [] pos) (Qi ta):=by
 intro z0 s O H R I h;refine Call_ (fY I hg hm boot_range (B0z (thn (ha pos z0 s O H _ I h) λus s1 ⟨vs,H1,I1,r1,q1⟩=>?_) (by rw[hs,hs2]) (by rw[hs2];rfl)));obtain⟨i,j,e,⟨q1,q2,q3,q4⟩,q⟩:=q1;subst e
 cases r1 with
 |cons r rr =>
  cases rr with
  |cons r' rr =>
   cases rr;obtain⟨t,rfl⟩:=r;obtain⟨t',rfl⟩:=r';exact call_range_2 (qI I1 q1 q2 q3 q4 q)
def Tg(wi:TI)(g:TG)(tb:TS):TS:=λD O H=>wi O H λJ H1=>∃W:Nat->Nat->St->Hp->Prop,(∃m,W 0 m O H1)/\∀i m O H,W i m O H ->
 (J.stop i H/\D.nx O H)\/(J.go i H/\∃N:St->Hp->Prop,(∀O' H',N O' H'->∃m',m'<m/\W (i+1) m' O' H')/\∀x H',J.yld i H x H'->g x O H' λO2 H2=>tb {D with nx:=N,ct:=N,bk:=D.nx} O2 H2)
def mW(fp:List Addr)(h:Heap):List (Addr×Obj):=fp.filterMap λb=>(h.get? b).map λo=>(b,o)
theorem fB{fp:List Addr}{h:Heap}{b:Addr}{o:Obj}(hb:b∈fp)(e:h.get? b=some o):(b,o)∈mW fp h:=List.mem_filterMap.mpr ⟨b,hb,by rw[e];rfl⟩
theorem vC{fp:List Addr}{h:Heap}{p:Addr×Obj}(hp:p∈mW fp h):p.1∈fp/\h.get? p.1=some p.2:=by
 obtain⟨b,hb,e⟩:=List.mem_filterMap.mp hp
 cases q:h.get? b with
 |none=>rw[q] at e;cases e
 |some o =>
  rw[q] at e;have e':(b,o)=p:=D3z e;subst e';exact⟨hb,q⟩
theorem Inv.pinned{z0:List (Addr×Obj)}{O:St}{H:Hp}{s:Shared}{fp:List Addr}(I:Inv X z0 O H s)(hf:∀b∈fp,tW X z0 H b)(ho:∀b∈fp,∃o,s.heap.get? b=some o/\∀v,o.data≠.cell v):Inv X (z0++mW fp s.heap) O H s :=
 I.pins_of λp hp=>(List.mem_append.mp hp).elim (λz=>I.pin p (O0z _ z)) λz=>by
  obtain⟨hb,e⟩:=vC z;obtain⟨f0,f1,f2,_⟩:=hf p.1 hb;obtain⟨o,e',d⟩:=ho p.1 hb;rw[e] at e';cases e';exact⟨e,f0,f1,f2,d⟩
theorem Inv.unpinned{z0 pl:List (Addr×Obj)}{O:St}{H:Hp}{s:Shared}(I:Inv X (z0++pl) O H s):Inv X z0 O H s:=I.pins_of λp hp=>I.pin p (O0z _ (T0z _ hp))
theorem Ik{iter:Expr}{body:List Stmt}{wi:TI}{g:TG}{tb:TS}{pos:Pos}(hp:PassesOwn (model X.prog X.w) X.A X.env X.xe)(hc:X.calm=true)(hi:PI X tg iter wi)(hg:PG X tg g)(hb:PSs X body tb)
  (hs:∀x,foldedSetIterable iter X.env x=pure x:=by intro _;rfl):PS X (.For tg iter body [] pos) (Tg wi g tb):=by
 intro z0 s O H D I h;refine wpAny_For (thn (hi z0 s O H _ I h) λv s1 h1=>thn h1 λitv s2 h2=>?_) hs;obtain⟨it,fp,tn,J,H2,e,I2,T,st2,f2,W,⟨m0,w0⟩,turn⟩:=h2;subst e;have stat:∀{H':Hp},(∀b∈fp,H' b=none)->∀b∈fp,tW X z0 H' b:=λhn b hb=>⟨hn b hb,(f2 b hb).2⟩;refine codeAny_forLoop_any (λn s'=>∃i O' H',Inv X z0 O' H' s'/\tn i s'.heap/\(∀b∈fp,H' b=none)/\W i n O' H') ?_ m0 ⟨0,O,H2,I2,st2,λb hb=>(f2 b hb).1,w0⟩;rintro n s3 ⟨i,O3,H3,I3,st3,fr3,w3⟩;rcases turn i n O3 H3 w3 with⟨stop,qn⟩|⟨go,N,hN,step⟩
 .refine F3z hp (thn (T.done X rfl rfl rfl hc i z0 s3 O3 H3 X.xe I3 (stat fr3) st3 stop) λr s4 ⟨hr,I4⟩=>?_)
  subst hr;exact E3z ⟨O3,H3,I4,qn⟩
 .refine F3z hp (thn (T.item X rfl rfl rfl hc i z0 s3 O3 H3 X.xe I3 (stat fr3) st3 go) λr s4 ⟨u,hr,h4⟩=>?_)
  subst hr;refine F3z hp (thn h4 λ_ s5 ⟨x,H5,I5,r5,y5,st5,fr5⟩=>?_);have I5':=I5.pinned (stat fr5) (T.obj _ _ st5);refine F3z hp (thn (hg _ s5 O3 H5 x u _ I5' r5 (step x H5 y5)) λ_ s6 ⟨O6,H6,I6,q6⟩=>?_);refine F3z hp (thn (hb _ s6 O6 H6 _ I6 q6) λf s7 q7=>?_)
  have again:∀{O7:St}{H7:Hp},Inv X (z0++mW fp s5.heap) O7 H7 s7->N O7 H7->∃m,m<n/\∃i O' H',Inv X z0 O' H' s7/\tn i s7.heap/\(∀b∈fp,H' b=none)/\W i m O' H':=λ{O7 H7} I7 n7=>by
   obtain⟨m',hm,w7⟩:=hN O7 H7 n7;refine⟨m',hm,i+1,O7,H7,I7.unpinned,T.keep _ _ _ st5 λb hb o e=>(I7.pin (b,o) (O0z _ (O0z _ (fB hb e)))).1,λb hb=>?_,w7⟩;obtain⟨o,e,d⟩:=T.obj _ _ st5 b hb;exact(I7.pin (b,o) (O0z _ (O0z _ (fB hb e)))).2.1
  cases f with
  |next=>obtain⟨O7,H7,I7,n7⟩:=q7;exact again I7 n7
  |cont=>obtain⟨O7,H7,I7,n7⟩:=q7;exact again I7 n7
  |brk=>obtain⟨O7,H7,I7,q7⟩:=q7;exact⟨O7,H7,I7.unpinned,q7⟩
  |ret v=>obtain⟨x7,O7,H7,I7,r7,q7⟩:=q7;exact⟨x7,O7,H7,I7.unpinned,r7,q7⟩
end
abbrev R2:=V->V->Hp->VK->Prop
def OpR(X:Cx)(f:Value->Value->Sem Value)(r:R2):Prop :=
  ∀(z0:List (Addr×Obj))(s:Shared)(O:St)(H:Hp)(x y:V)(v u:Value)(Q:VK), Inv X z0 O H s->RelV x v->RelV y u->r x y H Q ->
    wpAny (model X.prog X.w) X.A (f v u) (EP X z0 O Q) X.xe s
def UnR(X:Cx)(f:Value->Sem Value)(r:V->Hp->VK->Prop):Prop :=
  ∀(z0:List (Addr×Obj))(s:Shared)(O:St)(H:Hp)(x:V)(v:Value)(Q:VK), Inv X z0 O H s->RelV x v->r x H Q ->
    wpAny (model X.prog X.w) X.A (f v) (EP X z0 O Q) X.xe s
def cT(X:Cx)(f:Value)(r:List V->Hp->VK->Prop):Prop :=
  ∀(z0:List (Addr×Obj))(s:Shared)(O:St)(H:Hp)(xs:List V)(us:List Value)(Q:VK), Inv X z0 O H s->Vals xs us->r xs H Q ->
    wpAny (model X.prog X.w) X.A (call f us) (EP X z0 O Q) X.xe s
def tOp(r:R2)(ta tb:TE):TE:=λO H Q=>ta O H λx H1=>tb O H1 λy H2=>r x y H2 Q
def tUn(r:V->Hp->VK->Prop)(ta:TE):TE:=λO H Q=>ta O H λx H1=>r x H1 Q
def rI(C:Int->Int->Prop)(g:Int->Int->V):R2:=λx y H Q=>∃i j,x=.int i/\y=.int j/\C i j/\Q (g i j) H
def rI0(g:Int->Int->V):R2:=λx y H Q=>∃i j,x=.int i/\y=.int j/\Q (g i j) H
def rU(g:Int->V):V->Hp->VK->Prop:=λx H Q=>∃i,x=.int i/\Q (g i) H
section
variable{X:Cx}{a b c:Expr}{ta tb tc:TE}{pos:Pos}
theorem Qw(ha:PE X a ta)(hb:PE X b tb){z0:List (Addr×Obj)}{s:Shared}{O:St}{H:Hp}{R:V->V->Hp->Prop}(I:Inv X z0 O H s)
  (h:ta O H λx H1=>tb O H1 λy H2=>R x y H2) {Q:Value->Shared->Prop} {f:Value->Value->Sem Value}
  (hf:∀v u s2 x y H2,Inv X z0 O H2 s2->RelV x v->RelV y u->R x y H2->wpAny (model X.prog X.w) X.A (f v u) Q X.xe s2) :
  wpAny (model X.prog X.w) X.A (eval a X.env) (λv s₁=>wpAny (model X.prog X.w) X.A (eval b X.env) (λu s₂=>wpAny (model X.prog X.w) X.A (f v u) Q X.xe s₂) X.xe s₁) X.xe s:=by
 refine thn (ha z0 s O H _ I h) λv s1 ⟨x,H1,I1,r1,q1⟩=>?_;refine thn (hb z0 s1 O H1 _ I1 q1) λu s2 ⟨y,H2,I2,r2,q2⟩=>?_;exact hf v u s2 x y H2 I2 r1 r2 q2
theorem lu{op:Operator}{r:R2}(ho:OpR X (binaryOp op) r)(ha:PE X a ta)(hb:PE X b tb):PE X (.BinOp a op b pos) (tOp r ta tb):=by
 intro z0 s O H Q I h;exact wpAny_BinOp (Qw ha hb I h λv u s2 x y H2 I2 rx ry q=>ho z0 s2 O H2 x y v u Q I2 rx ry q)
theorem Mv{op:UnaryOp}{r:V->Hp->VK->Prop}(ho:UnR X (unaryOp op) r)(ha:PE X a ta):PE X (.UnaryOp op a pos) (tUn r ta):=by
 intro z0 s O H Q I h;exact UnaryOp_ (thn (ha z0 s O H _ I h) λv s1 ⟨x,H1,I1,r1,q1⟩=>ho z0 s1 O H1 x v Q I1 r1 q1)
theorem opI{f:Value->Value->Sem Value}{C:Int->Int->Prop}{g:Int->Int->Int}
  (rule:∀(i j:Int)(t u:Tok)(s:Shared)(Q:Value->Shared->Prop)(E:Value->Shared->Prop),C i j->Q (.int (g i j) s.toks) {s with toks:=s.toks+1}->wpAny (model X.prog X.w) X.A (f (.int i t) (.int j u)) Q E s) :
  OpR X f (rI C λi j=>.int (g i j)):=by
 intro z0 s O H x y v u Q I rx ry h;obtain⟨i,j,rfl,rfl,hc,q⟩:=h;obtain⟨t,rfl⟩:=rx;obtain⟨t',rfl⟩:=ry;exact rule i j t t' s _ _ hc ⟨.int (g i j),H,I.tok _,⟨_,rfl⟩,q⟩
theorem QT{f:Value->Value->Sem Value}{g:Int->Int->Int}
  (rule:∀(i j:Int)(t u:Tok)(s:Shared)(Q:Value->Shared->Prop)(E:Value->Shared->Prop),Q (.int (g i j) s.toks) {s with toks:=s.toks+1}->wpAny (model X.prog X.w) X.A (f (.int i t) (.int j u)) Q E s) :
  OpR X f (rI0 λi j=>.int (g i j)):=by
 intro z0 s O H x y v u Q I rx ry h;obtain⟨i,j,rfl,rfl,q⟩:=h;obtain⟨t,rfl⟩:=rx;obtain⟨t',rfl⟩:=ry;exact rule i j t t' s _ _ ⟨.int (g i j),H,I.tok _,⟨_,rfl⟩,q⟩
theorem KC{f:Value->Value->Sem Value}{g:Int->Int->Bool}
  (rule:∀(i j:Int)(t u:Tok)(s:Shared)(Q:Value->Shared->Prop)(E:Value->Shared->Prop),Q (.bool (g i j)) s->wpAny (model X.prog X.w) X.A (f (.int i t) (.int j u)) Q E s) :
  OpR X f (rI0 λi j=>.bl (g i j)):=by
 intro z0 s O H x y v u Q I rx ry h;obtain⟨i,j,rfl,rfl,q⟩:=h;obtain⟨t,rfl⟩:=rx;obtain⟨t',rfl⟩:=ry;exact rule i j t t' s _ _ ⟨.bl (g i j),H,I,rfl,q⟩
def U9(i j:Int):Prop:=0<j/\j<1073741824
def U8(i j:Int):Prop:=0<=j/\j<=1000000/\i.natAbs<2^64
def QB(i j:Int):Prop:=(-(2^64)<i/\i<2^64)\/(-(2^64)<j/\j<2^64)
theorem QB.ok{i j:Int}(h:QB i j):IntMulOk i j:=by
 rcases h with⟨h1,h2⟩|⟨h1,h2⟩
 .exact .of_left (intBits_le_64 h1 h2)
 .exact .of_right (intBits_le_64 h1 h2)
theorem Jf:OpR X (binaryOp .Add) (rI0 λi j=>.int (i+j)):=QT λ_ _ _ _ _ _ _ q=>add_int q
theorem Ja:OpR X (binaryOp .Sub) (rI0 λi j=>.int (i-j)):=QT λ_ _ _ _ _ _ _ q=>sub_int q
theorem Dv:OpR X (binaryOp .FloorDiv) (rI U9 λi j=>.int (i / j)):=opI λi j _ _ _ _ _ hc q=>by
 have h1:(0:Int)<j:=hc.1;have h2:j<1073741824:=hc.2;exact floordiv_int (by omega) (by rw[Int.fdiv_eq_ediv_of_nonneg i (by omega)];exact q) (.inl (PyProof.noPylong_small (by omega)))
theorem Jc:OpR X (binaryOp .Mod) (rI (λ_ j=>0<j) λi j=>.int (i%j)):=opI λi j _ _ _ _ _ hc q=>by
 have h1:(0:Int)<j:=hc;exact mod_int' (by omega) (by rw[Int.fmod_eq_emod_of_nonneg i (by omega)];exact q)
theorem Jb:OpR X (binaryOp .Pow) (rI U8 λi j=>.int (i^j.toNat)):=opI λ_ _ _ _ _ _ _ hc q=>pow_int_small hc.1 hc.2.1 hc.2.2 q
theorem unI{f:Value->Sem Value}{g:Int->Int}
  (rule:∀(i:Int)(t:Tok)(s:Shared)(Q:Value->Shared->Prop)(E:Value->Shared->Prop),Q (.int (g i) s.toks) {s with toks:=s.toks+1}->wpAny (model X.prog X.w) X.A (f (.int i t)) Q E s) :
  UnR X f (rU λi=>.int (g i)):=by
 intro z0 s O H x v Q I rx h;obtain⟨i,rfl,q⟩:=h;obtain⟨t,rfl⟩:=rx;exact rule i t s _ _ ⟨.int (g i),H,I.tok _,⟨_,rfl⟩,q⟩
theorem G6:UnR X (unaryOp .USub) (rU λi=>.int (-i)):=unI λ_ _ _ _ _ q=>neg_int q
end
section
variable{X:Cx}{a b c:Expr}{ta tb tc:TE}{pos:Pos}
theorem v9{z0:List (Addr×Obj)}{O:St}{H:Hp}{s:Shared}{Q:VK}{k k':Bool}(I:Inv X z0 O H s)(q:Q (.bl k) H)(e:k=k'):EP X z0 O Q (.bool k') s:=by
 subst e;exact⟨.bl k,H,I,rfl,q⟩
theorem Mx:OpR X (compareOp .Lt) (rI0 λi j=>.bl (decide (i<j))):=KC λ_ _ _ _ _ _ _ q=>lt_int q
theorem Mz:OpR X (compareOp .LtE) (rI0 λi j=>.bl (decide (i<=j))):=KC λ_ _ _ _ _ _ _ q=>le_int q
theorem MF:OpR X (compareOp .Gt) (rI0 λi j=>.bl (decide (j<i))):=KC λ_ _ _ _ _ _ _ q=>gt_int q
theorem MJ:OpR X (compareOp .GtE) (rI0 λi j=>.bl (decide (j<=i))):=KC λ_ _ _ _ _ _ _ q=>ge_int q
theorem Jd:OpR X (compareOp .Is) (λx y H Q=>y=.non/\Q (.bl (decide (x=.non))) H):=by
 intro z0 s O H x y v u Q I rx ry h;obtain⟨rfl,q⟩:=h;cases ry;refine is_none_gen (v9 I q ?_)
 cases x<;>first
  |(cases rx;rfl)
  |(obtain⟨t,rfl⟩:=rx;rfl)
theorem Dt:OpR X (compareOp .IsNot) (λx y H Q=>y=.non/\Q (.bl (!decide (x=.non))) H):=by
 intro z0 s O H x y v u Q I rx ry h;obtain⟨rfl,q⟩:=h;cases ry;refine isnot_none_gen (v9 I q ?_)
 cases x<;>first
  |(cases rx;rfl)
  |(obtain⟨t,rfl⟩:=rx;rfl)
theorem Dp{op:CmpOp}{r:R2}(ho:OpR X (compareOp op) r)(ha:PE X a ta)(hb:PE X b tb)(hm:behindInMarks op b=false):PE X (.Compare a [op] [b] pos) (tOp r ta tb):=by
 intro z0 s O H Q I h;exact wpAny_Compare1 (Qw ha hb I h λv u s2 x y H2 I2 rx ry q=>ho z0 s2 O H2 x y v u Q I2 rx ry q) hm
def G9(t:TE):TT:=λO H Q=>t O H λx H'=>∃k,x=.bl k/\Q k H'
theorem Dc{op:CmpOp}{r:R2}(ho:OpR X (compareOp op) r)(ha:PE X a ta)(hb:PE X b tb)(hm:behindInMarks op b=false):PT X (.Compare a [op] [b] pos) (G9 (tOp r ta tb)):=by
 intro z0 s O H Q I h
 refine wpAny_isTrue_Compare1 (thn (ha z0 s O H _ I h) λv s1 ⟨x,H1,I1,r1,q1⟩=>thn (hb z0 s1 O H1 _ I1 q1) λu s2 ⟨y,H2,I2,r2,q2⟩ =>
  thn (ho z0 s2 O H2 x y v u _ I2 r1 r2 q2) λc s3 ⟨z,H3,I3,r3,k,e,q3⟩=>?_) hm
 subst e;cases r3;exact V1z ⟨H3,I3,q3⟩
def uz(r r':R2)(ta tb tc:TE):TE:=λO H Q=>ta O H λx H1=>tb O H1 λy H2=>r x y H2 λz H3=>∃k,z=.bl k /\
 (if k=true then tc O H3 λw' H4=>r' y w' H4 Q else Q (.bl false) H3)
theorem yG{op op':CmpOp}{r r':R2}(ho:OpR X (compareOp op) r)(ho':OpR X (compareOp op') r')(ha:PE X a ta)(hb:PE X b tb)(hc:PE X c tc)
  (hm:lastMarks [op,op'] [b,c]=false:=by with_unfolding_all rfl):PE X (.Compare a [op,op'] [b,c] pos) (uz r r' ta tb tc):=by
 intro z0 s O H Q I h
 refine Compare_chain (thn (ha z0 s O H _ I h) λv s1 ⟨x,H1,I1,r1,q1⟩=>chain_link (thn (hb z0 s1 O H1 _ I1 q1) λu s2 ⟨y,H2,I2,r2,q2⟩ =>
  thn (ho z0 s2 O H2 x y v u _ I2 r1 r2 q2) λd s3 ⟨z,H3,I3,r3,k,e,q3⟩=>?_)) hm
 subst e;cases r3;refine V1z ?_
 cases k with
 |false=>exact ite_ff ⟨.bl false,H3,I3,rfl,q3⟩
 |true=>exact ite_tt (chain_last (thn (hc z0 s3 O H3 _ I3 q3) λw' s4 ⟨z',H4,I4,r4,q4⟩=>ho' z0 s4 O H4 y z' u w' Q I4 r2 r4 q4))
theorem yx{op op':CmpOp}{r r':R2}(ho:OpR X (compareOp op) r)(ho':OpR X (compareOp op') r')(ha:PE X a ta)(hb:PE X b tb)(hc:PE X c tc)
  (hm:lastMarks [op,op'] [b,c]=false:=by with_unfolding_all rfl):PT X (.Compare a [op,op'] [b,c] pos) (G9 (uz r r' ta tb tc)):=by
 intro z0 s O H Q I h
 refine isTrue_chain (thn (ha z0 s O H _ I h) λv s1 ⟨x,H1,I1,r1,q1⟩=>test_link (thn (hb z0 s1 O H1 _ I1 q1) λu s2 ⟨y,H2,I2,r2,q2⟩ =>
  thn (ho z0 s2 O H2 x y v u _ I2 r1 r2 q2) λd s3 ⟨z,H3,I3,r3,k,e,q3⟩=>?_)) hm
 subst e;cases r3;refine V1z ?_
 cases k with
 |false =>
  obtain⟨k',e',q'⟩:=q3;cases e';exact ite_ff ⟨H3,I3,q'⟩
 |true =>
  refine ite_tt (test_last (thn (hc z0 s3 O H3 _ I3 q3) λw' s4 ⟨z',H4,I4,r4,q4⟩=>thn (ho' z0 s4 O H4 y z' u w' _ I4 r2 r4 q4) λd' s5 ⟨z2,H5,I5,r5,k2,e2,q5⟩=>?_));subst e2;cases r5;exact V1z ⟨H5,I5,q5⟩
theorem jP:(sizeLine:Nat)<2^63:=by rw[sizeLine_eq];decide
theorem sJ:OpR X (binaryOp .Add) (λx y H Q=>∃i j,x=.str i/\y=.str j/\i.length+j.length<=sizeLine/\Q (.str (i++j)) H):=by
 intro z0 s O H x y v u Q I rx ry h;obtain⟨i,j,rfl,rfl,hz,q⟩:=h;obtain⟨t,rfl⟩:=rx;obtain⟨t',rfl⟩:=ry;exact add_str (λt' tk=>⟨.str (i++j),H,I.tok _,⟨_,rfl⟩,q⟩) hz
theorem vals1{x:V}{us:List Value}(r:Vals [x] us):∃u,us=[u]/\RelV x u:=by
 cases r with
 |cons r1 r2=>cases r2;exact⟨_,rfl,r1⟩
theorem Ad:cT X (.builtin "abs") (λxs H Q=>∃i,xs=[.int i]/\Q (.int (if i<0 then -i else i)) H):=by
 intro z0 s O H xs us Q I r h;obtain⟨i,rfl,q⟩:=h;obtain⟨u,rfl,t,rfl⟩:=vals1 r;exact call_abs_int λu tk=>⟨.int (if i<0 then -i else i),H,I.tok _,⟨_,rfl⟩,q⟩
theorem nY:cT X (.type "str") (λxs H Q=>∃i,xs=[.int i]/\i.natAbs.log2<1920/\Q (.str (toString i)) H):=by
 intro z0 s O H xs us Q I r h;obtain⟨i,rfl,hz,q⟩:=h;obtain⟨u,rfl,t,rfl⟩:=vals1 r;exact PySem.P.str_of_int hz ⟨.str _,H,I.tok _,⟨_,rfl⟩,q⟩
end
section
variable{prog:Program}{w:World}{A:Around}{E:Value->Shared->Prop}{s:Shared}{K:Zf}{x dx C f:Addr}{mA:Str->Option Value}{name:Str}{v:Value}
end
theorem Bv.some_of{v:V}{o:Option Value}(r:Bv (some v) o):∃u,o=some u/\RelV v u:=by
 cases o with
 |none=>exact(show False from r).elim
 |some u=>exact⟨u,rfl,r⟩
section
variable{P:Program}{w:World}{H H':Hp}{h h':Heap}{a C dx:Addr}{fs fs':List (Str×V)}
end
section
variable{X:Cx}{z0:List (Addr×Obj)}{O:St}{H:Hp}{s:Shared}{a C dx:Addr}{fs:List (Str×V)}{f:Str}{v:V}{A:Around}{E:Value->Shared->Prop}
end
section
variable{X:Cx}{o e value:Expr}{f:Str}{pos pos' tpos:Pos}{ta tv:TE}
end
section
variable{X:Cx}{z0:List (Addr×Obj)}{O:St}{H:Hp}{s:Shared}{A:Around}{E:Value->Shared->Prop}{Q:Value->Shared->Prop}{c:Value}{b:Bool}
end
structure Room(k:Nat)(A:Around):Prop where
 hd:A.handled=none
 dp:A.depth+3*k+5<recursionLimit
 un:A.units+16*k+200<cLine
theorem Room.deeper{k:Nat}{A:Around}(r:Room (k+1) A)(env:Env):Room k (A.deeper env) :=
 ⟨r.hd,by have:=r.dp;show A.depth+1+3*k+5<_;omega,by have:=r.un;show A.units+3+16*k+200<_;omega⟩
theorem Room.depth{k:Nat}{A:Around}(r:Room k A):A.depth<recursionLimit:=by have:=r.dp;omega
def Lq:TA:=λ_ H Q=>Q [] H
def Hf(ta:TE)(tr:TA):TA:=λO H Q=>ta O H λx H1=>tr O H1 λxs H2=>Q (x::xs) H2
section
variable{X:Cx}{e:Expr}{es:List Expr}{te:TE}{t:TA}{pos:Pos}
theorem cg:PA X [] Lq:=λ_ _ _ _ H Q I h=>Calls.spliced_nil ⟨[],H,I,.nil,h⟩
theorem aY(ha:PE X e te)(hr:PA X es t)(hs:starEach (e::es) X.env=(false,eval e X.env)::starEach es X.env:=by rfl):PA X (e::es) (Hf te t):=by
 intro pos z0 s O H Q I h;rw[hs];show wpAny _ _ (spliced ((false,eval e X.env)::backTo pos (starEach es X.env))) _ _ s;refine Calls.spliced_cons (thn (ha z0 s O H _ I h) λu s1 ⟨x,H1,I1,r1,q1⟩=>?_);exact thn (hr pos z0 s1 O H1 _ I1 q1) λus s2 ⟨xs,H2,I2,r2,q2⟩=>⟨x::xs,H2,I2,.cons r1 r2,q2⟩
def SM(t:TA):TE:=λO H Q=>t O H λxs H1=>xs.length<=sizeLine/\∀p,H1 p=none->Q (.ref p) (upd H1 p (.tup xs))
def Te(t:TA):TE:=λO H Q=>t O H λxs H1=>xs.length<=sizeLine/\∀p,H1 p=none->Q (.ref p) (upd H1 p (.lst xs))
theorem Ir{x1}(h:PA X es t):PE X (.Tuple es x1 pos) (SM t):=by
 intro z0 s O H Q I hq;refine wpAny_Tuple_spliced (thn (h pos z0 s O H _ I hq) λus s1 ⟨xs,H1,I1,r,z,q⟩=>⟨by rw[<- r.length];exact z,?_⟩);have hf:H1 s1.heap.objs.size=none:=I1.hok.fresh (X4z _);refine⟨.ref s1.heap.objs.size,upd H1 s1.heap.objs.size (.tup xs),I1.laid (t':=s1.toks) (λb u e=>Heap.get?_push_of_some _ e) (X4z _) ?_,rfl,q _ hf⟩;exact⟨z,us,r,⟨_,Heap.get?_push_size _ rfl,rfl,_,rfl⟩⟩
theorem Aw(h:PA X es t):PE X (.List es pos) (Te t):=by
 intro z0 s O H Q I hq;refine wpAny_List_spliced (thn (h pos z0 s O H _ I hq) λus s1 ⟨xs,H1,I1,r,z,q⟩=>⟨by rw[<- r.length];exact z,?_⟩);have hf:H1 s1.heap.objs.size=none:=I1.hok.fresh (X4z _);refine⟨.ref s1.heap.objs.size,upd H1 s1.heap.objs.size (.lst xs),I1.laid (t':=s1.toks) (λb u e=>Heap.get?_push_of_some _ e) (X4z _) ?_,rfl,q _ hf⟩;exact⟨z,us,0,r,Heap.get?_push_size _ rfl⟩
end
abbrev Sp:=List V->Hp->VK->XK->Prop
abbrev CXT:=List Env->Hp->Shared->XK->Value->Shared->Prop
structure Env0(P:Program)(w:World)(K:Zf)(mg:Str->Option Value)(base:Heap)(A:Around)(outer:List Env)(s:Shared)(H:Hp):Prop where
 frames:A.frames=some outer
 mod:Mod K mg base
 bs:∀b o,base.get? b=some o->s.heap.get? b=some o/\H b=none
 bsz:base.objs.size<=s.heap.objs.size
 funs:s.heap.FunFrames base outer
 frf:∀b∈frs outer,H b=none
 hok:HOk P w H s.heap
 bare:AllBare s.gens
def CE(outer:List Env)(P:Program)(w:World)(H:Hp)(s:Shared)(Q:VK)(u:Value)(s':Shared):Prop :=
 ∃v H',s'.os=s.os/\AllBare s'.gens/\Un (frs outer) [] H H' s.heap s'.heap/\HOk P w H' s'.heap/\RelV v u/\Q v H'
def CR(CX:CXT)(outer:List Env)(P:Program)(w:World)(H:Hp)(s:Shared)(Q:VK)(E:XK)(r:Result)(s':Shared):Prop :=
 match r with
 |.ok (.ret u)=>CE outer P w H s Q u s'
 |.ok _=>False
 |.error e=>CX outer H s E e s'
structure FnOk(P:Program)(w:World)(K:Zf)(mg:Str->Option Value)(base:Heap)(CX:CXT)(k:Nat)(f:Addr)(fd:FuncData)(ps:List Str)(sp:Sp):Prop where
 len:∀vs H Q E,sp vs H Q E->vs.length=ps.length
 run:∀(A:Around)(outer:List Env)(s:Shared)(H:Hp)(args:Args)(us:List Value)(vs:List V)(Q:VK)(E:XK),Room k A->Env0 P w K mg base A outer s H->BindsTo s fd args (ps.zip us)->Vals vs us->sp vs H Q E ->
  codeAny (model P w) A (.call (.ref f) args) (CR CX outer P w H s Q E) s
theorem FnOk.imp{P:Program}{w:World}{K:Zf}{mg:Str->Option Value}{base:Heap}{CX:CXT}{k:Nat}{f:Addr}{fd:FuncData}{ps:List Str}{sp sp':Sp}(F:FnOk P w K mg base CX k f fd ps sp)
  (h:∀vs H Q E,sp' vs H Q E->sp vs H Q E):FnOk P w K mg base CX k f fd ps sp' :=
 ⟨λvs H Q E q=>F.len vs H Q E (h _ _ _ _ q),λA outer s H args us vs Q E hr he hb hv hs=>F.run A outer s H args us vs Q E hr he hb hv (h _ _ _ _ hs)⟩
section
variable{X:Cx}{z0:List (Addr×Obj)}{O:St}{H:Hp}{s s':Shared}
theorem Inv.env0(I:Inv X z0 O H s):Env0 X.prog X.w X.K X.mg X.base X.A X.stack s H :=
 ⟨I.ok.frames,I.ok.mod,I.bs,R4z I.ok.bsz I.sz,I.stack,I.stkFree,I.hok,I.bare⟩
theorem Inv.after{Q:VK}{u:Value}(I:Inv X z0 O H s)(h:CE X.stack X.prog X.w H s Q u s'):EP X z0 O Q u s':=by
 obtain⟨v,H',os,bare,un,hok,r,q⟩:=h;obtain⟨hh,g,d,t,os'⟩:=s';obtain rfl:os'=s.os:=os;exact⟨v,H',I.call (h':=hh) (g':=g) (d':=d) (t':=t) (ch:=[]) un hok bare (λb z=>absurd z (by simp)),r,q⟩
end
def Hg(sp:Sp)(dvs:List V)(E:XK)(t:TA):TE:=λO H Q=>t O H λvs H1=>sp (vs++dvs) H1 Q E
def Binds(K:Zf)(fd:FuncData)(ps:List Str)(ds:List Value):Prop :=
 ∀(s:Shared)(us:List Value),K.In s.heap->(us++ds).length=ps.length->BindsTo s fd ⟨us,[]⟩ (ps.zip (us++ds))
theorem Binds.all{K:Zf}{fd:FuncData}{ps:List Str}(h:∀us:List Value,us.length=ps.length->bindArgs fd ⟨us,[]⟩=pure (ps.zip us)):Binds K fd ps []:=λs us _ hl=>by
 rw[G3z] at hl ⊢;exact .of_eq (h us hl)
def Passes(CX:CXT)(X:Cx)(E:XK):Prop:=∀(z0:List (Addr×Obj))(O:St)(H:Hp)(s:Shared)(e:Value)(s':Shared),Inv X z0 O H s->CX X.stack H s E e s'->X.xe e s'
section
variable{X:Cx}{CX:CXT}{k:Nat}{f C:Addr}{fd:FuncData}{ps:List Str}{sp:Sp}{dvs:List V}{ds:List Value}{E:XK}{x m:Str}{p pos apos:Pos}{e o:Expr}{es:List Expr}{ta:TE}{t:TA}
theorem Al{z0:List (Addr×Obj)}{O:St}{H:Hp}{s:Shared}{Q:VK}{us:List Value}{vs:List V}(F:FnOk X.prog X.w X.K X.mg X.base CX k f fd ps sp)(hr:Room k X.A)(hb:Binds X.K fd ps ds)(hd:Vals dvs ds)(hx:Passes CX X E)
  (I:Inv X z0 O H s) (r:Vals vs us) (h:sp (vs++dvs) H Q E):wpAny (model X.prog X.w) X.A (call (.ref f) us) (EP X z0 O Q) X.xe s:=by
 have r2:Vals (vs++dvs) (us++ds):=r.append hd
 have hl:(us++ds).length=ps.length:=by rw[<- r2.length];exact F.len _ _ _ _ h
 refine wpAny_call (U4z (F.run X.A X.stack s H ⟨us,[]⟩ (us++ds) (vs++dvs) Q E hr I.env0 (hb s us I.kIn hl) r2 h) λr s' hq=>?_)
 cases r with
 |error e=>exact hx z0 O H s e s' I hq
 |ok fl =>
  cases fl with
  |ret u=>exact I.after hq
  |next=>exact False.elim hq
  |brk=>exact False.elim hq
  |cont=>exact False.elim hq
theorem Dq(F:FnOk X.prog X.w X.K X.mg X.base CX k f fd ps sp)(hr:Room k X.A)(hg:Gl X x)(hm:X.mg x=some (.ref f))(hk:W.keepIn X.K (.ref f)=true)(hb:Binds X.K fd ps ds)(hd:Vals dvs ds)(hx:Passes CX X E)
  (ha:PA X (e::es) t) (hdb:(x==("__debug__":Str))=false:=by decide) (he:starEach (e::es) X.env=(false,eval e X.env)::starEach es X.env:=by rfl) (hpl:(backTo pos (starEach es X.env)).any (·.1)=false:=by rfl) :
  PE X (.Call (.Name x p) (e::es) [] pos) (Hg sp dvs E t):=by
 intro z0 s O H Q I h;refine M1z (gB I hg hm ?_ hdb);refine W.callWith_K (h₀:=X.base) I.ok.mod.kin hk (thn (ha pos z0 s O H _ I h) λus s1 ⟨vs,H1,I1,r,q⟩=>⟨I1.kIn,?_⟩) he hpl;exact Al F hr hb hd hx I1 r q
theorem yH(F:FnOk X.prog X.w X.K X.mg X.base CX k f fd ps sp)(hr:Room k X.A)(hg:Gl X x)(hm:X.mg x=some (.ref f))(hk:W.keepIn X.K (.ref f)=true)(hb:Binds X.K fd ps ds)(hd:Vals dvs ds)(hx:Passes CX X E)
  (hdb:(x==("__debug__":Str))=false:=by decide):PE X (.Call (.Name x p) [] [] pos) (Hg sp dvs E Lq):=by
 intro z0 s O H Q I h;refine M1z (gB I hg hm ?_ hdb);exact W.callWith_K0 I.kIn hk (Al (us:=[]) F hr hb hd hx I .nil h)
end
section
variable{X:Cx}{CX:CXT}{k:Nat}{f C:Addr}{fd:FuncData}{ps ks:List Str}{sp:Sp}{E:XK}{x m:Str}{p pos apos kpos:Pos}{e o:Expr}{es:List Expr}{kws:List Keyword}{te ta:TE}{t tk:TA}{nm:Option Str}
variable{g:List Value->List Value->List Value}{gV:List V->List V->List V}
end
structure FnScope(N P:List Str)(sc:Scope):Prop where
 kind:sc.kind=.function
 co:sc.isCoroutine=false
 gen:sc.isGenerator=false
 nd:N.Nodup
 pre:N.take P.length=P
 par:∀x∈P,sc.names.lookup x=some .local\/sc.names.lookup x=some .cell
 nofree:∀y∈sc.names,y.2≠.free
theorem oA{kindOf:Str->Option NameKind}{x:Str}:∀{binds:List (Str×Value)}{m:Str->Option Value},(∀v,(x,v)∉binds)->bindL kindOf binds m x=m x
 |[],_,_=>rfl
 |(n,v)::r,m,h=>by
  unfold bindL;rw[oA λw hw=>h w (S0z _ hw)];split
  .have:x≠n:=by rintro rfl;exact h v J1z
   simp[this]
  .rfl
theorem oF{kindOf:Str->Option NameKind}{x:Str}:∀{binds:List (Str×Value)}{m:Str->Option Value},(∀v,(x,v)∉binds)->bindC kindOf binds m x=m x
 |[],_,_=>rfl
 |(n,v)::r,m,h=>by
  unfold bindC;rw[oF λw hw=>h w (S0z _ hw)];split
  .rfl
  .have:x≠n:=by rintro rfl;exact h v J1z
   simp[this]
theorem oE{kindOf:Str->Option NameKind}{x:Str}{v:Value}:∀{P:List Str}{vs:List Value}{i:Nat}{m:Str->Option Value},P.Nodup->P[i]?=some x->vs[i]?=some v->kindOf x=some .local ->
  bindL kindOf (P.zip vs) m x=some v
 |[],_,_,_,_,h,_,_=>by simp at h
 |_::_,[],_,_,_,_,h,_=>by simp at h
 |p::P,w::vs,0,m,nd,h1,h2,hk=>by
  simp at h1 h2;subst h1;subst h2
  show bindL kindOf ((p,w)::P.zip vs) m p=_;unfold bindL;rw[oA λv hv=>(K3z.mp nd).1 (H3z hv).1,P5z hk];simp
 |p::P,w::vs,i+1,m,nd,h1,h2,hk=>by
  show bindL kindOf ((p,w)::P.zip vs) m x=_;unfold bindL;exact oE (i:=i) (K3z.mp nd).2 (by simpa using h1) (by simpa using h2) hk
theorem oG{kindOf:Str->Option NameKind}{x:Str}{v:Value}:∀{P:List Str}{vs:List Value}{i:Nat}{m:Str->Option Value},P.Nodup->P[i]?=some x->vs[i]?=some v->kindOf x≠some .local ->
  bindC kindOf (P.zip vs) m x=some v
 |[],_,_,_,_,h,_,_=>by simp at h
 |_::_,[],_,_,_,_,h,_=>by simp at h
 |p::P,w::vs,0,m,nd,h1,h2,hk=>by
  simp at h1 h2;subst h1;subst h2
  show bindC kindOf ((p,w)::P.zip vs) m p=_;unfold bindC;rw[oF λv hv=>(K3z.mp nd).1 (H3z hv).1,Q5z hk];simp
 |p::P,w::vs,i+1,m,nd,h1,h2,hk=>by
  show bindC kindOf ((p,w)::P.zip vs) m x=_;unfold bindC;exact oG (i:=i) (K3z.mp nd).2 (by simpa using h1) (by simpa using h2) hk
def start(N:List Str)(vs:List V):St:=vs.map some++List.replicate (N.length-vs.length) none
def eX(CX:CXT)(P:Program)(w:World)(K:Zf)(mg:Str->Option Value)(base:Heap)(N:List Str)(qual:Str)(scope:Scope)(f:Addr)(cd:Value)(A:Around)(outer:List Env)(s:Shared)(H:Hp)(E:XK):Cx where
 prog:=P
 w:=w
 K:=K
 mg:=mg
 base:=base
 A:=A.deeper (envOfC qual scope s.heap.objs.size f cd)
 N:=N
 s₀:=s
 H₀:=H
 env:=envOfC qual scope s.heap.objs.size f cd
 outer:=outer
 stack:=envOfC qual scope s.heap.objs.size f cd::outer
 ex:=[]
 calm:=true
 fn:=λ_=>true
 pn:=[]
 xe:=λe s'=>wpAny (model P w) (A.deeper (envOfC qual scope s.heap.objs.size f cd)) (leaving (envOfC qual scope s.heap.objs.size f cd) e) (λ_ s''=>CX outer H s E e s'') (λe' s''=>CX outer H s E e' s'') s'
theorem rA{sc:Scope}{n:Nat}{x:Str}(h:sc.names.lookup x=some .cell):∃c,(cellsFrom n sc.names []).lookup x=some c:=by
 have q:=J0z sc.names n [] (.inl h);exact Option.isSome_iff_exists.mp q
theorem sV{c:Bool}{CX:CXT}{P:Program}{w:World}{K:Zf}{mg:Str->Option Value}{base:Heap}{N ps:List Str}{qual:Str}{scope:Scope}{f:Addr}{cd:Value}{A:Around}{outer:List Env}{s s1:Shared}{H:Hp}{E:XK}{us:List Value}{vs:List V}
  (S:FnScope N ps scope) (hd:c=true->A.handled=none) (e0:Env0 P w K mg base A outer s H) (hl:vs.length=ps.length) (r:Vals vs us)
  (x:InCallC s s.heap.objs.size (bindL (envOfC qual scope s.heap.objs.size f cd).kindOf (ps.zip us) λ_=>none) (cellsFrom (s.heap.objs.size+1) scope.names []) (bindC (envOfC qual scope s.heap.objs.size f cd).kindOf (ps.zip us) λ_=>none) s1) :
  Inv {eX CX P w K mg base N qual scope f cd A outer s H E with calm:=c} [] (start N vs) H s1:=by
 have hpl:ps.length<=N.length:=by have:=congrArg List.length S.pre;rw[I2z] at this;omega
 obtain⟨h1,tk,rfl,hk⟩:=x.done;have noA:∀b:Addr,b∉({eX CX P w K mg base N qual scope f cd A outer s H E with calm:=c}:Cx).ex:=λb z=>absurd (show b∈([]:List Addr) from z) (by simp)
 refine⟨⟨e0.mod,S.kind,rfl,rfl,X4z _,λy z c h1 h2=>?_,λy hy=>?_,λy c _ h=>?_,hd,Around.frames_deeper e0.frames,.inr ⟨rfl,rfl⟩,λb z=>absurd z (noA b),e0.bs,e0.bsz,λb _ _=>noA b,λb z=>absurd z (noA b),e0.funs,e0.frf⟩,
  rfl,e0.bare,Un.kept hk,⟨_,x.toInCall.ns,λi y v h1 h2 h3=>?_⟩,λy c h=>⟨_,x.cell y c h⟩,e0.hok.fresh (X4z _),λy c h=>?_,λp hp=>absurd (show p∈([]:List (Addr×Obj)) from hp) (by simp),e0.hok.kept hk,?_⟩
 .exact name_of_addr x.apart (E1z h1) (E1z h2)
 .have hy:scope.names.lookup y=some .cell\/scope.names.lookup y=some .free:=hy
  rcases hy with hy|hy
  .exact rA hy
  .exact absurd rfl (S.nofree _ (E1z hy))
 .exact S4z (x.above y c (E1z h))
 .have hi:i<vs.length:=by
   unfold start at h2
   by_cases hi:i<vs.length
   .exact hi
   .rw[List.getElem?_append_right (by simpa using hi)] at h2
    rw[List.getElem?_replicate] at h2
    split at h2<;>cases h2
  have ha:vs[i]?=some v:=by
   unfold start at h2;rw[List.getElem?_append_left (by simpa using hi),List.getElem?_map] at h2
   cases e:vs[i]? with
   |none=>rw[e] at h2;cases h2
   |some a=>rw[e] at h2;cases h2;rfl
  obtain⟨u,hu,rv⟩:=r.get ha
  have hp:ps[i]?=some y:=by
   rw[<- S.pre,List.getElem?_take_of_lt (by omega)];exact h1
  have ndP:ps.Nodup:=by rw[<- S.pre];exact S.nd.sublist (List.take_sublist _ _)
  refine⟨u,rv,?_⟩;rcases S.par y (List.mem_of_getElem? hp) with k|k
  .exact .inl ⟨k,oE ndP hp hu k⟩
  .obtain⟨c,e⟩:=rA (n:=s.heap.objs.size+1) k
   refine .inr ⟨.inl k,c,e,?_⟩;have q:=x.cell y c e;rw[oG ndP hp hu (by show scope.names.lookup y≠_;rw[k];decide)] at q;exact q
 .exact e0.hok.fresh (S4z (x.above y c (E1z h)))
 .unfold start
  show _=N.length;rw[N1z,I3z,List.length_replicate];omega
theorem Qs{CX:CXT}{P:Program}{w:World}{K:Zf}{mg:Str->Option Value}{base:Heap}{k:Nat}{f:Addr}{name qual:Str}{params:Arguments}{body:List Stmt}{scope:Scope}{dV kV doc pm cdv ct oc:Value}{an od:Option Addr}
  {osl:Array (Option Value)} {N ps:List Str} {sp:Sp} (lk:K.lookup f=some ⟨oc,od,.func (W.fnOf name qual params body scope dV kV doc pm an cdv ct),osl⟩) (hcd:W.codeIn K cdv qual=true) (S:FnScope N ps scope)
  (len:∀vs H Q E,sp vs H Q E->vs.length=ps.length)
  (hbody:∀(A:Around)(outer:List Env)(s:Shared)(H:Hp)(vs:List V)(Q:VK)(E:XK), Room k (A.deeper (envOfC qual scope s.heap.objs.size f cdv))->sp vs H Q E ->
   ∃t,PSs (eX CX P w K mg base N qual scope f cdv A outer s H E) body t/\t {nx:=λ_ H'=>Q .non H',rt:=Q} (start N vs) H) :
  FnOk P w K mg base CX (k+1) f (W.fnOf name qual params body scope dV kV doc pm an cdv ct) ps sp:=by
 refine⟨len,λA outer s H args us vs Q E hr e0 hb r hsp=>?_⟩;have hl:=len _ _ _ _ hsp;have KX:K.In s.heap:=e0.mod.kin.keeps λb o e=>(e0.bs b o e).1;have lim:s.heap.NoLimit:=e0.mod.nolimit.keeps λb o e=>(e0.bs b o e).1
 have hkind:∀y∈ps.zip us,scope.names.lookup y.1=some .local\/(scope.names.lookup y.1=some .cell/\((cellsFrom (s.heap.objs.size+1) scope.names []).lookup y.1).isSome=true):=λ⟨n,v⟩ hy=>by
  rcases S.par n (H3z hy).1 with q|q
  .exact .inl q
  .exact .inr ⟨q,J0z _ _ _ (.inl q)⟩
 refine codeAny_call_function hr.depth (KX _ _ lk) rfl S.co S.gen rfl (W.codeRec_of KX hcd) (hb _ _ _ _ ?_);refine wpAny_newFunctionEnv_cells S.kind hkind λenv he s1 x=>?_;subst he;refine⟨lim.keeps x.toInCall.keep,codeAny_func ?_⟩;obtain⟨t,ht,hq⟩:=hbody A outer s H vs Q E (hr.deeper _) hsp;have I:Inv (eX CX P w K mg base N qual scope f cdv A outer s H E) [] (start N vs) H s1:=sV (c:=true) S (λ_=>hr.hd) e0 hl r x;refine B5z (ht [] s1 (start N vs) H _ I hq) (λfl s' hs=>?_) λe s' hs=>hs
 have fin:∀{O':St}{H':Hp}{v:V}{u:Value},Inv (eX CX P w K mg base N qual scope f cdv A outer s H E) [] O' H' s'->RelV v u->Q v H'->CE outer P w H s Q u s' :=
  λ{O' H' v u} J rv q=>⟨v,H',J.os,J.bare,J.base,J.hok,rv,q⟩
 cases fl with
 |ret u =>
  obtain⟨v,O',H',J,rv,q⟩:=hs;exact fin J rv q
 |next =>
  obtain⟨O',H',J,q⟩:=hs;exact fin (v:=V.non) (u:=Value.none) J rfl q
 |brk =>
  obtain⟨_,_,_,q⟩:=hs;exact False.elim q
 |cont =>
  obtain⟨_,_,_,q⟩:=hs;exact False.elim q
section
variable{X:Cx}{x:Str}{p pos:Pos}{e:Expr}{es:List Expr}{t:TA}{id T:String}{r:List V->Hp->VK->Prop}
def tCB(r:List V->Hp->VK->Prop)(t:TA):TE:=λO H Q=>t O H λvs H1=>r vs H1 Q
theorem cj(hc:cT X (.builtin id) r)(hg:Gl X x)(hm:X.mg x=none)(hv:bootBuiltins x=some (.builtin id))(ha:PA X (e::es) t)(hn:x≠"__name__":=by decide)(hdb:(x==("__debug__":Str))=false:=by decide)
  (he:starEach (e::es) X.env=(false,eval e X.env)::starEach es X.env:=by rfl) (hpl:(backTo pos (starEach es X.env)).any (·.1)=false:=by rfl):PE X (.Call (.Name x p) (e::es) [] pos) (tCB r t):=by
 intro z0 s O H Q I h;refine M1z (fY I hg hm hv ?_ hn hdb);exact PyProof.Rows.callWith_builtin1 (thn (ha pos z0 s O H _ I h) λus s1 ⟨vs,H1,I1,r1,q1⟩=>hc z0 s1 O H1 vs us Q I1 r1 q1) he hpl
theorem eU(hc:cT X (.type T) r)(hg:Gl X x)(hm:X.mg x=none)(hv:bootBuiltins x=some (.type T))(ha:PA X (e::es) t)(hn:x≠"__name__":=by decide)(hdb:(x==("__debug__":Str))=false:=by decide)
  (he:starEach (e::es) X.env=(false,eval e X.env)::starEach es X.env:=by rfl) (hpl:(backTo pos (starEach es X.env)).any (·.1)=false:=by rfl):PE X (.Call (.Name x p) (e::es) [] pos) (tCB r t):=by
 intro z0 s O H Q I h;refine M1z (fY I hg hm hv ?_ hn hdb);exact B0z (thn (ha pos z0 s O H _ I h) λus s1 ⟨vs,H1,I1,r1,q1⟩=>hc z0 s1 O H1 vs us Q I1 r1 q1) he hpl
end
end L2
namespace HT
open PySem PyProof.Rows
section
open PySem.SeqAt
open PySem.MeetsSeq PySem.MeetsSeq2 PySem.MeetsSeq3
end
section
variable{prog:Program}{w:World}{A:Around}{E:Value->Shared->Prop}{s:Shared}
theorem Gf{t b:Addr}{vs ws:List Value}{Q:Value->Shared->Prop}(ht:IsTup s.heap t vs.toArray)(hb:IsTup s.heap b ws.toArray)(hv:vs≠[])
  (h1:ws=[]->Q (.ref t) s) (h2:ws≠[]->Q (.ref s.heap.objs.size) {s with heap:=s.heap.push {cls:=.type "tuple",data:=.seq (vs++ws).toArray} })
  (hsz:vs.length+ws.length<=sizeLine):wpAny (model prog w) A (binaryOp .Add (.ref t) (.ref b)) Q E s:=by
 obtain⟨⟨cls,dd,data,sl⟩,ho,hc,n,hd⟩:=id ht;obtain⟨⟨cls2,dd2,data2,sl2⟩,ho2,hc2,n2,hd2⟩:=id hb;simp only at hc hd hc2 hd2;subst hc hd hc2 hd2
 have e:vs.toArray++ws.toArray=(vs++ws).toArray:=by simp
 by_cases hw:ws=[]
 .exact concat_meets ⟨_,ho,rfl⟩ ⟨_,ho2,rfl⟩ noFill_tuple_add seq_tuple_add K0z G0z (E0z _ _)
   (tuple_addW1 t b vs.toArray ws.toArray n n2 dd dd2 sl sl2 (by simpa using hv) (by simp[hw])) ⟨ho,ho2,h1 hw⟩
 .refine concat_meets ⟨_,ho,rfl⟩ ⟨_,ho2,rfl⟩ noFill_tuple_add seq_tuple_add K0z G0z (E0z _ _)
   (tuple_addW2 t b vs.toArray ws.toArray n n2 dd dd2 sl sl2 (by simpa using hv) (by simpa using hw) (by rw[X1z,X1z];exact hsz)) ⟨ho,ho2,?_⟩
  rw[e];exact h2 hw
def sIx(n d:Nat):Option Int->Nat
 |none=>d
 |some v=>if v<0 then(v+(n:Int)).toNat else min v.toNat n
theorem mQ(n d:Nat)(hd:d<=n)(o:Option Int):sIx n d o<=n:=by
 cases o with
 |none=>exact hd
 |some v =>
  show(if v<0 then(v+(n:Int)).toNat else min v.toNat n)<=n
  by_cases hv:v<0
  .rw[P5z hv];omega
  .rw[Q5z hv];exact Nat.min_le_right _ _
theorem wU(v:Int)(n d:Nat):(if v<0 then max (v+(n:Int)) 0 else min v (n:Int))=((sIx n d (some v):Nat):Int):=by
 show(if v<0 then max (v+(n:Int)) 0 else min v (n:Int))=(((if v<0 then(v+(n:Int)).toNat else min v.toNat n):Nat):Int)
 by_cases hv:v<0
 .simp only[P5z hv];omega
 .simp only[Q5z hv];omega
theorem tU(lo hi:Option Int)(n:Nat):Builtin.Slice.sliceAdjust lo hi 1 (n:Int)=(((sIx n 0 lo:Nat):Int),((sIx n n hi:Nat):Int)):=by
 have h1:¬ ((1:Int)<0):=by omega
 unfold Builtin.Slice.sliceAdjust;simp only[h1,M5z];refine Prod.ext ?_ ?_
 .cases lo with
  |none=>rfl
  |some v=>exact wU v n 0
 .cases hi with
  |none=>rfl
  |some v=>exact wU v n n
theorem sH(i j:Nat):Builtin.Slice.slicePlaces (i:Int) (j:Int) 1=j-i:=by
 unfold Builtin.Slice.slicePlaces
 have h1:(1:Int)>0:=by omega
 simp only[h1,O5z,Int.ediv_one]
 split<;>omega
theorem jH{v:Value}{o:Option Int}{Q:Option Int->Shared->Prop}(p:IsPart v o)(h:Q o s):wpAny (model prog w) A (Builtin.Slice.slicePartIndex v) Q E s:=by
 cases p with
 |none=>exact slicePart_none h
 |int i t=>exact slicePart_int h
theorem dZ{sl:Addr}{vl vu:Value}{lo hi:Option Int}{n:Nat}{Q:Int×Int×Nat->Shared->Prop}(hs:s.heap.IsSliceOf sl vl vu .none)(pl:IsPart vl lo)(pu:IsPart vu hi)
  (h:Q (((sIx n 0 lo:Nat):Int),1,sIx n n hi-sIx n 0 lo) s):wpAny (model prog w) A (Builtin.Slice.sliceApplied (.ref sl) (pure (n:Int))) Q E s:=by
 obtain⟨os,hos,hcs,hds⟩:=id hs;unfold Builtin.Slice.sliceApplied Builtin.Slice.sliceFields;refine C5z (C5z (Y4z hos hds (x:=vl) rfl (C5z (Y4z hos hds (x:=vu) rfl (C5z (Y4z hos hds (x:=.none) rfl (D5z ?_)))))));refine C5z (slicePart_none ?_);show wpAny _ _ (if((1:Int)==0)=true then _ else _) _ _ s;rw[Q5z (by decide)];refine C5z (jH pl (C5z (jH pu (C5z (D5z ?_)))));show wpAny _ _ (match Builtin.Slice.sliceAdjust lo hi 1 (n:Int) with|(lo,hi)=>pure (lo,(1:Int),Builtin.Slice.slicePlaces lo hi 1)) _ _ s;rw[tU lo hi n];show wpAny _ _ (pure (((sIx n 0 lo:Nat):Int),(1:Int),Builtin.Slice.slicePlaces ((sIx n 0 lo:Nat):Int) ((sIx n n hi:Nat):Int) 1)) _ _ s;rw[sH];exact D5z h
theorem yE(xs:Array Value)(i k:Nat):((List.range k).filterMap λ(m:Nat)=>xs[((i:Int)+(m:Int)*1).toNat]?).toArray=((xs.toList.drop i).take k).toArray:=by
 have e:(λ(m:Nat)=>xs[((i:Int)+(m:Int)*1).toNat]?)=λm=>xs[i+m]?:=by
  funext m
  have:((i:Int)+(m:Int)*1).toNat=i+m:=by omega
  rw[this]
 rw[e];have:=pick_run xs i k;rw[List.filterMap_map] at this;have e2:((λx=>xs[x]?)∘λx=>i+x)=λm=>xs[i+m]?:=rfl;rw[e2] at this;rw[this]
theorem gC{t sl:Addr}{items:Array Value}{vl vu:Value}{lo hi:Option Int}{Q:Value->Shared->Prop}(ht:IsTup s.heap t items)(hs:s.heap.IsSliceOf sl vl vu .none)(pl:IsPart vl lo)(pu:IsPart vu hi)
  (hw:¬ (sIx items.size 0 lo=0/\sIx items.size items.size hi=items.size))
  (h:Q (.ref s.heap.objs.size) {s with heap:=s.heap.push {cls:=.type "tuple",data:=.seq ((items.toList.drop (sIx items.size 0 lo)).take (sIx items.size items.size hi-sIx items.size 0 lo)).toArray} })
  (hsz:items.size<=sizeLine):wpAny (model prog w) A (getItem (.ref t) (.ref sl)) Q E s:=by
 have htake:sizeOk (.seq ((items.toList.drop (sIx items.size 0 lo)).take (sIx items.size items.size hi-sIx items.size 0 lo)).toArray):=by
  show((items.toList.drop (sIx items.size 0 lo)).take (sIx items.size items.size hi-sIx items.size 0 lo)).toArray.size<=sizeLine;rw[X1z,I2z,J2z,D1z];omega
 have hj:sIx items.size items.size hi<=items.size:=mQ _ _ (X4z _) hi;obtain⟨os,hos,hcs,hds⟩:=id hs;have hTs:s.TypeIs (.ref sl) "slice":=⟨os,hos,hcs⟩;unfold getItem
 try with_reducible refine F4z ?_
 first|refine C5z (D5z ?_)|skip
 refine C5z (wpAny_sequenceKey ht.typeIs (by decide) ?_)
 refine C5z (wpAny_callSpecial?_slot (name:=Str.ofString "__getitem__") ht.typeIs A0z
  (K2z A0z ht.typeIs entry_tuple_getitem ?_ (args_tuple_getitem _ _)))
 show wpAny _ _ (Builtin.Tuple.tupleItemsOf (.ref t) >>=_) _ _ s;refine C5z (tupleItemsOf_ ht ?_);refine C5z (V4z hTs ?_);rw[P5z (by decide)];refine C5z (dZ hs pl pu ?_)
 have hno:¬ ((((sIx items.size 0 lo:Nat):Int)==0&&(1:Int)==1&&(sIx items.size items.size hi-sIx items.size 0 lo)==items.size)=true):=by
  intro q;rw[L2z,L2z] at q;have q1:((sIx items.size 0 lo:Nat):Int)=0:=eq_of_beq q.1.1;have q2:sIx items.size items.size hi-sIx items.size 0 lo=items.size:=eq_of_beq q.2;exact hw ⟨by omega,by omega⟩
 show wpAny _ _ (if(((sIx items.size 0 lo:Nat):Int)==0&&(1:Int)==1&&(sIx items.size items.size hi-sIx items.size 0 lo)==items.size)=true then _ else _) _ _ s;rw[Q5z hno,yE]
 first
  |exact C5z (m:=Builtin.Tuple.tupleExact _) (W1z (D5z ⟨_,rfl,D5z h⟩) htake)
  |exact C5z (m:=Builtin.Tuple.tupleExact _) (W1z (C5z (D5z (D5z ⟨_,rfl,D5z h⟩))) htake)
  |exact C5z (C5z (m:=Builtin.Tuple.tupleExact _) (W1z (D5z (D5z ⟨_,rfl,D5z h⟩)) htake))
  |exact C5z (C5z (m:=Builtin.Tuple.tupleExact _) (W1z (D5z ⟨_,rfl,D5z h⟩) htake))
end
end HT
namespace L2
open PySem PySem.Spec PyProof.Rows
abbrev TO:=St->Hp->(Option Int->Hp->Prop)->Prop
def PO(X:Cx)(e:Option Expr)(t:TO):Prop :=
  ∀(z0:List (Addr×Obj))(s:Shared)(O:St)(H:Hp)(Q:Option Int->Hp->Prop), Inv X z0 O H s->t O H Q ->
    wpAny (model X.prog X.w) X.A (evalPart e X.env) (λu s'=>∃o H',Inv X z0 O H' s'/\IsPart u o/\Q o H') X.xe s
def BZ:TO:=λ_ H Q=>Q none H
def Ln(t:TE):TO:=λO H Q=>t O H λx H1=>∃i,x=.int i/\Q (some i) H1
section
variable{X:Cx}{e:Expr}{te:TE}{lo hi:Option Expr}{tl th:TO}{pos p2:Pos}
theorem Dh:PO X none BZ:=by
 intro z0 s O H Q I h;rw[evalPart_none];exact D5z ⟨none,H,I,.none,h⟩
theorem Dg(h:PE X e te):PO X (some e) (Ln te):=by
 intro z0 s O H Q I hw;rw[evalPart_some];refine thn (h z0 s O H _ I hw) λu s1 ⟨x,H1,I1,r1,q1⟩=>?_;obtain⟨i,rfl,q⟩:=q1;obtain⟨t,rfl⟩:=r1;exact⟨some i,H1,I1,.int i t,q⟩
def SlR(X:Cx)(r:V->Option Int->Option Int->Hp->VK->Prop):Prop :=
  ∀(z0:List (Addr×Obj))(s:Shared)(O:St)(H:Hp)(x:V)(v vl vu:Value)(lo hi:Option Int)(sl:Addr)(Q:VK), Inv X z0 O H s->RelV x v->s.heap.IsSliceOf sl vl vu .none->IsPart vl lo->IsPart vu hi->r x lo hi H Q ->
    ∃T id,typeLookup (.type T) "__getitem__"=pure (some (.builtin id))/\s.TypeIs v T/\wpAny (model X.prog X.w) X.A (getItem v (.ref sl)) (EP X z0 O Q) X.xe s
def tSl(r:V->Option Int->Option Int->Hp->VK->Prop)(te:TE)(tl th:TO):TE:=λO H Q=>te O H λx H1=>tl O H1 λl H2=>th O H2 λu H3=>r x l u H3 Q
theorem ig{r:V->Option Int->Option Int->Hp->VK->Prop}(hr:SlR X r)(he:PE X e te)(hl:PO X lo tl)(hu:PO X hi th):PE X (.Subscript e (.Slice lo hi none p2) pos) (tSl r te tl th):=by
 intro z0 s O H Q I h;refine Subscript_ (thn (he z0 s O H _ I h) λv s1 ⟨x,H1,I1,r1,q1⟩=>?_);refine wpAny_Slice (thn (hl z0 s1 O H1 _ I1 q1) λvl s2 ⟨l,H2,I2,pl,q2⟩=>thn (hu z0 s2 O H2 _ I2 q2) λvu s3 ⟨u,H3,I3,pu,q3⟩=>?_);rw[evalPart_none];refine D5z ?_;have I4:Inv X z0 O H3 {s3 with heap:=s3.heap.push {cls:=.type "slice",data:=.fields #[vl,vu,.none]} }:=I3.kept (t':=s3.toks) λb ob q=>Heap.get?_push_of_some _ q;obtain⟨T,id,hT,ht,hg⟩:=hr z0 {s3 with heap:=s3.heap.push {cls:=.type "slice",data:=.fields #[vl,vu,.none]} } O H3 x v vl vu l u s3.heap.objs.size Q I4 r1 (Heap.IsSliceOf.new ..) pl pu q3;show wpAny (model X.prog X.w) X.A (subscriptTail e (.Slice lo hi none p2) v (.ref s3.heap.objs.size)) (EP X z0 O Q) X.xe {s3 with heap:=s3.heap.push {cls:=.type "slice",data:=.fields #[vl,vu,.none]} };exact tail_any (ops:=[.ref s3.heap.objs.size,v]) ht hT hg (by with_unfolding_all rfl)
def Bp(xs:List V)(lo hi:Option Int):List V:=(xs.drop (HT.sIx xs.length 0 lo)).take (HT.sIx xs.length xs.length hi-HT.sIx xs.length 0 lo)
theorem jk(xs:List V)(lo hi:Option Int):(Bp xs lo hi).length<=xs.length:=by
 unfold Bp;rw[I2z,J2z];omega
def Tr(K:Zf):V->Option Int->Option Int->Hp->VK->Prop:=λx lo hi H Q=>∃a xs,x=.ref a/\SqT K H a xs /\
 ¬ (HT.sIx xs.length 0 lo=0/\HT.sIx xs.length xs.length hi=xs.length)/\∀p,H p=none->Q (.ref p) (upd H p (.tup (Bp xs lo hi)))
theorem Hy:SlR X (Tr X.K):=by
 intro z0 s O H x v vl vu lo hi sl Q I rx hs pl pu h;obtain⟨a,xs,rfl,hx,hw,q⟩:=h;cases rx;obtain⟨its,r,ht,hz⟩:=I.tuple hx
 have hlen:its.toArray.size=xs.length:=by rw[X1z];exact r.length.symm
 refine⟨"tuple",_,A0z.lookup,ht.typeIs,?_⟩;refine HT.gC ht hs pl pu (by rw[hlen];exact hw) ?_ (by rw[hlen];exact hz);rw[hlen];refine⟨.ref s.heap.objs.size,_,I.laid (t':=s.toks) (o:=.tup (Bp xs lo hi)) (λb ob q=>Heap.get?_push_of_some _ q) (X4z _) ?_,rfl,q _ (I.hok.fresh (X4z _))⟩;exact⟨R4z (jk xs lo hi) hz,_,(r.drop (HT.sIx xs.length 0 lo)).take (HT.sIx xs.length xs.length hi-HT.sIx xs.length 0 lo),IsTup.new _ _⟩
def Ms(K:Zf):R2:=λx y H Q=>∃a b xs ys,x=.ref a/\y=.ref b/\SqT K H a xs/\SqT K H b ys/\xs≠[]/\xs.length+ys.length<=sizeLine /\
 (ys=[]->Q (.ref a) H)/\(ys≠[]->∀p,H p=none->Q (.ref p) (upd H p (.tup (xs++ys))))
theorem Vals.nil_iff{xs:List V}{us:List Value}(r:Vals xs us):us=[]↔xs=[]:=by
 cases r with
 |nil=>simp
 |cons _ _=>simp
theorem Dw:OpR X (binaryOp .Add) (Ms X.K):=by
 intro z0 s O H x y v u Q I rx ry h;obtain⟨a,b,xs,ys,rfl,rfl,ha,hb,hx,hz,q1,q2⟩:=h;cases rx;cases ry;obtain⟨its,r1,p1,_⟩:=I.tuple ha;obtain⟨its2,r2,p2,_⟩:=I.tuple hb;refine HT.Gf p1 p2 (λz=>hx (r1.nil_iff.mp z)) (λz=>⟨.ref a,H,I,rfl,q1 (r2.nil_iff.mp z)⟩) (λz=>?_) (by rw[<- r1.length,<- r2.length];exact hz);refine⟨.ref s.heap.objs.size,_,I.laid (t':=s.toks) (o:=.tup (xs++ys)) (λb ob q=>Heap.get?_push_of_some _ q) (X4z _) ?_,rfl,q2 (λw=>z (r2.nil_iff.mpr w)) _ (I.hok.fresh (X4z _))⟩;exact⟨by rw[N1z];exact hz,_,r1.append r2,IsTup.new _ _⟩
end
def ixN(n:Nat)(i:Int):Option Nat:=if 0<=i then(if i<n then some i.toNat else none) else if -(n:Int)<=i then some (i+n).toNat else none
def atI{α:Type}(xs:List α)(i:Int):Option α:=(ixN xs.length i).bind λj=>xs[j]?
theorem Em{n:Nat}{i:Int}{j:Nat}(h:ixN n i=some j):seqIndex? i n=some j/\j<n /\ -(n:Int)<=i/\i<n:=by
 unfold ixN at h
 by_cases h0:0<=i
 .rw[P5z h0] at h
  by_cases h1:i<n
  .rw[P5z h1] at h
   have e:i.toNat=j:=D3z h;exact⟨by rw[seqIndex_of h0 h1,e],by omega,by omega,h1⟩
  .rw[Q5z h1] at h;cases h
 .rw[Q5z h0] at h
  by_cases h1:-(n:Int)<=i
  .rw[P5z h1] at h
   have e:(i+n).toNat=j:=D3z h;exact⟨by rw[seqIndex_neg (by omega) h1,e],by omega,h1,by omega⟩
  .rw[Q5z h1] at h;cases h
theorem qe{α:Type}{xs:List α}{i:Int}{v:α}(h:atI xs i=some v):∃j,seqIndex? i xs.length=some j/\xs[j]?=some v/\j<xs.length /\ -(xs.length:Int)<=i/\i<xs.length:=by
 unfold atI at h
 cases e:ixN xs.length i with
 |none=>rw[e] at h;cases h
 |some j =>
  rw[e] at h;obtain⟨h1,h2,h3,h4⟩:=Em e;exact⟨j,h1,h,h2,h3,h4⟩
def xJ(b:Expr):Prop:=∀o i,subscripted b false o i=operate [o,i] (getItem o i)
def IxR(X:Cx)(r:R2):Prop :=
  ∀(value slice:Expr)(z0:List (Addr×Obj))(s:Shared)(O:St)(H:Hp)(x y:V)(v u:Value)(Q:VK), Inv X z0 O H s->RelV x v->RelV y u->r x y H Q ->
    subscripted slice false v u=operate [v,u] (getItem v u)->wpAny (model X.prog X.w) X.A (subscriptTail value slice v u) (EP X z0 O Q) X.xe s
def MtR(X:Cx)(id:String)(r:V->List V->Hp->VK->Prop):Prop :=
  ∀(z0:List (Addr×Obj))(s:Shared)(O:St)(H:Hp)(x:V)(xs:List V)(v:Value)(us:List Value)(Q:VK), Inv X z0 O H s->RelV x v->Vals xs us->r x xs H Q ->
    wpAny (model X.prog X.w) X.A (call (.builtin id) (v::us)) (EP X z0 O Q) X.xe s
section
variable{X:Cx}{a b:Expr}{ta tb:TE}{pos:Pos}
theorem Dn{r:R2}(hr:IxR X r)(ha:PE X a ta)(hb:PE X b tb)(hs:xJ b):PE X (.Subscript a b pos) (tOp r ta tb):=by
 intro z0 s O H Q I h;exact Subscript_ (Qw ha hb I h λv u s2 x y H2 I2 rx ry q=>hr a b z0 s2 O H2 x y v u Q I2 rx ry q (hs _ _))
def Tz(K:Zf):R2:=λx y H Q=>∃p xs i v,x=.ref p/\y=.int i/\SqL K H p xs/\atI xs i=some v/\Q v H
def Tv(K:Zf):R2:=λx y H Q=>∃p xs i v,x=.ref p/\y=.int i/\SqT K H p xs/\atI xs i=some v/\Q v H
def Tw:R2:=λx y H Q=>∃z i c,x=.str z/\y=.int i/\z.length<=sizeLine/\atI z.cps.toList i=some c/\Q (.str ⟨#[c]⟩) H
theorem El:IxR X (Tz X.K):=by
 intro value slice z0 s O H x y v u Q I rx ry h hs;obtain⟨p,xs,i,z,rfl,rfl,hq,he,q⟩:=h;cases rx;obtain⟨t,rfl⟩:=ry;obtain⟨its,r,pl,hz⟩:=I.list hq;obtain⟨j,h1,h2,h3,h4,h5⟩:=qe he;obtain⟨w,ew,rw'⟩:=r.get h2;have hl:=r.length;have hn:=jP;have fin:EP X z0 O Q w s:=⟨z,H,I,rw',q⟩
 by_cases h0:0<=i
 .have hj:i.toNat=j:=by
   rw[seqIndex_of h0 h5] at h1;exact D3z h1
  exact item_listR pl.isList h0 (by omega) (by rw[hj];simpa using ew) fin hs
 .have hj:(i+(its.toArray.size:Int)).toNat=j:=by
   rw[seqIndex_neg (by omega) h4] at h1;rw[X1z,<- hl];exact D3z h1
  exact subscriptTail_builtinR (x:=w) pl.isList.typeIs slot_list_getitem.lookup
   (wpAny_getItem_list_neg (Q:=λr s'=>r=w/\EP X z0 O Q r s') pl.isList (by omega) (by rw[X1z]<;>omega) (by omega) (by rw[hj];simpa using ew) ⟨rfl,fin⟩) hs
theorem Jw:IxR X (Tv X.K):=by
 intro value slice z0 s O H x y v u Q I rx ry h hs;obtain⟨p,xs,i,z,rfl,rfl,hq,he,q⟩:=h;cases rx;obtain⟨t,rfl⟩:=ry;obtain⟨its,r,pl,hz⟩:=I.tuple hq;obtain⟨j,h1,h2,h3,h4,h5⟩:=qe he;obtain⟨w,ew,rw'⟩:=r.get h2;have hl:=r.length;have hn:=jP;have fin:EP X z0 O Q w s:=⟨z,H,I,rw',q⟩
 exact subscriptTail_builtinR (x:=w) pl.typeIs slot_tuple_getitem.lookup
  (getItem_tuple (j:=j) (Q:=λr s'=>r=w/\EP X z0 O Q r s') pl (by omega) (by omega) (by rw[X1z,<- hl];exact h1) (by simpa using ew) ⟨rfl,fin⟩) hs
theorem Jx:IxR X Tw:=by
 intro value slice z0 s O H x y v u Q I rx ry h hs;obtain⟨z,i,c,rfl,rfl,hz,he,q⟩:=h;obtain⟨t,rfl⟩:=rx;obtain⟨t',rfl⟩:=ry;obtain⟨j,h1,h2,h3,h4,h5⟩:=qe he
 have hl:z.cps.toList.length=z.length:=by simp[Str.length]
 rw[hl] at h1 h4 h5;have hn:=jP
 exact tail_any (F5z s z t) slot_str_getitem.lookup (getItem_str (c:=c) (by
  have e1:decide (i < -(2^63:Int))=false:=C3z (by omega);have e2:decide (i>=2^63)=false:=C3z (by omega)
  rw[e1,e2,Bool.or_false]) (by rw[h1];simpa using h2) ⟨.str ⟨#[c]⟩,H,I.tok _,⟨_,rfl⟩,q⟩) hs
theorem mL(lo hi:Option Int)(n:Nat):(sliceBounds lo hi none n).1=((HT.sIx n 0 lo:Nat):Int)/\(sliceBounds lo hi none n).2.1=((HT.sIx n n hi:Nat):Int)/\(sliceBounds lo hi none n).2.2=1:=by
 refine⟨?_,?_,rfl⟩
 .cases lo with
  |none=>simp[sliceBounds,HT.sIx]
  |some i =>
   simp only[sliceBounds,HT.sIx,Option.getD_none,show(1:Int)>0 by decide,O5z]
   by_cases h:i<0
   .simp only[h,O5z]<;>omega
   .simp only[h,M5z]<;>omega
 .cases hi with
  |none=>simp[sliceBounds,HT.sIx]
  |some i =>
   simp only[sliceBounds,HT.sIx,Option.getD_none,show(1:Int)>0 by decide,O5z]
   by_cases h:i<0
   .simp only[h,O5z]<;>omega
   .simp only[h,M5z]<;>omega
theorem kW(its:List Value)(lo hi:Option Int):slicePick its.toArray lo hi none=((its.drop (HT.sIx its.length 0 lo)).take (HT.sIx its.length its.length hi-HT.sIx its.length 0 lo)).toArray:=by
 obtain⟨h1,h2,h3⟩:=mL lo hi its.toArray.size;unfold slicePick;rw[h1,h2,h3]
 simp only[sliceRange_one,pick_run,X1z]<;>rfl
def Tt(K:Zf):V->Option Int->Option Int->Hp->VK->Prop:=λx lo hi H Q=>∃a xs,x=.ref a/\SqL K H a xs/\∀p,H p=none->Q (.ref p) (upd H p (.lst (Bp xs lo hi)))
theorem Cp:SlR X (Tt X.K):=by
 intro z0 s O H x v vl vu lo hi sl Q I rx hs pl pu h;obtain⟨a,xs,rfl,hx,q⟩:=h;cases rx;obtain⟨its,r,ht,hz⟩:=I.list hx;have hlen:=r.length;refine⟨"list",_,slot_list_getitem.lookup,ht.isList.typeIs,?_⟩;refine wpAny_getItem_list_slice ht.isList hs pl pu .none (by simp) ?_ (by rw[X1z]<;>omega);rw[kW,<- hlen];refine⟨.ref s.heap.objs.size,_,I.laid (t':=s.toks) (o:=.lst (Bp xs lo hi)) (λb ob q=>Heap.get?_push_of_some _ q) (X4z _) ?_,rfl,q _ (I.hok.fresh (X4z _))⟩;exact⟨R4z (jk xs lo hi) hz,_,0,(r.drop (HT.sIx xs.length 0 lo)).take (HT.sIx xs.length xs.length hi-HT.sIx xs.length 0 lo),Heap.get?_push_size _ rfl⟩
theorem n6:cT X (.builtin "len") (λxs H Q=>∃p ys,xs=[.ref p]/\(SqL X.K H p ys\/SqT X.K H p ys)/\Q (.int ys.length) H):=by
 intro z0 s O H xs us Q I r h;obtain⟨p,ys,rfl,hq,q⟩:=h;obtain⟨u,rfl,rx⟩:=vals1 r;cases rx;have hn:=jP;rcases hq with hq|hq
 .obtain⟨its,r',pl,hz⟩:=I.list hq
  have hlen:=r'.length;exact Calls.call_len_list pl.isList (by simp only[X1z]<;>omega) ⟨.int ys.length,H,I.tok _,⟨s.toks+1,by rw[X1z,hlen]⟩,q⟩
 .obtain⟨its,r',pl,hz⟩:=I.tuple hq
  have hlen:=r'.length;exact len_tuple pl (by simp only[X1z]<;>omega) ⟨.int ys.length,H,I.tok _,⟨s.toks+1,by rw[X1z,hlen]⟩,q⟩
theorem nZ:cT X (.builtin "len") (λxs H Q=>∃z,xs=[.str z]/\z.length<=sizeLine/\Q (.int z.length) H):=by
 intro z0 s O H xs us Q I r h;obtain⟨z,rfl,hz,q⟩:=h;obtain⟨u,rfl,t,rfl⟩:=vals1 r;have hn:=jP;exact len_str (by omega) ⟨.int z.length,H,I.tok _,⟨_,rfl⟩,q⟩
theorem lV:cT X (.type "tuple") (λxs H Q=>∃p ys,xs=[.ref p]/\((SqL X.K H p ys/\∀l,H l=none->Q (.ref l) (upd H l (.tup ys)))\/(SqT X.K H p ys/\Q (.ref p) H))):=by
 intro z0 s O H xs us Q I r h;obtain⟨p,ys,rfl,h⟩:=h;obtain⟨u,rfl,rx⟩:=vals1 r;cases rx;rcases h with⟨hq,q⟩|⟨hq,q⟩
 .obtain⟨its,r',pl,hz⟩:=I.list hq
  have hlen:=r'.length;refine call_tuple_list pl.isList (λh' kp=>?_) (by simp only[X1z]<;>omega);have I1:Inv X z0 O H {s with heap:=h'}:=I.kept (t':=s.toks) kp
  have I2:Inv X z0 O (upd H h'.objs.size (.tup ys)) {s with heap:=h'.push {cls:=.type "tuple",data:=.seq its.toArray} } :=
   I1.laid (t':=s.toks) (λb o e=>Heap.get?_push_of_some _ e) (X4z _) (show dJ X.prog X.w _ _ _ (.tup ys) from⟨hz,its,r',IsTup.new _ _⟩)
  exact⟨.ref h'.objs.size,_,I2,rfl,q _ (I1.hok.fresh (X4z _))⟩
 .obtain⟨its,r',pl,hz⟩:=I.tuple hq
  exact call_tuple_same pl ⟨.ref p,H,I,rfl,q⟩
def tyV(K:Zf)(T:String)(x:V)(H:Hp):Prop:=match x with
 |.str _=>T="str"
 |.int _=>T="int"
 |.ref p=>(T="list"/\∃xs, SqL K H p xs) \/ (T="tuple"/\∃o, K.lookup p=some o/\o.cls=.type "tuple"/\o.dict=none) \/
   (T="dict"/\((∃kvs,H p=some (.dK kvs))\/∃kvs,H p=some (.dT kvs)))\/(T="set"/\∃S n,H p=some (.set S n))
 |_=>False
theorem G7{z0:List (Addr×Obj)}{O:St}{H:Hp}{s:Shared}{T:String}{x:V}{v:Value}(I:Inv X z0 O H s)(r:RelV x v)(ty:tyV X.K T x H) :
  s.TypeIs v T/\∀a,v=.ref a->∃ob,s.heap.get? a=some ob/\ob.dict=none:=by
 cases x with
 |str z =>
  obtain⟨t,rfl⟩:=r;cases (show T="str" from ty);exact⟨F5z s z t,λ_ e=>nomatch e⟩
 |int i =>
  obtain⟨t,rfl⟩:=r;cases (show T="int" from ty);exact⟨typeIs_int s i t,λ_ e=>nomatch e⟩
 |ref p =>
  cases r;rcases ty with⟨rfl,xs,hq⟩|⟨rfl,o,hk,hc,hd⟩|⟨rfl,hk⟩|⟨rfl,S,n,hk⟩
  .obtain⟨its,_,pl,_⟩:=I.list hq
   refine⟨pl.isList.typeIs,λa e=>?_⟩;cases e;obtain⟨o,n,e,c,hd,_⟩:=pl;exact⟨o,e,hd⟩
  .refine⟨⟨o,I.kIn p o hk,hc⟩,λa e=>?_⟩
   cases e;exact⟨o,I.kIn _ o hk,hd⟩
  .have z:∃o,s.heap.get? p=some o/\o.ExactDict:=by
    rcases hk with⟨kvs,hk⟩|⟨kvs,hk⟩
    .obtain⟨_,_,_,_,o,_,_,e,ex,_⟩:=I.hok p _ hk
     exact⟨o,e,ex⟩
    .obtain⟨_,_,_,_,o,_,_,e,ex,_⟩:=I.hok p _ hk
     exact⟨o,e,ex⟩
   obtain⟨o,e,ex⟩:=z;refine⟨⟨o,e,ex.1⟩,λa e2=>?_⟩;cases e2;exact⟨o,e,ex.2.1⟩
  .obtain⟨o,_,_,_,e,ex,_⟩:=I.hok p _ hk
   refine⟨⟨o,e,ex.1⟩,λa e2=>?_⟩;cases e2;exact⟨o,e,ex.2.1⟩
 |_=>exact False.elim ty
def tBM(K:Zf)(T:String)(r:V->List V->Hp->VK->Prop)(to:TE)(t:TA):TE:=λO H Q=>to O H λx H1=>tyV K T x H1/\t O H1 λxs H2=>r x xs H2 Q
variable{o e:Expr}{es:List Expr}{to:TE}{t:TA}{name:Str}{apos cpos:Pos}{T id:String}{r:V->List V->Hp->VK->Prop}
theorem mZ(pa:PlainAttrs T)(slot:Slot T name id)(hty:typeOf (.builtin id)=pure (.type "method_descriptor"))(hm:MtR X id r)(ho:PE X o to)(ha:PA X (e::es) t)
  (hbase:attributeBase o name X.env (eval o X.env)=eval o X.env:=by rfl)
  (hfew:((backTo cpos (starEach (e :: es) X.env)).all (λx => !x.1) && (backToKw cpos (keywordEach [] X.env)).all (λx=>x.1.isSome)
   && decide ((e::es).length+([]:List Keyword).length+(if([]:List Keyword).isEmpty then 0 else 1)<30))=true:=by rfl)
  (hline:(apos.endLine==cpos.line)=true:=by rfl) (hs:starEach (e::es) X.env=(false,eval e X.env)::starEach es X.env:=by rfl) (hplain:(backTo cpos (starEach es X.env)).any (·.1)=false:=by rfl) :
  PE X (.Call (.Attribute o name apos) (e::es) [] cpos) (tBM X.K T r to t):=by
 intro z0 s O H Q I h;refine wpAny_Call_method_late hbase hfew hline rfl (thn (ho z0 s O H _ I h) λv s1 ⟨x,H1,I1,r1,ty,q1⟩=>?_);obtain⟨h1,h2⟩:=G7 I1 r1 ty;refine⟨T,id,pa,slot,hty,h1,h2,?_⟩;have hA:=ha cpos z0 s1 O H1 _ I1 q1;rw[hs] at hA ⊢;refine Calls.callWith_builtin (by show(false||(backTo cpos (starEach es X.env)).any (·.1))=false;rw[hplain]<;>rfl) (U0z ?_);exact thn hA λus s2 ⟨vs,H2,I2,r2,q2⟩=>hm z0 s2 O H2 x vs v us Q I2 r1 r2 q2
end
def MtM(X:Cx)(id:String)(r:V->List V->Hp->VK->Prop):Prop :=
  ∀(z0:List (Addr×Obj))(s:Shared)(O:St)(H:Hp)(x:V)(xs:List V)(v:Value)(us:List Value)(Q:VK), Inv X z0 O H s->RelV x v->Vals xs us->r x xs H Q ->
    wpAny (model X.prog X.w) X.A (call (.builtin id) (v::us)) (EP X z0 O Q) X.xe s
theorem Vals.one:∀{x:V}{us:List Value},Vals [x] us->∃u,us=[u]/\RelV x u
 |_,_,.cons r .nil=>⟨_,rfl,r⟩
section
variable{X:Cx}{z0:List (Addr×Obj)}{O:St}{H:Hp}{s:Shared}{l b:Addr}{xs ys zs:List V}
theorem Inv.lset{its its':List Value}{n:Nat}{f:Array Value->Array Value}{t':Nat}(I:Inv X z0 O H s)(hH:H l=some (.lst xs))
  (e:s.heap.get? l=some {cls:=.type "list",data:=.seq its.toArray n}) (hf:f its.toArray=its'.toArray) (hv:Vals ys its') (hz:ys.length<=sizeLine) :
  Inv X z0 O (upd H l (.lst ys)) {s with heap:=s.heap.update l (Obj.mapSeq f),toks:=t'}:=by
 have q:=PySem.IsL.update e f;rw[hf] at q;refine I.write (x:=l) (e:=l) (by rw[hH];exact trivial) (.inl rfl) (λb' u hb hu=>(Heap.get?_update_other s.heap (Obj.mapSeq f) (N5z hb)).trans hu) ⟨_,q⟩ ?_;exact⟨hz,its',_,hv,q⟩
theorem Inv.lnew{its:List Value}{t':Nat}(I:Inv X z0 O H s)(hv:Vals ys its)(hz:ys.length<=sizeLine) :
  Inv X z0 O (upd H s.heap.objs.size (.lst ys)) {s with heap:=s.heap.push {cls:=.type "list",data:=.seq its.toArray},toks:=t'} :=
 I.laid (λ_ _ q=>Heap.get?_push_of_some _ q) (X4z _) ⟨hz,its,0,hv,Heap.get?_push_size _ rfl⟩
theorem Inv.fresh(I:Inv X z0 O H s):H s.heap.objs.size=none:=I.hok.fresh (X4z _)
theorem Inv.lstM(I:Inv X z0 O H s)(hH:H l=some (.lst xs)):xs.length<=sizeLine/\∃(its:List Value)(n:Nat),Vals xs its/\xs.length=its.length/\s.heap.get? l=some {cls:=.type "list",data:=.seq its.toArray n}:=by
 obtain⟨z,its,n,r,e⟩:=I.hok l _ hH;exact⟨z,its,n,r,r.length,e⟩
theorem qO{n:Nat}(h:n<=sizeLine):Builtin.List.listTooLong n=false:=by
 unfold Builtin.List.listTooLong;exact C3z (by omega)
end
section
variable{X:Cx}
def CV:V->List V->Hp->VK->Prop:=λx vs H Q=>∃l xs y,x=.ref l/\vs=[y]/\H l=some (.lst xs)/\xs.length<sizeLine/\Q .non (upd H l (.lst (xs++[y])))
theorem nu:MtM X "list.append" CV:=by
 intro z0 s O H x vs v us Q I rx rv h;obtain⟨l,xs,y,rfl,rfl,hH,hz,q⟩:=h;cases rx;obtain⟨u,rfl,ru⟩:=rv.one;obtain⟨z,its,n,r,hl,e⟩:=I.lstM hH;refine G5z F.slot_list_append ⟨_,e,rfl⟩ F.entry_list_append (F.args_list_append_2 _ _) (PySem.list_append l its.toArray n u (by rw[X1z];omega)) ⟨e,?_⟩;refine⟨.non,_,I.lset (its':=its++[u]) hH e (by simp) (r.append (.cons ru .nil)) ?_,rfl,q⟩;rw[N1z,P0z];omega
end
section
variable{prog:Program}{w:World}{A:Around}{E:Value->Shared->Prop}{s:Shared}
end
section
variable{X:Cx}
end
end L2
namespace Att
open PySem PySem.W PySem.Calls PyProof.Rows
theorem je{P:Params}{h:Heap}:∀(ns:List Int)(vs:List Value),WellAll P h vs (ns.map WData.int)->IntsAre vs ns:=by
 intro ns
 induction ns with
 |nil =>
  intro vs w;rw[List.map_nil] at w;cases w;exact .nil
 |cons n ns ih =>
  intro vs w;rw[G4z] at w
  cases w with
  |cons a b =>
   cases a;exact .cons _ _ (ih _ b)
theorem uQ{l:OpenLaw}{n:Nat}(hn:l.most=some n){P:Params}{h:Heap}{args:List WData}{vals:List Value}
  (hpre:l.row.toRowW.claim.pre args=true) (hwl:WellAll P h vals args) :
  ∃a vs ns,vals=[Value.ref a]/\args=[WData.list (ns.map WData.int)]/\h.get? a=some {cls:=.type "list",data:=.seq vs.toArray}/\IntsAre vs ns/\ns.length<=n:=by
 have hsh:WShape.hasAll [] args [.list .int]=true:=(pre_splitW hpre).1;have hc:l.pre.holds [] {args:=args}=true:=(pre_splitW hpre).2;obtain⟨d,r,rfl,h1,h2⟩:=hasAllW_cons hsh;obtain rfl:=hasAllW_nil h2;obtain⟨xs,rfl,h3⟩:=hasW_list h1;obtain⟨ns,rfl⟩:=items_int h3
 have hlen:ns.length<=n:=by
  unfold OpenLaw.pre at hc
  have h4:(WTm.not (.lt (.lit (.int n)) (.len (.arg 0)))).holds [] {args:=[.list (ns.map .int)]}=true:=by
   have h4:=(holds_andW hc).1;rw[hn] at h4;exact h4
  have h5:=condW_of h4 (w_not (w_lt w_lit (w_len_list (w_arg rfl))));rw[I3z] at h5;refine Nat.le_of_not_lt λq=>?_
  have q':(n:Int)<((ns.length:Nat):Int):=by omega
  first
   |(rw[Y3z q'] at h5;exact absurd h5 (by decide))
   |(simp at h5;omega)
 cases hwl with
 |cons w1 w2 =>
  cases w2
  cases w1 with
  |list ho hall=>exact⟨_,_,ns,rfl,rfl,ho,je ns _ hall,hlen⟩
theorem u6(l:OpenLaw)(args:List WData):l.row.toRowW.claim.post args (.bool true) args=true :=
 postW_of (r:=l.row.toRowW) (X:=(true==true))
  (show WShape.has [] (.bool true) .bool=true by first|rfl|decide|simp[WShape.has,WShape.arms,WShape.armsAll])
  (show(WTm.eq .res (.lit (.bool true))).value [] {args:=args,res:=some (.bool true),after:=args}=some (.bool (true==true)) from w_eq_bool (w_res rfl) w_lit) rfl
theorem qd{l:OpenLaw}{n:Nat}{q:Program}{loose:List Str}{XP:(Str->Option Value)->Heap->Prop}{YP:World->Heap->Prop}{d:DefRec}
  (hn:l.most=some n) (hdf:d.params.defaults=[])
  (call:∀(w:World)(s₀ s₁:Shared)(mg mb:Str->Option Value)(fa:Addr)(o:Obj)(pm cd doc:Value)(a:Addr)(vs:List Value)(ns:List Int),
   Ground q loose [] XP w s₀ mg mb s₁.heap->YP w s₁.heap ->
   s₁.heap.get? fa=some o->o.data=.func (docDef d.name d.params d.body d.scope pm cd doc)->s₁.heap.CodeRec cd d.name->mg d.name=some (.ref fa) ->
   s₁.heap.get? a=some {cls:=.type "list",data:=.seq vs.toArray}->IntsAre vs ns->ns.length<=n->s₁.gens = #[] ->
   codeAny (model l.prog w) callerA (.call (.ref fa) ⟨[.ref a],[]⟩) (λr s'=>r=.ok (.ret (.bool true))/\OldK s₁.heap s'.heap/\s'.os=s₁.os/\AllBare s'.gens) s₁) :
  WalkO q loose XP YP l.row.toRowW d [] (λf vs=>PySem.call f vs):=by
 intro w s₀ s₁ mg mb G Y fa o pm cd doc dV kV ho hd hcd hD hmg hg args vals as hpre hlay hrd hwl hlo;obtain rfl:dV=.none:=Dflts.none hD hdf;obtain rfl:kV=.none:=Dflts.noKw hD;obtain⟨a,vs,ns,rfl,rfl,hobj,hints,hlen⟩:=uQ hn hpre hwl;refine enter_call (U4z (call w s₀ s₁ mg mb fa o pm cd doc a vs ns G Y ho (fd_plain hd) hcd hmg hobj hints hlen hg) λr s' hq=>?_);obtain⟨rfl,h2,h3,h4⟩:=hq;exact⟨.inl ⟨.bool true,.bool true,[],rfl,λ_=>rfl,.bool true,u6 l _,λ_=>⟨List.Pairwise.nil,λ_ hm=>(nomatch hm)⟩⟩,h2,h3,h4⟩
section
variable{prog:Program}{w:World}{A:Around}{E:Value->Shared->Prop}{s:Shared}{K:Frag}
def ledger(h:Heap)(L d:Addr):List (Addr×Obj):=(List.range h.objs.size).filterMap λa=>if a=L\/a=d then none else(h.get? a).map λo=>(a,o)
end
end Att
namespace L2
open PySem PySem.Spec PyProof.Rows
theorem mG:∀{vs:List Value}{ns:List Int},IntsAre vs ns->Vals (ns.map V.int) vs
 |_,_,.nil=>.nil
 |_,_,.cons n t h=>.cons ⟨t,rfl⟩ (mG h)
def Only(H:Hp):Prop:=∀b,H b=none\/∃o xs,H b=some (.frz o (.lst xs))
theorem yU{P:Program}{w:World}{K:Zf}{mg mb:Str->Option Value}{CX:CXT}{k:Nat}{fa a:Addr}{fd:FuncData}{x:Str}{sp:Sp}{s₁:Shared}{vs:List Value}{ns:List Int}
  (KX:K.In s₁.heap) (hns:s₁.heap.Ns mainGlobals mg) (hb:s₁.heap.Ns builtinsNs mb) (hbb:∀x:Str,x≠"__name__"->mb x=bootBuiltins x) (hlim:s₁.heap.NoLimit) (hg:s₁.gens = #[])
  (ha:s₁.heap.get? a=some {cls:=.type "list",data:=.seq vs.toArray}) (hi:IntsAre vs ns) (hl:ns.length<=sizeLine) (hr:Room k callerA)
  (F:∀base:Heap,K.In base->base.Ns mainGlobals mg->FnOk P w K mg base CX k fa fd [x] sp) (hbind:∀(s:Shared)(u:Value),BindsTo s fd ⟨[u],[]⟩ [(x,u)])
  (hsp:∀H:Hp,Only H->SqL K H a (ns.map V.int)->sp [.ref a] H (λv _=>v=.bl true) λ_ _ _=>False)
  (hCX:∀H e s',CX [] H s₁ (λ_ _ _=>False) e s'->False) :
  codeAny (model P w) callerA (.call (.ref fa) ⟨[.ref a],[]⟩) (λr s'=>r=.ok (.ret (.bool true))/\OldK s₁.heap s'.heap/\s'.os=s₁.os/\AllBare s'.gens) s₁:=by
 have rv:=mG hi;have lenV:=hi.length
 have core:∀H:Hp,Only H->SqL K H a (ns.map V.int)->HOk P w H s₁.heap->(∀b,H b≠none->b=a)->(H a≠none->K.lookup a=none) ->
   codeAny (model P w) callerA (.call (.ref fa) ⟨[.ref a],[]⟩) (λr s'=>r=.ok (.ret (.bool true))/\OldK s₁.heap s'.heap/\s'.os=s₁.os/\AllBare s'.gens) s₁:=by
  intro H hO hS hok hA hK;have base_of:∀{b:Addr}{o:Obj},s₁.heap.get? b=some o->H b=none->(yZ s₁.heap H).get? b=some o:=λe n=>yX e n
  have noA:∀{b:Addr}{o:Obj}{es:Array DictEntry}{ep:Nat},s₁.heap.get? b=some o->o.data=.dict es ep->H b=none:=λ{b o es ep} e d=>by
   cases q:H b with
   |none=>rfl
   |some u =>
    have e':b=a:=hA b (by rw[q];simp)
    subst e';rw[ha] at e;cases e;have d':Data.seq vs.toArray _=Data.dict es ep:=d;cases d'
  have nsK:∀{b:Addr}{m:Str->Option Value},s₁.heap.Ns b m->(yZ s₁.heap H).Ns b m:=λ{b m} ⟨o,es,ep,e,d,r⟩=>⟨o,es,ep,base_of e (noA e d),d,r⟩
  have hKb:K.In (yZ s₁.heap H):=λb o e=>base_of (KX b o e) (by
   cases q:H b with
   |none=>rfl
   |some u =>
    have e':b=a:=hA b (by rw[q];simp)
    subst e'
    rw[hK (by rw[q];simp)] at e;cases e)
  have hM:Mod K mg (yZ s₁.heap H):=⟨hKb,nsK hns,⟨mb,nsK hb,hbb⟩,let ⟨mc,h1,h2⟩:=hlim;⟨mc,nsK h1,h2⟩⟩
  have e0:Env0 P w K mg (yZ s₁.heap H) callerA [] s₁ H:=⟨rfl,hM,λb o e=>DK e,Nat.le_of_eq (vZ _ _),trivial,λb hb=>absurd (show b∈([]:List Addr) from hb) (by simp),hok,.of_eq hg⟩;refine U4z ((F _ hKb (nsK hns)).run callerA [] s₁ H ⟨[.ref a],[]⟩ [.ref a] [.ref a] _ _ hr e0 (hbind s₁ (.ref a)) (.cons rfl .nil) (hsp H hO hS)) λr s' h=>?_
  cases r with
  |error e=>exact(hCX H e s' h).elim
  |ok fl =>
   cases fl with
   |next=>exact False.elim h
   |brk=>exact False.elim h
   |cont=>exact False.elim h
   |ret u =>
    obtain⟨v,H',os,bare,un,hok',r',q⟩:=h;have q':v=.bl true:=q;subst q';obtain rfl:u=Value.bool true:=r';refine⟨rfl,OldK.of_keep λb o e=>?_,os,bare⟩
    cases q:H b with
    |none=>exact un.keep b o e q (by intro z;exact absurd (show b∈([]:List Addr) from z) (by simp)) (by simp)
    |some u =>
     rcases hO b with z|⟨ob,xs,z⟩
     .rw[q] at z;cases z
     .have z2:=un.frzs b ob _ z
      obtain⟨e1,_⟩:=hok b _ z;obtain⟨e2,_⟩:=hok' b _ z2;rw[e] at e1;cases e1;exact e2
 cases hk:K.lookup a with
 |some o =>
  have e:=KX a o hk;rw[ha] at e;cases e;refine core (λ_=>none) (λ_=>.inl rfl) (.inr ⟨_,vs.toArray,_,hk,rfl,rfl,rfl,by rw[X1z,lenV];exact hl,by simpa using rv⟩) (λb u z=>by have z':(none:Option HO)=some u:=z;cases z') (λb z=>absurd rfl z) λz=>absurd rfl z
 |none =>
  refine core (λb=>if b=a then some (.frz {cls:=.type "list",data:=.seq vs.toArray} (.lst (ns.map V.int))) else none) (λb=>?_) (.inl (.inr ⟨{cls:=.type "list",data:=.seq vs.toArray},P5z rfl⟩)) (λb u z=>?_) (λb z=>?_) λ_=>hk
  .by_cases hb:b=a
   .exact .inr ⟨_,_,P5z hb⟩
   .exact .inl (Q5z hb)
  .by_cases hb:b=a
   .have z':=(P5z hb).symm.trans z
    cases z';subst hb;exact⟨ha,by rw[I3z];exact hl,vs,_,rv,ha⟩
   .have z':=(Q5z hb).symm.trans z
    cases z'
  .by_cases hb:b=a
   .exact hb
   .exact absurd (Q5z hb) z
theorem BK{l:W.OpenLaw}{n k:Nat}{q:Program}{loose:List Str}{XP:(Str->Option Value)->Heap->Prop}{YP:World->Heap->Prop}{d:DefRec}{K:Params->Zf}{CX:World->CXT}{sp:World->Sp}{x:Str}
    (hn:l.most=some n) (hn2:n<=sizeLine) (hdf:d.params.defaults=[]) (hr:Room k callerA)
    (hY:∀(w:World)(h:Heap),YP w h->(K w.params).In h)
    (F:∀(w:World)(mg:Str->Option Value)(fa:Addr)(h:Heap),(K w.params).In h->h.Ns mainGlobals mg->mg d.name=some (.ref fa) ->
      ∃fd:FuncData, (∀(s:Shared)(u:Value), BindsTo s fd ⟨[u], []⟩ [(x, u)]) /\
        ∀base:Heap,(K w.params).In base->base.Ns mainGlobals mg->FnOk l.prog w (K w.params) mg base (CX w) k fa fd [x] (sp w))
    (hsp:∀(w:World)(H:Hp)(a:Addr)(ns:List Int),ns.length<=n->Only H->SqL (K w.params) H a (ns.map V.int)->sp w [.ref a] H (λv _=>v=.bl true) λ_ _ _=>False)
    (hCX:∀(w:World)(H:Hp)(s:Shared)(e:Value)(s':Shared),CX w [] H s (λ_ _ _=>False) e s'->False) :
    W.WalkO q loose XP YP l.row.toRowW d [] (λf vs=>PySem.call f vs):=by
  refine Att.qd hn hdf λw s₀ s₁ mg mb fa o pm cd doc a vs ns G Y ho hd hcd hmg hobj hints hlen hg=>?_
  have KX:=hY w _ Y
  obtain⟨fd,hb,hF⟩:=F w mg fa _ KX G.T.g hmg
  exact yU KX G.T.g G.T.b G.T.builtins G.T.nolimit hg hobj hints (R4z hlen hn2) hr hF hb (λH hO hS=>hsp w H a ns hlen hO hS) λH e s'=>hCX w H s₁ e s'
def dj(s:Stmt):Arguments:=match s with
 |.FunctionDef _ a _ _ _ _ _ _ _ _=>a
 |_=>{posonlyargs:=[],args:=[],vararg:=none,kwonlyargs:=[],kw_defaults:=[],kwarg:=none,defaults:=[]}
def bJ(s:Stmt):List Stmt:=match s with
 |.FunctionDef _ _ b _ _ _ _ _ _ _=>b
 |_=>[]
def aU(s:Stmt):Scope:=match s with
 |.FunctionDef _ _ _ _ _ _ sc _ _ _=>sc
 |_=>{kind:=.function,names:=[],isGenerator:=false,isCoroutine:=false}
abbrev CX0:CXT:=λ_ _ _ _ _ _=>False
abbrev E0:XK:=λ_ _ _=>False
structure Fun(K:Zf)(x qual:Str)(st:Stmt)(f:Addr)(fd:FuncData):Prop where
 ex:∃(oc:Value)(od:Option Addr)(kV doc pm:Value)(an:Option Addr)(cdv ct:Value)(osl:Array (Option Value)),
  fd=W.fnOf x qual (dj st) (bJ st) (aU st) .none kV doc pm an cdv ct/\K.lookup f=some ⟨oc,od,.func fd,osl⟩/\W.codeIn K cdv qual=true
 kp:W.keepIn K (.ref f)=true
section
variable{P:Program}{w:World}{K:Zf}{mg:Str->Option Value}{base:Heap}
theorem Fun.binds{x qual:Str}{st:Stmt}{f:Addr}{fd:FuncData}{ps:List Str}(F:Fun K x qual st f fd)
  (h:∀(kV doc pm:Value)(an:Option Addr)(cdv ct:Value)(us:List Value),us.length=ps.length->bindArgs (W.fnOf x qual (dj st) (bJ st) (aU st) .none kV doc pm an cdv ct) ⟨us,[]⟩=pure (ps.zip us)):Binds K fd ps []:=by
 obtain⟨oc,od,kV,doc,pm,an,cdv,ct,osl,rfl,lk,hcd⟩:=F.ex;exact .all (h kV doc pm an cdv ct)
theorem v7{x qual:Str}{st:Stmt}{f:Addr}{oc:Value}{od an:Option Addr}{osl:Array (Option Value)}{kV doc pm cdv ct:Value}(l:K.lookup f=some ⟨oc,od,.func (W.fnOf x qual (dj st) (bJ st) (aU st) .none kV doc pm an cdv ct),osl⟩)
  (c:W.codeIn K cdv qual=true) (k:W.keepIn K (.ref f)=true):Fun K x qual st f (W.fnOf x qual (dj st) (bJ st) (aU st) .none kV doc pm an cdv ct):=⟨⟨oc,od,kV,doc,pm,an,cdv,ct,osl,rfl,l,c⟩,k⟩
end
section
variable{X:Cx}
end
theorem vX{A B:Prop}(h:B):if false=true then A else B:=by
 rw[Q5z K1z];exact h
theorem tY{A B:Prop}(h:A):if true=true then A else B:=by
 rw[P5z rfl];exact h
def Same(H H':Hp):Prop:=∀b o,H b=some o->H' b=some o
theorem Same.refl(H:Hp):Same H H:=λ_ _ h=>h
theorem Same.trans{H H1 H2:Hp}(a:Same H H1)(b:Same H1 H2):Same H H2:=λc o h=>b c o (a c o h)
theorem Same.free{H H':Hp}(e:Same H H'){l:Addr}(h:H' l=Option.none):H l=Option.none:=by
 cases q:H l with
 |none=>rfl
 |some o =>
  rw[e l o q] at h;cases h
theorem Same.seq{K:Zf}{H H':Hp}{a:Addr}{xs:List V}(e:Same H H')(h:SqL K H a xs):SqL K H' a xs:=by
 rcases h with(h|⟨o,h⟩)|h
 .exact .inl (.inl (e _ _ h))
 .exact .inl (.inr ⟨o,e _ _ h⟩)
 .exact .inr h
section
variable{P:Program}{w:World}{H H':Hp}{h h':Heap}{a:Addr}{o:HO}
theorem dJ.there(x:dJ P w H h a o):∃ob,h.get? a=some ob:=by
 cases o with
 |lst xs=>obtain⟨_,_,_,_,e⟩:=x;exact⟨_,e⟩
 |tup xs=>obtain⟨_,_,_,ob,e,_⟩:=x;exact⟨_,e⟩
 |dK kvs=>obtain⟨_,_,_,_,o,_,_,e,_⟩:=x;exact⟨_,e⟩
 |dT kvs=>obtain⟨_,_,_,_,o,_,_,e,_⟩:=x;exact⟨_,e⟩
 |set S n=>obtain⟨o,_,_,_,e,_⟩:=x;exact⟨_,e⟩
 |ins C dx fs=>obtain⟨_,_,_,e,_⟩:=x;exact⟨_,e⟩
 |own y=>exact x
 |xd fs=>obtain⟨_,⟨_,_,_,e,_⟩,_⟩:=x;exact⟨_,e⟩
 |rng lo hi=>obtain⟨_,_,_,e⟩:=x;exact⟨_,e⟩
 |frz ob u=>obtain⟨e,_⟩:=x;exact⟨_,e⟩
 |tbl ps=>exact⟨_,(show h.get? a=some _ from x)⟩
 |met f y=>exact⟨_,(show h.get? a=some _ from x)⟩
 |ext φ=>exact x.2.1
theorem HOk.none_of(x:HOk P w H h)(e:h.get? a=none):H a=none:=by
 cases q:H a with
 |none=>rfl
 |some u =>
  obtain⟨ob,r⟩:=(x a u q).there;rw[e] at r;cases r
theorem HOk.part{B:Heap}(x:HOk P w H h)(k:∀b u ob,H b=some u->h.get? b=some ob->B.get? b=some ob):HOk P w H B:=λb u e=>by
 refine(x b u e).stay (λc v hc q=>?_) (λ_ q=>q) λ_ _ q=>q;rcases hc with rfl|hc
 .exact k _ _ _ e q
 .exact k _ _ _ hc q
end
section
variable{fs fs' ex:List Addr}{H H':Hp}{h h1 h2 B:Heap}
theorem Un.fly(U:Un fs [] H H' h h1)(kB:∀b o,h.get? b=some o->H b=none->b∉fs->B.get? b=some o)(tB:∀b o,h.get? b=some o->b∉fs->∃o',B.get? b=some o')(st:B.StaysIn h2)
  (nf:∀b∈fs,∀o,h1.get? b=some o->∀vs,o.data≠.fields vs) (up:h1.UpToSlots h2):Un fs [] H H' h h2 where
 keep:=λb o q n hb _=>st b o (kB b o q n hb)
 slot:=λb o q n hb hx=>by
  obtain⟨sl,e⟩:=U.slot b o q n hb hx;obtain⟨sl',e'⟩:=up b _ e (nf b hb _ e);exact⟨sl',e'⟩
 free:=U.free
 there:=λb o q hx=>by
  by_cases hb:b∈fs
  .obtain⟨o',e⟩:=U.there b o q hx
   obtain⟨sl,e'⟩:=up b _ e (nf b hb _ e);exact⟨_,e'⟩
  .obtain⟨o',e⟩:=tB b o q hb
   exact⟨o',st b o' e⟩
 tups:=U.tups
 frzs:=U.frzs
 tbls:=U.tbls
theorem Un.restrict(U:Un fs' ex H H' h h1)(hs:∀b o,b∈fs'->h.get? b=some o->b∈fs):Un fs ex H H' h h1 where
 keep:=λb o q n hb hx=>U.keep b o q n (λz=>hb (hs b o z q)) hx
 slot:=λb o q n _ hx=>U.any q n hx
 free:=U.free
 there:=U.there
 tups:=U.tups
 frzs:=U.frzs
 tbls:=U.tbls
end
structure Fly(P:Program)(w:World)(outer:List Env)(H:Hp)(s:Shared)(H':Hp)(ea:Addr)(cls:Value)(s':Shared):Prop where
 os:s'.os=s.os
 bare:AllBare s'.gens
 un:Un (frs outer) [] H H' s.heap s'.heap
 fly:∃B a0,Heap.FlyingW B outer ea cls a0 s'.heap/\HOk P w H' B/\(∀b o,s.heap.get? b=some o->H b=none->b∉frs outer->B.get? b=some o)/\(∀b o,s.heap.get? b=some o->b∉frs outer->∃o',B.get? b=some o')
 fresh:s.heap.get? ea=none
def CX1(P:Program)(w:World):CXT:=λouter H s E e s'=>∃ea cls H',e=.ref ea/\Fly P w outer H s H' ea cls s'/\H' ea=none/\E cls none H'
theorem IV{P:Program}{w:World}{X:Cx}:Passes (CX1 P w) X E0:=λ_ _ _ _ _ _ _ h=>by obtain⟨_,_,_,_,_,_,z⟩:=h;exact z.elim
theorem pD{B h:Heap}{l:List Env}(f:h.FunFrames B l):∀b∈frs l,∀o,h.get? b=some o->∀vs,o.data≠.fields vs:=λb hb o e=>by
 obtain⟨_,o',e',hd⟩:=f.mem hb;rw[e] at e';cases e';exact hd
section
variable{P:Program}{w:World}{K:Zf}{mg:Str->Option Value}{base:Heap}{N:List Str}{qual:Str}{scope:Scope}{f:Addr}{cd:Value}{A:Around}{outer:List Env}{s:Shared}{H:Hp}{E:XK}
theorem iy{env:Env}{L:Addr}(hf:env.frame=some L):frs (env::outer)=L::frs outer:=by
 unfold frs;rw[C1z,hf]
theorem vq:Passes (CX1 P w) (eX (CX1 P w) P w K mg base N qual scope f cd A outer s H E) E:=by
 intro z0 O H1 s1 e s' I h;obtain⟨ea,cls,H',rfl,Fl,hn,hE⟩:=h;obtain⟨B,a0,fl,hokB,kB,tB⟩:=Fl.fly;have hfr:frs (eX (CX1 P w) P w K mg base N qual scope f cd A outer s H E).stack=s.heap.objs.size::frs outer:=iy rfl;have nL:∀b o,s.heap.get? b=some o->b≠s.heap.objs.size:=λb o q=>Q4z (P4z q)
 have nin:∀b o,s.heap.get? b=some o->b∉frs outer->b∉frs (eX (CX1 P w) P w K mg base N qual scope f cd A outer s H E).stack:=λb o q hb z=>by
  rw[hfr] at z;rcases L4z.mp z with z|z
  .exact nL b o q z
  .exact hb z
 have noex:∀b:Addr,b∉(eX (CX1 P w) P w K mg base N qual scope f cd A outer s H E).ex:=λb z=>absurd (show b∈([]:List Addr) from z) (by simp);show wpAny _ _ (leaving _ (.ref ea)) _ _ _;refine wpAny_leaves_onW I.ok.frames rfl fl λh2 fl2 up=>?_;refine⟨ea,cls,H',rfl,⟨Fl.os.trans I.os,Fl.bare,?_,⟨B,a0,fl2,hokB,λb o q n hb=>?_,λb o q hb=>?_⟩,?_⟩,hn,hE⟩
 .have U1:=Un.fly Fl.un kB tB fl2.1 (pD fl.2.2.1) up
  have U0:Un (frs (eX (CX1 P w) P w K mg base N qual scope f cd A outer s H E).stack) [] H H1 s.heap s1.heap:=I.base.mono (λb hb=>by rw[hfr];exact S0z _ hb) (λb hb=>hb)
  exact(U0.trans U1).restrict λb o hb q=>by
   rw[hfr] at hb;rcases L4z.mp hb with z|z
   .exact absurd z (nL b o q)
   .exact z
 .exact kB b o (I.base.keep b o q n hb (noex b)) (I.base.free b o q n (noex b)) (nin b o q hb)
 .obtain⟨o1,q1⟩:=I.base.there b o q (noex b)
  exact tB b o1 q1 (nin b o q hb)
 .cases q:s.heap.get? ea with
  |none=>rfl
  |some o =>
   obtain⟨o1,q1⟩:=I.base.there ea o q (noex ea);rw[Fl.fresh] at q1;cases q1
structure FlyH(P:Program)(w:World)(stack:List Env)(L:Addr)(H:Hp)(s:Shared)(H':Hp)(ea:Addr)(cls:Value)(s':Shared):Prop where
 os:s'.os=s.os
 bare:AllBare s'.gens
 un:Un (frs stack) [] H H' s.heap s'.heap
 fly:∃B a0,Heap.HeldW B stack ea cls a0 L s'.heap/\HOk P w H' B/\(∀b o,s.heap.get? b=some o->H b=none->b∉frs stack->B.get? b=some o)/\(∀b o,s.heap.get? b=some o->b∉frs stack->∃o',B.get? b=some o')
 fresh:s.heap.get? ea=none
def CXH(P:Program)(w:World)(env:Env)(stack:List Env)(H:Hp)(s:Shared)(E:XK)(e:Value)(s':Shared):Prop:=∃ea cls H' L,env.frame=some L/\e=.ref ea/\FlyH P w stack L H s H' ea cls s'/\H' ea=none/\E cls none H'
theorem qN{M:Model}{E':Value->Shared->Prop}{env env':Env}{L:Addr}{H':Hp}{ea:Addr}{cls:Value}{s':Shared}{Q:Unit->Shared->Prop}(he:env'.frame=env.frame)(hf:env.frame=some L)(hfr:A.frames=some (env::outer))(Fl:Fly P w (env::outer) H s H' ea cls s')(hq:∀s2,FlyH P w (env::outer) L H s H' ea cls s2->Q () s2) :
  wpAny M A (noteFrame (.ref ea) env') Q E' s':=by
 have e:noteFrame (.ref ea) env'=noteFrame (.ref ea) env:=by unfold noteFrame PySem.frameOf;rw[he]
 rw[e];obtain⟨B,a0,fl,hokB,kB,tB⟩:=Fl.fly;exact wpAny_looks_onW hfr hf fl λh4 held up=>hq _ ⟨Fl.os,Fl.bare,Un.fly Fl.un kB tB held.1 (pD fl.2.2.1) up,⟨B,a0,held,hokB,kB,tB⟩,Fl.fresh⟩
theorem nj{M:Model}{E':Value->Shared->Prop}{stack:List Env}{env':Env}{L:Addr}{H':Hp}{ea:Addr}{cls:Value}{s':Shared}{Q:Unit->Shared->Prop}(he:env'.frame=some L)(Fl:FlyH P w stack L H s H' ea cls s')(hq:Q () s'):wpAny M A (noteFrame (.ref ea) env') Q E' s':=by
 obtain⟨B,a0,held,_⟩:=Fl.fly;exact wpAny_noteFrame_againW he held.2.2.2 hq
theorem sI{z0:List (Addr×Obj)}{O:St}{H1:Hp}{s1:Shared}{e:Value}{s':Shared}(I:Inv (eX (CX1 P w) P w K mg base N qual scope f cd A outer s H E) z0 O H1 s1)(h:CXH P w (eX (CX1 P w) P w K mg base N qual scope f cd A outer s H E).env (eX (CX1 P w) P w K mg base N qual scope f cd A outer s H E).stack H1 s1 E e s') :
  (eX (CX1 P w) P w K mg base N qual scope f cd A outer s H E).xe e s':=by
 obtain⟨ea,cls,H',L,hfL,rfl,Fl,hn,hE⟩:=h;obtain⟨B,a0,held,hokB,kB,tB⟩:=Fl.fly;have hfr:frs (eX (CX1 P w) P w K mg base N qual scope f cd A outer s H E).stack=s.heap.objs.size::frs outer:=iy rfl;have nL:∀b o,s.heap.get? b=some o->b≠s.heap.objs.size:=λb o q=>Q4z (P4z q)
 have nin:∀b o,s.heap.get? b=some o->b∉frs outer->b∉frs (eX (CX1 P w) P w K mg base N qual scope f cd A outer s H E).stack:=λb o q hb z=>by
  rw[hfr] at z;rcases L4z.mp z with z|z
  .exact nL b o q z
  .exact hb z
 have noex:∀b:Addr,b∉(eX (CX1 P w) P w K mg base N qual scope f cd A outer s H E).ex:=λb z=>absurd (show b∈([]:List Addr) from z) (by simp);show wpAny _ _ (leaving _ (.ref ea)) _ _ _;unfold leaving;refine C5z (wpAny_noteFrame_againW hfL held.2.2.2 ?_);refine wpAny_landsW held λh2 fl2 up=>?_;refine⟨ea,cls,H',rfl,⟨Fl.os.trans I.os,Fl.bare,?_,⟨B,a0,⟨fl2.1,fl2.2.1,fl2.2.2.1.2.2,fl2.2.2.2⟩,hokB,λb o q n hb=>?_,λb o q hb=>?_⟩,?_⟩,hn,hE⟩
 .have U1:=Un.fly Fl.un kB tB fl2.1 (pD held.2.2.1) up
  have U0:Un (frs (eX (CX1 P w) P w K mg base N qual scope f cd A outer s H E).stack) [] H H1 s.heap s1.heap:=I.base.mono (λb hb=>by rw[hfr];exact S0z _ hb) (λb hb=>hb)
  exact(U0.trans U1).restrict λb o hb q=>by
   rw[hfr] at hb;rcases L4z.mp hb with z|z
   .exact absurd z (nL b o q)
   .exact z
 .exact kB b o (I.base.keep b o q n hb (noex b)) (I.base.free b o q n (noex b)) (nin b o q hb)
 .obtain⟨o1,q1⟩:=I.base.there b o q (noex b)
  exact tB b o1 q1 (nin b o q hb)
 .cases q:s.heap.get? ea with
  |none=>rfl
  |some o =>
   obtain⟨o1,q1⟩:=I.base.there ea o q (noex ea);rw[Fl.fresh] at q1;cases q1
theorem rZ{z0:List (Addr×Obj)}{O:St}{H1:Hp}{s1:Shared}{C e:Addr}{h':Heap}{args:List Value}(I:Inv (eX (CX1 P w) P w K mg base N qual scope f cd A outer s H E) z0 O H1 s1)(hx:Heap.MadeExcOf s1.heap h' e (.ref C) args)(hE:E (.ref C) none H1) :
  (eX (CX1 P w) P w K mg base N qual scope f cd A outer s H E).xe (.ref e) {s1 with heap:=h'}:=by
 have hfr:frs (eX (CX1 P w) P w K mg base N qual scope f cd A outer s H E).stack=s.heap.objs.size::frs outer:=iy rfl;have nL:∀b o,s.heap.get? b=some o->b≠s.heap.objs.size:=λb o q=>Q4z (P4z q)
 have nin:∀b o,s.heap.get? b=some o->b∉frs outer->b∉frs (eX (CX1 P w) P w K mg base N qual scope f cd A outer s H E).stack:=λb o q hb z=>by
  rw[hfr] at z;rcases L4z.mp z with z|z
  .exact nL b o q z
  .exact hb z
 have noex:∀b:Addr,b∉(eX (CX1 P w) P w K mg base N qual scope f cd A outer s H E).ex:=λb z=>absurd (show b∈([]:List Addr) from z) (by simp);have hin:∀env∈(eX (CX1 P w) P w K mg base N qual scope f cd A outer s H E).stack,∀b,env.frame=some b->b∈frs (eX (CX1 P w) P w K mg base N qual scope f cd A outer s H E).stack:=λenv he b hb=>List.mem_filterMap.mpr ⟨env,he,hb⟩;show wpAny _ _ (leaving _ (.ref e)) _ _ _;have kB:∀b o,s1.heap.get? b=some o->b∉frs (eX (CX1 P w) P w K mg base N qual scope f cd A outer s H E).stack->(W.hideAll s1.heap (frs (eX (CX1 P w) P w K mg base N qual scope f cd A outer s H E).stack)).get? b=some o:=λb o q hb=>W.hideAll_get _ q hb;refine wpAny_leaves_madeW I.ok.frames rfl (λb o q=>W.of_hideAll _ q) (W.funFrames_hide I.stack hin) hx λh2 t x1 x2 x3 x4=>?_;have up:s1.heap.UpToSlots h2:=(Heap.UpToSlots.of_keeps hx.keeps).trans x4
 have hok:HOk P w H1 (W.hideAll s1.heap (frs (eX (CX1 P w) P w K mg base N qual scope f cd A outer s H E).stack)):=HOk.part I.hok λb u ob hu q=>kB b ob q λz=>by
  rw[I.stkFree b z] at hu;cases hu
 have hn:H1 e=none:=HOk.none_of I.hok hx.new;refine⟨e,.ref C,H1,rfl,⟨I.os,I.bare,?_,⟨_,_,x1,hok,λb o q n hb=>?_,λb o q hb=>?_⟩,?_⟩,hn,hE⟩
 .have U1:Un (frs (eX (CX1 P w) P w K mg base N qual scope f cd A outer s H E).stack) [] H1 H1 s1.heap h2:=Un.fly Un.refl (λb o q _ hb=>kB b o q hb) (λb o q hb=>⟨o,kB b o q hb⟩) x1.1 (pD I.stack) up
  have U0:Un (frs (eX (CX1 P w) P w K mg base N qual scope f cd A outer s H E).stack) [] H H1 s.heap s1.heap:=I.base.mono (λb hb=>by rw[hfr];exact S0z _ hb) (λb hb=>hb)
  exact(U0.trans U1).restrict λb o hb q=>by
   rw[hfr] at hb;rcases L4z.mp hb with z|z
   .exact absurd z (nL b o q)
   .exact z
 .exact kB b o (I.base.keep b o q n hb (noex b)) (nin b o q hb)
 .obtain⟨o1,q1⟩:=I.base.there b o q (noex b)
  exact⟨o1,kB b o1 q1 (nin b o q hb)⟩
 .cases q:s.heap.get? e with
  |none=>rfl
  |some o =>
   obtain⟨o1,q1⟩:=I.base.there e o q (noex e);have:=hx.new;rw[this] at q1;cases q1
end
def nsOk(K:Zf)(N:Addr):Bool:=match K.lookup N with
 |some ⟨_,_,.dict es _,_⟩=>es.toList.all (λe=>match e.key with|.str _ _=>true|_=>false)&&(W.nsIn K N "__init__"==some none)
 |_=>false
def xIn(K:Zf)(C M:Addr):Bool:=match K.lookup C,K.lookup M with
 |some ⟨.type "type",_,.cls cd,sl⟩,some ⟨_,_,.cls cdM,_⟩ =>
  (match sl.toList with|[_,_,_,_,some (.builtin n),_]=>n=="ValueError.__new__"|_=>false)&&cd.mro==[.ref C,.ref M,.type "ValueError",.type "Exception",.type "BaseException",.type "object"] && !cd.hasDel&&nsOk K cd.ns&&nsOk K cdM.ns
 |_,_=>false
theorem vJ{K:Zf}{N:Addr}(e:nsOk K N=true):∃mN:Str->Option Value,mN "__init__"=none/\∀h:Heap,K.In h->h.Ns N mN:=by
 unfold nsOk at e;split at e
 .rename_i c d es n sl ho
  rw[L2z] at e;refine⟨nsFind es,?_,λh X=>⟨_,es,n,X _ _ ho,rfl,λen hen=>?_,λ_=>rfl⟩⟩
  .have e2:W.nsIn K N "__init__"=some none:=by simpa using e.2
   unfold W.nsIn at e2;rw[ho] at e2;simp only at e2;unfold nsFind findBy;rw[<- Array.find?_toList];split at e2
   .cases e2
   .rename_i q
    rw[q];rfl
  .have:=A3z.mp e.1 en (by simpa using hen)
   split at this
   .rename_i x t hk;exact⟨x,t,hk⟩
   .cases this
 .cases e
theorem GF{K:Zf}{C M:Addr}(e:xIn K C M=true):∃nm q N bs hdct sn sub ab col dd k0 k1 k2 k3 k5 mN,mN "__init__"=none/\∀h:Heap,K.In h ->
  h.get? C=some (excClassObj nm q C N bs [.ref M,.type "ValueError",.type "Exception",.type "BaseException",.type "object"] hdct sn sub ab col dd k0 k1 k2 k3 k5 "ValueError.__new__")/\h.Ns N mN /\
   OwnTail h [.type "ValueError",.type "Exception",.type "BaseException",.type "object"] [.ref M,.type "ValueError",.type "Exception",.type "BaseException",.type "object"]:=by
 unfold xIn at e;split at e
 .rename_i dd cd sl cM dM cdM slM hC hM
  simp only[L2z,Y1z] at e;obtain⟨⟨⟨⟨e1,e2⟩,e3⟩,e4⟩,e5⟩:=e;split at e1
  .rename_i k0 k1 k2 k3 n k5 hs
   have en:n="ValueError.__new__":=by simpa using e1
   subst en
   have hsl:sl = #[k0,k1,k2,k3,some (.builtin "ValueError.__new__"),k5]:=by
    obtain⟨l⟩:=sl;simp only at hs;rw[hs]
   have em:cd.mro=[.ref C,.ref M,.type "ValueError",.type "Exception",.type "BaseException",.type "object"]:=by simpa using e2
   obtain⟨nm,bs,mro,ns,qn,hd,sn,sub,ab,col,del⟩:=cd;simp only at em e3 e4;subst em e3 hsl;obtain⟨mN,n2,n1⟩:=vJ e4;obtain⟨mM,m2,m1⟩:=vJ e5;exact⟨_,_,_,_,_,_,_,_,_,_,_,_,_,_,_,mN,n2,λh X=>⟨X _ _ hC,n1 h X,.own (X _ _ hM) (m1 h X) m2 .base⟩⟩
  .cases e1
 .cases e
section
variable{X:Cx}
theorem yw{x:Str}{C M:Addr}{np cpos pos:Pos}{txt:Str}{j:Nat}{p1:Pos}{Q:Flow->Shared->Prop}{z0:List (Addr×Obj)}{O:St}{H:Hp}{s:Shared}(I:Inv X z0 O H s)(hc:X.A.handled=none)(hg:Gl X x)(hm:X.mg x=some (.ref C))(hd:(x==("__debug__":Str))=false)(hx:xIn X.K C M=true)
  (k:∀(s2:Shared)(h':Heap)(e:Addr)(args:List Value),Inv X z0 O H s2->Heap.MadeExcOf s2.heap h' e (.ref C) args->X.xe (.ref e) {s2 with heap:=h'}) :
  wpAny (model X.prog X.w) X.A (exec (.Raise (some (.Call (.Name x np) [.Constant (.str txt) j p1] [] cpos)) none pos) X.env) Q X.xe s:=by
 obtain⟨nm,q,N,bs,hdct,sn,sub,ab,col,dd,k0,k1,k2,k3,k5,mN,hni,fx⟩:=GF hx
 refine wpAny_Raise_call_subU (C:=C) (nm:=nm) (q:=q) (N:=N) (bs:=bs) (bm:=[.ref M,.type "ValueError",.type "Exception",.type "BaseException",.type "object"]) (hdct:=hdct) (sn:=sn) (sub:=sub) (ab:=ab) (col:=col) (dd:=dd) (k0:=k0) (k1:=k1) (k2:=k2) (k3:=k3) (k5:=k5)
  F.excBase_ValueError (by decide) F.excBase_ValueError (mN:=mN) ((fx _ I.kIn).2.2.hasType F.excBase_ValueError.hasBase) hc rfl hni (gB I hg hm ⟨rfl,?_⟩ hd)
 have ha:PA X [.Constant (.str txt) j p1] (Hf (tC (.str txt)) Lq):=aY Av cg;show wpAny _ _ (evalArgs (.ref C) true (backTo cpos ((false,eval (.Constant (.str txt) j p1) X.env)::starEach [] X.env)) []) _ _ _;refine U0z (B5z (ha cpos z0 s O H (λvs H1=>vs.length<=1/\H1=H) I ⟨X4z _,rfl⟩) (λus s2 hq=>?_) λ_ _ y=>y);obtain⟨vs,H1,I1,r,q1,rfl⟩:=hq;obtain⟨f1,f2,f3⟩:=fx _ I1.kIn
 have h1:(1:Nat)<=sizeLine:=by decide
 have h2:=r.length;exact⟨rfl,(show us.length<=sizeLine by omega),f1,f2,f3,λh' e hm'=>k s2 h' e us I1 hm'⟩
end
abbrev Cx.inSuite(X:Cx)(e:Value)(xe:Value->Shared->Prop):Cx:={X with A:=X.A.mark (some e),calm:=false,xe:=xe}
section
variable{X:Cx}{z0:List (Addr×Obj)}{O:St}{H H':Hp}{s s':Shared}{e:Value}{xe:Value->Shared->Prop}
theorem Inv.inSuite(I:Inv X z0 O H s)(e:Value)(xe:Value->Shared->Prop):Inv (X.inSuite e xe) z0 O H s :=
 ⟨⟨I.ok.mod,I.ok.kind,I.ok.glob,I.ok.blt,I.ok.above,I.ok.inj,I.ok.has,I.ok.cab,λz=>(nomatch z),I.ok.frames,I.ok.stk,I.ok.exf,I.ok.bs,I.ok.bsz,I.ok.noex,I.ok.exfs,I.ok.funs,I.ok.frf⟩,I.os,I.bare,I.base,I.loc,I.cell,I.free,I.freeC,I.pin,I.hok,I.len⟩
theorem Inv.outSuite(ok:X.Ok)(I:Inv (X.inSuite e xe) z0 O H s):Inv X z0 O H s:=⟨ok,I.os,I.bare,I.base,I.loc,I.cell,I.free,I.freeC,I.pin,I.hok,I.len⟩
theorem Inv.unbound{i:Nat}{x:Str}{v:Option Value}{m:Str->Option Value}{h':Heap}{t':Nat}(I:Inv X z0 O H s)(hN:X.N.Nodup)(hi:X.N[i]?=some x)(hm:s.heap.Ns X.env.locals m)(hn:h'.Ns X.env.locals (λy=>if y=x then v else m y))(hs:Heap.SameBut X.env.locals s.heap h') :
  Inv X z0 (O.set i none) H {s with heap:=h',toks:=t'}:=by
 have cne:=I.cne
 have hiO:i<O.length:=by rw[I.len];exact(List.getElem?_eq_some_iff.mp hi).1
 obtain⟨m0,hn0,hl⟩:=id I.loc
 have hmm:∀y,m0 y=m y:=λy=>by
  obtain⟨o1,es1,ep1,g1,g2,_,g3⟩:=hn0;obtain⟨o2,es2,ep2,f1,f2,_,f3⟩:=hm;rw[g1] at f1;cases f1;rw[g2] at f2;cases f2;rw[<- g3,<- f3]
 obtain⟨oL,_,_,hoL,_⟩:=id hn0
 have tracked:HOk X.prog X.w H h':=λb ob e=>by
  refine(I.hok b ob e).stay (λc w' hc q=>(hs.2 c ?_).trans q) (λ_ q=>q) λ_ _ q=>q;rintro rfl;rcases hc with rfl|hc
  .rw[I.free] at e;cases e
  .rw[I.free] at hc;cases hc
 refine⟨I.ok,I.os,I.bare,⟨λb o e n hb hx=>?_,λb o e n hb hx=>?_,I.base.free,λb o e hx=>?_,I.base.tups,I.base.frzs,I.base.tbls⟩,⟨_,hn,λj y v' e1 e2 e3=>?_⟩,λy c e=>?_,I.free,I.freeC,λp hp=>?_,tracked,by simpa using I.len⟩
 .exact(hs.2 b (Q4z (I1z (P4z e) I.ok.above))).trans (I.base.keep b o e n hb hx)
 .obtain⟨sl,e1⟩:=I.base.slot b o e n hb hx
  exact⟨sl,(hs.2 b (Q4z (I1z (P4z e) I.ok.above))).trans e1⟩
 .obtain⟨o',e1⟩:=I.base.there b o e hx
  exact⟨o',(hs.2 b (Q4z (I1z (P4z e) I.ok.above))).trans e1⟩
 .by_cases hj:j=i
  .subst hj
   rw[List.getElem?_set_self hiO] at e2;cases e2
  .rw[List.getElem?_set_ne (N5z hj)] at e2
   obtain⟨u',r',q⟩:=hl j y v' e1 e2 e3;refine⟨u',r',?_⟩;rcases q with⟨k,e⟩|⟨k,c,e,z⟩
   .refine .inl ⟨k,?_⟩
    have:y≠x:=λe=>hj (lE hN e1 (e▸hi));simp only[this,M5z];rw[<- hmm];exact e
   .exact .inr ⟨k,c,e,z.sameBut hs (cne y c e)⟩
 .obtain⟨w',z⟩:=I.cell y c e
  exact⟨w',z.sameBut hs (cne y c e)⟩
 .obtain⟨e,n,ne,nf,d⟩:=I.pin p hp
  exact⟨(hs.2 p.1 ne).trans e,n,ne,nf,d⟩
end
def isX(a:Addr)(cls:Value)(h:Heap):Prop:=∃o,h.get? a=some o/\o.cls=cls/\∃vs,o.data=.fields vs
theorem Jz{P:Program}{w:World}{H:Hp}{h:Heap}{a:Addr}{cls:Value}(x:isX a cls h):dJ P w H h a (.ext (isX a cls)) :=
 ⟨x,let ⟨o,e,_⟩:=x;⟨o,e⟩,λ_ _ ⟨o,e,r⟩ k=>⟨o,k o e,r⟩⟩
section
variable{X:Cx}{z0:List (Addr×Obj)}{O:St}{H H':Hp}{s s':Shared}{ea:Addr}{cls:Value}
end
def kE(K:Zf)(C:Addr):Bool :=
 W.findIn K (.ref C) "__getattribute__"==some (some (.builtin "BaseException.__getattribute__"))&&W.findIn K (.ref C) "__getattr__"==some none&&W.findIn K (.ref C) "__class__"==some (some (.builtin "object.__class__")) &&
  W.mroIn K C (.type "object")==some true&&W.mroIn K C (.type "BaseException")==some true&&(W.clsIn K C).isSome
section
open PySem.Builtin PySem.Builtin.ObjectAttr PySem.Builtin.Getset_descriptor
variable{prog:Program}{w:World}{A:Around}{E:Value->Shared->Prop}{K:Zf}{h:Heap}{g:Array GenState}{d:Drawn}{t:Nat}{os:OsState}{a C:Addr}{o:Obj}
theorem xty{M:Model}(hx:h.get? a=some o)(hc:o.cls=.ref C):W.Looks M h (typeOf (.ref a)) (.ref C):=hc▸(W.Looks.ld hx).andThen .now
theorem rJ{R:Result->Shared->Prop}(X:K.In h)(hx:h.get? a=some o)(hc:o.cls=.ref C)(hm:W.mroIn K C (.type "object")=some true)(hq:R (.ok (.ret (.ref C))) ⟨h,g,d,t,os⟩) :
  codeAny (model prog w) A (.call (.builtin "getset_descriptor.__get__") ⟨[.builtin "object.__class__",.ref a,.ref C],[]⟩) R ⟨h,g,d,t,os⟩:=by
 have hT5:(⟨h,g,d,t,os⟩:Shared).TypeIs (.builtin "object.__class__") "getset_descriptor":=Q0z;have L0:=xty (M:=model prog w) hx hc;have L1:=W.looks_mroIn (M:=model prog w) X hm;refine V0z W.KF.slot_gs.plain W.KF.entry_gs (W.KF.slot_gs.check _ _ _ _ _ _ _ _ W.KF.type_class (W.KF.args_gs _ _ _) ?_);unfold Builtin.«getset_descriptor.__get__» descrGet;rw[W.dga_obj];refine C5z (D5z ?_);unfold descrGetter descrCheckInstance descrNameAndClass isInstance;simp only[W.KF.owner_class]
 repeat lk
 refine⟨Code.quiet_builtin _ (by decide +kernel),J3z W.KF.entry_class ?_⟩;unfold Builtin.«object.__class__» shownTypeOf
 repeat lk
 exact hq
theorem mC{tk:Tok}{Q:Fin->Shared->Prop}(X:K.In h)(hx:h.get? a=some o)(hc:o.cls=.ref C)(hm:W.mroIn K C (.type "object")=some true)(hf:W.findIn K (.ref C) "__class__"=some (some (.builtin "object.__class__")))(hq:Q (.done (.ret (.ref C))) ⟨h,g,d,t,os⟩) :
  wpAny (model prog w) A (Builtin.«object.__getattribute__» ⟨[.ref a,.str "__class__" tk],[]⟩) Q E ⟨h,g,d,t,os⟩:=by
 have hT5:(⟨h,g,d,t,os⟩:Shared).TypeIs (.builtin "object.__class__") "getset_descriptor":=Q0z;have f5:=Q0z;have f6:=F.slot_gs_get.lookup;have f7:=F.slot_gs_set.lookup;have LF:=W0z (M:=model prog w) X hf
 repeat (any_goals (first|assumption|(with_reducible refine wpAny_loadPart_at hx ?_;rw[hc])|with_reducible refine LF.at ?_|wp_step))
 refine rJ X hx hc hm ?_
 repeat (any_goals (first|assumption|wp_step))
theorem mD{M:Model}{nameV:Value}{Q:Unit->Shared->Prop}(X:K.In h)(hx:h.get? a=some o)(hc:o.cls=.ref C)(hm:W.mroIn K C (.type "BaseException")=some true)(hq:Q () ⟨h,g,d,t,os⟩):wpAny M A (checkBuiltinCall "BaseException.__getattribute__" ⟨[.ref a,nameV],[]⟩) Q E ⟨h,g,d,t,os⟩:=by
 have hk:builtinKind "BaseException.__getattribute__"=some .slot:=by decide +kernel
 have hsplit:splitId "BaseException.__getattribute__"=some ("BaseException","__getattribute__"):=by decide +kernel
 have ha:=F.args_bexc_ga (.ref a) nameV;have LM:=W.looks_mroIn (M:=M) X hm;simp only[checkBuiltinCall,hk,hsplit];refine C5z ?_
 .unfold isInstance
  repeat (first|(with_reducible refine wpAny_loadPart_at hx ?_;rw[hc])|with_reducible refine LM.at ?_|wp_step)
  exact hq
theorem ud{tk:Tok}{fill expr:Bool}{Q:Value->Shared->Prop}(X:K.In h)(hx:h.get? a=some o)(hc:o.cls=.ref C)(hA:kE K C=true)(hq:Q (.ref C) ⟨h,g,d,t,os⟩) :
  wpAny (model prog w) A (getAttrBy (.ref a) (.str "__class__" tk) fill expr) Q E ⟨h,g,d,t,os⟩:=by
 unfold kE at hA;simp only[L2z,H5z] at hA;obtain⟨⟨⟨⟨⟨g1,g2⟩,g3⟩,g4⟩,g5⟩,g6⟩:=hA;have f3:=F.excAttr_ValueError.ga.bind (.ref a)
 have hx0:(expr&&onTheHeap (Value.builtin "BaseException.__getattribute__"))=false:=by cases expr<;>rfl
 have hx2:(Value.builtin "BaseException.__getattribute__"==Value.builtin "object.__getattribute__")=false:=by decide +kernel
 have hx1:(onTheHeap (Value.ref C)&&Value.builtin "BaseException.__getattribute__"==Value.builtin "object.__getattribute__")=false:=by rw[hx2];rfl
 have L1:=W0z (M:=model prog w) X g1;have L2':=W0z (M:=model prog w) X g2
 repeat (any_goals (first|assumption|(with_reducible refine wpAny_loadPart_at hx ?_;rw[hc])|with_reducible refine L1.at ?_|with_reducible refine L2'.at ?_|wp_step))
 refine V0z F.excAttr_ValueError.ga.plain F.entry_bexc_ga (mD X hx hc g5 (mC X hx hc g4 g3 ?_))
 repeat (any_goals (first|assumption|wp_step))
theorem Gz{Q:Option Value->Shared->Prop}(X:K.In h)(hx:h.get? a=some o)(hc:o.cls=.ref C)(hA:kE K C=true)(hq:Q (some (.ref C)) ⟨h,g,d,t+1,os⟩) :
  wpAny (model prog w) A (getAttr? (.ref a) "__class__") Q E ⟨h,g,d,t,os⟩:=by
 unfold getAttr? getAttrBy?
 repeat (any_goals (first|assumption|with_reducible apply ud X hx hc hA|wp_step))
end
theorem yV{K:Zf}{a C:Addr}(hA:kE K C=true):W.KitX K (.ref a) (.ref C) (isX a (.ref C)) where
 ty:=λ_ _ _ ⟨o,e,c,_⟩=>xty e c
 it:=λ_ _ X _=>by
  unfold kE at hA;rw[L2z] at hA;obtain⟨cdD,hcD⟩:=Option.isSome_iff_exists.mp hA.2;unfold W.clsIn at hcD;split at hcD
  .rename_i c' d' cd' sl' ho
   intro A' Q' E' s' k q;unfold isType loadHead;exact C5z (wpAny_loadPart (k _ _ (X _ _ ho)) (D5z q))
  .cases hcD
 ne:=λh tp dd its n sl X htp=>by
  unfold kE at hA;rw[L2z] at hA;obtain⟨cdD,hcD⟩:=Option.isSome_iff_exists.mp hA.2;refine Bool.eq_false_iff.mpr λq=>?_;have e:C=tp:=Value.ref.inj (H5z.mp q);subst e;unfold W.clsIn at hcD;split at hcD
  .rename_i c' d' cd' sl' ho
   have z:=(X _ _ ho).symm.trans htp;cases z
  .cases hcD
 ca:=λ{prog w A E Q s} X p k=>by
  obtain⟨h,g,d,t,os⟩:=s;obtain⟨o,e,c,_⟩:=p;exact Gz X e c hA k
section
variable{X:Cx}{z0:List (Addr×Obj)}{O:St}{H H':Hp}{s s':Shared}{ea C:Addr}
theorem wW{c n kn:Str}{Mc:Addr}{np p1 p2 p3 hp:Pos}{i j:Nat}{Q:Flow->Shared->Prop}(I:Inv X z0 O H s){L:Addr}(Fl:FlyH X.prog X.w X.stack L H s H' ea (.ref C) s')(hn:H' ea=none)(hst:X.stack=X.env::X.outer/\X.env.frame=some X.env.locals)
  (hg:Gl X c) (hm:X.mg c=some (.ref Mc)) (hcd:(c==("__debug__":Str))=false) (hx:W.exmOne X.K (.ref C) (.ref Mc)=some true) (nd:X.N.Nodup) (hi:X.N[i]?=some n) (hj:X.N[j]?=some kn) (hij:i≠j)
  (ln:X.env.scope.names.lookup n=some .local) (lk:X.env.scope.names.lookup kn=some .local) (d1:(n==("__debug__":Str))=false) (d2:(n==("__classdict__":Str))=false)
  (k:∀s2,Inv X z0 ((O.set j (some (.ref ea))).set i none) (upd H' ea (.ext (isX ea (.ref C)))) s2->Q .next s2) :
  wpAny (model X.prog X.w) X.A (setFlight (.ref ea) none) (λ_ s₃ =>
   wpAny (model X.prog X.w) X.A (handleBy (.ref ea) X.env [.ExceptHandler (some (.Name c np)) (some n) [.Assign [.Name kn p1] (.Name n p2) p3] hp]) Q X.xe s₃) X.xe s':=by
 obtain⟨B,a0,held4,hokB,kB,tB⟩:=Fl.fly;have FU:Un (frs X.stack) [] H H' s.heap s'.heap:=Fl.un;refine wpAny_landsW held4 λh5 fl5 up5=>?_;have U5:Un (frs X.stack) [] H H' s.heap h5:=Un.fly FU kB tB fl5.1 (pD held4.2.2.1) up5;have I5:Inv X z0 O H' {s' with heap:=h5}:=I.call' (s':={s' with heap:=h5}) Fl.os U5 (hokB.kept fl5.1) Fl.bare (λb z=>absurd z (by simp));refine wpAny_handleBy_cons (codeAny_handlers_test ?_) (by intro q;cases q);refine gB (I5.inSuite (.ref ea) X.xe) hg hm ?_ hcd
 have LT:W.Looks (model X.prog X.w) h5 (typeOf (.ref ea)) (.ref C):=by
  obtain⟨ob,hob,hoc⟩:=fl5.there;exact xty hob hoc
 refine(W.exm_one I5.kIn LT hx).here ?_;refine codeAny_handlers_suite_as ?_;refine lands_againW fl5 λh6 fl6 up6=>?_;have U6:Un (frs X.stack) [] H H' s.heap h6:=Un.fly FU kB tB fl6.1 (pD held4.2.2.1) (up5.trans up6)
 have hX6:isX ea (.ref C) h6:=by
  obtain⟨oe,ws,e1,e2,e3,_⟩:=fl6.first
  exact⟨oe,e1,e2,ws,e3⟩
 have hok6:HOk X.prog X.w (upd H' ea (.ext (isX ea (.ref C)))) h6:=λb u e=>by
  by_cases hb:b=ea
  .subst hb;rw[aV] at e;cases e;exact Jz hX6
  .rw[aG hb] at e
   exact((hokB.kept fl6.1) b u e).stay (λ_ _ _ q=>q) (λb' q=>by rw[aG (ao q hn)];exact q) λb' xs q=>by rw[aG (ao q hn)];exact q
 have U6':Un (frs X.stack) [] H (upd H' ea (.ext (isX ea (.ref C)))) s.heap h6:=by
  refine⟨U6.keep,U6.slot,λb o q n hx=>?_,U6.there,λb xs q=>?_,λb o u q=>?_,λb ps q=>?_⟩
  .rw[aG (λz=>by rw[z,Fl.fresh] at q;cases q)]
   exact U6.free b o q n hx
  .have:=U6.tups b xs q
   rw[aG (ao this hn)];exact this
  .have:=U6.frzs b o u q
   rw[aG (ao this hn)];exact this
  .obtain⟨more,e⟩:=U6.tbls b ps q
   exact⟨more,by rw[aG (ao e hn)];exact e⟩
 have I6:Inv X z0 O (upd H' ea (.ext (isX ea (.ref C)))) {s' with heap:=h6}:=I.call' (s':={s' with heap:=h6}) Fl.os U6' hok6 Fl.bare (λb z=>absurd z (by simp));refine fU (X:=X.inSuite (.ref ea) X.xe) (I6.inSuite (.ref ea) X.xe) nd hi (.inl ln) (v:=.ref ea) rfl (λs7 I7=>?_) (.inr ln)
 have hiO:i<O.length:=by rw[I.len];exact(List.getElem?_eq_some_iff.mp hi).1
 have hps:PSs (X.inSuite (.ref ea) λ_ _=>False) [.Assign [.Name kn p1] (.Name n p2) p3] (QH (Ly (QG i) (Er j)) Ca):=lq (u0 (X:=X.inSuite (.ref ea) λ_ _=>False) nd hj (.inl lk) (mY (X:=X.inSuite (.ref ea) λ_ _=>False) hi (.inl ln) d1 d2) rfl (.inr lk)) uZ;have I7':Inv (X.inSuite (.ref ea) λ_ _=>False) z0 (O.set i (some (.ref ea))) (upd H' ea (.ext (isX ea (.ref C)))) s7:=(I7.outSuite I.ok).inSuite _ _;refine B5z (hps z0 s7 _ _ {nx:=λO' H''=>O'=(O.set i (some (.ref ea))).set j (some (.ref ea))/\H''=upd H' ea (.ext (isX ea (.ref C))),rt:=λ_ _=>False} I7' ⟨.ref ea,by rw[List.getElem?_set_self hiO],rfl,rfl⟩) (λf s8 h8=>?_) λ_ _ z=>z.elim
 cases f with
 |next =>
  obtain⟨O8,H8,I8,rfl,rfl⟩:=h8;have I8':Inv X z0 ((O.set i (some (.ref ea))).set j (some (.ref ea))) (upd H' ea (.ext (isX ea (.ref C)))) s8:=I8.outSuite I.ok;obtain⟨m,hm8,_⟩:=id I8'.loc;refine wpAny_nameGoes_keeps ln hm8 (by rw[I.ok.kind];rfl) λh9 v hn9 hs9=>?_;have I9:=I8'.unbound (t':=s8.toks+1) nd hi hm8 hn9 hs9
  have eO:(((O.set i (some (V.ref ea))).set j (some (.ref ea))).set i none)=((O.set j (some (.ref ea))).set i none):=by
   rw[List.set_comm _ _ hij,List.set_set]
  rw[eO] at I9;exact k _ I9
 |brk=>obtain⟨_,_,_,z⟩:=h8;exact z.elim
 |cont=>obtain⟨_,_,_,z⟩:=h8;exact z.elim
 |ret u=>obtain⟨_,_,_,_,_,z⟩:=h8;exact z.elim
theorem caught{c n kn:Str}{Mc:Addr}{np p1 p2 p3 hp:Pos}{i j:Nat}{Q:Flow->Shared->Prop}(I:Inv X z0 O H s)(Fl:Fly X.prog X.w X.stack H s H' ea (.ref C) s')(hn:H' ea=none)(hst:X.stack=X.env::X.outer/\X.env.frame=some X.env.locals)
  (hg:Gl X c) (hm:X.mg c=some (.ref Mc)) (hcd:(c==("__debug__":Str))=false) (hx:W.exmOne X.K (.ref C) (.ref Mc)=some true) (nd:X.N.Nodup) (hi:X.N[i]?=some n) (hj:X.N[j]?=some kn) (hij:i≠j)
  (ln:X.env.scope.names.lookup n=some .local) (lk:X.env.scope.names.lookup kn=some .local) (d1:(n==("__debug__":Str))=false) (d2:(n==("__classdict__":Str))=false)
  (k:∀s2,Inv X z0 ((O.set j (some (.ref ea))).set i none) (upd H' ea (.ext (isX ea (.ref C)))) s2->Q .next s2) :
  wpAny (model X.prog X.w) X.A (noteFrame (.ref ea) X.env) (λ_ s₂=>wpAny (model X.prog X.w) X.A (setFlight (.ref ea) none) (λ_ s₃ =>
   wpAny (model X.prog X.w) X.A (handleBy (.ref ea) X.env [.ExceptHandler (some (.Name c np)) (some n) [.Assign [.Name kn p1] (.Name n p2) p3] hp]) Q X.xe s₃) X.xe s₂) X.xe s':=by
 have hfr:X.A.frames=some (X.env::X.outer):=by rw[<- hst.1];exact I.ok.frames
 refine qN rfl hst.2 hfr (by rw[<- hst.1];exact Fl) λs2 F2=>?_
 exact wW I (by rw[hst.1];exact F2) hn hst hg hm hcd hx nd hi hj hij ln lk d1 d2 k
theorem Ge{c n kn:Str}{Mc:Addr}{np p1 p2 p3 hp:Pos}{i j:Nat}{Q:Flow->Shared->Prop}(I:Inv X z0 O H s){L:Addr}(hL:X.env.frame=some L)(Fl:FlyH X.prog X.w X.stack L H s H' ea (.ref C) s')(hn:H' ea=none)(hst:X.stack=X.env::X.outer/\X.env.frame=some X.env.locals)
  (hg:Gl X c) (hm:X.mg c=some (.ref Mc)) (hcd:(c==("__debug__":Str))=false) (hx:W.exmOne X.K (.ref C) (.ref Mc)=some true) (nd:X.N.Nodup) (hi:X.N[i]?=some n) (hj:X.N[j]?=some kn) (hij:i≠j)
  (ln:X.env.scope.names.lookup n=some .local) (lk:X.env.scope.names.lookup kn=some .local) (d1:(n==("__debug__":Str))=false) (d2:(n==("__classdict__":Str))=false)
  (k:∀s2,Inv X z0 ((O.set j (some (.ref ea))).set i none) (upd H' ea (.ext (isX ea (.ref C)))) s2->Q .next s2) :
  wpAny (model X.prog X.w) X.A (noteFrame (.ref ea) X.env) (λ_ s₂=>wpAny (model X.prog X.w) X.A (setFlight (.ref ea) none) (λ_ s₃ =>
   wpAny (model X.prog X.w) X.A (handleBy (.ref ea) X.env [.ExceptHandler (some (.Name c np)) (some n) [.Assign [.Name kn p1] (.Name n p2) p3] hp]) Q X.xe s₃) X.xe s₂) X.xe s':=by
 exact nj hL Fl (wW I Fl hn hst hg hm hcd hx nd hi hj hij ln lk d1 d2 k)
end
def gG(cells:List (Str×Addr)):List (Str×NameKind)->List (Str×Addr)->List (Str×Addr)
 |[],acc=>acc
 |(x,k)::r,acc=>if k==.free then gG cells r ((x,(cells.lookup x).getD 0)::acc) else gG cells r acc
theorem lJ{env:Env}(f:Str×NameKind->List (Str×Addr)->Sem (ForInStep (List (Str×Addr))))
  (hf:∀name kind cs,f (name,kind) cs=if kind==.free then(do let a <- cellOf env name;pure (.yield ((name,a)::cs))) else pure (.yield cs)) :
  ∀(l:List (Str×NameKind))(acc:List (Str×Addr)),(∀x,(x,NameKind.free)∈l->∃c,env.cells.lookup x=some c)->(forIn l acc f:Sem (List (Str×Addr)))=pure (gG env.cells l acc)
 |[],acc,_=>by rw[List.forIn_nil];rfl
 |(x,k)::r,acc,h=>by
  rw[List.forIn_cons,hf];unfold gG
  cases hk:k==NameKind.free with
  |false =>
   simp only[O1z,M5z];show(forIn r acc f:Sem _)=_;exact lJ f hf r acc λy hy=>h y (S0z _ hy)
  |true =>
   simp only[O5z]
   have ek:k=.free:=by simpa using hk
   obtain⟨c,hc⟩:=h x (by rw[ek];exact J1z)
   have e1:cellOf env x=pure c:=by unfold cellOf;rw[hc]
   rw[e1,hc];show(forIn r ((x,c)::acc) f:Sem _)=_;exact lJ f hf r _ λy hy=>h y (S0z _ hy)
theorem jr{env:Env}{scope:Scope}(h:∀x,(x,NameKind.free)∈scope.names->∃c,env.cells.lookup x=some c):closureFor scope env=pure (gG env.cells scope.names []):=by
 simp only[closureFor];rw[lJ (env:=env) _ (λname kind cs=>by cases hk:kind==NameKind.free<;>simp[hk]) scope.names [] h];rfl
theorem pG{M:Model}{A:Around}{E:Value->Shared->Prop}{s:Shared}{scope:Scope}{globals:Addr}{closure:List (Str×Addr)}{qual:Str}{outer:Env}{Q:Env->Shared->Prop}
  (hQ:Q (newEnv scope s.heap.objs.size globals (cellsFrom (s.heap.objs.size+1) scope.names closure) qual none .none (some outer) builtinsNs) {s with heap:=pushCells (s.heap.push {cls:=.type "dict",data:=.dict #[]}) scope.names}) :
  wpAny M A (newFunctionEnv scope globals closure [] qual none .none (some outer)) Q E s:=by
 simp only[newFunctionEnv,Option.isSome_some,O5z];refine C5z (wpAny_alloc ?_);refine C5z (wpAny_layCells _ (λname kind cells=>by cases hkc:kind==NameKind.cell<;>simp[hkc]) _ _ _ _ ?_);rw[show({s with heap:=s.heap.push {cls:=.type "dict",data:=.dict #[]} }:Shared).heap.objs.size=s.heap.objs.size+1 from Z3z ..];rw[List.forIn_nil];exact C5z (D5z (D5z hQ))
theorem fW{α:Type}:∀{l:List (Str×α)}{x:Str}{c:α},(x,c)∈l->∃d,l.lookup x=some d
 |(y,d)::r,x,c,h=>by
  rw[M2z]
  cases hb:x==y with
  |true=>exact⟨d,rfl⟩
  |false =>
   rcases L4z.mp h with e|h
   .cases e;simp at hb
   .exact fW h
theorem bT{α:Type}:∀{l:List (Str×α)}{x:Str}{c:α},(l.map (·.1)).Nodup->(x,c)∈l->l.lookup x=some c
 |(y,d)::r,x,c,hn,h=>by
  rw[G4z,K3z] at hn;rw[M2z];rcases L4z.mp h with e|h'
  .cases e;simp
  .have hne:(x==y)=false:=by
    rw[F1z];intro exy;exact hn.1 (List.mem_map.mpr ⟨(x,c),h',exy⟩)
   rw[hne];exact bT hn.2 h'
theorem cB{x:Str}{c:Addr}:∀(names:List (Str×NameKind))(n:Nat)(acc:List (Str×Addr)),(cellsFrom n names acc).lookup x=some c ->
  ((x,NameKind.cell)∈names/\n<=c)\/((x,NameKind.cell)∉names/\acc.lookup x=some c)
 |[],_,_,h=>.inr ⟨by simp,h⟩
 |(y,k)::r,n,acc,h=>by
  unfold cellsFrom at h
  cases hk:k==NameKind.cell with
  |true =>
   have ek:k=.cell:=by simpa using hk
   subst ek;rw[P5z (show(NameKind.cell==NameKind.cell)=true from rfl)] at h;rcases cB r _ _ h with⟨h1,h2⟩|⟨h1,h2⟩
   .exact .inl ⟨S0z _ h1,by omega⟩
   .rw[M2z] at h2
    cases hb:x==y with
    |true =>
     rw[hb] at h2;cases h2
     have:x=y:=by simpa using hb
     subst this;exact .inl ⟨J1z,X4z _⟩
    |false =>
     rw[hb] at h2;refine .inr ⟨λhm=>?_,h2⟩;rcases L4z.mp hm with e|hm
     .cases e;simp at hb
     .exact h1 hm
  |false =>
   rw[hk] at h;simp only[O1z,M5z] at h;rcases cB r _ _ h with⟨h1,h2⟩|⟨h1,h2⟩
   .exact .inl ⟨S0z _ h1,h2⟩
   .refine .inr ⟨λhm=>?_,h2⟩
    rcases L4z.mp hm with e|hm
    .cases e;simp at hk
    .exact h1 hm
theorem cQ:∀(names:List (Str×NameKind))(n:Nat)(acc:List (Str×Addr)),(acc.Pairwise λx y=>x.2≠y.2)->(∀p∈acc,p.2<n)->(cellsFrom n names acc).Pairwise λx y=>x.2≠y.2
 |[],_,_,h,_=>h
 |(y,k)::r,n,acc,h,hl=>by
  unfold cellsFrom;split
  .refine cQ r _ _ (List.pairwise_cons.mpr ⟨λp hp e=>?_,h⟩) λp hp=>?_
   .have e':n=p.2:=e
    have q:=hl p hp;rw[<- e'] at q;exact D4z _ q
   .rcases L4z.mp hp with e|hp
    .subst e;exact N2z _
    .exact Z1z (hl p hp)
  .exact cQ r _ _ h hl
theorem pU{cells:List (Str×Addr)}(inj:∀x y c,cells.lookup x=some c->cells.lookup y=some c->x=y):∀(names:List (Str×NameKind))(acc:List (Str×Addr)),(names.map (·.1)).Nodup->(∀x,(x,NameKind.free)∈names->∃c,cells.lookup x=some c) ->
  (acc.Pairwise λx y=>x.2≠y.2)->(∀p∈acc,cells.lookup p.1=some p.2/\p.1∉names.map (·.1))->((gG cells names acc).Pairwise λx y=>x.2≠y.2)/\∀p∈gG cells names acc,cells.lookup p.1=some p.2
 |[],acc,_,_,h1,h2=>⟨h1,λp hp=>(h2 p hp).1⟩
 |(y,k)::r,acc,hn,hf,h1,h2=>by
  rw[G4z,K3z] at hn;have hf':∀x,(x,NameKind.free)∈r->∃c,cells.lookup x=some c:=λx hx=>hf x (S0z _ hx);unfold gG;split
  .rename_i hk
   have ek:k=.free:=by simpa using hk
   subst ek;obtain⟨c,hc⟩:=hf y J1z;rw[hc];refine pU inj r _ hn.2 hf' (List.pairwise_cons.mpr ⟨λp hp e=>?_,h1⟩) λp hp=>?_
   .have e':c=p.2:=e
    obtain⟨a1,a2⟩:=h2 p hp;rw[<- e'] at a1;have:=inj _ _ _ a1 hc;exact a2 (by rw[this];simp)
   .rcases L4z.mp hp with e|hp
    .subst e;exact⟨hc,hn.1⟩
    .exact⟨(h2 p hp).1,λz=>(h2 p hp).2 (S0z _ z)⟩
  .exact pU inj r _ hn.2 hf' h1 λp hp=>⟨(h2 p hp).1,λz=>(h2 p hp).2 (S0z _ z)⟩
theorem lU{cells:List (Str×Addr)}{p:Str×Addr}:∀(names:List (Str×NameKind))(acc:List (Str×Addr)),p∈acc->p∈gG cells names acc
 |[],_,h=>h
 |(y,k)::r,acc,h=>by
  unfold gG;split
  .exact lU r _ (S0z _ h)
  .exact lU r _ h
theorem lR{cells:List (Str×Addr)}{x:Str}:∀(names:List (Str×NameKind))(acc:List (Str×Addr)),(x,NameKind.free)∈names->∃c,(x,c)∈gG cells names acc
 |(y,k)::r,acc,h=>by
  unfold gG;rcases L4z.mp h with e|h
  .cases e
   rw[P5z (show(NameKind.free==NameKind.free)=true from rfl)];exact⟨_,lU r _ J1z⟩
  .split
   .exact lR r _ h
   .exact lR r _ h
theorem cY{env:Env}{x:Str}:∀(names:List (Str×NameKind)),
  (names.map λ(n, k)=>if (k==NameKind.free && env.scope.kind==.function && env.kindOf n==some .cell) then (n, NameKind.cell) else (n, k)).lookup x =
   (names.lookup x).map λk=>if(k==NameKind.free&&env.scope.kind==.function&&env.kindOf x==some .cell) then NameKind.cell else k
 |[]=>rfl
 |(y,k)::r=>by
  have ih:=cY (x:=x) (env:=env) r
  by_cases hx:x=y
  .subst hx
   cases hc:(k==NameKind.free&&env.scope.kind==.function&&env.kindOf x==some .cell)<;>simp only[G4z,hc,M2z,O2z,L3z,O5z,M5z,O1z]
  .have hb:(x==y)=false:=by simpa using hx
   cases hc:(k==NameKind.free&&env.scope.kind==.function&&env.kindOf y==some .cell)<;>simp only[G4z,hc,M2z,hb,O5z,M5z,O1z]<;>exact ih
def qD(N:List Str)(O:St)(x:Str):Option V:=match N.idxOf? x with
 |some j=>(O[j]?).getD none
 |none=>none
def sO(N:List Str)(names:List (Str×NameKind))(O:St):St:=names.map λp=>if p.2==.free then qD N O p.1 else none
def lQ(scope:Scope)(cells:List (Str×Addr))(C:Addr)(env:Env):Env :=
 {scope:=relabel scope env,locals:=C,globals:=env.globals,cells:=cells,qual:=env.qual,func:=none,code:=env.code,frame:=env.frame,builtins:=env.builtins}
def xeI(X:Cx)(cenv:Env)(x:Value)(s:Shared):Prop:=∃m,s.heap.Ns cenv.locals m/\∀h' m',h'.Ns cenv.locals m'->Heap.SameBut cenv.locals s.heap h'->wpAny (model X.prog X.w) X.A (passOn "comprehension.variables-let-go" x cenv:Sem Value) (λ_ _=>False) X.xe {s with heap:=h'}
def xeC(X:Cx)(cenv:Env):Value->Shared->Prop:=notedBy (model X.prog X.w) X.A cenv (xeI X cenv)
def XOk(X:Cx)(O:St)(E:XK):Prop:=∀z0 H s e s',Inv X z0 O H s->(CX1 X.prog X.w X.stack H s E e s'\/CXH X.prog X.w X.env X.stack H s E e s')->X.xe e s'
def mz(X:Cx):Prop:=∃env outer L,X.stack=env::outer/\env.frame=some L/\X.env.frame=some L
structure CompOf(X:Cx)(scope:Scope)(Xc:Cx):Prop where
 prog:Xc.prog=X.prog
 w:Xc.w=X.w
 K:Xc.K=X.K
 mg:Xc.mg=X.mg
 base:Xc.base=X.base
 A:Xc.A=X.A
 N:Xc.N=scope.names.map (·.1)
 sc:Xc.env.scope=relabel scope X.env
 calm:Xc.calm=true
 fn:Xc.fn=λx=>scope.names.lookup x==some .cell
 stk:mz X->mz Xc
def jj(X:Cx)(scope:Scope)(cells:List (Str×Addr))(C:Addr)(s:Shared)(H:Hp)(fp:List Addr):Cx where
 prog:=X.prog
 w:=X.w
 K:=X.K
 mg:=X.mg
 base:=X.base
 A:=X.A
 N:=scope.names.map (·.1)
 s₀:=s
 H₀:=H
 env:=lQ scope cells C X.env
 outer:=X.stack
 stack:=X.stack
 ex:=fp
 fn:=λx=>scope.names.lookup x==some .cell
 calm:=true
 pn:=[]
 xe:=xeC X (lQ scope cells C X.env)
def xU(X:Cx)(ifs:List Expr)(t:TT):Prop :=
  ∀(z0:List (Addr×Obj))(s:Shared)(O:St)(H:Hp)(Q:Bool->Hp->Prop), Inv X z0 O H s->t O H Q ->
    wpAny (model X.prog X.w) X.A (forIn ifs true λc r=>if r=true then do let ok <- isTrue c X.env (eval c X.env);pure (ForInStep.yield ok) else pure (ForInStep.yield r)) (TP X z0 O Q) X.xe s
theorem qL{X:Cx}:xU X [] (λ_ H Q=>Q true H):=λ_ _ _ H _ I h=>wpAny_tests_nil ⟨H,I,h⟩
theorem yD{X:Cx}{c:Expr}{t:TT}(h:PT X c t):xU X [c] t:=λz0 s O H Q I hw=>wpAny_tests_one (h z0 s O H Q I hw)
def uy(X:Cx)(scope:Scope)(wi:TI)(mk:St->St)(g:Cx->TG)(tc:Cx->TT)(te:Cx->TE):TE:=λO H Q=>wi O H λJ H1=>∀acc,H1 acc=none->∀Xc,CompOf X scope Xc->(mz X->∀E Oc,XOk X O E->XOk Xc Oc E) ->
  ∃W:Nat->Nat->St->Hp->Prop, (∃m, W 0 m (mk O) (upd H1 acc (.lst [])))/\∀i m Oc H, W i m Oc H ->
    (J.stop i H/\Q (.ref acc) H)\/(J.go i H/\∃N:St->Hp->Prop,(∀O' H',N O' H'->∃m',m'<m/\W (i+1) m' O' H')/\∀x H',J.yld i H x H' ->
      g Xc x Oc H' λO2 H2=>tc Xc O2 H2 λb H3=>if b=true then te Xc O2 H3 λv H4=>∃ys,H4 acc=some (.lst ys)/\ys.length<sizeLine/\N O2 (upd H4 acc (.lst (ys++[v]))) else N O2 H3)
theorem fH{prog:Program}{w:World}{A:Around}{R:Result->Shared->Prop}{s:Shared}{elt target iter:Expr}{ifs:List Expr}{scope:Scope}{pos:Pos}{it acc:Value}{env:Env}{E':Value->Shared->Prop}(hE:∀e s,E' e s->notedBy (model prog w) A env (λe s'=>R (.error e) s') e s)(I:Nat->Shared->Prop)
  (turn:∀n s,I n s->wpAny (model prog w) A (pyNext it) (λr s₁=>match r with
   |none=>R (.ok .next) s₁
   | some v=>wpAny (model prog w) A (letOwnedTupleGo target it v) (λ_ s₁'=>wpAny (model prog w) A (assign target env v) (λ_ s₂ =>
     wpAny (model prog w) A (forIn ifs true λc r=>if r=true then do let ok <- isTrue c env (eval c env);pure (ForInStep.yield ok) else pure (ForInStep.yield r)) (λok s₃ =>
      if ok=true then wpAny (model prog w) A (eval elt env) (λx s₄ =>
       wpAny (model prog w) A (call (.builtin "list.append") [acc,x]) (λ_ s₅=>∃m,m<n/\I m s₅) E' s₄) E' s₃
      else ∃m,m<n/\I m s₃) E' s₂) E' s₁') E' s₁) E' s)
  (n:Nat) (h:I n s) :
  codeAny (model prog w) A (.compLoop (.ListComp elt [⟨target,iter,ifs,0⟩] scope pos) 0 it acc env) R s:=by
 refine codeAny_loop rfl I (λn s hI=>?_) n h;show wpAny _ A ((compTurn (.ListComp elt [⟨target,iter,ifs,0⟩] scope pos) 0 it acc env).onRaise (λx=>do noteFrame x env;theTreesLotGoes x)) _ _ s;refine wpAny_noted (B5z (E:=E') ?_ (λ_ _ q=>q) hE);rw[compTurn_list];refine C5z (E4z (C5z (B5z (turn n s hI) (λr s₁ h₁=>?_) λ_ _ h'=>h')))
 cases r with
 |none=>exact D5z h₁
 |some v =>
  refine C5z (B5z h₁ (λ_ s₁' h₁'=>?_) λ_ _ h'=>h');refine C5z (B5z h₁' (λ_ s₂ h₂=>C5z (B5z h₂ (λok s₃ h₃=>?_) λ_ _ h'=>h')) λ_ _ h'=>h')
  cases ok with
  |false=>exact D5z ⟨rfl,h₃⟩
  |true =>
   exact C5z (C5z (B5z h₃ (λx s₄ h₄=>C5z (B5z h₄ (λ_ s₅ h₅=>D5z (D5z ⟨rfl,h₅⟩)) λ_ _ h'=>h')) λ_ _ h'=>h'))
section
variable{X:Cx}
theorem jZ{z0:List (Addr×Obj)}{O:St}{H:Hp}{s:Shared}{scope:Scope}(I:Inv X z0 O H s)(hnd:(scope.names.map (·.1)).Nodup)
  (hcap:∀x,(x,NameKind.free)∈scope.names->X.env.kindOf x=some .cell\/X.env.kindOf x=some .free) :
  (∀x,(x,NameKind.free)∈scope.names->∃c,X.env.cells.lookup x=some c) /\
  ((cellsFrom (s.heap.objs.size+1) scope.names (gG X.env.cells scope.names [])).Pairwise λx y=>x.2≠y.2) /\
  (∀x c,(cellsFrom (s.heap.objs.size+1) scope.names (gG X.env.cells scope.names [])).lookup x=some c->((x,NameKind.cell)∈scope.names/\s.heap.objs.size+1<=c)\/((x,NameKind.cell)∉scope.names/\X.env.cells.lookup x=some c/\c<s.heap.objs.size)) /\
  (∀x,(x,NameKind.free)∈scope.names->(cellsFrom (s.heap.objs.size+1) scope.names (gG X.env.cells scope.names [])).lookup x=X.env.cells.lookup x):=by
 have hf:∀x,(x,NameKind.free)∈scope.names->∃c,X.env.cells.lookup x=some c:=λx hx=>I.ok.has x (hcap x hx);have ok:=pU I.ok.inj scope.names [] hnd hf List.Pairwise.nil (λp hp=>absurd hp (by simp))
 have small:∀x c,X.env.cells.lookup x=some c->c<s.heap.objs.size:=λx c e=>by
  obtain⟨v,z⟩:=I.cell x c e;exact z.lt
 refine⟨hf,cQ _ _ _ ok.1 λp hp=>Z1z (small p.1 p.2 (ok.2 p hp)),λx c e=>?_,λx hx=>?_⟩
 .rcases cB _ _ _ e with h|⟨h1,h2⟩
  .exact .inl h
  .have h3:=ok.2 _ (E1z h2)
   exact .inr ⟨h1,h3,small _ _ h3⟩
 .obtain⟨c,hc⟩:=hf x hx
  have nc:(x,NameKind.cell)∉scope.names:=λz=>by
   have e1:=bT hnd z;rw[bT hnd hx] at e1;cases e1
  obtain⟨d,hd⟩:=lR (cells:=X.env.cells) scope.names [] hx;obtain⟨d',hd'⟩:=fW hd;have hs:((cellsFrom (s.heap.objs.size+1) scope.names (gG X.env.cells scope.names [])).lookup x).isSome=true:=J0z _ _ _ (.inr (by rw[hd'];rfl));obtain⟨c',hc'⟩:=Option.isSome_iff_exists.mp hs;rcases cB _ _ _ hc' with⟨h,_⟩|⟨_,h2⟩
  .exact absurd h nc
  .rw[hc',ok.2 _ (E1z h2)]
theorem Ds:∀(names:List (Str×NameKind))(h:Heap)(acc:List (Str×Addr)){x:Str}{c:Addr},(cellsFrom h.objs.size names acc).lookup x=some c->(x,NameKind.cell)∈names->(pushCells h names).IsCell c none:=by
 intro names
 induction names with
 |nil=>intro h acc x c e hx;cases hx
 |cons p r ih =>
  obtain⟨y,k⟩:=p;intro h acc x c e hx;unfold cellsFrom at e;unfold pushCells
  by_cases hin:(x,NameKind.cell)∈r
  .split at e
   .rename_i hk
    rw[P5z hk];refine ih (h.push {cls:=.type "cell",data:=.cell none}) ((y,h.objs.size)::acc) ?_ hin;rw[Z3z];exact e
   .rename_i hk
    rw[Q5z hk];exact ih h acc e hin
  .rcases L4z.mp hx with ex|hx
   .cases ex
    rw[P5z (show(NameKind.cell==NameKind.cell)=true from rfl)] at e ⊢;rcases cB _ _ _ e with⟨h1,_⟩|⟨_,h2⟩
    .exact absurd h1 hin
    .rw[M2z] at h2
     simp at h2;subst h2;exact⟨_,M3z _ _ _ _ (Heap.get?_push_size _ rfl),rfl⟩
   .exact absurd hx hin
theorem Ab{z0:List (Addr×Obj)}{O:St}{H:Hp}{s:Shared}{scope:Scope}{fp:List Addr}(I:Inv X z0 O H s)(hc:X.calm=true)(hk:scope.kind=.function)(hnd:(scope.names.map (·.1)).Nodup)
  (hcap:∀x,(x,NameKind.free)∈scope.names->X.env.kindOf x=some .cell\/X.env.kindOf x=some .free) (hfp:∀b∈fp,tW X z0 H b) (hlt:∀b∈fp,b<s.heap.objs.size) :
  Inv (jj X scope (cellsFrom (s.heap.objs.size+1) scope.names (gG X.env.cells scope.names [])) s.heap.objs.size s H fp) [] (sO X.N scope.names O) H {s with heap:=pushCells (s.heap.push {cls:=.type "dict",data:=.dict #[]}) scope.names}:=by
 obtain⟨hf,apart,look,same⟩:=jZ I hnd hcap;have keep:∀b o,s.heap.get? b=some o->(pushCells (s.heap.push {cls:=.type "dict",data:=.dict #[]}) scope.names).get? b=some o:=λb o e=>M3z _ _ b o (Heap.get?_push_of_some _ e);have ckd:=cellsFrom_ok scope.names (s.heap.push {cls:=.type "dict",data:=.dict #[]}) (s.heap.objs.size+1) [] ⟨λ_ _ hm=>(nomatch hm),List.Pairwise.nil⟩ (by rw[Z3z];exact X4z _);rw[Z3z] at ckd;have own:∀x c,(cellsFrom (s.heap.objs.size+1) scope.names (gG X.env.cells scope.names [])).lookup x=some c->(x,NameKind.cell)∈scope.names->(pushCells (s.heap.push {cls:=.type "dict",data:=.dict #[]}) scope.names).IsCell c none:=λx c e hx=>Ds scope.names (s.heap.push {cls:=.type "dict",data:=.dict #[]}) _ (by rw[Z3z];exact e) hx;have kinds:∀x,(jj X scope (cellsFrom (s.heap.objs.size+1) scope.names (gG X.env.cells scope.names [])) s.heap.objs.size s H fp).env.kindOf x=(scope.names.lookup x).map λk=>if(k==NameKind.free&&X.env.scope.kind==.function&&X.env.kindOf x==some .cell) then NameKind.cell else k:=λx=>cY scope.names;have fresh:∀{b:Addr},s.heap.objs.size<=b->H b=none:=λhb=>I.hok.fresh hb
 refine⟨⟨I.ok.mod,hk,I.ok.glob,I.ok.blt,X4z _,λx y c e1 e2=>name_of_addr apart (E1z e1) (E1z e2),λx hx=>?_,λx c hx e=>?_,λ_=>I.ok.hd hc,I.ok.frames,.inl rfl,λb hb=>⟨Q4z (hlt b hb),λx c e=>?_⟩,I.bs,R4z I.ok.bsz I.sz,λb o e hb=>?_,λb hb z=>?_,I.stack,I.stkFree⟩,
  rfl,I.bare,Un.kept keep,⟨λ_=>none,?_,λi x v e1 e2 e3=>?_⟩,λx c e=>?_,fresh (X4z _),λx c e=>?_,λp hp=>absurd (show p∈([]:List (Addr×Obj)) from hp) (by simp),I.hok.kept keep,?_⟩
 ·
  rw[kinds x] at hx
  cases hl:scope.names.lookup x with
  |none=>rw[hl] at hx;rcases hx with h|h<;>cases h
  |some k =>
   rw[hl] at hx;have hm:=E1z hl
   cases k with
   |cell=>exact Option.isSome_iff_exists.mp (J0z _ _ _ (.inl hl))
   |free =>
    obtain⟨c,h⟩:=hf x hm;exact⟨c,(same x hm).trans h⟩
   |_=>simp at hx
 .have hm:(x,NameKind.cell)∈scope.names:=E1z (by simpa[jj] using hx)
  rcases look x c e with⟨_,h⟩|⟨h,_⟩
  .exact A2z h
  .exact absurd hm h
 .rcases look x c e with⟨_,h⟩|⟨_,h,_⟩
  .exact T4z (I1z (hlt b hb) (A2z h))
  .exact(hfp b hb).2.2.2.2.1 x c h
 .rcases(hfp b hb).2.2.2.1 with z|z
  .exact I.ok.noex b o e z
  .exact absurd (I1z (P4z e) (R4z I.ok.bsz z)) (D4z _)
 .rcases L4z.mp (I.stkSub b z) with h|h
  .exact(hfp b hb).2.1 h
  .exact(hfp b hb).2.2.1 h
 .exact(Heap.Ns.new s.heap (.type "dict")).keeps (M3z _ _)
 ·
  have e1':(scope.names.map (·.1))[i]?=some x:=e1;rw[List.getElem?_map] at e1';unfold sO at e2;rw[List.getElem?_map] at e2
  cases hp:scope.names[i]? with
  |none=>rw[hp] at e2;cases e2
  |some p =>
   rw[hp] at e1' e2;have ex:p.1=x:=D3z e1';have e2':(if p.2==.free then qD X.N O p.1 else none)=some v:=D3z e2
   cases hk2:p.2==NameKind.free with
   |false=>rw[hk2] at e2';simp at e2'
   |true =>
    rw[hk2] at e2';simp only[O5z] at e2'
    have ek:p.2=.free:=by simpa using hk2
    have hm:(x,NameKind.free)∈scope.names:=by
     have:=List.mem_of_getElem? hp;rw[<- ex,<- ek];exact this
    unfold qD at e2';rw[ex] at e2'
    cases hj:X.N.idxOf? x with
    |none=>rw[hj] at e2';cases e2'
    |some j =>
     rw[hj] at e2';have e3:(O[j]?).getD none=some v:=e2'
     have hO:O[j]?=some (some v):=by
      cases q:O[j]? with
      |none=>rw[q] at e3;simp at e3
      |some o=>rw[q] at e3;simp at e3;rw[e3]
     have hN:X.N[j]?=some x:=by
      rw[List.idxOf?,List.findIdx?_eq_some_iff_getElem] at hj;obtain⟨h1,h2,_⟩:=hj;rw[List.getElem?_eq_getElem h1];simpa using h2
     obtain⟨m,hn,hl⟩:=I.loc;have kx:=hcap x hm;obtain⟨u,r,l⟩:=hl j x v hN hO (by rcases kx with k|k;exact .inr (.inl k);exact .inr (.inr k));refine⟨u,r,.inr ⟨?_,?_⟩⟩
     .rw[kinds x,bT hnd hm]
      simp only[L3z];split
      .exact .inl rfl
      .exact .inr rfl
     .rcases l with⟨k,_⟩|⟨_,c,hc',z⟩
      .rcases kx with k'|k'<;>(rw[k'] at k;cases k)
      .exact⟨c,(same x hm).trans hc',z.keeps keep⟩
 .rcases look x c e with⟨h,_⟩|⟨_,h,_⟩
  .exact⟨_,own x c e h⟩
  .obtain⟨v,z⟩:=I.cell x c h
   exact⟨v,z.keeps keep⟩
 .rcases look x c e with⟨_,h⟩|⟨_,h,_⟩
  .exact fresh (A2z h)
  .exact I.freeC x c h
 .show(sO X.N scope.names O).length=(scope.names.map (·.1)).length
  unfold sO;rw[I3z,I3z]
structure Blk(X:Cx)(z0:List (Addr×Obj))(H:Hp)(s:Shared)(C:Addr):Prop where
 ns:∃m,s.heap.Ns C m
 free:H C=none
 loc:C≠X.env.locals
 abv:X.s₀.heap.objs.size<=C
 cel:∀x c,X.env.cells.lookup x=some c->c≠C
 pin:∀p∈X.pn++z0,p.1≠C
theorem Blk.gone{z0:List (Addr×Obj)}{O:St}{H:Hp}{s:Shared}{C:Addr}{h':Heap}(b:Blk X z0 H s C)(I:Inv X z0 O H s)(hs:Heap.SameBut C s.heap h'):Inv X z0 O H {s with heap:=h'} :=
 I.turned (t':=s.toks) (λc o hc e=>(hs.2 c hc).trans e) b.free b.loc (.inr b.abv) b.cel b.pin
theorem Dr{M:Model}{A:Around}{E:Value->Shared->Prop}{Q:Value->Shared->Prop}{s:Shared}{env:Env}{l:List Env}{B:Heap}{ea L:Addr}{cls a0:Value}{n:String}(hf:env.frame=some L)(x:Heap.HeldW B l ea cls a0 L s.heap)
  (k:∀h',Heap.HeldW B l ea cls a0 L h'->s.heap.UpToSlots h'->E (.ref ea) {s with heap:=h'}):wpAny M A (passOn n (.ref ea) env:Sem Value) Q E s:=by
 obtain⟨x1,x2,x3,oe,vs,T,oT,ts,he,hcls,hd,h1,hnT,hTe,hT,hdT,h3⟩:=x;have other:∀b,b≠T->(s.heap.update T (Obj.mapFields (·.setIfInBounds 3 (rawInt L)))).get? b=s.heap.get? b:=λb hb=>Heap.get?_update_other _ _ (N5z hb)
 have noRecord:∀b o,s.heap.get? b=some o->(∀vs,o.data≠.fields vs)->b≠T:=λb o hb hnf q=>by
  rw[q,hT] at hb;cases hb;exact hnf ts hdT
 have h3':3<ts.size:=(Array.getElem?_eq_some_iff.mp h3).1;unfold PySem.passOn setFlight;refine C5z (Y4z he hd h1 ?_);rw[Q5z (show ¬ (Value.ref T==Value.none)=true from by simp)];refine C5z (C5z (Y4z he hd h1 ?_));rw[P5z (show(Value.ref T !=Value.none)=true from by simp),hf];refine wpAny_setField hT hdT h3' ?_
 refine wpAny_throw (k _ ⟨λb o hbo=>(other b λq=>by rw[q,hnT] at hbo;cases hbo).trans (x1 b o hbo),x2,x3.of_keeps λb o hb hnf=>⟨o,(other b (noRecord b o hb hnf)).trans hb,rfl⟩,
  oe,vs,T,_,_,(other ea (N5z hTe)).trans he,hcls,hd,h1,hnT,hTe,Heap.get?_update_self _ hT (Obj.isFreed_of_fields (P1z hdT _)),P1z hdT _,by simp[h3']⟩ λb o hb hnf=>⟨o.slots,(other b (noRecord b o hb hnf)).trans hb⟩)
theorem f9{h h' B B':Heap}:∀{l:List Env},(∀b∈frs l,h'.get? b=h.get? b/\B'.get? b=B.get? b)->h.FunFrames B l->h'.FunFrames B' l
 |[],_,_=>trivial
 |env::r,k,⟨x1,⟨L,o,hf,hn,ho,hd⟩,x3⟩=>by
  have e:frs (env::r)=L::frs r:=iy hf;rw[e] at k;obtain⟨k1,k2⟩:=k L J1z;exact⟨x1,⟨L,o,hf,k2.trans hn,k1.trans ho,hd⟩,f9 (λb hb=>k b (S0z _ hb)) x3⟩
theorem Aa{z0:List (Addr×Obj)}{O:St}{H:Hp}{s s':Shared}{E:XK}{cenv:Env}{e:Value}(IX:Inv X z0 O H s)(b:Blk X z0 H s cenv.locals)(hfr:cenv.frame=X.env.frame)(hst:mz X)(hx:XOk X O E)(hC:cenv.locals∉frs X.stack)
  (h:CX1 X.prog X.w X.stack H s E e s'\/CXH X.prog X.w cenv X.stack H s E e s'):xeC X cenv e s':=by
 obtain⟨env,outer,L,hs,hL,hXL⟩:=hst
 have key:∀{ea cls H'},H' ea=none->E cls none H'->∀s2,FlyH X.prog X.w X.stack L H s H' ea cls s2->xeI X cenv (.ref ea) s2:=by
  intro ea cls H' hn hE s2 F;obtain⟨B,a0,held,hokB,kB,tB⟩:=F.fly;obtain⟨m,oC,es,ep,hoC,dC⟩:=b.ns;have hCn:=b.free;have sC:=F.un.keep _ _ hoC hCn hC (by simp);have bC:=kB _ _ hoC hCn hC;refine⟨m,⟨oC,es,ep,sC,dC⟩,λh' m' hn' hsb=>?_⟩;obtain⟨o',es',ep',ho',dC'⟩:=hn';have fr':=(Heap.get?_some_iff.mp ho').2;have tC:(s.heap.update cenv.locals λ_=>o').get? cenv.locals=some o':=Heap.get?_update_self (λ_=>o') hoC fr';have tN:∀{b},b≠cenv.locals->(s.heap.update cenv.locals λ_=>o').get? b=s.heap.get? b:=λq=>Heap.get?_update_other _ _ (N5z q);have uC:(B.update cenv.locals λ_=>o').get? cenv.locals=some o':=Heap.get?_update_self (λ_=>o') bC fr';have uN:∀{b},b≠cenv.locals->(B.update cenv.locals λ_=>o').get? b=B.get? b:=λq=>Heap.get?_update_other _ _ (N5z q)
  have ne:ea≠cenv.locals:=λz=>by rw[<- z,F.fresh] at hoC;cases hoC
  have hC':=F.un.free _ _ hoC hCn (by simp);have nf:∀{b},b∈frs X.stack->b≠cenv.locals:=λz q=>hC (q▸z)
  have U:Un (frs X.stack) [] H H' (s.heap.update cenv.locals λ_=>o') h':=by
   refine⟨λb o q n hb hx=>?_,λb o q n hb hx=>?_,λb o q n hx=>?_,λb o q hx=>?_,F.un.tups,F.un.frzs,F.un.tbls⟩
   .by_cases hbc:b=cenv.locals
    .subst hbc;rw[tC] at q;cases q;exact ho'
    .exact(hsb.2 b hbc).trans (F.un.keep b o ((tN hbc).symm.trans q) n hb hx)
   .have hbc:=nf hb
    obtain⟨sl,z⟩:=F.un.slot b o ((tN hbc).symm.trans q) n hb hx;exact⟨sl,(hsb.2 b hbc).trans z⟩
   .by_cases hbc:b=cenv.locals
    .subst hbc;exact hC'
    .exact F.un.free b o ((tN hbc).symm.trans q) n hx
   .by_cases hbc:b=cenv.locals
    .subst hbc;exact⟨o',ho'⟩
    .obtain⟨o1,z⟩:=F.un.there b o ((tN hbc).symm.trans q) hx
     exact⟨o1,(hsb.2 b hbc).trans z⟩
  have held':Heap.HeldW (B.update cenv.locals λ_=>o') X.stack ea cls a0 L h':=by
   obtain⟨x1,x2,x3,oe,vs,T,oT,ts,he,hcls,hd,h1,hnT,hTe,hT,hdT,h3⟩:=held
   have nT:T≠cenv.locals:=λz=>by rw[z,bC] at hnT;cases hnT
   exact⟨λb o q=>by
    by_cases hbc:b=cenv.locals
    .subst hbc;rw[uC] at q;cases q;exact ho'
    .exact(hsb.2 b hbc).trans (x1 b o ((uN hbc).symm.trans q)),(uN ne).trans x2,f9 (λb z=>⟨hsb.2 b (nf z),uN (nf z)⟩) x3,oe,vs,T,oT,ts,(hsb.2 _ ne).trans he,hcls,hd,h1,(uN nT).trans hnT,hTe,(hsb.2 _ nT).trans hT,hdT,h3⟩
  refine Dr (hfr.trans hXL) held' λh2 held2 up=>?_
  have kB':∀b o,(s.heap.update cenv.locals λ_=>o').get? b=some o->H b=none->b∉frs X.stack->(B.update cenv.locals λ_=>o').get? b=some o:=λb o q n hb=>by
   by_cases hbc:b=cenv.locals
   .subst hbc;rw[tC] at q;cases q;exact uC
   .exact(uN hbc).trans (kB b o ((tN hbc).symm.trans q) n hb)
  have tB':∀b o,(s.heap.update cenv.locals λ_=>o').get? b=some o->b∉frs X.stack->∃o1,(B.update cenv.locals λ_=>o').get? b=some o1:=λb o q hb=>by
   by_cases hbc:b=cenv.locals
   .subst hbc;exact⟨o',uC⟩
   .obtain⟨o1,z⟩:=tB b o ((tN hbc).symm.trans q) hb
    exact⟨o1,(uN hbc).trans z⟩
  refine hx z0 H {s with heap:=s.heap.update cenv.locals λ_=>o'} _ _ (b.gone IX (.update _ _ _)) (.inr ⟨ea,cls,H',L,hXL,rfl,⟨F.os,F.bare,Un.fly U kB' tB' held2.1 (pD held'.2.2.1) up,⟨_,a0,held2,HOk.part hokB λb u ob hu q=>(uN λz=>by rw[z,hC'] at hu;cases hu).trans q,kB',tB'⟩,(tN ne).trans F.fresh⟩,hn,hE⟩)
 rcases h with⟨ea,cls,H',rfl,F,hn,hE⟩|⟨ea,cls,H',L',hL',rfl,F,hn,hE⟩
 .exact qN (hfr.trans (hXL.trans hL.symm)) hL (by rw[<- hs];exact IX.ok.frames) (by rw[<- hs];exact F) λs2 F2=>key hn hE s2 (by rw[hs];exact F2)
 .rw[hfr,hXL] at hL'
  cases hL';exact nj (hfr.trans hXL) F (key hn hE _ F)
def Gd(X:Cx)(use:Option (Value->Sem Unit))(Q:Value->Shared->Prop)(acc:Value)(cenv:Env)(r:Result)(s':Shared):Prop :=
 match r,use with
 |.ok _,none=>∃m,s'.heap.Ns cenv.locals m/\∀h',Heap.SameBut cenv.locals s'.heap h'->Q acc {s' with heap:=h'}
 |.ok _,some u=>wpAny (model X.prog X.w) X.A (u acc) (λ_ s''=>∃m,s''.heap.Ns cenv.locals m/\∀h',Heap.SameBut cenv.locals s''.heap h'->Q .none {s'' with heap:=h'}) X.xe s'
 |.error x,_=>xeI X cenv x s'
theorem wQ{e:Expr}{scope:Scope}{pos:Pos}{newAcc first:Sem Value}{g:Comprehension}{gs:List Comprehension}{cl:List (Str×Addr)}{use:Option (Value->Sem Unit)}{Q:Value->Shared->Prop}{s:Shared}
  (hcl:clausesOf e=g::gs) (hs:∀x,foldedSetIterable g.iter X.env x=pure x) (hclos:closureFor scope X.env=pure cl) (hkind:scope.kind=.function) (hnames:∀x∈scope.names,x.2=.local->scope.names.lookup x.1=some .local)
  (h:wpAny (model X.prog X.w) X.A first (λx s₁=>wpAny (model X.prog X.w) X.A (pyIter x) (λit s₂=>wpAny (model X.prog X.w) X.A newAcc (λacc s₃ =>
   wpAny (model X.prog X.w) X.A (newFunctionEnv scope X.env.globals cl [] X.env.qual none .none (some X.env)) (λcenv s₄ =>
    codeAny (model X.prog X.w) X.A (.compStart e 0 it acc {cenv with scope:=relabel scope X.env}) (Gd X use Q acc {cenv with scope:=relabel scope X.env}) s₄) X.xe s₃) X.xe s₂) X.xe s₁) X.xe s) :
  wpAny (model X.prog X.w) X.A (comprehension e scope X.env pos newAcc false first use) Q X.xe s:=by
 unfold comprehension;rw[hclos,hcl]
 refine C5z (thn h λx s₁ h₁=>C5z (E4z (C5z (wpAny_of_eq (hs x) (C5z (F4z (thn h₁ λit s₂ h₂ =>
  wpAny_standIf (C5z (thn h₂ λacc s₃ h₃=>C5z (D5z (C5z (thn h₃ λcenv s₄ h₄=>?_))))))))))))
 dsimp only
 have hv:∀x∈(scope.names.filter λx=>(x.2==.local||x.2==.cell)&&x.1 !=(".0":Str)).reverse,x.2=.local ->
   Env.kindOf {cenv with scope:=relabel scope X.env} x.1=some .local:=λx hx hl=>lookup_relabel_local (hnames x (List.mem_filter.mp (List.mem_reverse.mp hx)).1 hl)
 refine F4z (C5z (wpAny_attempt (F4z (wpAny_run (U4z h₄ λr s' hr=>?_)))))
 cases r with
 |ok f =>
  cases use with
  |none =>
   obtain⟨m,hn,hr⟩:=hr;exact C5z (F4z (wpAny_comp_letGo (cenv:={cenv with scope:=relabel scope X.env}) hkind _ s' m hv hn λh' m' _ hs'=>D5z (hr h' hs')))
  |some u =>
   refine C5z (E5z (C5z (F4z (thn hr λ_ s'' hr'=>?_))));obtain⟨m,hn,hr'⟩:=hr';exact C5z (wpAny_comp_letGo (cenv:={cenv with scope:=relabel scope X.env}) hkind _ s'' m (λx hx hl=>(List.mem_append.mp hx).elim (λh1=>hv x (X0z h1) hl) λh1=>hv x (Y0z h1) hl) hn λh' m' _ hs'=>D5z (hr' h' hs'))
 |error x =>
  have hr':xeI X {cenv with scope:=relabel scope X.env} x s':=by cases use<;>exact hr
  obtain⟨m,hn,hr⟩:=hr';exact C5z (F4z (wpAny_comp_letGo (cenv:={cenv with scope:=relabel scope X.env}) hkind _ s' m hv hn λh' m' q hs'=>thn (hr h' m' q hs') λ_ _ f=>f.elim))
theorem wR{elt tg iter:Expr}{ifs:List Expr}{scope:Scope}{pos:Pos}{wi:TI}{g:Cx->TG}{tc:Cx->TT}{te:Cx->TE}(hc:X.calm=true)(hk:scope.kind=.function)(hnd:(scope.names.map (·.1)).Nodup)
  (hcap:∀x,(x,NameKind.free)∈scope.names->X.env.kindOf x=some .cell\/X.env.kindOf x=some .free) (hi:PI X tg iter wi)
  (hin:∀Xc:Cx,CompOf X scope Xc->PG Xc tg (g Xc)/\xU Xc ifs (tc Xc)/\PE Xc elt (te Xc)) {z0:List (Addr×Obj)} {s:Shared} {O:St} {H:Hp} {Q:VK} (I:Inv X z0 O H s) (h:uy X scope wi (sO X.N scope.names) g tc te O H Q) {R:Value->Env->Result->Shared->Prop}
  (fin:∀acc cenv H' s',Inv X z0 O H' s'->Blk X z0 H' s' cenv.locals->Q (.ref acc) H'->R (.ref acc) cenv (.ok .next) s') (err:∀acc cenv x s',xeI X cenv x s'->R acc cenv (.error x) s') :
  wpAny (model X.prog X.w) X.A (eval iter X.env) (λx s₁=>wpAny (model X.prog X.w) X.A (pyIter x) (λit s₂=>wpAny (model X.prog X.w) X.A (newList []) (λacc s₃ =>
   wpAny (model X.prog X.w) X.A (newFunctionEnv scope X.env.globals (gG X.env.cells scope.names []) [] X.env.qual none .none (some X.env)) (λcenv s₄ =>
    codeAny (model X.prog X.w) X.A (.compStart (.ListComp elt [⟨tg,iter,ifs,0⟩] scope pos) 0 it acc {cenv with scope:=relabel scope X.env}) (R acc {cenv with scope:=relabel scope X.env}) s₄) X.xe s₃) X.xe s₂) X.xe s₁) X.xe s:=by
 refine thn (hi z0 s O H _ I h) λv s1 h1=>thn h1 λitv s2 h2=>?_;obtain⟨it,fp,tn,J,H2,rfl,I2,T,st2,f2,q2⟩:=h2;refine W1z ?_;have hf:H2 s2.heap.objs.size=none:=I2.hok.fresh (X4z _);have I3:=I2.lnew (ys:=[]) (its:=[]) (t':=s2.toks) .nil (Z4z _);generalize hs3:({s2 with heap:=s2.heap.push {cls:=.type "list",data:=.seq ([]:List Value).toArray},toks:=s2.toks}:Shared)=s3 at I3
 have lt2:∀b∈fp,b<s2.heap.objs.size:=λb hb=>by
  obtain⟨o,e,_⟩:=T.obj _ _ st2 b hb;exact P4z e
 have f3:∀b∈fp,tW X z0 (upd H2 s2.heap.objs.size (.lst [])) b:=λb hb=>⟨by rw[aG (Q4z (lt2 b hb))];exact(f2 b hb).1,(f2 b hb).2⟩
 have sz3:s3.heap.objs.size=s2.heap.objs.size+1:=by rw[<- hs3];exact Z3z ..
 have lt3:∀b∈fp,b<s3.heap.objs.size:=λb hb=>by rw[sz3];exact Z1z (lt2 b hb)
 have st3:tn 0 s3.heap:=T.keep _ _ _ st2 λb hb o e=>by rw[<- hs3];exact Heap.get?_push_of_some _ e
 have J0:=Ab I3 hc hk hnd hcap f3 lt3;have cO:CompOf X scope (jj X scope (cellsFrom (s3.heap.objs.size+1) scope.names (gG X.env.cells scope.names [])) s3.heap.objs.size s3 (upd H2 s2.heap.objs.size (.lst [])) fp):=⟨rfl,rfl,rfl,rfl,rfl,rfl,rfl,rfl,rfl,rfl,λ⟨a,b,c,d⟩=>⟨a,b,c,d⟩⟩;obtain⟨hg,hif,he⟩:=hin _ cO
 have back:∀{pins':List (Addr×Obj)}{O':St}{H5:Hp}{s6:Shared},Inv (jj X scope (cellsFrom (s3.heap.objs.size+1) scope.names (gG X.env.cells scope.names [])) s3.heap.objs.size s3 (upd H2 s2.heap.objs.size (.lst [])) fp) pins' O' H5 s6->Inv X z0 O H5 s6/\Blk X z0 H5 s6 s3.heap.objs.size:=λI6=>by
  have IX:=I3.call' (ch:=fp) I6.os I6.base I6.hok I6.bare λb hb=>⟨(f3 b hb).2.2.2.1,(f3 b hb).2.1,(f3 b hb).2.2.2.2.1,(f3 b hb).2.2.2.2.2⟩;refine⟨IX,?_,I6.free,T4z I3.lt,I3.sz,λx c e=>?_,λp hp=>?_⟩
  .obtain⟨m,hn,_⟩:=I6.loc
   exact⟨m,hn⟩
  .obtain⟨v,z⟩:=I3.cell x c e
   exact Q4z z.lt
  .exact Q4z (P4z (I3.pin p hp).1)
 have xok:mz X->∀E Oc,XOk X O E->XOk (jj X scope (cellsFrom (s3.heap.objs.size+1) scope.names (gG X.env.cells scope.names [])) s3.heap.objs.size s3 (upd H2 s2.heap.objs.size (.lst [])) fp) Oc E:=λhst E Oc hx pins' H s e s' I h=>by
  have IX:=back I
  exact Aa IX.1 IX.2 rfl hst hx (λz=>by
   obtain⟨_,o,ho,_⟩:=I3.stack.mem z
   exact absurd (P4z ho) (D4z _)) h
 obtain⟨W,⟨m0,w0⟩,turn⟩:=q2 s2.heap.objs.size hf _ cO xok;refine pG ?_;have st4:tn 0 (pushCells (s3.heap.push {cls:=.type "dict",data:=.dict #[]}) scope.names):=T.keep _ _ _ st3 λb _ o e=>M3z _ _ b o (Heap.get?_push_of_some _ e);generalize hXc:jj X scope (cellsFrom (s3.heap.objs.size+1) scope.names (gG X.env.cells scope.names [])) s3.heap.objs.size s3 (upd H2 s2.heap.objs.size (.lst [])) fp=Xc at J0 hg hif he turn
 have hprog:Xc.prog=X.prog:=by rw[<- hXc];rfl
 have hw:Xc.w=X.w:=by rw[<- hXc];rfl
 have hK:Xc.K=X.K:=by rw[<- hXc];rfl
 have hA:Xc.A=X.A:=by rw[<- hXc];rfl
 have hcm:Xc.calm=true:=by rw[<- hXc];rfl
 have hxe:Xc.xe=xeC X Xc.env:=by rw[<- hXc];rfl
 have hen:Xc.env=lQ scope (cellsFrom (s3.heap.objs.size+1) scope.names (gG X.env.cells scope.names [])) s3.heap.objs.size X.env:=by rw[<- hXc];rfl
 have hex:Xc.ex=fp:=by rw[<- hXc];rfl
 have hfs:Xc.fs=frs X.stack:=by rw[<- hXc];rfl
 have hs0:Xc.s₀=s3:=by rw[<- hXc];rfl
 have hH0:Xc.H₀=upd H2 s2.heap.objs.size (.lst []):=by rw[<- hXc];rfl
 have hpn:Xc.pn=[]:=by rw[<- hXc];rfl
 have stat:∀{H':Hp},(∀b∈fp,H' b=none)->∀b∈fp,tW Xc [] H' b:=λ{H'} hn b hb=>by
  refine⟨hn b hb,(J0.ok.exf b (by rw[hex];exact hb)).1,λz=>J0.ok.exfs b (by rw[hex];exact hb) z,.inl (by rw[hex];exact hb),(J0.ok.exf b (by rw[hex];exact hb)).2,λp hp=>?_⟩
  rw[hpn] at hp;exact absurd hp (by simp)
 have loop:codeAny (model X.prog X.w) X.A (.compLoop (.ListComp elt [⟨tg,iter,ifs,0⟩] scope pos) 0 (.ref it) (.ref s2.heap.objs.size) Xc.env)
   (R (.ref s2.heap.objs.size) Xc.env) {s3 with heap:=pushCells (s3.heap.push {cls:=.type "dict",data:=.dict #[]}) scope.names}:=by
  refine fH (E':=Xc.xe) (λe s' h=>by rw[hxe] at h;exact B5z h (λ_ _ q=>err _ _ _ _ q) λ_ _ q=>err _ _ _ _ q) (λn s'=>∃i O' H',Inv Xc [] O' H' s'/\tn i s'.heap/\(∀b∈fp,H' b=none)/\W i n O' H') ?_ m0 ⟨0,_,_,J0,st4,λb hb=>(f3 b hb).1,w0⟩
  rintro n s5 ⟨i,O5,H5,I5,st5,fr5,w5⟩;rcases turn i n O5 H5 w5 with⟨stop,qn⟩|⟨go,N,hN,step⟩
  .have q:=T.done Xc hprog hw hK hcm i [] s5 O5 H5 Xc.xe I5 (stat fr5) st5 stop
   rw[hA] at q;refine thn q λr s6 ⟨hr,I6⟩=>?_;subst hr;have IX:=back (by rw[hXc];exact I6);exact fin _ _ _ _ IX.1 (by rw[hen];exact IX.2) qn
  .have q:=T.item Xc hprog hw hK hcm i [] s5 O5 H5 Xc.xe I5 (stat fr5) st5 go
   rw[hA] at q;refine thn q λr s6 ⟨u,hr,h6⟩=>?_;subst hr;refine thn h6 λ_ s7 ⟨x,H7,I7,r7,y7,st7,fr7⟩=>?_;have I7':=I7.pinned (stat fr7) (T.obj _ _ st7);have q8:=hg _ s7 O5 H7 x u _ I7' r7 (step x H7 y7);rw[hprog,hw,hA] at q8;refine thn q8 λ_ s8 ⟨O8,H8,I8,z8⟩=>?_;have q9:=hif _ s8 O8 H8 _ I8 z8;rw[hprog,hw,hA] at q9;refine thn q9 λok s9 ⟨H9,I9,z9⟩=>?_
   have again:∀{s':Shared}{O':St}{H':Hp},Inv Xc ([]++mW fp s7.heap) O' H' s'->N O' H'->∃m,m<n/\∃i O' H',Inv Xc [] O' H' s'/\tn i s'.heap/\(∀b∈fp,H' b=none)/\W i m O' H':=λ{s' O' H'} I' n'=>by
    obtain⟨m',hm,w'⟩:=hN O' H' n';refine⟨m',hm,i+1,O',H',I'.unpinned,T.keep _ _ _ st7 λb hb o e=>(I'.pin (b,o) (O0z _ (O0z _ (fB hb e)))).1,λb hb=>?_,w'⟩;obtain⟨o,e,d⟩:=T.obj _ _ st7 b hb;exact(I'.pin (b,o) (O0z _ (O0z _ (fB hb e)))).2.1
   cases ok with
   |false =>
    rw[Q5z K1z] at z9 ⊢;exact again I9 z9
   |true =>
    rw[P5z rfl] at z9 ⊢;have q10:=he _ s9 O8 H9 _ I9 z9;rw[hprog,hw,hA] at q10;refine thn q10 λuv s10 ⟨v,H10,I10,r10,ys,hy,hz,z10⟩=>?_;have q11:=nu (X:=Xc) _ s10 O8 H10 (.ref s2.heap.objs.size) [v] (.ref s2.heap.objs.size) [uv] (λ_ H'=>N O8 H') I10 rfl (.cons r10 .nil) ⟨_,ys,v,rfl,rfl,hy,hz,z10⟩;rw[hprog,hw,hA] at q11;exact thn q11 λ_ s11 ⟨_,H11,I11,_,z11⟩=>again I11 z11
 have eenv:({ (newEnv scope s3.heap.objs.size X.env.globals (cellsFrom (s3.heap.objs.size+1) scope.names (gG X.env.cells scope.names [])) X.env.qual none .none (some X.env) builtinsNs) with scope:=relabel scope X.env}:Env)=Xc.env:=by rw[hen];rfl
 rw[eenv];exact codeAny_compStart_list loop (T.self X.A 0 _ _ _ st4 loop)
theorem vm{elt tg iter:Expr}{ifs:List Expr}{scope:Scope}{pos:Pos}{wi:TI}{g:Cx->TG}{tc:Cx->TT}{te:Cx->TE}(hc:X.calm=true)(hk:scope.kind=.function)(hnd:(scope.names.map (·.1)).Nodup)
  (hcap:∀x,(x,NameKind.free)∈scope.names->X.env.kindOf x=some .cell\/X.env.kindOf x=some .free) (hi:PI X tg iter wi)
  (hin:∀Xc:Cx,CompOf X scope Xc->PG Xc tg (g Xc)/\xU Xc ifs (tc Xc)/\PE Xc elt (te Xc)) (hs:∀x,foldedSetIterable iter X.env x=pure x) :
  PE X (.ListComp elt [⟨tg,iter,ifs,0⟩] scope pos) (uy X scope wi (sO X.N scope.names) g tc te):=by
 intro z0 s O H Q I h;rw[eval_ListComp];refine wQ (use:=none) (cl:=gG X.env.cells scope.names []) rfl hs (jr (jZ I hnd hcap).1) hk (λx hx hl=>bT hnd (by rw[<- hl];exact hx)) ?_;refine wR hc hk hnd hcap hi hin I h (λacc cenv H' s' I' b q=>?_) λ_ _ _ _ z=>z;obtain⟨m,hn⟩:=b.ns;exact⟨m,hn,λh' hsb=>⟨.ref acc,H',b.gone I' hsb,rfl,q⟩⟩
end
section
variable{prog:Program}{w:World}{A:Around}{E:Value->Shared->Prop}{s:Shared}
theorem zU{it t:Addr}{i:Nat}{its:Array Value}{Q:Value->Shared->Prop}(hh:A.handled=none)(hit:s.heap.IsTupleIter it t i)(ht:s.heap.IsTuple t its)
  (hs:∀x h',its[i]?=some x->h'.IsTupleIter it t (i+1)->Heap.SameBut it s.heap h'->Q x {s with heap:=h'})
  (he:∀h' e,its[i]?=none->Heap.ExtBut it s.heap h'->(∃o,h'.get? e=some o/\o.cls=.type "StopIteration")->E (.ref e) {s with heap:=h'}) :
  wpAny (model prog w) A (Builtin.SmallTypes.nextOf (.ref it)) Q E s:=by
 obtain⟨oi,hoi,hci,hdi⟩:=id hit;obtain⟨ot,hot,_,nt,hdt⟩:=ht;unfold Builtin.SmallTypes.nextOf;refine C5z (wpAny_callSpecial?_slot (name:=Str.ofString "__next__") hit.typeIs F.slot_tuple_iterator_next (K2z F.slot_tuple_iterator_next hit.typeIs F.entry_tuple_iterator_next ?_ (F.args_tuple_iterator_next_1 _)));show wpAny _ _ (field (.ref it) 0 >>=_) _ _ s;refine C5z (Y4z hoi hdi (x:=.ref t) rfl ?_);have nn:¬ ((Value.ref t==Value.none)=true):=K1z;show wpAny _ _ (if(Value.ref t==Value.none)=true then _ else _) _ _ s;rw[Q5z nn];show wpAny _ _ (field (.ref it) 1 >>=_) _ _ s;refine C5z (Y4z hoi hdi (x:=.int i 0) rfl ?_);show wpAny _ _ (seqItems? (.ref t) >>=_) _ _ s;refine C5z (A4z hot hdt ?_)
 cases hx:its[i]? with
 |some x =>
  simp only[Int.toNat_natCast,hx];have fin:(s.heap.update it λo=>o.mapFields (·.setIfInBounds 1 (rawInt ((i:Int)+1)))).IsTupleIter it t (i+1):=⟨_,Heap.get?_update_self _ hoi (Obj.isFreed_of_fields (P1z hdi _)),(Obj.cls_mapFields ..).trans hci,by rw[P1z hdi];simp[rawInt]⟩;exact C5z (wpAny_setField hoi hdi (by simp) (D5z ⟨x,rfl,D5z (hs x _ hx fin (Heap.SameBut.update ..))⟩))
 |none =>
  simp only[Int.toNat_natCast,hx];refine C5z (E5z (C5z (wpAny_setField hoi hdi (by simp) (C5z (m:=newExc (.type "StopIteration") []) ?_))));simp only[newExc,newTuple];refine C5z (W1z (C5z (m:=firstArgMember _ _) (wpAny_of_eq (a:=Value.none) (by first|rfl|(simp only[firstArgMember];rfl)) (W1z ?_ (by size_fits)))) (by size_fits));simp only[raiseNew];refine C5z (wpAny_handled ?_)
  first|rw[show A.in1.handled=none from hh]|rw[hh]
  exact C5z (D5z (wpAny_throw (he _ _ hx (((Heap.SameBut.update ..).extBut.push _).push _) ⟨_,Heap.get?_push_size _ rfl,rfl⟩)))
structure ZT(h:Heap)(z ti to i1 i2 t1 t2:Addr)(k:Nat)(f:Value):Prop where
 hz:IsZip h z ti to f
 hi:IsPair h ti (.ref i1) (.ref i2)
 ho:∃a b,IsPair h to a b
 h1:h.IsTupleIter i1 t1 k
 h2:h.IsTupleIter i2 t2 k
theorem ZT.keep{h h':Heap}{z ti to i1 i2 t1 t2:Addr}{k:Nat}{f:Value}(x:ZT h z ti to i1 i2 t1 t2 k f)(kp:∀b∈[z,ti,to,i1,i2],∀o,h.get? b=some o->h'.get? b=some o):ZT h' z ti to i1 i2 t1 t2 k f :=
 ⟨kp z (by simp) _ x.hz,kp ti (by simp) _ x.hi,let ⟨a,b,e⟩:=x.ho;⟨a,b,kp to (by simp) _ e⟩,x.h1.at λo e=>kp i1 (by simp) o e,x.h2.at λo e=>kp i2 (by simp) o e⟩
theorem uc{z ti to i1 i2 t1 t2:Addr}{k:Nat}{xs ys:Array Value}{Q:Fin->Shared->Prop}(hh:A.handled=none)(D:ZipApart z ti to i1 i2 t1 t2)(hZ:ZT s.heap z ti to i1 i2 t1 t2 k .none)
  (ht1:s.heap.IsTuple t1 xs) (ht2:s.heap.IsTuple t2 ys)
  (hs:∀x y h', xs[k]?=some x->ys[k]?=some y->ZT h' z ti to i1 i2 t1 t2 (k + 1) (rawInt s.heap.objs.size)->IsPair h' s.heap.objs.size x y->h'.objs.size=s.heap.objs.size + 1 ->
   (∀c o,c∉[z,to,i1,i2]->s.heap.get? c=some o->h'.get? c=some o)->Q (.done (.ret (.ref s.heap.objs.size))) {s with heap:=h'})
  (he:∀h' e,(xs[k]?=none\/ys[k]?=none)->(∀c o,c∉[z,to,i1,i2]->s.heap.get? c=some o->h'.get? c=some o)->(∃o,h'.get? e=some o/\o.cls=.type "StopIteration")->E (.ref e) {s with heap:=h'}) :
  wpAny (model prog w) A (Builtin.«zip.__next__» ⟨[.ref z],[]⟩) Q E s:=by
 obtain⟨hz,hi,⟨a,b,ho⟩,h1,h2⟩:=hZ;show wpAny _ _ (field (.ref z) 2 >>=_) _ _ _;refine C5z (Y4z hz rfl (x:=.bool false) rfl ?_);show wpAny _ _ (field (.ref z) 3 >>=_) _ _ _;refine C5z (Y4z hz rfl (x:=.ref ti) rfl (C5z (A4z hi rfl ?_)));show wpAny _ _ (Builtin.SmallTypes.ownedTupleIsFree (.ref z) >>=_) _ _ _;unfold Builtin.SmallTypes.ownedTupleIsFree;refine C5z (C5z (Y4z hz rfl (x:=.none) rfl (D5z ?_)));simp only[O5z];refine C5z (E5z (C5z (Y4z hz rfl (x:=.ref to) rfl (C5z (Q1z hz (by simp) λha za sa=>?_)))))
 replace za:IsZip ha z ti to .ellipsis:=za
 refine C5z ?_;simp only[List.zipIdx_cons,List.zipIdx_nil,List.forIn_cons,List.forIn_nil];refine C5z (C5z (wpAny_onRaise ?_))
 have ne4:∀{c:Addr},c∉[z,to,i1,i2]->c≠z/\c≠to/\c≠i1/\c≠i2:=λhc=>by simpa using hc
 show wpAny _ _ (Builtin.SmallTypes.nextOf (.ref i1) >>=_) _ _ _;refine C5z (zU hh (h1.extBut sa.extBut D.i1z) (ht1.extBut sa.extBut D.l1z) (λx hb hx itb sb=>D5z ?_) λhb e hx eb ⟨oe,oe1,oe2⟩=>?_)
 .have tob:IsPair hb to a b:=sb.extBut _ _ D.TOi1 (sa.extBut _ _ D.TOz ho)
  refine C5z (A4z tob rfl (C5z (wpAny_updateSeq_pair tob λhc toc sc=>C5z (wpAny_letGo (D5z ?_)))))
  replace toc:IsPair hc to x b:=toc
  refine C5z (C5z (wpAny_onRaise ?_));have h2c:hc.IsTupleIter i2 t2 k:=((h2.extBut sa.extBut D.i2z).extBut sb.extBut D.i12.symm).extBut sc.extBut D.TOi2.symm;have t2c:hc.IsTuple t2 ys:=((ht2.extBut sa.extBut D.l2z).extBut sb.extBut D.l2i1).extBut sc.extBut D.l2TO;show wpAny _ _ (Builtin.SmallTypes.nextOf (.ref i2) >>=_) _ _ _;refine C5z (zU hh h2c t2c (λy hd hy itd sd=>D5z ?_) λhd e hy ed ⟨oe,oe1,oe2⟩=>?_)
  .have tod:IsPair hd to x b:=sd.extBut _ _ D.TOi2 toc
   refine C5z (A4z tod rfl (C5z (wpAny_updateSeq_pair tod λhf tof sf=>C5z (wpAny_letGo (D5z (D5z ?_))))))
   replace tof:IsPair hf to x y:=tof
   refine C5z (A4z tof rfl (C5z (wpAny_newTuple ?_)))
   have szf:hf.objs.size=s.heap.objs.size:=by rw[sf.1,sd.1,sc.1,sb.1,sa.1]
   have zf:IsZip hf z ti to .ellipsis:=sf.extBut _ _ D.TOz.symm (sd.extBut _ _ D.i2z.symm (sc.extBut _ _ D.TOz.symm (sb.extBut _ _ D.i1z.symm za)))
   have kf:∀c o,c∉[z,to,i1,i2]->s.heap.get? c=some o->hf.get? c=some o:=λc o hc' e=>by
    obtain⟨c1,c2,c3,c4⟩:=ne4 hc';exact sf.extBut _ _ c2 (sd.extBut _ _ c4 (sc.extBut _ _ c2 (sb.extBut _ _ c3 (sa.extBut _ _ c1 e))))
   have i1f:hf.IsTupleIter i1 t1 (k+1):=((itb.extBut sc.extBut D.TOi1.symm).extBut sd.extBut D.i12).extBut sf.extBut D.TOi1.symm;have i2f:hf.IsTupleIter i2 t2 (k+1):=itd.extBut sf.extBut D.TOi2.symm;have tif:IsPair hf ti (.ref i1) (.ref i2):=sf.extBut _ _ D.TITO (sd.extBut _ _ D.TIi2 (sc.extBut _ _ D.TITO (sb.extBut _ _ D.TIi1 (sa.extBut _ _ D.TIz hi))));have zlt:z<hf.objs.size:=P4z zf;show wpAny _ _ (Builtin.SmallTypes.ownedTupleHandOut (.ref z) (.ref hf.objs.size) >>=_) _ _ _;unfold Builtin.SmallTypes.ownedTupleHandOut;have zg:IsZip (hf.push {cls:=.type "tuple",data:=.seq #[x,y]}) z ti to .ellipsis:=Heap.get?_push_of_some _ zf;refine C5z (C5z (Q1z zg (by simp) λhk zk sk=>Q1z (show IsZip hk z ti to (rawInt hf.objs.size) from zk) (by simp) λhm zm sm=>D5z ?_))
   replace zm:IsZip hm z ti to (rawInt hf.objs.size):=zm
   have up:∀c o,c≠z->hf.get? c=some o->hm.get? c=some o:=λc o c1 e=>sm.extBut _ _ c1 (sk.extBut _ _ c1 (Heap.get?_push_of_some _ e));have new:IsPair hm hf.objs.size x y:=sm.extBut _ _ (T4z zlt) (sk.extBut _ _ (T4z zlt) (Heap.get?_push_size _ rfl))
   have szm:hm.objs.size=hf.objs.size+1:=by rw[sm.1,sk.1,Z3z]
   have q:=hs x y hm hx hy ⟨by rw[<- szf];exact zm,up _ _ D.TIz tif,⟨x,y,up _ _ D.TOz tof⟩,i1f.at λo e=>up _ o D.i1z e,i2f.at λo e=>up _ o D.i2z e⟩ (by rw[<- szf];exact new) (by rw[szm,szf]) λc o hc' e=>up c o (ne4 hc').1 (kf c o hc' e)
   rw[<- szf] at q;exact q
  .have zd:IsZip hd z ti to .ellipsis:=ed _ _ D.i2z.symm (sc.extBut _ _ D.TOz.symm (sb.extBut _ _ D.i1z.symm za))
   have ez:e≠z:=λq=>by subst q;rw[zd] at oe1;cases oe1;simp at oe2
   refine Q1z zd (by simp) λhf _ sf=>he hf e (.inr hy) (λc o hc' q=>?_) ⟨oe,sf.extBut _ _ ez oe1,oe2⟩;obtain⟨c1,c2,c3,c4⟩:=ne4 hc';exact sf.extBut _ _ c1 (ed _ _ c4 (sc.extBut _ _ c2 (sb.extBut _ _ c3 (sa.extBut _ _ c1 q))))
 .have zb:IsZip hb z ti to .ellipsis:=eb _ _ D.i1z.symm za
  have ez:e≠z:=λq=>by subst q;rw[zb] at oe1;cases oe1;simp at oe2
  refine Q1z zb (by simp) λhf _ sf=>he hf e (.inl hx) (λc o hc' q=>?_) ⟨oe,sf.extBut _ _ ez oe1,oe2⟩;obtain⟨c1,c2,c3,c4⟩:=ne4 hc';exact sf.extBut _ _ c1 (eb _ _ c3 (sa.extBut _ _ c1 q))
theorem iT{z ti to i1 i2 t1 t2:Addr}{k:Nat}{xs ys:Array Value}{Q:Option Value->Shared->Prop}(hh:A.handled=none)(D:ZipApart z ti to i1 i2 t1 t2)(hZ:ZT s.heap z ti to i1 i2 t1 t2 k .none)
  (ht1:s.heap.IsTuple t1 xs) (ht2:s.heap.IsTuple t2 ys)
  (hs:∀x y h', xs[k]?=some x->ys[k]?=some y->ZT h' z ti to i1 i2 t1 t2 (k + 1) (rawInt s.heap.objs.size)->IsPair h' s.heap.objs.size x y->h'.objs.size=s.heap.objs.size + 1 ->
   (∀c o,c∉[z,to,i1,i2]->s.heap.get? c=some o->h'.get? c=some o)->Q (some (.ref s.heap.objs.size)) {s with heap:=h'})
  (he:∀h',(xs[k]?=none\/ys[k]?=none)->(∀c o,c∉[z,to,i1,i2]->s.heap.get? c=some o->h'.get? c=some o)->Q none {s with heap:=h'}) :
  wpAny (model prog w) A (pyNext (.ref z)) Q E s:=by
 have hT:s.TypeIs (.ref z) "zip":=⟨_,hZ.hz,rfl⟩;unfold pyNext
 refine C5z (wpAny_attempt (wpAny_callSpecial?_slot (name:=Str.ofString "__next__") hT F.slot_zip_next (K2z F.slot_zip_next hT F.entry_zip_next
  (uc hh D hZ ht1 ht2 (λx y h' a1 a2 a3 a4 a5 a6=>⟨_,rfl,D5z (hs x y h' a1 a2 a3 a4 a5 a6)⟩) λh' e a1 a2 ⟨o,e1,e2⟩=>?_) (F.args_zip_next_1 _))))
 exact C5z (wpAny_isInstance (T:="StopIteration") (b:=true) ⟨o,e1,e2⟩ isSubtype_stop (D5z (he h' a1 a2)))
abbrev itT(t:Addr):Obj:={cls:=.type "tuple_iterator",data:=.fields #[.ref t,.int 0 0]}
theorem Bx(hp H1 H2 H3 H4 H5:Heap)(t1 t2:Addr)(e1:H1=hp.push (itT t1))(e2:H2=H1.push (itT t2))(e3:H3=H2.push {cls:=.type "tuple",data:=.seq #[.ref hp.objs.size,.ref H1.objs.size]})(e4:H4=H3.push {cls:=.type "tuple",data:=.seq #[.none,.none]})
  (e5:H5=H4.push {cls:=.type "zip",data:=.fields #[.none,.bool false,.bool false,.ref H2.objs.size,.ref H3.objs.size]}) :
  H4.objs.size=hp.objs.size+4/\H5.objs.size=hp.objs.size+5/\(∀c o,hp.get? c=some o->H5.get? c=some o)/\ZT H5 (hp.objs.size+4) (hp.objs.size+2) (hp.objs.size+3) hp.objs.size (hp.objs.size+1) t1 t2 0 .none:=by
 have z1:H1.objs.size=hp.objs.size+1:=by rw[e1,Z3z]
 have z2:H2.objs.size=hp.objs.size+2:=by rw[e2,Z3z,z1]
 have z3:H3.objs.size=hp.objs.size+3:=by rw[e3,Z3z,z2]
 have z4:H4.objs.size=hp.objs.size+4:=by rw[e4,Z3z,z3]
 have z5:H5.objs.size=hp.objs.size+5:=by rw[e5,Z3z,z4]
 have k5:∀c o,H4.get? c=some o->H5.get? c=some o:=λc o e=>by rw[e5];exact Heap.get?_push_of_some _ e
 have k4:∀c o,H3.get? c=some o->H5.get? c=some o:=λc o e=>k5 c o (by rw[e4];exact Heap.get?_push_of_some _ e)
 have k3:∀c o,H2.get? c=some o->H5.get? c=some o:=λc o e=>k4 c o (by rw[e3];exact Heap.get?_push_of_some _ e)
 have k2:∀c o,H1.get? c=some o->H5.get? c=some o:=λc o e=>k3 c o (by rw[e2];exact Heap.get?_push_of_some _ e)
 have k1:∀c o,hp.get? c=some o->H5.get? c=some o:=λc o e=>k2 c o (by rw[e1];exact Heap.get?_push_of_some _ e)
 refine⟨z4,z5,k1,?_,?_,⟨.none,.none,?_⟩,⟨_,k2 _ _ (by rw[e1];exact Heap.get?_push_size _ rfl),rfl,rfl⟩,⟨_,k3 _ _ (by rw[e2,<- z1];exact Heap.get?_push_size _ rfl),rfl,rfl⟩⟩
 .have q:H5.get? H4.objs.size=some {cls:=.type "zip",data:=.fields #[.none,.bool false,.bool false,.ref H2.objs.size,.ref H3.objs.size]}:=by rw[e5];exact Heap.get?_push_size _ rfl
  rw[z2,z3,z4] at q;exact q
 .have q:H5.get? H2.objs.size=some {cls:=.type "tuple",data:=.seq #[.ref hp.objs.size,.ref H1.objs.size]}:=k4 _ _ (by rw[e3];exact Heap.get?_push_size _ rfl)
  rw[z1,z2] at q;exact q
 .have q:H5.get? H3.objs.size=some {cls:=.type "tuple",data:=.seq #[.none,.none]}:=k5 _ _ (by rw[e4];exact Heap.get?_push_size _ rfl)
  rw[z3] at q;exact q
theorem xV(t1 t2:Addr)(xs ys:Array Value) :
    Meets (Builtin.«zip.__new__» ⟨[.type "zip",.ref t1,.ref t2],[]⟩) (λ_ R s=>s.heap.IsTuple t1 xs/\s.heap.IsTuple t2 ys /\
      ∀h', (∀c o, s.heap.get? c=some o->h'.get? c=some o)->h'.objs.size=s.heap.objs.size + 5->ZT h' (s.heap.objs.size + 4) (s.heap.objs.size + 2) (s.heap.objs.size + 3) s.heap.objs.size (s.heap.objs.size + 1) t1 t2 0 .none ->
        R (.ok (.ret (.ref (s.heap.objs.size+4)))) {s with heap:=h'}) :=
  .of_wp λprog w A R s h=>by
    obtain⟨hp,g,d,tk,os⟩:=s;obtain⟨hl1,hl2,h⟩:=h
    have hsub:=sub_zip
    have hL1:Heap.IsTuple (Shared.heap ⟨hp,g,d,tk,os⟩) t1 xs:=hl1
    have hL2:Heap.IsTuple (Shared.heap ⟨hp.push (itT t1),g,d,tk,os⟩) t2 ys:=let ⟨o,e,r⟩:=hl2;⟨o,Heap.get?_push_of_some _ e,r⟩
    wp_walk using L1z hL1,L1z hL2
    refine⟨_,rfl,?_⟩
    obtain⟨z4,z5,kp,Z⟩:=Bx hp _ _ _ _ _ t1 t2 rfl rfl rfl rfl rfl
    have q:=h _ kp z5 Z
    rw[<- z4] at q
    exact q
theorem wX{t1 t2:Addr}{xs ys:Array Value}{Q:Value->Shared->Prop}(hl1:s.heap.IsTuple t1 xs)(hl2:s.heap.IsTuple t2 ys)
  (h:∀h', (∀c o, s.heap.get? c=some o->h'.get? c=some o)->h'.objs.size=s.heap.objs.size + 5->ZT h' (s.heap.objs.size + 4) (s.heap.objs.size + 2) (s.heap.objs.size + 3) s.heap.objs.size (s.heap.objs.size + 1) t1 t2 0 .none ->
   Q (.ref (s.heap.objs.size+4)) {s with heap:=h'}):wpAny (model prog w) A (call (.type "zip") [.ref t1,.ref t2]) Q E s:=by
 refine callType_new F.called_zip (by decide) (F.typeCall_zip_2 _ _) (F.newCall_zip_2 _ _) (λobj=>F.args_object_init_3 obj _ _) F.entry_zip_new (xV t1 t2 xs ys) ⟨hl1,hl2,λh' kp z5 Z=>?_⟩;exact⟨⟨_,Z.hz,rfl⟩,h h' kp z5 Z⟩
end
namespace RF
end RF
section
variable{prog:Program}{w:World}{A:Around}{E:Value->Shared->Prop}{s:Shared}
end
def Itz(K:Zf)(t1 t2:Addr):It :=
  ⟨λi H=>∃xs ys x y,SqT K H t1 xs/\SqT K H t2 ys/\xs[i]?=some x/\ys[i]?=some y,
   λi H v H'=>∃p,H p=none/\v=.ref p/\∀xs ys x y,SqT K H t1 xs->SqT K H t2 ys->xs[i]?=some x->ys[i]?=some y->H'=upd H p (.tup [x,y]),
   λi H=>∃xs ys,SqT K H t1 xs/\SqT K H t2 ys/\(xs.length<=i\/ys.length<=i)⟩
theorem Inv.turnedNew{X:Cx}{z0:List (Addr×Obj)}{O:St}{H:Hp}{s:Shared}{h':Heap}{ch:List Addr}{o:HO}{t':Nat}(I:Inv X z0 O H s)(hf:∀b∈ch,tW X z0 H b)(k:∀b u,b∉ch->s.heap.get? b=some u->h'.get? b=some u)
  (new:dJ X.prog X.w (upd H s.heap.objs.size o) h' s.heap.objs.size o):Inv X z0 O (upd H s.heap.objs.size o) {s with heap:=h',toks:=t'}:=by
 have hn:H s.heap.objs.size=none:=I.hok.fresh (X4z _);refine I.call' (s':={s with heap:=h',toks:=t'}) (ch:=ch) rfl ?_ ?_ I.bare λb hb=>⟨(hf b hb).2.2.2.1,(hf b hb).2.1,(hf b hb).2.2.2.2.1,(hf b hb).2.2.2.2.2⟩
 .refine⟨λb u e _ _ hc=>k b u hc e,λb u e _ _ hc=>⟨u.slots,k b u hc e⟩,λb u e n hc=>?_,λb u e hc=>⟨u,k b u hc e⟩,λb xs e=>?_,λb u xs e=>?_,λb ps e=>⟨#[],?_⟩⟩
  .rw[aG (Q4z (P4z e))];exact n
  .rw[aG (ao e hn)];exact e
  .rw[aG (ao e hn)];exact e
  .rw[aG (ao e hn),e];simp
 .intro b u e
  by_cases hb:b=s.heap.objs.size
  .subst hb;rw[aV] at e;cases e;exact new
  .rw[aG hb] at e
   refine(I.hok b u e).stay (λc v hc q=>k c v (λz=>?_) q) (λc q=>by rw[aG (ao q hn)];exact q) λc xs q=>by rw[aG (ao q hn)];exact q
   have zn:=(hf c z).1;rcases hc with rfl|hc
   .rw[zn] at e;cases e
   .rw[zn] at hc;cases hc
theorem Inv.turnedAll{X:Cx}{z0:List (Addr×Obj)}{O:St}{H:Hp}{s:Shared}{h':Heap}{ch:List Addr}{t':Nat}(I:Inv X z0 O H s)(hf:∀b∈ch,tW X z0 H b)(k:∀b u,b∉ch->s.heap.get? b=some u->h'.get? b=some u) :
  Inv X z0 O H {s with heap:=h',toks:=t'}:=by
 refine I.call' (s':={s with heap:=h',toks:=t'}) (ch:=ch) rfl ?_ ?_ I.bare λb hb=>⟨(hf b hb).2.2.2.1,(hf b hb).2.1,(hf b hb).2.2.2.2.1,(hf b hb).2.2.2.2.2⟩
 .exact⟨λb u e _ _ hc=>k b u hc e,λb u e _ _ hc=>⟨u.slots,k b u hc e⟩,λb u e n hc=>n,λb u e hc=>⟨u,k b u hc e⟩,λb xs e=>e,λb u xs e=>e,λb ps e=>⟨#[],by rw[e];simp⟩⟩
 .intro b u e
  refine(I.hok b u e).stay (λc v hc q=>k c v (λz=>?_) q) (λc q=>q) λc xs q=>q;have zn:=(hf c z).1;rcases hc with rfl|hc
  .rw[zn] at e;cases e
  .rw[zn] at hc;cases hc
theorem yc{P:Program}{w:World}{K:Zf}{es:List Expr}{kt:Nat}{pt:Pos}{z ti to i1 i2 t1 t2:Addr}(D:ZipApart z ti to i1 i2 t1 t2) :
    Turn P w K (.Tuple es kt pt) (Itz K t1 t2) [z,ti,to,i1,i2] z (λi h=>ZT h z ti to i1 i2 t1 t2 i .none) where
  mem:=by simp
  obj:=λi h st b hb=>by
    simp at hb
    rcases hb with rfl|rfl|rfl|rfl|rfl
    . exact⟨_,st.hz,λv q=>by have q':Data.fields _=Data.cell v:=q;cases q'⟩
    . exact⟨_,st.hi,λv q=>by have q':Data.seq _ _=Data.cell v:=q;cases q'⟩
    . obtain⟨a,c,e⟩:=st.ho
      exact⟨_,e,λv q=>by have q':Data.seq _ _=Data.cell v:=q;cases q'⟩
    . obtain⟨o,e,_,d⟩:=st.h1
      exact⟨o,e,λv q=>by rw[d] at q;cases q⟩
    . obtain⟨o,e,_,d⟩:=st.h2
      exact⟨o,e,λv q=>by rw[d] at q;cases q⟩
  keep:=λi h h' st k=>st.keep k
  item:=by
    intro X hP hw hK hc i z0 s O H E I hf st hg
    subst hP hw hK
    obtain⟨xs,ys,x,y,hq1,hq2,hx,hy⟩:=hg
    obtain⟨its1,rv1,p1,_⟩:=I.tuple hq1
    obtain⟨its2,rv2,p2,_⟩:=I.tuple hq2
    obtain⟨u1,hu1,ru1⟩:=rv1.get hx
    obtain⟨u2,hu2,ru2⟩:=rv2.get hy
    refine iT (I.ok.hd hc) D st (show s.heap.IsTuple t1 its1.toArray from p1) (show s.heap.IsTuple t2 its2.toArray from p2) (λa b h' ha hb Z pr sz kp=>?_) λh' hn _=>?_
    . have ea : a = u1 := by have : its1[i]? = some a := by simpa using ha
                             rw[hu1] at this;exact(D3z this).symm
      have eb : b = u2 := by have : its2[i]? = some b := by simpa using hb
                             rw[hu2] at this;exact(D3z this).symm
      subst ea eb
      have szl:2<=sizeLine:=by decide
      have hf4:∀c∈[z,to,i1,i2],tW X z0 H c:=λc hc'=>hf c (by simp at hc' ⊢;rcases hc' with h|h|h|h<;>simp[h])
      have I1:Inv X z0 O (upd H s.heap.objs.size (.tup [x,y])) {s with heap:=h',toks:=s.toks}:=I.turnedNew hf4 kp ⟨szl,[a,b],.cons ru1 (.cons ru2 .nil),⟨_,pr,rfl,_,rfl⟩⟩
      have fresh:H s.heap.objs.size=none:=I.hok.fresh (X4z _)
      have ltf:∀c∈[z,ti,to,i1,i2],c≠s.heap.objs.size:=λc hc' e=>by
        have:H c=none:=(hf c hc').1
        simp at hc'
        have lt:c<s.heap.objs.size:=by
          rcases hc' with rfl|rfl|rfl|rfl|rfl
          . exact P4z st.hz
          . exact P4z st.hi
          . obtain⟨_,_,e'⟩:=st.ho;exact P4z e'
          . obtain⟨o,e',_⟩:=st.h1;exact P4z e'
          . obtain⟨o,e',_⟩:=st.h2;exact P4z e'
        exact Q4z lt e
      refine⟨_,rfl,wpAny_letOwnedTupleGo_zip (s:={s with heap:=h'}) Z.hz λh2 z2 sb=>?_⟩
      have fz:=hf z (by simp)
      have I2:Inv X z0 O (upd H s.heap.objs.size (.tup [x,y])) {s with heap:=h2}:=I1.turned (t':=s.toks) (λc o hc' e=>(sb.2 c hc').trans e) (by rw[aG (ltf z (by simp))];exact fz.1) fz.2.1 fz.2.2.2.1 fz.2.2.2.2.1 fz.2.2.2.2.2
      refine⟨.ref s.heap.objs.size,_,I2,rfl,⟨_,fresh,rfl,λxs' ys' x' y' a1 a2 a3 a4=>?_⟩,?_,λc hc'=>by rw[aG (ltf c hc')];exact(hf c hc').1⟩
      . have e1:=I.tuple_inj a1 hq1
        have e2:=I.tuple_inj a2 hq2
        subst e1 e2
        rw[hx] at a3;rw[hy] at a4
        cases a3;cases a4
        rfl
      . obtain⟨a',b',e'⟩:=Z.ho
        exact⟨z2,(sb.2 ti D.TIz).trans Z.hi,⟨a',b',(sb.2 to D.TOz).trans e'⟩,Z.h1.at λo e=>(sb.2 i1 D.i1z).trans e,Z.h2.at λo e=>(sb.2 i2 D.i2z).trans e⟩
    . rcases hn with hn|hn
      . have:its1[i]?=none:=by simpa using hn
        rw[hu1] at this;cases this
      . have:its2[i]?=none:=by simpa using hn
        rw[hu2] at this;cases this
  done:=by
    intro X hP hw hK hc i z0 s O H E I hf st hg
    subst hP hw hK
    obtain⟨xs,ys,hq1,hq2,hl⟩:=hg
    obtain⟨its1,rv1,p1,_⟩:=I.tuple hq1
    obtain⟨its2,rv2,p2,_⟩:=I.tuple hq2
    have l1:=rv1.length
    have l2:=rv2.length
    refine iT (I.ok.hd hc) D st (show s.heap.IsTuple t1 its1.toArray from p1) (show s.heap.IsTuple t2 its2.toArray from p2) (λa b h' ha hb Z pr sz kp=>?_) λh' _ kp=>⟨rfl,?_⟩
    . exfalso
      have h1 : i < its1.length := by have : its1[i]? = some a := by simpa using ha
                                      exact(List.getElem?_eq_some_iff.mp this).1
      have h2 : i < its2.length := by have : its2[i]? = some b := by simpa using hb
                                      exact(List.getElem?_eq_some_iff.mp this).1
      omega
    . have hf4:∀c∈[z,to,i1,i2],tW X z0 H c:=λc hc'=>hf c (by simp at hc' ⊢;rcases hc' with h|h|h|h<;>simp[h])
      exact I.turnedAll (t':=s.toks) hf4 kp
  self:=λ_ _ _ _ _ st h=>wpAny_pyIter_zip st.hz h
section
variable{X:Cx}
def Uq(K:Zf)(ta:TA):TI:=λO H R=>ta O H λvs H1=>∃a b,vs=[.ref a,.ref b]/\(∃xs,SqT K H1 a xs)/\(∃ys,SqT K H1 b ys)/\R (Itz K a b) H1
theorem Im{a b:Expr}{ta:TA}{p pos pt:Pos}{es:List Expr}{kt:Nat}(hg:Gl X "zip")(hm:X.mg "zip"=none)(ha:PA X [a,b] ta)(hs:starEach [a,b] X.env=[(false,eval a X.env),(false,eval b X.env)])(hs2:starEach [b] X.env=[(false,eval b X.env)]) :
  PI X (.Tuple es kt pt) (.Call (.Name "zip" p) [a,b] [] pos) (Uq X.K ta):=by
 intro z0 s O H R I h;refine Call_ (fY I hg hm boot_zip (B0z (thn (ha pos z0 s O H _ I h) λus s1 ⟨vs,H1,I1,r1,q1⟩=>?_) (by rw[hs,hs2]) (by rw[hs2];rfl)));obtain⟨a1,b1,e,⟨xs,hx⟩,⟨ys,hy⟩,q⟩:=q1;subst e
 cases r1 with
 |cons r rr =>
  cases rr with
  |cons r' rr =>
   cases rr;cases (show _=Value.ref a1 from r);cases (show _=Value.ref b1 from r');obtain⟨its1,_,p1,_⟩:=I1.tuple hx;obtain⟨its2,_,p2,_⟩:=I1.tuple hy;refine wX (show s1.heap.IsTuple a1 its1.toArray from p1) (show s1.heap.IsTuple b1 its2.toArray from p2) λh' kp sz Z=>?_;refine wpAny_pyIter_zip (s:={s1 with heap:=h'}) Z.hz ?_;have I2:Inv X z0 O H1 {s1 with heap:=h'}:=I1.kept (t':=s1.toks) kp;refine⟨s1.heap.objs.size+4,_,_,_,H1,rfl,I2,yc (zipApart_new p1.lt p2.lt),Z,λc hc=>?_,q⟩
   have hc':s1.heap.objs.size<=c:=by
    simp at hc
    rcases hc with h|h|h|h|h<;>rw[h]<;>first|exact X4z _|exact P2z _ _
   exact I1.fpOk hc' (I1.hok.fresh hc')
end
section
variable{X:Cx}
end
section
variable{X:Cx}{tg:Expr}
end
end L2
namespace L2
open PySem PySem.Spec PyProof.Rows PySem.SeqAt
section
variable{prog:Program}{w:World}{A:Around}{E:Value->Shared->Prop}{s:Shared}
end
end L2
namespace L2
open PySem PySem.Spec PyProof.Rows
section
variable{prog:Program}{w:World}{A:Around}{E:Value->Shared->Prop}{s:Shared}
end
section
variable{X:Cx}
end
section
variable{prog:Program}{w:World}{A:Around}{E:Value->Shared->Prop}{s:Shared}
end
section
variable{X:Cx}
end
section
variable(P:Program)(w:World)
end
section
variable{P:Program}{w:World}{H H':Hp}{h h':Heap}{a:Addr}{o:HO}
end
section
variable{P:Program}{w:World}{H:Hp}{h h':Heap}{x e:Addr}{o':HO}
end
section
variable{fs fs' ex ex':List Addr}{H H1 H2:Hp}{h h1 h2 h':Heap}{a x e:Addr}{o:HO}
end
section
variable{X:Cx}{z0:List (Addr×Obj)}{O:List (Option V)}{H H':Hp}{s:Shared}{h':Heap}
end
section
variable{X:Cx}
variable{a b:Expr}{ta tb:TE}{pos:Pos}
variable{tA tB':TT}{rest:List Expr}
end
section
variable{X:Cx}{z0:List (Addr×Obj)}{O:St}{H:Hp}{s:Shared}{a:Addr}{xs ys:List V}
end
section
variable{X:Cx}{z0:List (Addr×Obj)}{O:St}{H:Hp}{s:Shared}{E:Value->Shared->Prop}
end
section
variable{X:Cx}{st:Stmt}{rest:List Stmt}{t u:TS}{e:Expr}{te:TE}{pos:Pos}
end
section
variable{X:Cx}{pos:Pos}
end
section
variable{X:Cx}{pos:Pos}
end
section
variable{X:Cx}{tg:Expr}
end
section
variable{X:Cx}{a b c:Expr}{ta tb tc:TE}{pos:Pos}
end
section
variable{X:Cx}{a b c:Expr}{ta tb tc:TE}{pos:Pos}
end
section
variable{prog:Program}{w:World}{A:Around}{E:Value->Shared->Prop}{s:Shared}{K:Zf}{x dx C f:Addr}{mA:Str->Option Value}{name:Str}{v:Value}
end
section
variable{P:Program}{w:World}{H H':Hp}{h h':Heap}{a C dx:Addr}{fs fs':List (Str×V)}
end
section
variable{X:Cx}{z0:List (Addr×Obj)}{O:St}{H:Hp}{s:Shared}{a C dx:Addr}{fs:List (Str×V)}{f:Str}{v:V}{A:Around}{E:Value->Shared->Prop}
end
section
variable{X:Cx}{o e value:Expr}{f:Str}{pos pos' tpos:Pos}{ta tv:TE}
end
section
variable{X:Cx}{z0:List (Addr×Obj)}{O:St}{H:Hp}{s:Shared}{A:Around}{E:Value->Shared->Prop}{Q:Value->Shared->Prop}{c:Value}{b:Bool}
end
section
variable{X:Cx}{e:Expr}{es:List Expr}{te:TE}{t:TA}{pos:Pos}
end
section
variable{X:Cx}{z0:List (Addr×Obj)}{O:St}{H:Hp}{s s':Shared}
end
section
variable{X:Cx}{CX:CXT}{k:Nat}{f C:Addr}{fd:FuncData}{ps:List Str}{sp:Sp}{dvs:List V}{ds:List Value}{E:XK}{x m:Str}{p pos apos:Pos}{e o:Expr}{es:List Expr}{ta:TE}{t:TA}
end
section
variable{X:Cx}{CX:CXT}{k:Nat}{f C:Addr}{fd:FuncData}{ps ks:List Str}{sp:Sp}{E:XK}{x m:Str}{p pos apos kpos:Pos}{e o:Expr}{es:List Expr}{kws:List Keyword}{te ta:TE}{t tk:TA}{nm:Option Str}
variable{g:List Value->List Value->List Value}{gV:List V->List V->List V}
end
section
variable{X:Cx}{x:Str}{p pos:Pos}{e:Expr}{es:List Expr}{t:TA}{id T:String}{r:List V->Hp->VK->Prop}
end
section
variable{κ:Type}[DecidableEq κ]
def qt(kvs:List (κ×V))(k:κ):Option V:=(kvs.find? λkv=>decide (kv.1=k)).map (·.2)
noncomputable def putK(kvs:List (κ×V))(k:κ)(v:V):List (κ×V) :=
 if(kvs.any λkv=>decide (kv.1=k))=true then kvs.map (λkv=>if kv.1=k then(kv.1,v) else kv) else kvs++[(k,v)]
theorem qm{p:κ×V}{r:List (κ×V)}{k:κ}(e:p.1=k):qt (p::r) k=some p.2:=by simp[qt,List.find?_cons,e]
theorem qp{p:κ×V}{r:List (κ×V)}{k:κ}(e:¬ p.1=k):qt (p::r) k=qt r k:=by simp[qt,List.find?_cons,e]
theorem pK(kvs:List (κ×V))(k:κ)(v:V):(putK kvs k v).length<=kvs.length+1:=by
 unfold putK;split
 .rw[I3z];omega
 .rw[N1z,Q2z,N3z];omega
theorem Bv.isSome_eq{o:Option V}{u:Option Value}(r:Bv o u):o.isSome=u.isSome:=by
 cases o with
 |none=>cases u with
  |none=>rfl
  |some _=>exact(show False from r).elim
 |some _=>cases u with
  |none=>exact(show False from r).elim
  |some _=>rfl
theorem KV.val{kvs:List (κ×V)}{vs:List (κ×Value)}(r:KV kvs vs)(k:κ):Bv (qt kvs k) (valueAt vs k):=by
 unfold KV at r
 induction r with
 |nil=>exact True.intro
 | @cons p q ps qs h t ih =>
  obtain⟨h1,h2⟩:=h
  by_cases e:p.1=k
  .have e':q.1=k:=h1.symm.trans e
   have b:valueAt (q::qs) k=some q.2:=by simp[valueAt,List.find?_cons,e']
   rw[qm e,b];exact h2
  .have e':¬ q.1=k:=λz=>e (h1.trans z)
   have b:valueAt (q::qs) k=valueAt qs k:=by simp[valueAt,List.find?_cons,e']
   rw[qp e,b];exact ih
theorem KV.any{kvs:List (κ×V)}{vs:List (κ×Value)}(r:KV kvs vs)(k:κ):(kvs.any λkv=>decide (kv.1=k))=vs.any λkv=>decide (kv.1=k):=by
 unfold KV at r
 induction r with
 |nil=>rfl
 |cons h t ih=>rw[H4z,H4z,ih,h.1]
theorem KV.repl{kvs:List (κ×V)}{vs:List (κ×Value)}(r:KV kvs vs)(k:κ){y:V}{u:Value}(ry:RelV y u) :
  KV (kvs.map λkv=>if kv.1=k then(kv.1,y) else kv) (vs.map λkv=>if kv.1=k then(kv.1,u) else kv):=by
 unfold KV at r ⊢
 induction r with
 |nil=>exact .nil
 | @cons p q ps qs h t ih =>
  rw[G4z,G4z];refine .cons ?_ ih;obtain⟨h1,h2⟩:=h
  by_cases e:p.1=k
  .rw[P5z e,P5z (h1.symm.trans e)];exact⟨h1,ry⟩
  .rw[Q5z e,Q5z (λz=>e (h1.trans z))];exact⟨h1,h2⟩
theorem KV.put{kvs:List (κ×V)}{vs:List (κ×Value)}(r:KV kvs vs)(k:κ){y:V}{u:Value}(ry:RelV y u):KV (putK kvs k y) (stored vs k u):=by
 unfold putK stored;rw[r.any k]
 by_cases e:(vs.any λkv=>decide (kv.1=k))=true
 .rw[P5z e,P5z e];exact r.repl k ry
 .rw[Q5z e,Q5z e];exact Paired.snoc r ⟨rfl,ry⟩
theorem KV.length{kvs:List (κ×V)}{vs:List (κ×Value)}(r:KV kvs vs):kvs.length=vs.length:=Paired.length r
end
theorem Ek{P:Program}{w:World}{k:Key}{u:Value}(r:RelV (kV k) u):(bY P w).is k u=true:=by
 cases k with
 |inl i=>obtain⟨t,e⟩:=(show ∃t,u=Value.int i t from r);subst e;exact pJ P w i t
 |inr x=>obtain⟨t,e⟩:=(show ∃t,u=Value.str x t from r);subst e;exact pI P w x t
section
variable{P:Program}{w:World}{H:Hp}{h:Heap}{a:Addr}
end
section
variable{X:Cx}{z0:List (Addr×Obj)}{O:St}{H:Hp}{s:Shared}{a:Addr}{y v:V}{u r:Value}{o:Option V}{A:Around}{E:Value->Shared->Prop}
theorem Inv.big(I:Inv X z0 O H s):sysModules<s.heap.objs.size:=by
 have h:mainGlobals<s.heap.objs.size:=(I.mod.glob.keeps I.bk).lt;exact Nat.lt_trans (by decide) h
theorem Ka{P:Program}{w:World}{H':Hp}{h':Heap}{kvs:List (Key×V)}{vs:List (Key×Value)}(z:kvs.length<=sizeLine)(hd:(a==sysModules)=false)(rel:KV kvs vs)(dd:h'.DictOf (bY P w) a vs) :
  dJ P w H' h' a (.dK kvs):=⟨z,hd,vs,rel,dd⟩
end
section
variable{X:Cx}{z0:List (Addr×Obj)}{O:St}{H:Hp}{s:Shared}{a:Addr}{kvs:List (Key×V)}{k:Key}{u:Value}{A:Around}{E:Value->Shared->Prop}
end
def Sy(i:Expr):Prop:=∀ov iv,subscripted i false ov iv=operate [ov,iv] (getItem ov iv)
theorem Ce{prog:Program}{w:World}{A:Around}{E:Value->Shared->Prop}{s:Shared}{env:Env}{value slice:Expr}{pos:Pos}{T id:String}{Q:Value->Shared->Prop}
  (hl:typeLookup (.type T) "__getitem__"=pure (some (.builtin id))) (hs:Sy slice)
  (h:wpAny (model prog w) A (eval value env) (λo s₁=>wpAny (model prog w) A (eval slice env) (λi s₂=>s₂.TypeIs o T/\wpAny (model prog w) A (getItem o i) Q E s₂) E s₁) E s) :
  wpAny (model prog w) A (eval (.Subscript value slice pos) env) Q E s:=by
 refine Subscript_ (B5z h (λo s₁ h₁=>B5z h₁ (λi s₂ h₂=>?_) λ_ _ x=>x) λ_ _ x=>x);obtain⟨hT,h₂⟩:=h₂;unfold subscriptTail;refine C5z ?_;rw[getitemInPython_of_ne hT.not_modules];refine C5z (wpAny_specialOf hT hl ?_)
 have fin:wpAny (model prog w) A (subscripted slice false o i) (λr s₃=>wpAny (model prog w) A (letTemporaryGo value o r >>=λ_=>pure r) Q E s₃) E s₂:=by
  rw[hs o i];exact wpAny_operating (B5z h₂ (λr s₃ h₃=>C5z (wpAny_letTemporaryGo (D5z h₃))) λ_ _ x=>x)
 first
  |exact D5z (C5z fin)
  |exact C5z (D5z (C5z fin))
  |exact C5z fin
section
variable{X:Cx}{o i e value:Expr}{pos pos' tpos:Pos}{td ty tv:TE}
end
section
variable{X:Cx}{pos:Pos}
end
def fK(kvs more:List (Key×V)):List (Key×V):=more.foldl (λacc kv=>putK acc kv.1 kv.2) kvs
theorem KV.merge:∀{more:List (Key×V)}{rs:List (Key×Value)}{kvs:List (Key×V)}{vs:List (Key×Value)},KV more rs->KV kvs vs->KV (fK kvs more) (merged vs rs):=by
 intro more rs kvs vs r;unfold KV at r
 induction r generalizing kvs vs with
 |nil=>intro q;exact q
 | @cons p q ps qs h t ih =>
  intro r0
  have e:KV (putK kvs p.1 p.2) (stored vs q.1 q.2):=by
   have:=r0.put p.1 h.2;rw[<- h.1];exact this
  exact ih e
theorem fX:∀(more kvs:List (Key×V)),(fK kvs more).length<=kvs.length+more.length
 |[],kvs=>by show kvs.length<=kvs.length+0;omega
 |p::r,kvs=>by
  have h1:=fX r (putK kvs p.1 p.2);have h2:=pK kvs p.1 p.2;show(fK (putK kvs p.1 p.2) r).length<=_;rw[Q2z];omega
section
variable{X:Cx}{z0:List (Addr×Obj)}{O:St}{H:Hp}{s:Shared}{a:Addr}{y d:V}{u r:Value}{o:Option V}{A:Around}{E:Value->Shared->Prop}
end
section
variable{X:Cx}{o e f:Expr}{apos cpos:Pos}{td ty tx:TE}
end
section
variable{X:Cx}{z0:List (Addr×Obj)}{O:St}{H:Hp}{s:Shared}{a:Addr}{kvs:List (Key×V)}{A:Around}{E:Value->Shared->Prop}
end
section
variable{X:Cx}{z0:List (Addr×Obj)}{O:St}{H:Hp}{s:Shared}{a:Addr}{y:V}{u:Value}{A:Around}{E:Value->Shared->Prop}
end
end L2
namespace Att
open PySem PySem.W PySem.Calls PyProof.Rows
section
variable{prog:Program}{w:World}{A:Around}{E:Value->Shared->Prop}{s:Shared}{K:Frag}
end
end Att
namespace L2
open PySem PySem.Spec PyProof.Rows
section
variable{P:Program}{w:World}{K:Zf}{mg:Str->Option Value}{base:Heap}
end
section
variable{X:Cx}
end
section
variable{κ:Type}[DecidableEq κ]
end
end L2
namespace L2
open PySem PySem.Spec PySem.Calls PyProof.Rows
theorem yK{P:Program}{w:World}{H:Hp}{h:Heap}{a:Addr}{o:HO}(x:dJ P w H h a o):∃u,h.get? a=some u:=by
 cases o with
 |lst xs=>obtain⟨_,_,_,_,e⟩:=x;exact⟨_,e⟩
 |tup xs=>obtain⟨_,_,_,p⟩:=x;obtain⟨o,e,_⟩:=p;exact⟨_,e⟩
 |dK kvs=>obtain⟨_,_,_,_,o,_,_,e,_⟩:=x;exact⟨_,e⟩
 |dT kvs=>obtain⟨_,_,_,_,o,_,_,e,_⟩:=x;exact⟨_,e⟩
 |set S n=>obtain⟨o,_,_,_,e,_⟩:=x;exact⟨_,e⟩
 |ins C dx fs=>obtain⟨_,_,_,e,_⟩:=x;exact⟨_,e⟩
 |own y=>obtain⟨_,e⟩:=x;exact⟨_,e⟩
 |xd fs=>obtain⟨_,⟨_,_,_,e,_⟩,_⟩:=x;exact⟨_,e⟩
 |rng lo hi=>obtain⟨_,_,_,e⟩:=x;exact⟨_,e⟩
 |frz ob u=>obtain⟨e,_⟩:=x;exact⟨_,e⟩
 |tbl ps=>exact⟨_,x⟩
 |met f y=>exact⟨_,x⟩
 |ext φ=>obtain⟨_,⟨_,e⟩,_⟩:=x;exact⟨_,e⟩
theorem Inv.laidAt{X:Cx}{z0:List (Addr×Obj)}{O:St}{H:Hp}{s:Shared}{h':Heap}{a:Addr}{o:HO}{t':Nat}(I:Inv X z0 O H s)(k:∀b u,s.heap.get? b=some u->h'.get? b=some u)(hn:s.heap.get? a=none)(new:dJ X.prog X.w (upd H a o) h' a o) :
  H a=none/\Inv X z0 O (upd H a o) {s with heap:=h',toks:=t'}:=by
 have hH:H a=none:=by
  cases q:H a with
  |none=>rfl
  |some u =>
   obtain⟨z,e⟩:=yK (I.hok a u q);rw[hn] at e;cases e
 refine⟨hH,I.un ⟨λb u q _ _ _=>k b u q,λb u q _ _ _=>⟨u.slots,k b u q⟩,λb u q n _=>?_,λb u q _=>⟨u,k b u q⟩,λb xs q=>by rw[aG (ao q hH)];exact q,λb u xs q=>by rw[aG (ao q hH)];exact q,λb ps q=>⟨#[],by rw[aG (ao q hH),q];simp⟩⟩ λb u e=>?_⟩
 .rw[aG (λz=>by rw[z,hn] at q;cases q)];exact n
 .by_cases hb:b=a
  .subst hb;rw[aV] at e;cases e;exact new
  .rw[aG hb] at e
   exact(I.hok b u e).stay (λc v _ q=>k c v q) (λc q=>by rw[aG (ao q hH)];exact q) λc xs q=>by rw[aG (ao q hH)];exact q
section
variable{X:Cx}
end
end L2
namespace L2
open PySem PySem.Spec PySem.Calls PyProof.Rows PySem.Builtin PySem.Builtin.Str
section
variable{X:Cx}
theorem kJ:∀{ts:List Str}{its:List Value},Vals (ts.map V.str) its->∃l:List (Str×Tok),its=strValues l/\l.map (·.1)=ts
 |[],_,.nil=>⟨[],rfl,rfl⟩
 |x::r,_,.cons h q=>by
  obtain⟨t,rfl⟩:=h;obtain⟨l,rfl,rfl⟩:=kJ q;exact⟨(x,t)::l,rfl,rfl⟩
theorem jG:∀l:List (Str×Tok),Vals ((l.map (·.1)).map V.str) (strValues l)
 |[]=>.nil
 |p::r=>.cons ⟨p.2,rfl⟩ (jG r)
theorem pH:MtR X "str.endswith" (λx xs H Q=>∃z y,x=.str z/\xs=[.str y]/\Q (.bl (Txt.endswith z y)) H):=by
 intro z0 s O H x xs v us Q I rx rs h;obtain⟨z,y,rfl,rfl,q⟩:=h;obtain⟨t,rfl⟩:=rx;obtain⟨u,rfl,t',rfl⟩:=vals1 rs;exact SC.endswith ⟨.bl _,H,I,rfl,q⟩
theorem Ea:MtR X "str.join" (λx xs H Q=>∃z p ts,x=.str z/\xs=[.ref p]/\SqL X.K H p (ts.map V.str)/\PySem.JoinOk z ts=true/\Q (.str (Txt.join z ts)) H):=by
 intro z0 s O H x xs v us Q I rx rs h;obtain⟨z,p,ts,rfl,rfl,hp,hj,q⟩:=h;obtain⟨t,rfl⟩:=rx;obtain⟨u,rfl,r1⟩:=vals1 rs;cases r1;obtain⟨its,r,pl,hz⟩:=I.list hp;obtain⟨l,rfl,hl⟩:=kJ r;exact SC.join pl.isList hl hj λt' k=>⟨.str _,H,I.tok _,⟨_,rfl⟩,q⟩
theorem rY{prog:Program}{w:World}{A:Around}{E:Value->Shared->Prop}{s:Shared}{x y:Str}{t u:Tok}{Q:Value->Shared->Prop}(hy:(y.length==0)=false)
  (h:∀(l:List (Str×Tok)) k,l.map (·.1)=Txt.split x y->Q (.ref s.heap.objs.size) {s with heap:=s.heap.push {cls:=.type "list",data:=.seq (strValues l).toArray},toks:=k}) (hsz:x.length+2<=sizeLine) :
  wpAny (model prog w) A (call (.builtin "str.split") [.str x t,.str y u]) Q E s:=by
 have hn:(partsBetween x (occurrences x y 0 x.length (x.length+1)) y.length).length<=sizeLine:=by
  have e1:=StrLaws.occ_length_le x y 0 x.length (x.length+1);rw[length_partsBetween];omega
 cases h1:(decide (x.length<y.length)||decide (strKind x<strKind y))
 .cases hf:(occurrences x y 0 x.length (x.length+1)).isEmpty
  .refine G5z F.slot_str_split (F5z _ _ _) F.entry_str_split (R1z _ _) (meets_str_split_sep x y t u h1 hy hf (by omega) hn) ?_
   show wants Q E _ {s with toks:=_,heap:=s.heap.push {cls:=.type "list",data:=.seq (strsFrom s.toks (partsBetween x (occurrences x y 0 x.length (x.length+1)) y.length)).toArray} };rw[strsFrom_eq];exact h (numbered s.toks _) _ ((numbered_texts _ _).trans ((Q5z (G1z h1)).trans (Q5z (G1z hf))).symm)
  .exact G5z F.slot_str_split (F5z _ _ _) F.entry_str_split (R1z _ _) (meets_str_split_not_found x y t u h1 hy hf)
    (h [(x,t)] s.toks ((Q5z (G1z h1)).trans (P5z hf)).symm)
 .exact G5z F.slot_str_split (F5z _ _ _) F.entry_str_split (R1z _ _) (meets_str_split_cannot_occur x y t u h1)
   (h [(x,t)] s.toks (P5z h1).symm)
theorem uO{h:Heap}:h.get? h.objs.size=none:=by
 cases e:h.get? h.objs.size with
 |none=>rfl
 |some o=>exact absurd (P4z e) (D4z _)
theorem split_len{x y:Str}:(Txt.split x y).length<=x.length+2:=by
 unfold Txt.split;split
 .simp
 .split
  .simp
  .have e1:=StrLaws.occ_length_le x y 0 x.length (x.length+1)
   rw[length_partsBetween];omega
theorem yN:MtR X "str.split" (λx xs H Q=>∃z y,x=.str z/\xs=[.str y]/\(y.length==0)=false/\z.length+2<=sizeLine/\∀a,H a=none->Q (.ref a) (upd H a (.lst ((Txt.split z y).map V.str)))):=by
 intro z0 s O H x xs v us Q I rx rs h;obtain⟨z,y,rfl,rfl,hy,hz,q⟩:=h;obtain⟨t,rfl⟩:=rx;obtain⟨u,rfl,t',rfl⟩:=vals1 rs;refine rY hy (λl k e=>?_) hz;have hl:(Txt.split z y).length<=sizeLine:=R4z split_len hz
 obtain⟨hH,J⟩:=I.laidAt (a:=s.heap.objs.size) (o:=.lst ((Txt.split z y).map V.str)) (t':=k) (h':=s.heap.push {cls:=.type "list",data:=.seq (strValues l).toArray}) (λb u e=>Heap.get?_push_of_some _ e) uO
  ⟨by rw[I3z];exact hl,strValues l,0,by rw[<- e];exact jG l,Heap.get?_push_size _ rfl⟩
 exact⟨.ref _,_,J,rfl,q _ hH⟩
theorem lW:cT X (.type "int") (λxs H Q=>∃z n,xs=[.str z]/\PySem.intText? z=some n/\z.length<=640/\Q (.int n) H):=by
 intro z0 s O H xs us Q I r h;obtain⟨z,n,rfl,hn,hl,q⟩:=h;obtain⟨u,rfl,t,rfl⟩:=vals1 r;exact W.KIN.call_text hn hl ⟨.int n,H,I.tok _,⟨_,rfl⟩,q⟩
def cutX(z:Str)(lo hi:Option Int):Str:=⟨((z.cps.toList.drop (HT.sIx z.length 0 lo)).take (HT.sIx z.length z.length hi-HT.sIx z.length 0 lo)).toArray⟩
theorem Ht(lo hi:Option Int)(n:Nat):strSliceIndices lo hi 1 n=strSliceIndices (some ((HT.sIx n 0 lo:Nat):Int)) (some ((max (HT.sIx n 0 lo) (HT.sIx n n hi):Nat):Int)) 1 n:=by
 have a1:=HT.mQ n 0 (Z4z _) lo;have a2:=HT.mQ n n (X4z _) hi
 have clip:∀(o:Option Int)(d:Nat),d<=n->(match o with|none=>(d:Int)|some i=>max 0 (min (if i<0 then i+(n:Int) else i) (n:Int)))=((HT.sIx n d o:Nat):Int):=λo d hd=>by
  cases o with
  |none=>rfl
  |some v =>
   show max 0 (min (if v<0 then v+(n:Int) else v) (n:Int))=(((if v<0 then(v+(n:Int)).toNat else min v.toNat n):Nat):Int)
   by_cases hv:v<0
   .simp only[P5z hv];omega
   .simp only[Q5z hv];omega
 have c1:=clip lo 0 (Z4z _);have c2:=clip hi n (X4z _);generalize HT.sIx n 0 lo=a at *;generalize HT.sIx n n hi=b at *
 have e1:max (0:Int) (min (a:Int) (n:Int))=a:=by omega
 have e2:max (0:Int) (min ((max a b:Nat):Int) (n:Int))=(max a b:Nat):=by omega
 have n1:¬ ((a:Int)<0):=by omega
 have n2:¬ (((max a b:Nat):Int)<0):=by omega
 unfold strSliceIndices;simp only[show((1:Int)>0)=True from by simp,O5z,n1,n2,M5z,e1,e2]
 have q:∀u v:Int,u=(a:Int)->v=(b:Int)->sliceRange u v 1=sliceRange (a:Int) ((max a b:Nat):Int) 1:=by
  rintro _ _ rfl rfl
  by_cases h:b<=a
  .rw[Nat.max_eq_left h]
   unfold sliceRange;simp[show ¬ ((a:Int)<(b:Int)) by omega]
  .rw[Nat.max_eq_right (by omega)]
 exact q _ _ c1 c2
theorem mK(z:Str)(lo hi:Option Int):Txt.slice z lo hi=cutX z lo hi:=by
 have hm:max (HT.sIx z.length 0 lo) (HT.sIx z.length z.length hi)<=z.length:=Nat.max_le.mpr ⟨HT.mQ _ _ (Z4z _) _,HT.mQ _ _ (X4z _) _⟩
 have e:Txt.slice z lo hi=StrLaws.sliceText z (some ((HT.sIx z.length 0 lo:Nat):Int)) (some ((max (HT.sIx z.length 0 lo) (HT.sIx z.length z.length hi):Nat):Int)):=by
  have q:∀c c':List Nat,c=c'->(if((1:Int)==1&&c.length==z.length)=true then z else(⟨(c.filterMap (z.cps[·]?)).toArray⟩:Str))=(if((1:Int)==1&&c'.length==z.length)=true then z else⟨(c'.filterMap (z.cps[·]?)).toArray⟩):=λc c' e=>by rw[e]
  exact q _ _ (Ht lo hi z.length)
 rw[e,StrLaws.sliceText_nat z (Nat.le_max_left _ _) hm];unfold cutX
 by_cases h:HT.sIx z.length z.length hi<=HT.sIx z.length 0 lo
 .rw[Nat.max_eq_left h,Nat.sub_self,Nat.sub_eq_zero_of_le h]
 .rw[Nat.max_eq_right (by omega)]
theorem Hz:SlR X (λx lo hi H Q=>∃z,x=.str z/\z.length<=sizeLine/\Q (.str (cutX z lo hi)) H):=by
 intro z0 s O H x v vl vu lo hi sl Q I rx hs pl pu h;obtain⟨z,rfl,hz,q⟩:=h;obtain⟨t,rfl⟩:=rx
 have part:∀{w:Value}{o:Option Int},IsPart w o->∃l:Option (Int×Tok),partValue l=w/\l.map (·.1)=o:=λp=>by
  cases p with
  |none=>exact⟨none,rfl,rfl⟩
  |int i t=>exact⟨some (i,t),rfl,rfl⟩
 obtain⟨l,rfl,rfl⟩:=part pl;obtain⟨u,rfl,rfl⟩:=part pu;refine⟨"str",_,F.slot_str_getitem.lookup,F5z _ _ _,?_⟩;refine wpAny_getItem_str_slice (Q:=EP X z0 O Q) (l:=l) (u:=u) (st:=none) hs rfl ?_;have hc:=mK z (l.map (·.1)) (u.map (·.1));unfold Txt.slice at hc;unfold sliceMade slicePicked
 have fin:∀(b:Bool)(w:Str),(if b=true then z else w)=cutX z (l.map (·.1)) (u.map (·.1))->(if b=true then Made.val (.str z t) else Made.str w).post (EP X z0 O Q) s:=λb w e =>
  post_val_or_str ⟨by rw[e,<- mK];exact R4z (Txt.slice_le z _ _) hz,λt' k=>⟨.str _,H,I.tok _,⟨t',rfl⟩,by rw[e];exact q⟩⟩
 exact fin _ _ hc
theorem vB:OpR X (compareOp .LtE) (λx y H Q=>∃i j,x=.str i/\y=.str j/\Q (.bl (!(decide (j.cps.toList<i.cps.toList)))) H):=by
 intro z0 s O H x y v u Q I rx ry h;obtain⟨i,j,rfl,rfl,q⟩:=h;obtain⟨t,rfl⟩:=rx;obtain⟨t',rfl⟩:=ry;exact PySem.P.le_str (v9 I q rfl)
end
end L2
namespace RLi
open PySem PyProof.Rows
theorem uM:Slot "list_reverseiterator" "__length_hint__" "list_reverseiterator.__length_hint__":=.of (owner:="list_reverseiterator") (n:="__length_hint__") (by rw[typeLookup_type,R0z];rfl') (by decide +kernel) (by decide +kernel) (by decide +kernel) (by first|exact .inl (by decide +kernel)|exact .inr (by decide +kernel)) (by rw[isSubtype_type];rfl')
theorem Jh:typeLookup (.type "list_reverseiterator") "__len__"=pure none:=by rw[typeLookup_type,R0z];rfl'
theorem sub_self:isSubtype (.type "list_reverseiterator") (.type "list_reverseiterator")=pure true:=by rw[isSubtype_type];rfl'
end RLi
namespace L2
open PySem PySem.Spec PySem.Calls PyProof.Rows PySem.Builtin PySem.Builtin.Str
section
variable{prog:Program}{w:World}{A:Around}{E:Value->Shared->Prop}{s:Shared}
theorem nU{r l:Addr}{its:Array Value}{Q:List Value->Shared->Prop}(hh:A.handled=none)(hne:l≠r)(hr:s.heap.IsRevIter r l ((its.size:Int)-1))(ht:s.heap.IsList l its)(hz:its.size<=sizeLine)
  (hQ:∀s' acc,Moved [r] (λa b=>b=a) s s'->ItemsOf (λi v=>its[its.size-1-i]?=some v) acc its.size->Q acc.toList s'):wpAny (model prog w) A (collect (.ref r)) Q E s:=by
 have W:=(Walks.listRev (prog:=prog) (w:=w) (A:=A.in1.in1) hh r l hne its).toS
 have fresh:∀b∈[r,l],b<s.heap.objs.size:=λb hb=>by
  simp at hb;rcases hb with rfl|rfl
  .obtain⟨o,ho,_⟩:=hr;exact P4z ho
  .obtain⟨o,ho,_⟩:=ht;exact P4z ho
 have nf:s.heap.objs.size∉[r,l]:=λhm=>D4z _ (fresh _ hm);have nr:s.heap.objs.size≠r:=λe=>nf (by simp[e]);unfold collect;refine C5z (wpAny_runValue (J3z F.entry_proto_collect ?_));rw[Z0z F.plain_proto_collect _];show wpAny _ A.in1 (newList [] >>=λl=>again (.builtin "list.__iadd__" ⟨[l,.ref r],[]⟩)) _ _ s;refine C5z (W1z (D5z ⟨I4z F.plain_list_iadd _,J3z F.entry_list_iadd ?_⟩));rw[Z0z F.plain_list_iadd _];have hS₁:(s.heap.push {cls:=.type "list",data:=.seq ([]:List Value).toArray}).get? s.heap.objs.size=some {cls:=.type "list",data:=.seq ([]:List Value).toArray}:=Heap.get?_push_size _ rfl;have hr₁:(s.heap.push {cls:=.type "list",data:=.seq ([]:List Value).toArray}).IsRevIter r l ((its.size:Int)-1):=hr.at λo e=>Heap.get?_push_of_some _ e;have ht₁:(s.heap.push {cls:=.type "list",data:=.seq ([]:List Value).toArray}).IsList l its:=ht.at λo e=>Heap.get?_push_of_some _ e;show wpAny _ A.in1 (Builtin.List.listExtendWith (.ref s.heap.objs.size) (.ref r) (.ref s.heap.objs.size)) _ _ _;have hT₁:({s with heap:=s.heap.push {cls:=.type "list",data:=.seq ([]:List Value).toArray} }:Shared).TypeIs (.ref r) "list_reverseiterator":=hr₁.typeIs
 have h1:Builtin.List.listSameRef (.ref s.heap.objs.size) (.ref r)=false:=by simp[Builtin.List.listSameRef,nr]
 unfold Builtin.List.listExtendWith;refine C5z (V4z hT₁ ?_);rw[Q5z (by rw[h1];decide)];refine C5z (wpAny_pyIter_revIter hr₁ ?_);refine C5z (F4z ?_);unfold Builtin.List.listLengthHint;refine C5z (wpAny_specialOf hT₁ RLi.Jh ?_);refine C5z (m:=specialOf (Value.ref r) (Str.ofString "__length_hint__")) (wpAny_specialOf hT₁ RLi.uM.lookup ?_)
 have sp:splitId "list_reverseiterator.__length_hint__"=some ("list_reverseiterator","__length_hint__"):=by decide +kernel
 dsimp only;rw[sp];dsimp only;refine C5z (wpAny_isInstance (b:=true) hT₁ RLi.sub_self ?_);refine D5z ?_;rw[Q5z (by decide)];refine D5z ⟨I4z F.plain_extend_loop _,codeAny_extend_loopS W.of_in1 hz _ nf _ its.size 0 _ _ _ rfl (Z4z _) ⟨Z4z _,by simpa using hr₁,ht₁⟩ hS₁ (ItemsOf.nil _) λs' acc' c' hm hS' hacc=>?_⟩;show wpAny _ A (load s.heap.objs.size >>=_) _ _ s';refine C5z (wpAny_load hS' ?_);exact D5z (hQ s' acc' (Moved.drop_new (o:={cls:=.type "list",data:=.seq ([]:List Value).toArray}) (tk:=s.toks) hm (X4z _)) hacc)
theorem uU{its acc:Array Value}(h:ItemsOf (λi v=>its[its.size-1-i]?=some v) acc its.size):acc.toList=its.toList.reverse:=by
 apply List.ext_getElem?;intro i;have hs:=h.1
 by_cases hi:i<its.size
 .have:=h.2 i (acc[i]'(by omega)) (Array.getElem?_eq_getElem (by omega))
  rw[List.getElem?_reverse (by simpa using hi),Array.getElem?_toList,Array.getElem?_toList,D1z,this,Array.getElem?_eq_getElem (by omega)]
 .rw[List.getElem?_eq_none (by simp;omega),List.getElem?_eq_none (by simp;omega)]
theorem vU{x:Str}{t:Tok}{r p:Addr}{l:List (Str×Tok)}{Q:Value->Shared->Prop}(hh:A.handled=none)(hne:p≠r)(hr:s.heap.IsRevIter r p ((l.length:Int)-1))(ht:s.heap.IsList p (strValues l).toArray)(hz:l.length<=sizeLine)(hj:JoinOk x (l.map (·.1)).reverse=true)
  (hQ:∀s' t' k,Moved [r] (λa b=>b=a) s s'->Q (.str (Txt.join x (l.map (·.1)).reverse) t') {s' with toks:=k}):wpAny (model prog w) A (call (.builtin "str.join") [.str x t,.ref r]) Q E s:=by
 have hl:(strValues l).toArray.size=l.length:=by simp[strValues]
 refine wpAny_call (V0z F.slot_str_join.plain F.entry_str_join (F.slot_str_join.check _ _ _ _ _ _ _ _ (F5z _ _ _) (F.args_str_join_2 _ _) ?_));rw[join_tree_other];refine C5z (V4z hr.typeIs ?_);show wpAny _ A.in1 ((pyIter (.ref r)).tryCatch _ >>=λit=>collect it >>=λitems=>joinTail x items) _ _ s;refine C5z (wpAny_tryCatch (wpAny_pyIter_revIter hr ?_));refine C5z (nU hh hne (by rw[hl];exact hr) ht (by rw[hl];exact hz) (λs' acc hm hacc=>?_));rw[uU hacc]
 have e:(strValues l).toArray.toList.reverse=strValues l.reverse:=by simp[strValues]
 rw[e]
 have e2:l.reverse.map (·.1)=(l.map (·.1)).reverse:=by simp
 have hj':JoinOk x (l.reverse.map (·.1))=true:=by rw[e2];exact hj
 have hok:=hj';unfold JoinOk at hok;rw[Y1z] at hok
 have g:Gives (joinTail x (strValues l.reverse)) (joinMade x l.reverse):=by
  generalize l.reverse=l' at hok;have g0:=gives_joinTail x l' hok
  cases l' with
  |nil=>exact g0
  |cons p r=>cases r with
   |nil=>exact g0
   |cons q r'=>exact g0
 exact g prog w A (wants Q E) s' (post_join l.reverse ⟨joinFit_length hok,λt' k=>by rw[e2];exact hQ s' t' k hm⟩)
end
end L2
namespace DE
open PySem
set_option genInjectivity true in
inductive D where
 |non|bl (b:Bool)|int (i:Int)|str (x:Str)|tup (xs:List D)|lst (xs:List D)
 |exc (c:Str)
 |dic (ks:List (Sum Int Str)) (xs:List D)
 |obj (a:Nat)
 deriving Inhabited
set_option genInjectivity true in
inductive Sl where
 |no|sh (d:D)|ow (ds:List D)|oo (dss:List (List D))
 deriving Inhabited
noncomputable abbrev Rho:=List (Str×Sl)
set_option genInjectivity true in
inductive Fl where
 |nxt (U:Rho)|ret (d:D)
 deriving Inhabited
def b2i(b:Bool):Int:=if b then 1 else 0
mutual
def deq:D->D->Bool
 |.non,.non=>true
 |.bl a,.bl b=>a==b
 |.bl a,.int j=>b2i a==j
 |.int i,.bl b=>i==b2i b
 |.int i,.int j=>i==j
 |.str x,.str y=>x==y
 |.tup xs,.tup ys=>nJ xs ys
 |.lst xs,.lst ys=>nJ xs ys
 |_,_=>false
def nJ:List D->List D->Bool
 |[],[]=>true
 |x::xs,y::ys=>deq x y&&nJ xs ys
 |_,_=>false
end
mutual
def dep:D->Nat
 |.tup xs=>deps xs+1
 |.lst xs=>deps xs+1
 |.exc _=>1000
 |.dic _ _=>1000
 |.obj _=>1000
 |_=>0
def deps:List D->Nat
 |[]=>0
 |x::xs=>max (dep x) (deps xs)
end
mutual
def eG:D->D->Bool
 |.bl _,.bl _=>true
 |.int _,.int _=>true
 |.str _,.str _=>true
 |.tup _,.str _=>true
 |.tup xs,.tup ys=>jq xs ys
 |.lst xs,.lst ys=>jq xs ys
 |_,_=>false
def jq:List D->List D->Bool
 |x::xs,y::ys=>eG x y&&jq xs ys
 |_,_=>true
end
def asB:D->Option Bool
 |.bl b=>some b
 |_=>none
def asI:D->Option Int
 |.int i=>some i
 |_=>none
def items:D->Option (List D)
 |.tup xs=>some xs
 |.lst xs=>some xs
 |_=>none
def KN:D->Option (List D)
 |.lst xs=>some xs
 |_=>none
def tupI:D->Option (List D)
 |.tup xs=>some xs
 |_=>none
def oJ:List D->Option (List Bool)
 |[]=>some []
 |.bl i::r=>(oJ r).map (i::·)
 |_=>none
def small(i:Int):Bool:=decide (-(2^64)<i)&&decide (i<2^64)
def mid(i:Int):Bool:=decide (i.natAbs.log2<10000)
def szl(n:Nat):Bool:=decide (n<=100000)
def binop(op:Operator)(x y:D):Option D:=match op with
 | .Add=>(match x with
  | .int i=>(match y with
   |.int j=>some (.int (i+j))
   | _=>none)
  | .tup xs=>(match y with
   |.tup ys=>if szl (xs.length+ys.length) then some (.tup (xs++ys)) else none
   | _=>none)
  | .lst xs=>(match y with
   |.lst ys=>if szl (xs.length+ys.length) then some (.lst (xs++ys)) else none
   | _=>none)
  | .str x=>(match y with
   |.str y=>if szl (x.length+y.length) then some (.str (x++y)) else none
   | _=>none)
  | _=>none)
 | .Sub=>(match x with
  | .int i=>(match y with
   |.int j=>some (.int (i-j))
   | _=>none)
  | _=>none)
 | .Mult=>(match x with
  | .int i=>(match y with
   |.int j=>if small i||small j||(mid i&&mid j) then some (.int (i*j)) else none
   | _=>none)
  | _=>none)
 | .FloorDiv=>(match x with
  | .int i=>(match y with
   |.int j=>if decide (0<j)&&decide (j<1073741824) then some (.int (i / j)) else none
   | _=>none)
  | _=>none)
 | .Mod=>(match x with
  | .int i=>(match y with
   |.int j=>if decide (0<j) then some (.int (i%j)) else none
   | _=>none)
  | _=>none)
 | .Pow=>(match x with
  | .int i=>(match y with
   |.int j=>if decide (0<=j)&&decide (j<=1000000)&&small i then some (.int (i^j.toNat)) else none
   | _=>none)
  | _=>none)
 |_=>none
def oH:List D->Option (List Str)
 |[]=>some []
 |.str i::r=>(oH r).map (i::·)
 |_=>none
def KQ:D->Option (Sum Int Str)
 |.int i=>some (.inl i)
 |.str x=>some (.inr x)
 |_=>none
def putD(l:List (Sum Int Str×D))(k:Sum Int Str)(d:D):List (Sum Int Str×D):=if(l.any λq=>decide (q.1=k))=true then l.map (λq=>if q.1=k then(q.1,d) else q) else l++[(k,d)]
def kI(ks:List (Sum Int Str))(ds:List D)(k:Sum Int Str):Option D:=((ks.zip ds).find? λq=>decide (q.1=k)).map (·.2)
def wJ(l:List (Sum Int Str×D)):D:=.dic (l.map (·.1)) (l.map (·.2))
def R8(l:List (Sum Int Str×D)):List (Sum Int Str×D):=l.foldl (λa q=>putD a q.1 q.2) []
def En:D->Bool
 |.non=>true
 |_=>false
def cmpop(op:CmpOp)(x y:D):Option D:=match op with
 |.Eq=>if decide (dep x<=50)&&decide (dep y<=50)&&eG x y then some (.bl (deq x y)) else none
 |.NotEq=>if decide (dep x<=50)&&decide (dep y<=50)&&eG x y then some (.bl (!deq x y)) else none
 | .Lt=>(match y with
  | .int j=>(match x with
   |.int i=>some (.bl (decide (i<j)))
   | _=>none)
  | _=>none)
 | .LtE=>(match y with
  | .int j=>(match x with
   |.int i=>some (.bl (decide (i<=j)))
   | _=>none)
  | .str y=>(match x with
   |.str x=>some (.bl (!(decide (y.cps.toList<x.cps.toList))))
   | _=>none)
  | _=>none)
 | .Gt=>(match y with
  | .int j=>(match x with
   |.int i=>some (.bl (decide (j<i)))
   | _=>none)
  | _=>none)
 | .GtE=>(match y with
  | .int j=>(match x with
   |.int i=>some (.bl (decide (j<=i)))
   | _=>none)
  | _=>none)
 | .Is=>(match y with
  |.non=>some (.bl (En x))
  | _=>none)
 | .IsNot=>(match y with
  |.non=>some (.bl (!En x))
  | _=>none)
 | .In=>(match y with
  | .dic ks ds=>(match x with
   |.str x=>some (.bl (kI ks ds (.inr x)).isSome)
   | _=>none)
  | _=>none)
 |_=>none
def ixD(n:Nat)(i:Int):Option Nat:=if 0<=i then(if i<n then some i.toNat else none) else if -(n:Int)<=i then some (i+n).toNat else none
def atD(xs:List D)(i:Int):Option D:=(ixD xs.length i).bind λj=>xs[j]?
def jy(n d:Nat):Option Int->Nat
 |none=>d
 |some v=>if v<0 then(v+(n:Int)).toNat else min v.toNat n
def nM(xs:List D)(lo hi:Option Int):List D:=(xs.drop (jy xs.length 0 lo)).take (jy xs.length xs.length hi-jy xs.length 0 lo)
def tZ(z:Str)(lo hi:Option Int):Str:=⟨((z.cps.toList.drop (jy z.length 0 lo)).take (jy z.length z.length hi-jy z.length 0 lo)).toArray⟩
def Gs:D->D->Option D
 |.str z,.int i=>if szl z.length then(ixD z.length i).bind λj=>(z.cps.toList[j]?).map λc=>.str ⟨#[c]⟩ else none
 |.tup xs,.int i=>atD xs i
 |.lst xs,.int i=>atD xs i
 |.dic ks ds,y=>(KQ y).bind (kI ks ds)
 |_,_=>none
mutual
def Qt:D->Bool
 |.non=>true
 |.bl _=>true
 |.int _=>true
 |.str _=>true
 |.tup ds=>Bk ds
 |_=>false
def Bk:List D->Bool
 |[]=>true
 |d::r=>Qt d&&Bk r
end
def jV:String->D->Bool
 |"int",.int _=>true
 |"int",.bl _=>true
 |"bool",.bl _=>true
 |"tuple",.tup _=>true
 |"list",.lst _=>true
 |"str",.str _=>true
 |_,_=>false
def m6:List D->Option (List (Sum Int Str×D))
 |[]=>some []
 |.tup [.str k,d]::r=>(m6 r).map ((.inr k,d)::·)
 |_::_=>none
def ins(a:Str):List Str->List (List Str)
 |[]=>[[a]]
 |b::r=>(a::b::r)::(ins a r).map (b::·)
def blt(b:String):List D->Option D
 | [d]=>if b="len" then(match d with
   |.str x=>if szl x.length then some (.int x.length) else none
   | d=>do let l <- items d;some (.int l.length))
  else if b="all" then(match d with
   |.lst xs=>do let bs <- oJ xs;some (.bl (bs.all id))
   | _=>none)
  else if b="tuple" then do let l <- items d;some (.tup l)
  else if b="abs" then(match d with
   |.int i=>some (.int (if i<0 then -i else i))
   | _=>none)
  else if b="str" then(match d with
   |.int i=>if decide (i.natAbs.log2<1920) then some (.str (toString i)) else none
   | _=>none)
  else if b="int" then(match d with
   |.str z=>if decide (z.length<=640) then(intText? z).map .int else none
   | _=>none)
  else if b="dict" then(match d with
   |.lst xs=>(m6 xs).map λl=>wJ (R8 l)
   | _=>none)
  else none
 |_=>none
structure Cxt where
 cst:List (Str×D)
 blt:List (Str×String)
 fns:List Str
 exs:List Str
 top:Str
 rs:Bool
 call:Str->List D->Option D
 callx:Str->List D->Option Str
def isExc:D->Bool
 |.exc _=>true
 |.dic _ _=>true
 |.obj _=>true
 |_=>false
def Gn(top c c':Str):Bool:=c==c'||c'==top
noncomputable def jA(scope sc:Scope):Scope :=
 {scope with names:=scope.names.map λ(n,k)=>if(k==.free&&sc.kind==.function&&sc.names.lookup n==some .cell) then(n,.cell) else(n,k)}
def LR:Option Sl->Sl
 |some (.sh d)=>.sh d
 |_=>.no
def aO(scope:Scope)(U:Rho):Rho:=scope.names.map λp=>(p.1,if p.2==.free then LR (U.lookup p.1) else .no)
def nq:List Str->Bool
 |[]=>true
 |x::r => !r.contains x&&nq r
def eY(sc scope:Scope):Bool :=
 scope.kind==.function&&nq (scope.names.map (·.1))&&scope.names.all λp=>p.2 !=.free||sc.names.lookup p.1==some .cell||sc.names.lookup p.1==some .free
def cU:Rho->Str->Sl->Rho
 |[],_,_=>[]
 |(y,s)::r,x,v=>if x==y then(y,v)::r else(y,s)::cU r x v
def au(x:Str):Bool:=x !="__debug__"&&x !="__classdict__"
def ownIn(scope:Scope)(x:Str):Bool:=scope.names.lookup x==some .local||scope.names.lookup x==some .cell
def bindNames(scope:Scope):List Expr->List D->Rho->Option Rho
 |[],[],U=>some U
 |.Name x _::es,d::ds,U=>if ownIn scope x&&(U.map (·.1)).contains x then bindNames scope es ds (cU U x (.sh d)) else none
 |_,_,_=>none
def cC(scope:Scope):Expr->D->Rho->Option Rho
 |.Name x _,d,U=>if ownIn scope x&&(U.map (·.1)).contains x then some (cU U x (.sh d)) else none
 |.Tuple es _ _,.tup ds,U=>bindNames scope es ds U
 |_,_,_=>none
def jB(cx:Cxt)(sc:Scope)(x:Str):Bool:=sc.names.lookup x==some .globalImplicit
def bh(cx:Cxt)(sc:Scope)(x:Str):Option String:=if jB cx sc x then cx.blt.lookup x else none
def aP(f:D->Option (Option D)):List D->Option (List D)
 |[]=>some []
 |x::r=>do
  match <- f x with
  |some v=>(aP f r).map (v::·)
  |none=>aP f r
def eO(lo hi:Int):List D:=(List.range (hi-lo).toNat).map λ(k:Nat)=>.int (lo+(k:Int))
def jw(f:Expr->Option D):List Expr->Option (List D)
 |[]=>some []
 |e::r=>do let d <- f e;let ds <- jw f r;some (d::ds)
def bU(op:BoolOp)(f:Expr->Option D):List Expr->Option D
 |[]=>none
 |[e]=>f e
 |e::e'::r=>do
  let d <- f e
  let b <- asB d
  match op with
  |.And=>if b then bU op f (e'::r) else some (.bl false)
  |.Or=>if b then some (.bl true) else bU op f (e'::r)
def gM(i:Int):Bool:=decide (-(2^62)<=i)&&decide (i<2^62)
def cN:Expr->Bool
 |.Tuple .. =>true
 |_=>false
set_option genInjectivity true in
inductive Wk where
 |r1 (a:Expr)|r2 (a b:Expr)|r3 (a b c:Expr)|zp (a b:Expr)|rv (a:Expr)|en (a:Expr)|sq
def xP(cx:Cxt)(sc:Scope):Expr->Wk
 | .Call (.Name x _) args [] _=>(match bh cx sc x with
  |some "range"=>(match args with|[a]=>.r1 a|[a,b]=>.r2 a b|[a,b,c]=>.r3 a b c|_=>.sq)
  |some "zip"=>(match args with|[a,b]=>.zp a b|_=>.sq)
  |some "reversed"=>(match args with|[a]=>.rv a|_=>.sq)
  |some "enumerate"=>(match args with|[a]=>.en a|_=>.sq)
  | _=>.sq)
 |_=>.sq
def enD(xs:List D):List D:=xs.zipIdx.map λq=>.tup [.int (q.2:Int),q.1]
def Ku:D->D->Option (List D)
 |.tup xs,.tup ys=>some ((xs.zip ys).map λq=>.tup [q.1,q.2])
 |.lst xs,.lst ys=>if true then none else none
 |.lst xs,.tup ys=>if true then none else none
 |.tup xs,.lst ys=>if true then none else none
 |_,_=>none
def jU:D->Option (List D)
 |.str x=>if x.cps.all (· < 128) then some (x.cps.toList.map λc=>.str ⟨#[c]⟩) else none
 |d=>items d
theorem vW{d:D}{l:List D}(h:items d=some l):jU d=some l:=by cases d<;>first|exact h|simp[items] at h
def evI(cx:Cxt)(tup:Bool)(f:Expr->Option D)(sc:Scope)(e:Expr):Option (List D):=match xP cx sc e with
 |.r1 a=>do let j <- (f a).bind asI;if gM j then some (eO 0 j) else none
 |.r2 a b=>do let i <- (f a).bind asI;let j <- (f b).bind asI;if gM i&&gM j then some (eO i j) else none
 |.r3 a b c=>if true then none else none
 |.zp a b=>do let x <- f a;let y <- f b;if tup then Ku x y else none
 |.rv a=>if true then none else none
 |.en a=>do let x <- f a;if tup then(tupI x).map enD else none
 |.sq=>(f e).bind jU
set_option genInjectivity true in
inductive Wc where
 |lr1 (a:Expr)|lr2 (a b:Expr)|tv (a:Expr)|ls (a:Expr)|tr1 (a:Expr)|li (a:Expr)|al
def QL(cx:Cxt)(sc:Scope):Expr->Option Expr
 |.Call (.Name y _) [a] [] _=>if bh cx sc y==some "set" then some a else none
 |_=>none
def R9:Expr->Option Expr
 |.Call (.Attribute (.Name y py) m ap) [] [] p=>if m=="items"&&ap.endLine==p.line then some (.Name y py) else none
 |_=>none
def GZ(cx:Cxt)(sc:Scope)(b:String)(args:List Expr):Wc:=match args with
 | [e]=>(match b,xP cx sc e with
  |"list",.r1 a=>.lr1 a
  |"list",.r2 a b=>.lr2 a b
  |"tuple",.rv a=>.tv a
  |"tuple",.r1 a=>.tr1 a
  |"len",.sq=>(match QL cx sc e with|some a=>.ls a|none=>.al)
  |"list",.sq=>(match R9 e with|some a=>.li a|none=>.al)
  | _,_=>.al)
 |_=>.al
def fL:String->Bool
 |"int"=>true
 |"bool"=>true
 |"tuple"=>true
 |"list"=>true
 |"str"=>true
 |_=>false
def tyOf(cx:Cxt)(sc:Scope):Expr->Option String
 |.Name x _=>bh cx sc x
 |_=>none
def xOf(cx:Cxt)(sc:Scope):Expr->Option Str
 |.Name x _=>if jB cx sc x&&(cx.exs.contains x||x==cx.top)&&au x then some x else none
 |_=>none
def cntB(b:Bool)(bs:List Bool):Nat:=(bs.filter (· ==b)).length
def jC(f:Expr->Option D):List Expr->Option Bool
 |[]=>some true
 |[c]=>(f c).bind asB
 |_=>none
def lH(m:Str):D->D->Option D
 |.lst xs,.bl b=>do
  let bs <- oJ xs
  if m=="count" then some (.int (cntB b bs)) else if m=="index"&&bs.contains b then some (.int (bs.idxOf b)) else none
 |_,_=>none
def aA:Expr->Bool
 |.Starred .. =>false
 |.Set .. =>false
 |.Slice .. =>false
 |_=>true
def QM:D->Option Expr->Option Expr->Option Int->Option D
 |_,_,_,_=>none
def cG(m:Str):D->D->Option D
 |.str z,.str y =>
  if m=="split" && !(y.length==0)&&szl z.length then some (.lst ((Txt.split z y).map .str))
  else if m=="endswith" then some (.bl (Txt.endswith z y))
  else none
 |.str z,.lst xs=>if m=="join" then(oH xs).bind λts=>if JoinOk z ts then some (.str (Txt.join z ts)) else none else none
 |_,_=>none
def CJ:Expr->Bool
 |.Name .. =>true
 |.Constant (.str _) _ _=>true
 |.Subscript .. =>true
 |_=>false
def HF(cx:Cxt)(sc:Scope):Expr->Option Expr
 |.Call (.Name y _) [a] [] _=>if bh cx sc y==some "reversed" then some a else none
 |_=>none
def ev(cx:Cxt):Nat->Scope->Rho->Expr->Option D
 |0,_,_,_=>none
 |n+1,sc,U,e=>match e with
  | .Name x _=>if au x then(match sc.names.lookup x with
    |some .local=>(match U.lookup x with|some (.sh d)=>some d|_=>none)
    |some .cell=>(match U.lookup x with|some (.sh d)=>some d|_=>none)
    |some .free=>(match U.lookup x with|some (.sh d)=>some d|_=>none)
    |some .globalImplicit=>cx.cst.lookup x
    | _=>none) else none
  | .Constant c _ _=>(match c with
    |.none=>some .non
    |.bool b=>some (.bl b)
    |.int i=>some (.int i)
    |.str x=>some (.str x)
    | _=>none)
  |.BinOp a op b _=>do let x <- ev cx n sc U a;let y <- ev cx n sc U b;binop op x y
  |.UnaryOp op a _=>do
    let x <- ev cx n sc U a
    match op with
    |.USub=>(asI x).map λi=>.int (-i)
    |.Not=>(asB x).map λb=>.bl (!b)
    |_=>none
  |.BoolOp op es _=>bU op (ev cx n sc U) es
  | .Compare a ops bs _=>(match ops,bs with
    |[op],[b]=>do let x <- ev cx n sc U a;let y <- ev cx n sc U b;cmpop op x y
    |[op,op'],[b,c]=>if !aA c then none else do
     let x <- ev cx n sc U a
     let y <- ev cx n sc U b
     let k <- (cmpop op x y).bind asB
     if k then do let z <- ev cx n sc U c;cmpop op' y z else some (.bl false)
    | _,_=>none)
  |.IfExp c a b _=>do
    let k <- (ev cx n sc U c).bind asB
    if k then ev cx n sc U a else ev cx n sc U b
  |.Tuple es _ _=>do let ds <- jw (ev cx n sc U) es;if szl ds.length then some (.tup ds) else none
  |.List es _=>do let ds <- jw (ev cx n sc U) es;if szl ds.length then some (.lst ds) else none
  |.Subscript a b _=>do
    let x <- ev cx n sc U a
    match b with
    | .Slice lo hi st _=>(match st with
     |none=>do
      let l <- (match lo with|none=>some none|some e=>(ev cx n sc U e).bind λd=>(asI d).map some)
      let h <- (match hi with|none=>some none|some e=>(ev cx n sc U e).bind λd=>(asI d).map some)
      match x with
      |.tup xs=>if jy xs.length 0 l==0&&jy xs.length xs.length h==xs.length then some (.tup xs) else some (.tup (nM xs l h))
      |.lst xs=>some (.lst (nM xs l h))
      |.str z=>if szl z.length then some (.str (tZ z l h)) else none
      |_=>none
     | some c=>QM x lo hi ((ev cx n sc U c).bind asI))
    |b=>do
     let y <- ev cx n sc U b
     Gs x y
  | .Call f args kws p=>(match f,kws with
    |.Name x _,[] =>
     if jB cx sc x then
      match cx.blt.lookup x with
      | some "isinstance"=>(match args with
       |[a,t]=>do
        let d <- ev cx n sc U a
        match xOf cx sc t with
        |some c'=>(match d with|.exc c=>if cx.exs.contains c then some (.bl (Gn cx.top c c')) else none|_=>none)
        |none=>do
         let ty <- tyOf cx sc t
         match d with
         |.exc c=>if cx.exs.contains c&&ty=="ValueError" then some (.bl true) else none
         |.dic _ _=>none
         |.obj _=>none
         |d=>if fL ty then some (.bl (jV ty d)) else none
       | _=>none)
      | some b=>(match GZ cx sc b args with
       |.lr1 a=>if true then none else none
       |.lr2 a a'=>if true then none else none
       |.tr1 a=>if true then none else none
       |.tv a=>if true then none else none
       |.ls a=>if true then none else none
       |.li _=>if true then none else none
       | .al=>if args.isEmpty then none else do let ds <- jw (ev cx n sc U) args;blt b ds)
      |none=>if cx.fns.contains x then do let ds <- jw (ev cx n sc U) args;cx.call x ds else none
     else none
    | .Name x _,[k]=>(match args with
     |[a]=>if bh cx sc x==some "max" then none else none
     | _=>none)
    | .Attribute o m ap,[]=>(match args with
     |[e]=>if CJ o&&ap.endLine==p.line then do
       let x <- ev cx n sc U o
       match HF cx sc e with
       |some a=>do
        let z <- (match x with|.str z=>some z|_=>none)
        let xs <- (ev cx n sc U a).bind KN
        let ts <- oH xs
        if m=="join"&&JoinOk z ts.reverse&&aA a then some (.str (Txt.join z ts.reverse)) else none
       |none=>do
        let z <- ev cx n sc U e
        match lH m x z with
        |some d=>some d
        |none=>cG m x z
      else none
     | _=>none)
    |.Subscript (.List es _) ix _,[]=>if true then none else none
    | _,_=>none)
  | .ListComp elt gens scope _=>(match gens with
    |[⟨tg,iter,ifs,a⟩]=>if a==0&&eY sc scope then do
      let l <- evI cx (cN tg) (ev cx n sc U) sc iter
      if szl l.length then do
       let out <- aP (λd=>do
        let U1 <- cC scope tg d (aO scope U)
        let b <- jC (ev cx n (jA scope sc) U1) ifs
        if b then(ev cx n (jA scope sc) U1 elt).map some else some none) l
       some (.lst out)
      else none
     else none
    | _=>none)
  |_=>none
def dX(f:D->Option D)(g:D->Option Str):List D->Option Str
 |[]=>none
 |d::r=>match f d with
  |some _=>dX f g r
  |none=>g d
def evx(cx:Cxt):Nat->Scope->Rho->Expr->Option Str
 |0,_,_,_=>none
 |n+1,sc,U,e=>match e with
  |.Call (.Name x _) args [] _=>if jB cx sc x && !args.isEmpty&&args.all aA&&cx.fns.contains x then
    (match jw (ev cx n sc U) args with
    |some ds=>cx.callx x ds
    | none=>none)
   else(match args with
    |[a]=>if bh cx sc x==some "tuple"&&aA a then evx cx n sc U a else none
    | _=>none)
  | .IfExp c a b _=>(match (ev cx n sc U c).bind asB with
   |some true=>evx cx n sc U a
   |some false=>evx cx n sc U b
   | none=>none)
  |.ListComp elt [⟨tg,iter,ifs,a⟩] scope _=>if a==0&&eY sc scope&&aA iter then
    (match evx cx n sc U iter with
    |some c=>some c
    |none=>if ifs.isEmpty then do
      let l <- evI cx (cN tg) (ev cx n sc U) sc iter
      if szl l.length then dX (λd=>(cC scope tg d (aO scope U)).bind λU1=>ev cx n (jA scope sc) U1 elt) (λd=>(cC scope tg d (aO scope U)).bind λU1=>evx cx n (jA scope sc) U1 elt) l else none
     else none)
   else none
  |_=>none
def dW:Nat->Str->Expr->Bool
 |0,_,_=>true
 |n+1,x,e=>match e with
  |.Name y _=>x==y
  |.Constant .. =>false
  |.BinOp a _ b _=>dW n x a||dW n x b
  |.UnaryOp _ a _=>dW n x a
  |.BoolOp _ es _=>es.any (dW n x)
  |.Compare a _ bs _=>dW n x a||bs.any (dW n x)
  |.IfExp c a b _=>dW n x c||dW n x a||dW n x b
  |.Tuple es _ _=>es.any (dW n x)
  |.List es _=>es.any (dW n x)
  |.Subscript a b _=>dW n x a||dW n x b
  |.Slice lo hi st _=>(lo.map (dW n x)).getD false||(hi.map (dW n x)).getD false||(st.map (dW n x)).getD false
  |.Call f args kws _=>dW n x f||args.any (dW n x) || !kws.isEmpty
  |.Attribute a _ _=>dW n x a
  |.ListComp elt gens _ _=>dW n x elt||gens.any λg=>dW n x g.iter||g.ifs.any (dW n x)
  |_=>true
def frz(n:Nat)(e:Expr)(U:Rho):Rho:=U.map λp=>match p.2 with
 |.ow ds=>if dW n p.1 e then(p.1,.sh (.lst ds)) else p
 |.oo dss=>if dW n p.1 e then(p.1,.sh (.lst (dss.map .lst))) else p
 |_=>p
def isL:Expr->Bool
 |.List .. =>true
 |_=>false
def bf:Expr->Bool
 |.List .. =>true
 |.ListComp .. =>true
 |_=>false
def Qv:Sl->Bool
 |.no=>true
 |.sh _=>true
 |_=>false
def KY:Sl->Bool
 |.oo _=>true
 |_=>false
def yJ(_:Rho)(_:Str):Bool:=true
def pF(U:Rho)(x:Str):Bool:=U.all λp=>p.1==x || !KY p.2
def Um(cx:Cxt)(sc:Scope):Expr->Bool
 |.Name y _=>au y&&sc.names.lookup y==some .local
 |.Call (.Name f _) _ [] _=>jB cx sc f&&(cx.blt.lookup f).isNone
 |_=>false
def Gw(cx:Cxt)(sc:Scope):Expr->Bool
 |.Call (.Name l _) [y] [] _=>bh cx sc l==some "list"&&Um cx sc y
 |_=>false
def ooE(_:Cxt)(_:Scope):Expr->Bool
 |.ListComp .. =>true
 |_=>false
def kY(e:Expr)(d:D):Sl:=match d with
 |.lst ds=>if bf e then .ow ds else .sh (.lst ds)
 |d=>.sh d
def nc0:Expr->Bool
 |.Call .. =>true
 |.Name x _=>x !="__debug__"
 |.IfExp .. =>true
 |.ListComp .. =>true
 |.Compare .. =>true
 |_=>false
def nc1:Expr->Bool
 |.Subscript v _ _=>nc0 v
 |e=>nc0 e
def nc:Expr->Bool
 |.Subscript v i _=>nc0 v||nc0 i
 |.BinOp l _ r _=>nc1 l||nc1 r
 |e=>nc0 e
def yW:Expr->Bool
 |.Constant .. =>true
 |_=>false
def swp(sc:Scope)(ts:List Expr)(value:Expr):Option Bool:=match value with
 | .Tuple vs _ _=>(match ts,vs with
  |[.Name x px,.Name y py],[a,b] =>
   if sc.names.lookup x==some .local&&sc.names.lookup y==some .local then
    (if px.line==py.line&&x !=y&&(nc a||nc b)&&aA a&&aA b then some true else if yW a&&yW b then some false else none)
   else some false
  |[.Name x _,.Name y _,.Name z _],[_,_,_]=>if sc.names.lookup x==some .cell&&sc.names.lookup y==some .cell&&sc.names.lookup z==some .cell then some false else none
  | _,_=>none)
 |_=>some false
def rdA:Expr->Bool
 |.Call (.Name _ _) [.Subscript _ _ _,.Subscript _ _ _] [] _=>true
 |_=>false
def bF(f:D->Rho->Option Fl):List D->Rho->Option Fl
 |[],U=>some (.nxt U)
 |x::r,U=>do
  match <- f x U with
  |.ret d=>some (.ret d)
  |.nxt U'=>bF f r U'
def gK(f:Rho->Stmt->Option Fl):List Stmt->Rho->Option Fl
 |[],U=>some (.nxt U)
 |s::r,U=>do
  match <- f U s with
  |.ret d=>some (.ret d)
  |.nxt U'=>gK f r U'
def Gq(c:Rho->Option (Rho×Bool))(f:Rho->Option Fl):Nat->Rho->Option Fl
 |0,_=>none
 |m+1,U=>match c U with
  |none=>none
  | some (U1,b)=>if b then(match f U1 with
   |none=>none
   |some (.ret d)=>some (.ret d)
   | some (.nxt U')=>Gq c f m U') else some (.nxt U1)
def rQ:List ExceptHandler->List Stmt->List Stmt->Option (Str×Str×Str)
 |[.ExceptHandler (some (.Name c _)) (some e) [.Assign [.Name kn _] (.Name e' _) _] _],[],[]=>if e==e' then some (c,e,kn) else none
 |_,_,_=>none
def fQ(f:Rho->Stmt->Option Fl)(g:Rho->Stmt->Option (Str×Rho)):List Stmt->Rho->Option (Str×Rho)
 |[],_=>none
 |s::r,U=>match f U s with
  |some (.nxt U')=>fQ f g r U'
  |some (.ret _)=>none
  |none=>g U s
mutual
def st(cx:Cxt)(F:Nat):Nat->Scope->Rho->Stmt->Option Fl
 |0,_,_,_=>none
 |n+1,sc,U,s=>match s with
  |.Pass _=>some (.nxt U)
  | .Return v _=>(match v with
    |none=>some (.ret .non)
    | some e=>(ev cx F sc (frz F e U) e).map .ret)
  | .Assign tgs e _=>(match tgs with
    |[.Name x _]=>if ownIn sc x&&(U.map (·.1)).contains x then
      (if ooE cx sc e&&yJ (frz F e U) x then none
      else if Gw cx sc e&&pF (frz F e U) x then none
      else if bf e && !pF (frz F e U) x then none
      else if rdA e then none
      else(ev cx F sc (frz F e U) e).map λd=>.nxt (cU (frz F e U) x (kY e d))) else none
    |[.Tuple es _ _]=>if(swp sc es e).isSome||false then do
      let d <- ev cx F sc (frz F e U) e
      let l <- tupI d
      (bindNames sc es l (frz F e U)).map .nxt
     else none
    | _=>none)
  | .Expr v _=>(match v with
    | .Call (.Attribute (.Name x _) m ap) [e] [] cp=>(match (frz F e U).lookup x with
      |some (.ow ds)=>if ownIn sc x&&au x&&ap.endLine==cp.line then
        if m=="append"&&szl (ds.length+1) then(ev cx F sc (frz F e U) e).map λd=>.nxt (cU (frz F e U) x (.ow (ds++[d])))
        else if m=="extend" then do
         let d <- ev cx F sc (frz F e U) e
         (match d with
         |.lst zs=>if szl (ds.length+zs.length) then some (.nxt (cU (frz F e U) x (.ow (ds++zs)))) else none
         |.tup zs=>if szl (ds.length+zs.length) then some (.nxt (cU (frz F e U) x (.ow (ds++zs)))) else none
         | _=>none)
        else none
       else none
      | _=>none)
    |.ListComp .. =>none
    |.Constant .. =>none
    | e=>(ev cx F sc (frz F e U) e).map λ_=>.nxt (frz F e U))
  |.If c a b _=>do
    let k <- (ev cx F sc (frz F c U) c).bind asB
    if k then gK (λU s=>st cx F n sc U s) a U else gK (λU s=>st cx F n sc U s) b U
  | .For tg iter body orelse _=>(match orelse with
    |[]=>do
     let l <- evI cx (cN tg) (ev cx F sc (frz F iter U)) sc iter
     bF (λd U=>do let U1 <- cC sc tg d U;gK (λU s=>st cx F n sc U s) body U1) l (frz F iter U)
    | _=>none)
  | .While c body orelse _=>(match orelse with
    |[]=>Gq (λU=>((ev cx F sc (frz F c U) c).bind asB).map λb=>(frz F c U,b)) (λU=>gK (λU s=>st cx F n sc U s) body U) 10000000000000000000000000000000000000000000000000000000000000000000000000000000000000000000000000000 U
    | _=>none)
  | .Try body hs orelse fin _=>(match rQ hs orelse fin with
   | some (c,e,kn)=>(match gK (λU s=>st cx F n sc U s) body U with
    |some fl=>some fl
    | none=>(match fQ (λU s=>st cx F n sc U s) (λU s=>stx {cx with rs:=false} F n sc U s) body U with
     |some (c',U')=>if jB cx sc c&&c==cx.top&&cx.exs.contains c'&&e !=kn&&au e&&sc.names.lookup e==some .local&&sc.names.lookup kn==some .local&&(U.map (·.1)).contains e&&(U.map (·.1)).contains kn&&au c then
       some (.nxt (cU (cU U' kn (.sh (.exc c'))) e .no)) else none
     | none=>none))
   | none=>none)
  |_=>none
def stx(cx:Cxt)(F:Nat):Nat->Scope->Rho->Stmt->Option (Str×Rho)
 |0,_,_,_=>none
 |n+1,sc,U,s=>match s with
  | .Raise e z _=>(match e,z with
   | some e,none=>(match e with
    | .Call f as ks _=>(match f,as,ks with
     | .Name c _,[a],[]=>(match a with
      | .Constant v _ _=>(match v with
       |.str _=>if cx.rs&&jB cx sc c&&cx.exs.contains c&&au c then some (c,U) else none
       | _=>none)
      | _=>none)
     | _,_,_=>none)
    | _=>none)
   | _,_=>none)
  |.Expr e _=>if bf e then none else(evx cx F sc (frz F e U) e).map λc=>(c,frz F e U)
  |.Assign [.Name _ _] e _=>if bf e then none else(evx cx F sc (frz F e U) e).map λc=>(c,frz F e U)
  | .If c a b _=>(match (ev cx F sc (frz F c U) c).bind asB with
    |some k=>fQ (λU s=>st cx F n sc U s) (λU s=>stx cx F n sc U s) (if k then a else b) (frz F c U)
    | none=>none)
  |_=>none
end
structure Fd where
 ps:List Str
 N:List Str
 sc:Scope
 body:List Stmt
def bN(fd:Fd)(ds:List D):Rho:=(fd.ps.zip (ds.map Sl.sh))++(fd.N.drop fd.ps.length).map λx=>(x,.no)
structure Pg where
 cst:List (Str×D)
 blt:List (Str×String)
 defs:List (Str×Fd)
 exs:List Str:=[]
 top:Str:="MinorError"
set_option genInjectivity true in
inductive Rs where
 |val (d:D)|exc (c:Str)
def Rs.val?:Option Rs->Option D
 |some (.val d)=>some d
 |_=>none
def Rs.exc?:Option Rs->Option Str
 |some (.exc c)=>some c
 |_=>none
def Pg.cx(P:Pg)(c:Str->List D->Option Rs):Cxt:=⟨P.cst,P.blt,P.defs.map (·.1),P.exs,P.top,true,λf ds=>Rs.val? (c f ds),λf ds=>Rs.exc? (c f ds)⟩
def n8(cx:Cxt)(F:Nat)(sc:Scope)(body:List Stmt)(U:Rho):Option Rs:=match gK (λU s=>st cx F F sc U s) body U with
 |some (.ret d)=>some (.val d)
 |some (.nxt _)=>some (.val .non)
 | none=>(match fQ (λU s=>st cx F F sc U s) (λU s=>stx cx F F sc U s) body U with
  |some (c,_)=>some (.exc c)
  | none=>none)
@[irreducible] def d8(P:Pg)(F:Nat):Nat->Str->List D->Option Rs
 |0,_,_=>none
 |k+1,f,ds=>match P.defs.lookup f with
  |none=>none
  |some fd=>if ds.length==fd.ps.length then n8 (P.cx (d8 P F k)) F fd.sc fd.body (bN fd ds) else none
theorem pX{P:Pg}{F:Nat}{f:Str}{ds:List D}:d8 P F 0 f ds=none:=by with_unfolding_all rfl
theorem jt{P:Pg}{F k:Nat}{f:Str}{ds:List D}:d8 P F (k+1) f ds=(match P.defs.lookup f with
  |none=>none
  | some fd=>if ds.length==fd.ps.length then n8 (P.cx (d8 P F k)) F fd.sc fd.body (bN fd ds) else none):=by with_unfolding_all rfl
@[irreducible] def aK(P:Pg)(F k:Nat)(f:Str)(ds:List D):Option D:=Rs.val? (d8 P F k f ds)
theorem gn{P:Pg}{F k:Nat}{f:Str}{ds:List D}:aK P F k f ds=Rs.val? (d8 P F k f ds):=by with_unfolding_all rfl
@[irreducible] def jD(P:Pg)(F k:Nat)(f:Str)(ds:List D):Option Str:=Rs.exc? (d8 P F k f ds)
theorem rC{P:Pg}{F k:Nat}{f:Str}{ds:List D}:jD P F k f ds=Rs.exc? (d8 P F k f ds):=by with_unfolding_all rfl
end DE
namespace L2
open PySem PySem.Spec PyProof.Rows
def KDc(K:Zf)(a:Addr)(kvs:List (Key×V)):Prop:=∃(o:Obj)(es:Array DictEntry)(n:Nat),K.lookup a=some o/\o.ExactDict/\o.data=.dict es n/\(a==sysModules)=false/\(kvs.map (·.1)).Nodup/\Paired (λ(p:Key×V)(e:DictEntry)=>(∃x t,p.1=.inr x/\e.key=.str x t)/\RelV p.2 e.val) kvs es.toList
def hsO(o:Obj):List Int:=match o.data with|.dict es _=>es.toList.map (·.hash)|_=>[]
def hsX(w:World)(o:Obj):List Int:=match o.data with|.dict es _=>es.toList.map (λe=>match e.key with|.str x _=>hashStr w x|_=>e.hash)|_=>[]
def KnW(K:Zf)(w:World):Prop:=K.map (λp=>hsO p.2)=K.map (λp=>hsX w p.2)
theorem lookup_mem{α:Type}:∀{l:List (Addr×α)}{a:Addr}{o:α},l.lookup a=some o->(a,o)∈l
 |(b,u)::r,a,o,h=>by
  rw[M2z] at h
  cases hb:a==b with
  |true =>
   rw[hb] at h
   have e1:a=b:=by simpa using hb
   cases h;subst e1;exact J1z
  |false =>
   rw[hb] at h;exact S0z _ (lookup_mem h)
theorem KnW.at{K:Zf}{w:World}{a:Addr}{o:Obj}{es:Array DictEntry}{n:Nat}(kw:KnW K w)(h:K.lookup a=some o)(hd:o.data=.dict es n):∀e∈es.toList,∀x t,e.key=.str x t->e.hash=hashStr w x:=by
 have:=List.map_inj_left.mp kw (a,o) (lookup_mem h);simp only[hsO,hsX,hd] at this;intro e he x t hk;have q:=List.map_inj_left.mp this e he;rw[hk] at q;exact q
theorem vP{P:Program}{w:World}{kvs:List (Key×V)}{es:List DictEntry}(p:Paired (λ(p:Key×V)(e:DictEntry)=>(∃x t,p.1=.inr x/\e.key=.str x t)/\RelV p.2 e.val) kvs es)(hh:∀e∈es,∀x t,e.key=.str x t->e.hash=hashStr w x) :
  ∃vs:List (Key×Value),KV kvs vs/\Pairs (bY P w) es vs/\vs.map (·.1)=kvs.map (·.1)/\∀e∈es,∃k,(bY P w).is k e.key=true/\e.hash=(bY P w).hash k:=by
 induction p with
 |nil=>exact⟨[],.nil,.nil,rfl,λe he=>nomatch he⟩
 | @cons q e kvs es h t ih =>
  obtain⟨vs,h1,h2,h3,h4⟩:=ih λe he=>hh e (S0z _ he);obtain⟨⟨x,tk,g1,g2⟩,g3⟩:=h
  have gi:(bY P w).is q.1 e.key=true:=by
   rw[g1,g2];show Value.isStrOf x (.str x tk)=true;simp[Value.isStrOf]
  refine⟨(q.1,e.val)::vs,.cons ⟨rfl,g3⟩ h1,.cons gi rfl h2,by simp[h3],λe' he=>?_⟩;rcases L4z.mp he with r|r
  .subst r
   refine⟨q.1,gi,?_⟩;rw[hh _ J1z x tk g2,g1];rfl
  .exact h4 e' r
def DAt(K:Zf)(H:Hp)(a:Addr)(kvs:List (Key×V)):Prop:=(∃o,H a=some (.frz o (.dK kvs)))\/KDc K a kvs
section
variable{X:Cx}{z0:List (Addr×Obj)}{O:St}{H:Hp}{s:Shared}{a:Addr}{kvs:List (Key×V)}{k:Key}{v d:V}{u r:Value}{A:Around}{E:Value->Shared->Prop}{o i e f:Expr}{td ty tx:TE}{pos apos cpos:Pos}
theorem rm(I:Inv X z0 O H s)(kw:KnW X.K X.w)(g:DAt X.K H a kvs):(a==sysModules)=false/\∃vs,KV kvs vs/\s.heap.DictOf (bY X.prog X.w) a vs:=by
 rcases g with⟨o,g⟩|⟨o,es,n,h1,h2,h3,h4,h5,h6⟩
 .exact(I.hok a _ g).2.2
 .obtain⟨vs,g1,g2,g3,g4⟩:=vP (P:=X.prog) h6 (kw.at h1 h3)
  exact⟨h4,vs,g1,o,es,n,I.kIn a o h1,h2,h3,λe he=>g4 e (by simpa using he),g2,by rw[g3];exact h5⟩
theorem vQ{Q:Value->Shared->Prop}(I:Inv X z0 O H s)(kw:KnW X.K X.w)(g:DAt X.K H a kvs)(l:some v=qt kvs k)(ry:RelV (kV k) u)(h:∀w' s',Inv X z0 O H s'->RelV v w'->Q w' s') :
  s.TypeIs (.ref a) "dict"/\wpAny (model X.prog X.w) A (getItem (.ref a) u) Q E s:=by
 obtain⟨hd,vs,rel,dd⟩:=rm I kw g;obtain⟨w',hw,rw'⟩:=Bv.some_of (v:=v) (o:=valueAt vs k) (by rw[l];exact rel.val k);exact⟨dd.typeIs,wpAny_getItem_of (Ek ry) dd.mapOf hw (h w' _ (I.tok _) rw')⟩
def Lr(K:Zf)(td ty:TE):TE:=λO H Q=>td O H λx H1=>ty O H1 λy H2=>∃a v kvs k,x=.ref a/\DAt K H2 a kvs/\y=kV k/\some v=qt kvs k/\Q v H2
theorem Dm(kw:KnW X.K X.w)(ho:PE X o td)(hi:PE X i ty)(hs:Sy i):PE X (.Subscript o i pos) (Lr X.K td ty):=by
 intro z0 s O H Q I h;refine Ce PySem.F.slot_dict_getitem.lookup hs (thn (ho z0 s O H _ I h) λu s1 ⟨x,H1,I1,rx,q1⟩=>thn (hi z0 s1 O H1 _ I1 q1) λiv s2 ⟨y,H2,I2,ry,a,v,kvs,k,ex,g,ey,l,q2⟩=>?_);subst ex;subst ey;obtain rfl:u=Value.ref a:=rx;exact vQ I2 kw g l ry λw' s3 I3 rw'=>⟨v,H2,I3,rw',q2⟩
end
end L2
namespace L2
open PySem PySem.Spec PyProof.Rows DE PySem.SeqAt
theorem Same.tup{K:Zf}{H H':Hp}{a:Addr}{xs:List V}(e:Same H H')(h:SqT K H a xs):SqT K H' a xs:=by
 rcases h with(h|⟨o,h⟩)|h
 .exact .inl (.inl (e _ _ h))
 .exact .inl (.inr ⟨o,e _ _ h⟩)
 .exact .inr h
mutual
def Rep(K:Zf)(H:Hp):D->V->Prop
 |.non,v=>v=.non
 |.bl b,v=>v=.bl b
 |.int i,v=>v=.int i
 |.str x,v=>v=.str x
 |.tup ds,v=>∃a vs,v=.ref a/\SqT K H a vs/\aJ K H ds vs
 |.lst ds,v=>∃a vs,v=.ref a/\SqL K H a vs/\aJ K H ds vs
 |.obj a,v=>v=.ref a
 |.exc c,v=>∃a C,v=.ref a/\W.nsIn K mainGlobals c=some (some (.ref C))/\H a=some (.ext (isX a (.ref C)))
 |.dic ks ds,v=>∃(a:Addr)(kvs:List (Key×V)),v=.ref a/\DAt K H a kvs/\kvs.map (·.1)=ks/\aJ K H ds (kvs.map (·.2))
def aJ(K:Zf)(H:Hp):List D->List V->Prop
 |[],vs=>vs=[]
 |d::ds,vs=>∃v r,vs=v::r/\Rep K H d v/\aJ K H ds r
end
mutual
theorem Rep.same{K:Zf}{H H':Hp}(e:Same H H'):∀(d:D)(v:V),Rep K H d v->Rep K H' d v
 |.non,v,h=>by simpa[Rep] using h
 |.bl b,v,h=>by simpa[Rep] using h
 |.int i,v,h=>by simpa[Rep] using h
 |.str x,v,h=>by simpa[Rep] using h
 |.tup ds,v,h=>by
  simp only[Rep] at h ⊢;obtain⟨a,vs,h1,h2,h3⟩:=h;exact⟨a,vs,h1,e.tup h2,aJ.same e ds vs h3⟩
 |.lst ds,v,h=>by
  simp only[Rep] at h ⊢;obtain⟨a,vs,h1,h2,h3⟩:=h;exact⟨a,vs,h1,e.seq h2,aJ.same e ds vs h3⟩
 |.obj a,v,h=>by simpa[Rep] using h
 |.exc c,v,h=>by
  simp only[Rep] at h ⊢;obtain⟨a,C,h1,h2,h3⟩:=h;exact⟨a,C,h1,h2,e _ _ h3⟩
 |.dic ks ds,v,h=>by
  simp only[Rep] at h ⊢;obtain⟨a,kvs,h1,h2,h3,h4⟩:=h;refine⟨a,kvs,h1,?_,h3,aJ.same e ds _ h4⟩;rcases h2 with⟨o,h2⟩|h2
  .exact .inl ⟨o,e _ _ h2⟩
  .exact .inr h2
theorem aJ.same{K:Zf}{H H':Hp}(e:Same H H'):∀(ds:List D)(vs:List V),aJ K H ds vs->aJ K H' ds vs
 |[],vs,h=>by simpa[aJ] using h
 |d::ds,vs,h=>by
  simp only[aJ] at h ⊢;obtain⟨v,r,h1,h2,h3⟩:=h;exact⟨v,r,h1,Rep.same e d v h2,aJ.same e ds r h3⟩
end
theorem aJ.length{K:Zf}{H:Hp}:∀{ds:List D}{vs:List V},aJ K H ds vs->ds.length=vs.length
 |[],vs,h=>by simp only[aJ] at h;subst h;rfl
 |d::ds,vs,h=>by
  simp only[aJ] at h;obtain⟨v,r,rfl,_,h3⟩:=h;simp[h3.length]
theorem aJ.nil{K:Zf}{H:Hp}:aJ K H [] []:=by simp[aJ]
theorem aJ.cons{K:Zf}{H:Hp}{d:D}{ds:List D}{v:V}{vs:List V}(h:Rep K H d v)(r:aJ K H ds vs):aJ K H (d::ds) (v::vs):=by
 simp only[aJ];exact⟨v,vs,rfl,h,r⟩
theorem aJ.append{K:Zf}{H:Hp}:∀{ds es:List D}{vs us:List V},aJ K H ds vs->aJ K H es us->aJ K H (ds++es) (vs++us)
 |[],es,vs,us,h,h'=>by simp only[aJ] at h;subst h;exact h'
 |d::ds,es,vs,us,h,h'=>by
  simp only[aJ] at h;obtain⟨v,r,rfl,h2,h3⟩:=h;exact .cons h2 (h3.append h')
theorem aJ.get{K:Zf}{H:Hp}:∀{ds:List D}{vs:List V}{i:Nat}{d:D},aJ K H ds vs->ds[i]?=some d->∃v,vs[i]?=some v/\Rep K H d v
 |[],vs,i,d,_,e=>by simp at e
 |d'::ds,vs,0,d,h,e=>by
  simp only[aJ] at h;obtain⟨v,r,rfl,h2,h3⟩:=h;simp at e;subst e;exact⟨v,rfl,h2⟩
 |d'::ds,vs,i+1,d,h,e=>by
  simp only[aJ] at h;obtain⟨v,r,rfl,h2,h3⟩:=h;obtain⟨u,e1,e2⟩:=h3.get (i:=i) (d:=d) (by simpa using e);exact⟨u,by simpa using e1,e2⟩
theorem aJ.take{K:Zf}{H:Hp}:∀(n:Nat){ds:List D}{vs:List V},aJ K H ds vs->aJ K H (ds.take n) (vs.take n)
 |0,_,_,_=>by simpa using aJ.nil
 |n+1,[],vs,h=>by simp only[aJ] at h;subst h;simpa using aJ.nil
 |n+1,d::ds,vs,h=>by
  simp only[aJ] at h;obtain⟨v,r,rfl,h2,h3⟩:=h;simpa using aJ.cons h2 (h3.take n)
theorem aJ.drop{K:Zf}{H:Hp}:∀(n:Nat){ds:List D}{vs:List V},aJ K H ds vs->aJ K H (ds.drop n) (vs.drop n)
 |0,_,_,h=>by simpa using h
 |n+1,[],vs,h=>by simp only[aJ] at h;subst h;simpa using aJ.nil
 |n+1,d::ds,vs,h=>by
  simp only[aJ] at h;obtain⟨v,r,rfl,h2,h3⟩:=h;simpa using h3.drop n
theorem aJ.reverse{K:Zf}{H:Hp}:∀{ds:List D}{vs:List V},aJ K H ds vs->aJ K H ds.reverse vs.reverse
 |[],vs,h=>by simp only[aJ] at h;subst h;simpa using aJ.nil
 |d::ds,vs,h=>by
  simp only[aJ] at h;obtain⟨v,r,rfl,h2,h3⟩:=h;simpa using h3.reverse.append (.cons h2 .nil)
structure Ext(Hs H Hs' H':Hp):Prop where
 vis:Same Hs Hs'
 all:Same H H'
 sub:Same Hs' H'
 hid:∀b o,H b=some o->Hs b=none->Hs' b=none
theorem Ext.refl{Hs H:Hp}(h:Same Hs H):Ext Hs H Hs H:=⟨.refl _,.refl _,h,λ_ _ _ h=>h⟩
theorem Ext.trans{Hs H Hs1 H1 Hs2 H2:Hp}(a:Ext Hs H Hs1 H1)(b:Ext Hs1 H1 Hs2 H2):Ext Hs H Hs2 H2 :=
 ⟨a.vis.trans b.vis,a.all.trans b.all,b.sub,λc o h1 h2=>b.hid c o (a.all c o h1) (a.hid c o h1 h2)⟩
theorem Ext.new{Hs H:Hp}(h:Same Hs H){p:Addr}(o:HO)(hp:H p=none):Ext Hs H (upd Hs p o) (upd H p o) where
 vis:=λb u e=>by rw[aG (ao (h b u e) hp)];exact e
 all:=λb u e=>by rw[aG (ao e hp)];exact e
 sub:=λb u e=>by
  by_cases hb:b=p
  .subst hb;rw[aV] at e ⊢;exact e
  .rw[aG hb] at e ⊢;exact h b u e
 hid:=λb u e n=>by rw[aG (ao e hp)];exact n
theorem isT{X:Cx}{z0:List (Addr×Obj)}{O:St}{H:Hp}{s:Shared}{a:Addr}{vs:List V}(I:Inv X z0 O H s)(h:SqT X.K H a vs):∃its:List Value,Vals vs its/\s.heap.IsTuple a its.toArray:=by
 obtain⟨its,r,p,_⟩:=I.tuple h;exact⟨its,r,p⟩
theorem isL{X:Cx}{z0:List (Addr×Obj)}{O:St}{H:Hp}{s:Shared}{a:Addr}{vs:List V}(I:Inv X z0 O H s)(h:SqL X.K H a vs):∃its:List Value,Vals vs its/\s.heap.IsList a its.toArray:=by
 obtain⟨its,r,p,_⟩:=I.list h;exact⟨its,r,p.isList⟩
mutual
theorem lN:∀d:D,dep d<1000->deq d d=true
 |.non,_=>rfl
 |.bl b,_=>by simp[deq]
 |.int i,_=>by simp[deq]
 |.str x,_=>by simp[deq]
 |.tup xs,h=>by simp only[deq];exact ji xs (by simp only[dep] at h;omega)
 |.lst xs,h=>by simp only[deq];exact ji xs (by simp only[dep] at h;omega)
 |.exc c,h=>absurd h (by simp[dep])
 |.dic _ _,h=>absurd h (by simp[dep])
 |.obj _,h=>absurd h (by simp[dep])
theorem ji:∀ds:List D,deps ds<1000->nJ ds ds=true
 |[],_=>rfl
 |d::ds,h=>by
  simp only[deps] at h;simp only[nJ,lN d (by omega),ji ds (by omega),J4z]
end
theorem qZ:∀{xs ys:List D}{e:Nat->Bool},(∀(j:Nat)(x y:D),xs[j]?=some x->ys[j]?=some y->e j=deq x y)->((List.range (min xs.length ys.length)).all e&&xs.length==ys.length)=nJ xs ys
 |[],[],_,_=>rfl
 |[],y::ys,_,_=>by simp[nJ]
 |x::xs,[],_,_=>by simp[nJ]
 |x::xs,y::ys,e,h=>by
  have ih:=qZ (xs:=xs) (ys:=ys) (e:=λj=>e (j+1)) λj a b e1 e2=>h (j+1) a b (by simpa using e1) (by simpa using e2);have h0:=h 0 x y rfl rfl;simp only[nJ,<- ih,<- h0,Q2z];rw[show min (xs.length+1) (ys.length+1)=min xs.length ys.length+1 by omega,List.range_succ_eq_map,K4z,List.all_map];rw[Bool.and_assoc];congr 1;congr 1;simp
section
variable{X:Cx}{z0:List (Addr×Obj)}{O:St}{H:Hp}{s:Shared}
mutual
theorem Rep.inj(I:Inv X z0 O H s):∀(d d':D)(v:V),dep d<1000->dep d'<1000->Rep X.K H d v->Rep X.K H d' v->d=d'
 |.non,d',v,z,z',h,h'=>by simp only[Rep] at h;subst h;cases d'<;>simp[Rep] at h' ⊢
 |.bl b,d',v,z,z',h,h'=>by simp only[Rep] at h;subst h;cases d'<;>simp[Rep] at h' ⊢;exact h'
 |.int b,d',v,z,z',h,h'=>by simp only[Rep] at h;subst h;cases d'<;>simp[Rep] at h' ⊢;exact h'
 |.str b,d',v,z,z',h,h'=>by simp only[Rep] at h;subst h;cases d'<;>simp[Rep] at h' ⊢;exact h'
 |.tup ds,d',v,z,z',h,h'=>by
  simp only[Rep] at h;obtain⟨a,vs,rfl,h2,h3⟩:=h
  cases d' with
  |tup es =>
   simp only[Rep] at h';obtain⟨a',vs',e,h2',h3'⟩:=h';cases e;have:=I.tuple_inj h2 h2';subst this;rw[aJ.inj I ds es vs (by simp only[dep] at z;omega) (by simp only[dep] at z';omega) h3 h3']
  |lst es =>
   simp only[Rep] at h';obtain⟨a',vs',e,h2',h3'⟩:=h';cases e;obtain⟨i1,_,p1⟩:=isT I h2;obtain⟨i2,_,p2⟩:=isL I h2';exact absurd rfl (ne_of_list_tuple p2 p1)
  |non=>simp[Rep] at h'
  |bl _=>simp[Rep] at h'
  |int _=>simp[Rep] at h'
  |str _=>simp[Rep] at h'
  |exc _=>exact absurd z' (by simp[dep])
  |dic _ _=>exact absurd z' (by simp[dep])
  |obj _=>exact absurd z' (by simp[dep])
 |.lst ds,d',v,z,z',h,h'=>by
  simp only[Rep] at h;obtain⟨a,vs,rfl,h2,h3⟩:=h
  cases d' with
  |lst es =>
   simp only[Rep] at h';obtain⟨a',vs',e,h2',h3'⟩:=h';cases e;have:=I.list_inj h2 h2';subst this;rw[aJ.inj I ds es vs (by simp only[dep] at z;omega) (by simp only[dep] at z';omega) h3 h3']
  |tup es =>
   simp only[Rep] at h';obtain⟨a',vs',e,h2',h3'⟩:=h';cases e;obtain⟨i1,_,p1⟩:=isL I h2;obtain⟨i2,_,p2⟩:=isT I h2';exact absurd rfl (ne_of_list_tuple p1 p2)
  |non=>simp[Rep] at h'
  |bl _=>simp[Rep] at h'
  |int _=>simp[Rep] at h'
  |str _=>simp[Rep] at h'
  |exc _=>exact absurd z' (by simp[dep])
  |dic _ _=>exact absurd z' (by simp[dep])
  |obj _=>exact absurd z' (by simp[dep])
 |.exc c,d',v,z,z',h,h'=>absurd z (by simp[dep])
 |.dic _ _,d',v,z,z',h,h'=>absurd z (by simp[dep])
 |.obj _,d',v,z,z',h,h'=>absurd z (by simp[dep])
theorem aJ.inj(I:Inv X z0 O H s):∀(ds es:List D)(vs:List V),deps ds<1000->deps es<1000->aJ X.K H ds vs->aJ X.K H es vs->ds=es
 |[],es,vs,z,z',h,h'=>by
  simp only[aJ] at h;subst h
  cases es with
  |nil=>rfl
  |cons e es=>simp[aJ] at h'
 |d::ds,es,vs,z,z',h,h'=>by
  simp only[aJ] at h;obtain⟨v,r,rfl,h2,h3⟩:=h
  cases es with
  |nil=>simp[aJ] at h'
  |cons e es =>
   simp only[aJ] at h';obtain⟨v',r',e',h2',h3'⟩:=h';cases e';simp only[deps] at z z';rw[Rep.inj I d e v (by omega) (by omega) h2 h2',aJ.inj I ds es r (by omega) (by omega) h3 h3']
end
def eJ(ds es:List D)(j:Nat):Bool:=match ds[j]?,es[j]? with
 |some x,some y=>deq x y
 |_,_=>true
theorem wF(ds es:List D):((List.range (min ds.length es.length)).all (eJ ds es)&&ds.length==es.length)=nJ ds es :=
 qZ λj x y e1 e2=>by unfold eJ;rw[e1,e2]
theorem wD(ds es:List D)(h:ds.length=es.length):(List.range ds.length).all (eJ ds es)=nJ ds es:=by
 rw[<- wF ds es,<- h];simp
theorem lM:∀{xs ys:List D},xs.length≠ys.length->nJ xs ys=false
 |[],[],h=>absurd rfl h
 |[],_::_,_=>rfl
 |_::_,[],_=>rfl
 |x::xs,y::ys,h=>by
  simp only[nJ,lM (xs:=xs) (ys:=ys) (by intro e;exact h (by simp[e])),B4z]
theorem gR{A:Around}:A.in1.units=A.units+1:=rfl
mutual
theorem Fz(I:Inv X z0 O H s):∀(d d':D)(v v':V)(u u':Value)(A:Around),Rep X.K H d v->Rep X.K H d' v'->RelV v u->RelV v' u'->A.units+dep d<cLine->dep d<1000->dep d'<1000->eG d d'=true->EqAt A s u u' (deq d d')
 |.non,d',v,v',u,u',A,h,h',r,r',hu,z,z',kk=>by cases d'<;>simp[eG] at kk
 |.bl c,d',v,v',u,u',A,h,h',r,r',hu,z,z',kk=>by
  simp only[Rep] at h;subst h;cases (show u=Value.bool c from r)
  have hu0:A.units<cLine:=S1z (P2z _ _) hu
  cases d' with
  |bl b=>simp only[Rep] at h';subst h';cases (show u'=Value.bool b from r');exact EqAt.bool_bool c b
  |_=>simp[eG] at kk
 |.int c,d',v,v',u,u',A,h,h',r,r',hu,z,z',kk=>by
  simp only[Rep] at h;subst h;obtain⟨t0,rfl⟩:=r
  have hu0:A.units<cLine:=S1z (P2z _ _) hu
  cases d' with
  |int i=>simp only[Rep] at h';subst h';obtain⟨t,rfl⟩:=r';exact EqAt.int_int c t0 i t
  |_=>simp[eG] at kk
 |.str c,d',v,v',u,u',A,h,h',r,r',hu,z,z',kk=>by
  simp only[Rep] at h;subst h;obtain⟨t0,rfl⟩:=r
  have hu0:A.units<cLine:=S1z (P2z _ _) hu
  cases d' with
  |str x=>simp only[Rep] at h';subst h';obtain⟨t,rfl⟩:=r';exact EqAt.str_str c t0 x t
  |_=>simp[eG] at kk
 |.tup ds,d',v,v',u,u',A,h,h',r,r',hu,z,z',kk=>by
  have hh:=h;simp only[Rep] at h;obtain⟨a,vs,rfl,h2,h3⟩:=h;cases (show u=Value.ref a from r);obtain⟨its,rv,p⟩:=isT I h2;have hu0:A.units<cLine:=S1z (P2z _ _) hu
  have hu1:A.in1.units+deps ds<cLine:=by have:dep (.tup ds)=deps ds+1:=rfl;rw[gR];omega
  cases d' with
  |str x=>simp only[Rep] at h';subst h';obtain⟨t,rfl⟩:=r';exact EqAt.tuple_str x t p hu0
  |tup es =>
   have hh':=h';simp only[Rep] at h';obtain⟨b,us,rfl,h2',h3'⟩:=h';cases (show u'=Value.ref b from r');obtain⟨its',rv',p'⟩:=isT I h2'
   by_cases hab:a=b
   .subst hab
    have:=Rep.inj I _ _ _ z z' hh hh';rw[<- this,lN _ z];exact EqAt.same _
   .have q:=RcAt.tuples p p' hu0 (e:=eJ ds es) λj g1 g2=>gj I ds es vs us its its' A.in1 h3 h3' rv rv' hu1 (by simp only[dep] at z;omega) (by simp only[dep] at z';omega) kk j _ _ (by simp at g1 ⊢) (by simp at g2 ⊢)
    have l1:=h3.length;have l2:=rv.length;have l3:=h3'.length;have l4:=rv'.length
    rw[X1z,X1z,<- l2,<- l1,<- l4,<- l3,wF] at q;exact .of_refs hab q
  |_=>simp[eG] at kk
 |.lst ds,d',v,v',u,u',A,h,h',r,r',hu,z,z',kk=>by
  have hh:=h;simp only[Rep] at h;obtain⟨a,vs,rfl,h2,h3⟩:=h;cases (show u=Value.ref a from r);obtain⟨its,rv,p⟩:=isL I h2;have hu0:A.units<cLine:=S1z (P2z _ _) hu
  have hu1:A.in1.units+deps ds<cLine:=by have:dep (.lst ds)=deps ds+1:=rfl;rw[gR];omega
  cases d' with
  |lst es =>
   have hh':=h';simp only[Rep] at h';obtain⟨b,us,rfl,h2',h3'⟩:=h';cases (show u'=Value.ref b from r');obtain⟨its',rv',p'⟩:=isL I h2';have l1:=h3.length;have l2:=rv.length;have l3:=h3'.length;have l4:=rv'.length
   by_cases hab:a=b
   .subst hab
    have:=Rep.inj I _ _ _ z z' hh hh';rw[<- this,lN _ z];exact EqAt.same _
   .by_cases hl:ds.length=es.length
    .have q:=RcAt.lists p p' (by simp;omega) hu0 (e:=eJ ds es) λj g1 g2=>gj I ds es vs us its its' A.in1 h3 h3' rv rv' hu1 (by simp only[dep] at z;omega) (by simp only[dep] at z';omega) kk j _ _ (by simp at g1 ⊢) (by simp at g2 ⊢)
     rw[X1z,<- l2,<- l1,wD _ _ hl] at q;exact .of_refs hab q
    .have q:=RcAt.lists_lengths p p' (by simp;omega) hu0
     rw[show deq (.lst ds) (.lst es)=nJ ds es from rfl,lM hl];exact .of_refs hab q
  |_=>simp[eG] at kk
 |.exc c,d',v,v',u,u',A,h,h',r,r',hu,z,z',kk=>by cases d'<;>simp[eG] at kk
 |.dic _ _,d',v,v',u,u',A,h,h',r,r',hu,z,z',kk=>by cases d'<;>simp[eG] at kk
 |.obj _,d',v,v',u,u',A,h,h',r,r',hu,z,z',kk=>by cases d'<;>simp[eG] at kk
theorem gj(I:Inv X z0 O H s):∀(ds es:List D)(vs us:List V)(its its':List Value)(A:Around),aJ X.K H ds vs->aJ X.K H es us->Vals vs its->Vals us its'->A.units+deps ds<cLine->deps ds<1000->deps es<1000->jq ds es=true ->
  ∀(j:Nat)(u u':Value),its[j]?=some u->its'[j]?=some u'->EqAt A s u u' (eJ ds es j)
 |[],es,vs,us,its,its',A,h,h',r,r',hu,z,z',kk,j,u,u',e1,e2=>by
  simp only[aJ] at h;subst h;cases r;simp at e1
 |d::ds,es,vs,us,its,its',A,h,h',r,r',hu,z,z',kk,j,u,u',e1,e2=>by
  simp only[aJ] at h;obtain⟨v,vr,rfl,h2,h3⟩:=h
  cases r with
  |cons r rr =>
   cases es with
   |nil=>simp only[aJ] at h';subst h';cases r';simp at e2
   |cons e es =>
    simp only[aJ] at h';obtain⟨v',vr',rfl,h2',h3'⟩:=h'
    cases r' with
    |cons r' rr' =>
     rw[jq,L2z] at kk;have hd:dep d<=deps (d::ds):=Nat.le_max_left _ _;have hds:deps ds<=deps (d::ds):=Nat.le_max_right _ _
     cases j with
     |zero =>
      simp at e1 e2;subst e1 e2
      exact Fz I d e v v' _ _ A h2 h2' r r' (by omega) (by simp only[deps] at z;omega) (by simp only[deps] at z';omega) kk.1
     |succ j =>
      have q:=gj I ds es vr vr' _ _ A h3 h3' rr rr' (by omega) (by simp only[deps] at z;omega) (by simp only[deps] at z';omega) kk.2 j u u' (by simpa using e1) (by simpa using e2)
      simpa[eJ] using q
end
theorem rz(I:Inv X z0 O H s){d d':D}{v v':V}{u u':Value}(A:Around)(h:Rep X.K H d v)(h':Rep X.K H d' v')(r:RelV v u)(r':RelV v' u')(hu:A.units+dep d<cLine)(z:dep d<1000)(z':dep d'<1000)(kk:eG d d'=true):RcAt A s u u' (deq d d')/\RcNeAt A s u u' (!deq d d'):=by
 have hu0:A.units<cLine:=S1z (P2z _ _) hu
 cases d with
 |bl c =>
  simp only[Rep] at h;subst h;cases (show u=Value.bool c from r)
  cases d' with
  |bl b=>simp only[Rep] at h';subst h';cases (show u'=Value.bool b from r');exact⟨RcAt.bool_bool c b,RcNeAt.bool_bool c b⟩
  |_=>simp[eG] at kk
 |int c =>
  simp only[Rep] at h;subst h;obtain⟨t0,rfl⟩:=r
  cases d' with
  |int i=>simp only[Rep] at h';subst h';obtain⟨t,rfl⟩:=r';exact⟨RcAt.int_int c t0 i t,RcNeAt.int_int c t0 i t⟩
  |_=>simp[eG] at kk
 |str c =>
  simp only[Rep] at h;subst h;obtain⟨t0,rfl⟩:=r
  cases d' with
  |str x=>simp only[Rep] at h';subst h';obtain⟨t,rfl⟩:=r';exact⟨RcAt.str_str c t0 x t,RcNeAt.str_str c t0 x t⟩
  |_=>simp[eG] at kk
 |tup ds =>
  simp only[Rep] at h;obtain⟨a,vs,rfl,h2,h3⟩:=h;cases (show u=Value.ref a from r);obtain⟨its,rv,p⟩:=isT I h2
  have hu1:A.in1.units+deps ds<cLine:=by have:dep (.tup ds)=deps ds+1:=rfl;rw[gR];omega
  cases d' with
  |str x=>simp only[Rep] at h';subst h';obtain⟨t,rfl⟩:=r';exact⟨RcAt.tuple_str x t p hu0,RcNeAt.tuple_str x t p hu0⟩
  |tup es =>
   simp only[Rep] at h';obtain⟨b,us,rfl,h2',h3'⟩:=h';cases (show u'=Value.ref b from r');obtain⟨its',rv',p'⟩:=isT I h2'
   have l1:=h3.length;have l2:=rv.length;have l3:=h3'.length;have l4:=rv'.length
   have he:∀j (g1:j<its.toArray.size) (g2:j<its'.toArray.size),EqAt A.in1 s its.toArray[j] its'.toArray[j] (eJ ds es j):=λj g1 g2=>gj I ds es vs us its its' A.in1 h3 h3' rv rv' hu1 (by simp only[dep] at z;omega) (by simp only[dep] at z';omega) kk j _ _ (by simp at g1 ⊢) (by simp at g2 ⊢)
   have q:=RcAt.tuples p p' hu0 he;have q':=RcNeAt.tuples p p' hu0 he;rw[X1z,X1z,<- l2,<- l1,<- l4,<- l3,wF] at q q';exact⟨q,q'⟩
  |_=>simp[eG] at kk
 |lst ds =>
  simp only[Rep] at h;obtain⟨a,vs,rfl,h2,h3⟩:=h;cases (show u=Value.ref a from r);obtain⟨its,rv,p⟩:=isL I h2
  have hu1:A.in1.units+deps ds<cLine:=by have:dep (.lst ds)=deps ds+1:=rfl;rw[gR];omega
  cases d' with
  |lst es =>
   simp only[Rep] at h';obtain⟨b,us,rfl,h2',h3'⟩:=h';cases (show u'=Value.ref b from r');obtain⟨its',rv',p'⟩:=isL I h2'
   have l1:=h3.length;have l2:=rv.length;have l3:=h3'.length;have l4:=rv'.length
   by_cases hl:ds.length=es.length
   .have he:∀j (g1:j<its.toArray.size) (g2:j<its'.toArray.size),EqAt A.in1 s its.toArray[j] its'.toArray[j] (eJ ds es j):=λj g1 g2=>gj I ds es vs us its its' A.in1 h3 h3' rv rv' hu1 (by simp only[dep] at z;omega) (by simp only[dep] at z';omega) kk j _ _ (by simp at g1 ⊢) (by simp at g2 ⊢)
    have q:=RcAt.lists p p' (by simp;omega) hu0 he
    have q':=RcNeAt.lists p p' (by simp;omega) hu0 he
    rw[X1z,<- l2,<- l1,wD _ _ hl] at q q';exact⟨q,q'⟩
   .rw[show deq (.lst ds) (.lst es)=nJ ds es from rfl,lM hl]
    exact⟨RcAt.lists_lengths p p' (by simp;omega) hu0,RcNeAt.lists_lengths p p' (by simp;omega) hu0⟩
  |_=>simp[eG] at kk
 |_=>cases d'<;>simp[eG] at kk
end
end L2
namespace L2
open PySem PySem.Spec PyProof.Rows
end L2
namespace L2
open PySem PySem.Spec PyProof.Rows PySem.SeqAt
section
variable{X:Cx}
def Mt(K:Zf):R2:=λx y H Q=>∃l b us zs,x=.ref l/\y=.ref b/\SqL K H l us/\SqL K H b zs/\us.length+zs.length<=sizeLine/\∀p,H p=none->Q (.ref p) (upd H p (.lst (us++zs)))
theorem Dy:OpR X (binaryOp .Add) (Mt X.K):=by
 intro z0 s O H x y v u Q I rx ry h;obtain⟨l,b,us,zs,rfl,rfl,hH,hB,hz,q⟩:=h;cases (show v=Value.ref l from rx);cases (show u=Value.ref b from ry);obtain⟨its,r,pl,z1⟩:=I.list hH;obtain⟨its2,r2,pl2,z2⟩:=I.list hB;have e1:=r.length;have e2:=r2.length;obtain⟨⟨c1,d1,w1,t1⟩,n1,o1,hc1,hd1,hs1⟩:=pl;obtain⟨⟨c2,d2,w2,t2⟩,n2,o2,hc2,hd2,hs2⟩:=pl2;simp only at hc1 hs1 hc2 hs2;subst hc1 hs1 hc2 hs2;refine concat_meets ⟨_,o1,rfl⟩ ⟨_,o2,rfl⟩ noFill_list_add seq_list_add PySem.F.slot_list_add PySem.F.entry_list_add (PySem.F.args_list_add_2 _ _) (list_addW l b its.toArray its2.toArray n1 n2 d1 d2 t1 t2 (by rw[X1z,X1z];omega)) ⟨o1,o2,?_⟩;rw[show its.toArray++its2.toArray=(its++its2).toArray by simp];exact⟨.ref _,_,I.lnew (t':=s.toks) (r.append r2) (by rw[N1z];omega),rfl,q _ I.fresh⟩
end
section
variable{X:Cx}
end
section
variable{prog:Program}{w:World}{A:Around}{E:Value->Shared->Prop}{s:Shared}
end
section
variable{X:Cx}
end
end L2
namespace HT
open PySem PySem.Spec PyProof.Rows PySem.SeqAt L2
section
variable{prog:Program}{w:World}{A:Around}{E:Value->Shared->Prop}{s:Shared}
theorem fO{t sl:Addr}{items:Array Value}{vl vu:Value}{lo hi:Option Int}{Q:Value->Shared->Prop}(ht:IsTup s.heap t items)(hs:s.heap.IsSliceOf sl vl vu .none)(pl:IsPart vl lo)(pu:IsPart vu hi)
  (hw:sIx items.size 0 lo=0/\sIx items.size items.size hi=items.size) (h:Q (.ref t) s):wpAny (model prog w) A (getItem (.ref t) (.ref sl)) Q E s:=by
 obtain⟨os,hos,hcs,hds⟩:=id hs;have hTs:s.TypeIs (.ref sl) "slice":=⟨os,hos,hcs⟩;unfold getItem
 try with_reducible refine F4z ?_
 first|refine C5z (D5z ?_)|skip
 refine C5z (wpAny_sequenceKey ht.typeIs (by decide) ?_)
 refine C5z (wpAny_callSpecial?_slot (name:=Str.ofString "__getitem__") ht.typeIs A0z
  (K2z A0z ht.typeIs entry_tuple_getitem ?_ (args_tuple_getitem _ _)))
 show wpAny _ _ (Builtin.Tuple.tupleItemsOf (.ref t) >>=_) _ _ s;refine C5z (tupleItemsOf_ ht ?_);refine C5z (V4z hTs ?_);rw[P5z (by decide)];refine C5z (dZ hs pl pu ?_)
 have hyes:(((sIx items.size 0 lo:Nat):Int)==0&&(1:Int)==1&&(sIx items.size items.size hi-sIx items.size 0 lo)==items.size)=true:=by
  rw[hw.1,hw.2];simp
 show wpAny _ _ (if(((sIx items.size 0 lo:Nat):Int)==0&&(1:Int)==1&&(sIx items.size items.size hi-sIx items.size 0 lo)==items.size)=true then _ else _) _ _ s;rw[P5z hyes];refine C5z (C5z (V4z ht.typeIs (D5z ?_)));rw[P5z (by decide)]
 first
  |exact C5z (E5z (C5z (D5z (D5z ⟨_,rfl,D5z h⟩))))
  |exact C5z (E5z (C5z (D5z ⟨_,rfl,D5z h⟩)))
  |exact C5z (E5z (D5z ⟨_,rfl,D5z h⟩))
end
end HT
namespace L2
open PySem PyProof.Rows
section
variable{X:Cx}
def Tq(K:Zf):V->Option Int->Option Int->Hp->VK->Prop:=λx lo hi H Q=>∃a xs,x=.ref a/\SqT K H a xs /\
 (HT.sIx xs.length 0 lo=0/\HT.sIx xs.length xs.length hi=xs.length)/\Q (.ref a) H
theorem Cm:SlR X (Tq X.K):=by
 intro z0 s O H x v vl vu lo hi sl Q I rx hs pl pu h;obtain⟨a,xs,rfl,hx,hw,q⟩:=h;cases rx;obtain⟨its,r,ht,hz⟩:=I.tuple hx
 have hlen:its.toArray.size=xs.length:=by rw[X1z];exact r.length.symm
 refine⟨"tuple",_,A0z.lookup,ht.typeIs,?_⟩;exact HT.fO ht hs pl pu (by rw[hlen];exact hw) ⟨.ref a,H,I,rfl,q⟩
end
end L2
namespace L2
open PySem PySem.Spec PyProof.Rows
section
variable{prog:Program}{w:World}{A:Around}{E:Value->Shared->Prop}{s:Shared}
theorem Bo(hh:A.handled=none)(it t:Addr)(ap:t≠it)(its:Array Value):Draws prog w A it [it,t] its.size (λk v=>its[k]?=some v) (λk h=>h.IsTupleIter it t k/\h.IsTuple t its) where
 live:=λ_ _ q=>by obtain⟨⟨o,e,_⟩,_⟩:=q;exact⟨o,e⟩
 frame:=λ_ _ _ q kp=>by
  obtain⟨⟨o,e,r⟩,⟨o2,e2,r2⟩⟩:=q;exact⟨⟨o,kp it (by simp) o e,r⟩,⟨o2,kp t (by simp) o2 e2,r2⟩⟩
 item:=λk s Q E lt q fin=>zU hh q.1 q.2 (λx h' hx a sb=>fin x h' s.toks hx ⟨a,by obtain⟨o2,e2,r2⟩:=q.2;exact⟨o2,(sb.2 t ap).trans e2,r2⟩⟩ sb) λh' e hx _ _=>by
  have:its[k]?=some its[k]:=by simp[lt]
  rw[this] at hx;cases hx
 done:=λs Q E q fin=>zU hh q.1 q.2 (λx h' hx _ _=>by simp at hx) λh' e _ a b=>fin h' e a b
theorem wC(t:Addr)(its:Array Value)(n:Nat)(dd:Option Addr)(sl:Array (Option Value)) :
  Meets (Builtin.«enumerate.__new__» ⟨[.type "enumerate",.ref t],[]⟩) (λ_ R s=>s.heap.get? t=some {cls:=.type "tuple",dict:=dd,data:=.seq its n,slots:=sl} /\
   R (.ok (.ret (.ref (s.heap.push (itT t)).objs.size))) {s with heap:=(s.heap.push (itT t)).push {cls:=.type "enumerate",data:=.fields #[.none,.bool false,.ref s.heap.objs.size,rawInt 0,.none,.none]} }) :=
 .of_wp λprog w A R s h=>by
  obtain⟨hp,g,d,tk,os⟩:=s;obtain⟨hl,h⟩:=h
  have hsub:=sub_enumerate;have hL:Heap.IsTuple (Shared.heap ⟨hp,g,d,tk,os⟩) t its:=⟨_,hl,rfl,n,rfl⟩
  wp_walk using F0z hl
  refine wpAny_stack_any λfr=>D5z ?_;split
  .rename_i c _ _ _ _ _
   cases (c==Value.type "enumerate")<;>(wp_walk using F0z hl,L1z hL;exact⟨_,rfl,h⟩)
  .wp_walk using F0z hl,L1z hL;exact⟨_,rfl,h⟩
theorem tM{t:Addr}{its:Array Value}{Q:Value->Shared->Prop}(ht:s.heap.IsTuple t its)
  (q:∀h',IsEnum h' (s.heap.objs.size+1) s.heap.objs.size 0 .none->h'.IsTupleIter s.heap.objs.size t 0->(∀b o,s.heap.get? b=some o->h'.get? b=some o)->Q (.ref (s.heap.objs.size+1)) {s with heap:=h'}) :
  wpAny (model prog w) A (call (.type "enumerate") [.ref t]) Q E s:=by
 obtain⟨⟨c,dd,dt,sl⟩,e,hc,n,hd⟩:=ht;cases (show c=.type "tuple" from hc);cases (show dt=.seq its n from hd);refine callType_new F.called_enumerate (by decide) (F.typeCall_enumerate_1 _) (F.newCall_enumerate_1 _) (λobj=>F.args_object_init_2 obj _) F.entry_enumerate_new (wC t its n dd sl) ⟨e,?_⟩;have z:(s.heap.push (itT t)).objs.size=s.heap.objs.size+1:=Z3z ..;have en:=Heap.get?_push_size (s.heap.push (itT t)) (o:={cls:=.type "enumerate",data:=.fields #[.none,.bool false,.ref s.heap.objs.size,rawInt 0,.none,.none]}) rfl;rw[z] at en;show _/\_;rw[z];exact⟨⟨_,en,rfl⟩,q _ en ⟨_,Heap.get?_push_of_some _ (Heap.get?_push_size _ rfl),rfl,rfl⟩ λb o x=>Heap.get?_push_of_some _ (Heap.get?_push_of_some _ x)⟩
end
def Ite(K:Zf)(t:Addr):It :=
 ⟨λi H=>∃xs x,SqT K H t xs/\xs[i]?=some x,λi H v H'=>∃p,H p=none/\v=.ref p/\∀xs x,SqT K H t xs->xs[i]?=some x->H'=upd H p (.tup [.int i,x]),λi H=>∃xs,SqT K H t xs/\xs.length=i⟩
theorem ur{P:Program}{w:World}{K:Zf}{es:List Expr}{kt:Nat}{pt:Pos}{e it t:Addr}(d1:e≠it)(d2:e≠t)(d3:t≠it) :
  Turn P w K (.Tuple es kt pt) (Ite K t) [e,it] e (λi h=>(∃old,IsEnum h e it (i:Int) old)/\h.IsTupleIter it t i) where
 mem:=by simp
 obj:=λi h q b hb=>by
  obtain⟨⟨old,q1⟩,o2,q2,_,q3⟩:=q;simp at hb;rcases hb with rfl|rfl
  .exact⟨_,q1,λv z=>by have z':Data.fields _=Data.cell v:=z;cases z'⟩
  .exact⟨o2,q2,λv z=>by rw[q3] at z;cases z⟩
 keep:=λi h h' q kp=>by
  obtain⟨⟨old,q1⟩,o2,q2,q3⟩:=q;exact⟨⟨old,kp e (by simp) _ q1⟩,o2,kp it (by simp) _ q2,q3⟩
 item:=by
  intro X hP hw hK hc i z0 s O H E I hf q hg;subst hP hw hK;obtain⟨xs,x,hq,hx⟩:=hg;obtain⟨⟨old,q1⟩,q2⟩:=q;obtain⟨its,rv,p,hz⟩:=I.tuple hq;obtain⟨u,hu,ru⟩:=rv.get hx
  have hi:i<its.toArray.size:=by simpa using(List.getElem?_eq_some_iff.mp hu).1
  have D:=Bo (prog:=X.prog) (w:=X.w) (A:=X.A.in1) (I.ok.hd hc) it t d3 its.toArray;refine wpAny_pyNext_enum_itemD D q1 ⟨q2,(show s.heap.IsTuple t its.toArray from p)⟩ hi d1 (by simp;exact⟨d1,d2⟩) λy h' tk hy eo st' new sz kp=>?_
  have ey:y=u:=by
   have:its[i]?=some y:=by simpa using hy
   rw[hu] at this;exact(D3z this).symm
  subst ey
  have szl:2<=sizeLine:=by decide
  have hlt:∀c∈[e,it],c<s.heap.objs.size:=λc hc'=>by
   simp at hc';rcases hc' with rfl|rfl
   .exact P4z q1
   .obtain⟨o2,q2,_⟩:=q2;exact P4z q2
  have I1:Inv X z0 O (upd H s.heap.objs.size (.tup [.int i,x])) {s with heap:=h',toks:=tk+1}:=I.turnedNew (ch:=[e,it]) hf (λb o hb z=>kp b o (λq=>hb (by simp[q])) (λq=>hb (by simp[q])) z) ⟨szl,[.int i tk,y],.cons ⟨tk,rfl⟩ (.cons ru .nil),⟨_,new,rfl,_,rfl⟩⟩;refine⟨_,rfl,wpAny_letOwnedTupleGo_enum (s:={s with heap:=h',toks:=tk+1}) eo λh2 e2 sb=>?_⟩;obtain⟨f0,f1,f2,f3,f4,f5⟩:=hf e (by simp);have I2:Inv X z0 O (upd H s.heap.objs.size (.tup [.int i,x])) {s with heap:=h2,toks:=tk+1}:=I1.turned (t':=tk+1) (λc o hc' z=>(sb.2 c hc').trans z) (by rw[aG (Q4z (hlt e (by simp)))];exact f0) f1 f3 f4 f5;refine⟨.ref s.heap.objs.size,_,I2,rfl,⟨_,I.hok.fresh (X4z _),rfl,λxs' x' a1 a2=>?_⟩,⟨⟨y,by simpa using e2⟩,?_⟩,λb hb=>by rw[aG (Q4z (hlt b hb))];exact(hf b hb).1⟩
  .have e1:=I.tuple_inj a1 hq
   subst e1;rw[hx] at a2;cases a2;rfl
  .obtain⟨o3,g1,g2⟩:=st'.1
   exact⟨o3,(sb.2 it d1.symm).trans g1,g2⟩
 done:=by
  intro X hP hw hK hc i z0 s O H E I hf q hg;subst hP hw hK;obtain⟨xs,hq,hl⟩:=hg;obtain⟨⟨old,q1⟩,q2⟩:=q;obtain⟨its,rv,p,hz⟩:=I.tuple hq
  have hn:its.toArray.size=i:=by rw[X1z,<- rv.length,hl]
  have D:=Bo (prog:=X.prog) (w:=X.w) (A:=X.A.in1) (I.ok.hd hc) it t d3 its.toArray;refine wpAny_pyNext_enum_endD D q1 ⟨by rw[hn];exact q2,(show s.heap.IsTuple t its.toArray from p)⟩ λh' eb=>⟨rfl,?_⟩;obtain⟨f0,f1,f2,f3,f4,f5⟩:=hf it (by simp);exact I.turned (t':=s.toks) (λb o hb z=>eb b o hb z) f0 f1 f3 f4 f5
 self:=λ_ _ _ _ _ q h=>by obtain⟨⟨old,q1⟩,_⟩:=q;exact wpAny_pyIter_enum q1 h
section
variable{X:Cx}
def Ql(K:Zf)(ta:TA):TI:=λO H R=>ta O H λvs H1=>∃a,vs=[.ref a]/\(∃xs,SqT K H1 a xs)/\R (Ite K a) H1
theorem Dj{a:Expr}{ta:TA}{p pos pt:Pos}{es:List Expr}{kt:Nat}(hg:Gl X "enumerate")(hm:X.mg "enumerate"=none)(ha:PA X [a] ta)(hs:starEach [a] X.env=[(false,eval a X.env)]) :
  PI X (.Tuple es kt pt) (.Call (.Name "enumerate" p) [a] [] pos) (Ql X.K ta):=by
 intro z0 s O H R I h;refine Call_ (fY I hg hm (show bootBuiltins "enumerate"=some (.type "enumerate") by decide +kernel) (B0z (thn (ha pos z0 s O H _ I h) λus s1 ⟨vs,H1,I1,r1,q1⟩=>?_) hs rfl));obtain⟨a1,e,⟨xs,hx⟩,q⟩:=q1;subst e
 cases r1 with
 |cons r rr =>
  cases rr;cases (show _=Value.ref a1 from r);obtain⟨its1,rv,p1,hz⟩:=I1.tuple hx;refine tM (show s1.heap.IsTuple a1 its1.toArray from p1) λh' en ti kp=>?_;refine wpAny_pyIter_enum (s:={s1 with heap:=h'}) en ?_;have I2:Inv X z0 O H1 {s1 with heap:=h'}:=I1.kept (t':=s1.toks) kp;have lt1:a1<s1.heap.objs.size:=p1.lt;refine⟨s1.heap.objs.size+1,_,_,_,H1,rfl,I2,ur (Nat.succ_ne_self _) (T4z (Z1z lt1)) (Q4z lt1),⟨⟨_,en⟩,ti⟩,λc hc=>?_,q⟩
  have hc':s1.heap.objs.size<=c:=by
   simp at hc
   rcases hc with h|h<;>rw[h]<;>first|exact X4z _|exact P2z _ _
  exact I1.fpOk hc' (I1.hok.fresh hc')
end
end L2
namespace L2
open PySem PySem.Spec PyProof.Rows DE PySem.SeqAt
def oK(X:Cx)(e:Expr):TE:=λO H Q=>∀z0 s,Inv X z0 O H s->wpAny (model X.prog X.w) X.A (eval e X.env) (EP X z0 O Q) X.xe s
def rR(X:Cx)(e:Expr):TT:=λO H Q=>∀z0 s,Inv X z0 O H s->wpAny (model X.prog X.w) X.A (isTrue e X.env (eval e X.env)) (TP X z0 O Q) X.xe s
def ux(X:Cx)(es:List Expr):TA:=λO H Q=>∀pos z0 s,Inv X z0 O H s->wpAny (model X.prog X.w) X.A (spliced (backTo pos (starEach es X.env))) (AP X z0 O Q) X.xe s
def mH(X:Cx)(tg iter:Expr):TI:=λO H R=>∀z0 s,Inv X z0 O H s->wpAny (model X.prog X.w) X.A (eval iter X.env) (λv s1=>wpAny (model X.prog X.w) X.A (pyIter v) (PIE X z0 O tg R) X.xe s1) X.xe s
section
variable{X:Cx}{e:Expr}
theorem ak:PE X e (oK X e):=λz0 s O H Q I h=>h z0 s I
theorem cV:PT X e (rR X e):=λz0 s O H Q I h=>h z0 s I
theorem bW{es:List Expr}:PA X es (ux X es):=λpos z0 s O H Q I h=>h pos z0 s I
theorem vf{tg iter:Expr}:PI X tg iter (mH X tg iter):=λz0 s O H R I h=>h z0 s I
theorem PE.sem{t:TE}{O:St}{H:Hp}{Q:VK}(h:PE X e t)(q:t O H Q):oK X e O H Q:=λz0 s I=>h z0 s O H Q I q
theorem PT.sem{t:TT}{O:St}{H:Hp}{Q:Bool->Hp->Prop}(h:PT X e t)(q:t O H Q):rR X e O H Q:=λz0 s I=>h z0 s O H Q I q
theorem PA.sem{es:List Expr}{t:TA}{O:St}{H:Hp}{Q:List V->Hp->Prop}(h:PA X es t)(q:t O H Q):ux X es O H Q:=λpos z0 s I=>h pos z0 s O H Q I q
theorem PI.sem{tg iter:Expr}{t:TI}{O:St}{H:Hp}{R:It->Hp->Prop}(h:PI X tg iter t)(q:t O H R):mH X tg iter O H R:=λz0 s I=>h z0 s O H R I q
end
def bM(K:Zf)(Hs:Hp)(U:Rho)(O:St):Prop:=∀(i:Nat)(x:Str)(d:D),U[i]?=some (x,.sh d)->∃v,O[i]?=some (some v)/\Rep K Hs d v
theorem bM.same{K:Zf}{Hs Hs':Hp}{U:Rho}{O:St}(h:bM K Hs U O)(e:Same Hs Hs'):bM K Hs' U O:=λi x d q=>by
 obtain⟨v,e1,e2⟩:=h i x d q;exact⟨v,e1,Rep.same e d v e2⟩
def Ag(K:Zf)(J:It)(Hs0:Hp)(ds:List D):Prop:=∀Hs H,Same Hs0 Hs->Same Hs H->J.stop ds.length H/\∀(i:Nat)(d:D),ds[i]?=some d->J.go i H/\∀x H',J.yld i H x H'->∃Hs',Ext Hs H Hs' H'/\Rep K Hs' d x
def Ev(X:Cx)(U:Rho)(e:Expr)(d:D):Prop:=∀O H Hs Q,Same Hs H->bM X.K Hs U O->(∀v H' Hs',Ext Hs H Hs' H'->Rep X.K Hs' d v->Q v H')->oK X e O H Q
def EvT(X:Cx)(U:Rho)(e:Expr)(b:Bool):Prop:=∀O H Hs Q,Same Hs H->bM X.K Hs U O->(∀H' Hs',Ext Hs H Hs' H'->Q b H')->rR X e O H Q
def EvA(X:Cx)(U:Rho)(es:List Expr)(ds:List D):Prop:=∀O H Hs Q,Same Hs H->bM X.K Hs U O->(∀vs H' Hs',Ext Hs H Hs' H'->aJ X.K Hs' ds vs->Q vs H')->ux X es O H Q
def EvI(X:Cx)(U:Rho)(tg iter:Expr)(ds:List D):Prop:=∀O H Hs R,Same Hs H->bM X.K Hs U O->(∀J H' Hs',Ext Hs H Hs' H'->Ag X.K J Hs' ds->R J H')->mH X tg iter O H R
def spX(K:Zf)(call:Str->List D->Option D)(callx:Str->List D->Option Str)(f:Str)(ps:List Str):Sp:=λvs H Q E=>vs.length=ps.length/\∃Hs ds,Same Hs H/\aJ K Hs ds vs /\
 ((∃d,call f ds=some d/\∀v H' Hs',Ext Hs H Hs' H'->Rep K Hs' d v->Q v H')\/(∃c,callx f ds=some c/\∀C H' Hs',W.nsIn K mainGlobals c=some (some (.ref C))->Ext Hs H Hs' H'->E (.ref C) none H'))
def Ah(K:Zf)(exs:List Str)(top:Str):Bool:=match W.nsIn K mainGlobals top with
  |some (some (.ref M))=>exs.all λc=>match W.nsIn K mainGlobals c with
    |some (some (.ref C))=>xIn K C M && kE K C && W.exmOne K (.ref C) (.ref M)==some true && W.kitOne K (.ref C) (.ref M)==some true && W.kitOne K (.ref C) (.type "ValueError")==some true &&
      exs.all λc'=>match W.nsIn K mainGlobals c' with
        |some (some (.ref C'))=>W.kitOne K (.ref C) (.ref C')==some (c==c')
        |_=>false
    |_=>false
  |_=>exs.isEmpty
structure XText(K:Zf)(mg:Str->Option Value)(exs:List Str)(top:Str):Prop where
 glob:∀x v,W.nsIn K mainGlobals x=some (some v)->mg x=some v
 cls:∀c,exs.contains c=true->∃C M,W.nsIn K mainGlobals c=some (some (.ref C))/\W.nsIn K mainGlobals top=some (some (.ref M))/\xIn K C M=true/\kE K C=true/\W.exmOne K (.ref C) (.ref M)=some true/\W.kitOne K (.ref C) (.ref M)=some true/\W.kitOne K (.ref C) (.type "ValueError")=some true
 sub:∀c c',exs.contains c=true->exs.contains c'=true->∃C C',W.nsIn K mainGlobals c=some (some (.ref C))/\W.nsIn K mainGlobals c'=some (some (.ref C'))/\W.kitOne K (.ref C) (.ref C')=some (c==c')
theorem XText.of{K:Zf}{mg:Str->Option Value}{exs:List Str}{top:Str}(hg:∀x v,W.nsIn K mainGlobals x=some (some v)->mg x=some v)(h:Ah K exs top=true):XText K mg exs top:=by
 unfold Ah at h;split at h
 .rename_i M hM
  have all:=λc (hc:exs.contains c=true)=>A3z.mp h c (by simpa using hc);refine⟨hg,λc hc=>?_,λc c' hc hc'=>?_⟩
  .have q:=all c hc
   split at q
   .rename_i C hC
    simp only[L2z,H5z] at q;exact⟨C,M,hC,hM,q.1.1.1.1.1,q.1.1.1.1.2,q.1.1.1.2,q.1.1.2,q.1.2⟩
   .cases q
  .have q:=all c hc
   split at q
   .rename_i C hC
    simp only[L2z] at q;have q2:=A3z.mp q.2 c' (by simpa using hc');split at q2
    .rename_i C' hC'
     exact⟨C,C',hC,hC',by simpa using q2⟩
    .cases q2
   .cases q
 .have e:exs=[]:=by simpa using h
  subst e;exact⟨hg,λc hc=>absurd hc (by simp),λc c' hc=>absurd hc (by simp)⟩
structure Good(cx:Cxt)(k:Nat)(X:Cx)(sc:Scope):Prop where
 calm:X.calm=true
 room:Room k X.A
 sce:X.env.scope=sc
 kind:sc.kind=.function
 nd:X.N.Nodup
 cst:∀x d,cx.cst.lookup x=some d->∃v u,(∀H,Rep X.K H d v)/\X.mg x=some u/\RelV v u
 blt:∀x b,cx.blt.lookup x=some b->X.mg x=none/\x=Str.ofString b
 exs:XText X.K X.mg cx.exs cx.top
 fns:∀f,cx.fns.contains f=true->(f==("__debug__":Str))=false/\∃a fd ps,(∀ds d,cx.call f ds=some d->ds.length=ps.length)/\(∀ds c,cx.callx f ds=some c->ds.length=ps.length)/\X.mg f=some (.ref a)/\W.keepIn X.K (.ref a)=true/\Binds X.K fd ps []/\FnOk X.prog X.w X.K X.mg X.base (CX1 X.prog X.w) k a fd ps (spX X.K cx.call cx.callx f ps)
 kw:KnW X.K X.w
section
variable{X:Cx}{U:Rho}{cx:Cxt}{k:Nat}{sc:Scope}
theorem dD:∀{U:Rho}{x:Str}{s:Sl},U.lookup x=some s->∃i:Nat,U[i]?=some (x,s)/\(U.map (·.1)).idxOf? x=some i
 |(y,t)::r,x,s,h=>by
  rw[M2z] at h
  cases hb:x==y with
  |true =>
   rw[hb] at h;cases h
   have:x=y:=by simpa using hb
   subst this;exact⟨0,rfl,by simp[List.idxOf?,List.findIdx?_cons]⟩
  |false =>
   rw[hb] at h;obtain⟨i,h1,h2⟩:=dD h;refine⟨i+1,by simpa using h1,?_⟩
   have hy:(y==x)=false:=by
    rw[F1z] at hb ⊢;exact λe=>hb e.symm
   simp only[G4z,List.idxOf?,List.findIdx?_cons,hy,O1z,M5z];simp only[List.idxOf?] at h2;rw[h2];rfl
theorem EY{x:Str}{d:D}{pos:Pos}(hN:X.N=U.map (·.1))(hv:Vis X.env.scope x)(hp:au x=true)(h:U.lookup x=some (.sh d)):Ev X U (.Name x pos) d:=by
 intro O H Hs Q hs hr hq;obtain⟨i,h1,_⟩:=dD h;obtain⟨v,e1,e2⟩:=hr i x d h1;unfold au at hp;rw[L2z,I5z,I5z] at hp;refine PE.sem (mY (i:=i) (by rw[hN,List.getElem?_map,h1];rfl) hv (by simpa using hp.1) (by simpa using hp.2)) ⟨v,e1,hq v H Hs (.refl hs) e2⟩
theorem JZ{x:Str}{d:D}{v:V}{u:Value}{pos:Pos}(hg:Gl X x)(hd:∀H,Rep X.K H d v)(hm:X.mg x=some u)(r:RelV v u)(hp:au x=true):Ev X U (.Name x pos) d:=by
 intro O H Hs Q hs hr hq;unfold au at hp;rw[L2z,I5z,I5z] at hp;exact PE.sem (pA hg hm r (by simpa using hp.1)) (hq _ H Hs (.refl hs) (hd Hs))
theorem zL{c:Const}{d:D}{j:Nat}{pos:Pos}(h:(match c with|.none=>some D.non|.bool b=>some (.bl b)|.int i=>some (.int i)|.str x=>some (.str x)|_=>none)=some d):Ev X U (.Constant c j pos) d:=by
 intro O H Hs Q hs hr hq
 cases c<;>simp at h<;>subst h
 .exact PE.sem Iz (hq _ H Hs (.refl hs) (by simp[Rep]))
 .exact PE.sem Mw (hq _ H Hs (.refl hs) (by simp[Rep]))
 .exact PE.sem IK (hq _ H Hs (.refl hs) (by simp[Rep]))
 .exact PE.sem Av (hq _ H Hs (.refl hs) (by simp[Rep]))
theorem dG{a b:Expr}{x y d:D}{r:R2}{e:Expr}(ha:Ev X U a x)(hb:Ev X U b y)(hp:PE X e (tOp r (oK X a) (oK X b)))
  (hr:∀u v H Hs Q,Same Hs H->Rep X.K Hs x u->Rep X.K Hs y v->(∀w H' Hs',Ext Hs H Hs' H'->Rep X.K Hs' d w->Q w H')->r u v H Q):Ev X U e d:=by
 intro O H Hs Q hs hst hq;refine hp.sem (ha O H Hs _ hs hst λu H1 Hs1 E1 r1=>hb O H1 Hs1 _ E1.sub (hst.same E1.vis) λv H2 Hs2 E2 r2=>?_);exact hr u v H2 Hs2 Q E2.sub (Rep.same E2.vis x u r1) r2 λw H' Hs' E3 r3=>hq w H' Hs' (E1.trans (E2.trans E3)) r3
theorem kO{i:Int}(h:small i=true):-(2^64)<i/\i<2^64:=by
 unfold small at h;rw[L2z,B2z,B2z] at h;exact h
theorem eH{n:Nat}(h:szl n=true):n<=sizeLine:=by
 unfold szl at h;rw[B2z] at h;exact R4z h (by rw[sizeLine_eq];decide)
theorem uD{n:Nat}(h:szl n=true):n<sizeLine:=by
 unfold szl at h;rw[B2z] at h;exact S1z h (by rw[sizeLine_eq];decide)
theorem cL{K:Zf}{H:Hp}{i:Str}{v:V}(h:Rep K H (.str i) v):v=.str i:=by simpa[Rep] using h
theorem aL{K:Zf}{H:Hp}{i:Int}{v:V}(h:Rep K H (.int i) v):v=.int i:=by simpa[Rep] using h
theorem dz{K:Zf}{H:Hp}{i:Bool}{v:V}(h:Rep K H (.bl i) v):v=.bl i:=by simpa[Rep] using h
theorem bL{K:Zf}{H:Hp}{ds:List D}{v:V}(h:Rep K H (.tup ds) v):∃a vs,v=.ref a/\SqT K H a vs/\aJ K H ds vs:=by simpa[Rep] using h
theorem bQ{K:Zf}{H:Hp}{ds:List D}{v:V}(h:Rep K H (.lst ds) v):∃a vs,v=.ref a/\SqL K H a vs/\aJ K H ds vs:=by simpa[Rep] using h
theorem lF{Hs H:Hp}{ds:List D}{vs:List V}{p:Addr}{Q:VK}(hs:Same Hs H)(hr:aJ X.K Hs ds vs)(hp:H p=none)(hq:∀w H' Hs',Ext Hs H Hs' H'->Rep X.K Hs' (.tup ds) w->Q w H'):Q (.ref p) (upd H p (.tup vs)) :=
 hq _ _ _ (Ext.new hs (.tup vs) hp) (by simp only[Rep];exact⟨p,vs,rfl,.of aV,aJ.same (Ext.new hs (.tup vs) hp).vis ds vs hr⟩)
theorem lG{Hs H:Hp}{ds:List D}{vs:List V}{p:Addr}{Q:VK}(hs:Same Hs H)(hr:aJ X.K Hs ds vs)(hp:H p=none)(hq:∀w H' Hs',Ext Hs H Hs' H'->Rep X.K Hs' (.lst ds) w->Q w H'):Q (.ref p) (upd H p (.lst vs)) :=
 hq _ _ _ (Ext.new hs (.lst vs) hp) (by simp only[Rep];exact⟨p,vs,rfl,.of aV,aJ.same (Ext.new hs (.lst vs) hp).vis ds vs hr⟩)
def Mu(K:Zf):R2:=λx y H Q=>∃a b xs ys,x=.ref a/\y=.ref b/\SqT K H a xs/\SqT K H b ys/\xs.length+ys.length<=sizeLine /\
 (xs=[]->Q (.ref b) H)/\(xs≠[]->ys=[]->Q (.ref a) H)/\(xs≠[]->ys≠[]->∀p,H p=none->Q (.ref p) (upd H p (.tup (xs++ys))))
theorem Dz:OpR X (binaryOp .Add) (Mu X.K):=by
 intro z0 s O H x y v u Q I rx ry h;obtain⟨a,b,xs,ys,rfl,rfl,ha,hb,hz,q0,q1,q2⟩:=h
 by_cases hx:xs=[]
 .subst hx
  cases (show v=Value.ref a from rx);cases (show u=Value.ref b from ry);obtain⟨its,r1,p1,_⟩:=I.tuple ha;obtain⟨its2,r2,p2,_⟩:=I.tuple hb;have e0:its=[]:=r1.nil_iff.mpr rfl;subst e0;obtain⟨⟨c,dd,data,sl⟩,ho,hc,n,hd⟩:=id p1;obtain⟨⟨c2,dd2,data2,sl2⟩,ho2,hc2,n2,hd2⟩:=id p2;simp only at hc hd hc2 hd2;subst hc hd hc2 hd2;exact concat_meets ⟨_,ho,rfl⟩ ⟨_,ho2,rfl⟩ noFill_tuple_add seq_tuple_add K0z G0z (E0z _ _) (tuple_addW0 a b _ its2.toArray n n2 dd dd2 sl sl2 rfl) ⟨ho,ho2,.ref b,H,I,rfl,q0 rfl⟩
 .exact Dw z0 s O H (.ref a) (.ref b) v u Q I rx ry ⟨a,b,xs,ys,rfl,rfl,ha,hb,hx,hz,q1 hx,q2 hx⟩
def Ks(i j:Int):Prop:=QB i j\/(i.natAbs.log2<10000/\j.natAbs.log2<10000)
theorem Bb{i:Int}(h:mid i=true):i.natAbs.log2<10000:=by unfold mid at h;simpa using h
theorem rD{i:Int}(h:i.natAbs.log2<10000):Builtin.Int.intBits i<=2^20:=by
 unfold Builtin.Int.intBits
 split<;>omega
theorem Du:OpR X (binaryOp .Mult) (rI Ks λi j=>.int (i*j)):=opI λ_ _ _ _ _ _ _ hc q=>mul_int q (hc.elim (λz=>z.ok) λz=>.of_bits (rD z.1) (rD z.2))
theorem zO{a b:Expr}{op:Operator}{x y d:D}{pos:Pos}(ha:Ev X U a x)(hb:Ev X U b y)(h:binop op x y=some d):Ev X U (.BinOp a op b pos) d:=by
 unfold binop at h;split at h
 .split at h
  .split at h
   .cases h
    exact dG ha hb (lu Jf ak ak) λu v H Hs Q hs r1 r2 hq=>⟨_,_,aL r1,aL r2,hq _ H Hs (.refl hs) (by simp[Rep])⟩
   .cases h
  .split at h
   .split at h
    .rename_i hz
     cases h;refine dG ha hb (lu Dz ak ak) λu v H Hs Q hs r1 r2 hq=>?_;obtain⟨p,us,rfl,h1,h2⟩:=bL r1;obtain⟨q,ws,rfl,h3,h4⟩:=bL r2;have l1:=h2.length;have l2:=h4.length
     have nil:∀(l:List D),l.length=0->l=[]:=λl hl=>by cases l<;>simp at hl ⊢
     refine⟨p,q,us,ws,rfl,rfl,hs.tup h1,hs.tup h3,by have:=eH hz;omega,λe=>?_,λ_ e=>?_,λ_ _ l hl=>lF hs (h2.append h4) hl hq⟩
     .subst e
      have e2:=nil _ l1;subst e2;exact hq _ H Hs (.refl hs) r2
     .subst e
      have e2:=nil _ l2;subst e2;refine hq _ H Hs (.refl hs) ?_;rw[G3z];exact r1
    .cases h
   .cases h
  .split at h
   .split at h
    .rename_i hz
     cases h;refine dG ha hb (lu Dy ak ak) λu v H Hs Q hs r1 r2 hq=>?_;obtain⟨p,us,rfl,h1,h2⟩:=bQ r1;obtain⟨q,ws,rfl,h3,h4⟩:=bQ r2;have l1:=h2.length;have l2:=h4.length;exact⟨p,q,us,ws,rfl,rfl,hs.seq h1,hs.seq h3,by have:=eH hz;omega,λl hl=>lG hs (h2.append h4) hl hq⟩
    .cases h
   .cases h
  .split at h
   .split at h
    .rename_i hz
     cases h;exact dG ha hb (lu sJ ak ak) λu v H Hs Q hs r1 r2 hq=>⟨_,_,cL r1,cL r2,eH hz,hq _ H Hs (.refl hs) (by simp[Rep])⟩
    .cases h
   .cases h
  .cases h
 .split at h
  .split at h
   .cases h
    exact dG ha hb (lu Ja ak ak) λu v H Hs Q hs r1 r2 hq=>⟨_,_,aL r1,aL r2,hq _ H Hs (.refl hs) (by simp[Rep])⟩
   .cases h
  .cases h
 .split at h
  .split at h
   .split at h
    .rename_i hz
     cases h;rw[O3z,O3z,L2z] at hz;have hz':Ks _ _:=hz.elim (λz=>z.elim (λz=>.inl (.inl (kO z))) (λz=>.inl (.inr (kO z)))) (λz=>.inr ⟨Bb z.1,Bb z.2⟩);exact dG ha hb (lu Du ak ak) λu v H Hs Q hs r1 r2 hq=>⟨_,_,aL r1,aL r2,hz',hq _ H Hs (.refl hs) (by simp[Rep])⟩
    .cases h
   .cases h
  .cases h
 .split at h
  .split at h
   .split at h
    .rename_i hz
     cases h;rw[L2z,B2z,B2z] at hz;exact dG ha hb (lu Dv ak ak) λu v H Hs Q hs r1 r2 hq=>⟨_,_,aL r1,aL r2,hz,hq _ H Hs (.refl hs) (by simp[Rep])⟩
    .cases h
   .cases h
  .cases h
 .split at h
  .split at h
   .split at h
    .rename_i hz
     cases h;rw[B2z] at hz;exact dG ha hb (lu Jc ak ak) λu v H Hs Q hs r1 r2 hq=>⟨_,_,aL r1,aL r2,hz,hq _ H Hs (.refl hs) (by simp[Rep])⟩
    .cases h
   .cases h
  .cases h
 .split at h
  .split at h
   .split at h
    .rename_i hz
     cases h;rw[L2z,L2z,B2z,B2z] at hz;have hs':=kO hz.2;exact dG ha hb (lu Jb ak ak) λu v H Hs Q hs r1 r2 hq=>⟨_,_,aL r1,aL r2,⟨hz.1.1,hz.1.2,by have:=hs'.1;have:=hs'.2;omega⟩,hq _ H Hs (.refl hs) (by simp[Rep])⟩
    .cases h
   .cases h
  .cases h
 .cases h
end
end L2
namespace PySem
theorem fG:typeLookup (.type "list") "__getattr__"=pure none:=by rw[typeLookup_type,R0z];rfl'
theorem nG:typeLookup (.type "list") "keys"=pure none:=am_miss_of_fast (by rfl')
theorem zW:entryFor table "list.__getattribute__"=some Builtin.«object.__getattribute__» :=
 entryFor_alias (id':="object.__getattribute__") (by rfl') (by decide +kernel) (by decide +kernel) (by rfl')
theorem zV{a:Addr}{vs:Array Value}{c:Nat}{sl:Array (Option Value)}(u:Tok) :
  Meets (Builtin.«object.__getattribute__» ⟨[.ref a,.str "keys" u],[]⟩) (λA R s=>s.heap.get? a=some {cls:=.type "list",dict:=none,data:=.seq vs c,slots:=sl}/\raisesAttr (.ref a) "keys" A R s) :=
 Meets.of_wp λprog w A R s hs=>by
  obtain⟨hp,g,d,tk,os⟩:=s;obtain⟨ho,hs⟩:=hs;dsimp only at ho;have hmiss:=nG;unfold Builtin.«object.__getattribute__»
  repeat (any_goals (first|assumption|wp_step))
  exact wpAny_raiseAttrError hs.1 hs.2 (attrMsg_fits (by decide +kernel) (by decide))
theorem wI{prog:Program}{w:World}{A:Around}{E:Value->Shared->Prop}{s:Shared}{a:Addr}{vs:Array Value}{c:Nat}{sl:Array (Option Value)}{Q:Option Value->Shared->Prop}(ho:s.heap.get? a=some {cls:=.type "list",dict:=none,data:=.seq vs c,slots:=sl})(hA:A.handled=none)
  (h:∀h' tk,(∀b ob,s.heap.get? b=some ob->h'.get? b=some ob)->Q none {s with heap:=h',toks:=tk}) :
  wpAny (model prog w) A (getAttr? (.ref a) "keys") Q E s:=by
 obtain⟨hp,g,d,tk,os⟩:=s;dsimp only at ho;have hT:∀(h':Heap) g d tk os,h'.get? a=some {cls:=.type "list",dict:=none,data:=.seq vs c,slots:=sl}->Shared.TypeIs ⟨h',g,d,tk,os⟩ (.ref a) "list":=λh' g d tk os e=>⟨_,e,rfl⟩;have f1:=sub_AttributeError;have f3:=F.slot_list_getattribute.lookup;have f4:=F.slot_list_getattribute.bind (.ref a);have f5:=fG;unfold getAttr? getAttrBy? getAttrBy
 repeat (any_goals (first|assumption|((with_reducible show wpAny _ _ (call (Value.builtin "list.__getattribute__") _ _) _ _ _);refine G5z F.slot_list_getattribute (hT _ _ _ _ _ ho) zW (F.args_list_getattribute_2 _ _) (zV (vs:=vs) (c:=c) (sl:=sl) _) ⟨ho,hA,λh' tk' e hx=>?_⟩)|wp_step))
 obtain⟨t',u',he⟩:=hx.there;show wpAny _ _ (getattributeRaised _ _ _ _ _ _ _) _ _ _;unfold getattributeRaised
 repeat (any_goals (first|assumption|wp_step))
 exact h h' tk' hx.keeps
theorem iC:plainId "dict.update.loop"=true:=by decide +kernel
theorem nH:entryFor table "dict.update.loop"=some Builtin.«dict.update.loop» :=entryFor_of_tree (by rfl')
def j8(h:Heap)(b:Addr)(u v:Value):Prop:=∃o m,h.get? b=some o/\o.cls=.type "tuple"/\o.data=.seq #[u,v] m
section
variable{prog:Program}{w:World}{A:Around}{E:Value->Shared->Prop}{s:Shared}
theorem FQ{b:Addr}{u v:Value}{Q:List Value->Shared->Prop}(h:j8 s.heap b u v)(hq:Q [u,v] s):wpAny (model prog w) A (Builtin.Dict.pairItems (.ref b)) Q E s:=by
 obtain⟨o,m,h1,h2,h3⟩:=h;unfold Builtin.Dict.pairItems;refine C5z (V4z (T:="tuple") ⟨o,h1,h2⟩ ?_);rw[P5z (by decide)];refine C5z (A4z h1 h3 ?_);exact D5z hq
end
section
variable{prog:Program}{w:World}{A:Around}{R:Result->Shared->Prop}{I:Addr}{fp wr:List Addr}{G:Array GenState->Array GenState->Prop}{n:Nat}{P:Nat->Value->Prop}{St:Nat->Shared->Prop}{K:Type}[DecidableEq K]{knd:KeyKind prog w K}
theorem FT(W:WalksS prog w A.in1 I fp wr G n P St)(d:Addr)(hdf:d∉fp){N:Nat}(hN:∀b∈d::wr,N<=b){h0:Heap}{bs:Nat->Addr}{ks:Nat->K}{us ws:Nat->Value}(hval:∀i v,i<n->P i v->v=.ref (bs i))(hk:∀i,i<n->j8 h0 (bs i) (us i) (ws i)/\knd.is (ks i) (us i)=true)(hlt:∀i,i<n->bs i<N) :
    ∀(k i:Nat)(s:Shared)(kvs:List (K×Value))(j:Int)(t:Tok), n - i=k->i<=n->St i s->(∀b o, b < N->h0.get? b=some o->s.heap.get? b=some o)->s.heap.DictOf knd d kvs->kvs.length + k<=sizeLine ->
      (∀s',Moved (d::wr) G s s'->s'.heap.DictOf knd d (merged kvs ((List.range' i k).map λj=>(ks j,ws j)))->R (.ok (.ret .none)) s') ->
      codeAny (model prog w) A (.builtin "dict.update.loop" ⟨[.ref d,.ref I,.int j t,.none],[]⟩) R s:=by
  have hdw:d∉wr:=λh=>hdf (W.sub _ h)
  have hsub:∀b∈wr,b∈d::wr:=λb hb=>S0z _ hb
  intro k
  induction k with
  |zero =>
    intro i s kvs j t hki hi hst hold hd hz hR
    have hin:i=n:=by omega
    subst hin
    refine J3z nH ?_
    rw[Z0z iC _]
    show wpAny _ A.in1 (pyNext (.ref I) >>=_) _ _ s
    refine C5z (W.done s _ _ hst λs' hm=>?_)
    refine D5z (hR s' (hm.mono hsub) ?_)
    obtain⟨o,es,ep,ho,r⟩:=hd
    exact⟨o,es,ep,hm.heap d _ hdw ho,r⟩
  |succ k ih =>
    intro i s kvs j t hki hi hst hold hd hz hR
    have hin:i<n:=by omega
    refine J3z nH ?_
    rw[Z0z iC _]
    show wpAny _ A.in1 (pyNext (.ref I) >>=_) _ _ s
    refine C5z (W.item i s _ _ hin hst λv s' hP hst' hm=>?_)
    obtain rfl:=hval i v hin hP
    have hd':s'.heap.DictOf knd d kvs:=by
      obtain⟨o,es,ep,ho,r⟩:=hd
      exact⟨o,es,ep,hm.heap d _ hdw ho,r⟩
    have hold':∀b o,b<N->h0.get? b=some o->s'.heap.get? b=some o:=λb o hb e=>hm.heap b o (λq=>absurd (hN b (hsub b q)) (Nat.not_le.mpr hb)) (hold b o hb e)
    obtain⟨⟨o,m,a1,a2,a3⟩,a4⟩:=hk i hin
    have hp:j8 s'.heap (bs i) (us i) (ws i):=⟨o,m,hold' _ _ (hlt i hin) a1,a2,a3⟩
    show wpAny _ A.in1 (holding [Value.ref (bs i)] _ >>=_) _ _ s'
    refine C5z (F4z (C5z (wpAny_tryCatch (FQ hp ?_))))
    refine F4z (wpAny_dictSet_pairs a4 hd' (λh' hd2 hs=>?_) (by omega))
    refine D5z ⟨I4z iC _,ih (i+1) _ (stored kvs (ks i) (ws i)) _ _ (by omega) hin (W.frame _ s' _ _ hst' (Nat.le_succ _) λb hb o e=>?_) (λb o hb e=>?_) hd2 ?_ λs'' hm'' hd3=>?_⟩
    . rw[hs.2 b (λh:b=d=>hdf (by rw[<- h];exact hb))];exact e
    . rw[hs.2 b (λh:b=d=>absurd (hN d J1z) (by rw[<- h];exact Nat.not_le.mpr hb))]
      exact hold' b o hb e
    . have:(stored kvs (ks i) (ws i)).length<=kvs.length+1:=by
        unfold stored
        split<;>simp
      omega
    . refine hR s'' (Moved.trans W.gtrans ((hm.mono hsub).then_heap (Nat.le_succ _) λb o hb e=>?_) hm'') ?_
      . rw[hs.2 b (λh:b=d=>hb (by rw[h];exact J1z))];exact e
      . rw[R2z,G4z]
        exact hd3
end
section
variable{prog:Program}{w:World}{A:Around}{E:Value->Shared->Prop}{s:Shared}{K:Type}[DecidableEq K]{knd:KeyKind prog w K}
theorem FW{l:Addr}{items:Array Value}{c:Nat}{sl:Array (Option Value)}{bs:Nat->Addr}{ks:Nat->K}{us ws:Nat->Value}{Q:Value->Shared->Prop}(hh:A.handled=none)(ho:s.heap.get? l=some {cls:=.type "list",dict:=none,data:=.seq items c,slots:=sl})
  (hv:∀i v,i<items.size->items[i]?=some v->v=.ref (bs i)) (hk:∀i,i<items.size->j8 s.heap (bs i) (us i) (ws i)/\knd.is (ks i) (us i)=true) (hz:items.size<=sizeLine)
  (h:∀h' tk,h'.DictOf knd s.heap.objs.size (merged [] ((List.range' 0 items.size).map λj=>(ks j,ws j)))->(∀b o,s.heap.get? b=some o->h'.get? b=some o)->Q (.ref s.heap.objs.size) {s with heap:=h',toks:=tk}) :
  wpAny (model prog w) A (call (.type "dict") [.ref l]) Q E s:=by
 refine callType_codes (Q₁:=λobj s₁=>obj=.ref s.heap.objs.size/\s₁={s with heap:=s.heap.push {cls:=.type "dict",data:=.dict #[]} }) F.kt_called_dict (F.kt_typeCall_dict_1 _) F.entry_dict_init (kt_code_dict_new _ ⟨rfl,rfl⟩) ?_;rintro obj s₁ ⟨rfl,rfl⟩;have hnew:(s.heap.push {cls:=.type "dict",data:=.dict #[]}).DictOf knd s.heap.objs.size []:=Heap.DictOf.new s.heap;have ho1:(s.heap.push {cls:=.type "dict",data:=.dict #[]}).get? l=some {cls:=.type "list",dict:=none,data:=.seq items c,slots:=sl}:=Heap.get?_push_of_some _ ho;have hlS:l<s.heap.objs.size:=P4z ho;refine⟨hnew.typeIs,F.args_dict_init_2 _ _,?_⟩;unfold Builtin.«dict.__init__»;refine C5z ?_;unfold Builtin.Dict.selfAndRest;refine C5z (wpAny_notOrdered_dict hnew.typeIs ?_);show wpAny _ _ (pure (s.heap.objs.size,[Value.ref l])) _ _ _;refine D5z ?_;show wpAny _ _ (Builtin.Dict.updateFrom "dict.__init__" s.heap.objs.size (.ref l) [] .none) _ _ _;unfold Builtin.Dict.updateFrom;refine C5z (V4z (T:="list") ⟨_,ho1,rfl⟩ ?_);rw[P5z (by decide)];refine C5z (wI ho1 (by simp[hh]) λh1 tk1 keep=>?_);rw[P5z (show(none:Option Value).isNone=true from rfl)];have ho2:=keep _ _ ho1;have hl2:h1.IsList l items:=⟨_,ho2,rfl,c,rfl⟩
 have hd2:h1.DictOf knd s.heap.objs.size []:=by
  obtain⟨o,es,ep,h3,r⟩:=hnew;exact⟨o,es,ep,keep _ _ h3,r⟩
 have hSz:s.heap.objs.size<h1.objs.size:=by
  obtain⟨o,es,ep,h3,r⟩:=hd2;exact P4z h3
 refine C5z (E5z ?_);refine C5z (wpAny_pyIter_list (s:={s with heap:=h1,toks:=tk1}) hl2 ?_);have hneI:l≠h1.objs.size:=Q4z (P4z ho2)
 have hSf:s.heap.objs.size∉[h1.objs.size,l]:=by
  simp only[L4z,S2z,or_false,not_or];exact⟨Q4z hSz,T4z hlS⟩
 refine D5z ⟨I4z iC _,?_⟩
 refine FT (knd:=knd) ((Walks.list (by simp[hh]) _ l hneI items).toS) s.heap.objs.size hSf (N:=s.heap.objs.size) (h0:=s.heap) (bs:=bs) (ks:=ks) (us:=us) (ws:=ws) (λb hb=>?_) hv hk (λi hi=>?_) (items.size-0) 0 _ [] _ _ rfl (Z4z _)
  ⟨⟨_,Heap.get?_push_size _ rfl,rfl,rfl⟩,hl2.push _⟩ (λb o hb e=>Heap.get?_push_of_some _ (keep _ _ (Heap.get?_push_of_some _ e))) (hd2.push _) (by simpa using hz) ?hR
 .rcases L4z.mp hb with rfl|hb
  .exact X4z _
  .rw[List.mem_singleton.mp hb];exact S4z hSz
 .obtain⟨⟨o,_,e,_⟩,_⟩:=hk i hi
  exact P4z e
 case hR =>
  intro s' hm hd3;obtain⟨h',g',d',tk',os'⟩:=s';have eg:g'=s.gens:=hm.gens;have ed:d'=s.drawn:=hm.drawn;have eo:os'=s.os:=hm.os;subst eg;subst ed;subst eo;refine⟨rfl,h h' tk' hd3 λb o e=>?_⟩;have hb:=P4z e;have hb1:b≠s.heap.objs.size:=Q4z hb;have hb2:b≠h1.objs.size:=Q4z (Nat.lt_trans hb hSz);exact hm.heap b o (by simp only[L4z,S2z,or_false,not_or];exact⟨hb1,hb2⟩) (Heap.get?_push_of_some _ (keep _ _ (Heap.get?_push_of_some _ e)))
end
end PySem
namespace L2
open PySem PySem.Spec PyProof.Rows
def tV(K:Zf)(H:Hp):List V->List (Key×V)->Prop
 |[],kvs=>kvs=[]
 |x::r,kvs=>∃b k v q,x=.ref b/\kvs=(k,v)::q/\SqT K H b [kV k,v]/\tV K H r q
section
variable{X:Cx}{z0:List (Addr×Obj)}{O:St}{H:Hp}{s:Shared}
abbrev DRow:=Addr×Value×Key×Value
theorem Aq(I:Inv X z0 O H s):∀{vs:List V}{its:List Value}{kvs:List (Key×V)},tV X.K H vs kvs->Vals vs its ->
  ∃rows:List DRow,KV kvs (rows.map λr=>(r.2.2.1,r.2.2.2))/\its=rows.map (λr=>Value.ref r.1)/\∀r∈rows,j8 s.heap r.1 r.2.1 r.2.2.2/\(bY X.prog X.w).is r.2.2.1 r.2.1=true
 |[],_,_,h,.nil=>by
  cases h;exact⟨[],.nil,rfl,λr h=>by simp at h⟩
 |_::_,_,_,h,.cons r1 r2=>by
  obtain⟨b,k,v,q,rfl,rfl,h1,h2⟩:=h;obtain⟨rows,a1,a2,a3⟩:=Aq I h2 r2;obtain⟨its',r',⟨o,e1,e2,n,e3⟩,_⟩:=I.tuple h1
  cases r' with
  |cons q1 q2 =>
  cases q2 with
  |cons q3 q4 =>
  cases q4;rename_i u w;refine⟨(b,u,k,w)::rows,.cons ⟨rfl,q3⟩ a1,?_,λr h=>?_⟩
  .rw[G4z,<- a2]
   congr 1
  .rcases L4z.mp h with rfl|h
   .exact⟨⟨o,n,e1,e2,e3⟩,Ek q1⟩
   .exact a3 r h
theorem tO(hc:X.calm=true):cT X (.type "dict") (λxs H Q=>∃(a:Addr)(vs:List V)(kvs:List (Key×V)),xs=[.ref a]/\SqL X.K H a vs/\tV X.K H vs kvs/\∀p ob,H p=none->Q (.ref p) (upd H p (.frz ob (.dK (fK [] kvs))))):=by
 intro z0 s O H xs us Q I r h;obtain⟨a,vs,kvs,rfl,hl,hp,q⟩:=h
 obtain⟨u,rfl,rfl⟩:∃u,us=[u]/\u=Value.ref a:=by
  cases r with
  |cons r1 r2=>cases r2;exact⟨_,rfl,r1⟩
 obtain⟨its,r',⟨o,n,e1,e2,e3,e4⟩,z⟩:=I.list hl;obtain⟨oc,od,odt,osl⟩:=o;dsimp only at e2 e3 e4;subst e2 e3 e4;obtain⟨rows,a1,a2,a3⟩:=Aq I hp r'
 have hlen:its.length=rows.length:=by rw[a2,I3z]
 have hkl:kvs.length=rows.length:=by simpa using a1.length
 have d0:DRow:=(0,.none,.inl 0,.none)
 have hrow:∀i,i<its.toArray.size->∃rw,rows[i]?=some rw/\rows.getD i d0=rw/\rw∈rows:=λi hi=>by
  have hi':i<rows.length:=by rw[<- hlen];simpa using hi
  exact⟨rows[i],List.getElem?_eq_getElem hi',by simp[List.getD,hi'],T2z hi'⟩
 have hn:=I.hok.fresh (X4z s.heap.objs.size);have rel:KV (fK [] kvs) (merged [] (rows.map λr=>(r.2.2.1,r.2.2.2))):=a1.merge .nil
 have hz:(fK [] kvs).length<=sizeLine:=by
  have h1:=fX kvs [];rw[N3z] at h1;have:=r'.length;omega
 have hmap:(List.range' 0 its.toArray.size).map (λj=>((rows.getD j d0).2.2.1,(rows.getD j d0).2.2.2))=rows.map λr=>(r.2.2.1,r.2.2.2):=by
  apply List.ext_getElem
  .simp[hlen]
  .intro i h1 h2
   simp only[I3z] at h2;simp[List.getD,h2]
 refine FW (knd:=bY X.prog X.w) (bs:=λi=>(rows.getD i d0).1) (ks:=λi=>(rows.getD i d0).2.2.1) (us:=λi=>(rows.getD i d0).2.1) (ws:=λi=>(rows.getD i d0).2.2.2) (I.ok.hd hc) e1 (λi v hi e=>?_) (λi hi=>?_) (by have:=r'.length;simpa using(by omega:its.length<=sizeLine)) λh' tk dd keep=>?_
 .obtain⟨rw',b1,b2,b3⟩:=hrow i hi
  show v=Value.ref (rows.getD i d0).1;rw[b2];rw[a2] at e;simp[b1] at e;exact e.symm
 .obtain⟨rw',b1,b2,b3⟩:=hrow i hi
  show j8 s.heap (rows.getD i d0).1 (rows.getD i d0).2.1 (rows.getD i d0).2.2.2/\(bY X.prog X.w).is (rows.getD i d0).2.2.1 (rows.getD i d0).2.1=true;rw[b2];exact a3 rw' b3
 .rw[hmap] at dd
  obtain⟨ob,hob⟩:∃ob,h'.get? s.heap.objs.size=some ob:=let ⟨ob,_,_,e,_⟩:=dd;⟨ob,e⟩
  refine⟨.ref s.heap.objs.size,_,I.laid (a:=s.heap.objs.size) (o:=.frz ob (.dK (fK [] kvs))) keep (X4z _) ⟨hob,Ka hz ?_ rel dd⟩,rfl,q _ ob hn⟩;exact beq_false_of_ne (T4z I.big)
end
end L2
namespace DE
open PySem
end DE
namespace L2
open PySem PySem.Spec PyProof.Rows DE PySem.SeqAt
theorem qw{K:Zf}{H:Hp}{k:Key}:∀{kvs:List (Key×V)}{ks:List Key}{ds:List D},kvs.map (·.1)=ks->aJ K H ds (kvs.map (·.2)) ->
  (kI ks ds k=none/\qt kvs k=none)\/∃d v,kI ks ds k=some d/\qt kvs k=some v/\Rep K H d v/\d∈ds
 |[],_,ds,rfl,h=>by
  cases ds with
  |nil=>exact .inl ⟨rfl,rfl⟩
  |cons d r=>simp[aJ] at h
 |(k',v)::r,_,ds,rfl,h=>by
  cases ds with
  |nil=>simp[aJ] at h
  |cons d ds =>
   obtain⟨v',q,e,h1,h2⟩:=h;cases e
   by_cases hk:k'=k
   .refine .inr ⟨d,v,?_,qm hk,h1,J1z ..⟩
    unfold kI;rw[G4z,T1z,List.find?_cons_of_pos (by simpa using hk)];rfl
   .rw[qp hk]
    have:kI (((k',v)::r).map (·.1)) (d::ds) k=kI (r.map (·.1)) ds k:=by
     unfold kI;rw[G4z,T1z,List.find?_cons_of_neg (by simpa using hk)]
    rw[this];rcases qw (k:=k) rfl h2 with h3|⟨d',v',a1,a2,a3,a4⟩
    .exact .inl h3
    .exact .inr ⟨d',v',a1,a2,a3,S0z _ a4⟩
section
variable{X:Cx}{z0:List (Addr×Obj)}{O:St}{H:Hp}{s:Shared}
end
end L2
namespace L2
open PySem PySem.Spec PyProof.Rows
def UW(P:Addr)(ps:Array Value):HO:=.ext λh=>h.get? P=some (W.tabObj ps)
section
variable{X:Cx}{z0:List (Addr×Obj)}{O:St}{H:Hp}{s:Shared}
end
section
variable{X:Cx}{z0:List (Addr×Obj)}{O:St}{H:Hp}{s:Shared}
def U7(c':Addr)(qual:Str):HO:=.ext λh=>h.CodeRec (.ref c') qual
end
section
variable{X:Cx}{z0:List (Addr×Obj)}{O:St}{H:Hp}{s:Shared}
end
end L2
namespace DE
open PySem
end DE
namespace L2
open PySem PySem.Spec PyProof.Rows DE
section
variable{X:Cx}
theorem Je(kw:KnW X.K X.w):OpR X (compareOp .In) (λu v H Q=>∃(a:Addr)(kvs:List (Key×V))(k:Key),u=kV k/\v=.ref a/\DAt X.K H a kvs/\Q (.bl (qt kvs k).isSome) H):=by
 intro z0 s O H u v w z Q I ru rv h;obtain⟨a,kvs,k,rfl,rfl,hd,q⟩:=h;cases (show z=Value.ref a from rv);obtain⟨hS,vs,rel,dd⟩:=rm I kw hd;refine wpAny_in_of (Ek ru) hS dd.mapOf ?_;rw[<- (rel.val k).isSome_eq];exact⟨.bl _,H,I.tok _,rfl,q⟩
theorem uo{K:Zf}{H:Hp}{k:Key}{kvs:List (Key×V)}{ks:List Key}{ds:List D}(e:kvs.map (·.1)=ks)(h:aJ K H ds (kvs.map (·.2))):(qt kvs k).isSome=(kI ks ds k).isSome:=by
 rcases qw (k:=k) e h with⟨h1,h2⟩|⟨d,v,h1,h2,_⟩<;>rw[h1,h2]<;>rfl
theorem u5{K:Zf}{H:Hp}:∀{xs:List D}{vs:List V}{l:List (Sum Int Str×D)},m6 xs=some l->aJ K H xs vs->∃kvs:List (Key×V),tV K H vs kvs/\kvs.map (·.1)=l.map (·.1)/\aJ K H (l.map (·.2)) (kvs.map (·.2))
 |[],vs,l,h,r=>by
  cases h;cases (show vs=[] from r);exact⟨[],rfl,rfl,rfl⟩
 |x::xs,vs,l,h,r=>by
  obtain⟨v,q,rfl,r1,r2⟩:=r;unfold m6 at h;split at h
  .rename_i heq;cases heq
  .rename_i k d r' heq
   cases heq;obtain⟨l',h1,rfl⟩:=L0z.mp h;obtain⟨kvs,a1,a2,a3⟩:=u5 h1 r2;obtain⟨b,ws,rfl,b1,b2⟩:=r1;obtain⟨w1,t1,rfl,c1,c2⟩:=b2;obtain⟨w2,t2,rfl,c3,c4⟩:=c2;cases (show t2=[] from c4);cases (show w1=.str k by simpa[Rep] using c1);exact⟨(.inr k,w2)::kvs,⟨b,.inr k,w2,kvs,rfl,rfl,b1,a1⟩,by simp[a2],⟨w2,_,rfl,c3,a3⟩⟩
  .cases h
theorem qG{K:Zf}{H:Hp}{k:Key}{d:D}{v:V}(r:Rep K H d v):∀{l:List (Sum Int Str×D)}{kvs:List (Key×V)},kvs.map (·.1)=l.map (·.1)->aJ K H (l.map (·.2)) (kvs.map (·.2)) ->
  (kvs.map λkv=>if kv.1=k then(kv.1,v) else kv).map (·.1)=(l.map λq=>if q.1=k then(q.1,d) else q).map (·.1)/\aJ K H ((l.map λq=>if q.1=k then(q.1,d) else q).map (·.2)) ((kvs.map λkv=>if kv.1=k then(kv.1,v) else kv).map (·.2))
 |[],kvs,e,h=>by
  cases kvs with
  |nil=>exact⟨rfl,rfl⟩
  |cons _ _=>simp at e
 |(k1,d1)::l,kvs,e,h=>by
  cases kvs with
  |nil=>simp at e
  |cons q kvs =>
   obtain⟨k2,v2⟩:=q;simp only[G4z,List.cons.injEq] at e;obtain⟨rfl,e⟩:=e;obtain⟨v',t,e',h1,h2⟩:=h;cases e';obtain⟨a1,a2⟩:=qG r e h2;simp only[G4z]
   by_cases hk:k2=k
   .rw[P5z hk,P5z hk]
    exact⟨by rw[a1],⟨v,_,rfl,r,a2⟩⟩
   .rw[Q5z hk,Q5z hk]
    exact⟨by rw[a1],⟨v2,_,rfl,h1,a2⟩⟩
theorem CZ{K:Zf}{H:Hp}{k:Key}{d:D}{v:V}(r:Rep K H d v){l:List (Sum Int Str×D)}{kvs:List (Key×V)}(e:kvs.map (·.1)=l.map (·.1))(h:aJ K H (l.map (·.2)) (kvs.map (·.2))):(putK kvs k v).map (·.1)=(putD l k d).map (·.1)/\aJ K H ((putD l k d).map (·.2)) ((putK kvs k v).map (·.2)):=by
 have key:(kvs.any λkv=>decide (kv.1=k))=l.any λq=>decide (q.1=k):=by
  have:(kvs.map (·.1)).any (λx=>decide (x=k))=(l.map (·.1)).any λx=>decide (x=k):=by rw[e]
  simpa[List.any_map,Function.comp_def] using this
 unfold putK putD;rw[key];split
 .exact qG r e h
 .refine⟨by simp[e],?_⟩
  rw[P3z,P3z];exact h.append ⟨v,[],rfl,r,rfl⟩
theorem nA{K:Zf}{H:Hp}:∀{l:List (Sum Int Str×D)}{kvs:List (Key×V)}{l0:List (Sum Int Str×D)}{kvs0:List (Key×V)},kvs.map (·.1)=l.map (·.1)->aJ K H (l.map (·.2)) (kvs.map (·.2))->kvs0.map (·.1)=l0.map (·.1)->aJ K H (l0.map (·.2)) (kvs0.map (·.2)) ->
  (fK kvs0 kvs).map (·.1)=(l.foldl (λa q=>putD a q.1 q.2) l0).map (·.1)/\aJ K H ((l.foldl (λa q=>putD a q.1 q.2) l0).map (·.2)) ((fK kvs0 kvs).map (·.2))
 |[],kvs,l0,kvs0,e,h,e0,h0=>by
  cases kvs with
  |nil=>exact⟨e0,h0⟩
  |cons _ _=>simp at e
 |(k1,d1)::l,kvs,l0,kvs0,e,h,e0,h0=>by
  cases kvs with
  |nil=>simp at e
  |cons q kvs =>
   obtain⟨k2,v2⟩:=q;simp only[G4z,List.cons.injEq] at e;obtain⟨rfl,e⟩:=e;obtain⟨v',t,e',h1,h2⟩:=h;cases e';obtain⟨a1,a2⟩:=CZ (k:=k2) h1 e0 h0;exact nA (l0:=putD l0 k2 d1) (kvs0:=putK kvs0 k2 v2) e h2 a1 a2
end
end L2
namespace L2
open PySem PySem.Spec PyProof.Rows
end L2
namespace L2
open PySem PySem.Spec PyProof.Rows DE PySem.SeqAt
section
variable{X:Cx}{U:Rho}{cx:Cxt}{k:Nat}{sc:Scope}
theorem aj{e:Expr}{es:List Expr}{env:Env}(h:aA e=true):starEach (e::es) env=(false,eval e env)::starEach es env:=by
 cases e<;>first|rfl|(simp[aA] at h)
theorem gZ{e:Expr}(h:aA e=true):xJ e:=by
 intro o i
 cases e<;>first|rfl|(simp[aA] at h)
theorem iV{e:Expr}{env:Env}(h:aA e=true)(x:Value):foldedSetIterable e env x=pure x:=by
 cases e<;>first|rfl|(simp[aA] at h)
theorem gA{e:Expr}{op:CmpOp}(h:aA e=true):behindInMarks op e=false:=by
 cases e<;>first|rfl|(simp[aA] at h)
theorem fV{env:Env}{pos:Pos}:∀{es:List Expr},(∀e∈es,aA e=true)->(backTo pos (starEach es env)).any (·.1)=false
 |[],_=>rfl
 |e::es,h=>by
  rw[aj (h e J1z)];have ih:=fV (env:=env) (pos:=pos) λe' he=>h e' (S0z _ he);show((false:Bool)||(backTo pos (starEach es env)).any (·.1))=false;rw[ih];rfl
theorem aZ:∀{n:Nat}{U:Rho}{e:Expr}{d:D},ev cx n sc U e=some d->aA e=true
 |0,_,_,_,h=>by simp[ev] at h
 |n+1,U,e,d,h=>by
  cases e<;>first|rfl|(exact nomatch (show(Option.none:Option D)=some d from h))
def BX(X:Cx)(e:Expr):TT:=λO H Q=>∀whole z0 s,Inv X z0 O H s->wpAny (model X.prog X.w) X.A (isTrue e X.env whole) (TP X z0 O Q) X.xe s
def EvW(X:Cx)(U:Rho)(e:Expr)(b:Bool):Prop:=∀O H Hs Q,Same Hs H->bM X.K Hs U O->(∀H' Hs',Ext Hs H Hs' H'->Q b H')->BX X e O H Q
theorem qJ{e:Expr}:PW X e (BX X e):=λwhole z0 s O H Q I h=>h whole z0 s I
theorem PW.sem{e:Expr}{t:TT}{O:St}{H:Hp}{Q:Bool->Hp->Prop}(h:PW X e t)(q:t O H Q):BX X e O H Q:=λwhole z0 s I=>h whole z0 s O H Q I q
theorem EvW.t{e:Expr}{b:Bool}(h:EvW X U e b):EvT X U e b:=λO H Hs Q hs hr hq z0 s I=>h O H Hs Q hs hr hq _ z0 s I
theorem Ft{e:Expr}{b:Bool}(h:Ev X U e (.bl b))(he:∀whole,isTrue e X.env whole=(do let v <- whole;standAt e.pos;holding [v] (truthy v))):EvT X U e b:=λO H Hs Q hs hr hq =>
 (Ie ak he).sem (h O H Hs _ hs hr λv H' Hs' E1 r1=>⟨b,dz r1,hq H' Hs' E1⟩)
theorem JR{a:Expr}{b:Bool}{pos:Pos}(h:Ev X U a (.bl b)):Ev X U (.UnaryOp .Not a pos) (.bl (!b)):=λO H Hs Q hs hr hq =>
 (Iw ak).sem (h O H Hs _ hs hr λv H' Hs' E1 r1=>⟨b,dz r1,hq _ H' Hs' E1 (by simp[Rep])⟩)
theorem Fv{a:Expr}{b:Bool}{pos:Pos}(h:EvT X U a b):EvT X U (.UnaryOp .Not a pos) (!b):=λO H Hs Q hs hr hq =>
 (Ig cV).sem (h O H Hs _ hs hr λH' Hs' E1=>hq H' Hs' E1)
theorem JT{a:Expr}{i:Int}{pos:Pos}(h:Ev X U a (.int i)):Ev X U (.UnaryOp .USub a pos) (.int (-i)):=λO H Hs Q hs hr hq =>
 (Mv G6 ak).sem (h O H Hs _ hs hr λv H' Hs' E1 r1=>⟨i,aL r1,hq _ H' Hs' E1 (by simp[Rep])⟩)
theorem nF{op:BoolOp}{f:Expr->Option D}{pos:Pos}:∀{es:List Expr}{d:D},(∀e∈es,∀d,f e=some d->Ev X U e d/\∀b,d=.bl b->EvT X U e b)->bU op f es=some d ->
  Ev X U (.BoolOp op es pos) d/\∀b,d=.bl b->EvW X U (.BoolOp op es pos) b
 |[],d,_,h=>by simp[bU] at h
 |[e],d,hf,h=>by
  obtain⟨h1,h2⟩:=hf e (by simp) d (by simpa[bU] using h);refine⟨λO H Hs Q hs hr hq=>(Iv ak).sem (h1 O H Hs Q hs hr hq),λb hb O H Hs Q hs hr hq=>?_⟩
  cases op with
  |And=>exact(CW cV).sem (h2 b hb O H Hs Q hs hr hq)
  |Or=>exact(Ia cV).sem (h2 b hb O H Hs Q hs hr hq)
 |e::e'::r,d,hf,h=>by
  simp only[bU] at h
  cases he:f e with
  |none=>rw[he] at h;simp at h
  |some x =>
   rw[he] at h
   cases x with
   |bl c =>
    obtain⟨h1,h2⟩:=hf e (by simp) _ he;have h2':=h2 c rfl;simp only[asB,U2z,Option.bind_eq_bind,bind,Option.bind] at h;have ih:=λd' (q:bU op f (e'::r)=some d')=>nF (pos:=pos) (es:=e'::r) (λa ha=>hf a (S0z _ ha)) q
    cases op with
    |And =>
     cases c with
     |true =>
      simp only[O5z] at h;obtain⟨i1,i2⟩:=ih d h;refine⟨λO H Hs Q hs hr hq=>(Ax ak ak).sem (h1 O H Hs _ hs hr λv H' Hs' E1 r1=>⟨true,dz r1,tY (i1 O H' Hs' Q E1.sub (hr.same E1.vis) λw H2 Hs2 E2 r2=>hq w H2 Hs2 (E1.trans E2) r2)⟩),λb hb O H Hs Q hs hr hq=>?_⟩;exact(Am cV qJ).sem (h2' O H Hs _ hs hr λH' Hs' E1=>tY (i2 b hb O H' Hs' Q E1.sub (hr.same E1.vis) λH2 Hs2 E2=>hq H2 Hs2 (E1.trans E2)))
     |false =>
      simp only[O1z,M5z,C2z] at h;subst h;refine⟨λO H Hs Q hs hr hq=>(Ax ak ak).sem (h1 O H Hs _ hs hr λv H' Hs' E1 r1=>⟨false,dz r1,vX (hq _ H' Hs' E1 (by simp[Rep]))⟩),λb hb O H Hs Q hs hr hq=>?_⟩;cases hb;exact(Am cV qJ).sem (h2' O H Hs _ hs hr λH' Hs' E1=>vX (hq H' Hs' E1))
    |Or =>
     cases c with
     |true =>
      simp only[O5z,C2z] at h;subst h;refine⟨λO H Hs Q hs hr hq=>(Iu ak ak).sem (h1 O H Hs _ hs hr λv H' Hs' E1 r1=>⟨true,dz r1,tY (hq _ H' Hs' E1 (by simp[Rep]))⟩),λb hb O H Hs Q hs hr hq=>?_⟩;cases hb;exact(Ib cV qJ).sem (h2' O H Hs _ hs hr λH' Hs' E1=>tY (hq H' Hs' E1))
     |false =>
      simp only[O1z,M5z] at h;obtain⟨i1,i2⟩:=ih d h;refine⟨λO H Hs Q hs hr hq=>(Iu ak ak).sem (h1 O H Hs _ hs hr λv H' Hs' E1 r1=>⟨false,dz r1,vX (i1 O H' Hs' Q E1.sub (hr.same E1.vis) λw H2 Hs2 E2 r2=>hq w H2 Hs2 (E1.trans E2) r2)⟩),λb hb O H Hs Q hs hr hq=>?_⟩;exact(Ib cV qJ).sem (h2' O H Hs _ hs hr λH' Hs' E1=>vX (i2 b hb O H' Hs' Q E1.sub (hr.same E1.vis) λH2 Hs2 E2=>hq H2 Hs2 (E1.trans E2)))
   |_=>simp[asB] at h
def Mr(X:Cx)(op:CmpOp):R2:=λu v H Q=>∃Hs x y d,Same Hs H/\Rep X.K Hs x u/\Rep X.K Hs y v/\cmpop op x y=some d/\∃b,d=.bl b/\Q (.bl b) H
theorem lg{K:Zf}{H:Hp}{v:V}(h:Rep K H .non v):v=.non:=by simpa[Rep] using h
theorem qU{K:Zf}{H:Hp}{x:D}{v:V}(h:Rep K H x v):En x=decide (v=V.non):=by
  cases x with
  |non=>rw[lg h];rfl
  |bl b=>rw[dz h];rfl
  |int b=>rw[aL h];rfl
  | str b => have e : v = .str b := by simpa [Rep] using h
             rw[e];rfl
  |tup b=>obtain⟨a,vs,e,_⟩:=bL h;rw[e];rfl
  |lst b=>obtain⟨a,vs,e,_⟩:=bQ h;rw[e];rfl
  |exc c=>simp only[Rep] at h;obtain⟨a,C,e,_⟩:=h;rw[e];rfl
  |dic k x=>simp only[Rep] at h;obtain⟨a,C,e,_⟩:=h;rw[e];rfl
  | obj a => have e : v = .ref a := by simpa [Rep] using h
             rw[e];rfl
theorem lZ{K:Zf}{H:Hp}:∀{ds:List D}{ns:List Str}{vs:List V},oH ds=some ns->aJ K H ds vs->vs=ns.map V.str
 |[],ns,vs,h,r=>by
  simp only[oH,C2z] at h;subst h
  simpa[aJ] using r
 |.str i::ds,ns,vs,h,r=>by
  simp only[oH] at h;obtain⟨ms,h1,rfl⟩:=L0z.mp h;simp only[aJ] at r;obtain⟨v,rr,rfl,h2,h3⟩:=r
  have e:v=.str i:=by simpa[Rep] using h2
  rw[lZ h1 h3,e];rfl
 |.non::ds,ns,vs,h,r=>by simp[oH] at h
 |.bl _::ds,ns,vs,h,r=>by simp[oH] at h
 |.int _::ds,ns,vs,h,r=>by simp[oH] at h
 |.tup _::ds,ns,vs,h,r=>by simp[oH] at h
 |.lst _::ds,ns,vs,h,r=>by simp[oH] at h
 |.exc _::ds,ns,vs,h,r=>by simp[oH] at h
 |.dic _ _::ds,ns,vs,h,r=>by simp[oH] at h
 |.obj _::ds,ns,vs,h,r=>by simp[oH] at h
theorem jL(hr:Room k X.A)(kw:KnW X.K X.w)(op:CmpOp):OpR X (compareOp op) (Mr X op):=by
 intro z0 s O H u v w z Q I ru rv h;obtain⟨Hs,x,y,d,hs,rx,ry,hc,b,rfl,q⟩:=h;have rx':=Rep.same hs x u rx;have ry':=Rep.same hs y v ry;unfold cmpop at hc;split at hc
 .split at hc
  .rename_i hd
   rw[L2z,L2z,B2z,B2z] at hd;obtain⟨⟨hd1,hd2⟩,kk⟩:=hd;cases hc;exact(rz I X.A rx' ry' ru rv (by have:=hr.un;omega) (by omega) (by omega) kk).1 _ _ _ _ ⟨.bl _,H,I,rfl,q⟩
  .cases hc
 .split at hc
  .rename_i hd
   rw[L2z,L2z,B2z,B2z] at hd;obtain⟨⟨hd1,hd2⟩,kk⟩:=hd;cases hc;exact(rz I X.A rx' ry' ru rv (by have:=hr.un;omega) (by omega) (by omega) kk).2 _ _ _ _ ⟨.bl _,H,I,rfl,q⟩
  .cases hc
 .split at hc
  .split at hc
   .cases hc;exact Mx z0 s O H u v w z Q I ru rv ⟨_,_,aL rx,aL ry,q⟩
   .cases hc
  .cases hc
 .split at hc
  .split at hc
   .cases hc;exact Mz z0 s O H u v w z Q I ru rv ⟨_,_,aL rx,aL ry,q⟩
   .cases hc
  .split at hc
   .rename_i b _ a
    cases hc
    have ex:u=.str a:=by simpa[Rep] using rx
    have ey:v=.str b:=by simpa[Rep] using ry
    exact vB z0 s O H u v w z Q I ru rv ⟨_,_,ex,ey,q⟩
   .cases hc
  .cases hc
 .split at hc
  .split at hc
   .cases hc;exact MF z0 s O H u v w z Q I ru rv ⟨_,_,aL rx,aL ry,q⟩
   .cases hc
  .cases hc
 .split at hc
  .split at hc
   .cases hc;exact MJ z0 s O H u v w z Q I ru rv ⟨_,_,aL rx,aL ry,q⟩
   .cases hc
  .cases hc
 .split at hc
  .cases hc;rw[qU rx] at q;exact Jd z0 s O H u v w z Q I ru rv ⟨lg ry,q⟩
  .cases hc
 .split at hc
  .cases hc;rw[qU rx] at q;exact Dt z0 s O H u v w z Q I ru rv ⟨lg ry,q⟩
  .cases hc
 .split at hc
  .split at hc
   .rename_i ks ds _ a
    cases hc
    have ex:u=.str a:=by simpa[Rep] using rx
    obtain⟨p,kvs,rfl,g1,g2,g3⟩:=ry';rw[<- uo g2 g3] at q;exact Je kw z0 s O H u _ w z Q I ru rv ⟨p,kvs,.inr a,ex,rfl,g1,q⟩
   .cases hc
  .cases hc
 .cases hc
theorem Br{op:CmpOp}{x y d:D}(h:cmpop op x y=some d):∃b,d=.bl b:=by
 unfold cmpop at h
 repeat' split at h
 all_goals first|(cases h;exact⟨_,rfl⟩)|(obtain⟨_,_,rfl⟩:=L0z.mp h;exact⟨_,rfl⟩)|cases h
theorem Fp{a b:Expr}{op:CmpOp}{x y d:D}{pos:Pos}(hr:Room k X.A)(kw:KnW X.K X.w)(ha:Ev X U a x)(hb:Ev X U b y)(hm:aA b=true)(h:cmpop op x y=some d):Ev X U (.Compare a [op] [b] pos) d/\∀c,d=.bl c->EvT X U (.Compare a [op] [b] pos) c:=by
 obtain⟨c,rfl⟩:=Br h;refine⟨dG ha hb (Dp (jL hr kw op) ak ak (gA hm)) λu v H Hs Q hs r1 r2 hq=>⟨Hs,x,y,_,hs,r1,r2,h,c,rfl,hq _ H Hs (.refl hs) (by simp[Rep])⟩,λc' hc' O H Hs Q hs hst hq=>?_⟩;cases hc';refine(Dc (jL hr kw op) ak ak (gA hm)).sem (ha O H Hs _ hs hst λu H1 Hs1 E1 r1=>hb O H1 Hs1 _ E1.sub (hst.same E1.vis) λv H2 Hs2 E2 r2=>?_);exact⟨Hs2,x,y,_,E2.sub,Rep.same E2.vis x u r1,r2,h,c,rfl,c,rfl,hq H2 Hs2 (E1.trans E2)⟩
theorem vM{op op':CmpOp}{b c:Expr}(h:aA c=true):lastMarks [op,op'] [b,c]=false:=gA h
theorem wA{a b e:Expr}{op op':CmpOp}{x y d:D}{c:Bool}{pos:Pos}(hr:Room k X.A)(kw:KnW X.K X.w)(ha:Ev X U a x)(hb:Ev X U b y)(hm:aA e=true)(h:cmpop op x y=some (.bl c))(hd:(c=true->∃z,Ev X U e z/\cmpop op' y z=some d)/\(c=false->d=.bl false)) :
  Ev X U (.Compare a [op,op'] [b,e] pos) d/\∀c,d=.bl c->EvT X U (.Compare a [op,op'] [b,e] pos) c:=by
 have core:∀O H Hs Q,Same Hs H->bM X.K Hs U O->(∀v H' Hs',Ext Hs H Hs' H'->Rep X.K Hs' d v->Q v H')->uz (Mr X op) (Mr X op') (oK X a) (oK X b) (oK X e) O H Q:=by
  intro O H Hs Q hs hst hq;refine ha O H Hs _ hs hst λu H1 Hs1 E1 r1=>hb O H1 Hs1 _ E1.sub (hst.same E1.vis) λv H2 Hs2 E2 r2=>?_;refine⟨Hs2,x,y,_,E2.sub,Rep.same E2.vis x u r1,r2,h,c,rfl,c,rfl,?_⟩
  cases c with
  |false=>rw[hd.2 rfl] at hq;exact vX (hq _ H2 Hs2 (E1.trans E2) (by simp[Rep]))
  |true =>
   obtain⟨z,hz,hc⟩:=hd.1 rfl;obtain⟨c',rfl⟩:=Br hc;refine tY (hz O H2 Hs2 _ E2.sub ((hst.same E1.vis).same E2.vis) λw H3 Hs3 E3 r3=>?_);exact⟨Hs3,y,z,_,E3.sub,Rep.same E3.vis y v r2,r3,hc,c',rfl,hq _ H3 Hs3 (E1.trans (E2.trans E3)) (by simp[Rep])⟩
 refine⟨λO H Hs Q hs hst hq=>(yG (jL hr kw op) (jL hr kw op') ak ak ak (vM hm)).sem (core O H Hs Q hs hst hq),λc' hc' O H Hs Q hs hst hq=>?_⟩;subst hc';exact(yx (jL hr kw op) (jL hr kw op') ak ak ak (vM hm)).sem (core O H Hs _ hs hst λv H' Hs' E1 r1=>⟨c',dz r1,hq H' Hs' E1⟩)
theorem JX{c a b:Expr}{t:Bool}{d:D}{pos:Pos}(hc:EvT X U c t)(ha:t=true->Ev X U a d)(hb:t=false->Ev X U b d):Ev X U (.IfExp c a b pos) d:=λO H Hs Q hs hst hq =>
 (lA cV ak ak).sem (hc O H Hs _ hs hst λH1 Hs1 E1=>by
  cases t with
  |true=>exact tY (ha rfl O H1 Hs1 Q E1.sub (hst.same E1.vis) λv H' Hs' E2 r=>hq v H' Hs' (E1.trans E2) r)
  | false=>exact vX (hb rfl O H1 Hs1 Q E1.sub (hst.same E1.vis) λv H' Hs' E2 r=>hq v H' Hs' (E1.trans E2) r))
theorem Bm{c a b:Expr}{t r:Bool}{pos:Pos}(hc:EvT X U c t)(ha:t=true->EvT X U a r)(hb:t=false->EvT X U b r):EvT X U (.IfExp c a b pos) r:=by
 intro O H Hs Q hs hst hq z0 s I;refine isTrue_IfExp (thn (hc O H Hs (λb' H'=>b'=t/\∃Hs',Ext Hs H Hs' H') hs hst (λH1 Hs1 E1=>⟨rfl,Hs1,E1⟩) z0 s I) λb' s2 ⟨H2,I2,e2,Hs2,E2⟩=>?_);subst e2
 cases b' with
 |true=>exact tY (ha rfl O H2 Hs2 Q E2.sub (hst.same E2.vis) (λH' Hs' E3=>hq H' Hs' (E2.trans E3)) z0 s2 I2)
 |false=>exact vX (hb rfl O H2 Hs2 Q E2.sub (hst.same E2.vis) (λH' Hs' E3=>hq H' Hs' (E2.trans E3)) z0 s2 I2)
theorem eV{f:Expr->Option D}:∀{es:List Expr}{ds:List D},(∀e∈es,∀d,f e=some d->Ev X U e d/\aA e=true)->jw f es=some ds->EvA X U es ds/\(∀e∈es,aA e=true)
 |[],ds,_,h=>by
  simp only[jw,C2z] at h;subst h;exact⟨λO H Hs Q hs hst hq=>cg.sem (hq [] H Hs (.refl hs) .nil),λe he=>absurd he (by simp)⟩
 |e::es,ds,hf,h=>by
  simp only[jw,bind,Option.bind] at h
  cases he:f e with
  |none=>rw[he] at h;cases h
  |some d =>
   rw[he] at h;simp only at h
   cases hr:jw f es with
   |none=>rw[hr] at h;cases h
   |some dr =>
    rw[hr] at h;simp only[C2z] at h;subst h;obtain⟨h1,hp⟩:=hf e (by simp) d he;obtain⟨h2,hps⟩:=eV (λa ha=>hf a (S0z _ ha)) hr;refine⟨λO H Hs Q hs hst hq=>(aY ak bW (aj hp)).sem (h1 O H Hs _ hs hst λv H1 Hs1 E1 r1=>h2 O H1 Hs1 _ E1.sub (hst.same E1.vis) λvs H2 Hs2 E2 r2=>?_),λa ha=>?_⟩
    .exact hq _ H2 Hs2 (E1.trans E2) (.cons (Rep.same E2.vis d v r1) r2)
    .rcases L4z.mp ha with rfl|ha
     .exact hp
     .exact hps a ha
theorem zB{es:List Expr}{ds:List D}{j:Nat}{pos:Pos}(h:EvA X U es ds)(hz:szl ds.length=true):Ev X U (.Tuple es j pos) (.tup ds):=λO H Hs Q hs hst hq =>
 (Ir bW).sem (h O H Hs _ hs hst λvs H1 Hs1 E1 r1=>⟨by rw[<- r1.length];exact eH hz,λp hp=>lF E1.sub r1 hp λw H' Hs' E2 r2=>hq w H' Hs' (E1.trans E2) r2⟩)
theorem Fb{es:List Expr}{ds:List D}{pos:Pos}(h:EvA X U es ds)(hz:szl ds.length=true):Ev X U (.List es pos) (.lst ds):=λO H Hs Q hs hst hq =>
 (Aw bW).sem (h O H Hs _ hs hst λvs H1 Hs1 E1 r1=>⟨by rw[<- r1.length];exact eH hz,λp hp=>lG E1.sub r1 hp λw H' Hs' E2 r2=>hq w H' Hs' (E1.trans E2) r2⟩)
theorem Jy(n:Nat)(i:Int):ixD n i=ixN n i:=rfl
theorem xr{K:Zf}{H:Hp}{ds:List D}{vs:List V}{i:Int}{d:D}(h:aJ K H ds vs)(e:atD ds i=some d):∃v,atI vs i=some v/\Rep K H d v:=by
 unfold atD at e;rw[Jy,h.length] at e
 cases q:ixN vs.length i with
 |none=>rw[q] at e;cases e
 |some j =>
  rw[q] at e;obtain⟨v,h1,h2⟩:=h.get (i:=j) (d:=d) e;exact⟨v,by unfold atI;rw[q];exact h1,h2⟩
theorem CG{K:Zf}{H:Hp}{ks:List (Sum Int Str)}{ds:List D}{v:V}(h:Rep K H (.dic ks ds) v):∃(a:Addr)(kvs:List (Key×V)),v=.ref a/\DAt K H a kvs/\kvs.map (·.1)=ks/\aJ K H ds (kvs.map (·.2)):=by simpa[Rep] using h
theorem um{K:Zf}{H:Hp}{k:Key}{d:D}:∀{kvs:List (Key×V)}{ds:List D},aJ K H ds (kvs.map (·.2))->kI (kvs.map (·.1)) ds k=some d->∃v,qt kvs k=some v/\Rep K H d v
 |[],ds,r,h=>by simp[kI] at h
 |(k',v')::kvs,ds,r,h=>by
  cases ds with
  |nil=>simp[kI] at h
  |cons d' ds =>
   simp only[G4z,aJ] at r;obtain⟨v,rr,e,h2,h3⟩:=r;cases e;unfold kI at h;simp only[G4z,T1z,List.find?_cons] at h;unfold qt;rw[List.find?_cons]
   by_cases q:k'=k
   .simp only[q,decide_true] at h ⊢
    simp only[L3z,C2z] at h ⊢;subst h;exact⟨v',rfl,h2⟩
   .simp only[q,decide_false] at h ⊢
    exact um h3 h
theorem Ej{K:Zf}{H:Hp}{d:D}{v:V}{k:Key}(h:KQ d=some k)(r:Rep K H d v):v=kV k:=by
 cases d<;>simp[KQ] at h
 .subst h;exact aL r
 .subst h
  rename_i x
  have e:v=.str x:=by simpa[Rep] using r
  exact e
theorem Fi{a b:Expr}{ks:List (Sum Int Str)}{ds:List D}{y d:D}{k':Key}{pos:Pos}(kw:KnW X.K X.w)(ha:Ev X U a (.dic ks ds))(hb:Ev X U b y)(hp:aA b=true)(hk:KQ y=some k')(hd:kI ks ds k'=some d):Ev X U (.Subscript a b pos) d:=by
 intro O H Hs Q hs hst hq;refine PE.sem (Dm kw ak ak λov iv=>gZ hp ov iv) (ha O H Hs _ hs hst λv H1 Hs1 E1 r1=>hb O H1 Hs1 _ E1.sub (hst.same E1.vis) λu H2 Hs2 E2 r2=>?_);have rdE:∀{H1 H2:Hp}{a:Addr}{u:List (Key×V)},Same H1 H2->DAt X.K H1 a u->DAt X.K H2 a u:=λe r=>r.elim (λ⟨o,q⟩=>.inl ⟨o,e _ _ q⟩) .inr;obtain⟨p,kvs,rfl,h1,rfl,h3⟩:=CG (Rep.same E2.vis _ v r1);obtain⟨w,h4,h5⟩:=um h3 hd;exact⟨p,w,kvs,k',rfl,rdE E2.sub h1,Ej hk r2,h4.symm,hq w H2 Hs2 (E1.trans E2) h5⟩
theorem qY{a b:Expr}{x d:D}{i:Int}{xs:List D}{pos:Pos}(ha:Ev X U a x)(hb:Ev X U b (.int i))(hp:aA b=true)(hx:items x=some xs)(hd:atD xs i=some d):Ev X U (.Subscript a b pos) d:=by
 cases x with
 |tup ys =>
  simp only[items,C2z] at hx;subst hx;refine dG ha hb (Dn Jw ak ak (gZ hp)) λu v H Hs Q hs r1 r2 hq=>?_;obtain⟨p,vs,rfl,h1,h2⟩:=bL r1;obtain⟨w,h3,h4⟩:=xr h2 hd;exact⟨p,vs,i,w,rfl,aL r2,hs.tup h1,h3,hq w H Hs (.refl hs) h4⟩
 |lst ys =>
  simp only[items,C2z] at hx;subst hx;refine dG ha hb (Dn El ak ak (gZ hp)) λu v H Hs Q hs r1 r2 hq=>?_;obtain⟨p,vs,rfl,h1,h2⟩:=bQ r1;obtain⟨w,h3,h4⟩:=xr h2 hd;exact⟨p,vs,i,w,rfl,aL r2,hs.seq h1,h3,hq w H Hs (.refl hs) h4⟩
 |_=>simp[items] at hx
theorem eN(n d:Nat)(o:Option Int):jy n d o=HT.sIx n d o:=by cases o<;>rfl
theorem wN{K:Zf}{H:Hp}{ds:List D}{vs:List V}(lo hi:Option Int)(h:aJ K H ds vs):aJ K H (nM ds lo hi) (Bp vs lo hi):=by
 unfold nM Bp;rw[eN,eN,h.length];exact(h.drop _).take _
def EvO(X:Cx)(U:Rho)(e:Option Expr)(o:Option Int):Prop:=∃t:TO,PO X e t/\∀O H Hs Q,Same Hs H->bM X.K Hs U O->(∀H' Hs',Ext Hs H Hs' H'->Q o H')->t O H Q
theorem wz{a b:Expr}{z:Str}{i:Int}{j c:Nat}{pos:Pos}(ha:Ev X U a (.str z))(hb:Ev X U b (.int i))(hp:aA b=true)(hz:szl z.length=true)(hj:ixD z.length i=some j)(hc:z.cps.toList[j]?=some c):Ev X U (.Subscript a b pos) (.str ⟨#[c]⟩):=by
 refine dG ha hb (Dn Jx ak ak (gZ hp)) λu v H Hs Q hs r1 r2 hq=>?_
 have hl:z.cps.toList.length=z.length:=by simp[Str.length]
 refine⟨z,i,c,cL r1,aL r2,eH hz,?_,hq _ H Hs (.refl hs) (by simp[Rep])⟩;show(ixN z.cps.toList.length i).bind (z.cps.toList[·]?)=some c;rw[hl,show ixN z.length i=some j from hj];exact hc
theorem zR:EvO X U none none:=⟨_,Dh,λO H Hs Q hs hst hq=>hq H Hs (.refl hs)⟩
theorem zQ{e:Expr}{i:Int}(h:Ev X U e (.int i)):EvO X U (some e) (some i):=⟨_,Dg ak,λO H Hs Q hs hst hq=>h O H Hs _ hs hst λv H' Hs' E1 r1=>⟨i,aL r1,hq H' Hs' E1⟩⟩
theorem zG{a:Expr}{lo hi:Option Expr}{l u:Option Int}{xs:List D}{p2 pos:Pos}(ha:Ev X U a (.tup xs))(hl:EvO X U lo l)(hu:EvO X U hi u)(hw:¬ (jy xs.length 0 l=0/\jy xs.length xs.length u=xs.length)) :
  Ev X U (.Subscript a (.Slice lo hi none p2) pos) (.tup (nM xs l u)):=by
 obtain⟨tl,pl,ql⟩:=hl;obtain⟨tu,pu,qu⟩:=hu;intro O H Hs Q hs hst hq;refine(ig Hy ak pl pu).sem (ha O H Hs _ hs hst λv H1 Hs1 E1 r1=>ql O H1 Hs1 _ E1.sub (hst.same E1.vis) λH2 Hs2 E2=>qu O H2 Hs2 _ E2.sub ((hst.same E1.vis).same E2.vis) λH3 Hs3 E3=>?_);obtain⟨p,vs,rfl,h1,h2⟩:=bL (Rep.same (E2.trans E3).vis _ _ r1);refine⟨p,vs,rfl,E3.sub.tup h1,?_,λq hq'=>lF E3.sub (wN l u h2) hq' λw H' Hs' E4 r4=>hq w H' Hs' (E1.trans (E2.trans (E3.trans E4))) r4⟩;rw[eN,eN,h2.length] at hw;exact hw
theorem wj{a:Expr}{lo hi:Option Expr}{l u:Option Int}{xs:List D}{p2 pos:Pos}(ha:Ev X U a (.tup xs))(hl:EvO X U lo l)(hu:EvO X U hi u)(hw:jy xs.length 0 l=0/\jy xs.length xs.length u=xs.length) :
  Ev X U (.Subscript a (.Slice lo hi none p2) pos) (.tup xs):=by
 obtain⟨tl,pl,ql⟩:=hl;obtain⟨tu,pu,qu⟩:=hu;intro O H Hs Q hs hst hq;refine(ig Cm ak pl pu).sem (ha O H Hs _ hs hst λv H1 Hs1 E1 r1=>ql O H1 Hs1 _ E1.sub (hst.same E1.vis) λH2 Hs2 E2=>qu O H2 Hs2 _ E2.sub ((hst.same E1.vis).same E2.vis) λH3 Hs3 E3=>?_);have r3:=Rep.same (E2.trans E3).vis _ _ r1;obtain⟨p,vs,rfl,h1,h2⟩:=bL r3;refine⟨p,vs,rfl,E3.sub.tup h1,?_,hq _ H3 Hs3 (E1.trans (E2.trans E3)) r3⟩;rw[eN,eN,h2.length] at hw;exact hw
theorem wu{a:Expr}{lo hi:Option Expr}{l u:Option Int}{xs:List D}{p2 pos:Pos}(ha:Ev X U a (.lst xs))(hl:EvO X U lo l)(hu:EvO X U hi u) :
  Ev X U (.Subscript a (.Slice lo hi none p2) pos) (.lst (nM xs l u)):=by
 obtain⟨tl,pl,ql⟩:=hl;obtain⟨tu,pu,qu⟩:=hu;intro O H Hs Q hs hst hq;refine(ig Cp ak pl pu).sem (ha O H Hs _ hs hst λv H1 Hs1 E1 r1=>ql O H1 Hs1 _ E1.sub (hst.same E1.vis) λH2 Hs2 E2=>qu O H2 Hs2 _ E2.sub ((hst.same E1.vis).same E2.vis) λH3 Hs3 E3=>?_);obtain⟨p,vs,rfl,h1,h2⟩:=bQ (Rep.same (E2.trans E3).vis _ _ r1);exact⟨p,vs,rfl,E3.sub.seq h1,λq hq'=>lG E3.sub (wN l u h2) hq' λw H' Hs' E4 r4=>hq w H' Hs' (E1.trans (E2.trans (E3.trans E4))) r4⟩
theorem wk{a:Expr}{lo hi:Option Expr}{l u:Option Int}{z:Str}{p2 pos:Pos}(ha:Ev X U a (.str z))(hz:szl z.length=true)(hl:EvO X U lo l)(hu:EvO X U hi u) :
  Ev X U (.Subscript a (.Slice lo hi none p2) pos) (.str (tZ z l u)):=by
 obtain⟨tl,pl,ql⟩:=hl;obtain⟨tu,pu,qu⟩:=hu
 have e:tZ z l u=cutX z l u:=by unfold tZ cutX;rw[eN,eN]
 rw[e];intro O H Hs Q hs hst hq;refine(ig Hz ak pl pu).sem (ha O H Hs _ hs hst λv H1 Hs1 E1 r1=>ql O H1 Hs1 _ E1.sub (hst.same E1.vis) λH2 Hs2 E2=>qu O H2 Hs2 _ E2.sub ((hst.same E1.vis).same E2.vis) λH3 Hs3 E3=>?_);exact⟨z,cL r1,eH hz,hq _ H3 Hs3 (E1.trans (E2.trans E3)) (by simp[Rep])⟩
theorem Fq{f:Str}{es:List Expr}{ds:List D}{d:D}{p pos:Pos}(G:Good cx k X sc)(hg:Gl X f)(hf:cx.fns.contains f=true)(hne:es≠[])(h:EvA X U es ds)(hp:∀e∈es,aA e=true)(hc:cx.call f ds=some d) :
  Ev X U (.Call (.Name f p) es [] pos) d:=by
 obtain⟨hdb,a,fd,ps,har,_,hm,hk,hb,F⟩:=G.fns f hf
 cases es with
 |nil=>exact absurd rfl hne
 |cons e es =>
  intro O H Hs Q hs hst hq;refine(Dq F G.room hg hm hk hb .nil IV bW hdb (aj (hp e (by simp))) (fV λe' he=>hp e' (S0z _ he))).sem (h O H Hs _ hs hst λvs H1 Hs1 E1 r1=>?_);refine⟨?_,Hs1,ds,E1.sub,?_,.inl ⟨d,hc,λv H' Hs' E2 r2=>hq v H' Hs' (E1.trans E2) r2⟩⟩
  .rw[G3z,<- r1.length,har ds d hc]
  .rw[G3z];exact r1
theorem zN{f:Str}{d:D}{p pos:Pos}(G:Good cx k X sc)(hg:Gl X f)(hf:cx.fns.contains f=true)(hc:cx.call f []=some d):Ev X U (.Call (.Name f p) [] [] pos) d:=by
 obtain⟨hdb,a,fd,ps,har,_,hm,hk,hb,F⟩:=G.fns f hf;intro O H Hs Q hs hst hq;refine(yH F G.room hg hm hk hb .nil IV hdb).sem ⟨?_,Hs,[],hs,.nil,.inl ⟨d,hc,λv H' Hs' E2 r2=>hq v H' Hs' E2 r2⟩⟩;rw[<- har [] d hc];rfl
def Kz(X:Cx)(f:Value):List V->Hp->VK->Prop:=λvs H Q=>∀z0 s O us,Inv X z0 O H s->Vals vs us->wpAny (model X.prog X.w) X.A (call f us) (EP X z0 O Q) X.xe s
theorem bK{f:Value}:cT X f (Kz X f):=λz0 s O H xs us Q I r h=>h z0 s O us I r
theorem cT.sem{f:Value}{r:List V->Hp->VK->Prop}{vs:List V}{H:Hp}{Q:VK}(h:cT X f r)(q:r vs H Q):Kz X f vs H Q:=λz0 s O us I rv=>h z0 s O H vs us Q I rv q
def EvC(X:Cx)(f:Value)(ds:List D)(d:D):Prop:=∀vs H Hs Q,Same Hs H->aJ X.K Hs ds vs->(∀v H' Hs',Ext Hs H Hs' H'->Rep X.K Hs' d v->Q v H')->Kz X f vs H Q
theorem oZ{K:Zf}{H:Hp}{d:D}{vs:List V}(h:aJ K H [d] vs):∃v,vs=[v]/\Rep K H d v:=by
 simp only[aJ] at h;obtain⟨v,r,rfl,h1,h2⟩:=h;subst h2;exact⟨v,rfl,h1⟩
theorem Mi{K:Zf}{H:Hp}{d e:D}{vs:List V}(h:aJ K H [d,e] vs):∃v w,vs=[v,w]/\Rep K H d v/\Rep K H e w:=by
 simp only[aJ] at h;obtain⟨v,r,rfl,h1,w,r2,rfl,h2,h3⟩:=h;subst h3;exact⟨v,w,rfl,h1,h2⟩
theorem uV{K:Zf}{H:Hp}{d:D}{l:List D}{v:V}(h:Rep K H d v)(e:items d=some l):∃a vs,v=.ref a/\(SqL K H a vs\/SqT K H a vs)/\aJ K H l vs:=by
 cases d with
 |tup xs=>simp only[items,C2z] at e;subst e;obtain⟨a,vs,e1,e2,e3⟩:=bL h;exact⟨a,vs,e1,.inr e2,e3⟩
 |lst xs=>simp only[items,C2z] at e;subst e;obtain⟨a,vs,e1,e2,e3⟩:=bQ h;exact⟨a,vs,e1,.inl e2,e3⟩
 |_=>simp[items] at e
theorem iH{K:Zf}{H:Hp}:∀{ds:List D}{bs:List Bool}{vs:List V},oJ ds=some bs->aJ K H ds vs->vs=bs.map V.bl
 |[],ns,vs,h,r=>by
  simp only[oJ,C2z] at h;subst h
  simpa[aJ] using r
 |.bl i::ds,ns,vs,h,r=>by
  simp only[oJ,L0z] at h;obtain⟨ms,h1,rfl⟩:=h;simp only[aJ] at r;obtain⟨v,r',rfl,h2,h3⟩:=r;rw[dz h2,iH h1 h3];rfl
 |.non::ds,ns,vs,h,r=>by simp[oJ] at h
 |.int _::ds,ns,vs,h,r=>by simp[oJ] at h
 |.str _::ds,ns,vs,h,r=>by simp[oJ] at h
 |.tup _::ds,ns,vs,h,r=>by simp[oJ] at h
 |.lst _::ds,ns,vs,h,r=>by simp[oJ] at h
 |.exc _::ds,ns,vs,h,r=>by simp[oJ] at h
 |.dic _ _::ds,ns,vs,h,r=>by simp[oJ] at h
 |.obj _::ds,ns,vs,h,r=>by simp[oJ] at h
theorem ju:∀{bs:List Bool}{us:List Value},Vals (bs.map V.bl) us->LSm.BoolsAre us bs
 |[],us,r=>by rw[List.map_nil] at r;cases r;exact .nil
 |b::bs,us,r=>by
  rw[G4z] at r
  cases r with
  |cons r1 r2 =>
   cases (show _=Value.bool b from r1);exact .cons b (ju r2)
theorem wZ(hc:X.calm=true):cT X (.builtin "all") (λxs H Q=>∃(p:Addr)(bs:List Bool),xs=[.ref p]/\SqL X.K H p (bs.map V.bl)/\Q (.bl (bs.all id)) H):=by
 intro z0 s O H xs us Q I r h;obtain⟨p,bs,rfl,hq,q⟩:=h;obtain⟨u,rfl,rx⟩:=vals1 r;cases (show u=Value.ref p from rx);obtain⟨its,r',pl,hz⟩:=I.list hq;have hb:=ju r';have hl:=pl.isList
 have hlt:p<s.heap.objs.size:=by obtain⟨_,e,_⟩:=hl;exact P4z e
 refine call_all_walk (wpAny_pyIter_list hl ⟨s.heap.objs.size,[s.heap.objs.size,p],[s.heap.objs.size],its.toArray.size,_,_,λi=>(bs[i]?).getD true,rfl,Walks.list (A:=X.A.in1) (I.ok.hd hc) _ p (Q4z hlt) its.toArray,⟨⟨_,Heap.get?_push_size _ rfl,rfl,rfl⟩,hl.push _⟩,λi v s' Q' E' hP hQ=>?_,λh' tk hk=>?_⟩)
 .obtain⟨b,e,rfl⟩:=hb.get i v (by simpa using hP)
  simp only[e,Option.getD_some] at hQ;exact V1z hQ
 .have e:((List.range its.toArray.size).all λi=>(bs[i]?).getD true)=bs.all id:=by rw[X1z,hb.length];exact LSm.range_all bs
  rw[e];exact⟨.bl _,H,I.kept (LSm.kept_iter hk),rfl,q⟩
theorem Ey{d0:D}{l:List D}(hl:items d0=some l):EvC X (.type "tuple") [d0] (.tup l):=by
 intro vs H Hs Q hs hr hq;obtain⟨v,rfl,r1⟩:=oZ hr;refine cT.sem lV ?_
 cases d0 with
 |tup xs =>
  simp only[items,C2z] at hl;subst hl
  obtain⟨a,us,rfl,h1,h2⟩:=bL r1;exact⟨a,us,rfl,.inr ⟨hs.tup h1,hq _ H Hs (.refl hs) r1⟩⟩
 |lst xs =>
  simp only[items,C2z] at hl;subst hl
  obtain⟨a,us,rfl,h1,h2⟩:=bQ r1;exact⟨a,us,rfl,.inl ⟨hs.seq h1,λp hp=>lF hs h2 hp hq⟩⟩
 |_=>simp[items] at hl
def Sx:String->Value
 |"tuple"=>.type "tuple"
 |"list"=>.type "list"
 |"int"=>.type "int"
 |"dict"=>.type "dict"
 |"str"=>.type "str"
 |b=>.builtin b
theorem zK(hc:X.calm=true){xs:List D}{l:List (Sum Int Str×D)}(h:m6 xs=some l):EvC X (.type "dict") [.lst xs] (wJ (R8 l)):=by
 intro vs H Hs Q hs hr hq
 obtain⟨v,rfl,a,us,rfl,h1,h2⟩:∃v,vs=[v]/\Rep X.K Hs (.lst xs) v:=by
  obtain⟨v,t,rfl,r1,r2⟩:=hr;cases (show t=[] from r2);exact⟨v,rfl,r1⟩
 obtain⟨kvs,p1,p2,p3⟩:=u5 h h2;obtain⟨m1,m2⟩:=nA (l0:=[]) (kvs0:=[]) p2 p3 rfl rfl;refine cT.sem (tO hc) ⟨a,us,kvs,rfl,hs.seq h1,prs_same hs p1,λp ob hp=>?_⟩;have E:=Ext.new hs (.frz ob (.dK (fK [] kvs))) hp;exact hq _ _ _ E ⟨p,_,rfl,.inl ⟨ob,aV⟩,m1,aJ.same E.vis _ _ m2⟩
where
 prs_same {K:Zf} {Hs H:Hp} (hs:Same Hs H):∀{vs:List V}{kvs:List (Key×V)},tV K Hs vs kvs->tV K H vs kvs
  |[],_,h=>h
  |_::_,_,h=>by
   obtain⟨b,k,v,q,e1,e2,e3,e4⟩:=h
   exact⟨b,k,v,q,e1,e2,hs.tup e3,prs_same hs e4⟩
theorem jd{c:Prop}[Decidable c]{a b:Option D}{d:D}(h:(if c then a else b)=some d):c/\a=some d\/¬c/\b=some d:=by
 by_cases hc:c
 .exact .inl ⟨hc,by rwa [P5z hc] at h⟩
 .exact .inr ⟨hc,by rwa [Q5z hc] at h⟩
theorem J1{b:String}{ds:List D}{d:D}(hc:X.calm=true)(kw:KnW X.K X.w)(h:DE.blt b ds=some d):EvC X (Sx b) ds d:=by
 intro vs H Hs Q hs hr hq;unfold DE.blt at h;split at h
 .have h0:=jd h
  clear h;rcases h0 with⟨hb,h⟩|⟨-,h⟩
  .subst hb
   split at h
   .split at h
    .rename_i x hz
     cases h;obtain⟨v,rfl,r1⟩:=oZ hr
     have e:v=.str x:=by simpa[Rep] using r1
     subst e;exact cT.sem nZ ⟨x,rfl,eH hz,hq _ H Hs (.refl hs) (by simp[Rep])⟩
    .cases h
   .simp only[bind,Option.bind] at h
    split at h
    .cases h
    .rename_i l hl
     cases h;obtain⟨v,rfl,r1⟩:=oZ hr;obtain⟨a,us,rfl,h1,h2⟩:=uV r1 hl;refine cT.sem n6 ⟨a,us,rfl,h1.imp hs.seq hs.tup,?_⟩;rw[<- h2.length];exact hq _ H Hs (.refl hs) (by simp[Rep])
  .have h0:=jd h
   clear h;rcases h0 with⟨hb,h⟩|⟨-,h⟩
   .subst hb
    split at h
    .simp only[bind,Option.bind] at h
     split at h
     .cases h
     .rename_i l hl
      cases h;obtain⟨v,rfl,r1⟩:=oZ hr;obtain⟨a,us,rfl,h1,h2⟩:=bQ r1;have e:=iH hl h2;subst e;exact cT.sem (wZ hc) ⟨a,_,rfl,hs.seq h1,hq _ H Hs (.refl hs) (by simp[Rep])⟩
    .cases h
   .have h0:=jd h
    clear h;rcases h0 with⟨hb,h⟩|⟨-,h⟩
    .subst hb
     simp only[bind,Option.bind] at h;split at h
     .cases h
     .rename_i l hl
      cases h;exact Ey hl vs H Hs Q hs hr hq
    .have h0:=jd h
     clear h;rcases h0 with⟨hb,h⟩|⟨-,h⟩
     .subst hb
      split at h
      .cases h
       obtain⟨v,rfl,r1⟩:=oZ hr;exact cT.sem Ad ⟨_,by rw[aL r1],hq _ H Hs (.refl hs) (by simp[Rep])⟩
      .cases h
     .have h0:=jd h
      clear h;rcases h0 with⟨hb,h⟩|⟨-,h⟩
      .subst hb
       split at h
       .split at h
        .rename_i hz
         cases h;obtain⟨v,rfl,r1⟩:=oZ hr;exact cT.sem nY ⟨_,by rw[aL r1],D2z hz,hq _ H Hs (.refl hs) (by simp[Rep])⟩
        .cases h
       .cases h
      .have h0:=jd h
       clear h;rcases h0 with⟨hb,h⟩|⟨-,h⟩
       .subst hb
        split at h
        .split at h
         .rename_i hz
          obtain⟨n,h1,rfl⟩:=L0z.mp h;obtain⟨v,rfl,r1⟩:=oZ hr;exact cT.sem lW ⟨_,n,by rw[cL r1],h1,D2z hz,hq _ H Hs (.refl hs) (by simp[Rep])⟩
         .cases h
        .cases h
       .have h0:=jd h
        clear h;rcases h0 with⟨hb,h⟩|⟨-,h⟩
        .subst hb
         split at h
         .obtain⟨l,h1,rfl⟩:=L0z.mp h
          exact zK hc h1 vs H Hs Q hs hr hq
         .cases h
        .cases h
 .cases h
end
end L2
namespace L2
open PySem PySem.Spec PyProof.Rows PySem.SeqAt
section
variable{prog:Program}{w:World}{A:Around}{I:Addr}{fp wr:List Addr}{n:Nat}{P:Nat->Value->Prop}{St:Nat->Heap->Prop}
end
end L2
namespace L2
open PySem PySem.Spec PyProof.Rows DE PySem.SeqAt
section
variable{X:Cx}{U:Rho}{cx:Cxt}{k:Nat}{sc:Scope}
theorem bZ{x:Str}{b:String}(G:Good cx k X sc)(h:bh cx sc x=some b):Gl X x/\X.mg x=none/\x=Str.ofString b:=by
 unfold bh jB at h;split at h
 .rename_i hg
  have e:sc.names.lookup x=some .globalImplicit:=by simpa using hg
  refine⟨?_,G.blt x b h⟩;show X.env.scope.names.lookup x=_;rw[G.sce,e]
 .cases h
theorem xg{b:String}{ds:List D}{d:D}(h:DE.blt b ds=some d):b="len"\/b="all"\/b="sum"\/b="tuple"\/b="list"\/b="min"\/b="max"\/b="abs"\/b="int"\/b="any"\/b="dict"\/b="sorted"\/b="str":=by
 by_cases e:b="len"\/b="all"\/b="sum"\/b="tuple"\/b="list"\/b="min"\/b="max"\/b="abs"\/b="int"\/b="any"\/b="dict"\/b="sorted"\/b="str"
 .exact e
 .simp only[not_or] at e
  unfold DE.blt at h;split at h
  all_goals simp[e] at h
theorem zP{x:Str}{b:String}{e:Expr}{es:List Expr}{ds:List D}{d:D}{p pos:Pos}(G:Good cx k X sc)(hx:bh cx sc x=some b)(h:EvA X U (e::es) ds)(hp:∀a∈e::es,aA a=true)(hd:DE.blt b ds=some d) :
  Ev X U (.Call (.Name x p) (e::es) [] pos) d:=by
 obtain⟨hg,hm,rfl⟩:=bZ G hx;have c:=J1 (X:=X) G.calm G.kw hd;have s1:=aj (env:=X.env) (es:=es) (hp e (by simp));have s2:=fV (env:=X.env) (pos:=pos) λa ha=>hp a (S0z _ ha)
 have fin:∀f:Value,Sx b=f->PE X (.Call (.Name (Str.ofString b) p) (e::es) [] pos) (tCB (Kz X f) (ux X (e::es)))->Ev X U (.Call (.Name (Str.ofString b) p) (e::es) [] pos) d:=by
  intro f hf hpe O H Hs Q hs hst hq;rw[hf] at c;refine hpe.sem (h O H Hs _ hs hst λvs H1 Hs1 E1 r1=>?_);exact c vs H1 Hs1 Q E1.sub r1 λv H' Hs' E2 r2=>hq v H' Hs' (E1.trans E2) r2
 rcases xg hd with rfl|rfl|rfl|rfl|rfl|rfl|rfl|rfl|rfl|rfl|rfl|rfl|rfl
 .exact fin (.builtin "len") rfl (cj bK hg hm (by decide +kernel) bW (by decide) (by decide) s1 s2)
 .exact fin (.builtin "all") rfl (cj bK hg hm (by decide +kernel) bW (by decide) (by decide) s1 s2)
 .exact fin (.builtin "sum") rfl (cj bK hg hm (by decide +kernel) bW (by decide) (by decide) s1 s2)
 .exact fin (.type "tuple") rfl (eU bK hg hm (by decide +kernel) bW (by decide) (by decide) s1 s2)
 .exact fin (.type "list") rfl (eU bK hg hm (by decide +kernel) bW (by decide) (by decide) s1 s2)
 .exact fin (.builtin "min") rfl (cj bK hg hm (by decide +kernel) bW (by decide) (by decide) s1 s2)
 .exact fin (.builtin "max") rfl (cj bK hg hm (by decide +kernel) bW (by decide) (by decide) s1 s2)
 .exact fin (.builtin "abs") rfl (cj bK hg hm (by decide +kernel) bW (by decide) (by decide) s1 s2)
 .exact fin (.type "int") rfl (eU bK hg hm (by decide +kernel) bW (by decide) (by decide) s1 s2)
 .exact fin (.builtin "any") rfl (cj bK hg hm (by decide +kernel) bW (by decide) (by decide) s1 s2)
 .exact fin (.type "dict") rfl (eU bK hg hm (by decide +kernel) bW (by decide) (by decide) s1 s2)
 .exact fin (.builtin "sorted") rfl (cj bK hg hm (by decide +kernel) bW (by decide) (by decide) s1 s2)
 .exact fin (.type "str") rfl (eU bK hg hm (by decide +kernel) bW (by decide) (by decide) s1 s2)
def TF(K:Zf)(T:String):List V->Hp->VK->Prop:=λxs H Q=>∃x d,xs=[x,.ty T]/\Rep K H d x/\isExc d=false/\Q (.bl (jV T d)) H
theorem qx{T:String}(h:fL T=true):T="int"\/T="bool"\/T="tuple"\/T="list"\/T="str":=by
 unfold fL at h
 split at h<;>first|(simp;done)|cases h
theorem rM{x:V}{vs:List V}{us:List Value}(r:Vals (x::vs) us):∃u w,us=u::w/\RelV x u/\Vals vs w:=by
 cases r with
 |cons r rr=>exact⟨_,_,rfl,r,rr⟩
theorem Ac{T:String}(hk:fL T=true):cT X (.builtin "isinstance") (TF X.K T):=by
 intro z0 s O H xs us Q I r h;obtain⟨x,d,rfl,rd,hne,q⟩:=h;obtain⟨u,w1,rfl,rx,rr⟩:=rM r;obtain⟨c,w2,rfl,rc,rr2⟩:=rM rr;cases rr2;cases (show c=Value.type T from rc);have fin:∀b,b=jV T d->∀tk,EP X z0 O Q (.bool b) {s with toks:=tk}:=λb hb tk=>⟨.bl _,H,I.tok _,by rw[hb];rfl,q⟩;have ks:=qx hk
 cases d with
 |exc c=>exact absurd hne (by simp[isExc])
 |dic _ _=>exact absurd hne (by simp[isExc])
 |obj _=>exact absurd hne (by simp[isExc])
 |non =>
  cases lg rd;cases (show u=Value.none from rx)
  rcases ks with rfl|rfl|rfl|rfl|rfl<;>exact Q3z (b:=false) W.kitx_none I.kIn True.intro rfl (λz=>nomatch z) (fin _ rfl)
 |bl y =>
  cases dz rd;cases (show u=Value.bool y from rx)
  rcases ks with rfl|rfl|rfl|rfl|rfl
  .exact Q3z (b:=true) E2z I.kIn True.intro rfl (λz=>nomatch z) (fin _ rfl)
  .exact Q3z (b:=true) E2z I.kIn True.intro rfl (λz=>nomatch z) (fin _ rfl)
  .exact Q3z (b:=false) E2z I.kIn True.intro rfl (λz=>nomatch z) (fin _ rfl)
  .exact Q3z (b:=false) E2z I.kIn True.intro rfl (λz=>nomatch z) (fin _ rfl)
  .exact Q3z (b:=false) E2z I.kIn True.intro rfl (λz=>nomatch z) (fin _ rfl)
 |int y =>
  cases aL rd;obtain⟨t,e⟩:=(show ∃t,u=Value.int y t from rx);cases e;rcases ks with rfl|rfl|rfl|rfl|rfl
  .exact Q3z (b:=true) V2z I.kIn True.intro rfl (λz=>nomatch z) (fin _ rfl)
  .exact Q3z (b:=false) V2z I.kIn True.intro rfl (λz=>nomatch z) (fin _ rfl)
  .exact Q3z (b:=false) V2z I.kIn True.intro rfl (λz=>nomatch z) (fin _ rfl)
  .exact Q3z (b:=false) V2z I.kIn True.intro rfl (λz=>nomatch z) (fin _ rfl)
  .exact Q3z (b:=false) V2z I.kIn True.intro rfl (λz=>nomatch z) (fin _ rfl)
 |str y =>
  have ev:x=.str y:=by simpa[Rep] using rd
  subst ev;obtain⟨t,e⟩:=(show ∃t,u=Value.str y t from rx);cases e;rcases ks with rfl|rfl|rfl|rfl|rfl
  .exact Q3z (b:=false) W2z I.kIn True.intro rfl (λz=>nomatch z) (fin _ rfl)
  .exact Q3z (b:=false) W2z I.kIn True.intro rfl (λz=>nomatch z) (fin _ rfl)
  .exact Q3z (b:=false) W2z I.kIn True.intro rfl (λz=>nomatch z) (fin _ rfl)
  .exact Q3z (b:=false) W2z I.kIn True.intro rfl (λz=>nomatch z) (fin _ rfl)
  .exact Q3z (b:=true) W2z I.kIn True.intro rfl (λz=>nomatch z) (fin _ rfl)
 |tup ds =>
  obtain⟨a,vs,rfl,h1,h2⟩:=bL rd;cases (show u=Value.ref a from rx);obtain⟨its,_,o,g1,g2,_⟩:=isT I h1;rcases ks with rfl|rfl|rfl|rfl|rfl
  .exact Q3z (b:=false) U1z I.kIn ⟨o,g1,g2⟩ rfl (λz=>nomatch z) (fin _ rfl)
  .exact Q3z (b:=false) U1z I.kIn ⟨o,g1,g2⟩ rfl (λz=>nomatch z) (fin _ rfl)
  .exact Q3z (b:=true) U1z I.kIn ⟨o,g1,g2⟩ rfl (λz=>nomatch z) (fin _ rfl)
  .exact Q3z (b:=false) U1z I.kIn ⟨o,g1,g2⟩ rfl (λz=>nomatch z) (fin _ rfl)
  .exact Q3z (b:=false) U1z I.kIn ⟨o,g1,g2⟩ rfl (λz=>nomatch z) (fin _ rfl)
 |lst ds =>
  obtain⟨a,vs,rfl,h1,h2⟩:=bQ rd;cases (show u=Value.ref a from rx);obtain⟨its,_,o,g1,g2,_⟩:=isL I h1;rcases ks with rfl|rfl|rfl|rfl|rfl
  .exact Q3z (b:=false) F2z I.kIn ⟨o,g1,g2⟩ rfl (λz=>nomatch z) (fin _ rfl)
  .exact Q3z (b:=false) F2z I.kIn ⟨o,g1,g2⟩ rfl (λz=>nomatch z) (fin _ rfl)
  .exact Q3z (b:=false) F2z I.kIn ⟨o,g1,g2⟩ rfl (λz=>nomatch z) (fin _ rfl)
  .exact Q3z (b:=true) F2z I.kIn ⟨o,g1,g2⟩ rfl (λz=>nomatch z) (fin _ rfl)
  .exact Q3z (b:=false) F2z I.kIn ⟨o,g1,g2⟩ rfl (λz=>nomatch z) (fin _ rfl)
theorem JV{x t:Str}{T:String}{a:Expr}{d:D}{p pt pos:Pos}(G:Good cx k X sc)(hx:bh cx sc x=some "isinstance")(ht:bh cx sc t=some T)(hk:fL T=true)(ha:Ev X U a d)(hp:aA a=true)(hne:isExc d=false) :
  Ev X U (.Call (.Name x p) [a,.Name t pt] [] pos) (.bl (jV T d)):=by
 obtain⟨hg,hm,rfl⟩:=bZ G hx;obtain⟨hg2,hm2,rfl⟩:=bZ G ht
 have htv:PE X (.Name (Str.ofString T) pt) (tC (.ty T)):=by
  rcases qx hk with rfl|rfl|rfl|rfl|rfl<;>exact vp hg2 hm2 (by decide +kernel) rfl
 intro O H Hs Q hs hst hq;refine(cj (Ac (X:=X) hk) hg hm (by decide +kernel) (aY ak (aY htv cg (aj rfl)) (aj hp)) (by decide) (by decide) (aj hp) rfl).sem ?_;exact ha O H Hs _ hs hst λv H1 Hs1 E1 r1=>⟨v,d,rfl,Rep.same E1.sub d v r1,hne,hq _ H1 Hs1 E1 (by simp[Rep])⟩
def Ml(K:Zf)(cv:V)(C:Addr)(b:Bool):List V->Hp->VK->Prop:=λxs H Q=>∃a,xs=[.ref a,cv]/\H a=some (.ext (isX a (.ref C)))/\Q (.bl b) H
theorem wY{cv:V}{c:Value}{C:Addr}{b:Bool}(hA:kE X.K C=true)(hc:∀u,RelV cv u->u=c)(e:W.kitOne X.K (.ref C) c=some b):cT X (.builtin "isinstance") (Ml X.K cv C b):=by
 intro z0 s O H xs us Q I r h;obtain⟨a,rfl,ha,q⟩:=h;obtain⟨u,w1,rfl,rx,rr⟩:=rM r;obtain⟨u2,w2,rfl,rc,rr2⟩:=rM rr;cases rr2;cases (show u=Value.ref a from rx);cases hc u2 rc;exact Q3z (yV hA) I.kIn (I.hok _ _ ha).1 e (λz=>nomatch z) λtk=>⟨.bl _,H,I.tok _,rfl,q⟩
theorem pL{x c:Str}{t a:Expr}{tv:TE}{cv:V}{cw:Value}{b:Bool}{p pos:Pos}(G:Good cx k X sc)(hx:bh cx sc x=some "isinstance")(hc:cx.exs.contains c=true)(ht:PE X t (tC cv))(hpt:aA t=true)(hcv:∀u,RelV cv u->u=cw)
  (hk:∀C,W.nsIn X.K mainGlobals c=some (some (.ref C))->W.kitOne X.K (.ref C) cw=some b) (ha:Ev X U a (.exc c)) (hp:aA a=true):Ev X U (.Call (.Name x p) [a,t] [] pos) (.bl b):=by
 obtain⟨hg,hm,rfl⟩:=bZ G hx;obtain⟨C,M,e1,_,_,e2,_⟩:=G.exs.cls c hc;intro O H Hs Q hs hst hq;refine(cj (wY (X:=X) (cv:=cv) e2 hcv (hk C e1)) hg hm (by decide +kernel) (aY ak (aY ht cg (aj hpt)) (aj hp)) (by decide) (by decide) (aj hp) (by rw[aj hpt];rfl)).sem ?_;refine ha O H Hs _ hs hst λv H1 Hs1 E1 r1=>?_;have r2:=Rep.same E1.sub _ v r1;simp only[Rep] at r2;obtain⟨a0,C0,rfl,f1,f2⟩:=r2;rw[e1] at f1;cases f1;exact⟨a0,rfl,f2,hq _ H1 Hs1 E1 (by simp[Rep])⟩
theorem Fg{x t c:Str}{a:Expr}{p pt pos:Pos}(G:Good cx k X sc)(hx:bh cx sc x=some "isinstance")(ht:bh cx sc t=some "ValueError")(hc:cx.exs.contains c=true)(ha:Ev X U a (.exc c))(hp:aA a=true):Ev X U (.Call (.Name x p) [a,.Name t pt] [] pos) (.bl true):=by
 obtain⟨hg2,hm2,rfl⟩:=bZ G ht;refine pL (tv:=tC (.ty "ValueError")) (cv:=.ty "ValueError") (cw:=.type "ValueError") G hx hc (vp hg2 hm2 (by decide +kernel) rfl) rfl (λu r=>r) (λC e=>?_) ha hp;obtain⟨C',M,e1,_,_,_,_,_,e2⟩:=G.exs.cls c hc;rw[e] at e1;cases e1;exact e2
theorem GD{t:Expr}{c':Str}(h:xOf cx sc t=some c'):∃pt,t=.Name c' pt/\jB cx sc c'=true/\(cx.exs.contains c'=true\/c'=cx.top)/\(c'==("__debug__":Str))=false:=by
 unfold xOf at h;split at h
 .rename_i y pt
  split at h
  .rename_i q
   cases h;rw[L2z,L2z,O3z] at q;have q2:=q.2;unfold au at q2;rw[L2z,I5z] at q2;exact⟨pt,rfl,q.1.1,q.1.2.imp id (λz=>by simpa using z),by simpa using q2.1⟩
  .cases h
 .cases h
theorem Fe{x c c':Str}{t a:Expr}{p pos:Pos}(G:Good cx k X sc)(hx:bh cx sc x=some "isinstance")(ht:xOf cx sc t=some c')(hc:cx.exs.contains c=true)(ha:Ev X U a (.exc c))(hp:aA a=true):Ev X U (.Call (.Name x p) [a,t] [] pos) (.bl (Gn cx.top c c')):=by
 obtain⟨pt,rfl,hgl,hin,hd⟩:=GD ht
 have hg:Gl X c':=by
  have e:sc.names.lookup c'=some .globalImplicit:=by unfold jB at hgl;simpa using hgl
  show X.env.scope.names.lookup c'=_;rw[G.sce,e]
 by_cases htop:c'=cx.top
 .subst htop
  obtain⟨C,M,e1,e2,_,_,_,e3,_⟩:=G.exs.cls c hc
  have:Gn cx.top c cx.top=true:=by unfold Gn;simp
  rw[this];refine pL (tv:=tC (.ref M)) (cv:=.ref M) (cw:=.ref M) G hx hc (pA hg (G.exs.glob _ _ e2) rfl hd) rfl (λu r=>r) (λC' e=>?_) ha hp;rw[e] at e1;cases e1;exact e3
 .have hin':cx.exs.contains c'=true:=hin.resolve_right htop
  obtain⟨C,C',e1,e2,e3⟩:=G.exs.sub c c' hc hin'
  have:Gn cx.top c c'=(c==c'):=by
   unfold Gn
   have:(c'==cx.top)=false:=by simpa using htop
   rw[this,Bool.or_false]
  rw[this];refine pL (tv:=tC (.ref C')) (cv:=.ref C') (cw:=.ref C') G hx hc (pA hg (G.exs.glob _ _ e2) rfl hd) rfl (λu r=>r) (λC'' e=>?_) ha hp;rw[e] at e1;cases e1;exact e3
end
end L2
namespace L2
open PySem PySem.Spec PyProof.Rows
section
variable{X:Cx}
end
section
variable{X:Cx}
end
def Its(x:Str):It:=⟨λi _=>i<x.cps.size,λi H v H'=>H'=H/\∃c,x.cps[i]?=some c/\v=.str ⟨#[c]⟩,λi _=>x.cps.size<=i⟩
theorem yd{P:Program}{w:World}{K:Zf}{tg:Expr}(it:Addr)(x:Str)(t:Tok):Turn P w K tg (Its x) [it] it (λi h=>h.IsStrIter it "str_ascii_iterator" x t i) where
 mem:=by simp
 obj:=λi h st b hb=>by
  have e:b=it:=by simpa using hb
  subst e;obtain⟨o,e,c,d⟩:=st;exact⟨o,e,λv z=>by rw[d] at z;cases z⟩
 keep:=λi h h' st k=>let ⟨o,ho,r⟩:=st;⟨o,k it (by simp) o ho,r⟩
 item:=by
  intro X hP hw hK hc i z0 s O H E I hf st hg;subst hP hw hK;obtain⟨f0,f1,f2,f3,f4,f5⟩:=hf it (by simp);have hg':i<x.cps.size:=hg;refine wpAny_pyNext_ascii_item st (c:=x.cps[i]) (by simp[hg']) λh' st' sb=>?_;have I1:Inv X z0 O H {s with heap:=h',toks:=s.toks+1}:=I.turned (λb o hb e=>(sb.2 b hb).trans e) f0 f1 f3 f4 f5;obtain⟨o,e,c,d⟩:=id st';exact⟨_,rfl,zq (s:={s with heap:=h',toks:=s.toks+1}) e c d (by decide) ⟨.str ⟨#[x.cps[i]]⟩,H,I1,⟨_,rfl⟩,⟨rfl,x.cps[i],by simp[hg'],rfl⟩,st',λb hb=>(hf b hb).1⟩⟩
 done:=by
  intro X hP hw hK hc i z0 s O H E I hf st hg;subst hP hw hK;obtain⟨f0,f1,f2,f3,f4,f5⟩:=hf it (by simp);exact wpAny_pyNext_ascii_end (I.ok.hd hc) st (by have:x.cps.size<=i:=hg;simp[this]) λh' eb=>⟨rfl,I.turned (t':=s.toks) (λb o hb e=>eb b o hb e) f0 f1 f3 f4 f5⟩
 self:=λ_ _ _ _ _ st h=>wpAny_pyIter_striter_ascii st h
section
variable{X:Cx}{tg:Expr}
def Us(tl:TE):TI:=λO H R=>tl O H λv H1=>∃x,v=.str x/\x.cps.all (· < 128)=true/\R (Its x) H1
theorem Ip{l:Expr}{tl:TE}(hl:PE X l tl):PI X tg l (Us tl):=by
 intro z0 s O H R I h;refine thn (hl z0 s O H _ I h) λv s1 ⟨x,H1,I1,r1,q1⟩=>?_;obtain⟨y,e,ha,q⟩:=q1;subst e;obtain⟨t,rfl⟩:=r1;refine wpAny_pyIter_ascii ha ?_;refine⟨s1.heap.objs.size,[s1.heap.objs.size],_,_,H1,rfl,I1.kept (t':=s1.toks) λb o e=>Heap.get?_push_of_some _ e,yd _ y t,⟨_,Heap.get?_push_size _ rfl,rfl,rfl⟩,λb hb=>?_,q⟩
 have e:b=s1.heap.objs.size:=by simpa using hb
 subst e;exact I1.fpOk (X4z _) (I1.hok.fresh (X4z _))
end
end L2
namespace L2
open PySem PySem.Spec PyProof.Rows DE PySem.SeqAt
section
variable{X:Cx}{U:Rho}{cx:Cxt}{k:Nat}{sc:Scope}
theorem qH{α:Type}{K:Zf}{H:Hp}{f:α->D}{g:α->V}(h:∀x,Rep K H (f x) (g x)):∀l:List α,aJ K H (l.map f) (l.map g)
 |[]=>.nil
 |x::r=>.cons (h x) (qH h r)
theorem jK{i:Int}(h:gM i=true):-(2^62)<=i/\i<2^62:=by
 unfold gM at h;rw[L2z,B2z,B2z] at h;exact h
theorem yQ{wr:List Addr}{s s':Shared}(m:Moved wr (λa b=>b=a) s s'):s'={s with heap:=s'.heap,toks:=s'.toks}:=by
 have h1:=m.gens;have h2:=m.drawn;have h3:=m.os;cases s;cases s';simp at h1 h2 h3;subst h1 h2 h3;rfl
variable{tg iter a b:Expr}
theorem Fy{d:D}{l:List D}(h:Ev X U iter d)(hl:items d=some l):EvI X U tg iter l:=by
 intro O H Hs R hs hst hq
 cases d with
 |lst xs =>
  simp only[items,C2z] at hl;subst hl
  refine(Di (tg:=tg) ak).sem (h O H Hs _ hs hst λv H1 Hs1 E1 r1=>?_);obtain⟨p,vs,rfl,h1,h2⟩:=bQ r1;refine⟨p,rfl,⟨vs,E1.sub.seq h1⟩,hq _ H1 Hs1 E1 λHs' H' e1 e2=>⟨⟨vs,e2.seq (e1.seq h1),by rw[h2.length];exact X4z _⟩,λi d hd=>?_⟩⟩;obtain⟨v,g1,g2⟩:=h2.get hd;refine⟨⟨vs,v,e2.seq (e1.seq h1),g1⟩,λx H2 y=>?_⟩;obtain⟨rfl,y⟩:=y;have:=y vs (e2.seq (e1.seq h1));rw[g1] at this;cases this;exact⟨Hs',.refl e2,Rep.same e1 d v g2⟩
 |tup xs =>
  simp only[items,C2z] at hl;subst hl
  refine(Io (tg:=tg) ak).sem (h O H Hs _ hs hst λv H1 Hs1 E1 r1=>?_);obtain⟨p,vs,rfl,h1,h2⟩:=bL r1;refine⟨p,rfl,⟨vs,E1.sub.tup h1⟩,hq _ H1 Hs1 E1 λHs' H' e1 e2=>⟨⟨vs,e2.tup (e1.tup h1),by rw[h2.length];exact X4z _⟩,λi d hd=>?_⟩⟩;obtain⟨v,g1,g2⟩:=h2.get hd;refine⟨⟨vs,v,e2.tup (e1.tup h1),g1⟩,λx H2 y=>?_⟩;obtain⟨rfl,y⟩:=y;have:=y vs (e2.tup (e1.tup h1));rw[g1] at this;cases this;exact⟨Hs',.refl e2,Rep.same e1 d v g2⟩
 |_=>simp[items] at hl
theorem Fx{d:D}{l:List D}(kw:KnW X.K X.w)(h:Ev X U iter d)(hl:jU d=some l):EvI X U tg iter l:=by
 cases d with
 |str x =>
  simp only[jU] at hl;split at hl
  .rename_i ha
   cases hl;intro O H Hs R hs hst hq;refine(Ip (tg:=tg) ak).sem (h O H Hs _ hs hst λv H1 Hs1 E1 r1=>?_)
   have e:v=.str x:=by simpa[Rep] using r1
   subst e;refine⟨x,rfl,ha,hq _ H1 Hs1 E1 λHs' H' e1 e2=>⟨?_,λi d hd=>?_⟩⟩
   .show x.cps.size<=_
    simp
   .rw[List.getElem?_map] at hd
    obtain⟨c,h1,rfl⟩:=L0z.mp hd
    have hi:i<x.cps.size:=by
     have:=(List.getElem?_eq_some_iff.mp h1).1;simpa using this
    refine⟨hi,λy H2 hy=>?_⟩;obtain⟨rfl,c',h2,rfl⟩:=hy
    have:c'=c:=by
     rw[<- Array.getElem?_toList] at h2;rw[h1] at h2;cases h2;rfl
    subst this;exact⟨Hs',.refl e2,by simp[Rep]⟩
  .cases hl
 |_=>exact Fy h hl
theorem jc{K:Zf}{Hs0:Hp}{lo hi:Int}{n:Nat}(hn:n=(hi-lo).toNat):Ag K (Itr lo n) Hs0 (eO lo hi):=by
 have hl:(eO lo hi).length=n:=by rw[hn];simp[eO]
 intro Hs H e1 e2;refine⟨by show n<=_;rw[hl];exact X4z _,λi d hd=>?_⟩
 have hi:i<n:=by have:=(List.getElem?_eq_some_iff.mp hd).1;rw[hl] at this;exact this
 refine⟨hi,λx H' y=>?_⟩;obtain⟨rfl,rfl⟩:=y;refine⟨Hs,.refl e2,?_⟩;unfold eO at hd;rw[List.getElem?_map] at hd;obtain⟨j,e3,rfl⟩:=L0z.mp hd;rw[List.getElem?_eq_some_iff] at e3;obtain⟨_,e3⟩:=e3;rw[List.getElem_range] at e3;subst e3;simp[Rep]
theorem tE{x:Str}{j:Int}{p pos:Pos}(G:Good cx k X sc)(hx:bh cx sc x=some "range")(ha:Ev X U a (.int j))(hp:aA a=true)(hj:gM j=true):EvI X U tg (.Call (.Name x p) [a] [] pos) (eO 0 j):=by
 obtain⟨hg,hm,rfl⟩:=bZ G hx;intro O H Hs R hs hst hq;have q:=vh (tg:=tg) (p:=p) (pos:=pos) hg hm (aY (ak (X:=X) (e:=a)) cg (aj hp)) (aj hp);refine PI.sem q (ha O H Hs _ hs hst λv H1 Hs1 E1 r1=>?_);exact⟨j,by rw[aL r1],(jK hj).1,(jK hj).2,hq _ H1 Hs1 E1 (jc (by simp))⟩
theorem sZ{x:Str}{i j:Int}{p pos:Pos}(G:Good cx k X sc)(hx:bh cx sc x=some "range")(ha:Ev X U a (.int i))(hp:aA a=true)(hb:Ev X U b (.int j))(hpb:aA b=true)(hi:gM i=true)(hj:gM j=true):EvI X U tg (.Call (.Name x p) [a,b] [] pos) (eO i j):=by
 obtain⟨hg,hm,rfl⟩:=bZ G hx;intro O H Hs R hs hst hq;have q:=vg (tg:=tg) (p:=p) (pos:=pos) hg hm (aY (ak (X:=X) (e:=a)) (aY (ak (X:=X) (e:=b)) cg (aj hpb)) (aj hp)) (by rw[aj hp,aj hpb];rfl) (aj hpb);refine PI.sem q (ha O H Hs _ hs hst λv H1 Hs1 E1 r1=>hb O H1 Hs1 _ E1.sub (hst.same E1.vis) λv' H2 Hs2 E2 r2=>?_);exact⟨i,j,by rw[aL r1,aL r2],⟨(jK hi).1,(jK hi).2,(jK hj).1,(jK hj).2⟩,hq _ H2 Hs2 (E1.trans E2) (jc rfl)⟩
theorem Fw{x:Str}{xs ys:List D}{p pos pt:Pos}{es:List Expr}{kt:Nat}(G:Good cx k X sc)(hx:bh cx sc x=some "zip")(ha:Ev X U a (.tup xs))(hp:aA a=true)(hb:Ev X U b (.tup ys))(hpb:aA b=true) :
  EvI X U (.Tuple es kt pt) (.Call (.Name x p) [a,b] [] pos) ((xs.zip ys).map λq=>.tup [q.1,q.2]):=by
 obtain⟨hg,hm,rfl⟩:=bZ G hx;intro O H Hs R hs hst hq;have q:=Im (es:=es) (kt:=kt) (pt:=pt) (p:=p) (pos:=pos) hg hm (aY (ak (X:=X) (e:=a)) (aY (ak (X:=X) (e:=b)) cg (aj hpb)) (aj hp)) (by rw[aj hp,aj hpb];rfl) (aj hpb);refine PI.sem q (ha O H Hs _ hs hst λv H1 Hs1 E1 r1=>hb O H1 Hs1 _ E1.sub (hst.same E1.vis) λv' H2 Hs2 E2 r2=>?_);obtain⟨c,vs,rfl,h1,h2⟩:=bL (Rep.same E2.vis _ _ r1);obtain⟨d,us,rfl,h3,h4⟩:=bL r2;have l1:=h2.length;have l2:=h4.length;refine⟨c,d,rfl,⟨vs,E2.sub.tup h1⟩,⟨us,E2.sub.tup h3⟩,hq _ H2 Hs2 (E1.trans E2) λHs' H' e1 e2=>⟨⟨vs,us,e2.tup (e1.tup h1),e2.tup (e1.tup h3),?_⟩,λi z hz=>?_⟩⟩
 .rw[I3z,List.length_zip]
  omega
 .rw[List.getElem?_map] at hz
  obtain⟨⟨x1,y1⟩,e3,rfl⟩:=L0z.mp hz;rw[List.getElem?_zip_eq_some] at e3;obtain⟨v1,g1,g2⟩:=h2.get e3.1;obtain⟨v2,g3,g4⟩:=h4.get e3.2;refine⟨⟨vs,us,v1,v2,e2.tup (e1.tup h1),e2.tup (e1.tup h3),g1,g3⟩,λw H3 y=>?_⟩;obtain⟨p,hp',rfl,y⟩:=y;rw[y vs us v1 v2 (e2.tup (e1.tup h1)) (e2.tup (e1.tup h3)) g1 g3];refine⟨_,Ext.new e2 (.tup [v1,v2]) hp',?_⟩;have sm:=(Ext.new e2 (.tup [v1,v2]) hp').vis;simp only[Rep];exact⟨p,[v1,v2],rfl,.of aV,.cons (Rep.same sm _ _ (Rep.same e1 _ _ g2)) (.cons (Rep.same sm _ _ (Rep.same e1 _ _ g4)) .nil)⟩
theorem FJ{xs:List D}:(enD xs).length=xs.length:=by simp[enD]
theorem FN{xs:List D}{i:Nat}{d:D}(h:(enD xs)[i]?=some d):∃x,xs[i]?=some x/\d=.tup [.int i,x]:=by
 unfold enD at h;rw[List.getElem?_map] at h;obtain⟨⟨x,j⟩,e1,e2⟩:=L0z.mp h;rw[List.getElem?_zipIdx] at e1;obtain⟨y,e3,e4⟩:=L0z.mp e1;simp at e4;obtain⟨rfl,rfl⟩:=e4;exact⟨y,e3,e2.symm⟩
theorem zT{x:Str}{xs:List D}{p pos pt:Pos}{es:List Expr}{kt:Nat}(G:Good cx k X sc)(hx:bh cx sc x=some "enumerate")(ha:Ev X U a (.tup xs))(hp:aA a=true) :
  EvI X U (.Tuple es kt pt) (.Call (.Name x p) [a] [] pos) (enD xs):=by
 obtain⟨hg,hm,rfl⟩:=bZ G hx;intro O H Hs R hs hst hq;have q:=Dj (es:=es) (kt:=kt) (pt:=pt) (p:=p) (pos:=pos) hg hm (aY (ak (X:=X) (e:=a)) cg (aj hp)) (aj hp);refine PI.sem q (ha O H Hs _ hs hst λv H1 Hs1 E1 r1=>?_);obtain⟨c,vs,rfl,h1,h2⟩:=bL r1;refine⟨c,rfl,⟨vs,E1.sub.tup h1⟩,hq _ H1 Hs1 E1 λHs' H' e1 e2=>⟨⟨vs,e2.tup (e1.tup h1),by rw[FJ,h2.length]⟩,λi d hd=>?_⟩⟩;obtain⟨y,e3,rfl⟩:=FN hd;obtain⟨w,g1,g2⟩:=h2.get e3;refine⟨⟨vs,w,e2.tup (e1.tup h1),g1⟩,λu H2 yl=>?_⟩;obtain⟨p,hp',rfl,yl⟩:=yl;rw[yl vs w (e2.tup (e1.tup h1)) g1];refine⟨_,Ext.new e2 (.tup [.int i,w]) hp',?_⟩;have sm:=(Ext.new e2 (.tup [.int i,w]) hp').vis;simp only[Rep];exact⟨p,[.int i,w],rfl,.of aV,.cons (by simp[Rep]) (.cons (Rep.same sm _ _ (Rep.same e1 _ _ g2)) .nil)⟩
end
theorem aW{α β:Type}{x:Option α}{f:α->Option β}{y:β}(h:(x >>=f)=some y):∃a,x=some a/\f a=some y:=by
 cases x with
 |none=>cases h
 |some a=>exact⟨a,rfl,h⟩
def Bj(X:Cx)(tg:Expr):TG:=λv O H Q=>∀z0 s u,Inv X z0 O H s->RelV v u->wpAny (model X.prog X.w) X.A (assign tg X.env u) (λ_ s'=>∃O' H',Inv X z0 O' H' s'/\Q O' H') X.xe s
def Ep(X:Cx)(es:List Expr):TGs:=λvs O H Q=>∀z0 s us,Inv X z0 O H s->Vals vs us->wpAny (model X.prog X.w) X.A (assignInOrder ((assignEach es X.env).map (·.2)) us) (λ_ s'=>∃O' H',Inv X z0 O' H' s'/\Q O' H') X.xe s
section
variable{X:Cx}{tg:Expr}{es:List Expr}
theorem mX:PG X tg (Bj X tg):=λz0 s O H v u Q I r h=>h z0 s u I r
theorem PG.sem{t:TG}{v:V}{O:St}{H:Hp}{Q:St->Hp->Prop}(h:PG X tg t)(q:t v O H Q):Bj X tg v O H Q:=λz0 s u I r=>h z0 s O H v u Q I r q
theorem pq:PGs X es (Ep X es):=λz0 s O H v u Q I r h=>h z0 s u I r
theorem PGs.sem{t:TGs}{v:List V}{O:St}{H:Hp}{Q:St->Hp->Prop}(h:PGs X es t)(q:t v O H Q):Ep X es v O H Q:=λz0 s u I r=>h z0 s O H v u Q I r q
end
theorem aH:∀(U:Rho)(x:Str)(v:Sl),(cU U x v).map (·.1)=U.map (·.1)
 |[],_,_=>rfl
 |(y,s)::r,x,v=>by
  unfold cU;split
  .rfl
  .simp[aH r x v]
theorem aX:∀{U:Rho}{x:Str}{v:Sl}{i:Nat},(U.map (·.1)).Nodup->(U.map (·.1))[i]?=some x->∀j:Nat,(cU U x v)[j]?=if j=i then some (x,v) else U[j]?
 |[],x,v,i,_,h,_=>by simp at h
 |(y,s)::r,x,v,0,hn,h,j=>by
  simp at h;subst h
  cases j with
  |zero=>simp[cU]
  |succ j=>simp[cU]
 |(y,s)::r,x,v,i+1,hn,h,j=>by
  rw[G4z,K3z] at hn
  have h':(r.map (·.1))[i]?=some x:=by simpa using h
  have hne:(x==y)=false:=by
   rw[F1z];intro e;subst e;exact hn.1 (List.mem_of_getElem? h')
  simp only[cU,hne,O1z,M5z]
  cases j with
  |zero=>simp
  |succ j =>
   have:=aX (v:=v) hn.2 h' j;simp only[List.getElem?_cons_succ,this,Nat.add_right_cancel_iff]
theorem bR{l:List Str}{x:Str}(h:l.contains x=true):∃i:Nat,l[i]?=some x:=by
 have:=List.mem_of_elem_eq_true h;exact List.mem_iff_getElem?.mp this
structure Owns(X:Cx)(scope:Scope):Prop where
 own:∀x,ownIn scope x=true->Loc X.env.scope x/\(X.fn x=true\/X.env.scope.names.lookup x=some .local)
def kh(K:Zf)(Hs:Hp)(scope:Scope)(P:Rho->St->Prop):Prop:=∀U O (i:Nat) x d v,(U.map (·.1)).Nodup->(U.map (·.1))[i]?=some x->ownIn scope x=true->P U O->Rep K Hs d v->P (cU U x (.sh d)) (O.set i (some v))
section
variable{X:Cx}{scope:Scope}{Hs H:Hp}{P:Rho->St->Prop}{Q:St->Hp->Prop}
theorem ou{x:Str}{pos:Pos}{U U':Rho}{O:St}{d:D}{v:V}(hO:Owns X scope)(hnd:X.N.Nodup)(hN:X.N=U.map (·.1))(KE:kh X.K Hs scope P)(hb:(if ownIn scope x&&(U.map (·.1)).contains x then some (cU U x (.sh d)) else none)=some U')(hp:P U O)(rd:Rep X.K Hs d v)
  (hq:∀O',X.N=U'.map (·.1)->P U' O'->Q O' H):Bj X (.Name x pos) v O H Q:=by
 split at hb
 .rename_i hc
  cases hb;rw[L2z] at hc;obtain⟨i,hi⟩:=bR hc.2;obtain⟨h1,h2⟩:=hO.own x hc.1;exact PG.sem (Dl (i:=i) hnd (by rw[hN];exact hi) h1 h2) (hq _ (by rw[aH];exact hN) (KE U O i x d v (by rw[<- hN];exact hnd) hi hc.1 hp rd))
 .cases hb
theorem fu{env:Env}:∀{es:List Expr}{ds:List D}{U U':Rho},bindNames scope es ds U=some U'->(assignEach es env).length=es.length/\(assignEach es env).findIdx? (·.1)=none/\es.length=ds.length
 |[],[],_,_,_=>⟨rfl,rfl,rfl⟩
 |[],d::ds,U,U',h=>by simp[bindNames] at h
 |e::es,[],U,U',h=>by cases e<;>simp[bindNames] at h
 |e::es,d::ds,U,U',h=>by
  cases e<;>try (simp[bindNames] at h;done)
  rename_i x pos;simp only[bindNames] at h;split at h
  .obtain⟨h1,h2,h3⟩:=fu (env:=env) h
   refine⟨by show(assignEach es env).length+1=_;rw[h1];rfl,?_,by simp[h3]⟩
   show((false,assign (.Name x pos) env)::assignEach es env).findIdx? (·.1)=none;rw[List.findIdx?_cons];simp only[O1z,M5z,h2];rfl
  .cases h
theorem gJ(hO:Owns X scope)(hnd:X.N.Nodup)(KE:kh X.K Hs scope P):∀{es:List Expr}{ds:List D}{vs:List V}{U U':Rho}{O:St},X.N=U.map (·.1)->bindNames scope es ds U=some U'->P U O->aJ X.K Hs ds vs->(∀O',X.N=U'.map (·.1)->P U' O'->Q O' H)->Ep X es vs O H Q
 |[],[],vs,U,U',O,hN,h,hp,rd,hq=>by
  simp only[bindNames,C2z] at h;subst h;simp only[aJ] at rd;exact PGs.sem Dk ⟨rd,hq _ hN hp⟩
 |[],d::ds,vs,U,U',O,hN,h,hp,rd,hq=>by simp[bindNames] at h
 |e::es,[],vs,U,U',O,hN,h,hp,rd,hq=>by cases e<;>simp[bindNames] at h
 |e::es,d::ds,vs,U,U',O,hN,h,hp,rd,hq=>by
  cases e<;>try (simp[bindNames] at h;done)
  rename_i x pos;simp only[bindNames] at h;split at h
  .rename_i hc
   simp only[aJ] at rd;obtain⟨v,r,rfl,r1,r2⟩:=rd;refine PGs.sem (yF mX pq) ⟨v,r,rfl,?_⟩;exact ou hO hnd hN KE (U':=cU U x (.sh d)) (by rw[P5z hc]) hp r1 λO' hN' hp'=>gJ hO hnd KE hN' h hp' r2 hq
  .cases h
theorem pZ{tg:Expr}{U U':Rho}{O:St}{d:D}{v:V}(hc:X.calm=true)(hO:Owns X scope)(hnd:X.N.Nodup)(hs:Same Hs H)(hN:X.N=U.map (·.1))(KE:kh X.K Hs scope P)(hb:cC scope tg d U=some U')(hp:P U O)(rd:Rep X.K Hs d v)
  (hq:∀O',X.N=U'.map (·.1)->P U' O'->Q O' H):Bj X tg v O H Q:=by
 unfold cC at hb;split at hb
 .exact ou hO hnd hN KE hb hp rd hq
 .rename_i es k pos ds
  obtain⟨a,vs,rfl,h1,h2⟩:=bL rd;obtain⟨e1,e2,e3⟩:=fu (env:=X.env) hb;exact PG.sem (Ar hc pq e1 e2) ⟨a,vs,rfl,hs.tup h1,by rw[<- h2.length,e3],gJ hO hnd KE hN hb hp h2 hq⟩
 .cases hb
end
section
variable{X Xc:Cx}{scope sc:Scope}{cx:Cxt}{k:Nat}{U:Rho}
theorem iY:∀{l:List Str},nq l=true->l.Nodup
 |[],_=>.nil
 |x::r,h=>by
  unfold nq at h;rw[L2z] at h;refine K3z.mpr ⟨λhm=>?_,iY h.2⟩
  have:r.contains x=true:=by simpa using hm
  rw[this] at h;exact absurd h.1 (by decide)
theorem dH(G:Good cx k X sc)(h:eY sc scope=true):scope.kind=.function/\(scope.names.map (·.1)).Nodup/\∀x,(x,NameKind.free)∈scope.names->X.env.kindOf x=some .cell\/X.env.kindOf x=some .free:=by
 unfold eY at h;rw[L2z,L2z] at h;refine⟨by simpa using h.1.1,iY h.1.2,λx hx=>?_⟩;have:=A3z.mp h.2 _ hx;show X.env.scope.names.lookup x=_\/X.env.scope.names.lookup x=_;rw[G.sce];simpa using this
theorem HN(G:Good cx k X sc):relabel scope X.env=jA scope sc:=by
 unfold relabel jA Env.kindOf;rw[G.sce]
theorem Good.comp(G:Good cx k X sc)(C:CompOf X scope Xc)(h:eY sc scope=true):Good cx k Xc (jA scope sc) where
 calm:=C.calm
 room:=by rw[C.A];exact G.room
 sce:=by rw[C.sc,HN G]
 kind:=(dH G h).1
 nd:=by rw[C.N];exact(dH G h).2.1
 cst:=by rw[C.mg,C.K];exact G.cst
 blt:=by rw[C.mg];exact G.blt
 exs:=by rw[C.mg,C.K];exact G.exs
 fns:=by rw[C.mg,C.prog,C.w,C.K,C.base];exact G.fns
 kw:=by rw[C.K,C.w];exact G.kw
theorem Owns.comp(G:Good cx k X sc)(C:CompOf X scope Xc):Owns Xc scope where
 own:=λx hx=>by
  unfold ownIn at hx;rw[O3z] at hx
  have look:∀kd,scope.names.lookup x=some kd->kd≠.free->Xc.env.scope.names.lookup x=some kd:=λkd e hne=>by
   rw[C.sc];show(scope.names.map _).lookup x=_;rw[cY,e];simp[hne]
  rcases hx with hx|hx
  .have e:scope.names.lookup x=some .local:=by simpa using hx
   have e2:=look _ e (by decide);exact⟨.inl e2,.inr e2⟩
  .have e:scope.names.lookup x=some .cell:=by simpa using hx
   have e2:=look _ e (by decide);refine⟨.inr e2,.inl ?_⟩;rw[C.fn];show(scope.names.lookup x==some .cell)=true;rw[e];rfl
theorem cJ:(aO scope U).map (·.1)=scope.names.map (·.1):=by
 unfold aO;rw[W4z];rfl
theorem jl{K:Zf}{Hs:Hp}{O:St}{N:List Str}(hN:N=U.map (·.1))(h:bM K Hs U O):bM K Hs (aO scope U) (sO N scope.names O):=by
 intro i x d e;unfold aO at e;rw[List.getElem?_map] at e;obtain⟨p,e1,e2⟩:=L0z.mp e
 cases hk:p.2==NameKind.free with
 |false=>rw[hk] at e2;simp at e2
 |true =>
  rw[hk] at e2;simp only[O5z,Prod.mk.injEq] at e2;obtain⟨rfl,e2⟩:=e2
  have e3:U.lookup p.1=some (.sh d):=by
   cases q:U.lookup p.1 with
   |none=>rw[q] at e2;simp[LR] at e2
   |some sl =>
    rw[q] at e2
    cases sl<;>simp[LR] at e2
    rw[e2]
  obtain⟨j,g1,g2⟩:=dD e3;obtain⟨v,g3,g4⟩:=h j _ d g1;refine⟨v,?_,g4⟩;unfold sO;rw[List.getElem?_map,e1];simp only[L3z,hk,O5z];unfold qD;rw[hN,g2];simp[g3]
def CSt(K:Zf)(Hs:Hp)(n:Nat)(U0:Rho):Rho->St->Prop:=λU O=>O.length=n/\bM K Hs U O/\bM K Hs U0 O
theorem mR{K:Zf}{Hs:Hp}{U:Rho}{O:St}{i:Nat}{x:Str}{d:D}{v:V}(hn:(U.map (·.1)).Nodup)(hi:(U.map (·.1))[i]?=some x)(hl:i<O.length)(h:bM K Hs U O)(r:Rep K Hs d v):bM K Hs (cU U x (.sh d)) (O.set i (some v)):=by
 intro j y d' e;rw[aX hn hi j] at e;split at e
 .rename_i hj
  subst hj;cases e;exact⟨v,by rw[List.getElem?_set_self hl],r⟩
 .rename_i hj
  obtain⟨w,h1,h2⟩:=h j y d' e;exact⟨w,by rw[List.getElem?_set_ne (λz=>hj z.symm)];exact h1,h2⟩
theorem jT{K:Zf}{Hs:Hp}{n:Nat}(hnd:(scope.names.map (·.1)).Nodup)(hn:n=scope.names.length):kh K Hs scope (λU1 O=>U1.map (·.1)=scope.names.map (·.1)/\CSt K Hs n (aO scope U) U1 O):=by
 intro U1 O i x d v h1 h2 h3 ⟨h4,h5,h6,h7⟩ r;refine⟨by rw[aH];exact h4,by rw[R3z];exact h5,?_,?_⟩
 .have hi:i<O.length:=by
   rw[h5,hn];have:=(List.getElem?_eq_some_iff.mp h2).1;rw[h4] at this;simpa using this
  exact mR h1 h2 hi h6 r
 .intro j y d' e
  obtain⟨w,g1,g2⟩:=h7 j y d' e;refine⟨w,?_,g2⟩
  have hj:i≠j:=by
   intro z;subst z;rw[h4] at h2;unfold aO at e;rw[List.getElem?_map] at e;rw[List.getElem?_map] at h2;obtain⟨p,e1,e2⟩:=L0z.mp e;rw[e1] at h2
   have ex:p.1=x:=by simpa using h2
   cases hk:p.2==NameKind.free with
   |false=>rw[hk] at e2;simp at e2
   |true =>
    have ek:p.2=.free:=by simpa using hk
    have hm:=List.mem_of_getElem? e1;have:=bT (c:=p.2) hnd (by rw[show p=(x,p.2) from by rw[<- ex]] at hm;exact hm);unfold ownIn at h3;rw[this,ek] at h3;exact absurd h3 (by decide)
  rw[List.getElem?_set_ne hj];exact g1
def sW(X:Cx)(ifs:List Expr):TT:=λO H Q=>∀z0 s,Inv X z0 O H s->wpAny (model X.prog X.w) X.A (forIn ifs true λc r=>if r=true then do let ok <- isTrue c X.env (eval c X.env);pure (ForInStep.yield ok) else pure (ForInStep.yield r)) (TP X z0 O Q) X.xe s
theorem qK{ifs:List Expr}:xU X ifs (sW X ifs):=λz0 s O H Q I h=>h z0 s I
theorem xU.sem{ifs:List Expr}{t:TT}{O:St}{H:Hp}{Q:Bool->Hp->Prop}(h:xU X ifs t)(q:t O H Q):sW X ifs O H Q:=λz0 s I=>h z0 s O H Q I q
theorem Ext.acc{Hs H Hs' H':Hp}{acc:Addr}{o:HO}(E:Ext Hs H Hs' H')(h:H acc=none)(h':Hs' acc=none):Ext Hs H Hs' (upd H' acc o) where
 vis:=E.vis
 all:=λb u e=>by rw[aG (ao e h)];exact E.all b u e
 sub:=λb u e=>by rw[aG (ao e h')];exact E.sub b u e
 hid:=E.hid
theorem pR{f:D->Option (Option D)}{d:D}{r out:List D}(h:aP f (d::r)=some out):(∃v o',f d=some (some v)/\aP f r=some o'/\out=v::o')\/(f d=some none/\aP f r=some out):=by
 simp only[aP,bind,Option.bind] at h
 cases hf:f d with
 |none=>rw[hf] at h;cases h
 |some o =>
  rw[hf] at h
  cases o with
  |none=>exact .inr ⟨rfl,h⟩
  |some v =>
   simp only[L0z] at h;obtain⟨o',h1,rfl⟩:=h;exact .inl ⟨v,o',rfl,h1,rfl⟩
def tK(E:Rho->Expr->Option D)(scope:Scope)(U:Rho)(tg elt:Expr)(ifs:List Expr):D->Option (Option D):=λd=>do
 let U1 <- cC scope tg d (aO scope U)
 let b <- jC (E U1) ifs
 if b then(E U1 elt).map some else some none
abbrev Kf(cx:Cxt)(n:Nat)(sc scope:Scope)(U:Rho)(tg elt:Expr)(ifs:List Expr):D->Option (Option D):=tK (ev cx n (jA scope sc)) scope U tg elt ifs
def Kr(Hs0 H0:Hp)(X:Cx)(U:Rho)(e:Expr)(d:D):Prop:=∀O H Hs Q,Ext Hs0 H0 Hs H->bM X.K Hs U O->(∀v H' Hs',Ext Hs H Hs' H'->Rep X.K Hs' d v->Q v H')->oK X e O H Q
def Gm(Hs0 H0:Hp)(X:Cx)(U:Rho)(e:Expr)(b:Bool):Prop:=∀O H Hs Q,Ext Hs0 H0 Hs H->bM X.K Hs U O->(∀H' Hs',Ext Hs H Hs' H'->Q b H')->rR X e O H Q
theorem JW{f:Expr->Option D}{ifs:List Expr}{b:Bool}{Hs0 H0:Hp}(hf:∀e,e∈ifs->∀d,f e=some d->Kr Hs0 H0 X U e d/\∀b,d=.bl b->Gm Hs0 H0 X U e b)(h:jC f ifs=some b){O:St}{H Hs:Hp}{Q:Bool->Hp->Prop}(hs:Ext Hs0 H0 Hs H)(hst:bM X.K Hs U O)(hq:∀H' Hs',Ext Hs H Hs' H'->Q b H'):sW X ifs O H Q:=by
 unfold jC at h;split at h
 .cases h
  exact xU.sem qL (hq H Hs (.refl hs.sub))
 .rename_i c
  cases hc:f c with
  |none=>rw[hc] at h;cases h
  |some d =>
   rw[hc] at h
   cases d<;>simp[asB] at h
   subst h;exact xU.sem (yD cV) ((hf c (by simp) _ hc).2 _ rfl O H Hs Q hs hst hq)
 .cases h
theorem tH{tg iter elt:Expr}{ifs:List Expr}{l out:List D}{E:Rho->Expr->Option D}{O:St}{H Hs:Hp}{Q:VK}(G:Good cx k X sc)(hN:X.N=U.map (·.1))(hok:eY sc scope=true)(hI:∀R,(∀J H' Hs',Ext Hs H Hs' H'->Ag X.K J Hs' l->R J H')->mH X tg iter O H R)(hz:szl l.length=true)(hgo:aP (tK E scope U tg elt ifs) l=some out)
    (hE:∀Xc, CompOf X scope Xc->∀U1:Rho, Xc.N=U1.map (·.1)->∀e, (e=elt \/ e∈ifs)->∀d, E U1 e=some d->Kr Hs H Xc U1 e d/\∀b, d=.bl b->Gm Hs H Xc U1 e b)
     (hst:bM X.K Hs U O) (hq:∀acc vs Hs' H',Ext Hs H Hs' H'->H acc=none->Hs' acc=none->H' acc=some (.lst vs)->aJ X.K Hs' out vs->Q (.ref acc) H') :
    uy X scope (mH X tg iter) (sO X.N scope.names) (λXc=>Bj Xc tg) (λXc=>sW Xc ifs) (λXc=>oK Xc elt) O H Q:=by
  obtain⟨ok1,ok2,ok3⟩:=dH G hok
  refine hI _ λJ H1 Hs1 E1 hJ acc hacc Xc C _=>?_
  have GC:=G.comp C hok
  have OC:=Owns.comp (scope:=scope) G C
  have hNc:∀U1:Rho,U1.map (·.1)=scope.names.map (·.1)->Xc.N=U1.map (·.1):=λU1 h=>by rw[C.N,h]
  have a1:Hs1 acc=none:=E1.sub.free hacc
  have a0:H acc=none:=E1.all.free hacc
  let W:Nat->Nat->St->Hp->Prop:=λi m Oc H=>m=l.length-i/\i<=l.length/\∃Hs3 ys pre rest,Ext Hs1 H1 Hs3 H/\Hs3 acc=none/\H acc=some (.lst ys)/\aJ X.K Hs3 pre ys/\aP (tK E scope U tg elt ifs) (l.drop i)=some rest/\pre++rest=out/\pre.length<=i/\Oc.length=scope.names.length/\bM X.K Hs3 (aO scope U) Oc
  refine⟨W,⟨l.length,rfl,Z4z _,Hs1,[],[],out,Ext.acc (.refl E1.sub) hacc a1,a1,aV,.nil,by simpa using hgo,rfl,X4z _,by simp[sO],jl hN (hst.same E1.vis)⟩,?_⟩
  rintro i m Oc H3 ⟨rfl,hi,Hs3,ys,pre,rest,E3,b3,c3,r3,g3,p3,q3,l3,s3⟩
  obtain⟨st3,go3⟩:=hJ Hs3 H3 E3.vis E3.sub
  by_cases hlt:i<l.length
  . have hd:l[i]?=some l[i]:=List.getElem?_eq_getElem hlt
    obtain⟨gi,yi⟩:=go3 i l[i] hd
    refine .inr ⟨gi,λO' H'=>W (i+1) (l.length-(i+1)) O' H',λO' H' w=>⟨_,by omega,w⟩,λx H4 y4=>?_⟩
    obtain⟨Hs4,E4,rx⟩:=yi x H4 y4
    have b4:Hs4 acc=none:=E4.hid acc _ c3 b3
    have c4:H4 acc=some (.lst ys):=E4.all _ _ c3
    rw[D0z hlt] at g3
    have key:∃U1,cC scope tg l[i] (aO scope U)=some U1/\∃b,jC (E U1) ifs=some b/\((b=true/\∃v o',E U1 elt=some v/\aP (tK E scope U tg elt ifs) (l.drop (i+1))=some o'/\rest=v::o')\/(b=false/\aP (tK E scope U tg elt ifs) (l.drop (i+1))=some rest)):=by
      have inv:∀o,tK E scope U tg elt ifs l[i]=some o->∃U1,cC scope tg l[i] (aO scope U)=some U1/\∃b,jC (E U1) ifs=some b/\(if b then(E U1 elt).map some else some none)=some o:=by
        intro o h
        obtain⟨U1,h1,h⟩:=aW h
        obtain⟨b,h2,h⟩:=aW h
        exact⟨U1,h1,b,h2,h⟩
      rcases pR g3 with⟨v,o',f1,f2,f3⟩|⟨f1,f2⟩
      . obtain⟨U1,h1,b,h2,h3⟩:=inv _ f1
        refine⟨U1,h1,b,h2,?_⟩
        cases b with
        |false=>simp at h3
        |true =>
          simp only[O5z,L0z] at h3
          obtain⟨w,h3,h4⟩:=h3
          have h5:w=v:=D3z h4
          subst h5
          exact .inl ⟨rfl,w,o',h3,f2,f3⟩
      . obtain⟨U1,h1,b,h2,h3⟩:=inv _ f1
        refine⟨U1,h1,b,h2,?_⟩
        cases b with
        |true=>simp at h3
        |false=>exact .inr ⟨rfl,f2⟩
    obtain⟨U1,k1,b,k2,k3⟩:=key
    have s4:bM X.K Hs4 (aO scope U) Oc:=s3.same E4.vis
    have KE:=jT (K:=Xc.K) (Hs:=Hs4) (U:=U) (n:=scope.names.length) ok2 rfl
    refine pZ (X:=Xc) (scope:=scope) (Hs:=Hs4) GC.calm OC GC.nd E4.sub (hNc _ cJ) KE k1 ⟨cJ,l3,by rw[C.K];exact s4,by rw[C.K];exact s4⟩ (by rw[C.K];exact rx) λO5 hN5 p5=>?_
    obtain⟨_,l5,s5,s5'⟩:=p5
    have hev:=hE Xc C U1 hN5
    refine JW (λe he=>hev e (.inr he)) k2 (E1.trans (E3.trans E4)) s5 λH6 Hs6 E6=>?_
    have b6:Hs6 acc=none:=E6.hid acc _ c4 b4
    have c6:H6 acc=some (.lst ys):=E6.all _ _ c4
    have s6:bM X.K Hs6 (aO scope U) O5:=by rw[<- C.K];exact s5'.same E6.vis
    rcases k3 with⟨rfl,v,o',k3,k4,k5⟩|⟨rfl,k3⟩
    . refine tY ((hev elt (.inl rfl) v k3).1 O5 H6 Hs6 _ (E1.trans (E3.trans (E4.trans E6))) (s5.same E6.vis) λw H7 Hs7 E7 r7=>?_)
      have b7:Hs7 acc=none:=E7.hid acc _ c6 b6
      have c7:H7 acc=some (.lst ys):=E7.all _ _ c6
      refine⟨ys,c7,?_,rfl,hlt,Hs7,ys++[w],pre++[v],o',Ext.acc (E3.trans (E4.trans (E6.trans E7))) hacc b7,b7,aV,?_,k4,?_,by simp;omega,l5,s6.same E7.vis⟩
      . have:=r3.length
        have:=uD hz
        omega
      . rw[<- C.K]
        refine aJ.append ?_ (.cons r7 .nil)
        rw[C.K]
        exact aJ.same (E4.trans (E6.trans E7)).vis pre ys r3
      . rw[<- p3,k5];simp
    . refine vX ?_
      exact⟨rfl,hlt,Hs6,ys,pre,rest,E3.trans (E4.trans E6),b6,c6,aJ.same (E4.trans E6).vis pre ys r3,k3,p3,by omega,l5,s6⟩
  . have hi':i=l.length:=by omega
    subst hi'
    refine .inl ⟨st3,?_⟩
    rw[X2z] at g3
    simp only[aP,C2z] at g3
    subst g3
    rw[G3z] at p3
    subst p3
    exact hq acc ys Hs3 H3 (E1.trans E3) a0 b3 c3 r3
theorem Kr.of{Xc:Cx}{U1:Rho}{e:Expr}{d:D}{Hs0 H0:Hp}(h:Ev Xc U1 e d/\∀b,d=.bl b->EvT Xc U1 e b):Kr Hs0 H0 Xc U1 e d/\∀b,d=.bl b->Gm Hs0 H0 Xc U1 e b:=⟨λO H Hs Q E=>h.1 O H Hs Q E.sub,λb hb O H Hs Q E=>h.2 b hb O H Hs Q E.sub⟩
theorem wO{tg iter elt:Expr}{ifs:List Expr}{l out:List D}{n:Nat}(G:Good cx k X sc)(hN:X.N=U.map (·.1))(hok:eY sc scope=true)(hI:EvI X U tg iter l)(hz:szl l.length=true)(hgo:aP (Kf cx n sc scope U tg elt ifs) l=some out)
  (hE:∀Xc,CompOf X scope Xc->∀U1:Rho,Xc.N=U1.map (·.1)->∀e d,ev cx n (jA scope sc) U1 e=some d->Ev Xc U1 e d/\∀b,d=.bl b->EvT Xc U1 e b)
  {O:St} {H Hs:Hp} {Q:VK} (hs:Same Hs H) (hst:bM X.K Hs U O) (hq:∀acc vs Hs' H',Ext Hs H Hs' H'->H acc=none->Hs' acc=none->H' acc=some (.lst vs)->aJ X.K Hs' out vs->Q (.ref acc) H') :
  uy X scope (mH X tg iter) (sO X.N scope.names) (λXc=>Bj Xc tg) (λXc=>sW Xc ifs) (λXc=>oK Xc elt) O H Q :=
 tH G hN hok (λR k=>hI O H Hs R hs hst k) hz hgo (λXc C U1 h e _ d q=>Kr.of (hE Xc C U1 h e d q)) hst hq
end
def bIs(b:Bool):Value->Bool
 |.bool y=>y==b
 |_=>false
theorem oO:∀{bs:List Bool}{its:List Value},Vals (bs.map V.bl) its->its=bs.map Value.bool
 |[],its,r=>by cases r;rfl
 |b::bs,its,r=>by
  obtain⟨u,w,rfl,r1,r2⟩:=rM r;cases (show u=Value.bool b from r1);rw[oO r2];rfl
theorem Bq(b:Bool):∀bs:List Bool,(bs.map Value.bool).countP (bIs b)=cntB b bs
 |[]=>rfl
 |c::bs=>by
  rw[G4z,List.countP_cons,Bq b bs];unfold cntB;rw[Y2z];show _+(if(c==b)=true then 1 else 0)=_
  cases c==b<;>simp
theorem R7{b:Bool}:∀(bs:List Bool)(m:Nat)(h:m<bs.length),m<bs.idxOf b->(bs[m]==b)=false
 |[],m,h,_=>absurd h (by simp)
 |c::bs,m,h,hl=>by
  rw[List.idxOf_cons] at hl
  cases hc:c==b with
  |true=>rw[hc] at hl;simp at hl
  |false =>
   cases m with
   |zero=>simpa using hc
   |succ m =>
    rw[hc] at hl;simp only[cond_false] at hl;simpa using R7 bs m (by simpa using h) (by omega)
section
variable{X:Cx}{U:Rho}{cx:Cxt}{k:Nat}{sc scope:Scope}
def HY(K:Zf):V->List V->Hp->VK->Prop:=λx vs H Q=>∃(l:Addr)(bs:List Bool)(b:Bool),x=.ref l/\vs=[.bl b]/\SqL K H l (bs.map V.bl)/\Q (.int (cntB b bs:Nat)) H
theorem yP:MtM X "list.count" (HY X.K):=by
 intro z0 s O H x vs v us Q I rx rv h;obtain⟨l,bs,b,rfl,rfl,hB,q⟩:=h;cases (show v=Value.ref l from rx);obtain⟨u,rfl,ru⟩:=rv.one;cases (show u=Value.bool b from ru);obtain⟨its2,r2,pl,hz2⟩:=I.list hB;have ei:=oO r2;subst ei;obtain⟨⟨c2,dd2,data2,sl2⟩,n2,e2,hc2,hd2,hs2⟩:=pl;simp only at hc2 hs2;obtain⟨h3,h4⟩:=(show dd2=none/\data2=.seq (bs.map Value.bool).toArray n2 from⟨hd2,hs2⟩);subst hc2 h4;refine G5z F.slot_list_count ⟨_,e2,rfl⟩ F.entry_list_count (F.args_list_count_2 _ _) (list_countAt l (bs.map Value.bool).toArray n2 dd2 sl2 (.bool b) (bIs b)) ⟨e2,λy hy=>?_,?_⟩
 .have hy':y∈bs.map Value.bool:=by simpa using hy
  obtain⟨c,_,rfl⟩:=List.mem_map.mp hy';exact EqAt.bool_bool c b
 .rw[show(bs.map Value.bool).toArray.toList=bs.map Value.bool from rfl,Bq]
  exact⟨.int _,H,I.tok _,⟨_,rfl⟩,q⟩
def HX(K:Zf):V->List V->Hp->VK->Prop:=λx vs H Q=>∃(l:Addr)(bs:List Bool)(b:Bool),x=.ref l/\vs=[.bl b]/\SqL K H l (bs.map V.bl)/\bs.contains b=true/\Q (.int (bs.idxOf b:Nat)) H
theorem yO:MtM X "list.index" (HX X.K):=by
 intro z0 s O H x vs v us Q I rx rv h;obtain⟨l,bs,b,rfl,rfl,hB,hin,q⟩:=h;cases (show v=Value.ref l from rx);obtain⟨u,rfl,ru⟩:=rv.one;cases (show u=Value.bool b from ru);obtain⟨its2,r2,pl,hz2⟩:=I.list hB;have ei:=oO r2;subst ei;obtain⟨⟨c2,dd2,data2,sl2⟩,n2,e2,hc2,hd2,hs2⟩:=pl;simp only at hc2 hs2;obtain⟨h3,h4⟩:=(show dd2=none/\data2=.seq (bs.map Value.bool).toArray n2 from⟨hd2,hs2⟩);subst hc2 h4;have hj:bs.idxOf b<bs.length:=List.idxOf_lt_length_iff.mpr (by simpa using hin);have hn:=jP
 have hz3:bs.length<=sizeLine:=by simpa using hz2
 refine G5z F.slot_list_index ⟨_,e2,rfl⟩ F.entry_list_index (F.args_list_index_2 _ _) (list_indexAt l (bs.map Value.bool).toArray n2 dd2 sl2 (.bool b) (bIs b) (bs.idxOf b) (by simpa using hj) (by omega) ?_ ?_) ⟨e2,λy hy=>?_,?_⟩
 .simp only[List.getElem_toArray,List.getElem_map,bIs]
  simpa using List.getElem_idxOf hj
 .intro m hm hlt
  simp only[List.getElem_toArray,List.getElem_map,bIs];exact R7 bs m (by simpa using hm) hlt
 .have hy':y∈bs.map Value.bool:=by simpa using hy
  obtain⟨c,_,rfl⟩:=List.mem_map.mp hy';exact EqAt.bool_bool c b
 .exact⟨.int _,H,I.tok _,⟨_,rfl⟩,q⟩
theorem zH{o:Expr}{m:Str}{e:Expr}{x z d:D}{ap cp:Pos}(hbs:∀m,attributeBase o m X.env (eval o X.env)=eval o X.env)(ha:Ev X U o x)(he:Ev X U e z)(hp:aA e=true)(hline:(ap.endLine==cp.line)=true)(h:lH m x z=some d):Ev X U (.Call (.Attribute o m ap) [e] [] cp) d:=by
 unfold lH at h;split at h
 .rename_i xs b
  obtain⟨bs,hb,h2⟩:=aW h;clear h;intro O H Hs Q hs hst hq;split at h2
  .rename_i hm
   have em:m="count":=by simpa using hm
   subst em;cases h2;refine(mZ H0z PySem.F.slot_list_count PySem.F.type_list_count yP ak (aY ak cg (aj hp)) (hbs _) (by rw[aj hp];rfl) hline (aj hp) rfl).sem ?_;refine ha O H Hs _ hs hst λv H1 Hs1 E1 r1=>?_;obtain⟨l,vs,rfl,g1,g2⟩:=bQ r1;have ev:=iH hb g2;subst ev;refine⟨.inl ⟨rfl,_,E1.sub.seq g1⟩,?_⟩;refine he O H1 Hs1 _ E1.sub (hst.same E1.vis) λv2 H2 Hs2 E2 r2=>?_;rw[dz r2];exact⟨l,bs,b,rfl,rfl,E2.sub.seq (E2.vis.seq g1),hq _ H2 Hs2 (E1.trans E2) (by simp[Rep])⟩
  .split at h2
   .rename_i hm
    rw[L2z] at hm
    have em:m="index":=by simpa using hm.1
    subst em;cases h2;refine(mZ H0z PySem.F.slot_list_index PySem.F.type_list_index yO ak (aY ak cg (aj hp)) (hbs _) (by rw[aj hp];rfl) hline (aj hp) rfl).sem ?_;refine ha O H Hs _ hs hst λv H1 Hs1 E1 r1=>?_;obtain⟨l,vs,rfl,g1,g2⟩:=bQ r1;have ev:=iH hb g2;subst ev;refine⟨.inl ⟨rfl,_,E1.sub.seq g1⟩,?_⟩;refine he O H1 Hs1 _ E1.sub (hst.same E1.vis) λv2 H2 Hs2 E2 r2=>?_;rw[dz r2];exact⟨l,bs,b,rfl,rfl,E2.sub.seq (E2.vis.seq g1),hm.2,hq _ H2 Hs2 (E1.trans E2) (by simp[Rep])⟩
   .cases h2
 .cases h
end
end L2
namespace L2
open PySem PySem.Spec PySem.Calls PyProof.Rows DE
section
variable{X:Cx}{U:Rho}{cx:Cxt}{k:Nat}{sc:Scope}
theorem iQ{o:Expr}(h:CJ o=true)(m:Str):attributeBase o m X.env (eval o X.env)=eval o X.env:=by
 cases o<;>first|rfl|exact nomatch (show false=true from h)
theorem zE{o e:Expr}{m:Str}{x z d:D}{ap cp:Pos}(hc:X.calm=true)(hb:∀m,attributeBase o m X.env (eval o X.env)=eval o X.env)(ha:Ev X U o x)(he:Ev X U e z)(hp:aA e=true)(hline:(ap.endLine==cp.line)=true)(h:cG m x z=some d):Ev X U (.Call (.Attribute o m ap) [e] [] cp) d:=by
 unfold cG at h;split at h
 .rename_i z y
  intro O H Hs Q hs hst hq;split at h
  .rename_i hm
   cases h;rw[L2z,L2z,Y1z] at hm
   have em:m="split":=by simpa using hm.1.1
   subst em;refine(mZ M0z PySem.F.slot_str_split PySem.F.type_str_split yN ak (aY ak cg (aj hp)) (hb _) (by rw[aj hp];rfl) hline (aj hp) rfl).sem ?_;refine ha O H Hs _ hs hst λv H1 Hs1 E1 r1=>?_;cases cL r1;refine⟨rfl,he O H1 Hs1 _ E1.sub (hst.same E1.vis) λv2 H2 Hs2 E2 r2=>?_⟩;cases cL r2;refine⟨z,y,rfl,rfl,hm.1.2,?_,λa hn=>?_⟩
   .have h2:z.length<=100000:=D2z hm.2
    have h3:(100002:Nat)<=sizeLine:=by decide
    omega
   .have rl:aJ X.K Hs2 ((Txt.split z y).map D.str) ((Txt.split z y).map V.str):=by
     generalize Txt.split z y=l
     induction l with
     |nil=>exact .nil
     |cons a r ih=>exact .cons (by simp[Rep]) ih
    exact lG E2.sub rl hn λw H' Hs' E r=>hq w H' Hs' ((E1.trans E2).trans E) r
  .split at h
   .rename_i hm
    cases h
    have em:m="endswith":=by simpa using hm
    subst em;refine(mZ M0z PySem.F.slot_str_endswith PySem.F.type_str_endswith pH ak (aY ak cg (aj hp)) (hb _) (by rw[aj hp];rfl) hline (aj hp) rfl).sem ?_;refine ha O H Hs _ hs hst λv H1 Hs1 E1 r1=>?_;cases cL r1;refine⟨rfl,he O H1 Hs1 _ E1.sub (hst.same E1.vis) λv2 H2 Hs2 E2 r2=>?_⟩;cases cL r2;exact⟨z,y,rfl,rfl,hq _ H2 Hs2 (E1.trans E2) (by simp[Rep])⟩
   .cases h
 .rename_i z xs
  split at h
  .rename_i hm
   have em:m="join":=by simpa using hm
   subst em;obtain⟨ts,h1,h2⟩:=I0z.mp h;split at h2
   .rename_i hj
    cases h2;intro O H Hs Q hs hst hq;refine(mZ M0z PySem.F.slot_str_join PySem.F.type_str_join Ea ak (aY ak cg (aj hp)) (hb _) (by rw[aj hp];rfl) hline (aj hp) rfl).sem ?_;refine ha O H Hs _ hs hst λv H1 Hs1 E1 r1=>?_;cases cL r1;refine⟨rfl,he O H1 Hs1 _ E1.sub (hst.same E1.vis) λv2 H2 Hs2 E2 r2=>?_⟩;obtain⟨p,vs,rfl,g1,g2⟩:=bQ r2;have e:=lZ h1 g2;subst e;exact⟨z,p,ts,rfl,rfl,E2.sub.seq g1,hj,hq _ H2 Hs2 (E1.trans E2) (by simp[Rep])⟩
   .cases h2
  .cases h
 .cases h
theorem zJ{o a:Expr}{y:Str}{z:Str}{xs:List D}{ts:List Str}{q q' ap cp:Pos}(G:Good cx k X sc)(hb:∀m,attributeBase o m X.env (eval o X.env)=eval o X.env)(hy:bh cx sc y=some "reversed")(ha:Ev X U o (.str z))(he:Ev X U a (.lst xs))(hp:aA a=true)(hline:(ap.endLine==cp.line)=true)(hs1:oH xs=some ts)(hj:JoinOk z ts.reverse=true) :
  Ev X U (.Call (.Attribute o "join" ap) [.Call (.Name y q) [a] [] q'] [] cp) (.str (Txt.join z ts.reverse)):=by
 obtain⟨hg2,hm2,rfl⟩:=bZ G hy;intro O H Hs Q hs hst hq z0 s I;refine wpAny_Call_method_late (hb _) rfl hline rfl (thn (ak z0 s O H (λv H1=>∃Hs1,v=.str z/\Ext Hs H Hs1 H1) I (ha O H Hs _ hs hst λv H1 Hs1 E1 r1=>⟨Hs1,cL r1,E1⟩)) λv s1 ⟨x,H1,I1,r1,Hs1,ex,E1⟩=>?_);subst ex;obtain⟨t,rfl⟩:=r1;refine⟨"str",_,M0z,PySem.F.slot_str_join,PySem.F.type_str_join,F5z _ _ _,(λ_ e=>nomatch e),?_⟩;refine Calls.callWith_builtin rfl (U0z ?_);show wpAny _ _ (spliced [(false,eval (.Call (.Name _ q) [a] [] q') X.env)]) _ _ _;refine Calls.spliced_cons ?_;refine Call_ (fY I1 hg2 hm2 boot_reversed (B0z ?_ (aj hp) rfl))
 refine thn ((aY ak cg (aj hp)) q' z0 s1 O H1 (λvs H2=>∃Hs2 p,vs=[.ref p]/\SqL X.K Hs2 p (ts.map V.str)/\Ext Hs1 H1 Hs2 H2) I1 (he O H1 Hs1 _ E1.sub (hst.same E1.vis) λv H2 Hs2 E2 r2=>by
  obtain⟨p,vs,rfl,g1,g2⟩:=bQ r2;have e:=lZ hs1 g2;subst e
  exact⟨Hs2,p,rfl,g1,E2⟩)) λus s2 ⟨vs,H2,I2,r2,Hs2,p,e1,t1,E2⟩=>?_
 subst e1;obtain⟨u,w1,rfl,rx,rr⟩:=rM r2;cases rr;cases (show u=Value.ref p from rx);obtain⟨its,rv,pt,hz⟩:=I2.list (E2.sub.seq t1);obtain⟨l,rfl,rfl⟩:=kJ rv;refine call_reversed_list pt.isList (Calls.spliced_nil ?_)
 have hlen:(strValues l).toArray.size=l.length:=by simp[strValues]
 rw[hlen]
 have hne:p≠s2.heap.objs.size:=λe=>by
  obtain⟨o,ho,_⟩:=pt.isList;rw[e] at ho;exact D4z _ (P4z ho)
 have st:(s2.heap.push (revObj p ((l.length:Int)-1))).IsRevIter s2.heap.objs.size p ((l.length:Int)-1):=⟨_,Heap.get?_push_size _ rfl,rfl,rfl⟩;have I3:Inv X z0 O H2 {s2 with heap:=s2.heap.push (revObj p ((l.length:Int)-1))}:=I2.kept (t':=s2.toks) λb o e=>Heap.get?_push_of_some _ e;have hfr:H2 s2.heap.objs.size=none:=I2.hok.fresh (X4z _);obtain⟨f0,f1,f2,f3,f4,f5⟩:=I2.fpOk (X4z _) hfr
 have hz':l.length<=sizeLine:=by simpa using hz
 refine vU (I3.ok.hd G.calm) hne st (pt.isList.at λo e=>Heap.get?_push_of_some _ e) hz' hj λs' t' k' hm=>?_
 have I4:Inv X z0 O H2 {s' with toks:=k'}:=by
  have:=I3.turned (t':=k') (h':=s'.heap) (λc o hc e=>hm.heap c o (by simpa using hc) e) f0 f1 f3 f4 f5;rw[yQ hm];exact this
 exact⟨.str _,H2,I4,⟨t',rfl⟩,hq _ H2 Hs2 (E1.trans E2) (by simp[Rep])⟩
end
end L2
namespace L2
open PySem PySem.Spec PyProof.Rows DE PySem.SeqAt
theorem Ext.shown{Hs H Hs' H':Hp}{acc:Addr}{o:HO}(E:Ext Hs H Hs' H')(h:H acc=none)(h1:Hs' acc=none)(h2:H' acc=some o):Ext Hs H (upd Hs' acc o) H' where
 vis:=λb u e=>by rw[aG (ao (E.vis b u e) h1)];exact E.vis b u e
 all:=E.all
 sub:=λb u e=>by
  by_cases hb:b=acc
  .subst hb;rw[aV] at e;rw[h2];exact e
  .rw[aG hb] at e;exact E.sub b u e
 hid:=λb u e n=>by rw[aG (ao e h)];exact E.hid b u e n
section
variable{X:Cx}{U:Rho}{cx:Cxt}{k:Nat}{sc scope:Scope}
theorem Fj{tg iter elt:Expr}{ifs:List Expr}{l out:List D}{n:Nat}{pos:Pos}(G:Good cx k X sc)(hN:X.N=U.map (·.1))(hok:eY sc scope=true)(hI:EvI X U tg iter l)(hp:aA iter=true)(hz:szl l.length=true)(hgo:aP (Kf cx n sc scope U tg elt ifs) l=some out)
  (hE:∀Xc,CompOf X scope Xc->∀U1:Rho,Xc.N=U1.map (·.1)->∀e d,ev cx n (jA scope sc) U1 e=some d->Ev Xc U1 e d/\∀b,d=.bl b->EvT Xc U1 e b) :
  Ev X U (.ListComp elt [⟨tg,iter,ifs,0⟩] scope pos) (.lst out):=by
 obtain⟨ok1,ok2,ok3⟩:=dH G hok;intro O H Hs Q hs hst hq;refine PE.sem (vm G.calm ok1 ok2 ok3 vf (λXc C=>⟨mX,qK,ak⟩) (iV hp)) (wO G hN hok hI hz hgo hE hs hst λacc vs Hs' H' E1 h1 h2 h3 r=>?_);have E2:=E1.shown h1 h2 h3;refine hq _ H' _ E2 ?_;simp only[Rep];refine⟨acc,vs,rfl,.of aV,aJ.same (λb u e=>?_) out vs r⟩;rw[aG (ao e h2)];exact e
def WkP(cx:Cxt)(sc:Scope)(e:Expr):Wk->Prop
    |.r1 a=>∃x p pos,e=.Call (.Name x p) [a] [] pos/\bh cx sc x=some "range"
    |.r2 a b=>∃x p pos,e=.Call (.Name x p) [a,b] [] pos/\bh cx sc x=some "range"
    |.r3 a b c=>∃x p pos,e=.Call (.Name x p) [a,b,c] [] pos/\bh cx sc x=some "range"
    |.zp a b=>∃x p pos,e=.Call (.Name x p) [a,b] [] pos/\bh cx sc x=some "zip"
    |.rv a=>∃x p pos,e=.Call (.Name x p) [a] [] pos/\bh cx sc x=some "reversed"
    |.en a=>∃x p pos,e=.Call (.Name x p) [a] [] pos/\bh cx sc x=some "enumerate"
    |.sq=>True
theorem GR{e:Expr}:WkP cx sc e (xP cx sc e):=by
 unfold xP;split
 .rename_i x p args pos
  split
  .rename_i h
   split
   .exact⟨x,p,pos,rfl,h⟩
   .exact⟨x,p,pos,rfl,h⟩
   .exact⟨x,p,pos,rfl,h⟩
   .trivial
  .rename_i h
   split
   .exact⟨x,p,pos,rfl,h⟩
   .trivial
  .rename_i h
   split
   .exact⟨x,p,pos,rfl,h⟩
   .trivial
  .rename_i h
   split
   .exact⟨x,p,pos,rfl,h⟩
   .trivial
  .trivial
 .trivial
theorem mj{x:Option D}{i:Int}(h:x.bind asI=some i):x=some (.int i):=by
 obtain⟨d,h1,h2⟩:=aW (show(x >>=asI)=some i from h)
 cases d<;>simp[asI] at h2
 subst h2;exact h1
theorem dY{x:Option D}{i:Bool}(h:x.bind asB=some i):x=some (.bl i):=by
 obtain⟨d,h1,h2⟩:=aW (show(x >>=asB)=some i from h)
 cases d<;>simp[asB] at h2
 subst h2;exact h1
theorem vK{x:Option D}{i:List D}(h:x.bind KN=some i):x=some (.lst i):=by
 obtain⟨d,h1,h2⟩:=aW (show(x >>=KN)=some i from h)
 cases d<;>simp[KN] at h2
 subst h2;exact h1
theorem wB{f:Expr->Option D}{tg e:Expr}{l:List D}(G:Good cx k X sc)(hf:∀e d,f e=some d->Ev X U e d/\aA e=true)(h:evI cx (cN tg) f sc e=some l):EvI X U tg e l/\aA e=true:=by
 unfold evI at h;have w:=GR (cx:=cx) (sc:=sc) (e:=e);split at h
 .rename_i a hw
  rw[hw] at w;obtain⟨x,p,pos,rfl,hx⟩:=w;obtain⟨j,h1,h⟩:=aW h;split at h
  .rename_i hj
   cases h;obtain⟨ha,hp⟩:=hf _ _ (mj h1);exact⟨tE G hx ha hp hj,rfl⟩
  .cases h
 .rename_i a b hw
  rw[hw] at w;obtain⟨x,p,pos,rfl,hx⟩:=w;obtain⟨i,h1,h⟩:=aW h;obtain⟨j,h2,h⟩:=aW h;split at h
  .rename_i hj
   cases h;rw[L2z] at hj;obtain⟨ha,hp⟩:=hf _ _ (mj h1);obtain⟨hb,hpb⟩:=hf _ _ (mj h2);exact⟨sZ G hx ha hp hb hpb hj.1 hj.2,rfl⟩
  .cases h
 .rename_i a b c hw
  rw[hw] at w;obtain⟨x,p,pos,rfl,hx⟩:=w;simp at h
 .rename_i a b hw
  rw[hw] at w;obtain⟨x,p,pos,rfl,hx⟩:=w;obtain⟨d1,h1,h⟩:=aW h;obtain⟨d2,h2,h⟩:=aW (show(f b >>=λy=>if cN tg=true then Ku d1 y else none)=some l from h);have h':(if cN tg=true then Ku d1 d2 else none)=some l:=h;clear h;split at h'
  .rename_i ht
   obtain⟨ha,hp⟩:=hf _ _ h1;obtain⟨hb,hpb⟩:=hf _ _ h2
   cases tg<;>simp[cN] at ht
   unfold Ku at h';split at h'
   .cases h';exact⟨Fw G hx ha hp hb hpb,rfl⟩
   .simp at h'
   .simp at h'
   .simp at h'
   .cases h'
  .cases h'
 .rename_i a hw
  rw[hw] at w;obtain⟨x,p,pos,rfl,hx⟩:=w;simp at h
 .rename_i a hw
  rw[hw] at w;obtain⟨x,p,pos,rfl,hx⟩:=w;obtain⟨d1,h1,h⟩:=aW h;split at h
  .rename_i ht
   obtain⟨us,hu,rfl⟩:=L0z.mp h;obtain⟨ha,hp⟩:=hf _ _ h1
   cases tg<;>simp[cN] at ht
   cases d1<;>simp[tupI] at hu
   subst hu;exact⟨zT G hx ha hp,rfl⟩
  .cases h
 .obtain⟨d,h1,h2⟩:=aW (show(f e >>=jU)=some l from h)
  obtain⟨ha,hp⟩:=hf _ _ h1;exact⟨Fx G.kw ha h2,hp⟩
theorem BL{t:Expr}{T:String}(h:tyOf cx sc t=some T):∃x p,t=.Name x p/\bh cx sc x=some T:=by
 unfold tyOf at h;split at h
 .exact⟨_,_,rfl,h⟩
 .cases h
def WcP(cx:Cxt)(sc:Scope)(b:String)(args:List Expr):Wc->Prop
    |.lr1 a=>∃x p pos,args=[.Call (.Name x p) [a] [] pos]/\bh cx sc x=some "range"/\b="list"
    |.lr2 a a'=>∃x p pos,args=[.Call (.Name x p) [a,a'] [] pos]/\bh cx sc x=some "range"/\b="list"
    |.tv a=>∃x p pos,args=[.Call (.Name x p) [a] [] pos]/\bh cx sc x=some "reversed"/\b="tuple"
    |.tr1 a=>∃x p pos,args=[.Call (.Name x p) [a] [] pos]/\bh cx sc x=some "range"/\b="tuple"
    |.ls a=>∃x p pos,args=[.Call (.Name x p) [a] [] pos]/\bh cx sc x=some "set"/\b="len"
    |.li a=>∃y py ap p,a=.Name y py/\args=[.Call (.Attribute (.Name y py) "items" ap) [] [] p]/\(ap.endLine==p.line)=true/\b="list"
    |.al=>True
theorem Li{b:String}{args:List Expr}:WcP cx sc b args (GZ cx sc b args):=by
 unfold GZ;split
 .rename_i e
  have w:=GR (cx:=cx) (sc:=sc) (e:=e);split
  .rename_i hw
   rw[hw] at w;obtain⟨x,p,pos,rfl,hx⟩:=w;exact⟨x,p,pos,rfl,hx,rfl⟩
  .rename_i hw
   rw[hw] at w;obtain⟨x,p,pos,rfl,hx⟩:=w;exact⟨x,p,pos,rfl,hx,rfl⟩
  .rename_i hw
   rw[hw] at w;obtain⟨x,p,pos,rfl,hx⟩:=w;exact⟨x,p,pos,rfl,hx,rfl⟩
  .rename_i hw
   rw[hw] at w;obtain⟨x,p,pos,rfl,hx⟩:=w;exact⟨x,p,pos,rfl,hx,rfl⟩
  .split
   .rename_i a ha
    unfold QL at ha;split at ha
    .rename_i y q a' q' _
     split at ha
     .rename_i hb
      cases ha;exact⟨y,q,q',rfl,by simpa using hb,rfl⟩
     .cases ha
    .cases ha
   .trivial
  .split
   .rename_i a ha
    unfold R9 at ha;split at ha
    .rename_i y py m ap p _
     split at ha
     .rename_i hb
      rw[L2z] at hb;cases ha;have em:=eq_of_beq hb.1;subst em;exact⟨y,py,ap,p,rfl,rfl,hb.2,rfl⟩
     .cases ha
    .cases ha
   .trivial
  .trivial
 .trivial
end
theorem Cz{cx:Cxt}{sc:Scope}{e a:Expr}(h:HF cx sc e=some a):∃y q q',e=.Call (.Name y q) [a] [] q'/\bh cx sc y=some "reversed":=by
 unfold HF at h;split at h
 .split at h
  .rename_i hy
   cases h;exact⟨_,_,_,rfl,eq_of_beq hy⟩
  .cases h
 .cases h
theorem gb(cx:Cxt):∀(n:Nat){k:Nat}{X:Cx}{sc:Scope}{U:Rho}{e:Expr}{d:D},Good cx k X sc->X.N=U.map (·.1)->ev cx n sc U e=some d->Ev X U e d/\∀b,d=.bl b->EvT X U e b
 |0,k,X,sc,U,e,d,_,_,h=>by exact nomatch (show(Option.none:Option D)=some d from h)
 |n+1,k,X,sc,U,e,d,G,hN,h=>by
  have ih:∀e d,ev cx n sc U e=some d->Ev X U e d/\∀b,d=.bl b->EvT X U e b:=λe d h=>gb cx n G hN h;have ihp:∀e d,ev cx n sc U e=some d->Ev X U e d/\aA e=true:=λe d h=>⟨(ih e d h).1,aZ h⟩;have val:∀{e d},(∀whole,isTrue e X.env whole=(do let v <- whole;standAt e.pos;holding [v] (truthy v)))->Ev X U e d->Ev X U e d/\∀b,d=.bl b->EvT X U e b:=λhe h1=>⟨h1,λb hb=>by subst hb;exact Ft h1 he⟩
  cases e with
  |Name x pos =>
   simp only[ev] at h;split at h
   .rename_i hp
    refine val (λ_=>rfl) ?_
    have fin:∀kd,sc.names.lookup x=some kd->(kd=.local\/kd=.cell\/kd=.free)->(match U.lookup x with|some (.sh d)=>some d|_=>none)=some d->Ev X U (.Name x pos) d:=by
     intro kd hk hkd hm;split at hm
     .rename_i d' hl
      cases hm;refine EY hN ?_ hp hl;unfold Vis;rw[G.sce,hk];rcases hkd with rfl|rfl|rfl
      .exact .inl rfl
      .exact .inr (.inl rfl)
      .exact .inr (.inr rfl)
     .cases hm
    split at h
    .rename_i hk;exact fin _ hk (.inl rfl) h
    .rename_i hk;exact fin _ hk (.inr (.inl rfl)) h
    .rename_i hk;exact fin _ hk (.inr (.inr rfl)) h
    .rename_i hk
     obtain⟨v,u,h0,h1,h2⟩:=G.cst x d h;exact JZ (show X.env.scope.names.lookup x=_ by rw[G.sce];exact hk) h0 h1 h2 hp
    .cases h
   .cases h
  |Constant c j pos =>
   simp only[ev] at h;exact val (λ_=>rfl) (zL h)
  |BinOp a op b pos =>
   simp only[ev] at h;obtain⟨x,h1,h⟩:=aW h;obtain⟨y,h2,h⟩:=aW h;exact val (λ_=>rfl) (zO (ih _ _ h1).1 (ih _ _ h2).1 h)
  |UnaryOp op a pos =>
   simp only[ev] at h;obtain⟨x,h1,h⟩:=aW h
   cases op<;>simp only[L0z] at h<;>try (cases h;done)
   .obtain⟨b,h2,rfl⟩:=h
    cases x<;>simp[asB] at h2
    subst h2;refine⟨JR (ih _ _ h1).1,λc hc=>?_⟩;cases hc;exact Fv ((ih _ _ h1).2 _ rfl)
   .obtain⟨i,h2,rfl⟩:=h
    cases x<;>simp[asI] at h2
    subst h2;exact val (λ_=>rfl) (JT (ih _ _ h1).1)
  |BoolOp op es pos =>
   simp only[ev] at h;obtain⟨h1,h2⟩:=nF (pos:=pos) (λe _ d hd=>ih e d hd) h;exact⟨h1,λb hb=>(h2 b hb).t⟩
  |Compare a ops bs pos =>
   simp only[ev] at h;split at h
   .obtain⟨x,h1,h⟩:=aW h
    obtain⟨y,h2,h⟩:=aW h;exact Fp G.room G.kw (ih _ _ h1).1 (ih _ _ h2).1 (aZ h2) h
   .split at h
    .cases h
    rename_i e3 hpl
    have hpl':aA e3=true:=by simpa using hpl
    obtain⟨x,h1,h⟩:=aW h;obtain⟨y,h2,h⟩:=aW h;obtain⟨c,h3,h⟩:=aW h;have h3':=dY h3
    cases c with
    |false =>
     simp only[O1z,M5z,C2z] at h;subst h;exact wA G.room G.kw (ih _ _ h1).1 (ih _ _ h2).1 hpl' h3' ⟨λq=>(nomatch q),λ_=>rfl⟩
    |true =>
     simp only[O5z] at h;obtain⟨z,h4,h⟩:=aW h;exact wA G.room G.kw (ih _ _ h1).1 (ih _ _ h2).1 (aZ h4) h3' ⟨λ_=>⟨z,(ih _ _ h4).1,h⟩,λq=>nomatch q⟩
   .cases h
  |IfExp c a b pos =>
   simp only[ev] at h;obtain⟨t,h1,h⟩:=aW h;have h1':=(ih _ _ (dY h1)).2 _ rfl
   cases t with
   |true =>
    simp only[O5z] at h;refine⟨JX h1' (λ_=>(ih _ _ h).1) (λq=>nomatch q),λr hr=>Bm h1' (λ_=>(ih _ _ h).2 r hr) (λq=>nomatch q)⟩
   |false =>
    simp only[O1z,M5z] at h;refine⟨JX h1' (λq=>nomatch q) (λ_=>(ih _ _ h).1),λr hr=>Bm h1' (λq=>nomatch q) (λ_=>(ih _ _ h).2 r hr)⟩
  |Tuple es j pos =>
   simp only[ev] at h;obtain⟨ds,h1,h⟩:=aW h;split at h
   .rename_i hz
    cases h;exact val (λ_=>rfl) (zB (eV (λe _ d hd=>ihp e d hd) h1).1 hz)
   .cases h
  |List es pos =>
   simp only[ev] at h;obtain⟨ds,h1,h⟩:=aW h;split at h
   .rename_i hz
    cases h;exact val (λ_=>rfl) (Fb (eV (λe _ d hd=>ihp e d hd) h1).1 hz)
   .cases h
  |Subscript a b pos =>
   simp only[ev] at h;obtain⟨x,h1,h⟩:=aW h;split at h
   .split at h
    .obtain⟨l,h2,h⟩:=aW h
     obtain⟨u,h3,h⟩:=aW h
     have hl:∀{o:Option Expr}{l:Option Int},(match o with|none=>some none|some e=>(ev cx n sc U e).bind λd=>(asI d).map some)=some l->EvO X U o l:=by
      intro o l h2
      cases o with
      |none=>cases h2;exact zR
      |some e =>
       simp only at h2;obtain⟨d',g1,g2⟩:=I0z.mp h2;obtain⟨i,g3,rfl⟩:=L0z.mp g2
       cases d'<;>simp[asI] at g3
       subst g3;exact zQ (ih _ _ g1).1
     split at h
     .rename_i xs
      split at h
      .rename_i hw
       cases h;rw[L2z] at hw;exact val (λ_=>rfl) (wj (ih _ _ h1).1 (hl h2) (hl h3) ⟨by simpa using hw.1,by simpa using hw.2⟩)
      .rename_i hw
       cases h;refine val (λ_=>rfl) (zG (ih _ _ h1).1 (hl h2) (hl h3) λq=>hw ?_);rw[q.1,q.2];simp
     .cases h
      exact val (λ_=>rfl) (wu (ih _ _ h1).1 (hl h2) (hl h3))
     .split at h
      .rename_i hz
       cases h;exact val (λ_=>rfl) (wk (ih _ _ h1).1 hz (hl h2) (hl h3))
      .cases h
     .cases h
    .simp[QM] at h
   .obtain⟨y,h2,h⟩:=aW h
    have hp2:=aZ h2;have hr:=G.room;unfold Gs at h;split at h
    .split at h
     .rename_i hz
      obtain⟨j,h3,h4⟩:=I0z.mp h;obtain⟨c,h5,rfl⟩:=L0z.mp h4;exact val (λ_=>rfl) (wz (ih _ _ h1).1 (ih _ _ h2).1 hp2 hz h3 h5)
     .cases h
    .exact val (λ_=>rfl) (qY (ih _ _ h1).1 (ih _ _ h2).1 hp2 rfl h)
    .exact val (λ_=>rfl) (qY (ih _ _ h1).1 (ih _ _ h2).1 hp2 rfl h)
    .obtain⟨k',h3,h4⟩:=I0z.mp h
     exact val (λ_=>rfl) (Fi G.kw (ih _ _ h1).1 (ih _ _ h2).1 hp2 h3 h4)
    .cases h
  |Call f args kws pos =>
   refine val (λ_=>rfl) ?_;simp only[ev] at h;split at h
   .rename_i x p
    split at h
    .rename_i hg
     have hb:∀{b},cx.blt.lookup x=some b->bh cx sc x=some b:=λq=>by unfold bh;rw[P5z hg];exact q
     split at h
     .rename_i hx
      split at h
      .obtain⟨d',h1,h⟩:=aW h
       split at h
       .rename_i c' hxo
        split at h
        .rename_i c
         split at h
         .rename_i hin
          cases h;exact Fe G (hb hx) hxo hin (ih _ _ h1).1 (aZ h1)
         .cases h
        .cases h
       .obtain⟨T,h2,h5⟩:=aW h
        clear h;obtain⟨t,pt,rfl,ht⟩:=BL h2;split at h5
        .rename_i c
         split at h5
         .rename_i hc
          rw[L2z] at hc
          have eT:T="ValueError":=by simpa using hc.2
          subst eT;cases h5;exact Fg G (hb hx) ht hc.1 (ih _ _ h1).1 (aZ h1)
         .cases h5
        .cases h5
        .cases h5
        .rename_i hne hne2 hne3
         split at h5
         .rename_i hk
          cases h5;refine JV G (hb hx) ht hk (ih _ _ h1).1 (aZ h1) ?_
          cases d'<;>first|rfl|exact absurd rfl (hne _)|exact absurd rfl (hne2 _ _)|exact absurd rfl (hne3 _)
         .cases h5
      .cases h
     .rename_i b _ hx
      have wc:=Li (cx:=cx) (sc:=sc) (b:=b) (args:=args);split at h
      .rename_i a hw
       rw[hw] at wc;obtain⟨y,q,q',rfl,hy,rfl⟩:=wc;simp at h
      .rename_i a a' hw
       rw[hw] at wc;obtain⟨y,q,q',rfl,hy,rfl⟩:=wc;simp at h
      .rename_i a hw
       rw[hw] at wc;obtain⟨y,q,q',rfl,hy,rfl⟩:=wc;simp at h
      .rename_i a hw
       rw[hw] at wc;obtain⟨y,q,q',rfl,hy,rfl⟩:=wc;simp at h
      .rename_i a hw
       rw[hw] at wc;obtain⟨y,q,q',rfl,hy,rfl⟩:=wc;simp at h
      .rename_i a hw
       rw[hw] at wc;obtain⟨y,py,ap,q,rfl,rfl,hy,rfl⟩:=wc;simp at h
      .split at h
       .cases h
       .rename_i hne
        obtain⟨ds,h1,h2⟩:=aW h;obtain⟨ha,hp⟩:=eV (λe _ d hd=>ihp e d hd) h1
        cases args with
        |nil=>exact absurd rfl hne
        |cons e es=>exact zP G (hb hx) ha hp h2
     .split at h
      .rename_i hf
       obtain⟨ds,h1,h5⟩:=aW h;clear h;obtain⟨ha,hp⟩:=eV (λe _ d hd=>ihp e d hd) h1
       have hgl:Gl X x:=by
        have e:sc.names.lookup x=some .globalImplicit:=by unfold jB at hg;simpa using hg
        show X.env.scope.names.lookup x=_;rw[G.sce,e]
       cases args with
       |nil=>cases h1;exact zN G hgl hf h5
       |cons e es=>exact Fq G hgl hf (by simp) ha hp h5
      .cases h
    .cases h
   .split at h
    .split at h
     .cases h
     .cases h
    .cases h
   .split at h
    .split at h
     .rename_i hl
      rw[L2z] at hl;obtain⟨x,h1,h⟩:=aW h;split at h
      .rename_i e _ a hra
       obtain⟨z,h2,h⟩:=aW h;obtain⟨xs,h3,h⟩:=aW h;obtain⟨ts,h4,h⟩:=aW h;split at h
       .rename_i hm
        cases h;rw[L2z,L2z] at hm;obtain⟨y,q,q',rfl,hy⟩:=Cz hra
        have ez:x=.str z:=by cases x<;>simp at h2;rw[h2]
        subst ez;have em:=eq_of_beq hm.1.1;subst em;exact zJ G (iQ hl.1) hy (ih _ _ h1).1 (ih _ _ (vK h3)).1 hm.2 hl.2 h4 hm.1.2
       .cases h
      .obtain⟨z,h2,h⟩:=aW h
       split at h
       .rename_i d' h3
        cases h;exact zH (iQ hl.1) (ih _ _ h1).1 (ih _ _ h2).1 (aZ h2) hl.2 h3
       .exact zE G.calm (iQ hl.1) (ih _ _ h1).1 (ih _ _ h2).1 (aZ h2) hl.2 h
     .cases h
    .cases h
   .simp at h
   .cases h
  |ListComp elt gens scope pos =>
   refine val (λ_=>rfl) ?_;simp only[ev] at h;split at h
   .rename_i tg iter ifs a
    split at h
    .rename_i hok
     rw[L2z] at hok
     have ea:a=0:=by simpa using hok.1
     subst ea;obtain⟨l,h1,h⟩:=aW h;split at h
     .rename_i hz
      obtain⟨out,h2,h⟩:=aW h;cases h;obtain⟨hI,hp⟩:=wB (tg:=tg) G ihp h1;exact Fj G hN hok.2 hI hp hz h2 λXc C U1 hN1 e d he=>gb cx n (G.comp C hok.2) hN1 he
     .cases h
    .cases h
   .cases h
  |_=>exact nomatch (show(Option.none:Option D)=some d from h)
end L2
namespace L2
open PySem PySem.Spec PyProof.Rows
structure LamT(H:Hp)(P:Addr)(qual:Str)(l:List (Pos×Addr)):Prop where
 tab:H P=some (UW P (triples l).toArray)
 cod:∀q∈l,H q.2=some (U7 q.2 qual)
theorem LamT.same{H H':Hp}{P:Addr}{qual:Str}{l:List (Pos×Addr)}(h:LamT H P qual l)(e:∀b o,H b=some o->H' b=some o):LamT H' P qual l:=⟨e _ _ h.tab,λq hq=>e _ _ (h.cod q hq)⟩
theorem LamT.upd{H:Hp}{P a:Addr}{qual:Str}{l:List (Pos×Addr)}{us vs:List V}(h:LamT H P qual l)(e:H a=some (.lst us)):LamT (upd H a (.lst vs)) P qual l:=by
 refine⟨?_,λq hq=>?_⟩
 .rw[aG λz=>by rw[<- z,h.tab] at e;cases e];exact h.tab
 .rw[aG λz=>by rw[<- z,h.cod q hq] at e;cases e];exact h.cod q hq
section
variable{X:Cx}{z0:List (Addr×Obj)}{O:St}{H:Hp}{s:Shared}
end
end L2
namespace L2
open PySem PySem.Spec PyProof.Rows DE PySem.SeqAt
section
variable{prog:Program}{w:World}{A:Around}{E:Value->Shared->Prop}
end
section
variable{X:Cx}{es:List Expr}{k:Nat}{t:TGs}{n:Nat}{pos:Pos}
end
structure Hd(K:Zf)(lm:Option (Addr×Str))(Hs0 H0 Hs H:Hp)(U:Rho)(O:St):Prop where
 ext:Ext Hs0 H0 Hs H
 len:O.length=U.length
 sh:bM K Hs U O
 ow:∀(i:Nat)(x:Str)(ds:List D),U[i]?=some (x,.ow ds)->∃a vs,O[i]?=some (some (.ref a))/\H a=some (.lst vs)/\aJ K Hs ds vs/\Hs a=none/\H0 a=none
 dis:∀(i j:Nat)(x y:Str)(ds es:List D)(a:Addr),i≠j->U[i]?=some (x,.ow ds)->U[j]?=some (y,.ow es)->O[i]?=some (some (.ref a))->O[j]?=some (some (.ref a))->False
 oo:∀(i:Nat)(x:Str)(dss:List (List D)),U[i]?=some (x,.oo dss)->False
 lam:∀p,lm=some p->H0 p.1=none/\∃l,LamT H p.1 p.2 l/\Hs p.1=none/\∀q∈l,Hs q.2=none
section
variable{K:Zf}{lm:Option (Addr×Str)}{Hs0 H0 Hs H Hs' H':Hp}{U:Rho}{O:St}
theorem Hd.step(h:Hd K lm Hs0 H0 Hs H U O)(E:Ext Hs H Hs' H'):Hd K lm Hs0 H0 Hs' H' U O where
 ext:=h.ext.trans E
 len:=h.len
 sh:=h.sh.same E.vis
 ow:=λi x ds e=>by
  obtain⟨a,vs,h1,h2,h3,h4,h5⟩:=h.ow i x ds e;exact⟨a,vs,h1,E.all _ _ h2,aJ.same E.vis ds vs h3,E.hid a _ h2 h4,h5⟩
 dis:=h.dis
 oo:=h.oo
 lam:=λp hp=>by
  obtain⟨h0,l,T,n1,n2⟩:=h.lam p hp;exact⟨h0,l,T.same E.all,E.hid _ _ T.tab n1,λq hq=>E.hid _ _ (T.cod q hq) (n2 q hq)⟩
def LmT(lm:Option (Addr×Str))(H:Hp):Prop:=∀p,lm=some p->∃l,LamT H p.1 p.2 l
theorem Hd.lmt(h:Hd K lm Hs0 H0 Hs H U O):LmT lm H:=λp hp=>by
 obtain⟨_,l,T,_⟩:=h.lam p hp;exact⟨l,T⟩
theorem jf{n:Nat}{e:Expr}{i:Nat}{x:Str}{s:Sl}(h:(frz n e U)[i]?=some (x,s)):(U[i]?=some (x,s)/\(Qv s=false->dW n x e=false))\/(∃ds,s=.sh (.lst ds)/\U[i]?=some (x,.ow ds)/\dW n x e=true)\/∃dss,s=.sh (.lst (dss.map .lst))/\U[i]?=some (x,.oo dss)/\dW n x e=true:=by
 unfold frz at h;rw[List.getElem?_map] at h;obtain⟨⟨y,t⟩,h1,h2⟩:=L0z.mp h
 cases t with
 |no=>simp at h2;obtain⟨rfl,rfl⟩:=h2;exact .inl ⟨h1,λz=>nomatch z⟩
 |sh d=>simp at h2;obtain⟨rfl,rfl⟩:=h2;exact .inl ⟨h1,λz=>nomatch z⟩
 |ow ds =>
  simp only at h2
  cases hm:dW n y e with
  |true =>
   rw[hm,P5z rfl] at h2;cases h2;exact .inr (.inl ⟨ds,rfl,h1,hm⟩)
  |false =>
   rw[hm] at h2;simp at h2;obtain⟨rfl,rfl⟩:=h2;exact .inl ⟨h1,λ_=>hm⟩
 |oo dss =>
  simp only at h2
  cases hm:dW n y e with
  |true =>
   rw[hm,P5z rfl] at h2;cases h2;exact .inr (.inr ⟨dss,rfl,h1,hm⟩)
  |false =>
   rw[hm] at h2;simp at h2;obtain⟨rfl,rfl⟩:=h2;exact .inl ⟨h1,λ_=>hm⟩
theorem aR(n:Nat)(e:Expr):(frz n e U).map (·.1)=U.map (·.1):=by
 unfold frz;rw[W4z];apply List.map_congr_left;intro p _;obtain⟨x,s⟩:=p
 cases s<;>simp<;>(split<;>rfl)
open Classical in
theorem Hd.frozen2(n:Nat)(e:Expr)(h:Hd K lm Hs0 H0 Hs H U O):∃Hs1,Same Hs Hs1/\(∀b o,Hs1 b=some o->Hs b=some o\/∃vs,o=.lst vs)/\Hd K lm Hs0 H0 Hs1 H (frz n e U) O:=by
 let Fo:Addr->Prop:=λb=>∃(i:Nat)(x:Str)(ds:List D),U[i]?=some (x,Sl.ow ds)/\dW n x e=true/\O[i]?=some (some (V.ref b))
 let Hs1:Hp:=λb=>if Fo b then H b else Hs b
 have vis:Same Hs Hs1:=λb o q=>by
  show(if Fo b then H b else Hs b)=some o;split
  .exact h.ext.sub b o q
  .exact q
 have sub:Same Hs1 H:=λb o q=>by
  have q':(if Fo b then H b else Hs b)=some o:=q;split at q'
  .exact q'
  .exact h.ext.sub b o q'
 have fz:∀b,Fo b->∃vs,H b=some (.lst vs)/\H0 b=none:=λb ⟨i,x,ds,g1,_,g3⟩=>by
  obtain⟨a,vs,k1,k2,k3,k4,k5⟩:=h.ow i x ds g1;rw[k1] at g3;cases g3;exact⟨vs,k2,k5⟩
 have shp:∀b o,Hs1 b=some o->Hs b=some o\/∃vs,o=.lst vs:=λb o q=>by
  have q':(if Fo b then H b else Hs b)=some o:=q;split at q'
  .rename_i f
   obtain⟨vs,k2,_⟩:=fz b f;rw[k2] at q';cases q';exact .inr ⟨vs,rfl⟩
  .exact .inl q'
 have hz:∀(b:Addr)(u:Heap->Prop),H b=some (.ext u)->Hs b=none->Hs1 b=none:=λb u q n=>by
  show(if Fo b then H b else Hs b)=none;rw[Q5z λf=>?_]
  .exact n
  .obtain⟨vs,k2,_⟩:=fz b f
   rw[k2] at q;cases q
 refine⟨Hs1,vis,shp,⟨h.ext.vis.trans vis,h.ext.all,sub,λb o q z=>?_⟩,by rw[h.len];simp[frz],λi x d q=>?_,λi x ds q=>?_,λi j x y ds es a hij q1 q2=>?_,λi x dss q=>?_,λp hp=>by obtain⟨h0,l,T,n1,n2⟩:=h.lam p hp;exact⟨h0,l,T,hz _ _ T.tab n1,λq hq=>hz _ _ (T.cod q hq) (n2 q hq)⟩⟩
 .show(if Fo b then H b else Hs b)=none
  rw[Q5z λf=>by obtain⟨_,_,k⟩:=fz b f;rw[k] at q;cases q]
  exact h.ext.hid b o q z
 .rcases jf q with⟨q,_⟩|⟨ds,e1,q2,hm⟩|⟨dss,e1,q2,hm⟩
  .obtain⟨v,k1,k2⟩:=h.sh i x d q
   exact⟨v,k1,Rep.same vis d v k2⟩
  .cases e1
   obtain⟨a,vs,k1,k2,k3,k4,k5⟩:=h.ow i x ds q2;refine⟨_,k1,?_⟩;simp only[Rep];refine⟨a,vs,rfl,.of ?_,aJ.same vis ds vs k3⟩;show(if Fo a then H a else Hs a)=_;rw[P5z ⟨i,x,ds,q2,hm,k1⟩];exact k2
  .exact(h.oo i x dss q2).elim
 .rcases jf q with⟨q,hm⟩|⟨ds',e1,q,hm⟩|⟨ds',e1,q,hm⟩
  .obtain⟨a,vs,k1,k2,k3,k4,k5⟩:=h.ow i x ds q
   refine⟨a,vs,k1,k2,aJ.same vis ds vs k3,?_,k5⟩;show(if Fo a then H a else Hs a)=none;rw[Q5z]
   .exact k4
   .rintro⟨j,y,es,g1,g2,g3⟩
    by_cases hij:i=j
    .subst hij
     rw[q] at g1;cases g1;rw[hm rfl] at g2;cases g2
    .exact h.dis i j x y ds es a hij q g1 k1 g3
  .cases e1
  .cases e1
 .rcases jf q1 with⟨q1,_⟩|⟨ds',e1,_⟩|⟨ds',e1,_⟩
  .rcases jf q2 with⟨q2,_⟩|⟨ds',e1,_⟩|⟨ds',e1,_⟩
   .exact h.dis i j x y ds es a hij q1 q2
   .cases e1
   .cases e1
  .cases e1
  .cases e1
 .rcases jf q with⟨q,_⟩|⟨ds',e1,_⟩|⟨ds',e1,_⟩
  .exact h.oo i x dss q
  .cases e1
  .cases e1
theorem Hd.frozen(n:Nat)(e:Expr)(h:Hd K lm Hs0 H0 Hs H U O):∃Hs1,Same Hs Hs1/\Hd K lm Hs0 H0 Hs1 H (frz n e U) O :=
 let ⟨Hs1,a,_,b⟩:=h.frozen2 n e
 ⟨Hs1,a,b⟩
theorem Hd.set{x:Str}{i:Nat}{d:D}{v:V}(h:Hd K lm Hs0 H0 Hs H U O)(hn:(U.map (·.1)).Nodup)(hi:(U.map (·.1))[i]?=some x)(r:Rep K Hs d v):Hd K lm Hs0 H0 Hs H (cU U x (.sh d)) (O.set i (some v)):=by
 have hl:i<O.length:=by have:=(List.getElem?_eq_some_iff.mp hi).1;rw[h.len];simpa using this
 refine⟨h.ext,by rw[R3z,h.len];have:=congrArg List.length (aH U x (.sh d));simpa using this.symm,mR hn hi hl h.sh r,λj y ds e=>?_,λj j' y y' ds es a hjj e1 e2 e3 e4=>?_,λj y dss e=>?_,h.lam⟩
 .rw[aX hn hi j] at e
  split at e
  .cases e
  .rename_i hj
   obtain⟨a,vs,k1,k⟩:=h.ow j y ds e;exact⟨a,vs,by rw[List.getElem?_set_ne (λz=>hj z.symm)];exact k1,k⟩
 .rw[aX hn hi] at e1 e2
  split at e1
  .cases e1
  .rename_i hj
   split at e2
   .cases e2
   .rename_i hj'
    rw[List.getElem?_set_ne (λz=>hj z.symm)] at e3;rw[List.getElem?_set_ne (λz=>hj' z.symm)] at e4;exact h.dis j j' y y' ds es a hjj e1 e2 e3 e4
 .rw[aX hn hi j] at e
  split at e
  .cases e
  .rename_i hj
   exact h.oo j y dss e
theorem Hd.own{x:Str}{i:Nat}{ds:List D}{vs:List V}{acc:Addr}(h:Hd K lm Hs0 H0 Hs H U O)(hn:(U.map (·.1)).Nodup)(hi:(U.map (·.1))[i]?=some x)(h1:H acc=some (.lst vs))(r:aJ K Hs ds vs)(h2:Hs acc=none)(h3:H0 acc=none)
  (no:∀(j:Nat) y dss,j≠i->U[j]?=some (y,.oo dss)->False) (ap:∀(j:Nat) y es,j≠i->U[j]?=some (y,.ow es)->O[j]?=some (some (.ref acc))->False):Hd K lm Hs0 H0 Hs H (cU U x (.ow ds)) (O.set i (some (.ref acc))):=by
 have hl:i<O.length:=by have:=(List.getElem?_eq_some_iff.mp hi).1;rw[h.len];simpa using this
 refine⟨h.ext,by rw[R3z,h.len];have:=congrArg List.length (aH U x (.ow ds));simpa using this.symm,λj y d e=>?_,λj y es e=>?_,λj j' y y' ds' es a hjj e1 e2 e3 e4=>?_,λj y dss e=>?_,h.lam⟩
 .rw[aX hn hi j] at e
  split at e
  .cases e
  .rename_i hj
   obtain⟨v,k1,k2⟩:=h.sh j y d e;exact⟨v,by rw[List.getElem?_set_ne (λz=>hj z.symm)];exact k1,k2⟩
 .rw[aX hn hi j] at e
  split at e
  .rename_i hj
   subst hj;cases e;exact⟨acc,vs,by rw[List.getElem?_set_self hl],h1,r,h2,h3⟩
  .rename_i hj
   obtain⟨a,vs',k1,k⟩:=h.ow j y es e;exact⟨a,vs',by rw[List.getElem?_set_ne (λz=>hj z.symm)];exact k1,k⟩
 .rw[aX hn hi] at e1 e2
  split at e1
  .rename_i hj
   split at e2
   .rename_i hj'
    exact hjj (hj.trans hj'.symm)
   .rename_i hj'
    subst hj;rw[List.getElem?_set_self hl] at e3;cases e3;rw[List.getElem?_set_ne (λz=>hj' z.symm)] at e4;exact ap j' y' es hj' e2 e4
  .rename_i hj
   split at e2
   .rename_i hj'
    subst hj';rw[List.getElem?_set_self hl] at e4;cases e4;rw[List.getElem?_set_ne (λz=>hj z.symm)] at e3;exact ap j y ds' hj e1 e3
   .rename_i hj'
    rw[List.getElem?_set_ne (λz=>hj z.symm)] at e3;rw[List.getElem?_set_ne (λz=>hj' z.symm)] at e4;exact h.dis j j' y y' ds' es a hjj e1 e2 e3 e4
 .rw[aX hn hi j] at e
  split at e
  .cases e
  .rename_i hj
   exact(no j y dss hj e).elim
theorem Hd.app{x:Str}{i:Nat}{ds es:List D}{vs:List V}{a:Addr}(h:Hd K lm Hs0 H0 Hs H U O)(hn:(U.map (·.1)).Nodup)(hi:U[i]?=some (x,.ow ds))(hO:O[i]?=some (some (.ref a)))(r:aJ K Hs es vs):Hd K lm Hs0 H0 Hs (upd H a (.lst vs)) (cU U x (.ow es)) O:=by
 obtain⟨a',vs',k1,k2,k3,k4,k5⟩:=h.ow i x ds hi;rw[hO] at k1;cases k1
 have hi':(U.map (·.1))[i]?=some x:=by rw[List.getElem?_map,hi];rfl
 refine⟨Ext.acc h.ext k5 k4,by rw[h.len];have:=congrArg List.length (aH U x (.ow es));simpa using this.symm,λj y d e=>?_,λj y es' e=>?_,λj j' y y' ds' es' b hjj e1 e2 e3 e4=>?_,λj y dss e=>?_,λp hp=>by obtain⟨h0,l,T,n⟩:=h.lam p hp;exact⟨h0,l,T.upd k2,n⟩⟩
 .rw[aX hn hi' j] at e
  split at e
  .cases e
  .exact h.sh j y d e
 .rw[aX hn hi' j] at e
  split at e
  .rename_i hj
   subst hj;cases e;exact⟨a,vs,hO,aV,r,k4,k5⟩
  .rename_i hj
   obtain⟨b,us,g1,g2,g⟩:=h.ow j y es' e;refine⟨b,us,g1,?_,g⟩;rw[aG]
   .exact g2
   .rintro rfl
    exact h.dis j i y x es' ds b hj e hi g1 hO
 .rw[aX hn hi'] at e1 e2
  split at e1
  .rename_i hj
   split at e2
   .rename_i hj'
    exact hjj (hj.trans hj'.symm)
   .subst hj
    exact h.dis j j' x y' ds es' b hjj hi e2 e3 e4
  .split at e2
   .rename_i hj'
    subst hj';exact h.dis j j' y x ds' ds b hjj e1 hi e3 e4
   .exact h.dis j j' y y' ds' es' b hjj e1 e2 e3 e4
 .rw[aX hn hi' j] at e
  split at e
  .cases e
  .rename_i hj
   exact h.oo j y dss e
theorem DR{x:Str}{i:Nat}(hn:(U.map (·.1)).Nodup)(hi:(U.map (·.1))[i]?=some x)(h:pF U x=true):∀(j:Nat) y dss,j≠i->U[j]?=some (y,.oo dss)->False:=λj y dss hj e=>by
 have:=A3z.mp h _ (List.mem_of_getElem? e);rw[O3z] at this;rcases this with q|q
 .have ey:y=x:=by simpa using q
  have e':(U.map (·.1))[j]?=some x:=by rw[List.getElem?_map,e,<- ey];rfl
  exact hj ((List.getElem?_inj (List.getElem?_eq_some_iff.mp e').1 hn).mp (e'.trans hi.symm))
 .exact nomatch q
theorem qT{scope:Scope}:kh K Hs scope (λU O=>Hd K lm Hs0 H0 Hs H U O):=λU O i x d v hn hi _ h r=>h.set hn hi r
end
end L2
namespace L2
open PySem PySem.Spec PyProof.Rows PySem.SeqAt
open DE hiding st
def jJ(X:Cx)(s:Stmt):TS:=λD O H=>∀z0 s0,Inv X z0 O H s0->wpAny (model X.prog X.w) X.A (exec s X.env) (SP X z0 D) X.xe s0
def gq(X:Cx)(s:List Stmt):TS:=λD O H=>∀z0 s0,Inv X z0 O H s0->wpAny (model X.prog X.w) X.A (execs s X.env) (SP X z0 D) X.xe s0
section
variable{X:Cx}{s:Stmt}{ss:List Stmt}{t:TS}{D:Ends}{O:St}{H:Hp}
theorem Ao:PS X s (jJ X s):=λz0 s O H D I h=>h z0 s I
theorem PS.sem(h:PS X s t)(q:t D O H):jJ X s D O H:=λz0 s I=>h z0 s O H D I q
theorem dR:PSs X ss (gq X ss):=λz0 s O H D I h=>h z0 s I
theorem PSs.sem(h:PSs X ss t)(q:t D O H):gq X ss D O H:=λz0 s I=>h z0 s O H D I q
end
def Runs(X:Cx)(Hs0 H0:Hp)(U:Rho)(fl:Fl)(t:TS):Prop:=∀O H Hs D,Hd X.K X.lm Hs0 H0 Hs H U O->X.N=U.map (·.1)->(∀U' O' Hs' H',fl=.nxt U'->Same Hs Hs'->X.N=U'.map (·.1)->Hd X.K X.lm Hs0 H0 Hs' H' U' O'->D.nx O' H') ->
 (∀d v Hs' H',fl=.ret d->Ext Hs0 H0 Hs' H'->Rep X.K Hs' d v->LmT X.lm H'->D.rt v H')->t D O H
structure GoodS(cx:Cxt)(k:Nat)(X:Cx)(sc:Scope):Prop where
 good:Good cx k X sc
 own:Owns X sc
 pass:PassesOwn (model X.prog X.w) X.A X.env X.xe
 stk:X.stack=X.env::X.outer/\X.env.frame=some X.env.locals
section
variable{X:Cx}{U:Rho}{cx:Cxt}{k F:Nat}{sc scope:Scope}{Hs0 H0:Hp}{e:Expr}{d:D}
theorem zF(G:GoodS cx k X sc)(hN:X.N=U.map (·.1))(he:ev cx F sc (frz F e U) e=some d){O:St}{H Hs:Hp}{Q:VK}(h:Hd X.K X.lm Hs0 H0 Hs H U O)(q:∀v Hs' H',Same Hs Hs'->Hd X.K X.lm Hs0 H0 Hs' H' (frz F e U) O->Rep X.K Hs' d v->Q v H'):oK X e O H Q:=by
 obtain⟨Hs1,sm1,h1⟩:=h.frozen F e;exact(gb cx F G.good (by rw[aR];exact hN) he).1 O H Hs1 Q h1.ext.sub h1.sh λv H' Hs' E r=>q v Hs' H' (sm1.trans E.vis) (h1.step E) r
theorem JQ(G:GoodS cx k X sc)(hN:X.N=U.map (·.1)){b:Bool}(he:ev cx F sc (frz F e U) e=some (.bl b)){O:St}{H Hs:Hp}{Q:Bool->Hp->Prop}(h:Hd X.K X.lm Hs0 H0 Hs H U O)(q:∀Hs' H',Same Hs Hs'->Hd X.K X.lm Hs0 H0 Hs' H' (frz F e U) O->Q b H'):rR X e O H Q:=by
 obtain⟨Hs1,sm1,h1⟩:=h.frozen F e;exact(gb cx F G.good (by rw[aR];exact hN) he).2 b rfl O H Hs1 Q h1.ext.sub h1.sh λH' Hs' E=>q Hs' H' (sm1.trans E.vis) (h1.step E)
theorem Ez(G:GoodS cx k X sc)(hN:X.N=U.map (·.1)){b:Bool}(he:ev cx F sc (frz F e U) e=some (.bl b)){O:St}{H Hs:Hp}{Q:Bool->Hp->Prop}(h:Hd X.K X.lm Hs0 H0 Hs H U O)(q:∀Hs' H',Same Hs Hs'->Hd X.K X.lm Hs0 H0 Hs' H' U O->Q b H'):rR X e O H Q:=by
 obtain⟨Hs1,sm1,shp,h1⟩:=h.frozen2 F e;refine(gb cx F G.good (by rw[aR];exact hN) he).2 b rfl O H Hs1 Q h1.ext.sub h1.sh λH' Hs' E=>?_;exact q Hs H' (.refl _) (h.step ⟨.refl _,E.all,h.ext.sub.trans E.all,λ_ _ _ z=>z⟩)
theorem iK{t:Option Expr}{l:Nat}{env:Env}(he:ev cx F sc U e=some d)(hc:∀a b c p,e≠.ListComp a b c p):swapsWith e t l env=pure false:=by
 cases F with
 |zero=>simp[ev] at he
 |succ F =>
  cases e<;>first|rfl|(exact nomatch (show(Option.none:Option D)=some d from he))|(exact absurd rfl (hc _ _ _ _))
theorem yt(h:bf e=false):kY e d=.sh d:=by
 unfold kY;split
 .rw[h];rfl
 .rfl
def U3(X:Cx)(U:Rho)(e:Expr)(ds:List D):Prop:=∀O H Hs Q,Same Hs H->bM X.K Hs U O->(∀acc vs Hs' H',Ext Hs H Hs' H'->H acc=none->Hs' acc=none->H' acc=some (.lst vs)->aJ X.K Hs' ds vs->Q (.ref acc) H')->oK X e O H Q
theorem yI{es:List Expr}{ds:List D}{pos:Pos}(h:EvA X U es ds)(hz:szl ds.length=true):U3 X U (.List es pos) ds:=λO H Hs Q hs hst hq =>
 (Aw bW).sem (h O H Hs _ hs hst λvs H1 Hs1 E1 r1=>⟨by rw[<- r1.length];exact eH hz,λp hp =>
  hq p vs Hs1 _ (Ext.acc E1 (E1.all.free hp) (E1.sub.free hp)) (E1.all.free hp) (E1.sub.free hp) aV r1⟩)
theorem Hq{x:Str}{ds:List D}{px pos:Pos}(G:GoodS cx k X sc)(hN:X.N=U.map (·.1))(hx:ownIn sc x=true)(hc:(U.map (·.1)).contains x=true)(hno:pF (frz F e U) x=true)
  (hrun:∀(i:Nat),X.N[i]?=some x->∀O H Hs D,Same Hs H->bM X.K Hs (frz F e U) O->(∀acc vs Hs' H',Ext Hs H Hs' H'->H acc=none->Hs' acc=none->H' acc=some (.lst vs)->aJ X.K Hs' ds vs->D.nx (O.set i (some (.ref acc))) H')->jJ X (.Assign [.Name x px] e pos) D O H) :
  Runs X Hs0 H0 U (.nxt (cU (frz F e U) x (.ow ds))) (jJ X (.Assign [.Name x px] e pos)):=by
 intro O H Hs D h _ hn hr;obtain⟨i,hi⟩:=bR hc;obtain⟨Hs1,sm1,h1⟩:=h.frozen F e
 have hnd:((frz F e U).map (·.1)).Nodup:=by rw[aR,<- hN];exact G.good.nd
 refine hrun i (by rw[hN];exact hi) O H Hs1 D h1.ext.sub h1.sh λacc vs Hs' H' E a1 a2 a3 r=>?_
 refine hn _ _ Hs' H' rfl (sm1.trans E.vis) (by rw[aH,aR];exact hN) ((h1.step E).own hnd (by rw[aR];exact hi) a3 r a2 (h1.ext.all.free a1) (DR hnd (by rw[aR];exact hi) hno) λj y es hj q1 q2=>?_)
 obtain⟨b,us,k1,k2,_⟩:=h1.ow j y es q1;rw[k1] at q2;cases q2;rw[a1] at k2;cases k2
theorem Ci{x:Str}{px pos:Pos}(G:GoodS cx k X sc)(hN:X.N=U.map (·.1))(hx:ownIn sc x=true)(hc:(U.map (·.1)).contains x=true)(hlc:ooE cx sc e=false)(hno:bf e=true->pF (frz F e U) x=true)(he:ev cx F sc (frz F e U) e=some d) :
  Runs X Hs0 H0 U (.nxt (cU (frz F e U) x (kY e d))) (jJ X (.Assign [.Name x px] e pos)):=by
 obtain⟨ox,of⟩:=G.own.own x hx
 have hN':X.N=(frz F e U).map (·.1):=by rw[aR];exact hN
 by_cases hfr:bf e=true
 .cases F with
  |zero=>simp[ev] at he
  |succ F =>
   cases e with
   |List es p2 =>
    simp only[ev] at he;obtain⟨ds,h1,he⟩:=aW he;split at he
    .rename_i hz
     cases he;have hA:=(eV (λe _ d hd=>⟨(gb cx F G.good hN' hd).1,aZ hd⟩) h1).1;refine Hq G hN hx hc (hno rfl) λi hi O H Hs D hs hst hq=>?_;refine PS.sem (u0 G.good.nd hi ox ak rfl of) (yI hA hz O H Hs _ hs hst λacc vs Hs' H' E a1 a2 a3 r=>hq acc vs Hs' H' E a1 a2 a3 r)
    .cases he
   |ListComp elt gens scope p2=>cases hlc
   |_=>simp[bf] at hfr
 .have hfr':bf e=false:=by simpa using hfr
  rw[yt hfr'];intro O H Hs D h _ hn hr;obtain⟨i,hi⟩:=bR hc
  have hsw:=iK (t:=some (.Name x px)) (l:=pos.line) (env:=X.env) he λa b c p q=>by rw[q] at hfr';cases hfr'
  refine PS.sem (u0 (i:=i) G.good.nd (by rw[hN];exact hi) ox ak hsw of) (zF G hN he h λv Hs' H' sm h' r=>?_)
  exact hn _ _ Hs' H' rfl sm (by rw[aH];exact hN') (h'.set (by rw[<- hN'];exact G.good.nd) (by rw[aR];exact hi) r)
theorem tQ{es:List Expr}{l:List D}{U':Rho}{O:St}{v:V}{Hs H:Hp}{P:Rho->St->Prop}{Q:St->Hp->Prop}{kt:Nat}{pos:Pos}(G:GoodS cx k X sc)(hs:Same Hs H)(hN:X.N=U.map (·.1))(KE:kh X.K Hs sc P)(hl:tupI d=some l)(hb:bindNames sc es l U=some U')(hp:P U O)(rd:Rep X.K Hs d v)
  (hq:∀O',X.N=U'.map (·.1)->P U' O'->Q O' H):Bj X (.Tuple es kt pos) v O H Q:=by
 obtain⟨e1,e2,e3⟩:=fu (env:=X.env) hb
 cases d with
 |tup xs =>
  simp only[tupI,C2z] at hl;subst hl
  obtain⟨a,vs,rfl,h1,h2⟩:=bL rd;exact PG.sem (Ar G.good.calm pq e1 e2) ⟨a,vs,rfl,hs.tup h1,by rw[<- h2.length,e3],gJ G.own G.good.nd KE hN hb hp h2 hq⟩
 |_=>simp[tupI] at hl
theorem qP{n:Nat}(h:nc0 e=true):foldedForSure n e=false/\constantsAlone n e=false:=by
 cases e with
 |Name x p =>
  have h':(!(x==("__debug__":Str)))=true:=h
  have e:(x==("__debug__":Str))=false:=by simpa using h'
  exact⟨by cases n<;>rfl,by cases n<;>exact e⟩
 |_=>cases n<;>first|exact⟨rfl,rfl⟩|exact nomatch h
theorem Ji{n:Nat}(h:nc1 e=true):constantsAlone (n+1) e=false:=by
 unfold nc1 at h;split at h
 .show(constantsAlone n _&&constantsAlone n _)=false
  rw[(qP h).2];rfl
 .exact(qP h).2
theorem yM(h:nc e=true):foldedForSure 8 e=false/\constantsAlone 8 e=false:=by
 unfold nc at h;split at h
 .rw[O3z] at h
  refine⟨rfl,show(constantsAlone 7 _&&constantsAlone 7 _)=false from ?_⟩
  rcases h with h|h<;>simp[(qP h).2]
 .rw[O3z] at h
  refine⟨rfl,show(constantsAlone 7 _&&constantsAlone 7 _)=false from ?_⟩
  rcases h with h|h<;>simp[Ji h]
 .exact qP h
theorem lX(G:Good cx k X sc):X.env.blockKind=.function:=by
 unfold Env.blockKind;rw[G.sce,G.kind];rfl
theorem Hj{es:List Expr}{kt:Nat}{pt:Pos}(G:Good cx k X sc)(h:swp sc es e=some false):swappedStores [.Tuple es kt pt] e X.env=pure none:=by
 cases e with
 |Tuple vs k2 p2 =>
  simp only[swp] at h;split at h
  .rename_i x px y py a b
   split at h
   .split at h
    .cases h
    .split at h
     .rename_i hcs
      rw[L2z] at hcs
      have f1:foldedForSure 8 a=true:=by cases a<;>first|rfl|(simp[yW] at hcs)
      have f2:foldedForSure 8 b=true:=by cases b<;>first|rfl|(simp[yW] at hcs)
      have al1:[a,b].all (foldedForSure 8)=true:=by simp[f1,f2]
      unfold swappedStores;simp only[al1,O5z]
      repeat' split
      all_goals rfl
     .cases h
   .rename_i hl
    have hl':¬ ((X.env.kindOf x==some .local)=true/\(X.env.kindOf y==some .local)=true):=by
     intro q;apply hl;rw[L2z];unfold Env.kindOf at q;rw[G.sce] at q;exact q
    unfold swappedStores
    cases h1:X.env.kindOf x==some .local<;>cases h2:X.env.kindOf y==some .local
    all_goals simp only[h1,h2] at hl'
    all_goals simp[h1,h2,lX G]
    .intro _ _ hlen
     exfalso
     have n1:¬ X.env.kindOf x=some .local:=by simpa using h1
     have n2:¬ X.env.kindOf y=some .local:=by simpa using h2
     simp[C1z,n1,n2] at hlen
    .intro _ _ hlen
     exfalso
     have n1:¬ X.env.kindOf x=some .local:=by simpa using h1
     simp only[C1z,List.filterMap_nil,n1,false_and,M5z] at hlen
     split at hlen<;>simp at hlen
    .intro _ _ hlen
     exfalso
     have n1:¬ X.env.kindOf y=some .local:=by simpa using h2
     simp only[C1z,List.filterMap_nil,n1,false_and,M5z] at hlen
     split at hlen<;>simp at hlen
    .exact absurd ⟨trivial,trivial⟩ hl'
  .rename_i x px y py z pz a b c
   split at h
   .rename_i hl
    simp only[L2z] at hl;obtain⟨⟨l1,l2⟩,l3⟩:=hl
    have kd:∀{v:Str},(sc.names.lookup v==some NameKind.cell)=true->¬ X.env.kindOf v=some .local:=λ{v} hv q=>by
     unfold Env.kindOf at q;rw[G.sce,eq_of_beq hv] at q;cases q
    have n1:=kd l1;have n2:=kd l2;have n3:=kd l3;unfold swappedStores
    have b1:(X.env.kindOf x==some NameKind.local)=false:=by simpa using n1
    have b2:(X.env.kindOf y==some NameKind.local)=false:=by simpa using n2
    have b3:(X.env.kindOf z==some NameKind.local)=false:=by simpa using n3
    simp[lX G,C1z,b1,b2,b3,n1,n2,n3]
   .cases h
  .cases h
 |_=>rfl
theorem Cd{es:List Expr}{kt:Nat}{pt:Pos}(G:Good cx k X sc)(h:swp sc es e=some true):∃x px y py a b k2 p2,es=[.Name x px,.Name y py]/\e=.Tuple [a,b] k2 p2/\X.env.scope.names.lookup x=some .local/\X.env.scope.names.lookup y=some .local/\x≠y/\aA a=true/\aA b=true /\
    swappedStores [.Tuple es kt pt] e X.env=pure (some [x,y]):=by
  cases e with
  |Tuple vs k2 p2 =>
    simp only[swp] at h
    split at h
    . rename_i x px y py a b
      split at h
      . rename_i hl
        split at h
        . rename_i hq
          rw[L2z] at hl
          rw[L2z,L2z,L2z,L2z,O3z] at hq
          obtain⟨⟨⟨⟨q1,q2⟩,q3⟩,q4⟩,q5⟩:=hq
          have l1:X.env.kindOf x=some .local:=by unfold Env.kindOf;rw[G.sce];simpa using hl.1
          have l2:X.env.kindOf y=some .local:=by unfold Env.kindOf;rw[G.sce];simpa using hl.2
          have hxy:x≠y:=by simpa using q2
          have hpl : py.line = px.line := by have : px.line = py.line := by simpa using q1
                                             exact this.symm
          have f1:(foldedForSure 8 a&&foldedForSure 8 b)=false:=by
            rcases q3 with q|q
            . rw[(yM q).1];rfl
            . rw[(yM q).1,B4z]
          have f2:(constantsAlone 8 a&&constantsAlone 8 b)=false:=by
            rcases q3 with q|q
            . rw[(yM q).2];rfl
            . rw[(yM q).2,B4z]
          refine⟨x,px,y,py,a,b,k2,p2,rfl,rfl,l1,l2,hxy,q4,q5,?_⟩
          unfold swappedStores
          have ed:([x,y]:List Str).eraseDups.length=2:=by
            have:(y==x)=false:=by simpa using hxy.symm
            simp[List.eraseDups_cons,this]
          have al1:[a,b].all (foldedForSure 8)=false:=by simpa using f1
          have al2:[a,b].all (constantsAlone 8)=false:=by simpa using f2
          simp only[al1,al2,lX G]
          generalize hst:[a,b].any _=sb
          have hsb:sb=false:=by
            rw[<- hst,H4z,H4z,List.any_nil,Bool.or_false,A1z]
            clear hst f1 f2 al1 al2 q3
            refine⟨?_,?_⟩
            . cases a<;>first|rfl|(simp[aA] at q4)
            . cases b<;>first|rfl|(simp[aA] at q5)
          generalize hf:List.filterMap _ [Expr.Name x px,Expr.Name y py]=nm
          have hnm:nm=[x,y]:=by
            rw[<- hf]
            simp[C1z,l1,l2,hpl,Expr.pos]
          rw[hsb,hnm]
          simp only[ed]
          rfl
        . split at h<;>cases h
      . cases h
    . split at h<;>cases h
    . cases h
  |_=>simp[swp] at h
end
def xH(X:Cx)(O:St)(E:XK):Prop:=∀z0 H s (C e:Addr) h' args,Inv X z0 O H s->Heap.MadeExcOf s.heap h' e (.ref C) args->E (.ref C) none H->X.xe (.ref e) {s with heap:=h'}
def EX(X:Cx)(c:Str)(Hs H:Hp)(E:XK):Prop:=∀C H' Hs',W.nsIn X.K mainGlobals c=some (some (.ref C))->Ext Hs H Hs' H'->E (.ref C) none H'
theorem EX.step{X:Cx}{c:Str}{Hs H Hs1 H1:Hp}{E:XK}(h:EX X c Hs H E)(e:Ext Hs H Hs1 H1):EX X c Hs1 H1 E:=λC H' Hs' hn e'=>h C H' Hs' hn (e.trans e')
def EvX(X:Cx)(U:Rho)(e:Expr)(c:Str):Prop:=∀O H Hs E,Same Hs H->bM X.K Hs U O->EX X c Hs H E->XOk X O E->∀Q,oK X e O H Q
def U4(X:Cx)(U:Rho)(es:List Expr)(c:Str):Prop:=∀O H Hs E,Same Hs H->bM X.K Hs U O->EX X c Hs H E->XOk X O E->∀Q,ux X es O H Q
section
variable{X:Cx}{U:Rho}{cx:Cxt}{k:Nat}{sc scope:Scope}
theorem Cu{f:Addr}{fd:FuncData}{ps:List Str}{sp:Sp}{E:XK}{z0:List (Addr×Obj)}{O:St}{H:Hp}{s:Shared}{Q:VK}{us:List Value}{vs:List V}(F:FnOk X.prog X.w X.K X.mg X.base (CX1 X.prog X.w) k f fd ps sp)(hr:Room k X.A)(hb:Binds X.K fd ps [])(hx:XOk X O E)
  (I:Inv X z0 O H s) (r:Vals vs us) (h:sp vs H Q E):wpAny (model X.prog X.w) X.A (call (.ref f) us) (EP X z0 O Q) X.xe s:=by
 have hl:(us++([]:List Value)).length=ps.length:=by rw[G3z,<- r.length];exact F.len _ _ _ _ h
 have hb':=hb s us I.kIn hl;rw[G3z] at hb';refine wpAny_call (U4z (F.run X.A X.stack s H ⟨us,[]⟩ us vs Q E hr I.env0 hb' r h) λr s' hq=>?_)
 cases r with
 |error e=>exact hx z0 H s e s' I (.inl hq)
 |ok fl =>
  cases fl with
  |ret u=>exact I.after hq
  |next=>exact False.elim hq
  |brk=>exact False.elim hq
  |cont=>exact False.elim hq
theorem zM{f:Str}{es:List Expr}{c:Str}{p pos:Pos}(G:Good cx k X sc)(hg:Gl X f)(hf:cx.fns.contains f=true)(hne:es≠[])(hp:∀e∈es,aA e=true)(h:U4 X U es c\/∃ds,EvA X U es ds/\cx.callx f ds=some c) :
  EvX X U (.Call (.Name f p) es [] pos) c:=by
 obtain⟨hdb,a,fd,ps,_,har,hm,hk,hb,F⟩:=G.fns f hf
 cases es with
 |nil=>exact absurd rfl hne
 |cons e es =>
  intro O H Hs E hs hst hE hx Q z0 s I;refine M1z (gB I hg hm ?_ hdb);refine W.callWith_K (h₀:=X.base) I.ok.mod.kin hk ?_ (aj (hp e (by simp))) (fV λe' he=>hp e' (S0z _ he));rcases h with h|⟨ds,hA,hc⟩
  .exact thn (h O H Hs E hs hst hE hx (λ_ _=>False) pos z0 s I) λus s1 ⟨vs,H1,I1,r,q⟩=>q.elim
  .refine thn (hA O H Hs (λvs H1=>∃Hs1,Ext Hs H Hs1 H1/\aJ X.K Hs1 ds vs) hs hst (λvs H1 Hs1 E1 r1=>⟨Hs1,E1,r1⟩) pos z0 s I) λus s1 ⟨vs,H1,I1,r,Hs1,E1,r1⟩=>⟨I1.kIn,?_⟩
   exact Cu F G.room hb hx I1 r ⟨by rw[<- r1.length,har ds c hc],Hs1,ds,E1.sub,r1,.inr ⟨c,hc,hE.step E1⟩⟩
theorem Ew{x:Str}{a:Expr}{c:Str}{p pos:Pos}(G:Good cx k X sc)(hx:bh cx sc x=some "tuple")(h:EvX X U a c)(hp:aA a=true):EvX X U (.Call (.Name x p) [a] [] pos) c:=by
 obtain⟨hg,hm,rfl⟩:=bZ G hx;intro O H Hs E hs hst hE hx Q z0 s I;refine Call_ (fY I hg hm (show bootBuiltins "tuple"=some (.type "tuple") by decide +kernel) (B0z ?_ (aj hp) rfl));exact thn (aY ak cg (aj hp) pos z0 s O H (λ_ _=>False) I (h O H Hs E hs hst hE hx _)) λus s1 ⟨vs,H1,I1,r,q⟩=>q.elim
theorem tG{tg iter elt:Expr}{l:List D}{f:Rho->Expr->Option D}{g:Rho->Expr->Option Str}{c:Str}{O:St}{H Hs:Hp}{Q:VK}{E:XK}(G:Good cx k X sc)(hN:X.N=U.map (·.1))(hok:eY sc scope=true)(hI:∀R,(∀J H' Hs',Ext Hs H Hs' H'->Ag X.K J Hs' l->R J H')->mH X tg iter O H R)(hz:szl l.length=true)
  (hgo:dX (λd=>(cC scope tg d (aO scope U)).bind λU1=>f U1 elt) (λd=>(cC scope tg d (aO scope U)).bind λU1=>g U1 elt) l=some c)
  (hE:∀Xc,CompOf X scope Xc->∀U1:Rho,Xc.N=U1.map (·.1)->(∀d,f U1 elt=some d->Ev Xc U1 elt d)/\∀c,g U1 elt=some c->EvX Xc U1 elt c)
  (hst:bM X.K Hs U O) (hx:EX X c Hs H E) (hxo:XOk X O E) (hsk:mz X) :
  uy X scope (mH X tg iter) (sO X.N scope.names) (λXc=>Bj Xc tg) (λXc=>sW Xc []) (λXc=>oK Xc elt) O H Q:=by
 obtain⟨ok1,ok2,ok3⟩:=dH G hok;refine hI _ λJ H1 Hs1 E1 hJ acc hacc Xc C hxc=>?_;have GC:=G.comp C hok;have OC:=Owns.comp (scope:=scope) G C
 have hNc:∀U1:Rho,U1.map (·.1)=scope.names.map (·.1)->Xc.N=U1.map (·.1):=λU1 h=>by rw[C.N,h]
 have a1:Hs1 acc=none:=E1.sub.free hacc
 let W:Nat->Nat->St->Hp->Prop:=λi m Oc H=>m=l.length-i/\i<=l.length/\∃Hs3 ys,Ext Hs1 H1 Hs3 H/\Hs3 acc=none/\H acc=some (.lst ys)/\ys.length=i/\dX (λd=>(cC scope tg d (aO scope U)).bind λU1=>f U1 elt) (λd=>(cC scope tg d (aO scope U)).bind λU1=>g U1 elt) (l.drop i)=some c/\Oc.length=scope.names.length/\bM X.K Hs3 (aO scope U) Oc
 refine⟨W,⟨l.length,rfl,Z4z _,Hs1,[],Ext.acc (.refl E1.sub) hacc a1,a1,aV,rfl,by simpa using hgo,by simp[sO],jl hN (hst.same E1.vis)⟩,?_⟩;rintro i m Oc H3 ⟨rfl,hi,Hs3,ys,E3,b3,c3,r3,g3,l3,s3⟩;obtain⟨st3,go3⟩:=hJ Hs3 H3 E3.vis E3.sub
 have hlt:i<l.length:=Nat.lt_of_le_of_ne hi λz=>by rw[z,X2z] at g3;cases g3
 have hd:l[i]?=some l[i]:=List.getElem?_eq_getElem hlt;obtain⟨gi,yi⟩:=go3 i l[i] hd;refine .inr ⟨gi,λO' H'=>W (i+1) (l.length-(i+1)) O' H',λO' H' w=>⟨_,by omega,w⟩,λx H4 y4=>?_⟩;obtain⟨Hs4,E4,rx⟩:=yi x H4 y4;have b4:Hs4 acc=none:=E4.hid acc _ c3 b3;have c4:H4 acc=some (.lst ys):=E4.all _ _ c3;rw[D0z hlt,dX] at g3;have s4:bM X.K Hs4 (aO scope U) Oc:=s3.same E4.vis;have KE:=jT (K:=Xc.K) (Hs:=Hs4) (U:=U) (n:=scope.names.length) ok2 rfl
 obtain⟨U1,k1,k2⟩:∃U1,cC scope tg l[i] (aO scope U)=some U1/\((∃v,f U1 elt=some v/\dX (λd=>(cC scope tg d (aO scope U)).bind λU1=>f U1 elt) (λd=>(cC scope tg d (aO scope U)).bind λU1=>g U1 elt) (l.drop (i+1))=some c)\/g U1 elt=some c):=by
  cases hb:cC scope tg l[i] (aO scope U) with
  |none=>rw[hb] at g3;cases g3
  |some U1 =>
   rw[hb] at g3;refine⟨U1,rfl,?_⟩
   cases hf:f U1 elt with
   |some v=>exact .inl ⟨v,rfl,by simpa[hf] using g3⟩
   |none=>exact .inr (by simpa[hf] using g3)
 refine pZ (X:=Xc) (scope:=scope) (Hs:=Hs4) GC.calm OC GC.nd E4.sub (hNc _ cJ) KE k1 ⟨cJ,l3,by rw[C.K];exact s4,by rw[C.K];exact s4⟩ (by rw[C.K];exact rx) λO5 hN5 p5=>?_
 obtain⟨_,l5,s5,s5'⟩:=p5;have hev:=hE Xc C U1 hN5;refine xU.sem qL (tY ?_);rcases k2 with⟨v,k2,k3⟩|k2
 .refine hev.1 v k2 O5 H4 Hs4 _ E4.sub s5 λw H7 Hs7 E7 r7=>?_
  have b7:Hs7 acc=none:=E7.hid acc _ c4 b4;have c7:H7 acc=some (.lst ys):=E7.all _ _ c4
  have s7:bM X.K Hs7 (aO scope U) O5:=by rw[<- C.K];exact s5'.same E7.vis
  exact⟨ys,c7,by have:=uD hz;omega,rfl,hlt,Hs7,ys++[w],Ext.acc (E3.trans (E4.trans E7)) hacc b7,b7,aV,by simp[r3],k3,l5,s7⟩
 .exact hev.2 c k2 O5 H4 Hs4 E E4.sub s5 (λC2 H2 Hs2 q E2=>hx C2 H2 Hs2 (by rw[<- C.K];exact q) (E1.trans (E3.trans (E4.trans E2)))) (hxc hsk E O5 hxo) _
theorem jX(cx:Cxt):∀(n:Nat){k:Nat}{X:Cx}{sc:Scope}{U:Rho}{e:Expr}{c:Str},Good cx k X sc->mz X->X.N=U.map (·.1)->evx cx n sc U e=some c->EvX X U e c
 |0,k,X,sc,U,e,c,_,_,_,h=>by exact nomatch (show(Option.none:Option Str)=some c from h)
 |n+1,k,X,sc,U,e,c,G,hsk,hN,h=>by
  have ih:∀e d,ev cx n sc U e=some d->Ev X U e d/\∀b,d=.bl b->EvT X U e b:=λe d h=>gb cx n G hN h;simp only[evx] at h;split at h
  .rename_i x p args pos
   split at h
   .rename_i hc
    simp only[L2z] at hc;obtain⟨⟨⟨hgl,hne⟩,hpl⟩,hfn⟩:=hc
    have hg:Gl X x:=by
     have e:sc.names.lookup x=some .globalImplicit:=by unfold jB at hgl;simpa using hgl
     show X.env.scope.names.lookup x=_;rw[G.sce,e]
    have hp:∀e∈args,aA e=true:=λe he=>A3z.mp hpl e he;refine zM G hg hfn (λq=>by rw[q] at hne;exact absurd hne (by decide)) hp ?_;split at h
    .rename_i ds hds
     exact .inr ⟨ds,(eV (λe _ d hd=>⟨(ih e d hd).1,aZ hd⟩) hds).1,h⟩
    .cases h
   .split at h
    .rename_i a
     split at h
     .rename_i hc
      rw[L2z] at hc;exact Ew G (by simpa using hc.1) (jX cx n G hsk hN h) hc.2
     .cases h
    .cases h
  .rename_i cc a b pos
   split at h
   .rename_i hc
    have hc':=(ih _ _ (dY hc)).2 _ rfl;have ha:=jX cx n G hsk hN h;intro O H Hs E hs hst hE hx Q;exact(lA cV ak ak).sem (hc' O H Hs _ hs hst λH1 Hs1 E1=>tY (ha O H1 Hs1 E E1.sub (hst.same E1.vis) (hE.step E1) hx Q))
   .rename_i hc
    have hc':=(ih _ _ (dY hc)).2 _ rfl;have ha:=jX cx n G hsk hN h;intro O H Hs E hs hst hE hx Q;exact(lA cV ak ak).sem (hc' O H Hs _ hs hst λH1 Hs1 E1=>vX (ha O H1 Hs1 E E1.sub (hst.same E1.vis) (hE.step E1) hx Q))
   .cases h
  .rename_i elt tg iter ifs a scope pos
   split at h
   .rename_i hc
    simp only[L2z] at hc;obtain⟨⟨ha,hok⟩,hp⟩:=hc
    have ea:a=0:=by simpa using ha
    subst ea;obtain⟨ok1,ok2,ok3⟩:=dH G hok;intro O H Hs E hs hst hE hx Q;refine PE.sem (vm G.calm ok1 ok2 ok3 vf (λXc C=>⟨mX,qK,ak⟩) (iV hp)) ?_;split at h
    .rename_i c' hc'
     cases h;have hi:=jX cx n G hsk hN hc';intro z0 s I;exact thn (hi O H Hs E hs hst hE hx (λ_ _=>False) z0 s I) λv s1 ⟨_,_,_,_,q⟩=>q.elim
    .split at h
     .rename_i hif
      obtain rfl:=List.isEmpty_iff.mp hif;obtain⟨l,hl,h⟩:=aW h;split at h
      .rename_i hz
       exact tG (f:=λU1 e=>ev cx n (jA scope sc) U1 e) (g:=λU1 e=>evx cx n (jA scope sc) U1 e) G hN hok (λR k=>(wB G (λe d h=>⟨(ih e d h).1,aZ h⟩) hl).1 O H Hs R hs hst k) hz h (λXc C U1 hN1=>⟨λd q=>(gb cx n (G.comp C hok) hN1 q).1,λc q=>jX cx n (G.comp C hok) (C.stk hsk) hN1 q⟩) hst hE hx hsk
      .cases h
     .cases h
   .cases h
  .cases h
end
section
variable{X:Cx}{pos:Pos}
end
section
variable{X:Cx}{U:Rho}{cx:Cxt}{k F:Nat}{sc scope:Scope}{Hs0 H0:Hp}{e:Expr}{d:D}
theorem Hl{es:List Expr}{l:List D}{U':Rho}{kt:Nat}{pt pos:Pos}(G:GoodS cx k X sc)(hN:X.N=U.map (·.1))(hs:(swp sc es e).isSome=true)(he:ev cx F sc (frz F e U) e=some d)(hl:tupI d=some l)(hb:bindNames sc es l (frz F e U)=some U') :
  Runs X Hs0 H0 U (.nxt U') (jJ X (.Assign [.Tuple es kt pt] e pos)):=by
 have hN':X.N=(frz F e U).map (·.1):=by rw[aR];exact hN
 obtain⟨b,hb'⟩:=Option.isSome_iff_exists.mp hs
 cases b with
 |false =>
  have hw:=Hj (kt:=kt) (pt:=pt) G.good hb'
  have hso:swapsWithSole [.Tuple es kt pt] e pos.line X.env=pure false:=by
   show swapsWith e (some (.Tuple es kt pt)) pos.line X.env=pure false
   by_cases hc:∃a b c p,e=.ListComp a b c p
   .obtain⟨a,b,c,p,rfl⟩:=hc
    rfl
   .exact iK he λa b c p q=>hc ⟨a,b,c,p,q⟩
  intro O H Hs D h _ hn hr;exact PS.sem (Il ak mX hso hw rfl) (zF G hN he h λv Hs' H' sm h' r=>tQ G h'.ext.sub hN' qT hl hb h' r λO' hN2 p=>hn U' O' Hs' H' rfl sm hN2 p)
 |true =>
  obtain⟨x,px,y,py,a,b,k2,p2,rfl,rfl,lx,ly,hxy,pa,pb,hw⟩:=Cd (kt:=kt) (pt:=pt) G.good hb'
  cases F with
  |zero=>simp[ev] at he
  |succ F =>
   simp only[ev] at he;obtain⟨ds,h1,he⟩:=aW he;split at he
   .cases he
    simp only[tupI,C2z] at hl;subst hl;have hA:=(eV (λe _ d hd=>⟨(gb cx F G.good hN' hd).1,aZ hd⟩) h1).1
    have hlen:ds.length=2:=by have:=(fu (env:=X.env) hb).2.2;simpa using this.symm
    obtain⟨d1,d2,rfl⟩:∃d1 d2,ds=[d1,d2]:=by
     match ds,hlen with
     |[d1,d2],_=>exact⟨d1,d2,rfl⟩
    simp only[bindNames] at hb;split at hb
    .rename_i c1
     split at hb
     .rename_i c2
      cases hb;rw[L2z] at c1 c2;rw[aH] at c2;obtain⟨i,hi⟩:=bR c1.2;obtain⟨j,hj⟩:=bR c2.2
      have hij:i≠j:=λz=>by rw[z,hj] at hi;cases hi;exact hxy rfl
      intro O H Hs D h _ hn hr;obtain⟨Hs1,sm1,h1'⟩:=h.frozen (F+1) (.Tuple [a,b] k2 p2);refine PS.sem (Ii G.good.calm G.good.nd (by rw[hN'];exact hi) (by rw[hN'];exact hj) hij lx ly bW hw rfl) (hA O H Hs1 _ h1'.ext.sub h1'.sh λvs H' Hs' E r=>?_);obtain⟨v,w,rfl,r1,r2⟩:=Mi r
      have nd:((frz (F+1) (.Tuple [a,b] k2 p2) U).map (·.1)).Nodup:=by rw[<- hN'];exact G.good.nd
      have g1:=(h1'.step E).set nd hi r1;have g2:=g1.set (by rw[aH];exact nd) (by rw[aH];exact hj) r2;exact⟨v,w,rfl,hn _ _ Hs' H' rfl (sm1.trans E.vis) (by rw[aH,aH];exact hN') g2⟩
     .cases hb
    .cases hb
   .cases he
theorem uI{x:Str}{ds:List D}{px ap cp pos:Pos}(G:GoodS cx k X sc)(hN:X.N=U.map (·.1))(hx:(frz F e U).lookup x=some (.ow ds))(ho:ownIn sc x=true)(hp:au x=true)(hline:(ap.endLine==cp.line)=true)(hz:szl (ds.length+1)=true)(he:ev cx F sc (frz F e U) e=some d) :
  Runs X Hs0 H0 U (.nxt (cU (frz F e U) x (.ow (ds++[d])))) (jJ X (.Expr (.Call (.Attribute (.Name x px) "append" ap) [e] [] cp) pos)):=by
 have hN':X.N=(frz F e U).map (·.1):=by rw[aR];exact hN
 obtain⟨i,hi,_⟩:=dD hx
 have nd:((frz F e U).map (·.1)).Nodup:=by rw[<- hN'];exact G.good.nd
 have hpl:=aZ he;intro O H Hs D h _ hn hr;obtain⟨Hs1,sm1,h1⟩:=h.frozen F e;obtain⟨a,vs,k1,k2,k3,k4,k5⟩:=h1.ow i x ds hi;unfold au at hp;rw[L2z,I5z,I5z] at hp;have vis:Vis X.env.scope x:=(G.own.own x ho).1.elim .inl λq=>.inr (.inl q);refine PS.sem (iU (mZ H0z PySem.F.slot_list_append PySem.F.type_list_append nu (mY (i:=i) (by rw[hN',List.getElem?_map,hi];rfl) vis (by simpa using hp.1) (by simpa using hp.2)) (aY ak cg (aj hpl)) rfl (by rw[aj hpl];rfl) hline (aj hpl) rfl) rfl) ?_;refine⟨_,k1,.inl ⟨rfl,vs,.of k2⟩,?_⟩;refine(gb cx F G.good hN' he).1 O H Hs1 _ h1.ext.sub h1.sh λv H' Hs' E r=>?_;have h2:=h1.step E;refine⟨a,vs,v,rfl,rfl,E.all _ _ k2,by have:=k3.length;have:=uD hz;omega,?_⟩;exact hn _ _ Hs' _ rfl (sm1.trans E.vis) (by rw[aH];exact hN') (h2.app nd hi k1 (aJ.append (aJ.same E.vis ds vs k3) (.cons r .nil)))
theorem wg(l:Addr)(xs:Array Value)(n:Nat)(b:Addr)(ys:Array Value)(m:Nat)(dd:Option Addr)(sl:Array (Option Value))(c0:¬(!xs.isEmpty&&Builtin.List.listTooLong (xs.size+ys.size))=true)(c1:xs.size<=sizeLine)(c2:xs.size+ys.size<=sizeLine+1) :
  Meets (Builtin.«list.extend» ⟨[.ref l,.ref b],[]⟩) (λ_ R s=>s.heap.get? l=some {cls:=.type "list",data:=.seq xs n}/\s.heap.get? b=some {cls:=.type "list",dict:=dd,data:=.seq ys m,slots:=sl} /\
   R (.ok (.ret Value.none)) {s with heap:=s.heap.update l (Obj.mapSeq λx=>x++ys),toks:=s.toks}) :=
 .of_wp λprog w A R s h=>by
  obtain⟨hp,g,d,tk,os⟩:=s;obtain⟨hl,hb,h⟩:=h;have f1:=sub_list_list;have f2:=AutoSeq1.sub_tuple_list;have f3:=AutoSeq1.sub_list_tuple
  have z:(xs++ys).size<=sizeLine+1:=by rw[Array.size_append];exact c2
  wp_walk using(wpAny_updateSeq hl rfl (hz:=c1) (_hz':=z)),F0z hl,F0z hb;exact⟨_,rfl,h⟩
def Mq(K:Zf):V->List V->Hp->VK->Prop:=λx vs H Q=>∃l b xs zs,x=.ref l/\vs=[.ref b]/\H l=some (.lst xs)/\SqL K H b zs/\xs.length+zs.length<=sizeLine/\Q .non (upd H l (.lst (xs++zs)))
theorem Ec:MtM X "list.extend" (Mq X.K):=by
 intro z0 s O H x vs v us Q I rx rv h;obtain⟨l,b,xs,zs,rfl,rfl,hH,hB,hz,q⟩:=h;cases (show v=Value.ref l from rx);obtain⟨u,rfl,ru⟩:=rv.one;cases (show u=Value.ref b from ru);obtain⟨z,its,n,r,hl,e⟩:=I.lstM hH;obtain⟨its2,r2,pl,hz2⟩:=I.list hB;have hl2:=r2.length;obtain⟨⟨c2,dd2,data2,sl2⟩,n2,e2,hc2,hd2,hs2⟩:=pl;simp only at hc2 hs2
 have hsz:its.toArray.size+its2.toArray.size<=sizeLine:=by rw[X1z,X1z];omega
 have lng:¬ (!its.toArray.isEmpty&&Builtin.List.listTooLong (its.toArray.size+its2.toArray.size))=true:=λw=>by
  rw[qO hsz,B4z] at w;cases w
 obtain⟨h3,h4⟩:=(show dd2=none/\data2=.seq its2.toArray n2 from⟨hd2,hs2⟩);subst hc2 h4;refine G5z F.slot_list_extend ⟨_,e,rfl⟩ F.entry_list_extend (F.args_list_extend_2 _ _) (wg l its.toArray n b its2.toArray n2 dd2 sl2 lng (by rw[X1z];omega) (by omega)) ⟨e,e2,?_⟩;exact⟨.non,_,I.lset (its':=its++its2) hH e (by simp) (r.append r2) (by rw[N1z];omega),rfl,q⟩
theorem sY(l:Addr)(xs:Array Value)(n:Nat)(b:Addr)(ys:Array Value)(m:Nat)(dd:Option Addr)(sl:Array (Option Value))(c0:¬(!xs.isEmpty&&Builtin.List.listTooLong (xs.size+ys.size))=true)(c1:xs.size<=sizeLine)(c2:xs.size+ys.size<=sizeLine+1) :
  Meets (Builtin.«list.extend» ⟨[.ref l,.ref b],[]⟩) (λ_ R s=>s.heap.get? l=some {cls:=.type "list",data:=.seq xs n}/\s.heap.get? b=some {cls:=.type "tuple",dict:=dd,data:=.seq ys m,slots:=sl} /\
   R (.ok (.ret Value.none)) {s with heap:=s.heap.update l (Obj.mapSeq λx=>x++ys),toks:=s.toks}) :=
 .of_wp λprog w A R s h=>by
  obtain⟨hp,g,d,tk,os⟩:=s;obtain⟨hl,hb,h⟩:=h;have f1:=sub_list_list;have f2:=AutoSeq1.sub_tuple_list;have f3:=AutoSeq1.sub_list_tuple;have f4:=isSubtype_tuple_tuple
  have z:(xs++ys).size<=sizeLine+1:=by rw[Array.size_append];exact c2
  wp_walk using(wpAny_updateSeq hl rfl (hz:=c1) (_hz':=z)),F0z hl,F0z hb;exact⟨_,rfl,h⟩
def Mp(K:Zf):V->List V->Hp->VK->Prop:=λx vs H Q=>∃l b xs zs,x=.ref l/\vs=[.ref b]/\H l=some (.lst xs)/\SqT K H b zs/\xs.length+zs.length<=sizeLine/\Q .non (upd H l (.lst (xs++zs)))
theorem Eb:MtM X "list.extend" (Mp X.K):=by
 intro z0 s O H x vs v us Q I rx rv h;obtain⟨l,b,xs,zs,rfl,rfl,hH,hB,hz,q⟩:=h;cases (show v=Value.ref l from rx);obtain⟨u,rfl,ru⟩:=rv.one;cases (show u=Value.ref b from ru);obtain⟨z,its,n,r,hl,e⟩:=I.lstM hH;obtain⟨its2,r2,pl,hz2⟩:=I.tuple hB;have hl2:=r2.length;obtain⟨⟨c2,dd2,data2,sl2⟩,e2,hc2,n2,hs2⟩:=pl;simp only at hc2 hs2
 have hsz:its.toArray.size+its2.toArray.size<=sizeLine:=by rw[X1z,X1z];omega
 have lng:¬ (!its.toArray.isEmpty&&Builtin.List.listTooLong (its.toArray.size+its2.toArray.size))=true:=λw=>by
  rw[qO hsz,B4z] at w;cases w
 subst hc2 hs2;refine G5z F.slot_list_extend ⟨_,e,rfl⟩ F.entry_list_extend (F.args_list_extend_2 _ _) (sY l its.toArray n b its2.toArray n2 dd2 sl2 lng (by rw[X1z];omega) (by omega)) ⟨e,e2,?_⟩;exact⟨.non,_,I.lset (its':=its++its2) hH e (by simp) (r.append r2) (by rw[N1z];omega),rfl,q⟩
theorem uH{x:Str}{ds zs:List D}{px ap cp pos:Pos}(G:GoodS cx k X sc)(hN:X.N=U.map (·.1))(hx:(frz F e U).lookup x=some (.ow ds))(ho:ownIn sc x=true)(hp:au x=true)(hline:(ap.endLine==cp.line)=true)(hz:szl (ds.length+zs.length)=true)(he:ev cx F sc (frz F e U) e=some (.lst zs)) :
  Runs X Hs0 H0 U (.nxt (cU (frz F e U) x (.ow (ds++zs)))) (jJ X (.Expr (.Call (.Attribute (.Name x px) "extend" ap) [e] [] cp) pos)):=by
 have hN':X.N=(frz F e U).map (·.1):=by rw[aR];exact hN
 obtain⟨i,hi,_⟩:=dD hx
 have nd:((frz F e U).map (·.1)).Nodup:=by rw[<- hN'];exact G.good.nd
 have hpl:=aZ he;intro O H Hs D h _ hn hr;obtain⟨Hs1,sm1,h1⟩:=h.frozen F e;obtain⟨a,vs,k1,k2,k3,k4,k5⟩:=h1.ow i x ds hi;unfold au at hp;rw[L2z,I5z,I5z] at hp;have vis:Vis X.env.scope x:=(G.own.own x ho).1.elim .inl λq=>.inr (.inl q);refine PS.sem (iU (mZ H0z PySem.F.slot_list_extend PySem.F.type_list_extend Ec (mY (i:=i) (by rw[hN',List.getElem?_map,hi];rfl) vis (by simpa using hp.1) (by simpa using hp.2)) (aY ak cg (aj hpl)) rfl (by rw[aj hpl];rfl) hline (aj hpl) rfl) rfl) ?_;refine⟨_,k1,.inl ⟨rfl,vs,.of k2⟩,?_⟩;refine(gb cx F G.good hN' he).1 O H Hs1 _ h1.ext.sub h1.sh λv H' Hs' E r=>?_;have h2:=h1.step E;obtain⟨b,us,rfl,g1,g2⟩:=bQ r;refine⟨a,b,vs,us,rfl,rfl,E.all _ _ k2,E.sub.seq g1,by have:=k3.length;have:=g2.length;have:=eH hz;omega,?_⟩;exact hn _ _ Hs' _ rfl (sm1.trans E.vis) (by rw[aH];exact hN') (h2.app nd hi k1 (aJ.append (aJ.same E.vis ds vs k3) g2))
theorem rW{x:Str}{ds zs:List D}{px ap cp pos:Pos}(G:GoodS cx k X sc)(hN:X.N=U.map (·.1))(hx:(frz F e U).lookup x=some (.ow ds))(ho:ownIn sc x=true)(hp:au x=true)(hline:(ap.endLine==cp.line)=true)(hz:szl (ds.length+zs.length)=true)(he:ev cx F sc (frz F e U) e=some (.tup zs)) :
  Runs X Hs0 H0 U (.nxt (cU (frz F e U) x (.ow (ds++zs)))) (jJ X (.Expr (.Call (.Attribute (.Name x px) "extend" ap) [e] [] cp) pos)):=by
 have hN':X.N=(frz F e U).map (·.1):=by rw[aR];exact hN
 obtain⟨i,hi,_⟩:=dD hx
 have nd:((frz F e U).map (·.1)).Nodup:=by rw[<- hN'];exact G.good.nd
 have hpl:=aZ he;intro O H Hs D h _ hn hr;obtain⟨Hs1,sm1,h1⟩:=h.frozen F e;obtain⟨a,vs,k1,k2,k3,k4,k5⟩:=h1.ow i x ds hi;unfold au at hp;rw[L2z,I5z,I5z] at hp;have vis:Vis X.env.scope x:=(G.own.own x ho).1.elim .inl λq=>.inr (.inl q);refine PS.sem (iU (mZ H0z PySem.F.slot_list_extend PySem.F.type_list_extend Eb (mY (i:=i) (by rw[hN',List.getElem?_map,hi];rfl) vis (by simpa using hp.1) (by simpa using hp.2)) (aY ak cg (aj hpl)) rfl (by rw[aj hpl];rfl) hline (aj hpl) rfl) rfl) ?_;refine⟨_,k1,.inl ⟨rfl,vs,.of k2⟩,?_⟩;refine(gb cx F G.good hN' he).1 O H Hs1 _ h1.ext.sub h1.sh λv H' Hs' E r=>?_;have h2:=h1.step E;obtain⟨b,us,rfl,g1,g2⟩:=bL r;refine⟨a,b,vs,us,rfl,rfl,E.all _ _ k2,E.sub.tup g1,by have:=k3.length;have:=g2.length;have:=eH hz;omega,?_⟩;exact hn _ _ Hs' _ rfl (sm1.trans E.vis) (by rw[aH];exact hN') (h2.app nd hi k1 (aJ.append (aJ.same E.vis ds vs k3) g2))
theorem Cj{pos:Pos}(G:GoodS cx k X sc)(hN:X.N=U.map (·.1))(he:ev cx F sc (frz F e U) e=some d)(hc:∀a b c p,e≠.ListComp a b c p):Runs X Hs0 H0 U (.nxt (frz F e U)) (jJ X (.Expr e pos)):=by
 intro O H Hs D h _ hn hr;exact PS.sem (iU ak (iK he hc)) (zF G hN he h λv Hs' H' sm h' r=>hn _ _ Hs' H' rfl sm (by rw[aR];exact hN) h')
theorem zj{f:Rho->Stmt->Option Fl}(hf:∀U s fl,X.N=U.map (·.1)->f U s=some fl->Runs X Hs0 H0 U fl (jJ X s)):∀(l:List Stmt)(U:Rho)(fl:Fl),X.N=U.map (·.1)->gK f l U=some fl->Runs X Hs0 H0 U fl (gq X l)
 |[],U,fl,hN,h=>by
  simp only[gK,C2z] at h;subst h;intro O H Hs D h _ hn hr;exact PSs.sem uZ (hn _ _ Hs H rfl (.refl _) hN h)
 |s::r,U,fl,hN,h=>by
  simp only[gK] at h;obtain⟨fl1,h1,h2⟩:=aW h;intro O H Hs D hd _ hn hr;refine PSs.sem (lq Ao dR) (hf U s fl1 hN h1 O H Hs _ hd hN (λU' O' Hs' H' q sm hN' hd'=>?_) λd v Hs' H' q E rr lm'=>?_)
  .subst q
   exact zj hf r U' fl hN' h2 O' H' Hs' D hd' hN' (λU2 O2 Hs2 H2 q2 sm2=>hn U2 O2 Hs2 H2 q2 (sm.trans sm2)) hr
  .subst q
   cases h2;exact hr d v Hs' H' rfl E rr lm'
theorem Hr{tg iter:Expr}{body:List Stmt}{l:List D}{fl:Fl}{pos:Pos}{f:D->Rho->Option Fl}(G:GoodS cx k X sc)(hN:X.N=U.map (·.1))(hI:evI cx (cN tg) (ev cx F sc (frz F iter U)) sc iter=some l)
  (hf:∀d U1 fl,f d U1=some fl->X.N=U1.map (·.1)->∃U2,cC sc tg d U1=some U2/\(X.N=U2.map (·.1)->Runs X Hs0 H0 U2 fl (gq X body))) (h:bF f l (frz F iter U)=some fl):Runs X Hs0 H0 U fl (jJ X (.For tg iter body [] pos)):=by
 have hN':X.N=(frz F iter U).map (·.1):=by rw[aR];exact hN
 obtain⟨hI',hp⟩:=wB (tg:=tg) (U:=frz F iter U) G.good (λe d h=>⟨(gb cx F G.good hN' h).1,aZ h⟩) hI;intro O H Hs D hd _ hn hr;obtain⟨Hs1,sm1,h1⟩:=hd.frozen F iter;refine PS.sem (Ik G.pass G.good.calm vf mX dR (iV hp)) (hI' O H Hs1 _ h1.ext.sub h1.sh λJ H2 Hs2 E2 hJ=>?_)
 let W:Nat->Nat->St->Hp->Prop:=λi m O H=>m=l.length-i/\i<=l.length/\∃Ui Hsi,Same Hs2 Hsi/\Hd X.K X.lm Hs0 H0 Hsi H Ui O/\X.N=Ui.map (·.1)/\bF f (l.drop i) Ui=some fl
 refine⟨W,⟨l.length,rfl,Z4z _,_,Hs2,.refl _,h1.step E2,hN',by simpa using h⟩,?_⟩;rintro i m Oi Hi ⟨rfl,hi,Ui,Hsi,sm,hdi,hNi,gi⟩;obtain⟨stp,go⟩:=hJ Hsi Hi sm hdi.ext.sub
 by_cases hlt:i<l.length
 .obtain⟨g1,g2⟩:=go i l[i] (List.getElem?_eq_getElem hlt)
  refine .inr ⟨g1,λO' H'=>W (i+1) (l.length-(i+1)) O' H',λO' H' w=>⟨_,by omega,w⟩,λx H' y=>?_⟩;obtain⟨Hs3,E3,rx⟩:=g2 x H' y;rw[D0z hlt] at gi;simp only[bF] at gi;obtain⟨fl1,b1,b2⟩:=aW gi;obtain⟨U2,c1,c2⟩:=hf _ _ _ b1 hNi;have hd3:=hdi.step E3;refine pZ G.good.calm G.own G.good.nd hd3.ext.sub hNi (qT (Hs0:=Hs0) (H0:=H0) (H:=H')) c1 hd3 rx λO' hN2 p=>?_;refine c2 hN2 O' H' Hs3 _ p hN2 (λU' O'' Hs' H'' q sm4 hN3 hd4=>?_) λd v Hs' H'' q E rr lm'=>?_
  .subst q
   exact⟨rfl,hlt,U',Hs',sm.trans (E3.vis.trans sm4),hd4,hN3,b2⟩
  .subst q
   cases b2;exact hr d v Hs' H'' rfl E rr lm'
 .have hi':i=l.length:=by omega
  subst hi';refine .inl ⟨stp,?_⟩;rw[X2z] at gi;simp only[bF,C2z] at gi;exact hn Ui Oi Hsi Hi gi.symm (sm1.trans (E2.vis.trans sm)) hNi hdi
theorem yq{c:Expr}{body:List Stmt}{fl:Fl}{pos:Pos}{f:Rho->Option Fl}{m:Nat}(G:GoodS cx k X sc)(hN:X.N=U.map (·.1))(hf:∀U fl,X.N=U.map (·.1)->f U=some fl->Runs X Hs0 H0 U fl (gq X body))
  (h:Gq (λU=>((ev cx F sc (frz F c U) c).bind asB).map λb=>(frz F c U,b)) f m U=some fl):Runs X Hs0 H0 U fl (jJ X (.While c body [] pos)):=by
 intro O H Hs D hd _ hn hr
 let W:Nat->St->Hp->Prop:=λm O H=>∃Ui Hsi,Same Hs Hsi/\Hd X.K X.lm Hs0 H0 Hsi H Ui O/\X.N=Ui.map (·.1)/\Gq (λU=>((ev cx F sc (frz F c U) c).bind asB).map λb=>(frz F c U,b)) f m Ui=some fl
 refine PS.sem (yC G.pass cV dR) ⟨W,⟨m,U,Hs,.refl _,hd,hN,h⟩,?_⟩;rintro m Oi Hi ⟨Ui,Hsi,sm,hdi,hNi,gi⟩
 cases m with
 |zero=>simp[Gq] at gi
 |succ m =>
  simp only[Gq] at gi;split at gi
  .cases gi
  .rename_i U1 b hb
   obtain⟨b',h1,h2⟩:=L0z.mp hb;cases h2;have he:=dY h1
   have hN':X.N=(frz F c Ui).map (·.1):=by rw[aR];exact hNi
   refine JQ G hNi he hdi λHs' H' sm' h'=>?_
   cases b with
   |true =>
    rw[P5z rfl] at gi ⊢;split at gi
    .cases gi
    .rename_i d hfd
     cases gi;refine⟨λO' H'=>W m O' H',λO' H' w=>⟨m,N2z _,w⟩,?_⟩
     exact hf _ _ hN' hfd Oi H' Hs' _ h' hN' (λU2 O2 Hs2 H2 q2=>by cases q2) λd2 v Hs2 H2 q2 E rr lm'=>by cases q2;exact hr d v Hs2 H2 rfl E rr lm'
    .rename_i U' hfd
     refine⟨λO' H'=>W m O' H',λO' H' w=>⟨m,N2z _,w⟩,?_⟩
     refine hf _ _ hN' hfd Oi H' Hs' _ h' hN' (λU2 O2 Hs2 H2 q2 sm2 hN2 hd2=>?_) λd2 v Hs2 H2 q2=>by cases q2
     cases q2;exact⟨_,Hs2,sm.trans (sm'.trans sm2),hd2,hN2,gi⟩
   |false =>
    rw[Q5z K1z] at gi ⊢;cases gi;exact hn _ _ Hs' H' rfl (sm.trans sm') hN' h'
end
section
variable{X:Cx}{U:Rho}{cx:Cxt}{k F:Nat}{sc scope:Scope}{Hs0 H0:Hp}{e:Expr}{d:D}
theorem Lj{s:Stmt}{D:Ends}{O:St}{H:Hp}(h:jJ X.nox s D O H):jJ X s D O H:=λz0 s0 I=>B5z (h z0 s0 (I.wish _)) (λ_ _ q=>q.unwish) λ_ _ z=>False.elim z
abbrev Cx.pinned(X:Cx)(pn:List (Addr×Obj))(xe:Value->Shared->Prop):Cx:={X with pn:=pn,xe:=xe}
theorem Inv.repin{pn pn' z0 pins':List (Addr×Obj)}{xe xe':Value->Shared->Prop}{O:St}{H:Hp}{s:Shared}(I:Inv (X.pinned pn xe) z0 O H s)(h:∀p∈pn'++pins',p∈pn++z0):Inv (X.pinned pn' xe') pins' O H s :=
 ⟨⟨I.ok.mod,I.ok.kind,I.ok.glob,I.ok.blt,I.ok.above,I.ok.inj,I.ok.has,I.ok.cab,I.ok.hd,I.ok.frames,I.ok.stk,I.ok.exf,I.ok.bs,I.ok.bsz,I.ok.noex,I.ok.exfs,I.ok.funs,I.ok.frf⟩,I.os,I.bare,I.base,I.loc,I.cell,I.free,I.freeC,λp hp=>I.pin p (h p hp),I.hok,I.len⟩
theorem Good.wish(G:Good cx k X sc)(E:Value->Shared->Prop):Good cx k (X.wish E) sc:=⟨G.calm,G.room,G.sce,G.kind,G.nd,G.cst,G.blt,G.exs,G.fns,G.kw⟩
theorem GoodS.nox(G:GoodS cx k X sc):GoodS cx k X.nox sc:=⟨G.good.wish _,⟨G.own.own⟩,PassesOwn.never,G.stk⟩
theorem GoodS.pin_nox(G:GoodS cx k X sc)(pn:List (Addr×Obj))(E:Value->Shared->Prop):GoodS cx k (X.pinned pn E).nox sc:=⟨⟨G.good.calm,G.good.room,G.good.sce,G.good.kind,G.good.nd,G.good.cst,G.good.blt,G.good.exs,G.good.fns,G.good.kw⟩,⟨G.own.own⟩,PassesOwn.never,G.stk⟩
theorem GoodS.calm'(G:GoodS cx k X sc)(b:Bool):GoodS {cx with rs:=b} k X sc:=⟨⟨G.good.calm,G.good.room,G.good.sce,G.good.kind,G.good.nd,G.good.cst,G.good.blt,G.good.exs,G.good.fns,G.good.kw⟩,G.own,G.pass,G.stk⟩
def xG(rs:Bool)(X:Cx)(Hs0 H0:Hp)(U:Rho)(c:Str)(U':Rho)(t:TS):Prop:=∀O H Hs D,Hd X.K X.lm Hs0 H0 Hs H U O->X.N=U.map (·.1) ->
 (∀O' Hs' H',Same Hs Hs'->X.N=U'.map (·.1)->Hd X.K X.lm Hs0 H0 Hs' H' U' O'->∃E,EX X c Hs' H' E/\XOk X O' E/\(rs=true->xH X O' E))->t D O H
theorem qW{rs:Bool}{f:Rho->Stmt->Option Fl}{g:Rho->Stmt->Option (Str×Rho)}{c:Str}{U':Rho}(hf:∀U s fl,X.N=U.map (·.1)->f U s=some fl->Runs X.nox Hs0 H0 U fl (jJ X.nox s))(hg:∀U s c U',X.N=U.map (·.1)->g U s=some (c,U')->xG rs X Hs0 H0 U c U' (jJ X s)) :
  ∀(l:List Stmt)(U:Rho),X.N=U.map (·.1)->fQ f g l U=some (c,U')->xG rs X Hs0 H0 U c U' (gq X l)
 |[],U,hN,h=>by simp[fQ] at h
 |s::r,U,hN,h=>by
  simp only[fQ] at h;intro O H Hs D hd _ hx;refine PSs.sem (lq Ao dR) ?_;split at h
  .rename_i U1 h1
   refine Lj (hf U s _ hN h1 O H Hs _ hd hN (λU2 O2 Hs2 H2 q sm hN2 hd2=>?_) λd v Hs2 H2 q _ _=>nomatch q);cases q;exact qW hf hg r U1 hN2 h O2 H2 Hs2 D hd2 hN2 λO3 Hs3 H3 sm3=>hx O3 Hs3 H3 (sm.trans sm3)
  .cases h
  .exact hg U s c U' hN h O H Hs _ hd hN hx
theorem Bl{c:Str}(G:Good cx k X sc)(hsk:mz X)(hN:X.N=U.map (·.1))(he:evx cx F sc (frz F e U) e=some c){O:St}{H Hs:Hp}{rs:Bool}{Q:VK}(h:Hd X.K X.lm Hs0 H0 Hs H U O)
  (hx:∀O' Hs' H',Same Hs Hs'->X.N=(frz F e U).map (·.1)->Hd X.K X.lm Hs0 H0 Hs' H' (frz F e U) O'->∃E,EX X c Hs' H' E/\XOk X O' E/\(rs=true->xH X O' E)):oK X e O H Q:=by
 obtain⟨Hs1,sm1,h1⟩:=h.frozen F e
 have hN':X.N=(frz F e U).map (·.1):=by rw[aR];exact hN
 obtain⟨E,e1,e2,_⟩:=hx O Hs1 H sm1 hN' h1;exact jX cx F G hsk hN' he O H Hs1 E h1.ext.sub h1.sh e1 e2 Q
theorem Aj{t:Option Expr}{l:Nat}{env:Env}{c:Str}(he:evx cx F sc U e=some c)(hc:bf e=false):swapsWith e t l env=pure false:=by
 cases F with
 |zero=>exact nomatch (show(Option.none:Option Str)=some c from he)
 |succ F =>
  cases e<;>first|rfl|(exact nomatch (show(Option.none:Option Str)=some c from he))|(exact absurd hc (by simp[bf]))
theorem Hd.drop{K:Zf}{lm:Option (Addr×Str)}{Hs0 H0 Hs H:Hp}{U:Rho}{O:St}{x:Str}{i:Nat}(h:Hd K lm Hs0 H0 Hs H U O)(hn:(U.map (·.1)).Nodup)(hi:(U.map (·.1))[i]?=some x):Hd K lm Hs0 H0 Hs H (cU U x .no) (O.set i none):=by
 have hl:i<O.length:=by have:=(List.getElem?_eq_some_iff.mp hi).1;rw[h.len];simpa using this
 refine⟨h.ext,by rw[R3z,h.len];have:=congrArg List.length (aH U x .no);simpa using this.symm,λj y d e=>?_,λj y ds e=>?_,λj j' y y' ds es a hjj e1 e2 e3 e4=>?_,λj y dss e=>?_,h.lam⟩
 .rw[aX hn hi j] at e
  split at e
  .cases e
  .rename_i hj
   obtain⟨v,q1,q2⟩:=h.sh j y d e;exact⟨v,by rw[List.getElem?_set_ne (λz=>hj z.symm)];exact q1,q2⟩
 .rw[aX hn hi j] at e
  split at e
  .cases e
  .rename_i hj
   obtain⟨a,vs,q1,q2⟩:=h.ow j y ds e;exact⟨a,vs,by rw[List.getElem?_set_ne (λz=>hj z.symm)];exact q1,q2⟩
 .rw[aX hn hi j] at e1
  rw[aX hn hi j'] at e2;split at e1
  .cases e1
  .rename_i hj
   split at e2
   .cases e2
   .rename_i hj'
    rw[List.getElem?_set_ne (λz=>hj z.symm)] at e3;rw[List.getElem?_set_ne (λz=>hj' z.symm)] at e4;exact h.dis j j' y y' ds es a hjj e1 e2 e3 e4
 .rw[aX hn hi j] at e
  split at e
  .cases e
  .rename_i hj
   exact h.oo j y dss e
theorem yg{hs:List ExceptHandler}{o f:List Stmt}{c n kn:Str}(h:rQ hs o f=some (c,n,kn)):∃np p1 p2 p3 hp,hs=[.ExceptHandler (some (.Name c np)) (some n) [.Assign [.Name kn p1] (.Name n p2) p3] hp]/\o=[]/\f=[]:=by
 unfold rQ at h;split at h
 .split at h
  .rename_i hq
   cases h;have e:=H5z.mp hq;subst e;exact⟨_,_,_,_,_,rfl,rfl,rfl⟩
  .cases h
 .cases h
theorem Ho{body:List Stmt}{c c' n kn:Str}{U':Rho}{np p1 p2 p3 hp pos:Pos}(G:GoodS cx k X sc)(hN:X.N=U.map (·.1))
  (hb:∀pn xe,xG false (X.pinned pn xe) Hs0 H0 U c' U' (gq (X.pinned pn xe) body)) (hgl:jB cx sc c=true) (ht:c=cx.top) (hin:cx.exs.contains c'=true) (hne:n≠kn) (hpn:au n=true) (ln:sc.names.lookup n=some .local) (lk:sc.names.lookup kn=some .local) (cn:(U.map (·.1)).contains n=true) (ck:(U.map (·.1)).contains kn=true) (hpc:au c=true) :
  Runs X Hs0 H0 U (.nxt (cU (cU U' kn (.sh (.exc c'))) n .no)) (jJ X (.Try body [.ExceptHandler (some (.Name c np)) (some n) [.Assign [.Name kn p1] (.Name n p2) p3] hp] [] [] pos)):=by
 intro O H Hs D hd _ hn hr z0 s I;obtain⟨C,M,e1,e2,_,_,e3,_⟩:=G.good.exs.cls c' hin
 have hg:Gl X c:=by
  have e:sc.names.lookup c=some .globalImplicit:=by unfold jB at hgl;simpa using hgl
  show X.env.scope.names.lookup c=_;rw[G.good.sce,e]
 have hm:X.mg c=some (.ref M):=by rw[ht];exact G.good.exs.glob _ _ e2
 unfold au at hpn hpc;rw[L2z,I5z,I5z] at hpn hpc;obtain⟨i,hi⟩:=bR cn;obtain⟨j,hj⟩:=bR ck
 have hij:i≠j:=λz=>by subst z;rw[hi] at hj;cases hj;exact hne rfl
 rw[arm_exec_Try];refine C5z (E4z (wpAny_tryStmt_except ?_))
 let xe:Value->Shared->Prop:=λe s₁=>wpAny (model X.prog X.w) X.A (noteFrame e X.env) (λ_ s₂=>wpAny (model X.prog X.w) X.A (setFlight e none) (λ_ s₃=>wpAny (model X.prog X.w) X.A (handleBy e X.env [.ExceptHandler (some (.Name c np)) (some n) [.Assign [.Name kn p1] (.Name n p2) p3] hp]) (SP X z0 D) X.xe s₃) X.xe s₂) X.xe s₁
 have run:=hb (X.pn++z0) xe O H Hs {nx:=λ_ _=>False,rt:=λ_ _=>False} hd hN ?_ [] s (Inv.repin (X:=X) (pn:=X.pn) (z0:=z0) I λp hp=>by simpa using hp)
 .refine B5z run (λf s1 q=>?_) λe s1 q=>q
  cases f with
  |next=>obtain⟨_,_,_,z⟩:=q;exact z.elim
  |brk=>obtain⟨_,_,_,z⟩:=q;exact z.elim
  |cont=>obtain⟨_,_,_,z⟩:=q;exact z.elim
  |ret u=>obtain⟨_,_,_,_,_,z⟩:=q;exact z.elim
 .intro O1 Hs1 H1 sm1 hN1 hd1
  refine⟨λcls _ H2=>cls=.ref C/\∃Hs2,Ext Hs1 H1 Hs2 H2,λC2 H2 Hs2 q E=>⟨?_,Hs2,E⟩,?_,λz=>nomatch z⟩
  .have q':W.nsIn X.K mainGlobals c'=some (some (.ref C2)):=q
   rw[e1] at q';cases q';rfl
  .intro pins2 H2 s2 e s3 I2 hcx
   obtain⟨ea,cls,H3,rfl,FlO,hn3,rfl,Hs3,E3⟩:∃ea cls H3,e=.ref ea/\(Fly X.prog X.w X.stack H2 s2 H3 ea cls s3\/∃L,X.env.frame=some L/\FlyH X.prog X.w X.stack L H2 s2 H3 ea cls s3)/\H3 ea=none/\cls=.ref C/\∃Hs2,Ext Hs1 H1 Hs2 H3:=by
    rcases hcx with⟨ea,cls,H3,a,b,c,d⟩|⟨ea,cls,H3,L,l,a,b,c,d⟩
    .exact⟨ea,cls,H3,a,.inl b,c,d⟩
    .exact⟨ea,cls,H3,a,.inr ⟨L,l,b⟩,c,d⟩
   have I2':Inv (X.pinned (X.pn++z0) X.xe) pins2 O1 H2 s2:=Inv.repin (X:=X) I2 λp hp=>hp
   have nd1:(U'.map (·.1)).Nodup:=by rw[<- hN1];exact G.good.nd
   have hi1:(U'.map (·.1))[i]?=some n:=by rw[<- hN1];show X.N[i]?=_;rw[hN];exact hi
   have hj1:(U'.map (·.1))[j]?=some kn:=by rw[<- hN1];show X.N[j]?=_;rw[hN];exact hj
   have fin:∀s4,Inv (X.pinned (X.pn++z0) X.xe) pins2 ((O1.set j (some (.ref ea))).set i none) (upd H3 ea (.ext (isX ea (.ref C)))) s4->SP X z0 D .next s4:=λs4 I4=>by
    have I5:Inv X z0 ((O1.set j (some (.ref ea))).set i none) (upd H3 ea (.ext (isX ea (.ref C)))) s4:=Inv.repin (X:=X) (pn':=X.pn) I4 λp hp=>T0z _ hp;have E4:Ext Hs3 H3 (upd Hs3 ea (.ext (isX ea (.ref C)))) (upd H3 ea (.ext (isX ea (.ref C)))):=Ext.new E3.sub _ hn3
    have hd4:Hd X.K X.lm Hs0 H0 (upd Hs3 ea (.ext (isX ea (.ref C)))) (upd H3 ea (.ext (isX ea (.ref C)))) (cU U' kn (.sh (.exc c'))) (O1.set j (some (.ref ea))):=((Hd.step hd1 E3).step E4).set nd1 hj1 (by
     simp only[Rep]
     exact⟨ea,C,rfl,e1,aV⟩)
    have hd5:=hd4.drop (by rw[aH];exact nd1) (i:=i) (x:=n) (by rw[aH];exact hi1)
    exact⟨_,_,I5,hn _ _ _ _ rfl (sm1.trans (E3.vis.trans E4.vis)) (by rw[aH,aH];exact hN1) hd5⟩
   rcases FlO with Fl|⟨L,hL,Fl⟩
   .exact caught (X:=X.pinned (X.pn++z0) X.xe) (Mc:=M) I2' Fl hn3 G.stk hg hm (by simpa using hpc.1) e3 G.good.nd (i:=i) (j:=j) (by show X.N[i]?=_;rw[hN];exact hi) (by show X.N[j]?=_;rw[hN];exact hj) hij
     (by show X.env.scope.names.lookup n=_;rw[G.good.sce];exact ln) (by show X.env.scope.names.lookup kn=_;rw[G.good.sce];exact lk) (by simpa using hpn.1) (by simpa using hpn.2) fin
   .exact Ge (X:=X.pinned (X.pn++z0) X.xe) (Mc:=M) I2' hL Fl hn3 G.stk hg hm (by simpa using hpc.1) e3 G.good.nd (i:=i) (j:=j) (by show X.N[i]?=_;rw[hN];exact hi) (by show X.N[j]?=_;rw[hN];exact hj) hij
     (by show X.env.scope.names.lookup n=_;rw[G.good.sce];exact ln) (by show X.env.scope.names.lookup kn=_;rw[G.good.sce];exact lk) (by simpa using hpn.1) (by simpa using hpn.2) fin
end
mutual
theorem rT(cx:Cxt)(F:Nat):∀(n:Nat){k:Nat}{X:Cx}{sc:Scope}{U:Rho}{s:Stmt}{fl:Fl}{Hs0 H0:Hp},GoodS cx k X sc->X.N=U.map (·.1)->DE.st cx F n sc U s=some fl->Runs X Hs0 H0 U fl (jJ X s)
 |0,k,X,sc,U,s,fl,Hs0,H0,_,_,h=>by simp[DE.st] at h
 |n+1,k,X,sc,U,s,fl,Hs0,H0,G,hN,h=>by
  have block:∀(l:List Stmt)(U:Rho)(fl:Fl),X.N=U.map (·.1)->gK (λU s=>DE.st cx F n sc U s) l U=some fl->Runs X Hs0 H0 U fl (gq X l):=zj λU s fl hN h=>rT cx F n G hN h
  cases s with
  |Pass pos =>
   simp only[DE.st,C2z] at h;subst h;intro O H Hs D hd _ hn hr;exact PS.sem Df (hn _ _ Hs H rfl (.refl _) hN hd)
  |Return v pos =>
   simp only[DE.st] at h
   cases v with
   |none =>
    simp only[C2z] at h;subst h;intro O H Hs D hd _ hn hr;exact PS.sem Dd (hr .non .non Hs H rfl hd.ext (by simp[Rep]) hd.lmt)
   |some e =>
    simp only[L0z] at h;obtain⟨d,he,rfl⟩:=h;intro O H Hs D hd _ hn hr;exact PS.sem (Ih ak) (zF G hN he hd λv Hs' H' sm h' r=>hr d v Hs' H' rfl h'.ext r h'.lmt)
  |Assign tgs e pos =>
   simp only[DE.st] at h;split at h
   .split at h
    .rename_i hc
     rw[L2z] at hc;split at h
     .cases h
     .rename_i hoo
      split at h
      .cases h
      .split at h
       .cases h
       .rename_i hno
        split at h
        .cases h
        .simp only[L0z] at h
         obtain⟨d,he,rfl⟩:=h;refine Ci G hN hc.1 hc.2 (by cases q:ooE cx sc e with|false=>rfl|true=>exact absurd (show(ooE cx sc e&&true)=true by rw[q];rfl) hoo) (λhf=>?_) he;rw[hf,M4z] at hno;simpa using hno
    .cases h
   .split at h
    .rename_i hs
     obtain⟨d,he,h⟩:=aW h;obtain⟨l,hl,h⟩:=aW h;simp only[L0z] at h;obtain⟨U',hb,rfl⟩:=h;rcases O3z _ _ |>.mp hs with hs|hs
     .exact Hl G hN hs he hl hb
     .cases hs
    .cases h
   .cases h
  |Expr v pos =>
   simp only[DE.st] at h;split at h
   .rename_i x px m ap e cp
    split at h
    .rename_i ds hx
     split at h
     .rename_i hc
      rw[L2z,L2z] at hc;obtain⟨⟨c1,c2⟩,c4⟩:=hc;split at h
      .rename_i hc2
       rw[L2z] at hc2;simp only[L0z] at h;obtain⟨d,he,rfl⟩:=h
       have em:m="append":=by simpa using hc2.1
       subst em;exact uI G hN hx c1 c2 c4 hc2.2 he
      .split at h
       .rename_i hc3
        obtain⟨d,he,h⟩:=aW h
        have em:m="extend":=by simpa using hc3
        subst em;split at h
        .split at h
         .rename_i hz
          cases h;exact uH G hN hx c1 c2 c4 hz he
         .cases h
        .split at h
         .rename_i hz
          cases h;exact rW G hN hx c1 c2 c4 hz he
         .cases h
        .cases h
       .cases h
     .cases h
    .cases h
   .cases h
   .cases h
   .rename_i h1 h3 h4
    simp only[L0z] at h;obtain⟨d,he,rfl⟩:=h;exact Cj G hN he λa b c p q=>h3 a b c p q
  |If c a b pos =>
   simp only[DE.st] at h;obtain⟨t,h1,h⟩:=aW h;have he:=dY h1;intro O H Hs D hd _ hn hr;refine PS.sem (Ij cV dR dR) (Ez G hN he hd λHs' H' sm h'=>?_)
   cases t with
   |true =>
    simp only[O5z] at h;exact tY (block a _ fl hN h O H' Hs' D h' hN (λU2 O2 Hs2 H2 q2 sm2=>hn U2 O2 Hs2 H2 q2 (sm.trans sm2)) hr)
   |false =>
    simp only[O1z,M5z] at h;exact vX (block b _ fl hN h O H' Hs' D h' hN (λU2 O2 Hs2 H2 q2 sm2=>hn U2 O2 Hs2 H2 q2 (sm.trans sm2)) hr)
  |For tg iter body orelse pos =>
   simp only[DE.st] at h;split at h
   .obtain⟨l,hI,h⟩:=aW h
    refine Hr G hN hI (λd U1 fl hf hN1=>?_) h;obtain⟨U2,g1,g2⟩:=aW hf;exact⟨U2,g1,λhN2=>block body U2 fl hN2 g2⟩
   .cases h
  |While c body orelse pos =>
   simp only[DE.st] at h;split at h
   .exact yq G hN (λU fl hN h=>block body U fl hN h) h
   .cases h
  |Try body handlers orelse final pos =>
   simp only[DE.st] at h;split at h
   .rename_i c n' kn hto
    obtain⟨np,p1,p2,p3,hp,rfl,rfl,rfl⟩:=yg hto;split at h
    .rename_i fl' hfl
     cases h;have hb:Runs X.nox Hs0 H0 U fl (gq X.nox body):=zj (λU s fl hN h=>rT cx F n G.nox hN h) body U fl hN hfl;intro O H Hs D hd _ hn hr z0 s I;rw[arm_exec_Try];refine C5z (E4z (wpAny_tryStmt_except ?_));refine B5z (hb O H Hs D hd hN hn hr z0 s (I.wish _)) (λf s1 q=>?_) λ_ _ z=>z.elim;have q':=q.unwish
     cases f with
     |next=>exact E3z q'
     |brk=>exact q'
     |cont=>exact q'
     |ret u=>exact q'
    .split at h
     .rename_i c' U1 hx
      split at h
      .rename_i hc
       cases h;simp only[L2z] at hc;obtain⟨⟨⟨⟨⟨⟨⟨⟨⟨h1,h2⟩,h3⟩,h4⟩,h5⟩,h6⟩,h7⟩,h8⟩,h9⟩,h10⟩:=hc;refine Ho G hN (λpn xe=>?_) h1 (by simpa using h2) h3 (by simpa using h4) h5 (by simpa using h6) (by simpa using h7) h8 h9 h10;exact qW (X:=X.pinned pn xe) (λU s fl hN h=>rT cx F n (G.pin_nox pn xe) hN h) (λU s c U' hN h=>uE {cx with rs:=false} F n ((G.pin_nox pn xe).calm' false) hN h) body U hN hx
      .cases h
     .cases h
   .cases h
  |_=>exact nomatch (show(Option.none:Option Fl)=some fl from h)
theorem uE(cx:Cxt)(F:Nat):∀(n:Nat){k:Nat}{X:Cx}{sc:Scope}{U:Rho}{s:Stmt}{c:Str}{U':Rho}{Hs0 H0:Hp},GoodS cx k X.nox sc->X.N=U.map (·.1)->DE.stx cx F n sc U s=some (c,U')->xG cx.rs X Hs0 H0 U c U' (jJ X s)
 |0,k,X,sc,U,s,c,U',Hs0,H0,_,_,h=>by simp[DE.stx] at h
 |n+1,k,X,sc,U,s,c,U',Hs0,H0,G,hN,h=>by
  have hsk:mz X:=⟨_,_,_,G.stk.1,G.stk.2,G.stk.2⟩;have GX:Good cx k X sc:=⟨G.good.calm,G.good.room,G.good.sce,G.good.kind,G.good.nd,G.good.cst,G.good.blt,G.good.exs,G.good.fns,G.good.kw⟩
  have block:∀(l:List Stmt)(U:Rho)(c:Str)(U':Rho),X.N=U.map (·.1)->fQ (λU s=>DE.st cx F n sc U s) (λU s=>DE.stx cx F n sc U s) l U=some (c,U')->xG cx.rs X Hs0 H0 U c U' (gq X l):=λl U c U' hN h =>
   qW (λU s fl hN h=>rT cx F n G hN h) (λU s c U' hN h=>uE cx F n G hN h) l U hN h
  simp only[DE.stx] at h;split at h
  .split at h
   .split at h
    .split at h
     .split at h
      .split at h
       .skip
        split at h
        .rename_i hc
         cases h;simp only[L2z] at hc;obtain⟨⟨⟨h1,h2⟩,h3⟩,h4⟩:=hc;obtain⟨C,M,e1,_,e2,_⟩:=GX.exs.cls c h3
         have hg:Gl X c:=by
          have e:sc.names.lookup c=some .globalImplicit:=by unfold jB at h2;simpa using h2
          show X.env.scope.names.lookup c=_;rw[GX.sce,e]
         unfold au at h4;rw[L2z,I5z] at h4;intro O H Hs D hd _ hx z0 s I;obtain⟨E,x1,x2,x3⟩:=hx O Hs H (.refl _) hN hd;exact yw I GX.room.hd hg (GX.exs.glob _ _ e1) (by simpa using h4.1) e2 λs2 h' e args I2 hm=>x3 h1 z0 H s2 C e h' args I2 hm (x1 C H Hs e1 (.refl hd.ext.sub))
        .cases h
       .cases h
      .cases h
     .cases h
    .cases h
   .cases h
  .rename_i e pos
   split at h
   .cases h
   .rename_i hfr
    obtain⟨c1,h1,h2⟩:=L0z.mp h;cases h2;intro O H Hs D hd _ hx;exact PS.sem (iU ak (Aj h1 (by simpa using hfr))) (Bl GX hsk hN h1 hd hx)
  .rename_i x px e pos
   split at h
   .cases h
   .rename_i hfr
    obtain⟨c1,h1,h2⟩:=L0z.mp h;cases h2;intro O H Hs D hd _ hx z0 s I;exact wpAny_Assign_Name (thn (Bl (Q:=λ_ _=>False) GX hsk hN h1 hd hx z0 s I) λv s1 ⟨_,_,_,_,q⟩=>q.elim) (Aj h1 (by simpa using hfr))
  .rename_i cc a b pos
   split at h
   .rename_i kk hk
    have he:=dY hk
    have hN':X.N=(frz F cc U).map (·.1):=by rw[aR];exact hN
    intro O H Hs D hd _ hx;obtain⟨Hs1,sm1,h1⟩:=hd.frozen F cc;refine PS.sem (Ij cV dR dR) ((gb cx F GX hN' he).2 kk rfl O H Hs1 _ h1.ext.sub h1.sh λH' Hs' E=>?_);have h2:=h1.step E
    cases kk with
    |true=>exact tY (block a _ c U' hN' h O H' Hs' D h2 hN' λO3 Hs3 H3 sm3=>hx O3 Hs3 H3 ((sm1.trans E.vis).trans sm3))
    |false=>exact vX (block b _ c U' hN' h O H' Hs' D h2 hN' λO3 Hs3 H3 sm3=>hx O3 Hs3 H3 ((sm1.trans E.vis).trans sm3))
   .cases h
  .cases h
end
structure FunAt(K:Zf)(mg:Str->Option Value)(f:Str)(fd:Fd):Prop where
 ex:∃(nm:Str)(t:Stmt)(a:Addr)(g:FuncData),mg f=some (.ref a)/\Fun K nm nm t a g/\Binds K g fd.ps []/\fd.body=bJ t/\fd.sc=aU t
 fs:FnScope fd.N fd.ps fd.sc
 nd:(f==("__debug__":Str))=false
structure Text(w:World)(K:Zf)(mg:Str->Option Value)(P:Pg):Prop where
 cst:∀x d,P.cst.lookup x=some d->∃v u,(∀H,Rep K H d v)/\mg x=some u/\RelV v u
 blt:∀x b,P.blt.lookup x=some b->mg x=none/\x=Str.ofString b
 fns:∀f fd,P.defs.lookup f=some fd->FunAt K mg f fd
 exs:XText K mg P.exs P.top
 kw:KnW K w
def Ss(ps:List (Str×Str)):D:=.dic (ps.map λp=>.inr p.1) (ps.map λp=>.str p.2)
def dEs(o:Obj):Array DictEntry:=match o.data with|.dict es _=>es|_ => #[]
def dN(o:Obj):Nat:=match o.data with|.dict _ n=>n|_=>0
def isS(x:Str):Value->Bool
 |.str y _=>x==y
 |_=>false
theorem Bh{x:Str}{v:Value}(h:isS x v=true):∃t,v=.str x t:=by
 unfold isS at h;split at h
 .rename_i y t
  have e:x=y:=by simpa using h
  subst e;exact⟨t,rfl⟩
 .cases h
def chk:List (Str×Str)->List DictEntry->Bool
 |[],[]=>true
 |p::r,e::es=>isS p.1 e.key&&isS p.2 e.val&&chk r es
 |_,_=>false
theorem Bs{K:Zf}{H:Hp}:∀{ps:List (Str×Str)}{es:List DictEntry},chk ps es=true->∃kvs:List (Key×V),kvs.map (·.1)=ps.map (λp=>Sum.inr p.1)/\aJ K H (ps.map λp=>D.str p.2) (kvs.map (·.2))/\Paired (λ(p:Key×V)(e:DictEntry)=>(∃x t,p.1=.inr x/\e.key=.str x t)/\RelV p.2 e.val) kvs es
 |[],[],_=>⟨[],rfl,.nil,.nil⟩
 |p::r,e::es,h=>by
  simp only[chk,L2z] at h;obtain⟨⟨h1,h2⟩,h3⟩:=h;obtain⟨kvs,g1,g2,g3⟩:=Bs (K:=K) (H:=H) h3;obtain⟨t,e1⟩:=Bh h1;obtain⟨t',e2⟩:=Bh h2;exact⟨(.inr p.1,.str p.2)::kvs,by simp[g1],.cons (by simp[Rep]) g2,.cons ⟨⟨p.1,t,rfl,e1⟩,⟨t',e2⟩⟩ g3⟩
 |[],_::_,h=>by simp[chk] at h
 |_::_,[],h=>by simp[chk] at h
theorem Kg{K:Zf}{H H':Hp}{ps:List (Str×Str)}{kvs:List (Key×V)}(h:aJ K H (ps.map λp=>D.str p.2) (kvs.map (·.2))):aJ K H' (ps.map λp=>D.str p.2) (kvs.map (·.2)):=by
 generalize kvs.map (·.2)=vs at h ⊢
 induction ps generalizing vs with
 |nil=>simpa[aJ] using h
 |cons p r ih =>
  simp only[G4z,aJ] at h ⊢;obtain⟨v,q,h1,h2,h3⟩:=h;exact⟨v,q,h1,by simpa[Rep] using h2,ih _ h3⟩
theorem cD{K:Zf}{h:Heap}{mg:Str->Option Value}{x:Str}{ps:List (Str×Str)}(X:K.In h)(G:h.Ns mainGlobals mg)(a:Addr)(o:Obj)(e:PySem.W.nsIn K mainGlobals x=some (some (.ref a)))(l:K.lookup a=some o)(ex:o.ExactDict)(hd:o.data=.dict (dEs o) (dN o))(hc:(chk ps (dEs o).toList&&nq (ps.map (·.1)))=true)(hs:(a==sysModules)=false) :
  ∃v u,(∀H,Rep K H (Ss ps) v)/\mg x=some u/\RelV v u:=by
 rw[L2z] at hc;obtain⟨kvs,g1,g2,g3⟩:=Bs (K:=K) (H:=λ_=>none) hc.1
 have nd:(kvs.map (·.1)).Nodup:=by
  rw[g1];have n:=iY hc.2
  have q:(ps.map λp=>(Sum.inr p.1:Key))=(ps.map (·.1)).map Sum.inr:=by simp
  rw[q];exact List.Pairwise.map _ (λa b hab z=>hab (Sum.inr.inj z)) n
 refine⟨.ref a,_,λH=>?_,N4z X G e,rfl⟩;unfold Ss;simp only[Rep];exact⟨a,kvs,rfl,.inr ⟨o,dEs o,dN o,l,ex,hd,hs,nd,g3⟩,g1,Kg g2⟩
theorem jO{α:Type}:∀{l:List (Str×α)}{x:Str},(l.map (·.1)).contains x=true->∃a,l.lookup x=some a
 |[],x,h=>by simp at h
 |(y,a)::r,x,h=>by
  rw[M2z]
  cases hb:x==y with
  |true=>exact⟨a,rfl⟩
  |false =>
   refine jO ?_;rw[G4z,List.contains_cons,hb,Bool.false_or] at h;exact h
theorem uG{K:Zf}{H:Hp}{fd:Fd}{ds:List D}{vs:List V}(S:FnScope fd.N fd.ps fd.sc)(hl:ds.length=fd.ps.length)(r:aJ K H ds vs) :
  fd.N=(bN fd ds).map (·.1)/\(start fd.N vs).length=(bN fd ds).length/\∀(i:Nat)(x:Str)(s:Sl),(bN fd ds)[i]?=some (x,s)->(s=.no\/∃d v,s=.sh d/\(start fd.N vs)[i]?=some (some v)/\Rep K H d v):=by
 have lv:=r.length
 have lz:(fd.ps.zip (ds.map Sl.sh)).length=fd.ps.length:=by rw[List.length_zip,I3z];omega
 have hpl:fd.ps.length<=fd.N.length:=by have:=congrArg List.length S.pre;rw[I2z] at this;omega
 refine⟨?_,?_,λi x s e=>?_⟩
 .unfold bN
  rw[P3z,W4z,List.map_fst_zip (by rw[I3z];omega)]
  have:(fd.N.drop fd.ps.length).map ((λp:Str×Sl=>p.1)∘λx=>(x,Sl.no))=fd.N.drop fd.ps.length:=by
   rw[show((λp:Str×Sl=>p.1)∘λx=>(x,Sl.no))=id from rfl,A5z]
  rw[this]
  conv=>lhs;rw[<- List.take_append_drop fd.ps.length fd.N,S.pre]
 .unfold start bN
  rw[N1z,N1z,lz];simp;omega
 .unfold bN at e
  by_cases hi:i<fd.ps.length
  .rw[List.getElem?_append_left (by rw[lz];exact hi),List.getElem?_zip_eq_some] at e
   obtain⟨_,e2⟩:=e;rw[List.getElem?_map] at e2;obtain⟨d,e3,rfl⟩:=L0z.mp e2;obtain⟨v,g1,g2⟩:=r.get e3;refine .inr ⟨d,v,rfl,?_,g2⟩;unfold start;rw[List.getElem?_append_left (by rw[I3z];omega),List.getElem?_map,g1];rfl
  .rw[List.getElem?_append_right (by rw[lz];omega),List.getElem?_map] at e
   obtain⟨y,_,e3⟩:=L0z.mp e;cases e3;exact .inl rfl
section
variable{P:Program}{w:World}{K:Zf}{mg:Str->Option Value}{base:Heap}{T:Pg}{F:Nat}
abbrev vR(c:Str->List D->Option Rs):Str->List D->Option D:=λf ds=>Rs.val? (c f ds)
abbrev xR(c:Str->List D->Option Rs):Str->List D->Option Str:=λf ds=>Rs.exc? (c f ds)
theorem val_some{o:Option Rs}{d:D}(h:Rs.val? o=some d):o=some (.val d):=by
 unfold Rs.val? at h;split at h
 .cases h;rfl
 .cases h
theorem iB{o:Option Rs}{c:Str}(h:Rs.exc? o=some c):o=some (.exc c):=by
 unfold Rs.exc? at h;split at h
 .cases h;rfl
 .cases h
theorem iD{k:Nat}{f:Str}{fd:Fd}(hf:T.defs.lookup f=some fd):∀ds r,d8 T F k f ds=some r->ds.length=fd.ps.length:=by
 intro ds d h
 cases k with
 |zero=>simp[pX] at h
 |succ k =>
  simp only[jt,hf] at h;split at h
  .rename_i hl;simpa using hl
  .cases h
theorem Fun.okX{x qual:Str}{st:Stmt}{f:Addr}{fd:FuncData}{N ps:List Str}{k:Nat}{sp:Sp}(F:Fun K x qual st f fd)(S:FnScope N ps (aU st))(len:∀vs H Q E,sp vs H Q E->vs.length=ps.length)
  (hbody:∀(cdv:Value)(A:Around)(outer:List Env)(s:Shared)(H:Hp)(vs:List V)(Q:VK)(E:XK), Room k (A.deeper (envOfC qual (aU st) s.heap.objs.size f cdv))->sp vs H Q E ->
   ∃t,PSs (eX (CX1 P w) P w K mg base N qual (aU st) f cdv A outer s H E) (bJ st) t/\t {nx:=λ_ H'=>Q .non H',rt:=Q} (start N vs) H):FnOk P w K mg base (CX1 P w) (k+1) f fd ps sp:=by
 obtain⟨oc,od,kV,doc,pm,an,cdv,ct,osl,rfl,lk,hcd⟩:=F.ex;exact Qs lk hcd S len λA outer s H vs Q E hr hsp=>hbody cdv A outer s H vs Q E hr hsp
theorem Bu(X:Text w K mg T):∀(k:Nat)(nm f:Str)(fd:Fd)(t:Stmt)(a:Addr)(g:FuncData),T.defs.lookup f=some fd->Fun K nm nm t a g->fd.body=bJ t->fd.sc=aU t->FnScope fd.N fd.ps fd.sc->FnOk P w K mg base (CX1 P w) k a g fd.ps (spX K (vR (d8 T F k)) (xR (d8 T F k)) f fd.ps)
  |0,nm,f,fd,t,a,g,hf,Fn,hb,hs,S=>by
    refine⟨λvs H Q E h=>h.1,λA outer s H args us vs Q E _ _ _ _ h=>?_⟩
    obtain⟨_,Hs,ds,_,_,⟨d,hc,_⟩|⟨c,hc,_⟩⟩:=h
    . have:=val_some hc;simp[pX] at this
    . have:=iB hc;simp[pX] at this
  |k+1,nm,f,fd,t,a,g,hf,Fn,hb,hs,S=>by
    refine Fun.okX (N:=fd.N) Fn (by rw[<- hs];exact S) (λvs H Q E h=>h.1) λcdv A outer s H vs Q E hr h=>?_
    obtain⟨hlv,Hs,ds,hsm,rl,hcase⟩:=h
    have hld:ds.length=fd.ps.length:=by
      rcases hcase with⟨d,hc,_⟩|⟨c,hc,_⟩
      . exact iD hf ds _ (val_some hc)
      . exact iD hf ds _ (iB hc)
    have unf:d8 T F (k+1) f ds=n8 (T.cx (d8 T F k)) F fd.sc fd.body (bN fd ds):=by
      simp only[jt,hf]
      rw[P5z (by simpa using hld)]
    obtain⟨s1,s2,s3⟩:=uG S hld rl
    refine⟨gq _ (bJ t),dR,?_⟩
    have G:GoodS (T.cx (d8 T F k)) k (eX (CX1 P w) P w K mg base fd.N nm (aU t) a cdv A outer s H E).nox fd.sc :=
      { good := { calm := rfl, room := hr, sce := hs.symm, kind := S.kind, nd := S.nd, cst := X.cst, blt := X.blt, exs := X.exs, kw := X.kw
                  fns:=λf' hf'=>by
                    obtain⟨fd',hl'⟩:=jO (l:=T.defs) hf'
                    have FA:=X.fns f' fd' hl'
                    obtain⟨nm',t',a',g',m1,m2,m3,m4,m5⟩:=FA.ex
                    exact⟨FA.nd,a',g',fd'.ps,λds d h=>iD hl' ds _ (val_some h),λds c h=>iD hl' ds _ (iB h),m1,m2.kp,m3,Bu X k nm' f' fd' t' a' g' hl' m2 m4 m5 FA.fs⟩ }
        own:=⟨λx hx=>⟨by
          unfold ownIn at hx
          rw[O3z] at hx
          show(aU t).names.lookup x=_\/(aU t).names.lookup x=_
          rw[<- hs]
          exact hx.imp (λq=>by simpa using q) (λq=>by simpa using q),.inl rfl⟩⟩
        pass:=PassesOwn.never
        stk:=⟨rfl,rfl⟩ }
    have noow:∀(i:Nat)(x:Str)(ds':List D),(bN fd ds)[i]?=some (x,.ow ds')->False:=λi x ds' e=>by
      rcases s3 i x _ e with q|⟨d',v,q,q1,q2⟩
      . cases q
      . cases q
    have hd:Hd K none Hs H Hs H (bN fd ds) (start fd.N vs):=by
      refine⟨.refl hsm,s2,λi x d e=>?_,λi x ds' e=>(noow i x ds' e).elim,λi j x y ds' es a' _ e=>(noow i x ds' e).elim,(λi x dss e=>by
        rcases s3 i x _ e with q|⟨d',v,q,q1,q2⟩
        . cases q
        . cases q),λp hp=>nomatch hp⟩
      rcases s3 i x _ e with q|⟨d',v,q,q1,q2⟩
      . cases q
      . cases q
        exact⟨v,q1,q2⟩
    rcases hcase with⟨d,hc,hq⟩|⟨c,hc,hq⟩
    . have hc':=val_some hc
      rw[unf] at hc'
      unfold n8 at hc'
      intro z0 s0 I
      have fin:∀fl,gK (λU s=>DE.st (T.cx (d8 T F k)) F F fd.sc U s) fd.body (bN fd ds)=some fl->(match fl with|.ret d'=>d'=d|.nxt _=>d=.non)->gq (eX (CX1 P w) P w K mg base fd.N nm (aU t) a cdv A outer s H E).nox (bJ t) {nx:=λ_ H'=>Q .non H',rt:=Q} (start fd.N vs) H:=by
        intro fl hg hfl
        rw[hb] at hg
        refine zj (λU s fl hN h=>rT _ F F G hN h) (bJ t) (bN fd ds) fl s1 hg (start fd.N vs) H Hs _ hd s1 (λU' O' Hs' H' q _ _ hd'=>?_) λd' v Hs' H' q E' r _=>?_
        . subst q
          have e:d=.non:=hfl
          subst e
          exact hq .non H' Hs' hd'.ext (by simp[Rep])
        . subst q
          have e:d'=d:=hfl
          subst e
          exact hq v H' Hs' E' r
      have key:gq (eX (CX1 P w) P w K mg base fd.N nm (aU t) a cdv A outer s H E).nox (bJ t) {nx:=λ_ H'=>Q .non H',rt:=Q} (start fd.N vs) H:=by
        split at hc'
        . rename_i d' hg;cases hc';exact fin _ hg rfl
        . rename_i U' hg;cases hc';exact fin _ hg rfl
        . split at hc'<;>cases hc'
      exact B5z (key z0 s0 (I.wish _)) (λ_ _ q=>q.unwish) λ_ _ z=>False.elim z
    . have hc':=iB hc
      rw[unf] at hc'
      unfold n8 at hc'
      split at hc'
      . cases hc'
      . cases hc'
      . split at hc'
        . rename_i c' U' hg
          cases hc'
          rw[hb] at hg
          refine qW (rs:=true) (X:=eX (CX1 P w) P w K mg base fd.N nm (aU t) a cdv A outer s H E) (λU s fl hN h=>rT _ F F G hN h) (λU s c U' hN h=>uE _ F F G hN h) (bJ t) (bN fd ds) s1 hg (start fd.N vs) H Hs _ hd s1 λO1 Hs1 H1 _ _ hd1=>?_
          refine⟨E,λC H2 Hs2 q E2=>hq C H2 Hs2 q (hd1.ext.trans E2),λz0 H2 s2 e s3 I2 hcx=>hcx.elim (λq=>vq z0 O1 H2 s2 e s3 I2 q) (λq=>sI I2 q),λ_ z0 H2 s2 C e h' args I2 hm hE=>rZ I2 hm hE⟩
        . cases hc'
theorem FnOk.calm{k:Nat}{f:Addr}{fd:FuncData}{ps:List Str}{sp:Sp}(F:FnOk P w K mg base (CX1 P w) k f fd ps sp)(h:∀vs H Q E,sp vs H Q E->sp vs H Q E0):FnOk P w K mg base CX0 k f fd ps sp :=
 ⟨F.len,λA outer s H args us vs Q E hr he hb hv hs=>U4z (F.run A outer s H args us vs Q E0 hr he hb hv (h _ _ _ _ hs)) λr s' q=>by
  cases r with
  |error e=>obtain⟨_,_,_,_,_,_,z⟩:=(show CX1 P w outer H s E0 e s' from q);exact z.elim
  | ok fl=>cases fl<;>exact q⟩
def qC(K:Zf):Sp:=λvs H Q _=>∃(a:Addr)(ns:List Int),vs=[.ref a]/\SqL K H a (ns.map V.int)/\ns.length<=63/\∀H',Q (.bl true) H'
theorem Jo{k:Nat}{f:Str}{fd:Fd}{t:Stmt}{a:Addr}{g:FuncData}(X:Text w K mg T)(hf:T.defs.lookup f=some fd)(Fn:Fun K f f t a g)(hb:fd.body=bJ t)(hs:fd.sc=aU t)(S:FnScope fd.N fd.ps fd.sc)(h1:fd.ps.length=1)
  (hlaw:∀ns:List Int,ns.length<=63->aK T F k f [.lst (ns.map D.int)]=some (.bl true)):FnOk P w K mg base CX0 k a g fd.ps (qC K):=by
 refine FnOk.calm ((Bu (F:=F) X k f f fd t a g hf Fn hb hs S).imp λvs H Q E h=>?_) λ_ _ _ _ h=>h;obtain⟨p,ns,rfl,hS,hl,q⟩:=h;refine⟨by rw[h1];rfl,H,[.lst (ns.map D.int)],.refl _,.cons ?_ .nil,.inl ⟨.bl true,by have:=hlaw ns hl;rw[gn] at this;exact this,λv H' Hs' _ r=>by rw[dz r];exact q H'⟩⟩;simp only[Rep];exact⟨p,ns.map V.int,rfl,hS,qH (λx=>by simp[Rep]) ns⟩
end
end L2
namespace DE
open PySem
def Ls{α:Type}(m:Nat)(h:Nat->α):List α:=(List.range m).map h
theorem cR{α:Type}{m:Nat}{h:Nat->α}:(Ls m h).length=m:=by simp[Ls]
theorem j9{α:Type}{m i:Nat}{h:Nat->α}(hi:i<m):(Ls m h)[i]?=some (h i):=by simp[Ls,hi]
theorem Kp{α β:Type}{m:Nat}{h:Nat->α}{f:α->β}:(Ls m h).map f=Ls m λi=>f (h i):=by
 unfold Ls;rw[W4z];rfl
theorem xK{α:Type}{m:Nat}{h:Nat->α}:Ls (m+1) h=Ls m h++[h m]:=by
 unfold Ls;rw[List.range_succ,P3z];rfl
theorem rE{m:Nat}{h:Nat->D}{j:Nat}(hj:j<m):atD (Ls m h) (j:Int)=some (h j):=by
 unfold atD ixD;rw[cR,P5z (by omega),P5z (by omega)];simp[j9 hj]
theorem eZ{l:List D}{j:Nat}{d:D}(h:l[j]?=some d):atD l (j:Int)=some d:=by
 have hj:=(List.getElem?_eq_some_iff.mp h).1;unfold atD ixD;rw[P5z (by omega),P5z (by omega)];simpa using h
theorem uX{n:Nat}:eO 0 (n:Int)=Ls n λk=>.int k:=by
 unfold eO Ls;simp
def Uk(cx:Cxt)(sc:Scope)(U:Rho)(x:Str):Option D:=if au x then(match sc.names.lookup x with
    |some .local=>(match U.lookup x with|some (.sh d)=>some d|_=>none)
    |some .cell=>(match U.lookup x with|some (.sh d)=>some d|_=>none)
    |some .free=>(match U.lookup x with|some (.sh d)=>some d|_=>none)
    |some .globalImplicit=>cx.cst.lookup x
    | _=>none) else none
def Uy(c:Const):Option D:=(match c with
    |.none=>some .non
    |.bool b=>some (.bl b)
    |.int i=>some (.int i)
    |.str x=>some (.str x)
    | _=>none)
section
variable{cx:Cxt}{n:Nat}{sc scope:Scope}{U:Rho}{a b c e:Expr}{es:List Expr}{p q:Pos}{x y z d:D}{ds:List D}{nm:Str}{op op':CmpOp}
theorem xName(h:Uk cx sc U nm=some d):ev cx (n+1) sc U (.Name nm p)=some d:=h
theorem jF{k:Const}{j:Nat}(h:Uy k=some d):ev cx (n+1) sc U (.Constant k j p)=some d:=h
theorem cI{o:Operator}(h1:ev cx n sc U a=some x)(h2:ev cx n sc U b=some y)(h:binop o x y=some d):ev cx (n+1) sc U (.BinOp a o b p)=some d:=by
 simp only[ev,h1,h2];exact h
theorem Gp{t:Bool}(h1:ev cx n sc U a=some (.bl t)):ev cx (n+1) sc U (.UnaryOp .Not a p)=some (.bl (!t)):=by
 simp only[ev,h1];rfl
theorem fC(h1:ev cx n sc U a=some (.bl true)):ev cx (n+1) sc U (.UnaryOp .Not a p)=some (.bl false):=Gp h1
theorem iI(h1:ev cx n sc U a=some (.bl false)):ev cx (n+1) sc U (.UnaryOp .Not a p)=some (.bl true):=Gp h1
theorem Ld{i:Int}(h1:ev cx n sc U a=some (.int i)):ev cx (n+1) sc U (.UnaryOp .USub a p)=some (.int (-i)):=by
 simp only[ev,h1];rfl
theorem mF(h1:ev cx n sc U a=some (.bl true))(h2:bU .And (ev cx n sc U) (b::es)=some d):bU .And (ev cx n sc U) (a::b::es)=some d:=by
 simp only[bU,h1];exact h2
theorem rK(h1:ev cx n sc U a=some (.bl false)):bU .And (ev cx n sc U) (a::b::es)=some (.bl false):=by
 simp only[bU,h1];rfl
theorem kj(h1:ev cx n sc U a=some (.bl false))(h2:bU .Or (ev cx n sc U) (b::es)=some d):bU .Or (ev cx n sc U) (a::b::es)=some d:=by
 simp only[bU,h1];exact h2
theorem xX(h1:ev cx n sc U a=some (.bl true)):bU .Or (ev cx n sc U) (a::b::es)=some (.bl true):=by
 simp only[bU,h1];rfl
theorem jx{o:BoolOp}(h1:ev cx n sc U a=some d):bU o (ev cx n sc U) [a]=some d:=h1
theorem bH{o:BoolOp}(h:bU o (ev cx n sc U) es=some d):ev cx (n+1) sc U (.BoolOp o es p)=some d:=h
theorem dO(h1:ev cx n sc U a=some x)(h2:ev cx n sc U b=some y)(h:cmpop op x y=some d):ev cx (n+1) sc U (.Compare a [op] [b] p)=some d:=by
 simp only[ev,h1,h2];exact h
theorem oN(h1:ev cx n sc U a=some x)(h2:ev cx n sc U b=some y)(h:cmpop op x y=some (.bl true))(h3:ev cx n sc U c=some z)(h4:cmpop op' y z=some d)(hp:aA c=true:=by rfl):ev cx (n+1) sc U (.Compare a [op,op'] [b,c] p)=some d:=by
 simp only[ev,h1,h2,h3,hp];show((cmpop op x y).bind asB).bind _=_;rw[h];exact h4
theorem Kw(h1:ev cx n sc U c=some (.bl true))(h2:ev cx n sc U a=some d):ev cx (n+1) sc U (.IfExp c a b p)=some d:=by
 simp only[ev,h1];exact h2
theorem GJ(h1:ev cx n sc U c=some (.bl false))(h2:ev cx n sc U b=some d):ev cx (n+1) sc U (.IfExp c a b p)=some d:=by
 simp only[ev,h1];exact h2
theorem bV{f:Expr->Option D}:jw f []=some []:=rfl
theorem aq{f:Expr->Option D}(h1:f a=some x)(h2:jw f es=some ds):jw f (a::es)=some (x::ds):=by
 simp only[jw,h1,h2];rfl
theorem K8{j:Nat}(h1:jw (ev cx n sc U) es=some ds)(hz:szl ds.length=true):ev cx (n+1) sc U (.Tuple es j p)=some (.tup ds):=by
 simp only[ev,h1];show(if szl ds.length=true then _ else _)=_;rw[P5z hz]
theorem QC(h1:jw (ev cx n sc U) es=some ds)(hz:szl ds.length=true):ev cx (n+1) sc U (.List es p)=some (.lst ds):=by
 simp only[ev,h1];show(if szl ds.length=true then _ else _)=_;rw[P5z hz]
theorem Cg{x:D}{i:Int}{xs:List D}(h:items x=some xs):Gs x (.int i)=atD xs i:=by cases x<;>simp[items] at h<;>subst h<;>rfl
theorem xIx{i:Int}{xs:List D}(h1:ev cx n sc U a=some x)(h2:ev cx n sc U b=some (.int i))(h3:items x=some xs)(h4:atD xs i=some d)(hs:aA b=true:=by rfl):ev cx (n+1) sc U (.Subscript a b p)=some d:=by
 simp only[ev,h1];show Option.bind _ _=_
 cases b<;>first|(simp[aA] at hs;done)|(simp only[h2];show Gs x (.int i)=some d;rw[Cg h3];exact h4)
theorem GK{y:D}(h1:ev cx n sc U a=some x)(h2:ev cx n sc U b=some y)(h:Gs x y=some d)(hs:aA b=true:=by rfl):ev cx (n+1) sc U (.Subscript a b p)=some d:=by
 simp only[ev,h1];show Option.bind _ _=_
 cases b<;>first|(simp[aA] at hs;done)|(simp only[h2];exact h)
def oI(cx:Cxt)(n:Nat)(sc:Scope)(U:Rho):Option Expr->Option (Option Int)
 |none=>some none
 |some e=>(ev cx n sc U e).bind λd=>(asI d).map some
theorem xSl{xs:List D}{lo hi:Option Expr}{l u:Option Int}(h1:ev cx n sc U a=some (.tup xs))(h2:oI cx n sc U lo=some l)(h3:oI cx n sc U hi=some u)(h4:(jy xs.length 0 l==0&&jy xs.length xs.length u==xs.length)=false) :
  ev cx (n+1) sc U (.Subscript a (.Slice lo hi none q) p)=some (.tup (nM xs l u)):=by
 unfold oI at h2 h3;simp only[ev,h1,bind,U2z]
 have e:∀(A B:Option (Option Int)),A=some l->B=some u->(A.bind λl=>B.bind λh=>if(jy xs.length 0 l==0&&jy xs.length xs.length h==xs.length)=true then some (D.tup xs) else some (D.tup (nM xs l h)))=some (.tup (nM xs l u)):=by
  intro A B ha hb;subst ha hb;simp only[U2z,h4,O1z,M5z]
 exact e _ _ h2 h3
theorem La{us:List D}{lo hi:Option Expr}{l u:Option Int}(h1:ev cx n sc U a=some (.lst us))(h2:oI cx n sc U lo=some l)(h3:oI cx n sc U hi=some u) :
  ev cx (n+1) sc U (.Subscript a (.Slice lo hi none q) p)=some (.lst (nM us l u)):=by
 unfold oI at h2 h3;simp only[ev,h1,bind,U2z]
 have e:∀(A B:Option (Option Int)),A=some l->B=some u->(A.bind λl=>B.bind λh=>some (D.lst (nM us l h)))=some (.lst (nM us l u)):=by
  intro A B ha hb;subst ha hb;rfl
 exact e _ _ h2 h3
theorem dB:oI cx n sc U none=some none:=rfl
theorem iW{i:Int}(h:ev cx n sc U e=some (.int i)):oI cx n sc U (some e)=some (some i):=by
 simp only[oI,h];rfl
theorem jE{t:Expr}{T:String}(hg:bh cx sc nm=some "isinstance")(ht:tyOf cx sc t=some T)(hk:fL T=true)(h1:ev cx n sc U a=some x)(h:jV T x=c')(hxo:xOf cx sc t=none:=by rfl)(hne:isExc x=false:=by rfl):ev cx (n+1) sc U (.Call (.Name nm q) [a,t] [] p)=some (.bl c'):=by
 unfold bh at hg;split at hg
 .rename_i hgl
  subst h;simp only[ev,hgl,hg,h1,ht,O5z,hxo,bind,U2z]
  cases x<;>first|(show(if fL T=true then _ else _)=_;rw[P5z hk])|exact absurd hne (by simp[isExc])
 .cases hg
theorem dw{B:String}(hg:bh cx sc nm=some B)(hw:GZ cx sc B es=.al)(hn:(B=="isinstance"||es.isEmpty)=false)(h1:jw (ev cx n sc U) es=some ds)(h:blt B ds=some d):ev cx (n+1) sc U (.Call (.Name nm q) es [] p)=some d:=by
 rw[A1z] at hn;unfold bh at hg;split at hg
 .rename_i hgl
  simp only[ev,hgl,hg,O5z];split
  .rename_i he;cases he;simp at hn
  .rename_i he;cases he
   simp only[hw,hn.2,h1,O1z,M5z];exact h
  .rename_i he;cases he
 .cases hg
def isFn(cx:Cxt)(sc:Scope)(nm:Str)(es:List Expr):Bool:=jB cx sc nm&&(cx.blt.lookup nm).isNone&&cx.fns.contains nm && !es.isEmpty
theorem aQ(hf:isFn cx sc nm es=true)(h1:jw (ev cx n sc U) es=some ds)(h:cx.call nm ds=some d):ev cx (n+1) sc U (.Call (.Name nm q) es [] p)=some d:=by
 unfold isFn at hf;rw[L2z,L2z,L2z] at hf;obtain⟨⟨⟨h2,h3⟩,h4⟩,h5⟩:=hf
 have h3':cx.blt.lookup nm=none:=by simpa using h3
 simp only[ev,h2,h3',h4,h5,J4z,O5z,h1];exact h
theorem wR1{tup:Bool}{j:Int}(hw:xP cx sc e=.r1 a)(h1:ev cx n sc U a=some (.int j))(hz:gM j=true):evI cx tup (ev cx n sc U) sc e=some (eO 0 j):=by
 unfold evI;rw[hw];simp only[h1,U2z,asI];show(if gM j=true then _ else _)=_;rw[P5z hz]
theorem wEn{xs:List D}(hw:xP cx sc e=.en a)(h1:ev cx n sc U a=some (.tup xs)):evI cx true (ev cx n sc U) sc e=some (enD xs):=by
 unfold evI;rw[hw];simp only[h1,bind,U2z];rfl
theorem wSq{tup:Bool}{xs:List D}(hw:xP cx sc e=.sq)(h1:ev cx n sc U e=some x)(h2:items x=some xs):evI cx tup (ev cx n sc U) sc e=some xs:=by
 unfold evI;rw[hw];simp only[h1,U2z];exact vW h2
theorem nR{f:D->Option (Option D)}{h g:Nat->D}:∀{m:Nat},(∀i,i<m->f (h i)=some (some (g i)))->aP f (Ls m h)=some (Ls m g):=by
 have key:∀(l:List Nat),(∀i∈l,f (h i)=some (some (g i)))->aP f (l.map h)=some (l.map g):=by
  intro l
  induction l with
  |nil=>intro _;rfl
  |cons i r ih =>
   intro hi;simp only[G4z,aP,hi i J1z,ih λj hj=>hi j (S0z _ hj)];rfl
 intro m hm;exact key _ λi hi=>hm i (List.mem_range.mp hi)
theorem jm{f:D->Option (Option D)}{t:D->Bool}{g:D->D}:∀{l:List D},(∀x∈l,f x=some (if t x then some (g x) else none))->aP f l=some ((l.filter t).map g)
 |[],_=>rfl
 |x::r,h=>by
  have h1:=h x J1z;have h2:=jm (l:=r) λy hy=>h y (S0z _ hy);simp only[aP,h1]
  cases ht:t x with
  |true=>simp only[O5z,Y2z,ht,G4z,h2];rfl
  |false=>simp only[O1z,M5z,Y2z,ht];exact h2
def cF(cx:Cxt)(n:Nat)(sc scope:Scope)(U:Rho)(tg elt:Expr)(ifs:List Expr):D->Option (Option D):=λd=>do
 let U1 <- cC scope tg d (aO scope U)
 let b <- jC (ev cx n (jA scope sc) U1) ifs
 if b then(ev cx n (jA scope sc) U1 elt).map some else some none
theorem fJ{tg elt:Expr}{U1:Rho}(h1:cC scope tg x (aO scope U)=some U1)(h2:ev cx n (jA scope sc) U1 elt=some d):cF cx n sc scope U tg elt [] x=some (some d):=by
 simp only[cF,h1,jC];show Option.map some (ev cx n (jA scope sc) U1 elt)=_;rw[h2];rfl
theorem pY{tg elt:Expr}{U1:Rho}{t:Bool}(h1:cC scope tg x (aO scope U)=some U1)(h3:ev cx n (jA scope sc) U1 c=some (.bl t))(h2:ev cx n (jA scope sc) U1 elt=some d):cF cx n sc scope U tg elt [c] x=some (if t then some d else none):=by
 simp only[cF,h1,jC,h3,h2,bind,U2z,asB]
 cases t<;>rfl
theorem d7{tg elt iter:Expr}{ifs:List Expr}{l out:List D}(hok:eY sc scope=true)(hI:evI cx (cN tg) (ev cx n sc U) sc iter=some l)(hz:szl l.length=true)(hgo:aP (cF cx n sc scope U tg elt ifs) l=some out) :
  ev cx (n+1) sc U (.ListComp elt [⟨tg,iter,ifs,0⟩] scope p)=some (.lst out):=by
 simp only[ev,hok,hI];show(if szl l.length=true then(aP (cF cx n sc scope U tg elt ifs) l).bind (λout=>some (D.lst out)) else none)=some (D.lst out);rw[P5z hz,hgo];rfl
variable{F:Nat}{f:Rho->Stmt->Option Fl}{r:List Stmt}{fl:Fl}{m:Nat}
abbrev blk(cx:Cxt)(F m:Nat)(sc:Scope):List Stmt->Rho->Option Fl:=gK (λU s=>st cx F m sc U s)
theorem fP:blk cx F m sc [] U=some (.nxt U):=rfl
def iJ(cx:Cxt)(F m:Nat)(sc:Scope)(r:List Stmt):Fl->Option Fl
 |.ret d=>some (.ret d)
 |.nxt U'=>blk cx F m sc r U'
theorem gSt{s:Stmt}{fl1:Fl}(h:st cx F m sc U s=some fl1)(k:iJ cx F m sc r fl1=some fl):blk cx F m sc (s::r) U=some fl:=by
 show(st cx F m sc U s).bind _=_;rw[h]
 cases fl1<;>exact k
theorem cZ(h:ev cx F sc (frz F e U) e=some d):blk cx F (m+1) sc (.Return (some e) p::r) U=some (.ret d):=by
 refine gSt (fl1:=.ret d) ?_ rfl;simp only[st,h];rfl
theorem fD{px:Pos}(ho:(ownIn sc nm&&(U.map (·.1)).contains nm)=true)(h:ev cx F sc (frz F e U) e=some d)(k:blk cx F (m+1) sc r (cU (frz F e U) nm (kY e d))=some fl)(hoo:(ooE cx sc e&&yJ (frz F e U) nm)=false:=by rfl)(hno:(bf e && !pF (frz F e U) nm)=false:=by rfl)(hle:Gw cx sc e=false:=by rfl)(hrd:rdA e=false:=by rfl):blk cx F (m+1) sc (.Assign [.Name nm px] e p::r) U=some fl:=by
 refine gSt (fl1:=.nxt _) ?_ k;simp only[st,h,P5z ho,hoo,hno,hle,hrd,X3z,O1z,M5z];rfl
theorem gTup{es:List Expr}{j:Nat}{U':Rho}{l:List D}(hs:(swp sc es e).isSome=true)(h:ev cx F sc (frz F e U) e=some d)(hl:tupI d=some l)(hb:bindNames sc es l (frz F e U)=some U')(k:blk cx F (m+1) sc r U'=some fl):blk cx F (m+1) sc (.Assign [.Tuple es j q] e p::r) U=some fl:=by
 refine gSt (fl1:=.nxt _) ?_ k;simp only[st,h,hs,Bool.true_or,O5z,hl,bind,U2z,hb,L3z]
def rH:Expr->Bool
 |.Call (.Name ..) _ _ _=>true
 |_=>false
theorem Uu(hx:rH e=true)(h:ev cx F sc (frz F e U) e=some d)(k:blk cx F (m+1) sc r (frz F e U)=some fl):blk cx F (m+1) sc (.Expr e p::r) U=some fl:=by
 unfold rH at hx;split at hx
 .refine gSt (fl1:=.nxt _) ?_ k
  simp only[st,h,L3z]
 .cases hx
theorem Sh{px ap cp:Pos}{M:Str}{ds:List D}(hx:(frz F e U).lookup nm=some (.ow ds))(ho:(ownIn sc nm&&au nm&&ap.endLine==cp.line)=true)(hM:(M=="append")=true)(hz:szl (ds.length+1)=true)(h:ev cx F sc (frz F e U) e=some d)(k:blk cx F (m+1) sc r (cU (frz F e U) nm (.ow (ds++[d])))=some fl) :
  blk cx F (m+1) sc (.Expr (.Call (.Attribute (.Name nm px) M ap) [e] [] cp) p::r) U=some fl:=by
 refine gSt (fl1:=.nxt _) ?_ k;simp only[st,hx,ho,hM,hz,J4z,O5z,h,L3z]
theorem Sg{px ap cp:Pos}{M:Str}{ds zs:List D}(hx:(frz F e U).lookup nm=some (.ow ds))(ho:(ownIn sc nm&&au nm&&ap.endLine==cp.line)=true)(hM:(M=="append")=false)(hM2:(M=="extend")=true)(hz:szl (ds.length+zs.length)=true)(h:ev cx F sc (frz F e U) e=some (.lst zs))(k:blk cx F (m+1) sc r (cU (frz F e U) nm (.ow (ds++zs)))=some fl) :
  blk cx F (m+1) sc (.Expr (.Call (.Attribute (.Name nm px) M ap) [e] [] cp) p::r) U=some fl:=by
 refine gSt (fl1:=.nxt _) ?_ k;simp only[st,hx,ho,hM,hM2,X3z,O1z,M5z,O5z,h,bind,U2z,hz]
theorem jW{A B:List Stmt}{fl1:Fl}(h:ev cx F sc (frz F c U) c=some (.bl true))(k:blk cx F m sc A U=some fl1)(k2:iJ cx F (m+1) sc r fl1=some fl):blk cx F (m+1) sc (.If c A B p::r) U=some fl:=by
 refine gSt ?_ k2;have k':gK (λU s=>st cx F m sc U s) A U=some fl1:=k;simp only[st,h,bind,U2z,asB,O5z,k']
theorem Sd{A B:List Stmt}{fl1:Fl}(h:ev cx F sc (frz F c U) c=some (.bl false))(k:blk cx F m sc B U=some fl1)(k2:iJ cx F (m+1) sc r fl1=some fl):blk cx F (m+1) sc (.If c A B p::r) U=some fl:=by
 refine gSt ?_ k2;have k':gK (λU s=>st cx F m sc U s) B U=some fl1:=k;simp only[st,h,bind,U2z,asB,O1z,M5z,k']
theorem nC{A:List Stmt}(h:ev cx F sc (frz F c U) c=some (.bl false))(k:blk cx F (m+1) sc r U=some fl):blk cx F (m+1) sc (.If c A [] p::r) U=some fl :=
 Sd h fP k
theorem iz{f:D->Rho->Option Fl}{h:Nat->D}{R:Nat->Rho}{N:Nat}(hs:∀i,i<N->f (h i) (R i)=some (.nxt (R (i+1)))):bF f (Ls N h) (R 0)=some (.nxt (R N)):=by
  have key:∀(j i:Nat),i+j=N->bF f ((List.range' i j).map h) (R i)=some (.nxt (R N)):=by
    intro j
    induction j with
    | zero => intro i hi; have : i = N := by omega
              subst this;rfl
    |succ j ih =>
      intro i hi
      rw[R2z,G4z]
      simp only[bF,hs i (by omega)]
      exact ih (i+1) (by omega)
  have:=key N 0 (by omega)
  rw[<- List.range_eq_range'] at this
  exact this
def fF(cx:Cxt)(F m:Nat)(sc:Scope)(tg:Expr)(body:List Stmt):D->Rho->Option Fl:=λd U=>do let U1 <- cC sc tg d U;gK (λU s=>st cx F m sc U s) body U1
theorem dg{tg:Expr}{body:List Stmt}{U1:Rho}(h1:cC sc tg d U=some U1)(h2:blk cx F m sc body U1=some fl):fF cx F m sc tg body d U=some fl:=by
 have h2':gK (λU s=>st cx F m sc U s) body U1=some fl:=h2;simp only[fF,h1];exact h2'
theorem sX{tg iter:Expr}{body:List Stmt}{l:List D}{fl1:Fl}(hI:evI cx (cN tg) (ev cx F sc (frz F iter U)) sc iter=some l)(hgo:bF (fF cx F m sc tg body) l (frz F iter U)=some fl1)(k2:iJ cx F (m+1) sc r fl1=some fl):blk cx F (m+1) sc (.For tg iter body [] p::r) U=some fl:=by
 refine gSt ?_ k2;have hgo':bF (λd U=>(cC sc tg d U).bind λU1=>gK (λU s=>st cx F m sc U s) body U1) l (frz F iter U)=some fl1:=hgo;simp only[st,hI,bind,U2z,hgo']
abbrev cxN(P:Pg)(F k:Nat):Cxt:=⟨P.cst,P.blt,P.defs.map (·.1),P.exs,P.top,true,aK P F k,jD P F k⟩
theorem Ga{P:Pg}{k:Nat}:P.cx (d8 P F k)=cxN P F k:=by
 have e1:aK P F k=λf ds=>Rs.val? (d8 P F k f ds):=by funext f ds;exact gn
 have e2:jD P F k=λf ds=>Rs.exc? (d8 P F k f ds):=by funext f ds;exact rC
 unfold cxN;rw[e1,e2];rfl
theorem d9{P:Pg}{k:Nat}{f:Str}{fd:Fd}(hf:P.defs.lookup f=some fd)(hl:(ds.length==fd.ps.length)=true)(h:blk (cxN P F k) F F fd.sc fd.body (bN fd ds)=some (.ret d)):aK P F (k+1) f ds=some d:=by
 have h':gK (λU s=>st (cxN P F k) F F fd.sc U s) fd.body (bN fd ds)=some (.ret d):=h;rw[gn];simp only[jt,hf,hl,O5z,n8,Ga,h',Rs.val?]
theorem K4{P:Pg}{k:Nat}{f:Str}{fd:Fd}{U':Rho}(hf:P.defs.lookup f=some fd)(hl:(ds.length==fd.ps.length)=true)(h:blk (cxN P F k) F F fd.sc fd.body (bN fd ds)=some (.nxt U')):aK P F (k+1) f ds=some .non:=by
 have h':gK (λU s=>st (cxN P F k) F F fd.sc U s) fd.body (bN fd ds)=some (.nxt U'):=h;rw[gn];simp only[jt,hf,hl,O5z,n8,Ga,h',Rs.val?]
def Bt(cx:Cxt)(F m:Nat)(sc:Scope)(l:List Stmt)(U:Rho)(c:Str):Prop:=gK (λU s=>st cx F m sc U s) l U=none/\∃U',fQ (λU s=>st cx F m sc U s) (λU s=>stx cx F m sc U s) l U=some (c,U')
theorem xW{P:Pg}{k:Nat}{f:Str}{fd:Fd}{c:Str}(hf:P.defs.lookup f=some fd)(hl:(ds.length==fd.ps.length)=true)(h:Bt (cxN P F k) F F fd.sc fd.body (bN fd ds) c):jD P F (k+1) f ds=some c/\aK P F (k+1) f ds=none:=by
 obtain⟨h1,U',h2⟩:=h;rw[rC,gn];simp only[jt,hf,hl,O5z,n8,Ga,h1,h2,Rs.exc?,Rs.val?];trivial
theorem iG{s:Stmt}{U1:Rho}{c:Str}(h1:st cx F m sc U s=some (.nxt U1))(h2:Bt cx F m sc r U1 c):Bt cx F m sc (s::r) U c:=by
 obtain⟨h3,U',h4⟩:=h2;refine⟨?_,U',?_⟩
 .show(st cx F m sc U s).bind _=_
  rw[h1];exact h3
 .simp only[fQ,h1];exact h4
theorem lY{s:Stmt}{U1:Rho}{c:Str}(h1:st cx F m sc U s=none)(h2:stx cx F m sc U s=some (c,U1)):Bt cx F m sc (s::r) U c:=by
 refine⟨?_,U1,?_⟩
 .show(st cx F m sc U s).bind _=_
  rw[h1];rfl
 .simp only[fQ,h1];exact h2
theorem gQ{A B:List Stmt}{cn:Str}{np p1 cpos rp:Pos}{txt:Str}{j:Nat}(h:ev cx F sc (frz F c U) c=some (.bl true))(hr:(cx.rs&&jB cx sc cn&&cx.exs.contains cn&&au cn)=true) :
  Bt cx F (m+2) sc (.If c (.Raise (some (.Call (.Name cn np) [.Constant (.str txt) j p1] [] cpos)) none rp::A) B p::r) U cn:=by
 refine lY (U1:=frz F c U) ?_ ?_
 .simp only[st,h,bind,U2z,asB,O5z]
  rfl
 .simp only[stx,h,U2z,asB,O5z,fQ]
  simp only[st,P5z hr]
theorem K5{cn:Str}(hx:rH e=true)(h:ev cx F sc (frz F e U) e=none)(h2:evx cx F sc (frz F e U) e=some cn):Bt cx F (m+1) sc (.Expr e p::r) U cn:=by
 refine lY (U1:=frz F e U) ?_ ?_
 .unfold rH at hx
  split at hx
  .simp only[st,h,S3z]
  .cases hx
 .unfold rH at hx
  split at hx
  .simp only[stx,bf,O1z,M5z,h2,L3z]
  .cases hx
theorem qg{c:Str}(hf:(isFn cx sc nm es&&es.all aA)=true)(h1:jw (ev cx n sc U) es=some ds)(h:cx.callx nm ds=some c)(h0:cx.call nm ds=none):evx cx (n+1) sc U (.Call (.Name nm q) es [] p)=some c/\ev cx (n+1) sc U (.Call (.Name nm q) es [] p)=none:=by
 unfold isFn at hf;simp only[L2z] at hf;obtain⟨⟨⟨⟨h2,h3⟩,h4⟩,h5⟩,h6⟩:=hf
 have h3':cx.blt.lookup nm=none:=by simpa using h3
 constructor
 .simp only[evx,h2,h5,h6,h4,J4z,O5z,h1,h]
 .simp only[ev,h2,h3',O5z,h4,h5,J4z,h1,bind,U2z,h0]
end
abbrev row(n:Nat)(f:Nat->Int):D:=.tup (Ls n λj=>.int (f j))
abbrev tbl(m n:Nat)(f:Nat->Nat->Int):D:=.tup (Ls m λi=>.tup (Ls n λj=>.int (f i j)))
theorem Qx{n:Nat}{h:Nat->D}:blt "len" [.tup (Ls n h)]=some (.int n):=by
 show some (D.int ((Ls n h).length:Int))=_;rw[cR]
theorem UJ{l:List D}:blt "tuple" [.lst l]=some (.tup l):=rfl
theorem eE{n:Nat}(h:n<=100000):szl n=true:=by unfold szl;exact Y3z h
theorem Hh{α:Type}{n:Nat}{h:Nat->α}(hn:n<=100000):szl (Ls n h).length=true:=by rw[cR];exact eE hn
theorem Tn{n:Nat}(h:n<=100000):gM (n:Int)=true:=by
 unfold gM;rw[Y3z (by omega),Y3z (by omega)];rfl
theorem oLe{i j:Int}(h:i<=j):cmpop .LtE (.int i) (.int j)=some (.bl true):=by
 show some (D.bl (decide (i<=j)))=_;rw[Y3z h]
theorem oLt{i j:Int}(h:i<j):cmpop .Lt (.int i) (.int j)=some (.bl true):=by
 show some (D.bl (decide (i<j)))=_;rw[Y3z h]
theorem QV{i j:Int}(h:¬ i<j):cmpop .Lt (.int i) (.int j)=some (.bl false):=by
 show some (D.bl (decide (i<j)))=_;rw[C3z h]
theorem TV{i j:Int}(h:i=j):cmpop .Eq (.int i) (.int j)=some (.bl true):=by
 subst h;show some (D.bl (i==i))=_;rw[O2z]
theorem TY{i j:Int}(h:i≠j):cmpop .Eq (.int i) (.int j)=some (.bl false):=by
 show some (D.bl (i==j))=_;rw[F1z.mpr h]
theorem Kl{i j:Int}(h:small i=true\/small j=true):binop .Mult (.int i) (.int j)=some (.int (i*j)):=by
 show(if(small i||small j||(mid i&&mid j))=true then _ else _)=_;rw[P5z (by rw[O3z,O3z];exact .inl h)]
theorem Af{i j:Int}(h:0<j):binop .Mod (.int i) (.int j)=some (.int (i%j)):=by
 show(if decide (0<j)=true then _ else _)=_;rw[P5z (Y3z h)]
theorem K3{i j:Int}(h:0<j)(h':j<1073741824):binop .FloorDiv (.int i) (.int j)=some (.int (i / j)):=by
 show(if(decide (0<j)&&decide (j<1073741824))=true then _ else _)=_;rw[P5z (by rw[Y3z h,Y3z h'];rfl)]
mutual
theorem wG:∀d:D,dep d<1000->deq d d=true
 |.non,_=>rfl
 |.bl b,_=>by simp[deq]
 |.int i,_=>by simp[deq]
 |.str x,_=>by simp[deq]
 |.tup xs,h=>by simp only[deq];exact lK xs (by simp only[dep] at h;omega)
 |.lst xs,h=>by simp only[deq];exact lK xs (by simp only[dep] at h;omega)
 |.exc c,h=>absurd h (by simp[dep])
 |.dic _ _,h=>absurd h (by simp[dep])
 |.obj _,h=>absurd h (by simp[dep])
theorem lK:∀ds:List D,deps ds<1000->nJ ds ds=true
 |[],_=>rfl
 |d::ds,h=>by
  simp only[deps] at h;simp only[nJ,wG d (by omega),lK ds (by omega),J4z]
end
theorem oEq{x y:D}(h1:dep x<=50)(h2:dep y<=50)(hk:eG x y=true:=by rfl):cmpop .Eq x y=some (.bl (deq x y)):=by
 show(if(decide (dep x<=50)&&decide (dep y<=50)&&eG x y)=true then some (D.bl (deq x y)) else none)=_;rw[Y3z h1,Y3z h2,hk];rfl
theorem jo:∀{xs ys:List D},(∀x∈xs,∀y∈ys,eG x y=true)->jq xs ys=true
 |[],_,_=>by simp[jq]
 |_::_,[],_=>by simp[jq]
 |x::xs,y::ys,h=>by
  rw[jq,h x (J1z ..) y (J1z ..),jo λa ha b hb=>h a (S0z _ ha) b (S0z _ hb)];rfl
theorem oNe{x y:D}(h1:dep x<=50)(h2:dep y<=50)(hk:eG x y=true:=by rfl):cmpop .NotEq x y=some (.bl (!deq x y)):=by
 show(if(decide (dep x<=50)&&decide (dep y<=50)&&eG x y)=true then some (D.bl (!deq x y)) else none)=_;rw[Y3z h1,Y3z h2,hk];rfl
theorem dh{b:Nat}:∀{l:List D},(∀d∈l,dep d<=b)->deps l<=b
 |[],_=>Z4z _
 |d::r,h=>by
  simp only[deps];exact Nat.max_le.mpr ⟨h d J1z,dh λe he=>h e (S0z _ he)⟩
theorem pO{n:Nat}{f:Nat->Int}:dep (row n f)<=1:=by
 simp only[dep]
 have:=dh (b:=0) (l:=Ls n λj=>D.int (f j)) λd hd=>by
  unfold Ls at hd;obtain⟨i,_,rfl⟩:=List.mem_map.mp hd;simp[dep]
 omega
theorem wK{m n:Nat}{f:Nat->Nat->Int}:dep (tbl m n f)<=2:=by
 simp only[dep]
 have:=dh (b:=1) (l:=Ls m λi=>D.tup (Ls n λj=>D.int (f i j))) λd hd=>by
  unfold Ls at hd;obtain⟨i,_,rfl⟩:=List.mem_map.mp hd;exact pO (f:=f i)
 omega
section
variable{cx:Cxt}{n:Nat}{sc scope:Scope}{U:Rho}{a b c e:Expr}{es:List Expr}{p q:Pos}{x y z d:D}{ds:List D}{nm:Str}
theorem G3{tup:Bool}{j:Nat}(hw:xP cx sc e=.r1 a)(h1:ev cx n sc U a=some (.int j))(hz:j<=100000):evI cx tup (ev cx n sc U) sc e=some (Ls j λk=>.int k):=by
 rw[wR1 hw h1 (Tn hz),uX]
theorem Le{m j:Nat}{h:Nat->D}(h1:ev cx n sc U a=some (.tup (Ls m h)))(h2:ev cx n sc U b=some (.int j))(hj:j<m)(hs:aA b=true)(hd:h j=d):ev cx (n+1) sc U (.Subscript a b p)=some d:=hd▸xIx h1 h2 rfl (rE hj) hs
end
section
variable{cx:Cxt}{n:Nat}{sc scope:Scope}{U:Rho}{a b c e:Expr}{es:List Expr}{p q:Pos}{x y z d:D}{ds:List D}{nm:Str}
end
theorem J2{m:Nat}{h:Nat->D}:enD (Ls m h)=Ls m λi=>.tup [.int i,h i]:=by
 apply List.ext_getElem?;intro i;unfold enD;rw[List.getElem?_map,List.getElem?_zipIdx]
 by_cases hi:i<m
 .rw[j9 hi,j9 hi];simp
 .rw[List.getElem?_eq_none (by rw[cR];omega),List.getElem?_eq_none (by rw[cR];omega)];rfl
theorem QD{cx:Cxt}{n:Nat}{sc:Scope}{U:Rho}{a e:Expr}{m:Nat}{h:Nat->D}(hw:xP cx sc e=.en a)(h1:ev cx n sc U a=some (.tup (Ls m h))):evI cx true (ev cx n sc U) sc e=some (Ls m λi=>.tup [.int i,h i]):=by
 rw[wEn hw h1,J2]
theorem Gv{i j:Int}(h:¬ i<=j):cmpop .LtE (.int i) (.int j)=some (.bl false):=by
 show some (D.bl (decide (i<=j)))=_;rw[C3z h]
theorem oGt{i j:Int}:cmpop .Gt (.int i) (.int j)=some (.bl (decide (j<i))):=rfl
theorem TQ{i j:Int}:cmpop .Lt (.int i) (.int j)=some (.bl (decide (i<j))):=rfl
theorem QW{i j:Int}:cmpop .LtE (.int i) (.int j)=some (.bl (decide (i<=j))):=rfl
section
variable{cx:Cxt}{n:Nat}{sc scope:Scope}{U:Rho}{a b c e:Expr}{es:List Expr}{p q:Pos}{x y z d:D}{ds:List D}{nm:Str}{F m:Nat}{r:List Stmt}{fl:Fl}{op op':CmpOp}
theorem ug(h1:ev cx n sc U a=some x)(h2:ev cx n sc U b=some y)(h:cmpop op x y=some (.bl false))(hp:aA c=true:=by rfl):ev cx (n+1) sc U (.Compare a [op,op'] [b,c] p)=some (.bl false):=by
 simp only[ev,hp,Bool.not_true,O1z,M5z,h1,h2,bind,U2z,h,asB]
theorem Qp{px ap cp:Pos}{M:Str}{ds zs:List D}(hx:(frz F e U).lookup nm=some (.ow ds))(ho:(ownIn sc nm&&au nm&&ap.endLine==cp.line)=true)(hM:(M=="append")=false)(hM2:(M=="extend")=true)(hz:szl (ds.length+zs.length)=true)(h:ev cx F sc (frz F e U) e=some (.tup zs))(k:blk cx F (m+1) sc r (cU (frz F e U) nm (.ow (ds++zs)))=some fl) :
  blk cx F (m+1) sc (.Expr (.Call (.Attribute (.Name nm px) M ap) [e] [] cp) p::r) U=some fl:=by
 refine gSt (fl1:=.nxt _) ?_ k;simp only[st,hx,ho,hM,hM2,X3z,O1z,M5z,O5z,h,bind,U2z,hz]
end
section
variable{cx:Cxt}{n:Nat}{sc scope:Scope}{U:Rho}{a b c e:Expr}{es:List Expr}{p q:Pos}{x y z d:D}{ds:List D}{nm:Str}{F m:Nat}{r:List Stmt}{fl:Fl}
theorem Qo{body o f:List Stmt}{hs:List ExceptHandler}{t:Str×Str×Str}{fl1:Fl}(ht:rQ hs o f=some t)(h:blk cx F m sc body U=some fl1)(k:iJ cx F (m+1) sc r fl1=some fl):blk cx F (m+1) sc (.Try body hs o f p::r) U=some fl:=by
 obtain⟨t1,t2,t3⟩:=t;refine gSt ?_ k;have h':gK (λU s=>st cx F m sc U s) body U=some fl1:=h;simp only[st,ht,h']
theorem Qm{body o f:List Stmt}{hs:List ExceptHandler}{t e1 kn c':Str}{U':Rho}(ht:rQ hs o f=some (t,e1,kn))(h1:gK (λU s=>st cx F m sc U s) body U=none)(h2:fQ (λU s=>st cx F m sc U s) (λU s=>stx {cx with rs:=false} F m sc U s) body U=some (c',U'))
  (hc:(jB cx sc t&&t==cx.top&&cx.exs.contains c'&&e1 !=kn&&au e1&&sc.names.lookup e1==some .local&&sc.names.lookup kn==some .local&&(U.map (·.1)).contains e1&&(U.map (·.1)).contains kn&&au t)=true)
  (k:blk cx F (m+1) sc r (cU (cU U' kn (.sh (.exc c'))) e1 .no)=some fl):blk cx F (m+1) sc (.Try body hs o f p::r) U=some fl:=by
 refine gSt (fl1:=.nxt _) ?_ k;simp only[st,ht,h1,h2,P5z hc]
end
section
variable{cx:Cxt}{n:Nat}{sc scope:Scope}{U:Rho}{a b c e:Expr}{p q:Pos}
theorem K9{us:List D}{i:Nat}(h1:ev cx n sc U a=some (.tup us))(h2:ev cx n sc U b=some (.int i))(hi:i<us.length):ev cx (n+1) sc U (.Subscript a (.Slice none (some b) none q) p)=some (.tup (us.take i)):=by
 have e1:jy us.length us.length (some (i:Int))=i:=by unfold jy;simp only;rw[Q5z (by omega)];omega
 rw[xSl h1 dB (iW h2)]
 .unfold nM
  rw[e1];show some (D.tup ((us.drop 0).take (i-0)))=_;rw[C4z,Nat.sub_zero]
 .rw[e1]
  have:(i==us.length)=false:=by rw[F1z];omega
  rw[this,B4z]
theorem uf{us:List D}{i:Nat}(h1:ev cx n sc U a=some (.tup us))(h2:ev cx n sc U b=some (.int i))(h0:0<i)(hi:i<=us.length):ev cx (n+1) sc U (.Subscript a (.Slice (some b) none none q) p)=some (.tup (us.drop i)):=by
 have e1:jy us.length 0 (some (i:Int))=i:=by unfold jy;simp only;rw[Q5z (by omega)];omega
 rw[xSl h1 (iW h2) dB]
 .unfold nM
  rw[e1];show some (D.tup ((us.drop i).take (us.length-i)))=_;rw[N0z (by rw[J2z];omega)]
 .rw[e1]
  have:(i==0)=false:=by rw[F1z];omega
  rw[this,X3z]
end
theorem gF{x:D}:∀{l:List D},x∈l->dep x<=deps l
 |y::l,h=>by
  simp only[deps];rcases L4z.mp h with rfl|h
  .omega
  .have:=gF h;omega
theorem Gg{us vs:List D}(h:us.length+vs.length<=100000):binop .Add (.tup us) (.tup vs)=some (.tup (us++vs)):=by
 show(if szl (us.length+vs.length)=true then _ else _)=_;rw[P5z (eE h)]
theorem wM{us vs:List D}{b:Nat}(h1:deps us<=b)(h2:deps vs<=b):deps (us++vs)<=b:=by
 induction us with
 |nil=>exact h2
 |cons x r ih =>
  simp only[deps] at h1;simp only[Z2z,deps];have:=ih (by omega);omega
theorem zY{us:List D}{b i:Nat}(h:deps us<=b):deps (us.take i)<=b:=dh λd hd=>R4z (gF (Y0z hd)) h
theorem zZ{us:List D}{b i:Nat}(h:deps us<=b):deps (us.drop i)<=b:=dh λd hd=>R4z (gF (X0z hd)) h
theorem bG{f:D->Option (Option D)}{g:D->D}:∀{l:List D},(∀x∈l,f x=some (some (g x)))->aP f l=some (l.map g)
 |[],_=>rfl
 |x::l,h=>by
  simp only[aP,h x J1z,bind,U2z,bG (l:=l) λy hy=>h y (S0z _ hy),L3z,G4z]
theorem qb{l:List D}{t:D->Bool}:blt "all" [.lst (l.map λx=>.bl (t x))]=some (.bl (l.all t)):=by
 have key:∀l:List D,oJ (l.map λx=>.bl (t x))=some (l.map t):=by
  intro l
  induction l with
  |nil=>rfl
  |cons a r ih=>simp only[G4z,oJ,ih];rfl
 show(oJ (l.map λx=>.bl (t x))).bind (λbs=>some (D.bl (bs.all id)))=_;rw[key,U2z,List.all_map];rfl
theorem jh{f:D->Rho->Option Fl}{ok:D->Bool}{P:Rho->Prop}{r:D}:∀{l:List D}{U:Rho},P U->(∀x∈l,∀U,P U->(ok x=true->∃U',P U'/\f x U=some (.nxt U'))/\(ok x=false->f x U=some (.ret r))) ->
  (l.all ok=true->∃U',P U'/\bF f l U=some (.nxt U'))/\(l.all ok=false->bF f l U=some (.ret r))
 |[],U,hP,_=>⟨λ_=>⟨U,hP,rfl⟩,λh=>absurd h (by simp)⟩
 |x::l,U,hP,h=>by
  obtain⟨h1,h2⟩:=h x J1z U hP
  cases ho:ok x with
  |true =>
   obtain⟨U',hP',e⟩:=h1 ho;obtain⟨i1,i2⟩:=jh (l:=l) hP' λy hy=>h y (S0z _ hy);simp only[K4z,ho,M4z];refine⟨λq=>?_,λq=>?_⟩
   .obtain⟨U2,h3,h4⟩:=i1 q
    exact⟨U2,h3,by simp only[bF,e];exact h4⟩
   .simp only[bF,e];exact i2 q
  |false =>
   simp only[K4z,ho,X3z];refine⟨λq=>absurd q (by decide),λ_=>?_⟩;simp only[bF,h2 ho];rfl
theorem nD{f:D->Rho->Option Fl}{R:List D->Rho}{whole:List D}(h:∀pre x post,pre++x::post=whole->f x (R pre)=some (.nxt (R (pre++[x])))):∀{l pre:List D},pre++l=whole->bF f l (R pre)=some (.nxt (R whole))
 |[],pre,e=>by rw[G3z] at e;rw[e];rfl
 |x::l,pre,e=>by
  simp only[bF,h pre x l e];exact nD h (l:=l) (pre:=pre++[x]) (by rw[G2z];exact e)
def Ei:List D->Sl
 |[]=>.no
 |x::r=>.sh (r.getLastD x)
theorem sS:∀(l:List D)(x:D),Ei (l++[x])=.sh x
 |[],x=>rfl
 |y::l,x=>by
  show Sl.sh ((l++[x]).getLastD y)=_;simp
theorem KJ{x:D}(h:dep x<1000):isExc x=false:=by cases x<;>first|rfl|exact absurd h (by simp[dep])
def nOw:Sl->Bool
 |.ow _=>false
 |.oo _=>false
 |_=>true
def dI(U:Rho):Bool:=U.all λp=>nOw p.2
theorem dF{F:Nat}{e:Expr}{U:Rho}(h:dI U=true):frz F e U=U:=by
 unfold frz
 conv=>rhs;rw[<- A5z U]
 apply List.map_congr_left;intro p hp;have:=A3z.mp h p hp;obtain⟨x,s⟩:=p
 cases s<;>first|rfl|simp[nOw] at this
theorem nW{U:Rho}{x:Str}(h:dI U=true):pF U x=true:=by
 unfold pF;rw[A3z];intro p hp;have:=A3z.mp h p hp;obtain⟨y,s⟩:=p
 cases s<;>first|(simp[nOw] at this;done)|simp[KY]
section
variable{cx:Cxt}{sc:Scope}{U:Rho}{c e:Expr}{p:Pos}{d:D}{nm:Str}{F m:Nat}{r:List Stmt}{fl:Fl}
theorem Uz{px:Pos}(hc:dI U=true)(ho:(ownIn sc nm&&(U.map (·.1)).contains nm)=true)(h:ev cx F sc U e=some d)(k:blk cx F (m+1) sc r (cU U nm (kY e d))=some fl)(hoo:(ooE cx sc e&&yJ U nm)=false:=by rfl)(hle:Gw cx sc e=false:=by rfl)(hrd:rdA e=false:=by rfl):blk cx F (m+1) sc (.Assign [.Name nm px] e p::r) U=some fl:=by
 refine fD ho (by rw[dF hc];exact h) ?_ (by rw[dF hc];exact hoo) (by rw[dF hc,nW hc];simp) hle hrd
 rw[dF hc];exact k
theorem m7(h:bf e=false):ooE cx sc e=false:=by
 cases e<;>first|rfl|exact absurd h (by simp[bf])
theorem mO(h:bf e=false):kY e d=.sh d:=by
 unfold kY;split
 .rw[h];rfl
 .rfl
theorem zu{px:Pos}{U':Rho}(hf:frz F e U=U')(ho:(ownIn sc nm&&(U.map (·.1)).contains nm)=true)(hfr:bf e=false)(h:ev cx F sc U' e=some d)(k:blk cx F (m+1) sc r (cU U' nm (.sh d))=some fl)(hle:Gw cx sc e=false:=by rfl)(hrd:rdA e=false:=by rfl):blk cx F (m+1) sc (.Assign [.Name nm px] e p::r) U=some fl:=by
 refine fD ho (by rw[hf];exact h) ?_ (by rw[m7 hfr];rfl) (by rw[hfr];rfl) hle hrd
 rw[hf,mO hfr];exact k
theorem zx{y:Str}{s:Sl}{U:Rho}:frz F e ((y,s)::U)=(match s with|.ow ds=>if dW F y e then(y,.sh (.lst ds)) else(y,.ow ds)|.oo dss=>if dW F y e then(y,.sh (.lst (dss.map .lst))) else(y,.oo dss)|s=>(y,s))::frz F e U:=by
 cases s<;>rfl
theorem zy{y:Str}{s:Sl}{U:Rho}(h:nOw s=true):frz F e ((y,s)::U)=(y,s)::frz F e U:=by
 cases s<;>first|rfl|simp[nOw] at h
theorem Es{y:Str}{ds:List D}{U:Rho}(h:dW F y e=true):frz F e ((y,.ow ds)::U)=(y,.sh (.lst ds))::frz F e U:=by
 show(if dW F y e=true then _ else _)::_=_;rw[P5z h];rfl
theorem gH{px:Pos}(hc:dI U=true)(ho:(ownIn sc nm&&(U.map (·.1)).contains nm)=true)(hfr:bf e=false)(h:ev cx F sc U e=some d)(k:blk cx F (m+1) sc r (cU U nm (.sh d))=some fl)(hle:Gw cx sc e=false:=by rfl)(hrd:rdA e=false:=by rfl):blk cx F (m+1) sc (.Assign [.Name nm px] e p::r) U=some fl:=Uz hc ho h (by rw[mO hfr];exact k) (by rw[m7 hfr];rfl) hle hrd
theorem Gy{A B:List Stmt}{fl1:Fl}(hc:dI U=true)(h:ev cx F sc U c=some (.bl true))(k:blk cx F m sc A U=some fl1)(k2:iJ cx F (m+1) sc r fl1=some fl):blk cx F (m+1) sc (.If c A B p::r) U=some fl:=jW (by rw[dF hc];exact h) k k2
theorem UG{A B:List Stmt}{fl1:Fl}(hc:dI U=true)(h:ev cx F sc U c=some (.bl false))(k:blk cx F m sc B U=some fl1)(k2:iJ cx F (m+1) sc r fl1=some fl):blk cx F (m+1) sc (.If c A B p::r) U=some fl:=Sd (by rw[dF hc];exact h) k k2
theorem w6{A:List Stmt}(hc:dI U=true)(h:ev cx F sc U c=some (.bl false))(k:blk cx F (m+1) sc r U=some fl):blk cx F (m+1) sc (.If c A [] p::r) U=some fl:=UG hc h fP k
theorem Ae(hc:dI U=true)(h:ev cx F sc U e=some d):blk cx F (m+1) sc (.Return (some e) p::r) U=some (.ret d):=cZ (by rw[dF hc];exact h)
theorem Sw{tg iter:Expr}{body:List Stmt}{l:List D}{fl1:Fl}(hc:dI U=true)(hI:evI cx (cN tg) (ev cx F sc U) sc iter=some l)(hgo:bF (fF cx F m sc tg body) l U=some fl1)(k2:iJ cx F (m+1) sc r fl1=some fl):blk cx F (m+1) sc (.For tg iter body [] p::r) U=some fl:=sX (by rw[dF hc];exact hI) (by rw[dF hc];exact hgo) k2
end
theorem Lf{cx:Cxt}{n:Nat}{sc:Scope}{U:Rho}{a b c:Expr}{p:Pos}{cn:Str}(h1:ev cx n sc U c=some (.bl true))(h:evx cx n sc U a=some cn/\ev cx n sc U a=none):evx cx (n+1) sc U (.IfExp c a b p)=some cn/\ev cx (n+1) sc U (.IfExp c a b p)=none:=by
 constructor
 .simp only[evx,h1,U2z,asB,h.1]
 .simp only[ev,h1,bind,U2z,asB,O5z,h.2]
theorem Lg{cx:Cxt}{n:Nat}{sc:Scope}{U:Rho}{a b c:Expr}{p:Pos}{cn:Str}(h1:ev cx n sc U c=some (.bl false))(h:evx cx n sc U b=some cn/\ev cx n sc U b=none):evx cx (n+1) sc U (.IfExp c a b p)=some cn/\ev cx (n+1) sc U (.IfExp c a b p)=none:=by
 constructor
 .simp only[evx,h1,U2z,asB,h.1]
 .simp only[ev,h1,bind,U2z,asB,O1z,M5z,h.2]
theorem K6{cx:Cxt}{F m:Nat}{sc:Scope}{U:Rho}{e:Expr}{p:Pos}{r:List Stmt}{cn:Str}(hx:rH e=true)(h:evx cx F sc (frz F e U) e=some cn/\ev cx F sc (frz F e U) e=none):Bt cx F (m+1) sc (.Expr e p::r) U cn:=K5 hx h.2 h.1
def RXs(cx:Cxt)(F m:Nat)(sc:Scope)(s:Stmt)(U:Rho)(c:Str)(U':Rho):Prop:=st cx F m sc U s=none/\st {cx with rs:=false} F m sc U s=none/\stx {cx with rs:=false} F m sc U s=some (c,U')
theorem HD{cx:Cxt}{F m:Nat}{sc:Scope}{U:Rho}{e:Expr}{p px:Pos}{nm c:Str}(hc:dI U=true)(hfr:bf e=false)(h:ev cx F sc U e=none)(h2:evx {cx with rs:=false} F sc U e=some c/\ev {cx with rs:=false} F sc U e=none):RXs cx F (m+1) sc (.Assign [.Name nm px] e p) U c U:=by
 refine⟨?_,?_,?_⟩
 .simp only[st,dF hc,h,S3z,B3z,ite_self]
 .simp only[st,dF hc,h2.2,S3z,B3z,ite_self]
 .simp only[stx,dF hc,hfr,O1z,M5z,h2.1,L3z]
theorem Qn{cx:Cxt}{F m:Nat}{sc:Scope}{U U':Rho}{p:Pos}{s:Stmt}{r o f:List Stmt}{hs:List ExceptHandler}{t e1 kn c':Str}{fl:Fl}(ht:rQ hs o f=some (t,e1,kn))(h:RXs cx F m sc s U c' U')
  (hc:(jB cx sc t&&t==cx.top&&cx.exs.contains c'&&e1 !=kn&&au e1&&sc.names.lookup e1==some .local&&sc.names.lookup kn==some .local&&(U.map (·.1)).contains e1&&(U.map (·.1)).contains kn&&au t)=true)
  (k:blk cx F (m+1) sc r (cU (cU U' kn (.sh (.exc c'))) e1 .no)=some fl):blk cx F (m+1) sc (.Try [s] hs o f p::r) U=some fl:=by
 obtain⟨k1,k2,k3⟩:=h;refine Qm ht ?_ ?_ hc k
 .simp only[gK,k1,bind,B3z]
 .simp only[fQ,k1,k3]
theorem KD{d:D}(h:dep d<=50)(hk:eG d d=true):cmpop .NotEq d d=some (.bl false):=by
 rw[oNe h h hk,wG d (by omega)];rfl
theorem Uw{cx:Cxt}{sc:Scope}{U U':Rho}{p:Pos}{F m:Nat}{r A:List Stmt}{c:Expr}{fl:Fl}(hf:frz F c U=U')(h:ev cx F sc U' c=some (.bl false))(k:blk cx F (m+1) sc r U=some fl):blk cx F (m+1) sc (.If c A [] p::r) U=some fl:=nC (hf▸h) k
def upd(f:Nat->Nat->Int)(a b:Nat)(v:Int):Nat->Nat->Int:=λi j=>if i=a then(if j=b then v else f i j) else f i j
theorem Gx{F:Nat}{e:Expr}:frz F e []=[]:=rfl
theorem cH{F:Nat}{e:Expr}{y:Str}{s:Sl}{U U':Rho}(h:nOw s=true)(q:frz F e U=U'):frz F e ((y,s)::U)=(y,s)::U':=by rw[zy h,q]
theorem Lb{cx:Cxt}{F m:Nat}{sc:Scope}{U:Rho}{e:Expr}{p px:Pos}{nm:Str}{r:List Stmt}{cn:Str}(hfr:bf e=false)(h:evx cx F sc (frz F e U) e=some cn/\ev cx F sc (frz F e U) e=none):Bt cx F (m+1) sc (.Assign [.Name nm px] e p::r) U cn:=by
 refine lY (U1:=frz F e U) ?_ ?_
 .simp only[st,h.2,hfr,X3z,O1z,M5z,S3z,B3z,ite_self]
 .simp only[stx,hfr,O1z,M5z,h.1,L3z]
section
variable{cx:Cxt}{sc:Scope}{U U' U2:Rho}{e:Expr}{p:Pos}{d:D}{nm:Str}{F m:Nat}{r:List Stmt}{fl:Fl}{ds:List D}
theorem bx{y:Str}{s:Sl}(h:nOw s=true)(r:dI U=true):dI ((y,s)::U)=true:=by
 unfold dI at r ⊢;rw[K4z,h,r];rfl
theorem JG{tg iter:Expr}{body:List Stmt}{l:List D}(hf:frz F iter U=U')(hI:evI cx (cN tg) (ev cx F sc U') sc iter=some l)(hgo:bF (fF cx F m sc tg body) l U'=some (.nxt U2))(k2:blk cx F (m+1) sc r U2=some fl):blk cx F (m+1) sc (.For tg iter body [] p::r) U=some fl:=by
 subst hf;exact sX hI hgo k2
theorem JD{px:Pos}(hf:frz F e U=U')(ho:(ownIn sc nm&&(U.map (·.1)).contains nm)=true)(h:ev cx F sc U' e=some d)(k:blk cx F (m+1) sc r (cU U' nm (kY e d))=some fl)(hoo:(ooE cx sc e&&yJ U' nm)=false:=by rfl)(hno:(bf e && !pF U' nm)=false:=by rfl)(hle:Gw cx sc e=false:=by rfl)(hrd:rdA e=false:=by rfl):blk cx F (m+1) sc (.Assign [.Name nm px] e p::r) U=some fl:=by
 subst hf;exact fD ho h k hoo hno hle hrd
theorem JH{px ap cp:Pos}{M:Str}(hf:frz F e U=U')(hx:U'.lookup nm=some (.ow ds))(ho:(ownIn sc nm&&au nm&&ap.endLine==cp.line)=true)(hM:(M=="append")=true)(hz:szl (ds.length+1)=true)(h:ev cx F sc U' e=some d)(k:blk cx F (m+1) sc r (cU U' nm (.ow (ds++[d])))=some fl) :
  blk cx F (m+1) sc (.Expr (.Call (.Attribute (.Name nm px) M ap) [e] [] cp) p::r) U=some fl:=by
 subst hf;exact Sh hx ho hM hz h k
theorem K1{y:Str}(h:dW F y e=false)(q:frz F e U=U'):frz F e ((y,.ow ds)::U)=(y,.ow ds)::U':=by
 rw[zx,q];simp only[h,O1z,M5z]
theorem KZ{y:Str}(h:dW F y e=true)(q:frz F e U=U'):frz F e ((y,.ow ds)::U)=(y,.sh (.lst ds))::U':=by rw[Es h,q]
end
theorem MK{s:Sl}(h:nOw s=true):KY s=false:=by cases s<;>first|rfl|simp[nOw] at h
theorem Ul{x:Str}:pF [] x=true:=rfl
theorem DY{x y:Str}{s:Sl}{U:Rho}(h:KY s=false)(q:pF U x=true):pF ((y,s)::U) x=true:=by
 unfold pF at q ⊢;rw[K4z,q,h];simp
theorem v8{f:D->Rho->Option Fl}{h:Nat->D}{P:Nat->Rho->Prop}{N:Nat}(hs:∀i U,i<N->P i U->∃U',P (i+1) U'/\f (h i) U=some (.nxt U')){U:Rho}(h0:P 0 U):∃U',P N U'/\bF f (Ls N h) U=some (.nxt U'):=by
 have key:∀(n a:Nat)(U:Rho),a+n<=N->P a U->∃U',P (a+n) U'/\bF f ((List.range' a n).map h) U=some (.nxt U'):=by
  intro n
  induction n with
  |zero=>intro a U _ hp;exact⟨U,hp,rfl⟩
  |succ n ih =>
   intro a U ha hp;obtain⟨U1,h1,h2⟩:=hs a U (by omega) hp;obtain⟨U2,h3,h4⟩:=ih (a+1) U1 (by omega) h1;refine⟨U2,by rw[show a+(n+1)=a+1+n by omega];exact h3,?_⟩;rw[R2z,G4z];simp only[bF,h2];exact h4
 obtain⟨U',h1,h2⟩:=key N 0 U (by omega) h0;rw[Nat.zero_add] at h1;refine⟨U',h1,?_⟩;unfold Ls;rw[List.range_eq_range'];exact h2
end DE
namespace M80
open PySem L2 DE
def top(i:Nat):Stmt:=PySem.Challenge.pw_minortables_k80_whole_texts.main.body.getD i (.Pass ⟨0,0,0,0⟩)
def aB(t:Stmt):Fd:=⟨(dj t).args.map (·.arg),(dj t).args.map (·.arg)++(((aU t).names.filter λp=>(p.2==.local||p.2==.cell) && !((dj t).args.map (·.arg)).contains p.1).map (·.1)),aU t,bJ t⟩
def cs:List (Str×D):=[("MOST_LINES",.int 4),("MOST_NUMBER",.int 99)]
noncomputable def bl:List (Str×String):=[("len","len"),("all","all"),("tuple","tuple"),("dict","dict"),("abs","abs"),("int","int"),("bool","bool"),("str","str"),("isinstance","isinstance"),("range","range"),("enumerate","enumerate"),("reversed","reversed"),("ValueError","ValueError")]
def df:List (Str×Fd):=[(("is_whole":Str),aB (top 10)),(("is_whole_within":Str),aB (top 11)),(("is_short_tuple":Str),aB (top 12)),(("has_lines":Str),aB (top 13)),(("numbers_of":Str),aB (top 14)),(("has_table_form":Str),aB (top 15)),(("need_table":Str),aB (top 16)),(("is_small_row":Str),aB (top 19)),(("is_table":Str),aB (top 20)),(("number_text":Str),aB (top 22)),(("row_text":Str),aB (top 23)),(("table_text":Str),aB (top 24)),(("written_numbers":Str),aB (top 25)),(("read_row":Str),aB (top 26)),(("read_table":Str),aB (top 27)),(("_law_cell":Str),aB (top 29)),(("_law_pick":Str),aB (top 30)),(("_law_places":Str),aB (top 38)),(("_law_put":Str),aB (top 39)),(("_law_spoilt_thing":Str),aB (top 40)),(("_law_is_table":Str),aB (top 41)),(("_law_spoilt":Str),aB (top 42)),(("_law_word":Str),aB (top 43)),(("_law_do":Str),aB (top 44)),(("_law_text":Str),aB (top 45)),(("_law_read":Str),aB (top 46)),(("law":Str),aB (top 47))]
noncomputable def xs:List Str:=["NoTable","NoFit","NoPlace","NoStep","NoSteps","NoText"]
def T:Pg:=⟨cs,bl,df,xs,"MinorError"⟩
def BnO(nm:Str)(t:Stmt):Prop:=∀(kV doc pm:Value)(an:Option Addr)(cdv ct:Value)(us:List Value),us.length=(aB t).ps.length->bindArgs (W.fnOf nm nm (dj t) (bJ t) (aU t) .none kV doc pm an cdv ct) ⟨us,[]⟩=pure ((aB t).ps.zip us)
def fsB(fd:Fd):Bool:=decide (fd.sc.kind=.function) && !fd.sc.isCoroutine && !fd.sc.isGenerator&&decide fd.N.Nodup&&decide (fd.N.take fd.ps.length=fd.ps)&&fd.ps.all (λx=>decide (fd.sc.names.lookup x=some .local)||decide (fd.sc.names.lookup x=some .cell))&&fd.sc.names.all λy=>decide (y.2≠.free)
theorem JL{fd:Fd}(h:fsB fd=true):FnScope fd.N fd.ps fd.sc:=by
 unfold fsB at h;simp only[L2z,B2z,Y1z,A3z,O3z] at h;obtain⟨⟨⟨⟨⟨⟨h1,h2⟩,h3⟩,h4⟩,h5⟩,h6⟩,h7⟩:=h;exact⟨h1,h2,h3,h4,h5,h6,h7⟩
theorem bw{K:Zf}{h:Heap}{mg:Str->Option Value}{x nm:Str}{t:Stmt}(X:K.In h)(G:h.Ns mainGlobals mg)(f:Addr)(dc pm cd:Value)(hb:BnO nm t)(a:W.nsIn K mainGlobals x=some (some (.ref f)))
  (l:K.lookup f=some ⟨.type "function",none,.func (W.fnOf nm nm (dj t) (bJ t) (aU t) .none .none dc pm none cd .none),#[]⟩) (c:(W.codeIn K cd nm&&W.keepIn K (.ref f)&&fsB (aB t) && !(x==("__debug__":Str)))=true):FunAt K mg x (aB t):=by
 simp only[L2z,Y1z] at c;obtain⟨⟨⟨c,k⟩,hs⟩,hd⟩:=c;exact⟨⟨nm,t,f,_,N4z X G a,v7 l c k,(v7 l c k).binds hb,rfl,rfl⟩,JL hs,hd⟩
theorem len0{us:List Value}(h:us.length=0):us=[]:=List.length_eq_zero_iff.mp h
theorem len1{us:List Value}(h:us.length=1):∃a,us=[a]:=List.length_eq_one_iff.mp h
theorem len2{us:List Value}(h:us.length=2):∃a b,us=[a,b]:=by cases us with|nil=>cases h|cons a r=>obtain⟨b,z⟩:=len1 (us:=r) (Nat.succ.inj h);exact⟨a,b,congrArg (List.cons a) z⟩
theorem Jm{us:List Value}(h:us.length=3):∃a b c,us=[a,b,c]:=by cases us with|nil=>cases h|cons a r=>obtain⟨b,c,z⟩:=len2 (us:=r) (Nat.succ.inj h);exact⟨a,b,c,congrArg (List.cons a) z⟩
theorem b10:BnO "is_whole" (top 10):=λ_ _ _ _ _ _ _ h=>by obtain⟨_,rfl⟩:=len1 h;rfl
theorem b11:BnO "is_whole_within" (top 11):=λ_ _ _ _ _ _ _ h=>by obtain⟨_,_,_,rfl⟩:=Jm h;rfl
theorem b12:BnO "is_short_tuple" (top 12):=λ_ _ _ _ _ _ _ h=>by obtain⟨_,rfl⟩:=len1 h;rfl
theorem b13:BnO "has_lines" (top 13):=λ_ _ _ _ _ _ _ h=>by obtain⟨_,rfl⟩:=len1 h;rfl
theorem b14:BnO "numbers_of" (top 14):=λ_ _ _ _ _ _ _ h=>by obtain⟨_,rfl⟩:=len1 h;rfl
theorem b15:BnO "has_table_form" (top 15):=λ_ _ _ _ _ _ _ h=>by obtain⟨_,rfl⟩:=len1 h;rfl
theorem b16:BnO "need_table" (top 16):=λ_ _ _ _ _ _ _ h=>by obtain⟨_,rfl⟩:=len1 h;rfl
theorem b19:BnO "is_small_row" (top 19):=λ_ _ _ _ _ _ _ h=>by obtain⟨_,rfl⟩:=len1 h;rfl
theorem b20:BnO "is_table" (top 20):=λ_ _ _ _ _ _ _ h=>by obtain⟨_,rfl⟩:=len1 h;rfl
theorem b22:BnO "number_text" (top 22):=λ_ _ _ _ _ _ _ h=>by obtain⟨_,rfl⟩:=len1 h;rfl
theorem b23:BnO "row_text" (top 23):=λ_ _ _ _ _ _ _ h=>by obtain⟨_,rfl⟩:=len1 h;rfl
theorem b24:BnO "table_text" (top 24):=λ_ _ _ _ _ _ _ h=>by obtain⟨_,rfl⟩:=len1 h;rfl
theorem b25:BnO "written_numbers" (top 25):=λ_ _ _ _ _ _ _ h=>by obtain⟨rfl⟩:=len0 h;rfl
theorem b26:BnO "read_row" (top 26):=λ_ _ _ _ _ _ _ h=>by obtain⟨_,rfl⟩:=len1 h;rfl
theorem b27:BnO "read_table" (top 27):=λ_ _ _ _ _ _ _ h=>by obtain⟨_,rfl⟩:=len1 h;rfl
theorem b29:BnO "_law_cell" (top 29):=λ_ _ _ _ _ _ _ h=>by obtain⟨_,_,rfl⟩:=len2 h;rfl
theorem b30:BnO "_law_pick" (top 30):=λ_ _ _ _ _ _ _ h=>by obtain⟨_,_,_,rfl⟩:=Jm h;rfl
theorem b38:BnO "_law_places" (top 38):=λ_ _ _ _ _ _ _ h=>by obtain⟨_,rfl⟩:=len1 h;rfl
theorem b39:BnO "_law_put" (top 39):=λ_ _ _ _ _ _ _ h=>by obtain⟨_,_,_,rfl⟩:=Jm h;rfl
theorem b40:BnO "_law_spoilt_thing" (top 40):=λ_ _ _ _ _ _ _ h=>by obtain⟨_,_,_,rfl⟩:=Jm h;rfl
theorem b41:BnO "_law_is_table" (top 41):=λ_ _ _ _ _ _ _ h=>by obtain⟨_,_,rfl⟩:=len2 h;rfl
theorem b42:BnO "_law_spoilt" (top 42):=λ_ _ _ _ _ _ _ h=>by obtain⟨_,_,_,rfl⟩:=Jm h;rfl
theorem b43:BnO "_law_word" (top 43):=λ_ _ _ _ _ _ _ h=>by obtain⟨_,rfl⟩:=len1 h;rfl
theorem b44:BnO "_law_do" (top 44):=λ_ _ _ _ _ _ _ h=>by obtain⟨_,_,rfl⟩:=len2 h;rfl
theorem b45:BnO "_law_text" (top 45):=λ_ _ _ _ _ _ _ h=>by obtain⟨_,rfl⟩:=len1 h;rfl
theorem b46:BnO "_law_read" (top 46):=λ_ _ _ _ _ _ _ h=>by obtain⟨_,rfl⟩:=len1 h;rfl
theorem b47:BnO "law" (top 47):=λ_ _ _ _ _ _ _ h=>by obtain⟨_,rfl⟩:=len1 h;rfl
theorem in_of{α:Type}{Q:Str->α->Prop}:∀{l:List (Str×α)},(∀p∈l,Q p.1 p.2)->∀f fd,l.lookup f=some fd->Q f fd
 |(y,e)::r,hp,f,fd,h=>by
  rw[M2z] at h
  cases hb:f==y with
  |true =>
   rw[hb] at h
   have e1:f=y:=by simpa using hb
   cases h;subst e1;exact hp _ J1z
  |false =>
   rw[hb] at h;exact in_of (λp hm=>hp p (S0z _ hm)) f fd h
theorem aC{α:Type}{Q:α->Prop}{a:α}{l:List α}(h:Q a)(t:∀p∈l,Q p):∀p∈a::l,Q p:=List.forall_mem_cons.mpr ⟨h,t⟩
theorem aN{α:Type}{Q:α->Prop}:∀p∈([]:List α),Q p:=List.forall_mem_nil _
theorem cA{K:Zf}{h:Heap}{mg:Str->Option Value}{x:Str}{i:Int}(X:K.In h)(G:h.Ns mainGlobals mg)(tk:Tok)(e:W.nsIn K mainGlobals x=some (some (.int i tk))):∃v u,(∀H,Rep K H (D.int i) v)/\mg x=some u/\RelV v u:=⟨.int i,_,λ_=>by simp[Rep],N4z X G e,⟨_,rfl⟩⟩
theorem bA{K:Zf}{h:Heap}{mg:Str->Option Value}{x:Str}{b:String}(X:K.In h)(G:h.Ns mainGlobals mg)(e:W.nsIn K mainGlobals x=some none)(q:x=Str.ofString b):mg x=none/\x=Str.ofString b:=⟨W.mg_none_of X G e,q⟩
theorem Qe:T.defs.lookup ("law":Str)=some (aB (top 47)):=by rfl'
theorem fin{l:W.OpenLaw}{w:World}{K:Zf}{h:Heap}{mg:Str->Option Value}{fa:Addr}(hlaw:∀ns:List Int,ns.length<=63->aK T 60 40 "law" [.lst (ns.map D.int)]=some (.bl true))(TX:Text w K mg T)(X:K.In h)(G:h.Ns mainGlobals mg)(hfa:mg "law"=some (.ref fa))(f:Addr)(dc pm cd:Value)(a:W.nsIn K mainGlobals "law"=some (some (.ref f)))
  (lk:K.lookup f=some ⟨.type "function",none,.func (W.fnOf "law" "law" (dj (top 47)) (bJ (top 47)) (aU (top 47)) .none .none dc pm none cd .none),#[]⟩) (c:W.codeIn K cd "law"=true) (kp:W.keepIn K (.ref f)=true) :
  ∃fd:FuncData,(∀(s:Shared)(v:Value),BindsTo s fd ⟨[v],[]⟩ [("_law_script",v)])/\∀base:Heap,K.In base->base.Ns mainGlobals mg->FnOk l.prog w K mg base CX0 40 fa fd ["_law_script"] (qC K):=by
 have e:=hfa.symm.trans (N4z X G a);cases e;refine⟨_,λs v=>.of_eq (b47 .none dc pm none cd .none [v] rfl),λbase _ _=>?_⟩;exact Jo (fd:=aB (top 47)) (t:=top 47) (f:="law") TX Qe (v7 lk c kp) rfl rfl (JL (by decide +kernel)) rfl hlaw
theorem walk{l:W.OpenLaw}{q:Program}{loose:List Str}{XP:(Str->Option Value)->Heap->Prop}{YP:World->Heap->Prop}{d:DefRec}{K:Params->Zf}(hn:l.most=some 63)(hdf:d.params.defaults=[])
  (hY:∀(w:World)(h:Heap),YP w h->(K w.params).In h)
  (F:∀(w:World)(mg:Str->Option Value)(fa:Addr)(h:Heap), (K w.params).In h->h.Ns mainGlobals mg->mg d.name=some (.ref fa) ->
   ∃fd:FuncData,(∀(s:Shared)(u:Value),BindsTo s fd ⟨[u],[]⟩ [("_law_script",u)])/\∀base:Heap,(K w.params).In base->base.Ns mainGlobals mg->FnOk l.prog w (K w.params) mg base CX0 40 fa fd ["_law_script"] (qC (K w.params))) :
  W.WalkO q loose XP YP l.row.toRowW d [] (λf vs=>PySem.call f vs) :=
 L2.BK (n:=63) (k:=40) (x:="_law_script") (CX:=λ_=>CX0) (sp:=λw=>qC (K w.params)) hn (by decide) hdf ⟨rfl,by decide,by decide⟩ hY F (λ_ _ a ns hl _ hS=>⟨a,ns,rfl,hS,hl,λ_=>rfl⟩) λ_ _ _ _ _ z=>z
end M80
local macro_rules | `(tactic| walk_at "xs") => `(tactic| first | exact DE.Qx | exact DE.bLenL | exact DE.bSum | rfl | assumption | omega)
local macro_rules | `(tactic| walk_at "xm") => `(tactic| first | exact DE.bV | (refine' DE.aq ?hA ?hB; (case hA=>walk_at "xv"); (case hB=>walk_at "xm")))
local macro_rules | `(tactic| walk_at "xi") => `(tactic| first
 |(refine' DE.wSqT ?hA ?hB; (case hA=>rfl); (case hB=>walk_at "xv"))
 |(refine' DE.wSq ?hA ?hB ?hC; (case hA=>rfl); (case hB=>walk_at "xv"); (case hC=>rfl))
 |(refine' DE.G3 ?hA ?hB ?hC; (case hA=>rfl); (case hB=>walk_at "xv"); (case hC=>omega))
 |(refine' DE.wR2 ?hA ?hB ?hC ?hD; (case hA=>rfl); (case hB=>walk_at "xv"); (case hC=>walk_at "xv"); (case hD=>walk_at "xs"))
 |(refine' DE.wZpL ?hA ?hB ?hC; (case hA=>rfl); (case hB=>walk_at "xv"); (case hC=>walk_at "xv"))
 | (refine' DE.QD ?hA ?hB; (case hA=>rfl); (case hB=>walk_at "xv")))
local macro_rules | `(tactic| walk_at "xl") => `(tactic| (refine' DE.d7 ?hA ?hB ?hC (DE.nR ?hD); (case hA=>rfl); (case hB=>walk_at "xi"); (case hC=>(exact DE.Hh (by omega))); (case hD=>(intro i hi; refine' DE.fJ ?hE ?hF; (case hE=>rfl); (case hF=>walk_at "xv")))))
local macro_rules | `(tactic| walk_at "xv") => `(tactic| first
 |exact DE.xName rfl
 |exact DE.jF rfl
 |(refine' DE.cI ?hA ?hB ?hC; (case hA=>walk_at "xv"); (case hB=>walk_at "xv"); (case hC=>walk_at "xs"))
 |(refine' DE.dO ?hA ?hB ?hC; (case hA=>walk_at "xv"); (case hB=>walk_at "xv"); (case hC=>walk_at "xs"))
 |(refine' DE.xIx0 ?hA ?hB ?hC ?hD ?hE; (case hA=>walk_at "xv"); (case hB=>walk_at "xv"); (case hC=>omega); (case hD=>rfl); (case hE=>rfl))
 |(refine' DE.Le ?hA ?hB ?hC ?hD ?hE; (case hA=>walk_at "xv"); (case hB=>walk_at "xv"); (case hC=>omega); (case hD=>rfl); (case hE=>rfl))
 |(refine' DE.xIxLl ?hA ?hB ?hC ?hD ?hE; (case hA=>walk_at "xv"); (case hB=>walk_at "xv"); (case hC=>omega); (case hD=>rfl); (case hE=>rfl))
 |(refine' DE.jE ?hA ?hB ?hC ?hD ?hE ?hF ?hG; (case hA=>rfl); (case hB=>rfl); (case hC=>rfl); (case hD=>walk_at "xv"); (case hE=>rfl); (case hF=>rfl); (case hG=>rfl))
 |(refine' DE.dw ?hA ?hB ?hC ?hD ?hE; (case hA=>rfl); (case hB=>rfl); (case hC=>rfl); (case hD=>walk_at "xm"); (case hE=>walk_at "xs"))
 |(refine' DE.aQ ?hA ?hB ?hC; (case hA=>rfl); (case hB=>walk_at "xm"); (case hC=>walk_at "xc"))
 |(refine' DE.K8 ?hA ?hB; (case hA=>walk_at "xm"); (case hB=>rfl))
 |(refine' DE.QC ?hA ?hB; (case hA=>walk_at "xm"); (case hB=>rfl))
 |walk_at "xl"
 |(refine' DE.Ld ?hA; (case hA=>walk_at "xv"))
 | (refine' DE.Gp ?hA; (case hA=>walk_at "xv")))
local macro_rules|`(tactic|nofun)=>`(tactic|walk_at "xv")
namespace M80
open PySem DE
def whole:D->Bool
 |.int _=>true
 |_=>false
theorem is_whole(k:Nat){d:D}(h:dep d<1000):aK T 60 (k+1) "is_whole" [d]=some (.bl (whole d)):=by
 cases d with
 |exc c=>exact absurd h (by simp[dep])
 |dic _ _=>exact absurd h (by simp[dep])
 |obj _=>exact absurd h (by simp[dep])
 |_=>rfl'
def within(l m:Int):D->Bool
 |.int i=>decide (l<=i)&&decide (i<=m)
 |_=>false
theorem vY(k:Nat){d:D}{l m:Int}(h:dep d<1000):aK T 60 (k+2) "is_whole_within" [d,.int l,.int m]=some (.bl (within l m d)):=by
 cases hw:whole d with
 |false =>
  have e:within l m d=false:=by cases d<;>first|rfl|simp[whole] at hw
  rw[e];refine d9 (fd:=aB (top 11)) rfl rfl (cZ (bH (rK ?_)));refine' aQ ?L80a_1a ?L80a_1b ?L80a_1c;(case L80a_1a=>rfl);(case L80a_1b=>walk_at "xm");(case L80a_1c=>exact hw▸is_whole k h)
 |true =>
  cases d<;>simp[whole] at hw
  rename_i i;refine d9 (fd:=aB (top 11)) rfl rfl (cZ (bH (mF ?_ (jx ?_))))
  .refine' aQ ?L80a_2a ?L80a_2b ?L80a_2c;(case L80a_2a=>rfl);(case L80a_2b=>walk_at "xm");(case L80a_2c=>exact is_whole k (by simp[dep]))
  .by_cases h1:l<=i
   .have e:within l m (.int i)=decide (i<=m):=by simp[within,h1]
    rw[e];exact oN (by nofun) (by nofun) (oLe h1) (by nofun) QW
   .have e:within l m (.int i)=false:=by simp[within,h1]
    rw[e];exact ug (by nofun) (by nofun) (Gv h1)
def aM:D->Bool
 |.tup us=>decide (1<=us.length)&&decide (us.length<=4)
 |_=>false
theorem gP{us:List D}:blt "len" [.tup us]=some (.int (us.length:Int)):=rfl
theorem fZ(k:Nat){d:D}(h:dep d<1000):aK T 60 (k+1) "is_short_tuple" [d]=some (.bl (aM d)):=by
 cases ht:jV "tuple" d with
 |false =>
  have e:aM d=false:=by cases d<;>first|rfl|simp[jV] at ht
  rw[e];exact d9 (fd:=aB (top 12)) rfl rfl (cZ (bH (rK (jE rfl rfl rfl (by nofun) ht rfl (KJ h)))))
 |true =>
  cases d<;>simp[jV] at ht
  rename_i us;refine d9 (fd:=aB (top 12)) rfl rfl (cZ (bH (mF (jE rfl rfl rfl (by nofun) rfl) (jx ?_))))
  by_cases h1:1<=us.length
  .have e:aM (.tup us)=decide ((us.length:Int)<=4):=by
    simp only[aM,h1,decide_true,M4z];exact decide_eq_decide.mpr (by omega)
   rw[e];refine oN (by nofun) (y:=.int (us.length:Int)) ?_ (oLe (by omega)) (by nofun) QW;refine' dw ?L80a_3a ?L80a_3b ?L80a_3c ?L80a_3d ?L80a_3e;(case L80a_3a=>rfl);(case L80a_3b=>rfl);(case L80a_3c=>rfl);(case L80a_3d=>walk_at "xm");(case L80a_3e=>exact gP)
  .have e:aM (.tup us)=false:=by simp only[aM];rw[C3z h1];rfl
   rw[e];refine ug (by nofun) (y:=.int (us.length:Int)) ?_ (Gv (by omega));refine' dw ?L80a_4a ?L80a_4b ?L80a_4c ?L80a_4d ?L80a_4e;(case L80a_4a=>rfl);(case L80a_4b=>rfl);(case L80a_4c=>rfl);(case L80a_4d=>walk_at "xm");(case L80a_4e=>exact gP)
theorem at0{z:D}{zs:List D}:atD (z::zs) 0=some z:=eZ (j:=0) rfl
def tX:D->Nat
 |.tup us=>us.length
 |_=>0
def lens(us:List D):Bool:=us.all λr=>tX r==tX (us.headD .non)
def bI:D->Bool
 |.tup us=>aM (.tup us)&&us.all aM&&lens us
 |_=>false
theorem bO{d:D}(h:aM d=true):∃us,d=.tup us/\1<=us.length/\us.length<=4:=by
 cases d<;>simp[aM] at h
 rename_i us;exact⟨us,rfl,by omega,by omega⟩
theorem gD{us:List D}(h:dep (.tup us)<1000):∀x∈us,dep x<1000:=λx hx=>by
 have:=gF hx;simp only[dep] at h;omega
theorem has_lines(k:Nat){d:D}(h:dep d<1000):aK T 60 (k+2) "has_lines" [d]=some (.bl (bI d)):=by
 cases hs:aM d with
 |false =>
  have e:bI d=false:=by cases d<;>first|rfl|(simp only[bI,hs];rfl)
  rw[e];refine d9 (fd:=aB (top 13)) rfl rfl (jW (fl1:=.ret (.bl false)) (bH (xX (iI ?_))) (cZ (by nofun)) rfl);refine' aQ ?L80a_5a ?L80a_5b ?L80a_5c;(case L80a_5a=>rfl);(case L80a_5b=>walk_at "xm");(case L80a_5c=>exact hs▸fZ k h)
 |true =>
  obtain⟨us,rfl,g1,g4⟩:=bO hs;have hd:=gD h
  cases ha:us.all aM with
  |false =>
   have e:bI (.tup us)=false:=by simp only[bI,ha,B4z,X3z]
   rw[e];refine d9 (fd:=aB (top 13)) rfl rfl (jW (fl1:=.ret (.bl false)) (bH (kj (fC ?_) (jx (iI ?_)))) (cZ (by nofun)) rfl)
   .refine' aQ ?L80a_6a ?L80a_6b ?L80a_6c;(case L80a_6a=>rfl);(case L80a_6b=>walk_at "xm");(case L80a_6c=>exact hs▸fZ k h)
   .refine dw rfl rfl rfl (aq (d7 (l:=us) rfl (wSq rfl (by nofun) rfl) (eE (by omega)) (bG (g:=λx=>.bl (aM x)) λx hx=>fJ rfl ?_)) bV) (by rw[qb,ha])
    refine' aQ ?L80a_7a ?L80a_7b ?L80a_7c;(case L80a_7a=>rfl);(case L80a_7b=>walk_at "xm");(case L80a_7c=>exact fZ k (hd x hx))
  |true =>
   have e:bI (.tup us)=lens us:=by simp only[bI,ha,hs,M4z]
   rw[e];refine d9 (fd:=aB (top 13)) rfl rfl (nC (bH (kj (fC ?_) (jx (fC ?_)))) (cZ ?_))
   .refine' aQ ?L80a_8a ?L80a_8b ?L80a_8c;(case L80a_8a=>rfl);(case L80a_8b=>walk_at "xm");(case L80a_8c=>exact hs▸fZ k h)
   .refine dw rfl rfl rfl (aq (d7 (l:=us) rfl (wSq rfl (by nofun) rfl) (eE (by omega)) (bG (g:=λx=>.bl (aM x)) λx hx=>fJ rfl ?_)) bV) (by rw[qb,ha])
    refine' aQ ?L80a_9a ?L80a_9b ?L80a_9c;(case L80a_9a=>rfl);(case L80a_9b=>walk_at "xm");(case L80a_9c=>exact fZ k (hd x hx))
   .refine dw rfl rfl rfl (aq (d7 (l:=us) rfl (wSq rfl (by nofun) rfl) (eE (by omega)) (bG (g:=λx=>.bl (tX x==tX (us.headD .non))) λx hx=>fJ rfl ?_)) bV) qb
    obtain⟨ys,rfl,y1,y4⟩:=bO (A3z.mp ha x hx)
    cases us with
    |nil=>simp at g1
    |cons z zs =>
     obtain⟨ws,rfl,w1,w4⟩:=bO (A3z.mp ha z (by simp));refine dO (x:=.int (ys.length:Int)) (y:=.int (ws.length:Int)) ?_ ?_ ?_
     .refine' dw ?L80a_10a ?L80a_10b ?L80a_10c ?L80a_10d ?L80a_10e;(case L80a_10a=>rfl);(case L80a_10b=>rfl);(case L80a_10c=>rfl);(case L80a_10d=>walk_at "xm");(case L80a_10e=>exact gP)
     .refine dw rfl rfl rfl (aq ?_ bV) gP
      exact xIx (by nofun) (by nofun) rfl at0
     .show some (D.bl ((ys.length:Int)==(ws.length:Int)))=_
      congr 2;show _=(ys.length==ws.length);rw[T3z];simp only[H5z];omega
def bB:D->List D
 |.tup us=>us
 |_=>[]
def nums:List D->List D
 |[]=>[]
 |r::rs=>bB r++nums rs
theorem m9:∀(a:List D)(r:D),nums (a++[r])=nums a++bB r
 |[],r=>by simp[nums]
 |x::a,r=>by simp[nums,m9 a r]
theorem iu:∀{us:List D},us.all aM=true->(nums us).length<=4*us.length
 |[],_=>by simp[nums]
 |r::us,h=>by
  rw[K4z,L2z] at h;obtain⟨ys,rfl,y1,y4⟩:=bO h.1;have:=iu h.2;simp only[nums,bB,N1z,Q2z];omega
theorem numbers_of(k:Nat){us:List D}(h4:us.length<=4)(ha:us.all aM=true):aK T 60 (k+1) "numbers_of" [.tup us]=some (.lst (nums us)):=by
 have hl:=iu ha
 have key:∀(s:Sl),(s=.no\/∃d,s=.sh d)->blk (cxN T 60 k) 60 60 (aB (top 14)).sc ((aB (top 14)).body.drop 2) [("table",.sh (.tup us)),("told",.ow (nums us)),("row",s)]=some (.ret (.lst (nums us))):=by
  intro s hs;rcases hs with rfl|⟨d,rfl⟩
  .exact cZ (by nofun)
  .exact cZ (by nofun)
 refine d9 (fd:=aB (top 14)) rfl rfl (fD rfl (d:=.lst []) (by nofun) (sX (l:=us) (fl1:=.nxt [("table",.sh (.tup us)),("told",.ow (nums us)),("row",Ei us)]) (wSq rfl (by nofun) rfl) ?_ (key _ ?_)))
 .refine nD (R:=λpre=>[("table",.sh (.tup us)),("told",.ow (nums pre)),("row",Ei pre)]) (whole:=us) (λpre x post e=>?_) (pre:=[]) rfl
  have hx:aM x=true:=A3z.mp ha x (by rw[<- e];simp)
  have hp:pre.all aM=true:=by rw[<- e,List.all_append,L2z] at ha;exact ha.1
  have hl2:=iu hp
  have hl3:pre.length<=us.length:=by rw[<- e];simp
  obtain⟨ys,rfl,y1,y4⟩:=bO hx;rw[m9,sS,show bB (.tup ys)=ys from rfl];exact dg rfl (Qp rfl rfl rfl rfl (eE (by omega)) (by nofun) fP)
 .cases us with
  |nil=>exact .inl rfl
  |cons x r=>exact .inr ⟨_,rfl⟩
def cP(d:D):Bool:=bI d&&(nums (bB d)).all whole
theorem iZ{d:D}(h:bI d=true):∃us,d=.tup us/\1<=us.length/\us.length<=4/\us.all aM=true/\lens us=true:=by
 cases d<;>simp only[bI,L2z] at h<;>try (cases h;done)
 rename_i us;obtain⟨us',e,h1,h4⟩:=bO h.1.1;cases e;exact⟨us,rfl,h1,h4,h.1.2,h.2⟩
theorem lC{x:D}:∀{us:List D},x∈nums us->∃r∈us,x∈bB r
 |r::us,h=>by
  simp only[nums,List.mem_append] at h;rcases h with h|h
  .exact⟨r,by simp,h⟩
  .obtain⟨r',h1,h2⟩:=lC h
   exact⟨r',S0z _ h1,h2⟩
theorem yL{us:List D}(h:dep (.tup us)<1000):∀x∈nums us,dep x<1000:=λx hx=>by
 obtain⟨r,h1,h2⟩:=lC hx;have h3:=gD h r h1
 cases r<;>simp only[bB] at h2<;>try (cases h2;done)
 exact gD h3 x h2
theorem iw(k:Nat){d:D}(h:dep d<1000):aK T 60 (k+3) "has_table_form" [d]=some (.bl (cP d)):=by
 cases hl:bI d with
 |false =>
  have e:cP d=false:=by simp only[cP,hl,X3z]
  rw[e];refine d9 (fd:=aB (top 15)) rfl rfl (cZ (bH (rK ?_)));refine' aQ ?L80a_11a ?L80a_11b ?L80a_11c;(case L80a_11a=>rfl);(case L80a_11b=>walk_at "xm");(case L80a_11c=>exact hl▸has_lines k h)
 |true =>
  obtain⟨us,rfl,g1,g4,ga,_⟩:=iZ hl
  have e:cP (.tup us)=(nums us).all whole:=by simp only[cP,hl,M4z,bB]
  have hn:=iu ga;have hd:=yL h;rw[e];refine d9 (fd:=aB (top 15)) rfl rfl (cZ (bH (mF ?_ (jx ?_))))
  .refine' aQ ?L80a_12a ?L80a_12b ?L80a_12c;(case L80a_12a=>rfl);(case L80a_12b=>walk_at "xm");(case L80a_12c=>exact hl▸has_lines k h)
  .refine dw rfl rfl rfl (aq (d7 (l:=nums us) rfl (wSq rfl (aQ rfl (by walk_at "xm") (numbers_of (k+1) g4 ga)) rfl) (eE (by omega)) (bG (g:=λx=>.bl (whole x)) λx hx=>fJ rfl ?_)) bV) qb
   refine' aQ ?L80a_13a ?L80a_13b ?L80a_13c;(case L80a_13a=>rfl);(case L80a_13b=>walk_at "xm");(case L80a_13c=>exact is_whole (k+1) (hd x hx))
theorem DW(k:Nat){d:D}(h:dep d<1000)(hf:cP d=true):aK T 60 (k+4) "need_table" [d]=some .non:=by
 refine K4 (fd:=aB (top 16)) rfl rfl (nC (fC ?_) fP);refine' aQ ?L80a_14a ?L80a_14b ?L80a_14c;(case L80a_14a=>rfl);(case L80a_14b=>walk_at "xm");(case L80a_14c=>exact hf▸iw k h)
theorem DX(k:Nat){d:D}(h:dep d<1000)(hf:cP d=false):jD T 60 (k+4) "need_table" [d]=some "NoTable"/\aK T 60 (k+4) "need_table" [d]=none:=by
 refine xW (fd:=aB (top 16)) rfl rfl (gQ (iI ?_) rfl);refine' aQ ?L80a_15a ?L80a_15b ?L80a_15c;(case L80a_15a=>rfl);(case L80a_15b=>walk_at "xm");(case L80a_15c=>exact hf▸iw k h)
theorem gW{m:Nat}{h:Nat->D}:aM (.tup (Ls m h))=(decide (1<=m)&&decide (m<=4)):=by simp only[aM,cR]
theorem jM{m:Nat}{h:Nat->D}{x:D}(hx:x∈Ls m h):∃i,i<m/\x=h i:=by
 unfold Ls at hx;obtain⟨i,hi,rfl⟩:=List.mem_map.mp hx;exact⟨i,List.mem_range.mp hi,rfl⟩
theorem Eo{m:Nat}{h:Nat->D}(hm:1<=m):(Ls m h).headD .non=h 0:=by
 obtain⟨m',rfl⟩:∃m',m=m'+1:=⟨m-1,by omega⟩;unfold Ls;rw[List.range_succ_eq_map];rfl
theorem zA{m n:Nat}{f:Nat->Nat->Int}(h1:1<=m)(h2:1<=n):cP (tbl m n f)=(decide (m<5)&&decide (n<5)):=by
 by_cases hm:m<=4
 .by_cases hn:n<=4
  .have e1:bI (tbl m n f)=true:=by
    show(aM (tbl m n f)&&(Ls m λi=>row n (f i)).all aM&&lens (Ls m λi=>row n (f i)))=true;rw[gW,Y3z h1,Y3z hm]
    have a1:(Ls m λi=>row n (f i)).all aM=true:=by
     rw[A3z];intro x hx;obtain⟨i,_,rfl⟩:=jM hx;rw[gW,Y3z h2,Y3z hn];rfl
    have a2:lens (Ls m λi=>row n (f i))=true:=by
     unfold lens;rw[A3z,Eo h1];intro x hx;obtain⟨i,_,rfl⟩:=jM hx;simp[tX,cR]
    rw[a1,a2];rfl
   have e2:(nums (bB (tbl m n f))).all whole=true:=by
    rw[A3z];intro x hx;obtain⟨r,hr,hx⟩:=lC hx;obtain⟨i,_,rfl⟩:=jM (show r∈Ls m λi=>row n (f i) from hr);obtain⟨j,_,rfl⟩:=jM (show x∈Ls n λj=>D.int (f i j) from hx);rfl
   unfold cP;rw[e1,e2,Y3z (show m<5 by omega),Y3z (show n<5 by omega)]
  .have e1:bI (tbl m n f)=false:=by
    show(aM (tbl m n f)&&(Ls m λi=>row n (f i)).all aM&&lens (Ls m λi=>row n (f i)))=false
    have a1:(Ls m λi=>row n (f i)).all aM=false:=by
     rw[H2z];refine⟨row n (f 0),?_,?_⟩
     .unfold Ls;exact List.mem_map.mpr ⟨0,List.mem_range.mpr (by omega),rfl⟩
     .rw[gW,C3z hn];simp
    rw[a1,B4z,X3z]
   unfold cP;rw[e1,C3z (show ¬ n<5 by omega),B4z,X3z]
 .have e1:bI (tbl m n f)=false:=by
   show(aM (tbl m n f)&&(Ls m λi=>row n (f i)).all aM&&lens (Ls m λi=>row n (f i)))=false;rw[gW,C3z hm,B4z,X3z,X3z]
  unfold cP;rw[e1,C3z (show ¬ m<5 by omega),X3z,X3z]
noncomputable def tL(ns:List Int)(k:Nat):Int:=if k<ns.length then ns.getD k 0 else if ns=[] then 0 else ns.getD (k%ns.length) 0*31+k
def cW(ns:List Int)(k:Nat):Int:=(tL ns k+6151*((k:Int)+1))*40692%2147483399
def pickN(ns:List Int)(k many:Nat):Nat:=((cW ns k*cW ns k+cW ns k / 31)%2147483629%(many:Int)).toNat
theorem dU{ns:List Int}{k many:Nat}(h:0<many):pickN ns k many<many:=by
 unfold pickN;have h1:=U3z ((cW ns k*cW ns k+cW ns k / 31)%2147483629) (show(many:Int)≠0 by omega);have h2:=Int.emod_lt_of_pos ((cW ns k*cW ns k+cW ns k / 31)%2147483629) (show(0:Int)<many by omega);omega
abbrev scr(ns:List Int):D:=.lst (ns.map D.int)
theorem KR{l:List D}:eG (.lst l) (.lst [])=true:=by cases l<;>simp[eG,jq]
theorem Qf{l:List D}:eG (.tup l) (.tup [])=true:=by cases l<;>simp[eG,jq]
theorem kZ{ns:List Int}:blt "len" [scr ns]=some (.int (ns.length:Int)):=by
 show some (D.int ((ns.map D.int).length:Int))=_;rw[I3z]
theorem Ak{ns:List Int}{k:Nat}(h:k<ns.length):atD (ns.map D.int) (k:Int)=some (.int (ns.getD k 0)):=by
 refine eZ ?_;rw[List.getElem?_map,List.getElem?_eq_getElem h,List.getD_eq_getElem?_getD,List.getElem?_eq_getElem h];rfl
theorem Cr{ns:List Int}:dep (scr ns)<=50:=by
 simp only[dep]
 have:=dh (b:=0) (l:=ns.map D.int) λd hd=>by
  obtain⟨i,_,rfl⟩:=List.mem_map.mp hd;simp[dep]
 omega
theorem cell(k:Nat)(ns:List Int)(kk:Nat):aK T 60 (k+1) "_law_cell" [scr ns,.int kk]=some (.int (tL ns kk)):=by
 unfold tL
 by_cases h:kk<ns.length
 .rw[P5z h]
  refine d9 (fd:=aB (top 29)) rfl rfl (jW (fl1:=.ret (.int (ns.getD kk 0))) (dO (by nofun) (dw rfl rfl rfl (by walk_at "xm") kZ) (oLt (by omega))) (cZ ?_) rfl);exact xIx (by nofun) (by nofun) rfl (Ak h)
 .rw[Q5z h]
  by_cases e:ns=[]
  .subst e
   rw[P5z rfl];refine d9 (fd:=aB (top 29)) rfl rfl (nC (dO (by nofun) (dw rfl rfl rfl (by walk_at "xm") (kZ (ns:=[]))) (QV (by simp))) (jW (fl1:=.ret (.int 0)) (dO (by nofun) (by nofun) rfl) (cZ (by nofun)) rfl))
  .rw[Q5z e]
   have hl:0<ns.length:=List.length_pos_iff.mpr e;refine d9 (fd:=aB (top 29)) rfl rfl (nC (dO (by nofun) (dw rfl rfl rfl (by walk_at "xm") kZ) (QV (by omega))) (nC (dO (y:=.lst []) (by nofun) (by nofun) ?_) (cZ ?_)))
   .rw[oEq Cr (by simp[dep,deps]) KR]
    cases ns with
    |nil=>exact absurd rfl e
    |cons a r=>rfl
   .refine cI (cI (x:=.int (ns.getD (kk%ns.length) 0)) (xIx (i:=((kk%ns.length:Nat):Int)) (by nofun) ?_ rfl (Ak (Nat.mod_lt _ hl))) (by nofun) (Kl (.inr (by decide)))) (by nofun) rfl
    refine cI (by nofun) (dw rfl rfl rfl (by walk_at "xm") kZ) ?_;rw[Af (by omega)];rfl
theorem pick(k:Nat)(ns:List Int)(kk:Nat){many:Nat}(h:0<many):aK T 60 (k+2) "_law_pick" [scr ns,.int kk,.int many]=some (.int ((pickN ns kk many:Nat):Int)):=by
 have d0:=U3z ((tL ns kk+6151*((kk:Int)+1))*40692) (show(2147483399:Int)≠0 by decide);have d1:=Int.emod_lt_of_pos ((tL ns kk+6151*((kk:Int)+1))*40692) (show(0:Int)<2147483399 by decide)
 have e:((pickN ns kk many:Nat):Int)=(cW ns kk*cW ns kk+cW ns kk / 31)%2147483629%(many:Int):=by
  unfold pickN;exact Int.toNat_of_nonneg (U3z _ (by omega))
 rw[e];refine d9 (fd:=aB (top 30)) rfl rfl (fD rfl (d:=.int (cW ns kk)) ?_ (cZ ?_))
 .refine cI (cI (cI (x:=.int (tL ns kk)) (y:=.int (6151*((kk:Int)+1))) ?_ ?_ rfl) (by nofun) (Kl (.inr (by decide)))) (by nofun) (Af (by decide))
  .refine' aQ ?L80a_16a ?L80a_16b ?L80a_16c;(case L80a_16a=>rfl);(case L80a_16b=>walk_at "xm");(case L80a_16c=>exact cell _ ns kk)
  .exact cI (by nofun) (cI (by nofun) (by nofun) rfl) (Kl (.inl (by decide)))
 .refine cI (cI (cI (cI (by nofun) (by nofun) (Kl (.inl ?_))) (cI (by nofun) (by nofun) (K3 (by decide) (by decide))) rfl) (by nofun) (Af (by decide))) (by nofun) (Af (by omega))
  unfold small;unfold cW;rw[Y3z (by omega),Y3z (by omega)];rfl
theorem xY{cx:Cxt}{n:Nat}{sc:Scope}{U:Rho}{e:Expr}{d d':D}(h:ev cx n sc U e=some d)(q:d=d'):ev cx n sc U e=some d':=q▸h
def Gu:Nat->Sl
 |0=>.no
 |i+1=>.sh (.int i)
def okE(m:D)(x:D):Bool:=whole x&&(match m with|.non=>true|_=>within (-99) 99 x)
def IsM(m:D):Prop:=m=.non\/m=.int 99
def fM(d m:D)(s1 s2:Sl):Rho:=[("_law_thing",.sh d),("_law_most",.sh m),("_law_row",s1),("_law_one",s2)]
def SlK(s:Sl):Prop:=s=.no\/∃d,s=.sh d
def aD(i j:Nat):Stmt:=(aB (top i)).body.getD j (.Pass ⟨0,0,0,0⟩)
def aF:Stmt->List Stmt
 |.For _ _ b _ _=>b
 |_=>[]
def cu:Stmt->Expr
 |.For t _ _ _ _=>t
 |_=>.Name "" ⟨0,0,0,0⟩
theorem inner(k:Nat){d m:D}(hm:IsM m){s2:Sl}(h2:SlK s2){r x:D}(hx:dep x<1000) :
  (okE m x=true->∃U',(∃s,SlK s/\U'=fM d m (.sh r) s)/\fF (cxN T 60 k) 60 58 (aB (top 41)).sc (cu ((aF (aD 41 3)).getD 0 (.Pass ⟨0,0,0,0⟩))) (aF ((aF (aD 41 3)).getD 0 (.Pass ⟨0,0,0,0⟩))) x (fM d m (.sh r) s2)=some (.nxt U')) /\
  (okE m x=false->fF (cxN T 60 k) 60 58 (aB (top 41)).sc (cu ((aF (aD 41 3)).getD 0 (.Pass ⟨0,0,0,0⟩))) (aF ((aF (aD 41 3)).getD 0 (.Pass ⟨0,0,0,0⟩))) x (fM d m (.sh r) s2)=some (.ret (.bl false))):=by
 cases hw:whole x with
 |false =>
  have e:okE m x=false:=by simp only[okE,hw,X3z]
  refine⟨λq=>absurd (q.symm.trans e) (by decide),λ_=>?_⟩
  cases hb:jV "bool" x with
  |true =>
   cases x<;>simp[jV] at hb
   refine dg rfl (jW (fl1:=.ret (.bl false)) (bH (kj (fC (jE rfl rfl rfl (by nofun) rfl)) (xX (jE rfl rfl rfl (by nofun) rfl)))) (cZ (by nofun)) rfl)
  |false =>
   have hi:jV "int" x=false:=by cases x<;>first|rfl|(simp[whole] at hw;done)|(simp[jV] at hb;done)
   refine dg rfl (jW (fl1:=.ret (.bl false)) (bH (xX (iI (jE rfl rfl rfl (by nofun) hi rfl (KJ hx))))) (cZ (by nofun)) rfl)
 |true =>
  cases x<;>simp[whole] at hw
  rename_i i;rcases hm with rfl|rfl
  .have e:okE .non (.int i)=true:=rfl
   refine⟨λ_=>⟨_,⟨.sh (.int i),.inr ⟨_,rfl⟩,rfl⟩,?_⟩,λq=>absurd (q.symm.trans e) (by decide)⟩;exact dg rfl (nC (bH (kj (fC (jE rfl rfl rfl (by nofun) rfl)) (kj (jE rfl rfl rfl (by nofun) rfl) (jx (bH (rK (dO (by nofun) (by nofun) rfl))))))) fP)
  .have e:okE (.int 99) (.int i)=within (-99) 99 (.int i):=rfl
   have e2:within (-99) 99 (.int i) = !decide ((99:Int)<if i<0 then -i else i):=by
    simp only[within];rw[T3z];simp only[L2z,B2z,Y1z,decide_eq_false_iff_not]
    split<;>omega
   refine⟨λq=>⟨_,⟨.sh (.int i),.inr ⟨_,rfl⟩,rfl⟩,?_⟩,λq=>?_⟩
   .rw[e,e2] at q
    have q':decide ((99:Int)<if i<0 then -i else i)=false:=by simpa using q
    exact dg rfl (nC (bH (kj (fC (jE rfl rfl rfl (by nofun) rfl)) (kj (jE rfl rfl rfl (by nofun) rfl) (jx (bH (mF (dO (by nofun) (by nofun) rfl) (jx (dO (dw rfl rfl rfl (by walk_at "xm") rfl) (by nofun) (q'▸oGt))))))))) fP)
   .rw[e,e2] at q
    have q':decide ((99:Int)<if i<0 then -i else i)=true:=by simpa using q
    exact dg rfl (jW (fl1:=.ret (.bl false)) (bH (kj (fC (jE rfl rfl rfl (by nofun) rfl)) (kj (jE rfl rfl rfl (by nofun) rfl) (jx (bH (mF (dO (by nofun) (by nofun) rfl) (jx (dO (dw rfl rfl rfl (by walk_at "xm") rfl) (by nofun) (q'▸oGt))))))))) (cZ (by nofun)) rfl)
theorem outer(k:Nat){d m:D}(hm:IsM m){s1 s2:Sl}(h1:SlK s1)(h2:SlK s2){x:D}(hx:dep x<1000)(hs:aM x=true) :
  ((bB x).all (okE m)=true->∃U',(∃s s',SlK s/\SlK s'/\U'=fM d m s s')/\fF (cxN T 60 k) 60 59 (aB (top 41)).sc (cu (aD 41 3)) (aF (aD 41 3)) x (fM d m s1 s2)=some (.nxt U')) /\
  ((bB x).all (okE m)=false->fF (cxN T 60 k) 60 59 (aB (top 41)).sc (cu (aD 41 3)) (aF (aD 41 3)) x (fM d m s1 s2)=some (.ret (.bl false))):=by
 obtain⟨ys,rfl,y1,y4⟩:=bO hs
 have go:=jh (f:=fF (cxN T 60 k) 60 58 (aB (top 41)).sc (cu ((aF (aD 41 3)).getD 0 (.Pass ⟨0,0,0,0⟩))) (aF ((aF (aD 41 3)).getD 0 (.Pass ⟨0,0,0,0⟩)))) (ok:=okE m) (r:=.bl false) (P:=λU=>∃s,SlK s/\U=fM d m (.sh (.tup ys)) s) (l:=ys) (U:=fM d m (.sh (.tup ys)) s2) ⟨s2,h2,rfl⟩ λx hx' U hP=>by
  obtain⟨s,hs,rfl⟩:=hP;exact inner k hm hs (gD hx x hx')
 have hF:frz 60 (.Name "_law_row" ⟨0,0,0,0⟩) (fM d m (.sh (.tup ys)) s2)=fM d m (.sh (.tup ys)) s2:=by rcases h2 with rfl|⟨z,rfl⟩<;>rfl
 refine⟨λq=>?_,λq=>?_⟩
 .obtain⟨U',⟨s,hs,rfl⟩,hg⟩:=go.1 q
  refine⟨fM d m (.sh (.tup ys)) s,⟨.sh (.tup ys),s,.inr ⟨_,rfl⟩,hs,rfl⟩,?_⟩;rcases h2 with rfl|⟨z,rfl⟩
  .exact dg rfl (sX (l:=ys) (wSq rfl (by nofun) rfl) hg rfl)
  .exact dg rfl (sX (l:=ys) (wSq rfl (by nofun) rfl) hg rfl)
 .have hg:=go.2 q
  rcases h2 with rfl|⟨z,rfl⟩
  .exact dg rfl (sX (l:=ys) (wSq rfl (by nofun) rfl) hg rfl)
  .exact dg rfl (sX (l:=ys) (wSq rfl (by nofun) rfl) hg rfl)
def jR(m d:D):Bool:=bI d&&(bB d).all λr=>(bB r).all (okE m)
theorem pN{l:List D}:deq (.lst l) (.lst [])=l.isEmpty:=by cases l<;>rfl
theorem wL{us:List D}{b:Nat}{t:D->Bool}(h:deps us<=b):dep (.lst ((us.filter t).map id))<=b+1:=by
 simp only[dep]
 have:=dh (b:=b) (l:=(us.filter t).map id) λd hd=>by
  rw[A5z] at hd;exact R4z (gF (List.mem_filter.mp hd).1) h
 omega
theorem Bd(k:Nat){d m:D}(hm:IsM m)(h:dep d<=40):aK T 60 (k+1) "_law_is_table" [d,m]=some (.bl (jR m d)):=by
 have hmd:dep m<=40:=by rcases hm with rfl|rfl<;>simp[dep]
 cases ht:jV "tuple" d with
 |false =>
  have e:jR m d=false:=by cases d<;>first|rfl|(simp[jV] at ht;done)
  rw[e];exact d9 (fd:=aB (top 41)) rfl rfl (jW (fl1:=.ret (.bl false)) (bH (xX (iI (jE rfl rfl rfl (by nofun) ht rfl (KJ (by omega)))))) (cZ (by nofun)) rfl)
 |true =>
  cases d<;>simp[jV] at ht
  rename_i us
  have hus:deps us<=39:=by simp only[dep] at h;omega
  have hd:∀x∈us,dep x<1000:=λx hx=>by have:=gF hx;omega
  by_cases g1:1<=us.length
  rotate_left
  .have e:jR m (.tup us)=false:=by
    have:aM (.tup us)=false:=by simp only[aM];rw[C3z g1];rfl
    simp only[jR,bI,this,X3z]
   rw[e];exact d9 (fd:=aB (top 41)) rfl rfl (jW (fl1:=.ret (.bl false)) (bH (kj (fC (jE rfl rfl rfl (by nofun) rfl)) (jx (iI (ug (by nofun) (dw rfl rfl rfl (by walk_at "xm") gP) (Gv (by omega))))))) (cZ (by nofun)) rfl)
  by_cases g4:us.length<=4
  rotate_left
  .have e:jR m (.tup us)=false:=by
    have:aM (.tup us)=false:=by simp only[aM];rw[C3z g4,B4z]
    simp only[jR,bI,this,X3z]
   rw[e];exact d9 (fd:=aB (top 41)) rfl rfl (jW (fl1:=.ret (.bl false)) (bH (kj (fC (jE rfl rfl rfl (by nofun) rfl)) (jx (iI (oN (by nofun) (dw rfl rfl rfl (by walk_at "xm") gP) (oLe (by omega)) (by nofun) (Gv (by omega))))))) (cZ (by nofun)) rfl)
  have hs:aM (.tup us)=true:=by simp only[aM];rw[Y3z g1,Y3z g4];rfl
  refine d9 (fd:=aB (top 41)) rfl rfl (nC (bH (kj (fC (jE rfl rfl rfl (by nofun) rfl)) (jx (fC (oN (by nofun) (dw rfl rfl rfl (by walk_at "xm") gP) (oLe (by omega)) (by nofun) (oLe (by omega))))))) ?_)
  have c2:∀b,(us.filter λx => !jV "tuple" x).isEmpty=b->ev (cxN T 60 k) 60 (aB (top 41)).sc (fM (.tup us) m .no .no) (match aD 41 1 with|.If c _ _ _=>c|_=>.Name "" ⟨0,0,0,0⟩)=some (.bl (!b)):=by
   intro b hb;have hne:=wL (t:=λx => !jV "tuple" x) hus;refine dO (x:=.lst ((us.filter λx => !jV "tuple" x).map id)) (y:=.lst []) (d7 (l:=us) rfl (wSq rfl (by nofun) rfl) (eE (by omega)) (jm λx hx=>pY rfl (Gp (jE rfl rfl rfl (by nofun) rfl rfl (KJ (hd x hx)))) (by nofun))) (by nofun) ?_;rw[oNe (by omega) (by simp[dep,deps]) KR,pN,A5z,hb]
  cases ha:us.all (jV "tuple") with
  |false =>
   have e:jR m (.tup us)=false:=by
    have:us.all aM=false:=by
     rw[H2z] at ha ⊢;obtain⟨x,hx,hn⟩:=ha;exact⟨x,hx,λq=>hn (by obtain⟨ys,rfl,_⟩:=bO q;rfl)⟩
    simp only[jR,bI,this,B4z,X3z]
   rw[e];refine jW (fl1:=.ret (.bl false)) (c2 false ?_) (cZ (by nofun)) rfl;rw[H2z] at ha;obtain⟨x,hx,hn⟩:=ha;rw[List.isEmpty_eq_false_iff];exact List.ne_nil_of_mem (List.mem_filter.mpr ⟨hx,by simpa using hn⟩)
  |true =>
   refine nC (c2 true ?_) ?_
   .rw[List.isEmpty_iff,List.filter_eq_nil_iff]
    intro x hx;simpa using A3z.mp ha x hx
   have htup:∀x∈us,∃ys,x=.tup ys:=λx hx=>by
    have:=A3z.mp ha x hx
    cases x<;>simp[jV] at this
    exact⟨_,rfl⟩
   obtain⟨z,zs,hz⟩:∃z zs,us=z::zs:=by
    cases us with
    |nil=>simp at g1
    |cons z zs=>exact⟨z,zs,rfl⟩
   obtain⟨ws,hw⟩:=htup z (by rw[hz];simp)
   have at0':atD us 0=some (.tup ws):=by rw[hz,hw];exact at0
   have hhead:us.headD .non=.tup ws:=by rw[hz,hw];rfl
   by_cases w1:1<=ws.length
   rotate_left
   .have e:jR m (.tup us)=false:=by
     have:us.all aM=false:=by
      rw[H2z];exact⟨z,by rw[hz];simp,by rw[hw];simp only[aM];rw[C3z w1];simp⟩
     simp only[jR,bI,this,B4z,X3z]
    rw[e];exact jW (fl1:=.ret (.bl false)) (bH (xX (iI (ug (by nofun) (dw rfl rfl rfl (aq (xIx (by nofun) (by nofun) rfl at0') bV) gP) (Gv (by omega)))))) (cZ (by nofun)) rfl
   by_cases w4:ws.length<=4
   rotate_left
   .have e:jR m (.tup us)=false:=by
     have:us.all aM=false:=by
      rw[H2z];exact⟨z,by rw[hz];simp,by rw[hw];simp only[aM];rw[C3z w4];simp⟩
     simp only[jR,bI,this,B4z,X3z]
    rw[e];exact jW (fl1:=.ret (.bl false)) (bH (xX (iI (oN (by nofun) (dw rfl rfl rfl (aq (xIx (by nofun) (by nofun) rfl at0') bV) gP) (oLe (by omega)) (by nofun) (Gv (by omega)))))) (cZ (by nofun)) rfl
   have c3:∀b,(us.filter λx => !(tX x==ws.length)).isEmpty=b->ev (cxN T 60 k) 60 (aB (top 41)).sc (fM (.tup us) m .no .no) (match aD 41 2 with|.If c _ _ _=>c|_=>.Name "" ⟨0,0,0,0⟩)=some (.bl (!b)):=by
    intro b hb;have hne:=wL (t:=λx => !(tX x==ws.length)) hus;refine bH (kj (fC (oN (by nofun) (dw rfl rfl rfl (aq (xIx (by nofun) (by nofun) rfl at0') bV) gP) (oLe (by omega)) (by nofun) (oLe (by omega)))) (jx ?_));refine dO (x:=.lst ((us.filter λx => !(tX x==ws.length)).map id)) (y:=.lst []) (d7 (l:=us) rfl (wSq rfl (by nofun) rfl) (eE (by omega)) (jm λx hx=>?_)) (by nofun) ?_
    .obtain⟨ys,rfl⟩:=htup x hx
     refine pY rfl (dO (x:=.int (ys.length:Int)) (y:=.int (ws.length:Int)) (dw rfl rfl rfl (by walk_at "xm") gP) (dw rfl rfl rfl (aq (xIx (by nofun) (by nofun) rfl at0') bV) gP) ?_) (by nofun);rw[oNe (by simp[dep]) (by simp[dep])];congr 2;show(!((ys.length:Int)==(ws.length:Int))) = !(ys.length==ws.length);congr 1;rw[T3z];simp only[H5z];omega
    .rw[oNe (by omega) (by simp[dep,deps]) KR,pN,A5z,hb]
   cases hl:lens us with
   |false =>
    have e:jR m (.tup us)=false:=by simp only[jR,bI,hl,B4z,X3z]
    rw[e];refine jW (fl1:=.ret (.bl false)) (c3 false ?_) (cZ (by nofun)) rfl;unfold lens at hl;rw[hhead,H2z] at hl;obtain⟨x,hx,hn⟩:=hl;rw[List.isEmpty_eq_false_iff];exact List.ne_nil_of_mem (List.mem_filter.mpr ⟨hx,by simpa[tX] using hn⟩)
   |true =>
    have hl':∀x∈us,tX x=ws.length:=λx hx=>by
     unfold lens at hl;rw[hhead] at hl;simpa[tX] using A3z.mp hl x hx
    have hsh:us.all aM=true:=by
     rw[A3z];intro x hx;obtain⟨ys,rfl⟩:=htup x hx;have:=hl' _ hx;simp only[tX] at this;simp only[aM,this];rw[Y3z w1,Y3z w4];rfl
    have e:jR m (.tup us)=us.all λr=>(bB r).all (okE m):=by simp only[jR,bI,hs,hsh,hl,M4z,bB]
    rw[e];refine nC (c3 true ?_) ?_
    .rw[List.isEmpty_iff,List.filter_eq_nil_iff]
     intro x hx;simp[hl' x hx]
    have go:=jh (f:=fF (cxN T 60 k) 60 59 (aB (top 41)).sc (cu (aD 41 3)) (aF (aD 41 3))) (ok:=λr=>(bB r).all (okE m)) (r:=.bl false) (P:=λU=>∃s s',SlK s/\SlK s'/\U=fM (.tup us) m s s') (l:=us) (U:=fM (.tup us) m .no .no) ⟨.no,.no,.inl rfl,.inl rfl,rfl⟩ λx hx U hP=>by
     obtain⟨s,s',q1,q2,rfl⟩:=hP;exact outer k hm q1 q2 (hd x hx) (A3z.mp hsh x hx)
    cases hq:us.all λr=>(bB r).all (okE m) with
    |true =>
     obtain⟨U',⟨s,s',q1,q2,rfl⟩,hg⟩:=go.1 hq;refine sX (l:=us) (wSq rfl (by nofun) rfl) hg ?_
     rcases q1 with rfl|⟨d1,rfl⟩<;>rcases q2 with rfl|⟨d2,rfl⟩<;>exact cZ (by nofun)
    |false=>exact sX (l:=us) (wSq rfl (by nofun) rfl) (go.2 hq) rfl
theorem BJ(k:Nat):aK T 60 (k+1) "_law_word" [.exc "NoTable"]=some (.str "no table"):=by rfl'
theorem lD{t:D->Bool}:∀us:List D,(nums us).all t=us.all λr=>(bB r).all t
 |[]=>rfl
 |r::us=>by simp only[nums,List.all_append,K4z,lD us]
theorem Ed(d:D):jR .non d=cP d:=by
 unfold jR cP;rw[lD];congr 2;funext r;congr 1;funext x;simp[okE]
theorem Bg(k:Nat){d:D}(h:dep d<=40):aK T 60 (k+1) "_law_is_table" [d,.non]=some (.bl (cP d)):=Ed d▸Bd k (.inl rfl) h
theorem sG(k:Nat)(i:Int):aK T 60 (k+1) "_law_places" [.int i]=some (.lst [.tup []]):=by rfl'
def kS:Nat->Sl
 |0=>.no
 |i+1=>.sh (.int i)
def oY(d:D)(l:List D)(s:Sl):Rho:=[("_law_thing",.sh d),("_law_made",.ow l),("_law_k",s)]
theorem HJ(k:Nat)(d:D)(l:List D)(i:Nat):blk (cxN T 60 k) 60 60 (aB (top 38)).sc ((aB (top 38)).body.drop 2) (oY d l (kS i))=some (.ret (.lst l)):=by
 cases i with
 |zero=>exact cZ (by nofun)
 |succ i=>exact cZ (by nofun)
theorem sy(k:Nat){n:Nat}{f:Nat->Int}(hn:n<=5):aK T 60 (k+2) "_law_places" [row n f]=some (.lst (.tup []::Ls n λj=>.tup [.int j])):=by
 refine d9 (fd:=aB (top 38)) rfl rfl (fD rfl (d:=.lst [.tup []]) (by nofun) (jW (fl1:=.nxt (oY (row n f) (.tup []::Ls n λj=>.tup [.int j]) (kS n))) (jE rfl rfl rfl (by nofun) rfl) (sX (l:=Ls n λj=>.int j) (fl1:=.nxt (oY (row n f) (.tup []::Ls n λj=>.tup [.int j]) (kS n))) (G3 rfl (dw rfl rfl rfl (by walk_at "xm") Qx) (by omega)) ?_ rfl) (HJ _ _ _ _)));refine iz (R:=λi=>oY (row n f) (.tup []::Ls i λj=>.tup [.int j]) (kS i)) λi hi=>?_;rw[xK];refine dg rfl (Sg (zs:=[.tup [.int i]]) rfl rfl rfl rfl (eE (by simp[cR];omega)) ?_ rfl);refine d7 (l:=[.tup []]) rfl (wSq rfl (aQ rfl (aq (Le (by nofun) (by nofun) hi rfl rfl) bV) (sG k (f i))) rfl) rfl ?_
 exact bG (g:=λ_=>.tup [.int i]) λx hx=>by
  have e:x=.tup []:=by simpa using hx
  subst e;exact fJ rfl (cI (by nofun) (by nofun) rfl)
def pl2(n:Nat):Nat->List D
 |0=>[]
 |i+1=>pl2 n i++(.tup [.int i]::Ls n λj=>.tup [.int i,.int j])
theorem o9(n:Nat):∀i,(pl2 n i).length=i*(n+1)
 |0=>by simp[pl2]
 |i+1=>by
  simp only[pl2,N1z,Q2z,cR,o9 n i];rw[Nat.add_mul];omega
theorem su(k:Nat){m n:Nat}{f:Nat->Nat->Int}(hm:m<=5)(hn:n<=5):aK T 60 (k+3) "_law_places" [tbl m n f]=some (.lst (.tup []::pl2 n m)):=by
 refine d9 (fd:=aB (top 38)) rfl rfl (fD rfl (d:=.lst [.tup []]) (by nofun) (jW (fl1:=.nxt (oY (tbl m n f) (.tup []::pl2 n m) (kS m))) (jE rfl rfl rfl (by nofun) rfl) (sX (l:=Ls m λj=>.int j) (fl1:=.nxt (oY (tbl m n f) (.tup []::pl2 n m) (kS m))) (G3 rfl (dw rfl rfl rfl (by walk_at "xm") Qx) (by omega)) ?_ rfl) (HJ _ _ _ _)));refine iz (R:=λi=>oY (tbl m n f) (.tup []::pl2 n i) (kS i)) λi hi=>?_;have hlen:=o9 n i;have hb:i*(n+1)<=5*6:=Nat.mul_le_mul (by omega) (by omega);refine dg rfl (Sg (zs:=.tup [.int i]::Ls n λj=>.tup [.int i,.int j]) rfl rfl rfl rfl (eE (by simp only[Q2z,cR];omega)) ?_ rfl);refine d7 (l:=.tup []::Ls n λj=>.tup [.int j]) rfl (wSq rfl (aQ rfl (aq (Le (by nofun) (by nofun) hi rfl rfl) bV) (sy k hn)) rfl) (eE (by simp only[Q2z,cR];omega)) ?_;rw[bG (g:=λx=>.tup (.int i::bB x)) λx hx=>?_]
 .rw[G4z,Kp];rfl
 .have hx':∃ys,x=.tup ys/\ys.length<=1:=by
   rcases L4z.mp hx with rfl|hx
   .exact⟨[],rfl,by simp⟩
   .unfold Ls at hx
    obtain⟨j,_,rfl⟩:=List.mem_map.mp hx;exact⟨_,rfl,by simp⟩
  obtain⟨ys,rfl,hy⟩:=hx';exact fJ rfl (cI (by nofun) (by nofun) (Gg (us:=[.int i]) (by simp;omega)))
set_option genInjectivity true in
inductive Pl(m n:Nat):D->Prop
 |top:Pl m n (.tup [])
 |row {i:Nat}:i<m->Pl m n (.tup [.int i])
 |at {i j:Nat}:i<m->j<n->Pl m n (.tup [.int i,.int j])
theorem u9{m n:Nat}{x:D}:∀i,i<=m->x∈pl2 n i->Pl m n x
 |0,_,h=>by simp[pl2] at h
 |i+1,hi,h=>by
  simp only[pl2,List.mem_append,L4z] at h;rcases h with h|rfl|h
  .exact u9 i (by omega) h
  .exact .row (by omega)
  .unfold Ls at h
   obtain⟨j,hj,rfl⟩:=List.mem_map.mp h;exact .at (by omega) (List.mem_range.mp hj)
theorem o8(k:Nat){d new:D}:aK T 60 (k+1) "_law_put" [d,.tup [],new]=some new:=by
 refine d9 (fd:=aB (top 39)) rfl rfl (jW (fl1:=.ret new) (dO (by nofun) (by nofun) rfl) (cZ (by nofun)) rfl)
theorem uY(k:Nat){us ps:List D}{i:Nat}{new v x:D}(hx:us[i]?=some x)(h5:us.length<=100)(hp:ps.length<=3)(hd:deps ps<=3)(h:aK T 60 k "_law_put" [x,.tup ps,new]=some v):aK T 60 (k+1) "_law_put" [.tup us,.tup (.int i::ps),new]=some (.tup (us.take i++[v]++us.drop (i+1))):=by
 have hi:i<us.length:=(List.getElem?_eq_some_iff.mp hx).1;refine d9 (fd:=aB (top 39)) rfl rfl (nC (dO (x:=.tup (.int i::ps)) (y:=.tup []) (by nofun) (by nofun) ?_) (fD rfl (d:=.int i) (xIx (by nofun) (by nofun) rfl at0) (cZ ?_)))
 .rw[oEq (by simp only[dep,deps];omega) (by simp[dep,deps]) Qf];rfl
 .refine cI (x:=.tup (us.take i++[v])) (y:=.tup (us.drop (i+1))) (cI (x:=.tup (us.take i)) (y:=.tup [v]) (K9 (by nofun) (by nofun) hi) (K8 (aq ?_ bV) rfl) (Gg (by simp;omega))) (uf (by nofun) ?_ (by omega) (by omega)) (Gg (by simp;omega))
  .refine aQ rfl (aq (xIx (by nofun) (by nofun) rfl (eZ hx)) (aq (x:=.tup ps) ?_ (aq (by nofun) bV))) h
   exact uf (us:=.int i::ps) (i:=1) (by nofun) (by nofun) (by omega) (by simp)
  .exact cI (by nofun) (by nofun) rfl
theorem xq{us:List D}:blt "len" [.lst us]=some (.int (us.length:Int)):=rfl
def uK(h:D):List D:=[.int 99,.int (-99),.int 100,.int (-100),.bl true,.non,.str "1",.tup [],.tup [.int 1,.int 2],.tup [.tup [.int 1]],.lst [.int 1,.int 2],.tup [h,h],.int 0,.int (-1)]
theorem yr{h x:D}(hh:dep h<=2)(hx:x∈uK h):dep x<=3:=by
 simp only[uK,L4z,S2z,or_false] at hx
 rcases hx with rfl|rfl|rfl|rfl|rfl|rfl|rfl|rfl|rfl|rfl|rfl|rfl|rfl|rfl<;>simp[dep,deps]<;>omega
def jz(ns:List Int)(a:Nat)(t:D)(L:List D)(x h:D)(s:Sl):Rho:=[("_law_script",.sh (scr ns)),("_law_at",.sh (.int a)),("_law_thing",.sh t),("_law_places_here",.sh (.lst L)),("_law_place",.sh x),("_law_here",.sh h),("_law_k",s),("_law_some_here",.no)]
theorem get_some{l:List D}{i:Nat}(h:i<l.length):∃x,l[i]?=some x/\x∈l:=⟨l[i],List.getElem?_eq_getElem h,T2z h⟩
theorem oW(k:Nat){ns:List Int}{a:Nat}{t x h:D}{L:List D}{s:Sl}(hs:nOw s=true)(hh:dep h<=2)(hput:∀new,dep new<=3->∃v,dep v<=10/\aK T 60 (k+3) "_law_put" [t,x,new]=some v) :
  ∃v,dep v<=10/\blk (cxN T 60 (k+3)) 60 60 (aB (top 40)).sc ((aB (top 40)).body.drop 4) (jz ns a t L x h s)=some (.ret v):=by
 have hp:=dU (ns:=ns) (k:=a+1) (many:=14) (by decide);obtain⟨new,g1,g2⟩:=get_some (l:=uK h) (i:=pickN ns (a+1) 14) hp;obtain⟨v,v1,v2⟩:=hput new (yr hh g2);refine⟨v,v1,?_⟩;have hq:aK T 60 (k+3) "_law_pick" [scr ns,.int ((a+1:Nat):Int),.int ((14:Nat):Int)]=some (.int ((pickN ns (a+1) 14:Nat):Int)):=pick (k+1) ns (a+1) (many:=14) (by decide)
 cases s with
 |ow ds=>simp[nOw] at hs
 |oo ds=>simp[nOw] at hs
 |no=>exact fD rfl (d:=.lst (uK h)) (by nofun) (cZ (aQ rfl (aq (by nofun) (aq (by nofun) (aq (xIx (i:=((pickN ns (a+1) 14:Nat):Int)) (by nofun) (aQ rfl (aq (by nofun) (aq (cI (by nofun) (by nofun) rfl) (aq (by nofun) bV))) hq) rfl (eZ g1)) bV))) v2))
 |sh d=>exact fD rfl (d:=.lst (uK h)) (by nofun) (cZ (aQ rfl (aq (by nofun) (aq (by nofun) (aq (xIx (i:=((pickN ns (a+1) 14:Nat):Int)) (by nofun) (aQ rfl (aq (by nofun) (aq (cI (by nofun) (by nofun) rfl) (aq (by nofun) bV))) hq) rfl (eZ g1)) bV))) v2))
theorem pP{us:List D}{i:Nat}{v:D}{b:Nat}(h1:deps us<=b)(h2:dep v<=b):dep (.tup (us.take i++[v]++us.drop (i+1)))<=b+1:=by
 simp only[dep];have:=wM (wM (us:=us.take i) (vs:=[v]) (zY h1) (by simp only[deps];omega)) (zZ (i:=i+1) h1);omega
theorem Hu(k:Nat)(ns:List Int)(a:Nat){m n:Nat}{f:Nat->Nat->Int}(hm1:1<=m)(hm:m<=5)(hn:n<=5):∃v,dep v<=10/\aK T 60 (k+4) "_law_spoilt_thing" [scr ns,.int a,tbl m n f]=some v:=by
 have hL:(D.tup []::pl2 n m).length=m*(n+1)+1:=by simp only[Q2z,o9]
 have hp:=dU (ns:=ns) (k:=a) (many:=(D.tup []::pl2 n m).length) (by rw[hL];omega)
 obtain⟨x,g1,g2⟩:=get_some hp
 have hpl:Pl m n x:=by
  rcases L4z.mp g2 with rfl|g2
  .exact .top
  .exact u9 m (X4z _) g2
 have dt:dep (tbl m n f)<=2:=wK
 have drs:deps (Ls m λi=>D.tup (Ls n λj=>D.int (f i j)))<=1:=by simp only[dep] at dt;omega
 have drow:∀i,deps (Ls n λj=>D.int (f i j))<=0:=λi=>by have:=pO (n:=n) (f:=f i);simp only[dep] at this;omega
 have head:∀{s:Sl}{h v:D}{ps:List D},x=.tup ps->bF (fF (cxN T 60 (k+3)) 60 59 (aB (top 40)).sc (cu (aD 40 3)) (aF (aD 40 3))) ps (jz ns a (tbl m n f) (.tup []::pl2 n m) (.tup ps) (tbl m n f) .no)=some (.nxt (jz ns a (tbl m n f) (.tup []::pl2 n m) (.tup ps) h s)) ->
   blk (cxN T 60 (k+3)) 60 60 (aB (top 40)).sc ((aB (top 40)).body.drop 4) (jz ns a (tbl m n f) (.tup []::pl2 n m) (.tup ps) h s)=some (.ret v)->aK T 60 (k+4) "_law_spoilt_thing" [scr ns,.int a,tbl m n f]=some v:=by
  intro s h v ps hx hgo hret;rw[hx] at g1;refine d9 (fd:=aB (top 40)) rfl rfl (fD rfl (d:=.lst (.tup []::pl2 n m)) ?_ (fD rfl (d:=.tup ps) ?_ (fD rfl (d:=tbl m n f) (by nofun) (sX (l:=ps) (wSq rfl (by nofun) rfl) hgo hret))))
  .refine' aQ ?L80b_1a ?L80b_1b ?L80b_1c;(case L80b_1a=>rfl);(case L80b_1b=>walk_at "xm");(case L80b_1c=>exact su k hm hn)
  .refine xIx (by nofun) ?_ rfl (eZ g1)
   refine aQ rfl (aq (by nofun) (aq (by nofun) (aq (dw rfl rfl rfl (by walk_at "xm") xq) bV))) (pick (k+1) ns a ?_);rw[hL];omega
 cases hpl with
 |top =>
  obtain⟨v,v1,v2⟩:=oW (ns:=ns) (a:=a) (t:=tbl m n f) (x:=.tup []) (h:=tbl m n f) (L:=.tup []::pl2 n m) (s:=.no) k rfl dt λnew hnew=>⟨new,by omega,o8 _⟩;exact⟨v,v1,head rfl rfl v2⟩
 | @row i hi =>
  obtain⟨v,v1,v2⟩:=oW (ns:=ns) (a:=a) (t:=tbl m n f) (x:=.tup [.int i]) (h:=row n (f i)) (L:=.tup []::pl2 n m) (s:=.sh (.int i)) k rfl (by have:=pO (n:=n) (f:=f i);omega) λnew hnew =>
   ⟨_,R4z (pP (b:=3) (R4z drs (by omega)) hnew) (by omega),uY (k+2) (ps:=[]) (j9 hi) (by rw[cR];omega) (by simp) (by simp[deps]) (o8 _)⟩
  refine⟨v,v1,head rfl ?_ v2⟩
  have:fF (cxN T 60 (k+3)) 60 59 (aB (top 40)).sc (cu (aD 40 3)) (aF (aD 40 3)) (.int i) (jz ns a (tbl m n f) (.tup []::pl2 n m) (.tup [.int i]) (tbl m n f) .no)=some (.nxt (jz ns a (tbl m n f) (.tup []::pl2 n m) (.tup [.int i]) (row n (f i)) (.sh (.int i)))) :=
   dg rfl (fD rfl (d:=row n (f i)) (xIx (by nofun) (by nofun) rfl (rE hi)) rfl)
  show bF _ [D.int i] _=_;simp only[bF,this];rfl
 | @«at» i j hi hj =>
  obtain⟨v,v1,v2⟩:=oW (ns:=ns) (a:=a) (t:=tbl m n f) (x:=.tup [.int i,.int j]) (h:=.int (f i j)) (L:=.tup []::pl2 n m) (s:=.sh (.int j)) k rfl (by simp[dep]) λnew hnew =>
   ⟨_,R4z (pP (b:=4) (R4z drs (by omega)) (pP (b:=3) (R4z (drow i) (by omega)) hnew)) (by omega),uY (k+2) (ps:=[.int j]) (j9 hi) (by rw[cR];omega) (by simp) (by simp[deps,dep]) (uY (k+1) (ps:=[]) (j9 hj) (by rw[cR];omega) (by simp) (by simp[deps]) (o8 _))⟩
  refine⟨v,v1,head rfl ?_ v2⟩
  have e1:fF (cxN T 60 (k+3)) 60 59 (aB (top 40)).sc (cu (aD 40 3)) (aF (aD 40 3)) (.int i) (jz ns a (tbl m n f) (.tup []::pl2 n m) (.tup [.int i,.int j]) (tbl m n f) .no)=some (.nxt (jz ns a (tbl m n f) (.tup []::pl2 n m) (.tup [.int i,.int j]) (row n (f i)) (.sh (.int i)))) :=
   dg rfl (fD rfl (d:=row n (f i)) (xIx (by nofun) (by nofun) rfl (rE hi)) rfl)
  have e2:fF (cxN T 60 (k+3)) 60 59 (aB (top 40)).sc (cu (aD 40 3)) (aF (aD 40 3)) (.int j) (jz ns a (tbl m n f) (.tup []::pl2 n m) (.tup [.int i,.int j]) (row n (f i)) (.sh (.int i)))=some (.nxt (jz ns a (tbl m n f) (.tup []::pl2 n m) (.tup [.int i,.int j]) (.int (f i j)) (.sh (.int j)))) :=
   dg rfl (fD rfl (d:=.int (f i j)) (xIx (by nofun) (by nofun) rfl (rE hj)) rfl)
  show bF _ [D.int i,D.int j] _=_;simp only[bF,e1];show(fF _ _ _ _ _ _ _ _ >>=_)=_;rw[e2];rfl
theorem vd(k:Nat)(ns:List Int)(kk:Nat){many:Nat}(h:0<many){i:Int}(hi:i=(kk:Int)){m:Int}(hm:m=(many:Int)):aK T 60 (k+2) "_law_pick" [scr ns,.int i,.int m]=some (.int ((pickN ns kk many:Nat):Int)):=by
 subst hi hm;exact pick k ns kk h
def cX(d:D):Bool:=cP d&&(bB d).all λr=>(bB r).all (within (-99) 99)
theorem uL(k:Nat){us:List D}(h:dep (.tup us)<1000)(h4:us.length<=4):aK T 60 (k+3) "is_small_row" [.tup us]=some (.bl (us.all (within (-99) 99))):=by
 refine d9 (fd:=aB (top 19)) rfl rfl (cZ (dw rfl rfl rfl (aq (d7 (l:=us) rfl (wSq rfl (by nofun) rfl) (eE (by omega)) (bG (g:=λx=>.bl (within (-99) 99 x)) λx hx=>fJ rfl ?_)) bV) qb));refine' aQ ?L80c_1a ?L80c_1b ?L80c_1c;(case L80c_1a=>rfl);(case L80c_1b=>walk_at "xm");(case L80c_1c=>exact vY k (gD h x hx))
theorem is_table(k:Nat){d:D}(h:dep d<1000):aK T 60 (k+4) "is_table" [d]=some (.bl (cX d)):=by
 cases hl:cP d with
 |false =>
  have e:cX d=false:=by simp only[cX,hl,X3z]
  rw[e];refine d9 (fd:=aB (top 20)) rfl rfl (cZ (bH (rK ?_)));refine' aQ ?L80c_2a ?L80c_2b ?L80c_2c;(case L80c_2a=>rfl);(case L80c_2b=>walk_at "xm");(case L80c_2c=>exact hl▸iw k h)
 |true =>
  have hl2:bI d=true:=by unfold cP at hl;rw[L2z] at hl;exact hl.1
  obtain⟨us,rfl,g1,g4,ga,_⟩:=iZ hl2
  have e:cX (.tup us)=us.all λr=>(bB r).all (within (-99) 99):=by simp only[cX,hl,M4z,bB]
  rw[e];refine d9 (fd:=aB (top 20)) rfl rfl (cZ (bH (mF ?_ (jx ?_))))
  .refine' aQ ?L80c_3a ?L80c_3b ?L80c_3c;(case L80c_3a=>rfl);(case L80c_3b=>walk_at "xm");(case L80c_3c=>exact hl▸iw k h)
  .refine dw rfl rfl rfl (aq (d7 (l:=us) rfl (wSq rfl (by nofun) rfl) (eE (by omega)) (bG (g:=λx=>.bl ((bB x).all (within (-99) 99))) λx hx=>fJ rfl ?_)) bV) qb
   obtain⟨ys,rfl,y1,y4⟩:=bO (A3z.mp ga x hx);refine' aQ ?L80c_4a ?L80c_4b ?L80c_4c;(case L80c_4a=>rfl);(case L80c_4b=>walk_at "xm");(case L80c_4c=>exact uL k (gD h _ hx) y4)
theorem mq{p q:D->Bool}:∀l:List D,(l.all λx=>p x&&q x)=(l.all p&&l.all q)
 |[]=>rfl
 |x::l=>by
  simp only[K4z,mq l]
  cases p x<;>cases q x<;>cases l.all p<;>rfl
theorem Jp(d:D):jR (.int 99) d=cX d:=by
 unfold jR cX cP;rw[lD,Bool.and_assoc];congr 1;rw[<- mq];congr 1;funext r;rw[<- mq];rfl
theorem Qg(k:Nat){d:D}(h:dep d<=40):aK T 60 (k+1) "_law_is_table" [d,.int 99]=some (.bl (cX d)):=Jp d▸Bd k (.inr rfl) h
theorem BW{m n:Nat}{f:Nat->Nat->Int}(h1:1<=m)(h2:1<=n)(hf:∀i j,-99<=f i j/\f i j<=99):cX (tbl m n f)=(decide (m<5)&&decide (n<5)):=by
 have e:((bB (tbl m n f)).all λr=>(bB r).all (within (-99) 99))=true:=by
  rw[A3z];intro r hr;obtain⟨i,_,rfl⟩:=jM (show r∈Ls m λi=>row n (f i) from hr);show(Ls n λj=>D.int (f i j)).all (within (-99) 99)=true;rw[A3z];intro x hx;obtain⟨j,_,rfl⟩:=jM hx;have:=hf i j;simp only[within];rw[Y3z this.1,Y3z this.2];rfl
 unfold cX;rw[zA h1 h2,e,Bool.and_true]
def nT(i:Int):Str:=Str.ofString (toString i)
def num(i:Nat):Int:=(i:Int)-99
theorem vI(k:Nat):((List.range 199).map λi=>aK T 60 (k+2) "number_text" [.int (num i)])=(List.range 199).map λi=>some (.str (nT (num i))):=by rfl'
end M80
namespace M80
open PySem DE PySem.StrLaws
abbrev cl(z:Str):List Nat:=z.cps.toList
abbrev mk(l:List Nat):Str:=⟨l.toArray⟩
theorem ext{x y:Str}(h:cl x=cl y):x=y:=Str.ext' (Array.ext' h)
theorem jY(x y:Str):cl (x++y)=cl x++cl y:=by show(x.cps++y.cps).toList=_;rw[Array.toList_append]
theorem jQ(x:Str):x.length=(cl x).length:=rfl
def J(c:Nat):List (List Nat)->List Nat
 |[]=>[]
 |[a]=>a
 |a::b::r=>a++c::J c (b::r)
theorem Bw(c:Nat)(a:List Nat):∀{r:List (List Nat)},r≠[]->J c (a::r)=a++c::J c r
 |[],h=>absurd rfl h
 |_::_,_=>rfl
theorem xM(c:Nat)(b:List Nat):∀{l:List (List Nat)},l≠[]->J c (l++[b])=J c l++c::b
 |[],h=>absurd rfl h
 |[a],_=>rfl
 |a::d::r,_=>by
  rw[Z2z,Bw c a (by simp),xM c b (by simp),Bw c a (by simp),G2z,Z2z]
theorem vV(c:Nat):∀ws:List Str,cl (Str.join ⟨#[c]⟩ ws)=J c (ws.map cl)
 |[]=>rfl
 |[_]=>rfl
 |x::y::r=>by
  show cl (x++⟨#[c]⟩++Str.join ⟨#[c]⟩ (y::r))=_;rw[jY,jY,vV c (y::r),G2z];rfl
theorem xZ(c:Nat)(ws:List Str):Txt.join ⟨#[c]⟩ ws=mk (J c (ws.map cl)):=ext (by
 show cl (Builtin.Str.glued _ _)=_
 rw[glued_eq_join,vV])
theorem Sv{c:Nat}:∀{a b X Y:List Nat},c∉a->c∉b->a++c::X=b++c::Y->a=b/\X=Y
 |[],[],_,_,_,_,h=>⟨rfl,by simpa using h⟩
 |[],y::b,_,_,_,hb,h=>by
  rw[V3z,Z2z] at h;exact absurd (by rw[(O4z h).1];simp) hb
 |x::a,[],_,_,ha,_,h=>by
  rw[V3z,Z2z] at h;exact absurd (by rw[(O4z h).1];simp) ha
 |x::a,y::b,_,_,ha,hb,h=>by
  rw[Z2z,Z2z] at h;obtain⟨h1,h2⟩:=O4z h;obtain⟨h3,h4⟩:=Sv (λz=>ha (S0z _ z)) (λz=>hb (S0z _ z)) h2;exact⟨by rw[h1,h3],h4⟩
theorem uniq{c:Nat}:∀{as bs:List (List Nat)},as≠[]->bs≠[]->(∀a∈as,c∉a)->(∀b∈bs,c∉b)->J c as=J c bs->as=bs
 |[],_,h,_,_,_,_=>absurd rfl h
 |_,[],_,h,_,_,_=>absurd rfl h
 |[a],[b],_,_,_,_,h=>by rw[show a=b from h]
 |[a],b::d::r,_,_,ha,_,h=>by
  have:c∈a:=by rw[show a=b++c::J c (d::r) from h];simp
  exact absurd this (ha a (by simp))
 |a::d::r,[b],_,_,_,hb,h=>by
  have:c∈b:=by rw[<- show a++c::J c (d::r)=b from h];simp
  exact absurd this (hb b (by simp))
 |a::d::r,b::e::t,_,_,ha,hb,h=>by
  obtain⟨h1,h2⟩:=Sv (ha a (by simp)) (hb b (by simp)) h;rw[h1,uniq (by simp) (by simp) (λx hx=>ha x (S0z _ hx)) (λx hx=>hb x (S0z _ hx)) h2]
def sp(z:Str)(c:Nat):List Str:=Txt.split z ⟨#[c]⟩
theorem LQ(z:Str)(c:Nat):sp z c≠[]:=by
 unfold sp Txt.split;split
 .simp
 .split
  .simp
  .rw[partsBetween_eq]
   obtain⟨p,r,h⟩:=partsFrom_ne z (⟨#[c]⟩:Str).length 0 (Builtin.Str.occurrences z ⟨#[c]⟩ 0 z.length (z.length+1));rw[h];simp
theorem Ky(z:Str)(c:Nat):J c ((sp z c).map cl)=cl z:=by rw[<- vV];exact congrArg cl (join_split z _)
theorem Ck(z:Str)(c:Nat):∀w∈sp z c,c∉cl w:=split_free z c
theorem Bc:∀{as bs:List Str},as.map cl=bs.map cl->as=bs
 |[],[],_=>rfl
 |a::as,b::bs,h=>by
  rw[G4z,G4z] at h;obtain⟨h1,h2⟩:=O4z h;rw[ext h1,Bc h2]
theorem Hw{z:Str}{c:Nat}{ws:List Str}(hn:ws≠[])(hf:∀w∈ws,c∉cl w)(h:J c (ws.map cl)=cl z):sp z c=ws:=by
 have fr:∀{l:List Str},(∀w∈l,c∉cl w)->∀a∈l.map cl,c∉a:=λhl a ha=>by
  obtain⟨w,hw,rfl⟩:=List.mem_map.mp ha;exact hl w hw
 exact Bc (uniq (by simpa using LQ z c) (by simpa using hn) (fr (Ck z c)) (fr hf) ((Ky z c).trans h.symm))
theorem qz(z:Str)(c:Nat):(sp z c).length<=z.length+1:=by
 have:=PyProof.Rows.split_weight z ⟨#[c]⟩ (X4z 1);show(Txt.split z ⟨#[c]⟩).length<=_;omega
theorem gU{z w:Str}{c:Nat}(h:w∈sp z c):w.length<=z.length:=PyProof.Rows.part_short h
theorem xO{c x:Nat}:∀{l:List (List Nat)},x∈J c l->x=c\/∃a∈l,x∈a
 |[],h=>by cases h
 |[a],h=>.inr ⟨a,by simp,h⟩
 |a::b::r,h=>by
  rcases List.mem_append.mp (show x∈a++c::J c (b::r) from h) with h|h
  .exact .inr ⟨a,by simp,h⟩
  .rcases L4z.mp h with h|h
   .exact .inl h
   .rcases xO h with h|⟨d,h1,h2⟩
    .exact .inl h
    .exact .inr ⟨d,S0z _ h1,h2⟩
theorem Jj{c x:Nat}:∀{l:List (List Nat)}{a:List Nat},a∈l->x∈a->x∈J c l
 |[b],a,h,hx=>by
  rw[List.mem_singleton.mp h] at hx;exact hx
 |b::d::r,a,h,hx=>by
  refine List.mem_append.mpr ?_;rcases L4z.mp h with rfl|h
  .exact .inl hx
  .exact .inr (S0z _ (Jj h hx))
def Asc(z:Str):Prop:=∀x∈cl z,x<128
theorem uJ{z w:Str}{c:Nat}(h:Asc z)(hw:w∈sp z c):Asc w:=λx hx=>h x (by rw[<- Ky z c];exact Jj (H1z hw) hx)
def oL{α β:Type}(f:α->Option β):List α->Option (List β)
 |[]=>some []
 |a::r=>(f a).bind λb=>(oL f r).map (b::·)
theorem vG{α β γ:Type}{f:α->Option β}{g:γ->α}{h:γ->β}:∀{l:List γ},(∀x∈l,f (g x)=some (h x))->oL f (l.map g)=some (l.map h)
 |[],_=>rfl
 |x::l,k=>by
  simp only[G4z,oL,k x (by simp),U2z,vG λy hy=>k y (S0z _ hy),L3z]
theorem pB{α β:Type}{f:α->Option β}{g:β->α}{P:β->Prop}(hf:∀a b,f a=some b->a=g b/\P b):∀{l:List α}{r:List β},oL f l=some r->l=r.map g/\∀b∈r,P b
 |[],r,h=>by cases h;exact⟨rfl,λ_ z=>by cases z⟩
 |a::l,r,h=>by
  simp only[oL] at h
  cases hb:f a with
  |none=>rw[hb] at h;cases h
  |some b =>
   rw[hb,U2z] at h
   cases ht:oL f l with
   |none=>rw[ht] at h;cases h
   |some t =>
    rw[ht] at h;cases h;obtain⟨h1,h2⟩:=pB hf ht;obtain⟨h3,h4⟩:=hf a b hb;refine⟨by rw[G4z,<- h3,<- h1],λx hx=>?_⟩;rcases L4z.mp hx with rfl|hx
    .exact h4
    .exact h2 x hx
theorem Ay{α β:Type}{f:α->Option β}:∀{l:List α}{r:List β},oL f l=some r->r.length=l.length
 |[],r,h=>by cases h;rfl
 |a::l,r,h=>by
  simp only[oL,I0z,L0z] at h;obtain⟨b,_,t,ht,rfl⟩:=h;simp[Ay ht]
def pC:List (Str×Int):=(List.range 199).map λi=>(nT (num i),num i)
def val(w:Str):Option Int:=(pC.find? λp=>decide (p.1=w)).map (·.2)
theorem ni{v:Int}(h1:-99<=v)(h2:v<=99):∃i,i<199/\v=num i:=⟨(v+99).toNat,by omega,by unfold num;omega⟩
theorem val_some{w:Str}{v:Int}(h:val w=some v):w=nT v /\ -99<=v/\v<=99:=by
 unfold val at h;obtain⟨p,h1,h2⟩:=L0z.mp h;have h3:=List.mem_of_find?_eq_some h1;have h4:=List.find?_some h1;unfold pC at h3;obtain⟨i,hi,rfl⟩:=List.mem_map.mp h3
 have h5:nT (num i)=w:=by simpa using h4
 have h6:=List.mem_range.mp hi;subst h2;exact⟨h5.symm,by show -99<=num i;unfold num;omega,by show num i<=99;unfold num;omega⟩
theorem vals:((List.range 199).map λi=>val (nT (num i)))=(List.range 199).map λi=>some (num i):=by rfl'
theorem jN{α:Type}{f g:Nat->α}{n i:Nat}(h:(List.range n).map f=(List.range n).map g)(hi:i<n):f i=g i:=by
 have:=congrArg (λl=>l[i]?) h;simpa[hi] using this
theorem G4{v:Int}(h1:-99<=v)(h2:v<=99):val (nT v)=some v:=by
 obtain⟨i,hi,rfl⟩:=ni h1 h2;exact jN vals hi
def chB(l:List Nat):Bool:=l.all (λc=>decide (c≠10)&&decide (c≠32)&&decide (c<128))&&decide (l.length<=3)
theorem chs:((List.range 199).map λi=>chB (cl (nT (num i))))=(List.range 199).map λ_=>true:=by rfl'
theorem pW{v:Int}(h1:-99<=v)(h2:v<=99):10∉cl (nT v)/\32∉cl (nT v)/\(nT v).length<=3/\Asc (nT v):=by
 obtain⟨i,hi,rfl⟩:=ni h1 h2;have h:=jN chs hi;unfold chB at h;rw[L2z,A3z] at h
 have k:∀c∈cl (nT (num i)),(c≠10/\c≠32)/\c<128:=λc hc=>by simpa using h.1 c hc
 exact⟨λz=>(k _ z).1.1 rfl,λz=>(k _ z).1.2 rfl,D2z h.2,λc hc=>(k c hc).2⟩
def rowL(r:List Int):List Nat:=J 32 (r.map λv=>cl (nT v))
def TTl(rows:List (List Int)):List Nat:=rows.flatMap λr=>rowL r++[10]
def TT(rows:List (List Int)):Str:=mk (TTl rows)
theorem Gj:∀{rows:List (List Int)},rows≠[]->TTl rows=J 10 (rows.map rowL)++[10]
 |[],h=>absurd rfl h
 |[r],_=>by simp[TTl,J]
 |r::s::t,_=>by
  have:=Gj (rows:=s::t) (by simp);show(rowL r++[10])++TTl (s::t)=_;rw[this,G2z,<- G2z [10]];show _=(rowL r++10::J 10 (rowL s::t.map rowL))++[10];simp
def tD(rows:List (List Int)):D:=.tup (rows.map λr=>.tup (r.map .int))
structure Tb(rows:List (List Int)):Prop where
 ok:cX (tD rows)=true
 ne:rows≠[]
 len:rows.length<=4
 row:∀r∈rows,r≠[]/\r.length<=4/\∀v∈r,-99<=v/\v<=99
theorem yj{rows:List (List Int)}(h:cX (tD rows)=true):Tb rows:=by
 have h0:=h;unfold cX cP at h;rw[L2z,L2z] at h;obtain⟨us,e,g1,g4,ga,_⟩:=iZ h.1.1
 have e':us=rows.map λr=>D.tup (r.map D.int):=by unfold tD at e;cases e;rfl
 subst e';refine⟨h0,λz=>by subst z;simp at g1,by simpa using g4,λr hr=>?_⟩;have hm:D.tup (r.map D.int)∈rows.map λr=>D.tup (r.map D.int):=H1z hr;obtain⟨ys,e2,y1,y4⟩:=bO (A3z.mp ga _ hm);cases e2;refine⟨λz=>by subst z;simp at y1,by simpa using y4,λv hv=>?_⟩;have:=A3z.mp (A3z.mp h.2 _ hm) _ (H1z hv);simpa[within] using this
def qF(f:Str->Option Int)(l:Str):Option (List Int):=oL f (sp l 32)
def rdP(y:Str):Option (List (List Int)):=oL (qF val) (sp y 10)
theorem yu{l:Str}{r:List Int}(h:qF val l=some r):l=mk (rowL r)/\∀v∈r,-99<=v/\v<=99:=by
 obtain⟨h1,h2⟩:=pB (f:=val) (g:=nT) (P:=λv => -99<=v/\v<=99) (λa b h=>val_some h) h;refine⟨ext ?_,h2⟩;rw[<- Ky l 32,h1,W4z];rfl
theorem CP{y:Str}{rows:List (List Int)}(h:rdP y=some rows):cl y=J 10 (rows.map rowL):=by
 obtain⟨h1,_⟩:=pB (f:=qF val) (g:=λr=>mk (rowL r)) (P:=λ_=>True) (λa b h=>⟨(yu h).1,trivial⟩) h;rw[<- Ky y 10,h1,W4z];congr 1
theorem row_free{r:List Int}(h:∀v∈r,-99<=v/\v<=99):10∉rowL r:=λz=>by
 rcases xO z with z|⟨a,ha,z⟩
 .cases z
 .obtain⟨v,hv,rfl⟩:=List.mem_map.mp ha
  exact(pW (h v hv).1 (h v hv).2).1 z
theorem Hv{r:List Int}(hn:r≠[])(h:∀v∈r,-99<=v/\v<=99):sp (mk (rowL r)) 32=r.map nT:=by
 refine Hw (by simpa using hn) (λw hw=>?_) ?_
 .obtain⟨v,hv,rfl⟩:=List.mem_map.mp hw
  exact(pW (h v hv).1 (h v hv).2).2.1
 .rw[W4z];rfl
theorem Cw{f:Str->Option Int}{r:List Int}(hf:∀v,-99<=v->v<=99->f (nT v)=some v)(hn:r≠[])(h:∀v∈r,-99<=v/\v<=99):qF f (mk (rowL r))=some r:=by
 unfold qF;rw[Hv hn h,vG (h:=id) λv hv=>hf v (h v hv).1 (h v hv).2,A5z]
theorem qy{rows:List (List Int)}{z:Str}{more:List Str}(T:Tb rows)(hm:∀w∈more,10∉cl w)(h:J 10 (rows.map rowL++more.map cl)=cl z):sp z 10=(rows.map λr=>mk (rowL r))++more:=by
 refine Hw (by simpa using λz=>absurd z T.ne) (λw hw=>?_) (by rw[P3z,W4z];exact h)
 rcases List.mem_append.mp hw with hw|hw
 .obtain⟨r,hr,rfl⟩:=List.mem_map.mp hw
  exact row_free (T.row r hr).2.2
 .exact hm w hw
theorem uR{f:Str->Option Int}{rows:List (List Int)}(hf:∀v,-99<=v->v<=99->f (nT v)=some v)(T:Tb rows):oL (qF f) (rows.map λr=>mk (rowL r))=some rows:=by
 rw[vG (g:=λr=>mk (rowL r)) (h:=id) λr hr=>Cw hf (T.row r hr).1 (T.row r hr).2.2,A5z]
def gO(w:Str):List Nat:=if(cl w).take 1=[45] then(cl w).drop 1 else cl w
def FZ(c:Nat):Bool:=decide (48<=c)&&decide (c<=57)
def okW(w:Str):Bool := !(gO w).isEmpty&&decide ((gO w).length<=2)&&(gO w).all FZ
def wv(w:Str):Option Int:=if okW w then intText? w else none
theorem DG{w:Str}(h:okW w=true):(∃v,intText? w=some v)/\w.length<=3:=by
 unfold okW at h;rw[L2z,L2z] at h;obtain⟨⟨h1,h2⟩,h3⟩:=h;have h2:=D2z h2
 have hd:∀c∈gO w,48<=c/\c<=57:=λc hc=>by simpa[FZ] using A3z.mp h3 c hc
 have hn:gO w≠[]:=by simpa using h1
 unfold gO at h2 hd hn;split at h2
 .rename_i q
  rw[P5z q] at hd hn
  have e:cl w=45::(cl w).drop 1:=by rw[<- List.take_append_drop 1 (cl w),q];rfl
  have hl:w.length<=3:=by
   rw[jQ,e];simpa using h2
  exact⟨⟨_,PySem.intText_neg e hd hn (by omega)⟩,hl⟩
 .rename_i q
  rw[Q5z q] at hd hn
  have hl:w.length<=3:=by rw[jQ];omega
  exact⟨⟨_,PySem.intText_digits hd hn (by omega)⟩,hl⟩
theorem wvs:((List.range 199).map λi=>okW (nT (num i)))=(List.range 199).map λi=>true:=by rfl'
theorem Qh:((List.range 199).map λi=>intText? (nT (num i)))=(List.range 199).map λi=>some (num i):=by rfl'
theorem Lh{v:Int}(h1:-99<=v)(h2:v<=99):wv (nT v)=some v:=by
 obtain⟨i,hi,rfl⟩:=ni h1 h2;unfold wv;rw[jN wvs hi,P5z rfl,jN Qh hi]
theorem ends(z:Str):Txt.endswith z ⟨#[10]⟩=decide ((cl z).getLast?=some 10):=by
 unfold Txt.endswith;rw[subAt_eq];have e1:(⟨#[10]⟩:Str).length=1:=rfl;rw[e1,jQ];rcases List.eq_nil_or_concat (cl z) with h|⟨y,c,h⟩
 .rw[h];rfl
 .rw[List.concat_eq_append] at h
  have h':z.cps.toList=y++[c]:=h;rw[h,h'];simp;rfl
def cutX(z:Str):Str:=tZ z none (some (-1))
theorem wV(z:Str):cl (cutX z)=(cl z).dropLast:=by
 show((z.cps.toList.drop 0).take _)=_;rw[C4z,List.dropLast_eq_take];congr 1;show((-1:Int)+((cl z).length:Int)).toNat-0=(cl z).length-1;omega
def okT(f:List (List Int)->Bool)(o:Option (List (List Int))):Option (List (List Int)):=o.bind λrows=>if f rows then some rows else none
theorem lB{f:List (List Int)->Bool}{o:Option (List (List Int))}{rows:List (List Int)}(h:okT f o=some rows):o=some rows/\f rows=true:=by
 unfold okT at h
 cases o with
 |none=>cases h
 |some r =>
  rw[U2z] at h;split at h
  .rename_i q;cases h;exact⟨rfl,q⟩
  .cases h
def rP(x:Str):Option (List (List Int)):=if Txt.endswith x ⟨#[10]⟩ then okT (λrows=>cX (tD rows)) (rdP (cutX x)) else none
def rL(x:Str):Option (List (List Int)):=okT (λrows=>cX (tD rows)&&decide (TT rows=x)) (oL (qF wv) (sp x 10).dropLast)
theorem CQ{x:Str}{rows:List (List Int)}(h:rP x=some rows):TT rows=x/\Tb rows:=by
 unfold rP at h;split at h
 .rename_i q
  obtain⟨h1,h2⟩:=lB h;have T:=yj h2;rw[ends] at q;obtain⟨y,hy⟩:=List.getLast?_eq_some_iff.mp (D2z q);refine⟨ext ?_,T⟩;have:=CP h1;rw[wV,hy,B1z] at this;show TTl rows=_;rw[Gj T.ne,<- this,hy]
 .cases h
theorem Qz{rows:List (List Int)}(T:Tb rows):cl (TT rows)=J 10 (rows.map rowL)++[10]:=Gj T.ne
theorem HW{rows:List (List Int)}(T:Tb rows):rP (TT rows)=some rows:=by
 have hx:=Qz T;unfold rP;rw[ends,hx,P5z (by simp)]
 have e:cl (cutX (TT rows))=J 10 (rows.map rowL):=by rw[wV,hx,B1z]
 unfold rdP okT;rw[qy (more:=[]) T (λw hw=>by cases hw) (by rw[e];simp),G3z,uR (λv=>G4) T,U2z,P5z T.ok]
theorem Hx{rows:List (List Int)}(T:Tb rows):sp (TT rows) 10=(rows.map λr=>mk (rowL r))++[mk []]:=by
 refine qy T (λw hw=>by rw[List.mem_singleton.mp hw];simp) ?_
 rw[Qz T];exact xM 10 [] (by simpa using T.ne)
theorem Mj{rows:List (List Int)}(T:Tb rows):rL (TT rows)=some rows:=by
 unfold rL okT;rw[Hx T,B1z,uR (λv=>Lh) T,U2z,P5z (by show(cX (tD rows)&&decide (TT rows=TT rows))=true;rw[T.ok,Y3z rfl];rfl)]
theorem CT{x:Str}{rows:List (List Int)}(h:rL x=some rows):TT rows=x/\Tb rows:=by
 obtain⟨_,h2⟩:=lB h;rw[L2z] at h2;exact⟨D2z h2.2,yj h2.1⟩
theorem same(x:Str):rP x=rL x:=by
 cases h:rP x with
 |some rows =>
  obtain⟨h1,h2⟩:=CQ h;rw[<- h1,Mj h2]
 |none =>
  cases g:rL x with
  |none=>rfl
  |some rows =>
   obtain⟨h1,h2⟩:=CT g;rw[<- h1,HW h2] at h;cases h
theorem written(k:Nat):aK T 60 (k+3) "written_numbers" []=some (wJ (pC.map λp=>(.inr p.1,.int p.2))):=by rfl'
end M80
namespace DE
open PySem
section
variable{cx:Cxt}{n F m:Nat}{sc scope:Scope}{U:Rho}{p q ap:Pos}{a b e o tg elt iter:Expr}{nm c:Str}{d x z:D}
theorem xTm{M:Str}(h:(CJ o&&ap.endLine==p.line&&(HF cx sc e).isNone)=true)(h1:ev cx n sc U o=some x)(h2:ev cx n sc U e=some z)(h3:lH M x z=none)(h4:cG M x z=some d):ev cx (n+1) sc U (.Call (.Attribute o M ap) [e] [] p)=some d:=by
 rw[L2z] at h
 have hr:HF cx sc e=none:=by simpa using h.2
 simp only[ev,h.1,O5z,h1,hr,h2,bind,U2z,h3,h4]
theorem Kv{z:Str}{lo hi:Option Expr}{l u:Option Int}(h1:ev cx n sc U a=some (.str z))(h2:oI cx n sc U lo=some l)(h3:oI cx n sc U hi=some u)(hz:szl z.length=true):ev cx (n+1) sc U (.Subscript a (.Slice lo hi none q) p)=some (.str (tZ z l u)):=by
 have e:∀(A B:Option (Option Int)),A=some l->B=some u->(A.bind λl=>B.bind λh=>if szl z.length=true then some (D.str (tZ z l h)) else none)=some (.str (tZ z l u)):=by
  intro A B hA hB;rw[hA,hB];simp only[U2z,hz,O5z]
 simp only[ev,h1,bind,U2z];exact e _ _ h2 h3
theorem j6{f:D->Option D}{g:D->Option Str}{post:List D}:∀{pre:List D},(∀x∈pre,∃v,f x=some v)->f d=none->g d=some c->dX f g (pre++d::post)=some c
 |[],_,h1,h2=>by simp only[V3z,dX,h1,h2]
 |x::pre,h,h1,h2=>by
  obtain⟨v,hv⟩:=h x (by simp);simp only[Z2z,dX,hv];exact j6 (λy hy=>h y (S0z _ hy)) h1 h2
theorem nQ{f:D->Option (Option D)}{post:List D}:∀{pre:List D},(∀x∈pre,∃v,f x=some (some v))->f d=none->aP f (pre++d::post)=none
 |[],_,h1=>by simp only[V3z,aP,h1];rfl
 |x::pre,h,h1=>by
  obtain⟨v,hv⟩:=h x (by simp);simp only[Z2z,aP,hv];show Option.map _ (aP f (pre++d::post))=none;rw[nQ (λy hy=>h y (S0z _ hy)) h1];rfl
theorem GP{pre post:List D}(Uf:D->Rho)(hok:(eY sc scope&&aA iter)=true)(hi:evx cx n sc U iter=none)(hI:evI cx (cN tg) (ev cx n sc U) sc iter=some (pre++d::post))(hz:szl (pre++d::post).length=true)
  (hb:∀x∈pre++d::post,cC scope tg x (aO scope U)=some (Uf x)) (hp:∀x∈pre,∃v,ev cx n (jA scope sc) (Uf x) elt=some v) (hd:evx cx n (jA scope sc) (Uf d) elt=some c/\ev cx n (jA scope sc) (Uf d) elt=none) :
  evx cx (n+1) sc U (.ListComp elt [⟨tg,iter,[],0⟩] scope p)=some c/\ev cx (n+1) sc U (.ListComp elt [⟨tg,iter,[],0⟩] scope p)=none:=by
 rw[L2z] at hok;have bp:∀x∈pre,cC scope tg x (aO scope U)=some (Uf x):=λx hx=>hb x (T0z _ hx);have bd:=hb d (by simp);constructor
 .simp only[evx,hok.1,hok.2,O2z,J4z,O5z,hi,List.isEmpty_nil,hI,bind,U2z,hz]
  refine j6 (λx hx=>?_) ?_ ?_
  .simp only[bp x hx,U2z];exact hp x hx
  .simp only[bd,U2z];exact hd.2
  .simp only[bd,U2z];exact hd.1
 .simp only[ev,hok.1,hI]
  show(if szl (pre++d::post).length=true then(aP (cF cx n sc scope U tg elt []) (pre++d::post)).bind (λout=>some (D.lst out)) else none)=none
  have hn:cF cx n sc scope U tg elt [] d=none:=by simp only[cF,bd,jC,bind,U2z,O5z,hd.2,S3z]
  rw[P5z hz,nQ (λx hx=>(hp x hx).elim λv hv=>⟨v,fJ (bp x hx) hv⟩) hn];rfl
theorem K7(hg:bh cx sc nm=some "tuple")(hw:(cx.fns.contains nm || !aA a)=false)(hc:GZ cx sc "tuple" [a]=.al)(h:evx cx n sc U a=some c/\ev cx n sc U a=none):evx cx (n+1) sc U (.Call (.Name nm q) [a] [] p)=some c/\ev cx (n+1) sc U (.Call (.Name nm q) [a] [] p)=none:=by
 rw[A1z] at hw
 have hp:aA a=true:=by simpa using hw.2
 have hm:jw (ev cx n sc U) [a]=none:=by simp only[jw,h.2,bind,B3z]
 have h0:=hg;unfold bh at h0;split at h0
 .rename_i hgl
  constructor
  .simp only[evx,hgl,hw.1,B4z,O1z,M5z,hg,hp,O2z,J4z,O5z,h.1]
  .simp only[ev,hgl,O5z,h0]
   split
   .rename_i q;exact absurd (D3z q) (by decide)
   .rename_i q
    cases q;rw[hc];simp only[List.isEmpty_cons,O1z,M5z,hm,bind,B3z]
   .rename_i q;cases q
 .cases h0
end
end DE
namespace M80
open PySem DE PySem.StrLaws
theorem rF:∀ts:List Str,oH (ts.map D.str)=some ts
 |[]=>rfl
 |t::ts=>by simp only[G4z,oH,rF ts,L3z]
theorem vD{α β:Type}{f:α->Option β}:∀{l:List α},oL f l=none->∃pre d post,l=pre++d::post/\(∀x∈pre,∃v,f x=some v)/\f d=none
 |[],h=>by cases h
 |a::l,h=>by
  simp only[oL] at h
  cases hb:f a with
  |none=>exact⟨[],a,l,rfl,(λx hx=>by cases hx),hb⟩
  |some b =>
   rw[hb,U2z,Option.map_eq_none_iff] at h;obtain⟨pre,d,post,rfl,h1,h2⟩:=vD h;refine⟨a::pre,d,post,rfl,λx hx=>?_,h2⟩;rcases L4z.mp hx with rfl|hx
   .exact⟨b,hb⟩
   .exact h1 x hx
theorem G5(w:Str):kI (pC.map λp=>Sum.inr p.1) (pC.map λp=>D.int p.2) (.inr w)=(val w).map D.int:=by
 have key:∀l:List (Str×Int),kI (l.map λp=>Sum.inr p.1) (l.map λp=>D.int p.2) (.inr w)=((l.find? λp=>decide (p.1=w)).map (·.2)).map D.int:=by
  intro l
  induction l with
  |nil=>rfl
  |cons a l ih =>
   unfold kI at ih ⊢;simp only[G4z,T1z,List.find?_cons,Sum.inr.injEq]
   cases decide (a.1=w) with
   |true=>rfl
   |false=>exact ih
 exact key pC
theorem Kc:wJ (pC.map λp=>(.inr p.1,.int p.2))=.dic (pC.map λp=>Sum.inr p.1) (pC.map λp=>D.int p.2):=by
 unfold wJ;rw[W4z,W4z];rfl
theorem number_text(k:Nat){v:Int}(h1:-99<=v)(h2:v<=99):aK T 60 (k+2) "number_text" [.int v]=some (.str (nT v)):=by
 obtain⟨i,hi,rfl⟩:=ni h1 h2;exact jN (vI k) hi
theorem Jv{c:Nat}{ts:List Str}{B:Nat}(hB:∀y∈ts,y.length<=B)(h:ts.length*B+ts.length<=16777216):JoinOk ⟨#[c]⟩ ts=true:=by
 unfold JoinOk;rw[joinFits hB (by show ts.length*B+ts.length*1<=_;omega)];rfl
theorem QF{z:Str}{ts:List Str}(h:JoinOk z ts=true):cG "join" (.str z) (.lst (ts.map D.str))=some (.str (Txt.join z ts)):=by
 simp only[cG,O2z,O5z,rF,U2z,h]
theorem uw{c:Nat}{ts:List Str}{B:Nat}(hB:∀y∈ts,y.length<=B)(h:ts.length*B+ts.length<=16777216):cG "join" (.str ⟨#[c]⟩) (.lst (ts.map D.str))=some (.str (mk (J c (ts.map cl)))):=by
 rw[QF (Jv hB h),xZ]
theorem yh{ts:List Str}{B:Nat}(hB:∀y∈ts,y.length<=B)(h:ts.length*B<=16777216):cG "join" (.str ⟨#[]⟩) (.lst (ts.map D.str))=some (.str (mk (ts.flatMap cl))):=by
 have hj:JoinOk ⟨#[]⟩ ts=true:=by
  unfold JoinOk;rw[joinFits hB (by show ts.length*B+ts.length*0<=_;omega)];rfl
 have e:∀l:List Str,cl (Str.join ⟨#[]⟩ l)=l.flatMap cl:=by
  intro l
  induction l with
  |nil=>rfl
  |cons a l ih =>
   cases l with
   |nil=>simp[Str.join]
   |cons b l =>
    show cl (a++⟨#[]⟩++Str.join ⟨#[]⟩ (b::l))=_;rw[jY,jY,ih];simp
 rw[QF hj];congr 2;exact ext ((congrArg cl (glued_eq_join _ _)).trans (e ts))
theorem iM{r:List Int}(h4:r.length<=4)(hv:∀v∈r,-99<=v/\v<=99):(rowL r).length<=16:=by
 have key:∀l:List (List Nat),(∀a∈l,a.length<=3)->(J 32 l).length<=4*l.length:=by
  intro l
  induction l with
  |nil=>intro _;exact X4z _
  |cons a l ih =>
   intro ha
   cases l with
   |nil=>have:=ha a (by simp);simp only[J,P0z];omega
   |cons b l =>
    have h1:=ha a (by simp);have h2:=ih λx hx=>ha x (S0z _ hx);simp only[J,N1z,Q2z] at h2 ⊢;omega
 have:=key (r.map λv=>cl (nT v)) λa ha=>by
  obtain⟨v,hv',rfl⟩:=List.mem_map.mp ha;exact(pW (hv v hv').1 (hv v hv').2).2.2.1
 rw[I3z] at this;unfold rowL;omega
theorem row_text(k:Nat){r:List Int}(h4:r.length<=4)(hv:∀v∈r,-99<=v/\v<=99):aK T 60 (k+3) "row_text" [.tup (r.map D.int)]=some (.str (mk (rowL r++[10]))):=by
 refine d9 (fd:=aB (top 23)) rfl rfl (cZ (cI (x:=.str (mk (rowL r))) (y:=.str ⟨#[10]⟩) ?_ (by nofun) ?_))
 .refine xTm (x:=.str ⟨#[32]⟩) (z:=.lst ((r.map nT).map D.str)) rfl (by nofun) ?_ rfl ?_
  .refine d7 (l:=r.map D.int) rfl (wSq rfl (by nofun) rfl) (eE (by rw[I3z];omega)) ?_
   rw[bG (g:=λx=>match x with|D.int v=>D.str (nT v)|d=>d) λx hx=>?_,W4z,W4z]
   .rfl
   .obtain⟨v,hv',rfl⟩:=List.mem_map.mp hx
    refine fJ rfl ?_;refine' aQ ?L80p_1a ?L80p_1b ?L80p_1c;(case L80p_1a=>rfl);(case L80p_1b=>walk_at "xm");(case L80p_1c=>exact number_text k (hv v hv').1 (hv v hv').2)
  .rw[uw (B:=3) (λy hy=>?_) (by rw[I3z];omega),W4z]
   .rfl
   .obtain⟨v,hv',rfl⟩:=List.mem_map.mp hy
    exact(pW (hv v hv').1 (hv v hv').2).2.2.1
 .have:=iM h4 hv
  show(if szl ((mk (rowL r)).length+1)=true then some (D.str (mk (rowL r)++⟨#[10]⟩)) else none)=_;rw[P5z (eE (by show(rowL r).length+1<=_;omega))];exact congrArg (λz=>some (D.str z)) (ext (jY _ _))
theorem mJ{rows:List (List Int)}:dep (tD rows)<=2:=by
 have h1:deps (rows.map λr=>D.tup (r.map D.int))<=1:=dh λd hd=>by
  obtain⟨r,_,rfl⟩:=List.mem_map.mp hd
  have h2:deps (r.map D.int)<=0:=dh λd hd=>by
   obtain⟨v,_,rfl⟩:=List.mem_map.mp hd;exact X4z _
  simp only[dep];omega
 unfold tD;simp only[dep];omega
theorem Et{rows:List (List Int)}(Q:Tb rows):cP (tD rows)=true:=by
 have h:=Q.ok;unfold cX at h;rw[L2z] at h;exact h.1
theorem table_text(k:Nat){rows:List (List Int)}(Q:Tb rows):aK T 60 (k+5) "table_text" [tD rows]=some (.str (TT rows)):=by
 have hl:=Q.len;refine d9 (fd:=aB (top 24)) rfl rfl (Uu (d:=.non) rfl ?_ (cZ ?_))
 .refine' aQ ?L80p_2a ?L80p_2b ?L80p_2c;(case L80p_2a=>rfl);(case L80p_2b=>walk_at "xm");(case L80p_2c=>exact DW k (S1z mJ (by decide)) (Et Q))
 .refine xTm (x:=.str ⟨#[]⟩) (z:=.lst ((rows.map λr=>mk (rowL r++[10])).map D.str)) rfl (by nofun) ?_ rfl ?_
  .refine d7 (l:=rows.map λr=>D.tup (r.map D.int)) rfl (wSq rfl (by nofun) rfl) (eE (by rw[I3z];omega)) ?_
   have key:∀l:List (List Int),(∀r∈l,r.length<=4/\∀v∈r,-99<=v/\v<=99)->∀(f:D->Option (Option D)),(∀r:List Int,r.length<=4->(∀v∈r,-99<=v/\v<=99)->f (.tup (r.map D.int))=some (some (.str (mk (rowL r++[10])))))->aP f (l.map λr=>D.tup (r.map D.int))=some ((l.map λr=>mk (rowL r++[10])).map D.str):=by
    intro l
    induction l with
    |nil=>intro _ _ _;rfl
    |cons r l ih =>
     intro h f hf;simp only[G4z,aP,hf r (h r (by simp)).1 (h r (by simp)).2,ih (λr hr=>h r (S0z _ hr)) f hf];rfl
   refine key rows (λr hr=>(Q.row r hr).2) _ λr h4 hv=>fJ rfl ?_;refine' aQ ?L80p_3a ?L80p_3b ?L80p_3c;(case L80p_3a=>rfl);(case L80p_3b=>walk_at "xm");(case L80p_3c=>exact row_text (k+1) h4 hv)
  .rw[yh (B:=17) (λy hy=>?_) (by rw[I3z];omega)]
   .rw[List.flatMap_map];rfl
   .obtain⟨r,hr,rfl⟩:=List.mem_map.mp hy
    have:=iM (Q.row r hr).2.1 (Q.row r hr).2.2;show(rowL r++[10]).length<=17;simp;omega
theorem yp(k:Nat){d:D}(h:dep d<1000)(hf:cP d=false):jD T 60 (k+5) "table_text" [d]=some "NoTable"/\aK T 60 (k+5) "table_text" [d]=none:=by
 refine xW (fd:=aB (top 24)) rfl rfl (K6 rfl ?_);obtain⟨h1,h2⟩:=DX k h hf;exact qg rfl (aq (by nofun) bV) h1 h2
end M80
namespace DE
open PySem
theorem Ai{cx:Cxt}{n:Nat}{sc:Scope}{U:Rho}{nm:Str}{q p:Pos}{d:D}(hf:(jB cx sc nm&&(cx.blt.lookup nm).isNone&&cx.fns.contains nm)=true)(h:cx.call nm []=some d):ev cx (n+1) sc U (.Call (.Name nm q) [] [] p)=some d:=by
 rw[L2z,L2z] at hf;obtain⟨⟨h2,h3⟩,h4⟩:=hf
 have h3':cx.blt.lookup nm=none:=by simpa using h3
 simp only[ev,h2,h3',h4,O5z];exact h
end DE
namespace M80
open PySem DE PySem.StrLaws
theorem nP{α:Type}{f:D->Option (Option D)}{h g:α->D}:∀{l:List α},(∀x∈l,f (h x)=some (some (g x)))->aP f (l.map h)=some (l.map g)
 |[],_=>rfl
 |x::l,k=>by
  simp only[G4z,aP,k x (by simp),nP λy hy=>k y (S0z _ hy)];rfl
theorem nO{α β:Type}{f:α->Option β}{F:D->Option (Option D)}{h:α->D}{g:β->D}(hf:∀a b,f a=some b->F (h a)=some (some (g b))):∀{l:List α}{r:List β},oL f l=some r->aP F (l.map h)=some (r.map g)
 |[],r,e=>by cases e;rfl
 |x::l,r,e=>by
  simp only[oL,I0z,L0z] at e;obtain⟨b,hb,t,ht,rfl⟩:=e;simp only[G4z,aP,hf x b hb,nO hf ht];rfl
theorem Ko{α:Type}{p:α->Bool}:∀{l:List α},blt "all" [.lst (l.map λx=>.bl (p x))]=some (.bl (l.all p)):=by
 intro l
 have e:(l.map λx=>D.bl (p x))=(l.map λx=>D.bl (p x)).map λd=>D.bl (match d with|D.bl b=>b|_=>false):=by
  rw[W4z];rfl
 rw[e,qb,List.all_map];rfl
theorem m8{α β:Type}{f:α->Option β}:∀{l:List α},(l.all λx=>(f x).isSome)=(oL f l).isSome
 |[]=>rfl
 |x::l=>by
  rw[K4z,m8];simp only[oL]
  cases f x with
  |none=>rfl
  |some b=>cases oL f l<;>rfl
theorem Ba{z:Str}:(sp z 32).length<=z.length+1:=qz z 32
theorem fj{z:Str}{c:Nat}(h:z.length<=1000):cG "split" (.str z) (.str ⟨#[c]⟩)=some (.lst ((sp z c).map D.str)):=by
 have e:szl z.length=true:=eE (by omega);have e1:((⟨#[c]⟩:Str).length==0)=false:=rfl;simp only[cG,O2z,e,e1,Bool.not_false,J4z,O5z];rfl
def zX:D:=.dic (pC.map λp=>Sum.inr p.1) (pC.map λp=>D.int p.2)
theorem qj(k:Nat):aK T 60 (k+3) "written_numbers" []=some zX:=by rw[written,Kc];rfl
def Mg(z:Str):Rho:=[("line",.sh (.str z)),("numbers",.sh zX),("words",.sh (.lst ((sp z 32).map D.str)))]
theorem qM{cx:Cxt}{F m:Nat}{sc:Scope}{s:Stmt}{U U1:Rho}(h:blk cx F m sc [s] U=some (.nxt U1)):st cx F m sc U s=some (.nxt U1):=by
 unfold blk at h;simp only[gK,bind,I0z] at h;obtain⟨f,h1,h2⟩:=h
 cases f with
 |nxt U=>rw[h1];exact h2
 |ret d=>cases h2
theorem Cv(k:Nat){z:Str}(h:z.length<=1000){fl:Fl}
  (hc:blk (cxN T 60 (k+3)) 60 60 (aB (top 26)).sc ((aB (top 26)).body.drop 2) (Mg z)=some fl):blk (cxN T 60 (k+3)) 60 60 (aB (top 26)).sc (aB (top 26)).body (bN (aB (top 26)) [.str z])=some fl:=by
 refine fD rfl (d:=zX) (Ai rfl (qj k)) (fD rfl (d:=.lst ((sp z 32).map D.str)) ?_ hc);exact xTm (x:=.str z) (z:=.str ⟨#[32]⟩) rfl (by nofun) (by nofun) rfl (fj h)
theorem JB(w:Str):cmpop .In (.str w) zX=some (.bl (val w).isSome):=by
 show some (D.bl (kI (pC.map λp=>Sum.inr p.1) (pC.map λp=>D.int p.2) (.inr w)).isSome)=_
 rw[G5];cases val w<;>rfl
theorem row_cond(k:Nat){z:Str}(h:z.length<=1000):ev (cxN T 60 (k+3)) 59 (aB (top 26)).sc (Mg z) (match aD 26 2 with|.If (.UnaryOp _ c _) _ _ _=>c|_=>.Name "" ⟨0,0,0,0⟩)=some (.bl (qF val z).isSome):=by
 have hl:=Ba (z:=z);refine dw rfl rfl rfl (aq (d7 (l:=(sp z 32).map D.str) rfl (wSq rfl (by nofun) rfl) (eE (by rw[I3z];omega)) (nP (g:=λw=>.bl (val w).isSome) λw hw=>fJ rfl ?_)) bV) (by rw[Ko,m8];rfl);exact dO (x:=.str w) (y:=zX) (by nofun) (by nofun) (JB w)
theorem iR(k:Nat){z:Str}{r:List Int}(h:z.length<=1000)(hr:qF val z=some r):aK T 60 (k+4) "read_row" [.str z]=some (.tup (r.map D.int)):=by
 refine d9 (fd:=aB (top 26)) rfl rfl (Cv k h (nC (fC ?_) (cZ ?_)))
 .have:=row_cond k h
  rw[hr] at this;exact this
 .have hl:=Ba (z:=z)
  refine dw rfl rfl rfl (aq (d7 (l:=(sp z 32).map D.str) rfl (wSq rfl (by nofun) rfl) (eE (by rw[I3z];omega)) (nO (g:=D.int) (λw v hv=>fJ rfl ?_) hr)) bV) rfl
  refine GK (x:=zX) (y:=.str w) (by nofun) (by nofun) ?_;show kI (pC.map λp=>Sum.inr p.1) (pC.map λp=>D.int p.2) (.inr w)=_;rw[G5,hv];rfl
theorem o7(k:Nat){z:Str}(h:z.length<=1000)(hr:qF val z=none):jD T 60 (k+4) "read_row" [.str z]=some "NoText"/\aK T 60 (k+4) "read_row" [.str z]=none:=by
 refine xW (fd:=aB (top 26)) rfl rfl ?_;refine iG (U1:=[("line",.sh (.str z)),("numbers",.sh zX),("words",.no)]) ?_ (iG (U1:=Mg z) ?_ (gQ (iI ?_) rfl))
 .have:blk (cxN T 60 (k+3)) 60 60 (aB (top 26)).sc [aD 26 0] (bN (aB (top 26)) [.str z])=some (.nxt [("line",.sh (.str z)),("numbers",.sh zX),("words",.no)]):=fD rfl (d:=zX) (Ai rfl (qj k)) fP
  exact qM this
 .exact qM (fD rfl (d:=.lst ((sp z 32).map D.str)) (xTm (x:=.str z) (z:=.str ⟨#[32]⟩) rfl (by nofun) (by nofun) rfl (fj h)) fP)
 .have:=row_cond k h
  rw[hr] at this;exact this
theorem j4{α β:Type}{f:α->Option β}{F:D->Option (Option D)}{h:α->D}{g:β->D}:∀{l:List α}{r:List β},(∀a∈l,∀b,f a=some b->F (h a)=some (some (g b)))->oL f l=some r->aP F (l.map h)=some (r.map g)
 |[],r,_,e=>by cases e;rfl
 |x::l,r,hf,e=>by
  simp only[oL,I0z,L0z] at e;obtain⟨b,hb,t,ht,rfl⟩:=e;simp only[G4z,aP,hf x (by simp) b hb,j4 (λa ha=>hf a (S0z _ ha)) ht];rfl
theorem BP{z:Str}:cG "endswith" (.str z) (.str ⟨#[10]⟩)=some (.bl (Txt.endswith z ⟨#[10]⟩)):=by
 have e:(("endswith":Str)=="split")=false:=by decide +kernel
 simp only[cG,e,X3z,O1z,M5z,O2z,O5z]
def oX(z:Str):Rho:=[("text",.sh (.str z)),("table",.no)]
def Mf(z:Str)(d:D):Rho:=[("text",.sh (.str z)),("table",.sh d)]
theorem lO{z:Str}(h:z.length<=1000):(cutX z).length<=1000:=by
 have:(cl z).length<=1000:=h;rw[jQ,wV,List.length_dropLast];omega
theorem qQ(k:Nat){z:Str}{n:Nat}(h:z.length<=1000):ev (cxN T 60 k) (n+4) (aB (top 27)).sc (oX z) (match aD 27 1 with|.Assign _ (.Call _ [.ListComp _ [⟨_,i,_,_⟩] _ _] _ _) _=>i|_=>.Name "" ⟨0,0,0,0⟩)=some (.lst ((sp (cutX z) 10).map D.str)):=by
 refine xTm (x:=.str (cutX z)) (z:=.str ⟨#[10]⟩) rfl ?_ (by nofun) rfl (fj (lO h));exact Kv (l:=none) (u:=some (-1)) (by nofun) dB (iW (Ld (i:=1) (by nofun))) (eE (by omega))
theorem mV(k:Nat){z:Str}:ev (cxN T 60 k) 60 (aB (top 27)).sc (oX z) (match aD 27 0 with|.If c _ _ _=>c|_=>.Name "" ⟨0,0,0,0⟩)=some (.bl (!Txt.endswith z ⟨#[10]⟩)) :=
 bH (kj (fC (jE rfl rfl rfl (by nofun) rfl)) (jx (Gp (xTm (x:=.str z) (z:=.str ⟨#[10]⟩) rfl (by nofun) (by nofun) rfl BP))))
theorem QK{z:Str}(h:z.length<=1000):((sp (cutX z) 10).map D.str).length<=100000:=by
 have:=qz (cutX z) 10;have:=lO h;rw[I3z];omega
theorem mU(k:Nat){z:Str}{rows:List (List Int)}(h:z.length<=1000)(hr:rdP (cutX z)=some rows):ev (cxN T 60 (k+5)) 60 (aB (top 27)).sc (oX z) (match aD 27 1 with|.Assign _ e _=>e|_=>.Name "" ⟨0,0,0,0⟩)=some (tD rows):=by
 refine dw rfl rfl rfl (aq (d7 (l:=(sp (cutX z) 10).map D.str) rfl (wSq rfl (qQ _ h) rfl) (eE (QK h)) (j4 (g:=λr=>D.tup (r.map D.int)) (λl hl r hv=>fJ rfl ?_) hr)) bV) rfl;have:=gU hl;have:=lO h;refine' aQ ?L80r_1a ?L80r_1b ?L80r_1c;(case L80r_1a=>rfl);(case L80r_1b=>walk_at "xm");(case L80r_1c=>exact iR (k+1) (by omega) hv)
theorem uW(k:Nat){z:Str}(h:z.length<=1000)(hr:rdP (cutX z)=none):evx (cxN T 60 (k+5)) 60 (aB (top 27)).sc (oX z) (match aD 27 1 with|.Assign _ e _=>e|_=>.Name "" ⟨0,0,0,0⟩)=some "NoText"/\ev (cxN T 60 (k+5)) 60 (aB (top 27)).sc (oX z) (match aD 27 1 with|.Assign _ e _=>e|_=>.Name "" ⟨0,0,0,0⟩)=none:=by
 obtain⟨pre,w,post,e,h1,h2⟩:=vD hr
 have e':(sp (cutX z) 10).map D.str=pre.map D.str++D.str w::post.map D.str:=by rw[e];simp
 have hs:∀l∈sp (cutX z) 10,l.length<=1000:=λl hl=>R4z (gU hl) (lO h);refine K7 rfl rfl rfl (GP (pre:=pre.map D.str) (d:=.str w) (post:=post.map D.str) (λd=>[(".0",.no),("line",.sh d),("read_row",.no)]) rfl rfl (wSq rfl ((qQ (n:=54) _ h).trans (congrArg (λl=>some (D.lst l)) e')) rfl) (e'▸eE (QK h)) (λx _=>rfl) (λx hx=>?_) ?_)
 .obtain⟨l,hl,rfl⟩:=List.mem_map.mp hx
  obtain⟨r,hv⟩:=h1 l hl;refine⟨.tup (r.map D.int),?_⟩;have:=hs l (by rw[e];simp[hl]);refine' aQ ?L80r_2a ?L80r_2b ?L80r_2c;(case L80r_2a=>rfl);(case L80r_2b=>walk_at "xm");(case L80r_2c=>exact iR (k+1) this hv)
 .obtain⟨g1,g2⟩:=o7 (k+1) (hs w (by rw[e];simp)) h2
  exact qg rfl (aq (by nofun) bV) g1 g2
theorem CK(k:Nat){z:Str}{rows:List (List Int)}(h:z.length<=1000)(hr:rP z=some rows):aK T 60 (k+6) "read_table" [.str z]=some (tD rows):=by
 unfold rP at hr;split at hr
 .rename_i he
  obtain⟨h1,h2⟩:=lB hr;refine d9 (fd:=aB (top 27)) rfl rfl (nC ?_ (fD rfl (d:=tD rows) (mU k h h1) (nC (fC ?_) (cZ (by nofun)))))
  .have:=mV (k+5) (z:=z)
   rw[he] at this;exact this
  .have:=is_table (k+1) (d:=tD rows) (S1z mJ (by decide))
   rw[h2] at this;refine' aQ ?L80r_3a ?L80r_3b ?L80r_3c;(case L80r_3a=>rfl);(case L80r_3b=>walk_at "xm");(case L80r_3c=>exact this)
 .cases hr
theorem CN(k:Nat){z:Str}(h:z.length<=1000)(hr:rP z=none):jD T 60 (k+6) "read_table" [.str z]=some "NoText"/\aK T 60 (k+6) "read_table" [.str z]=none:=by
 have hc:=mV (k+5) (z:=z);refine xW (fd:=aB (top 27)) rfl rfl ?_;unfold rP at hr;split at hr
 .rename_i he
  rw[he] at hc;have s0:st (cxN T 60 (k+5)) 60 60 (aB (top 27)).sc (oX z) (aD 27 0)=some (.nxt (oX z)):=qM (nC hc fP);refine iG s0 ?_
  cases hd:rdP (cutX z) with
  |none=>exact Lb rfl (uW k h hd)
  |some rows =>
   refine iG (U1:=Mf z (tD rows)) (qM (fD rfl (d:=tD rows) (mU k h hd) fP)) (gQ (iI ?_) rfl)
   have hb:cX (tD rows)=false:=by
    rw[hd] at hr;simpa[okT] using hr
   have:=is_table (k+1) (d:=tD rows) (S1z mJ (by decide));rw[hb] at this;refine' aQ ?L80r_4a ?L80r_4b ?L80r_4c;(case L80r_4a=>rfl);(case L80r_4b=>walk_at "xm");(case L80r_4c=>exact this)
 .rename_i he
  have he':Txt.endswith z ⟨#[10]⟩=false:=by simpa using he
  rw[he'] at hc;exact gQ hc rfl
def Cy(w x:D)(s1 s2 s3:Sl):Rho:=[("_law_what",.sh w),("_law_thing",.sh x),("_law_kept",s1),("_law_answer",s2),("e",s3)]
theorem GQ(k:Nat):aK T 60 (k+1) "_law_word" [.exc "NoText"]=some (.str "no text"):=by rfl'
theorem J5(k:Nat){w:Int}{x d:D}(h:ev (cxN T 60 (k+1)) 60 (aB (top 44)).sc (Cy (.int w) x (.sh .non) (.sh .non) .no) (match aD 44 2 with|.Try [.Assign _ e _] _ _ _ _=>e|_=>.Name "" ⟨0,0,0,0⟩)=some d):aK T 60 (k+2) "_law_do" [.int w,x]=some d :=
 d9 (fd:=aB (top 44)) rfl rfl (fD rfl (d:=.non) (by nofun) (fD rfl (d:=.non) (by nofun) (Qo rfl (fl1:=.nxt (Cy (.int w) x (.sh .non) (.sh d) .no)) (gH (U:=Cy (.int w) x (.sh .non) (.sh .non) .no) rfl rfl rfl h fP) (jW (fl1:=.ret d) (dO (x:=.non) (y:=.non) (by nofun) (by nofun) rfl) (cZ (by nofun)) rfl))))
theorem J4(k:Nat){x d:D}(h:aK T 60 (k+1) "table_text" [x]=some d):aK T 60 (k+2) "_law_do" [.int 0,x]=some d :=
 J5 k (Kw (dO (x:=.int 0) (y:=.int 0) (by nofun) (by nofun) rfl) (aQ rfl (aq (x:=x) (by nofun) bV) h))
theorem J3(k:Nat){x d:D}(h:aK T 60 (k+1) "read_table" [x]=some d):aK T 60 (k+2) "_law_do" [.int 1,x]=some d :=
 J5 k (GJ (dO (x:=.int 1) (y:=.int 0) (by nofun) (by nofun) rfl) (aQ rfl (aq (x:=x) (by nofun) bV) h))
theorem J8(k:Nat){w:Int}{x d:D}{c:Str}(hc:(cxN T 60 (k+1)).exs.contains c=true)(hw:aK T 60 (k+1) "_law_word" [.exc c]=some d)(h:∀rs,evx {cxN T 60 (k+1) with rs:=rs} 60 (aB (top 44)).sc (Cy (.int w) x (.sh .non) (.sh .non) .no) (match aD 44 2 with|.Try [.Assign _ e _] _ _ _ _=>e|_=>.Name "" ⟨0,0,0,0⟩)=some c/\ev {cxN T 60 (k+1) with rs:=rs} 60 (aB (top 44)).sc (Cy (.int w) x (.sh .non) (.sh .non) .no) (match aD 44 2 with|.Try [.Assign _ e _] _ _ _ _=>e|_=>.Name "" ⟨0,0,0,0⟩)=none):aK T 60 (k+2) "_law_do" [.int w,x]=some d:=by
 refine d9 (fd:=aB (top 44)) rfl rfl (fD rfl (d:=.non) (by nofun) (fD rfl (d:=.non) (by nofun) (Qn (U:=Cy (.int w) x (.sh .non) (.sh .non) .no) (U':=Cy (.int w) x (.sh .non) (.sh .non) .no) (c':=c) rfl (HD rfl rfl (h true).2 (h false)) ?_ (nC (dO (x:=.exc c) (y:=.non) (by nofun) (by nofun) rfl) (cZ (aQ rfl (aq (x:=.exc c) (by nofun) bV) hw))))));have e:(jB (cxN T 60 (k+1)) (aB (top 44)).sc "MinorError"&&"MinorError"==(cxN T 60 (k+1)).top)=true:=rfl;simp only[hc,Bool.and_true];rfl
theorem J7(k:Nat){x:D}(h:jD T 60 (k+1) "table_text" [x]=some "NoTable"/\aK T 60 (k+1) "table_text" [x]=none):aK T 60 (k+2) "_law_do" [.int 0,x]=some (.str "no table") :=
 J8 k rfl (BJ k) λrs=>Lf (dO (x:=.int 0) (y:=.int 0) (xName rfl) (jF rfl) rfl) (qg (cx:={cxN T 60 (k+1) with rs:=rs}) rfl (aq (x:=x) (xName rfl) bV) h.1 h.2)
theorem J6(k:Nat){x:D}(h:jD T 60 (k+1) "read_table" [x]=some "NoText"/\aK T 60 (k+1) "read_table" [x]=none):aK T 60 (k+2) "_law_do" [.int 1,x]=some (.str "no text") :=
 J8 k rfl (GQ k) λrs=>Lg (dO (x:=.int 1) (y:=.int 0) (xName rfl) (jF rfl) rfl) (qg (cx:={cxN T 60 (k+1) with rs:=rs}) rfl (aq (x:=x) (xName rfl) bV) h.1 h.2)
def ans(z:Str):D:=match rP z with
 |some rows=>tD rows
 |none=>.str "no text"
theorem wH(k:Nat){z:Str}(h:z.length<=1000):aK T 60 (k+7) "_law_do" [.int 1,.str z]=some (ans z):=by
 unfold ans
 cases hr:rP z with
 |some rows=>exact J3 (k+5) (CK k h hr)
 |none=>exact J6 (k+5) (CN k h hr)
theorem FP(k:Nat){rows:List (List Int)}(Q:Tb rows):aK T 60 (k+6) "_law_do" [.int 0,tD rows]=some (.str (TT rows)):=J4 (k+4) (table_text k Q)
theorem J9(k:Nat){d:D}(h:dep d<1000)(hf:cP d=false):aK T 60 (k+6) "_law_do" [.int 0,d]=some (.str "no table"):=J7 (k+4) (yp k h hf)
theorem LC:((List.range 199).map λi=>blt "str" [.int (num i)])=(List.range 199).map λi=>some (.str (nT (num i))):=by rfl'
theorem str_int{v:Int}(h1:-99<=v)(h2:v<=99):blt "str" [.int v]=some (.str (nT v)):=by
 obtain⟨i,hi,rfl⟩:=ni h1 h2;exact jN LC hi
theorem vH{x y:Str}{l:List Nat}(e:cl x++cl y=l)(h:l.length<=100000):binop .Add (.str x) (.str y)=some (.str (mk l)):=by
 show(if szl (x.length+y.length)=true then some (D.str (x++y)) else none)=_;rw[P5z (eE (by rw[<- e,N1z] at h;exact h))];exact congrArg (λz=>some (D.str z)) (ext ((jY _ _).trans e))
def uT(t:D)(l:List Nat)(s1 s2 s3:Sl):Rho:=[("_law_table_here",.sh t),("_law_text_here",.sh (.str (mk l))),("_law_row",s1),("_law_k",s2),("_law_number",s3)]
theorem rB{t:D}{l:List Nat}{s1 s2 s3:Sl}(h1:nOw s1=true)(h2:nOw s2=true)(h3:nOw s3=true):dI (uT t l s1 s2 s3)=true:=bx rfl (bx rfl (bx h1 (bx h2 (bx h3 rfl))))
def pT(r:List Int)(j:Nat):List Nat:=J 32 ((List.range j).map λi=>cl (nT (r.getD i 0)))
theorem IW(r:List Int):pT r r.length=rowL r:=by
 unfold pT rowL;congr 1;apply List.ext_getElem?;intro i;rw[List.getElem?_map,List.getElem?_map]
 by_cases h:i<r.length
 .simp[h]
 .simp[h]
theorem TJ(r:List Int):pT r 0=[]:=rfl
theorem QS(r:List Int)(j:Nat):pT r (j+1)=pT r j++((if 0<j then[32] else[])++cl (nT (r.getD j 0))):=by
 unfold pT;rw[List.range_succ,P3z]
 cases j with
 |zero=>rfl
 |succ j=>exact xM 32 _ (by simp)
theorem vA{r:List Int}(hv:∀v∈r,-99<=v/\v<=99):∀j,j<=r.length->(pT r j).length<=4*j
 |0,_=>X4z _
 |j+1,h=>by
  have h1:=vA hv j (by omega)
  have hm:r.getD j 0∈r:=by
   rw[List.getD_eq_getElem?_getD,List.getElem?_eq_getElem (by omega)];exact T2z _
  have h2:=(pW (hv _ hm).1 (hv _ hm).2).2.2.1;rw[jQ] at h2;rw[QS,N1z,N1z];split
  .simp only[P0z];omega
  .simp only[N3z];omega
def sAt(s:Sl)(g:Nat->D):Nat->Sl
 |0=>s
 |i+1=>.sh (g i)
theorem HB{s:Sl}{g:Nat->D}(h:nOw s=true):∀i,nOw (sAt s g i)=true
 |0=>h
 |_+1=>rfl
theorem Jk(r:List Int):r.map D.int=Ls r.length λi=>.int (r.getD i 0):=by
 unfold Ls;apply List.ext_getElem?;intro i;rw[List.getElem?_map,List.getElem?_map]
 by_cases h:i<r.length
 .simp[h]
 .simp[h]
def inF:Stmt:=(aF (aD 45 1)).getD 0 (.Pass ⟨0,0,0,0⟩)
theorem BR(k:Nat){t:D}{A:List Nat}{r:List Int}{s1 s2 s3:Sl}(h1:nOw s1=true)(h2:nOw s2=true)(h3:nOw s3=true)(hA:A.length<=1000)(h4:r.length<=4)(hv:∀v∈r,-99<=v/\v<=99) :
  bF (fF (cxN T 60 k) 60 58 (aB (top 45)).sc (cu inF) (aF inF)) (Ls r.length λi=>.tup [.int i,.int (r.getD i 0)]) (uT t A s1 s2 s3)=some (.nxt (uT t (A++rowL r) s1 (sAt s2 (λi=>.int i) r.length) (sAt s3 (λi=>.int (r.getD i 0)) r.length))):=by
 have go:=iz (f:=fF (cxN T 60 k) 60 58 (aB (top 45)).sc (cu inF) (aF inF)) (h:=λi=>.tup [.int i,.int (r.getD i 0)]) (R:=λj=>uT t (A++pT r j) s1 (sAt s2 (λi=>.int i) j) (sAt s3 (λi=>.int (r.getD i 0)) j)) (N:=r.length) λj hj=>by
  have hm:r.getD j 0∈r:=by
   rw[List.getD_eq_getElem?_getD,List.getElem?_eq_getElem hj];exact T2z _
  have hl:=vA hv j (by omega);have hl2:=vA hv (j+1) hj;have hc:=pW (hv _ hm).1 (hv _ hm).2;refine dg (U1:=uT t (A++pT r j) s1 (.sh (.int j)) (.sh (.int (r.getD j 0)))) rfl (gH (rB h1 rfl rfl) rfl rfl (d:=.str (mk (A++pT r (j+1)))) ?_ fP);refine cI (x:=.str (mk (A++pT r j++(if 0<j then[32] else[])))) (y:=.str (nT (r.getD j 0))) (cI (x:=.str (mk (A++pT r j))) (y:=.str (mk (if 0<j then[32] else[]))) (by nofun) ?_ (vH rfl ?_)) (dw rfl rfl rfl (by walk_at "xm") (str_int (hv _ hm).1 (hv _ hm).2)) (vH ?_ ?_)
  .by_cases hj0:0<j
   .rw[P5z hj0]
    exact Kw (dO (x:=.int j) (y:=.int 0) (by nofun) (by nofun) (by rw[oGt,Y3z (by omega)])) (by nofun)
   .rw[Q5z hj0]
    exact GJ (dO (x:=.int j) (y:=.int 0) (by nofun) (by nofun) (by rw[oGt,C3z (by omega)])) (by nofun)
  .rw[N1z,N1z]
   split<;>simp<;>omega
  .rw[QS]
   show(A++pT r j++_)++_=_;simp only[G2z]
  .rw[N1z];omega
 simp only[IW,TJ,G3z] at go;exact go
theorem rG(rows:List (List Int))(r:List Int):TTl (rows++[r])=TTl rows++(rowL r++[10]):=by
 unfold TTl;rw[List.flatMap_append];simp
theorem xu{rows:List (List Int)}(h:∀r∈rows,r.length<=4/\∀v∈r,-99<=v/\v<=99):(TTl rows).length<=17*rows.length:=by
 induction rows with
 |nil=>exact X4z _
 |cons r rows ih =>
  have h1:=ih λx hx=>h x (S0z _ hx);have h2:=iM (h r (by simp)).1 (h r (by simp)).2;show((rowL r++[10])++TTl rows).length<=_;simp only[N1z,Q2z,N3z];omega
theorem qX{α:Type}{f:D->Rho->Option Fl}{h:α->D}{P:List α->Rho->Prop}{whole:List α}(hs:∀pre x post U,pre++x::post=whole->P pre U->∃U',P (pre++[x]) U'/\f (h x) U=some (.nxt U')):∀{l pre:List α}{U:Rho},pre++l=whole->P pre U->∃U',P whole U'/\bF f (l.map h) U=some (.nxt U')
 |[],pre,U,e,hP=>⟨U,by rw[G3z] at e;rw[<- e];exact hP,rfl⟩
 |x::l,pre,U,e,hP=>by
  obtain⟨U',h1,h2⟩:=hs pre x l U e hP;obtain⟨U2,h3,h4⟩:=qX hs (l:=l) (pre:=pre++[x]) (by rw[<- e];simp) h1;exact⟨U2,h3,by simp only[G4z,bF,h2];exact h4⟩
def PX(rows:List (List Int))(pre:List (List Int))(U:Rho):Prop:=∃s1 s2 s3,nOw s1=true/\nOw s2=true/\nOw s3=true/\U=uT (tD rows) (TTl pre) s1 s2 s3
theorem qR(k:Nat){rows:List (List Int)}(Q:Tb rows):aK T 60 (k+1) "_law_text" [tD rows]=some (.str (TT rows)):=by
 have hl:=Q.len
 obtain⟨U',⟨s1,s2,s3,q1,q2,q3,rfl⟩,go⟩:=qX (f:=fF (cxN T 60 k) 60 59 (aB (top 45)).sc (cu (aD 45 1)) (aF (aD 45 1))) (h:=λr:List Int=>D.tup (r.map D.int)) (P:=PX rows) (whole:=rows) (λpre r post U e hP=>by
  obtain⟨s1,s2,s3,q1,q2,q3,rfl⟩:=hP
  have hr:r∈rows:=by rw[<- e];simp
  obtain⟨_,h4,hv⟩:=Q.row r hr;have hp:=xu (rows:=pre) λx hx=>(Q.row x (by rw[<- e];simp[hx])).2
  have hpl:pre.length<=rows.length:=by rw[<- e];simp
  have hrl:=iM h4 hv;have q2':=HB (g:=λi=>.int i) q2 r.length;have q3':=HB (g:=λi=>.int (r.getD i 0)) q3 r.length;refine⟨uT (tD rows) (TTl (pre++[r])) (.sh (.tup (r.map D.int))) (sAt s2 (λi=>.int i) r.length) (sAt s3 (λi=>.int (r.getD i 0)) r.length),⟨_,_,_,rfl,q2',q3',rfl⟩,dg (U1:=uT (tD rows) (TTl pre) (.sh (.tup (r.map D.int))) s2 s3) rfl (Sw (rB rfl q2 q3) (QD (m:=r.length) (h:=λi=>.int (r.getD i 0)) rfl ((show ev _ _ _ _ _=some (.tup (r.map D.int)) by nofun).trans (congrArg (λl=>some (D.tup l)) (Jk r)))) (BR k rfl q2 q3 (by omega) h4 hv) ?_)⟩;refine gH (rB rfl q2' q3') rfl rfl (d:=.str (mk (TTl (pre++[r])))) (cI (x:=.str (mk (TTl pre++rowL r))) (y:=.str ⟨#[10]⟩) (by nofun) (by nofun) (vH ?_ ?_)) fP
  .rw[rG];show(TTl pre++rowL r)++[10]=_;rw[G2z]
  .rw[rG];simp only[N1z,Q2z,N3z];omega) (l:=rows) (pre:=[]) (U:=uT (tD rows) [] .no .no .no) rfl ⟨_,_,_,rfl,rfl,rfl,rfl⟩
 exact d9 (fd:=aB (top 45)) rfl rfl (fD rfl (d:=.str ⟨#[]⟩) (by nofun) (JG (U':=uT (tD rows) [] .no .no .no) (U2:=uT (tD rows) (TTl rows) s1 s2 s3) (l:=rows.map λr:List Int=>D.tup (r.map D.int)) rfl (wSq (x:=tD rows) rfl (by nofun) rfl) go (Ae (d:=.str (mk (TTl rows))) (rB q1 q2 q3) (by nofun))))
theorem jg{α β:Type}{f:D->Rho->Option Fl}{h:α->D}{g:α->Option β}{P:List β->Rho->Prop}{d:D}{N:Nat}:∀{l:List α}{acc:List β}{U:Rho},acc.length+l.length<=N->(∀a∈l,∀acc U,acc.length<N->P acc U->(∀b,g a=some b->∃U',P (acc++[b]) U'/\f (h a) U=some (.nxt U'))/\(g a=none->f (h a) U=some (.ret d)))->P acc U ->
  (∀r,oL g l=some r->∃U',P (acc++r) U'/\bF f (l.map h) U=some (.nxt U'))/\(oL g l=none->bF f (l.map h) U=some (.ret d))
 |[],acc,U,_,_,hP=>⟨λr e=>by cases e;exact⟨U,by rw[G3z];exact hP,rfl⟩,λe=>by cases e⟩
 |a::l,acc,U,hN,hs,hP=>by
  have h0:=hs a (by simp) acc U (by simp at hN;omega) hP
  cases hg:g a with
  |none=>exact⟨λr e=>by simp[oL,hg] at e,λ_=>by simp only[G4z,bF,h0.2 hg];rfl⟩
  |some b =>
   obtain⟨U',h1,h2⟩:=h0.1 b hg;have ih:=jg (l:=l) (acc:=acc++[b]) (U:=U') (by simp at hN ⊢;omega) (λx hx=>hs x (S0z _ hx)) h1;refine⟨λr e=>?_,λe=>?_⟩
   .simp only[oL,hg,U2z,L0z] at e
    obtain⟨t,ht,rfl⟩:=e;obtain⟨U2,h3,h4⟩:=ih.1 t ht;exact⟨U2,by simpa using h3,by simp only[G4z,bF,h2];exact h4⟩
   .simp only[oL,hg,U2z,Option.map_eq_none_iff] at e
    simp only[G4z,bF,h2];exact ih.2 e
theorem j5{α:Type}{f:D->Option (Option D)}{t:α->Bool}{h g:α->D}:∀{l:List α},(∀x∈l,f (h x)=some (if t x then some (g x) else none))->aP f (l.map h)=some ((l.filter t).map g)
 |[],_=>rfl
 |x::r,k=>by
  have h1:=k x (by simp);have h2:=j5 (l:=r) λy hy=>k y (S0z _ hy);simp only[G4z,aP,h1]
  cases ht:t x with
  |true=>simp only[O5z,Y2z,ht,G4z,h2];rfl
  |false=>simp only[O1z,M5z,Y2z,ht];exact h2
theorem wTx{cx:Cxt}{n:Nat}{sc:Scope}{U:Rho}{e:Expr}{tup:Bool}{z:Str}(hw:xP cx sc e=.sq)(h1:ev cx n sc U e=some (.str z))(ha:Asc z):evI cx tup (ev cx n sc U) sc e=some ((cl z).map λc=>.str ⟨#[c]⟩):=by
 have hz:z.cps.all (· < 128)=true:=by
  rw[<- Array.all_toList,A3z];exact λx hx=>Y3z (ha x hx)
 unfold evI;rw[hw];simp only[h1,U2z,jU,hz,O5z]
def fgT(w:Str):Str:=mk (gO w)
theorem JM{w:Str}{c:Nat}(h:c∈gO w):c∈cl w:=by
 unfold gO at h;split at h
 .exact X0z h
 .exact h
theorem JN(w:Str):(gO w).length<=w.length:=by
 rw[jQ];unfold gO;split
 .simp
 .exact X4z _
theorem Qu(z:Str):tZ z none (some 1)=mk ((cl z).take 1):=by
 refine ext ?_;show((z.cps.toList.drop 0).take _)=_;rw[C4z];show(cl z).take (min 1 z.length-0)=_
 by_cases h:1<=z.length
 .rw[W3z h]
 .have:cl z=[]:=List.length_eq_zero_iff.mp (by have:(cl z).length=z.length:=rfl;omega)
  rw[this];simp
theorem Ke(z:Str):tZ z (some 1) none=mk ((cl z).drop 1):=by
 refine ext ?_;show((z.cps.toList.drop (min 1 z.length)).take (z.length-min 1 z.length))=_
 by_cases h:1<=z.length
 .rw[W3z h]
  refine N0z ?_;rw[J2z];exact X4z _
 .have:cl z=[]:=List.length_eq_zero_iff.mp (by have:(cl z).length=z.length:=rfl;omega)
  show((cl z).drop _).take _=_;rw[this];simp
theorem Ux{x y:Str}:deq (.str x) (.str y)=decide (cl x=cl y):=by
 show(x==y)=_;rw[T3z];simp only[H5z,B2z];exact⟨λh=>by rw[h],ext⟩
theorem KH{x y:Str}:cmpop .Eq (.str x) (.str y)=some (.bl (decide (cl x=cl y))):=by
 rw[oEq (by simp[dep]) (by simp[dep]),Ux]
theorem Jg{a b:Nat}:decide ([a] < [b])=decide (a<b):=by rw[lt_cons_cons,lt_nil_nil];simp
theorem MN{a b:Nat}:cmpop .LtE (.str ⟨#[a]⟩) (.str ⟨#[b]⟩)=some (.bl (decide (a<=b))):=by
 show some (D.bl (!(decide ([b] < [a]))))=_;rw[Jg];congr 2;rw[T3z];simp
def eF(x:Str)(s1 s2 s3 s4 s5 s6:Sl):Rho:=[("_law_text_here",.sh (.str x)),("_law_rows",s1),("_law_line",s2),("_law_row",s3),("_law_word_here",s4),("_law_figures",s5),("_law_table_here",s6)]
def inL:Stmt:=(aF (aD 46 1)).getD 1 (.Pass ⟨0,0,0,0⟩)
theorem JK{F:Nat}{e:Expr}{x:Str}{R r:List D}{s2 s4 s5 s6:Sl}(m1:dW F "_law_rows" e=false)(m2:dW F "_law_row" e=false)(h2:nOw s2=true)(h4:nOw s4=true)(h5:nOw s5=true)(h6:nOw s6=true):frz F e (eF x (.ow R) s2 (.ow r) s4 s5 s6)=eF x (.ow R) s2 (.ow r) s4 s5 s6 :=
 cH rfl (K1 m1 (cH h2 (K1 m2 (cH h4 (cH h5 (cH h6 Gx))))))
theorem Eu(k:Nat){x w:Str}{R r:List D}{s2 s5:Sl}(hw:w.length<=1000):ev (cxN T 60 k) 60 (aB (top 46)).sc (eF x (.ow R) s2 (.ow r) (.sh (.str w)) s5 .no) (match (aF inL).getD 0 (.Pass ⟨0,0,0,0⟩) with|.Assign _ e _=>e|_=>.Name "" ⟨0,0,0,0⟩)=some (.str (fgT w)):=by
 have hc:ev (cxN T 60 k) 59 (aB (top 46)).sc (eF x (.ow R) s2 (.ow r) (.sh (.str w)) s5 .no) (match (aF inL).getD 0 (.Pass ⟨0,0,0,0⟩) with|.Assign _ (.IfExp c _ _ _) _=>c|_=>.Name "" ⟨0,0,0,0⟩)=some (.bl (decide ((cl w).take 1=[45]))) :=
  dO (x:=.str (mk ((cl w).take 1))) (y:=.str ⟨#[45]⟩) (xY (Kv (l:=none) (u:=some 1) (by nofun) dB (iW (by nofun)) (eE (by omega))) (congrArg D.str (Qu w))) (by nofun) KH
 unfold fgT gO
 by_cases h:(cl w).take 1=[45]
 .rw[P5z h]
  rw[Y3z h] at hc;exact Kw hc (xY (Kv (l:=some 1) (u:=none) (by nofun) (iW (by nofun)) dB (eE (by omega))) (congrArg D.str (Ke w)))
 .rw[Q5z h]
  rw[C3z h] at hc;exact GJ hc (show ev _ _ _ _ _=some (.str w) by nofun)
theorem Gb(k:Nat){x w:Str}{R r:List D}{s2:Sl}(hw:w.length<=1000)(ha:Asc w):ev (cxN T 60 k) 60 (aB (top 46)).sc (eF x (.ow R) s2 (.ow r) (.sh (.str w)) (.sh (.str (fgT w))) .no) (match (aF inL).getD 1 (.Pass ⟨0,0,0,0⟩) with|.If c _ _ _=>c|_=>.Name "" ⟨0,0,0,0⟩)=some (.bl (!okW w)):=by
 have hl:=JN w;have e0:cl (fgT w)=gO w:=rfl
 have c1:ev (cxN T 60 k) 59 (aB (top 46)).sc (eF x (.ow R) s2 (.ow r) (.sh (.str w)) (.sh (.str (fgT w))) .no) (match (aF inL).getD 1 (.Pass ⟨0,0,0,0⟩) with|.If (.BoolOp _ (c::_) _) _ _ _=>c|_=>.Name "" ⟨0,0,0,0⟩)=some (.bl (gO w).isEmpty):=by
  refine dO (x:=.str (fgT w)) (y:=.str ⟨#[]⟩) (by nofun) (by nofun) (KH.trans ?_);rw[e0]
  cases gO w<;>rfl
 have c2:ev (cxN T 60 k) 59 (aB (top 46)).sc (eF x (.ow R) s2 (.ow r) (.sh (.str w)) (.sh (.str (fgT w))) .no) (match (aF inL).getD 1 (.Pass ⟨0,0,0,0⟩) with|.If (.BoolOp _ (_::c::_) _) _ _ _=>c|_=>.Name "" ⟨0,0,0,0⟩)=some (.bl (decide (2<(gO w).length))):=by
  refine dO (x:=.int ((gO w).length:Int)) (y:=.int 2) (dw rfl rfl rfl (aq (x:=.str (fgT w)) (by nofun) bV) ?_) (by nofun) (oGt.trans ?_)
  .show(if szl (fgT w).length=true then some (D.int ((fgT w).length:Int)) else none)=_
   rw[P5z (eE (by show(gO w).length<=_;omega))];rfl
  .congr 2
   rw[T3z];simp only[B2z];omega
 have c3:ev (cxN T 60 k) 59 (aB (top 46)).sc (eF x (.ow R) s2 (.ow r) (.sh (.str w)) (.sh (.str (fgT w))) .no) (match (aF inL).getD 1 (.Pass ⟨0,0,0,0⟩) with|.If (.BoolOp _ (_::_::c::_) _) _ _ _=>c|_=>.Name "" ⟨0,0,0,0⟩)=some (.bl (!(gO w).all FZ)):=by
  refine dO (x:=.lst (((gO w).filter λc => !FZ c).map λc=>.str ⟨#[c]⟩)) (y:=.lst []) (d7 (l:=(gO w).map λc=>.str ⟨#[c]⟩) rfl (wTx rfl (show ev _ _ _ _ _=some (.str (fgT w)) by nofun) λc hc=>ha c (JM hc)) (eE (by rw[I3z];omega)) (j5 λc _=>pY rfl (Gp ?_) (by nofun))) (by nofun) ?_
  .unfold FZ
   by_cases h:48<=c
   .rw[Y3z h,M4z]
    exact oN (x:=.str ⟨#[48]⟩) (y:=.str ⟨#[c]⟩) (z:=.str ⟨#[57]⟩) (by nofun) (by nofun) (MN.trans (by rw[Y3z h])) (by nofun) MN
   .rw[C3z h,X3z]
    exact ug (x:=.str ⟨#[48]⟩) (y:=.str ⟨#[c]⟩) (by nofun) (by nofun) (MN.trans (by rw[C3z h]))
  .have hd:dep (.lst (((gO w).filter λc => !FZ c).map λc=>D.str ⟨#[c]⟩))<=50:=by
    simp only[dep]
    have:=dh (b:=0) (l:=((gO w).filter λc => !FZ c).map λc=>D.str ⟨#[c]⟩) λd hd=>by
     obtain⟨c,_,rfl⟩:=List.mem_map.mp hd;simp[dep]
    omega
   rw[oNe hd (by simp[dep,deps]) KR,pN];congr 2;rw[T3z];simp
 unfold okW
 cases h1:(gO w).isEmpty with
 |true=>rw[h1] at c1;exact bH (xX c1)
 |false =>
  rw[h1] at c1
  by_cases h2:(gO w).length<=2
  .rw[C3z (by omega)] at c2
   rw[Y3z h2];exact bH (kj c1 (kj c2 (jx c3)))
  .rw[Y3z (by omega)] at c2
   rw[C3z h2];exact bH (kj c1 (xX c2))
end M80
namespace DE
open PySem
theorem JF{cx:Cxt}{sc:Scope}{U U':Rho}{tg iter:Expr}{body r:List Stmt}{p:Pos}{F m:Nat}{l:List D}{fl fl1:Fl}(hf:frz F iter U=U')(hI:evI cx (cN tg) (ev cx F sc U') sc iter=some l)(hgo:bF (fF cx F m sc tg body) l U'=some fl1)(k2:iJ cx F (m+1) sc r fl1=some fl):blk cx F (m+1) sc (.For tg iter body [] p::r) U=some fl:=by
 subst hf;exact sX hI hgo k2
end DE
namespace M80
open PySem DE PySem.StrLaws
def PV(x:Str)(R:List D)(s2:Sl)(acc:List Int)(U:Rho):Prop:=∃s4 s5,nOw s4=true/\nOw s5=true/\U=eF x (.ow R) s2 (.ow (acc.map D.int)) s4 s5 .no
theorem uh(k:Nat){x w:Str}{R:List D}{s2:Sl}{acc:List Int}{U:Rho}(h2:nOw s2=true)(hw:w.length<=1000)(ha:Asc w)(hl:acc.length<1001)(hP:PV x R s2 acc U) :
  (∀b,wv w=some b->∃U',PV x R s2 (acc++[b]) U'/\fF (cxN T 60 k) 60 58 (aB (top 46)).sc (cu inL) (aF inL) (.str w) U=some (.nxt U'))/\(wv w=none->fF (cxN T 60 k) 60 58 (aB (top 46)).sc (cu inL) (aF inL) (.str w) U=some (.ret (.str "no text"))):=by
 obtain⟨s4,s5,q4,q5,rfl⟩:=hP;have hf:=Eu k (x:=x) (R:=R) (r:=acc.map D.int) (s2:=s2) (s5:=s5) hw;have hc:=Gb k (x:=x) (R:=R) (r:=acc.map D.int) (s2:=s2) hw ha
 have head:∀fl,blk (cxN T 60 k) 60 58 (aB (top 46)).sc ((aF inL).drop 1) (eF x (.ow R) s2 (.ow (acc.map D.int)) (.sh (.str w)) (.sh (.str (fgT w))) .no)=some fl->fF (cxN T 60 k) 60 58 (aB (top 46)).sc (cu inL) (aF inL) (.str w) (eF x (.ow R) s2 (.ow (acc.map D.int)) s4 s5 .no)=some fl:=λfl h =>
  dg (U1:=eF x (.ow R) s2 (.ow (acc.map D.int)) (.sh (.str w)) s5 .no) rfl (zu (U':=eF x (.ow R) s2 (.ow (acc.map D.int)) (.sh (.str w)) s5 .no) (JK rfl rfl h2 rfl q5 rfl) rfl rfl hf h)
 cases ho:okW w with
 |false =>
  have e:wv w=none:=by unfold wv;rw[ho];rfl
  rw[ho] at hc;refine⟨(λb hb=>by rw[e] at hb;cases hb),λ_=>head _ ?_⟩;exact jW (fl1:=.ret (.str "no text")) (by rw[JK rfl rfl h2 rfl rfl rfl];exact hc) (cZ (by nofun)) rfl
 |true =>
  rw[ho] at hc;obtain⟨⟨v,hv⟩,h3⟩:=DG ho
  have e:wv w=some v:=by unfold wv;rw[ho];exact hv
  refine⟨λb hb=>?_,(λz=>by rw[e] at z;cases z)⟩
  rw[e] at hb;cases hb;refine⟨eF x (.ow R) s2 (.ow ((acc++[v]).map D.int)) (.sh (.str w)) (.sh (.str (fgT w))) .no,⟨_,_,rfl,rfl,rfl⟩,head _ ?_⟩;refine Uw (U':=eF x (.ow R) s2 (.ow (acc.map D.int)) (.sh (.str w)) (.sh (.str (fgT w))) .no) (JK rfl rfl h2 rfl rfl rfl) hc ?_;refine JH (U':=eF x (.ow R) s2 (.ow (acc.map D.int)) (.sh (.str w)) (.sh (.str (fgT w))) .no) (d:=.int v) (JK rfl rfl h2 rfl rfl rfl) rfl rfl rfl (eE (by rw[I3z];omega)) ?_ ?_
  .refine dw rfl rfl rfl (aq (x:=.str w) (by nofun) bV) ?_
   show(if decide (w.length<=640)=true then(intText? w).map D.int else none)=_;rw[P5z (Y3z (by omega)),hv];rfl
  .rw[P3z];rfl
def tR(acc:List (List Int)):List D:=acc.map λr=>.tup (r.map D.int)
theorem SQ{acc:List (List Int)}{r:List Int}:tR acc++[.tup (r.map D.int)]=tR (acc++[r]):=by unfold tR;rw[P3z];rfl
def PL(x:Str)(acc:List (List Int))(U:Rho):Prop:=∃s2 s3 s4 s5,nOw s2=true/\nOw s3=true/\nOw s4=true/\nOw s5=true/\U=eF x (.ow (tR acc)) s2 s3 s4 s5 .no
theorem Sq{F:Nat}{e:Expr}{x:Str}{R:List D}{s2 s3 s4 s5 s6:Sl}(m1:dW F "_law_rows" e=false)(h2:nOw s2=true)(h3:nOw s3=true)(h4:nOw s4=true)(h5:nOw s5=true)(h6:nOw s6=true):frz F e (eF x (.ow R) s2 s3 s4 s5 s6)=eF x (.ow R) s2 s3 s4 s5 s6 :=
 cH rfl (K1 m1 (cH h2 (cH h3 (cH h4 (cH h5 (cH h6 Gx))))))
theorem vL(k:Nat){x w:Str}{acc:List (List Int)}{U:Rho}(hw:w.length<=1000)(ha:Asc w)(hl:acc.length<1001)(hP:PL x acc U) :
  (∀r,qF wv w=some r->∃U',PL x (acc++[r]) U'/\fF (cxN T 60 k) 60 59 (aB (top 46)).sc (cu (aD 46 1)) (aF (aD 46 1)) (.str w) U=some (.nxt U'))/\(qF wv w=none->fF (cxN T 60 k) 60 59 (aB (top 46)).sc (cu (aD 46 1)) (aF (aD 46 1)) (.str w) U=some (.ret (.str "no text"))):=by
 obtain⟨s2,s3,s4,s5,q2,q3,q4,q5,rfl⟩:=hP;have hsl:=qz w 32
 have go:=jg (f:=fF (cxN T 60 k) 60 58 (aB (top 46)).sc (cu inL) (aF inL)) (h:=D.str) (g:=wv) (P:=PV x (tR acc) (.sh (.str w))) (d:=.str "no text") (N:=1001) (l:=sp w 32) (acc:=[]) (U:=eF x (.ow (tR acc)) (.sh (.str w)) (.ow []) s4 s5 .no) (by simp;omega)
  (λa ham acc' U hlt hP=>uh k rfl (R4z (gU ham) hw) (uJ ha ham) hlt hP) ⟨s4,s5,q4,q5,rfl⟩
 have head:∀fl fl1,bF (fF (cxN T 60 k) 60 58 (aB (top 46)).sc (cu inL) (aF inL)) ((sp w 32).map D.str) (eF x (.ow (tR acc)) (.sh (.str w)) (.ow []) s4 s5 .no)=some fl1->iJ (cxN T 60 k) 60 59 (aB (top 46)).sc ((aF (aD 46 1)).drop 2) fl1=some fl ->
   fF (cxN T 60 k) 60 59 (aB (top 46)).sc (cu (aD 46 1)) (aF (aD 46 1)) (.str w) (eF x (.ow (tR acc)) s2 s3 s4 s5 .no)=some fl:=λfl fl1 h h' =>
  dg (U1:=eF x (.ow (tR acc)) (.sh (.str w)) s3 s4 s5 .no) rfl (JD (U':=eF x (.ow (tR acc)) (.sh (.str w)) s3 s4 s5 .no) (d:=.lst []) (Sq rfl rfl q3 q4 q5 rfl) rfl (by nofun)
   (JF (U':=eF x (.ow (tR acc)) (.sh (.str w)) (.ow []) s4 s5 .no) (l:=(sp w 32).map D.str) (fl1:=fl1) (JK rfl rfl rfl q4 q5 rfl) (wSq rfl (xTm (x:=.str w) (z:=.str ⟨#[32]⟩) rfl (by nofun) (by nofun) rfl (fj hw)) rfl) h h') rfl (by
    have:pF (eF x (.ow (tR acc)) (.sh (.str w)) s3 s4 s5 .no) "_law_row"=true:=DY rfl (DY rfl (DY rfl (DY (MK q3) (DY (MK q4) (DY (MK q5) (DY rfl Ul))))))
    rw[this];rfl))
 refine⟨λr hr=>?_,λhr=>head _ _ (go.2 hr) rfl⟩;obtain⟨U',⟨t4,t5,g4,g5,rfl⟩,h2⟩:=go.1 r hr;have hrl:=Ay hr;refine⟨eF x (.ow (tR (acc++[r]))) (.sh (.str w)) (.sh (.lst (r.map D.int))) t4 t5 .no,⟨_,_,_,_,rfl,rfl,g4,g5,rfl⟩,head _ _ h2 ?_⟩;refine JH (U':=eF x (.ow (tR acc)) (.sh (.str w)) (.sh (.lst (r.map D.int))) t4 t5 .no) (d:=.tup (r.map D.int)) (cH rfl (K1 rfl (cH rfl (KZ rfl (cH g4 (cH g5 (cH rfl Gx))))))) rfl rfl rfl (eE (by unfold tR;rw[I3z];omega)) (dw rfl rfl rfl (aq (x:=.lst (r.map D.int)) (by nofun) bV) rfl) ?_;rw[SQ];rfl
theorem Kh{x:Str}{s1 s2 s3 s4 s5 s6:Sl}(h1:nOw s1=true)(h2:nOw s2=true)(h3:nOw s3=true)(h4:nOw s4=true)(h5:nOw s5=true)(h6:nOw s6=true):dI (eF x s1 s2 s3 s4 s5 s6)=true:=bx rfl (bx h1 (bx h2 (bx h3 (bx h4 (bx h5 (bx h6 rfl))))))
theorem z6(us:List D):nM us none (some (-1))=us.dropLast:=by
 show(us.drop 0).take _=_;rw[C4z,List.dropLast_eq_take];congr 1;show((-1:Int)+(us.length:Int)).toNat-0=us.length-1;omega
theorem yR(k:Nat){x:Str}(h:x.length<=1000)(ha:Asc x):aK T 60 (k+2) "_law_read" [.str x]=some (ans x):=by
 have hsl:=qz x 10;have hmem:∀w∈(sp x 10).dropLast,w∈sp x 10:=λw hw=>List.dropLast_subset _ hw
 have go:=jg (f:=fF (cxN T 60 (k+1)) 60 59 (aB (top 46)).sc (cu (aD 46 1)) (aF (aD 46 1))) (h:=D.str) (g:=qF wv) (P:=PL x) (d:=.str "no text") (N:=1001) (l:=(sp x 10).dropLast) (acc:=[]) (U:=eF x (.ow []) .no .no .no .no .no) (by rw[List.length_dropLast,N3z];omega)
  (λa ham acc' U hlt hP=>vL (k+1) (R4z (gU (hmem a ham)) h) (uJ ha (hmem a ham)) hlt hP) ⟨.no,.no,.no,.no,rfl,rfl,rfl,rfl,rfl⟩
 have head:∀d fl1,bF (fF (cxN T 60 (k+1)) 60 59 (aB (top 46)).sc (cu (aD 46 1)) (aF (aD 46 1))) ((sp x 10).dropLast.map D.str) (eF x (.ow []) .no .no .no .no .no)=some fl1->iJ (cxN T 60 (k+1)) 60 60 (aB (top 46)).sc ((aB (top 46)).body.drop 2) fl1=some (.ret d)->aK T 60 (k+2) "_law_read" [.str x]=some d:=λd fl1 h1 h2 =>
  d9 (fd:=aB (top 46)) rfl rfl (fD rfl (d:=.lst []) (by nofun) (JF (U':=eF x (.ow []) .no .no .no .no .no) (l:=(sp x 10).dropLast.map D.str) (fl1:=fl1) (Sq rfl rfl rfl rfl rfl rfl)
   (wSq (x:=.lst ((sp x 10).dropLast.map D.str)) rfl (xY (La (us:=(sp x 10).map D.str) (l:=none) (u:=some (-1)) (xTm (x:=.str x) (z:=.str ⟨#[10]⟩) rfl (by nofun) (by nofun) rfl (fj h)) dB (iW (Ld (i:=1) (by nofun)))) (by rw[z6,List.map_dropLast])) rfl) h1 h2))
 have e:ans x=match rL x with|some rows=>tD rows|none=>.str "no text":=by unfold ans;rw[same];try (cases rL x<;>rfl)
 rw[e];unfold rL okT
 cases hr:oL (qF wv) (sp x 10).dropLast with
 |none=>exact head _ _ (go.2 hr) rfl
 |some rows =>
  obtain⟨U',⟨s2,s3,s4,s5,q2,q3,q4,q5,rfl⟩,h2⟩:=go.1 rows hr;refine head _ _ h2 ?_;refine zu (U':=eF x (.sh (.lst (tR rows))) s2 s3 s4 s5 .no) (d:=tD rows) (cH rfl (KZ rfl (cH q2 (cH q3 (cH q4 (cH q5 (cH rfl Gx))))))) rfl rfl (dw rfl rfl rfl (aq (x:=.lst (tR rows)) (by nofun) bV) rfl) ?_;refine Ae (U:=eF x (.sh (.lst (tR rows))) s2 s3 s4 s5 (.sh (tD rows))) (Kh rfl q2 q3 q4 q5 rfl) ?_
  have c1:ev (cxN T 60 (k+1)) 58 (aB (top 46)).sc (eF x (.sh (.lst (tR rows))) s2 s3 s4 s5 (.sh (tD rows))) (match aD 46 3 with|.Return (some (.IfExp (.BoolOp _ (c::_) _) _ _ _)) _=>c|_=>.Name "" ⟨0,0,0,0⟩)=some (.bl (cX (tD rows))) :=
   aQ rfl (aq (x:=tD rows) (by nofun) (aq (x:=.int 99) (by nofun) bV)) (Qg k (R4z mJ (by decide)))
  show ev _ _ _ _ _=some (match (if(cX (tD rows)&&decide (TT rows=x))=true then some rows else none) with|some rows=>tD rows|none=>.str "no text")
  cases h9:cX (tD rows) with
  |false =>
   rw[h9] at c1;exact GJ (bH (rK c1)) (by nofun)
  |true =>
   rw[h9] at c1
   have c2:ev (cxN T 60 (k+1)) 58 (aB (top 46)).sc (eF x (.sh (.lst (tR rows))) s2 s3 s4 s5 (.sh (tD rows))) (match aD 46 3 with|.Return (some (.IfExp (.BoolOp _ (_::c::_) _) _ _ _)) _=>c|_=>.Name "" ⟨0,0,0,0⟩)=some (.bl (decide (TT rows=x))):=by
    refine dO (x:=.str (TT rows)) (y:=.str x) (aQ rfl (aq (x:=tD rows) (by nofun) bV) (qR k (yj h9))) (by nofun) (KH.trans ?_);congr 2;rw[T3z];simp only[B2z];exact⟨ext,λh=>by rw[h]⟩
   by_cases ht:TT rows=x
   .rw[Y3z ht] at c2 ⊢
    exact Kw (bH (mF c1 (jx c2))) (show ev _ _ _ _ _=some (tD rows) by nofun)
   .rw[C3z ht] at c2 ⊢
    exact GJ (bH (mF c1 (jx c2))) (by nofun)
theorem agree(k:Nat){x:Str}(h:x.length<=1000)(ha:Asc x):aK T 60 (k+7) "_law_do" [.int 1,.str x]=some (ans x)/\aK T 60 (k+7) "_law_read" [.str x]=some (ans x):=⟨wH k h,yR (k+5) h ha⟩
theorem Gh(x:Str):dep (ans x)<=50:=by
 unfold ans;split
 .exact R4z mJ (by decide)
 .simp[dep]
theorem QJ{rows:List (List Int)}:eG (tD rows) (tD rows)=true:=by
 unfold tD;rw[eG];refine jo λx hx y hy=>?_;obtain⟨r,_,rfl⟩:=List.mem_map.mp hx;obtain⟨s,_,rfl⟩:=List.mem_map.mp hy;rw[eG];refine jo λx hx y hy=>?_;obtain⟨v,_,rfl⟩:=List.mem_map.mp hx;obtain⟨w,_,rfl⟩:=List.mem_map.mp hy;rw[eG]
theorem Qy(x:Str):eG (ans x) (ans x)=true:=by
 unfold ans;split
 .exact QJ
 .rw[eG]
theorem Km{rows:List (List Int)}(Q:Tb rows):ans (TT rows)=tD rows:=by unfold ans;rw[HW Q]
structure OkT(n:Nat)(z:Str):Prop where
 a:Asc z
 l:z.length<=n
theorem OkT.cut{n:Nat}{z:Str}(h:OkT n z)(lo hi:Option Int):OkT n (tZ z lo hi):=by
 have hm:∀c∈cl (tZ z lo hi),c∈cl z:=λc hc=>X0z (Y0z hc);refine⟨λc hc=>h.a c (hm c hc),R4z ?_ h.l⟩;show(((cl z).drop _).take _).length<=(cl z).length;rw[I2z,J2z];omega
theorem OkT.app{n m:Nat}{y z:Str}(h:OkT n y)(g:OkT m z):OkT (n+m) (M80.mk (cl y++cl z)):=by
 refine⟨λc hc=>?_,?_⟩
 .rcases List.mem_append.mp hc with q|q
  .exact h.a c q
  .exact g.a c q
 .show(cl y++cl z).length<=_
  have h1:(cl y).length<=n:=h.l;have h2:(cl z).length<=m:=g.l;rw[N1z];omega
def TE(cx:Cxt)(n:Nat)(sc:Scope)(U:Rho)(e:Expr)(m:Nat):Prop:=∃y,ev cx n sc U e=some (.str y)/\OkT m y
section
variable{cx:Cxt}{n:Nat}{sc:Scope}{U:Rho}{a b:Expr}{p q:Pos}{m m':Nat}
theorem TE.add(h:TE cx n sc U a m)(g:TE cx n sc U b m')(hz:m+m'<=100000):TE cx (n+1) sc U (.BinOp a .Add b p) (m+m'):=by
 obtain⟨y,h1,h2⟩:=h;obtain⟨z,g1,g2⟩:=g;have o:=h2.app g2;exact⟨_,cI h1 g1 (vH rfl (R4z o.l hz)),o⟩
theorem TE.cut{lo hi:Option Expr}{l u:Option Int}(h:TE cx n sc U a m)(h2:oI cx n sc U lo=some l)(h3:oI cx n sc U hi=some u)(hz:m<=100000):TE cx (n+1) sc U (.Subscript a (.Slice lo hi none q) p) m:=by
 obtain⟨y,h1,o⟩:=h;exact⟨_,Kv h1 h2 h3 (eE (R4z o.l hz)),o.cut l u⟩
def TEs(cx:Cxt)(n:Nat)(sc:Scope)(U:Rho)(es:List Expr)(m:Nat):Prop:=∃ds,jw (ev cx n sc U) es=some ds/\ds.length=es.length/\∀d∈ds,∃y,d=.str y/\OkT m y
theorem TEs.nil:TEs cx n sc U [] m:=⟨[],rfl,rfl,λd hd=>by cases hd⟩
theorem TEs.cons{es:List Expr}(h:TE cx n sc U a m)(k:m<=m')(g:TEs cx n sc U es m'):TEs cx n sc U (a::es) m':=by
 obtain⟨y,h1,o⟩:=h;obtain⟨ds,g1,g2,g3⟩:=g;refine⟨.str y::ds,aq h1 g1,by simp[g2],λd hd=>?_⟩;rcases L4z.mp hd with rfl|hd
 .exact⟨y,rfl,o.a,R4z o.l k⟩
 .exact g3 d hd
theorem TEs.at{es:List Expr}{i:Nat}(h:TEs cx n sc U es m)(hb:ev cx (n+1) sc U b=some (.int i))(hi:i<es.length)(hz:es.length<=1000)(hs:aA b=true):TE cx (n+2) sc U (.Subscript (.List es p) b q) m:=by
 obtain⟨ds,h1,h2,h3⟩:=h;obtain⟨d,g1,g2⟩:=get_some (l:=ds) (i:=i) (by omega);obtain⟨y,rfl,o⟩:=h3 d g2;exact⟨y,xIx (x:=.lst ds) (i:=(i:Int)) (QC h1 (eE (by omega))) hb rfl (eZ g1) hs,o⟩
end
def Tp(x sg:Str)(c:Nat)(s1 s2 s3 s4:Sl):Rho:=[("_law_text_here",.sh (.str x)),("_law_cell_here",.sh (.int c)),("_law_signs",.sh (.str sg)),("_law_at",s1),("_law_sign",s2),("_law_on",s3),("_law_way",s4)]
theorem Jl{x:Str}(h:x.length<=1000):blt "len" [.str x]=some (.int (x.length:Int)):=by
 show(if szl x.length=true then some (D.int (x.length:Int)) else none)=_;rw[P5z (eE (by omega))]
theorem Cq{z:Str}{i:Nat}(hz:z.length<=1000)(ha:Asc z)(hi:i<z.length):∃c,Gs (.str z) (.int i)=some (.str ⟨#[c]⟩)/\OkT 1 ⟨#[c]⟩:=by
 have hi':i<(cl z).length:=hi;refine⟨(cl z)[i],?_,λc hc=>?_,X4z _⟩
 .show(if szl z.length=true then(ixD z.length (i:Int)).bind (λj=>((cl z)[j]?).map λc=>D.str ⟨#[c]⟩) else none)=_
  have e:ixD z.length (i:Int)=some i:=by
   unfold ixD;rw[P5z (by omega),P5z (by omega)];rfl
  rw[P5z (eE (by omega)),e,U2z,List.getElem?_eq_getElem hi'];rfl
 .rw[List.mem_singleton.mp hc]
  exact ha _ (T2z _)
theorem oV(k:Nat){x sg:Str}{c:Nat}(hx:OkT 200 x)(hs:Asc sg)(h1:0<sg.length)(h2:sg.length<=1000):∃y,aK T 60 (k+1) "_law_spoilt" [.str x,.int c,.str sg]=some (.str y)/\OkT 1000 y:=by
 have hl:=hx.l;obtain⟨a,ha⟩:∃a,a=c%(x.length+1):=⟨_,rfl⟩;obtain⟨j,hj⟩:∃j,j=c / 1000%sg.length:=⟨_,rfl⟩
 have hj':j<sg.length:=by rw[hj];exact Nat.mod_lt _ h1
 obtain⟨b,hb⟩:∃b,b=a+1+c / 7%9:=⟨_,rfl⟩;obtain⟨w,hw⟩:∃w,w=c / 100000%8:=⟨_,rfl⟩;obtain⟨s,e1,o1⟩:=Cq h2 hs hj'
 let U:=Tp x sg c (.sh (.int a)) (.sh (.str ⟨#[s]⟩)) (.sh (.int b)) (.sh (.int w))
 have tx:∀{n p},TE (cxN T 60 k) (n+1) (aB (top 42)).sc U (.Name "_law_text_here" p) 200:=λ{n p}=>⟨x,by nofun,hx⟩;have ts:∀{n p},TE (cxN T 60 k) (n+1) (aB (top 42)).sc U (.Name "_law_sign" p) 1:=λ{n p}=>⟨_,by nofun,o1⟩;have va:∀{n p},oI (cxN T 60 k) (n+1) (aB (top 42)).sc U (some (.Name "_law_at" p))=some (some (a:Int)):=λ{n p}=>iW (by nofun);have va1:∀{n p q r},oI (cxN T 60 k) (n+2) (aB (top 42)).sc U (some (.BinOp (.Name "_law_at" p) .Add (.Constant (.int 1) 0 q) r))=some (some ((a:Int)+1)):=λ{n p q r}=>iW (cI (by nofun) (by nofun) rfl);have vo:∀{n p},oI (cxN T 60 k) (n+1) (aB (top 42)).sc U (some (.Name "_law_on" p))=some (some (b:Int)):=λ{n p}=>iW (by nofun)
 have vw:∀{n p},ev (cxN T 60 k) (n+1) (aB (top 42)).sc U (.Name "_law_way" p)=some (.int w):=λ{n p}=>by nofun
 have head:∀y,blk (cxN T 60 k) 60 60 (aB (top 42)).sc ((aB (top 42)).body.drop 4) U=some (.ret (.str y))->aK T 60 (k+1) "_law_spoilt" [.str x,.int c,.str sg]=some (.str y):=λy h =>
  d9 (fd:=aB (top 42)) rfl rfl (fD rfl (d:=.int a) (cI (x:=.int c) (y:=.int ((x.length:Int)+1)) (by nofun) (cI (dw rfl rfl rfl (aq (x:=.str x) (by nofun) bV) (Jl (by omega))) (by nofun) rfl) ((Af (by omega)).trans (congrArg (λi=>some (D.int i)) (by rw[ha];rfl))))
   (fD rfl (d:=.str ⟨#[s]⟩) (GK (x:=.str sg) (y:=.int j) (by nofun) (cI (x:=.int ((c / 1000:Nat):Int)) (y:=.int (sg.length:Int)) (cI (x:=.int c) (y:=.int 1000) (by nofun) (by nofun) ((K3 (by decide) (by decide)).trans (congrArg (λi=>some (D.int i)) (by rfl)))) (dw rfl rfl rfl (aq (x:=.str sg) (by nofun) bV) (Jl h2)) ((Af (by omega)).trans (congrArg (λi=>some (D.int i)) (by rw[hj];rfl)))) e1)
   (fD rfl (d:=.int b) (cI (x:=.int ((a:Int)+1)) (y:=.int ((c / 7%9:Nat):Int)) (cI (x:=.int a) (y:=.int 1) (by nofun) (by nofun) rfl) (cI (x:=.int ((c / 7:Nat):Int)) (y:=.int 9) (cI (x:=.int c) (y:=.int 7) (by nofun) (by nofun) ((K3 (by decide) (by decide)).trans (congrArg (λi=>some (D.int i)) (by rfl)))) (by nofun) ((Af (by decide)).trans (congrArg (λi=>some (D.int i)) (by rfl)))) (congrArg (λi=>some (D.int i)) (by rw[hb];rfl)))
   (fD rfl (d:=.int w) (cI (x:=.int ((c / 100000:Nat):Int)) (y:=.int 8) (cI (x:=.int c) (y:=.int 100000) (by nofun) (by nofun) ((K3 (by decide) (by decide)).trans (congrArg (λi=>some (D.int i)) (by rfl)))) (by nofun) ((Af (by decide)).trans (congrArg (λi=>some (D.int i)) (by rw[hw];rfl)))) h))))
 have big:∀{e:Expr}{m:Nat},TE (cxN T 60 k) 60 (aB (top 42)).sc U e m->m<=1000->(∀y,ev (cxN T 60 k) 60 (aB (top 42)).sc U e=some (.str y)->blk (cxN T 60 k) 60 60 (aB (top 42)).sc ((aB (top 42)).body.drop 4) U=some (.ret (.str y)))->∃y,aK T 60 (k+1) "_law_spoilt" [.str x,.int c,.str sg]=some (.str y)/\OkT 1000 y:=λ⟨y,h,o⟩ hm g=>⟨y,head y (g y h),o.a,R4z o.l hm⟩;have hc:dI U=true:=rfl;have lt:∀{n p q r}{i:Int},ev (cxN T 60 k) (n+2) (aB (top 42)).sc U (.Compare (.Name "_law_way" p) [.Lt] [.Constant (.int i) 0 q] r)=some (.bl (decide ((w:Int)<i))):=λ{n p q r i}=>dO vw (jF rfl) TQ
 have eq:∀{n p q r}{i:Int},ev (cxN T 60 k) (n+2) (aB (top 42)).sc U (.Compare (.Name "_law_way" p) [.Eq] [.Constant (.int i) 0 q] r)=some (.bl (decide ((w:Int)=i))):=λ{n p q r i}=>dO vw (jF rfl) (by
  by_cases h:(w:Int)=i
  .rw[TV h,Y3z h]
  .rw[TY h,C3z h])
 by_cases w0:w<2
 .exact big (m:=200+1+200) (((tx.cut dB va (by decide)).add ts (by decide)).add (tx.cut va dB (by decide)) (by decide)) (by decide) λy hy=>Gy hc (lt.trans (by rw[Y3z (by omega)])) (Ae hc hy) rfl
 have n0:∀{fl},blk (cxN T 60 k) 60 60 (aB (top 42)).sc ((aB (top 42)).body.drop 5) U=some fl->blk (cxN T 60 k) 60 60 (aB (top 42)).sc ((aB (top 42)).body.drop 4) U=some fl:=λh=>w6 hc (lt.trans (by rw[C3z (by omega)])) h
 by_cases w1:w=2
 .exact big (m:=200+200) ((tx.cut dB va (by decide)).add (tx.cut va1 dB (by decide)) (by decide)) (by decide) λy hy=>n0 (Gy hc (eq.trans (by rw[Y3z (by omega)])) (Ae hc hy) rfl)
 have n1:∀{fl},blk (cxN T 60 k) 60 60 (aB (top 42)).sc ((aB (top 42)).body.drop 6) U=some fl->blk (cxN T 60 k) 60 60 (aB (top 42)).sc ((aB (top 42)).body.drop 4) U=some fl:=λh=>n0 (w6 hc (eq.trans (by rw[C3z (by omega)])) h)
 by_cases w2:w<5
 .exact big (m:=200+1+200) (((tx.cut dB va (by decide)).add ts (by decide)).add (tx.cut va1 dB (by decide)) (by decide)) (by decide) λy hy=>n1 (Gy hc (lt.trans (by rw[Y3z (by omega)])) (Ae hc hy) rfl)
 have n2:∀{fl},blk (cxN T 60 k) 60 60 (aB (top 42)).sc ((aB (top 42)).body.drop 7) U=some fl->blk (cxN T 60 k) 60 60 (aB (top 42)).sc ((aB (top 42)).body.drop 4) U=some fl:=λh=>n1 (w6 hc (lt.trans (by rw[C3z (by omega)])) h)
 by_cases w3:w=5
 .exact big (m:=200+200) ((tx.cut dB va (by decide)).add (tx.cut vo dB (by decide)) (by decide)) (by decide) λy hy=>n2 (Gy hc (eq.trans (by rw[Y3z (by omega)])) (Ae hc hy) rfl)
 have n3:∀{fl},blk (cxN T 60 k) 60 60 (aB (top 42)).sc ((aB (top 42)).body.drop 8) U=some fl->blk (cxN T 60 k) 60 60 (aB (top 42)).sc ((aB (top 42)).body.drop 4) U=some fl:=λh=>n2 (w6 hc (eq.trans (by rw[C3z (by omega)])) h)
 by_cases w4:w=6
 .exact big (m:=200+200) ((tx.cut dB vo (by decide)).add (tx.cut va dB (by decide)) (by decide)) (by decide) λy hy=>n3 (Gy hc (eq.trans (by rw[Y3z (by omega)])) (Ae hc hy) rfl)
 refine big (m:=400) ?_ (by decide) λy hy=>n3 (w6 hc (eq.trans (by rw[C3z (by omega)])) (Ae hc hy));have one:∀{n p}{z:Str},OkT 1 z->TE (cxN T 60 k) (n+1) (aB (top 42)).sc U (.Constant (.str z) 0 p) 1:=λ{n p z} o=>⟨z,rfl,o⟩;have o1:OkT 1 ⟨#[32]⟩:=⟨λc hc=>by rw[List.mem_singleton.mp hc];decide,X4z _⟩;have o0:OkT 1 ⟨#[]⟩:=⟨(λc hc=>by cases hc),Z4z _⟩;exact TEs.at (i:=c%5) (TEs.cons (tx.add (one o1) (by decide)) (by decide) (TEs.cons ((one o1).add tx (by decide)) (by decide) (TEs.cons ((tx.cut va dB (by decide)).add (tx.cut dB va (by decide)) (by decide)) (by decide) (TEs.cons (one o0) (by decide) (TEs.cons (tx.add tx (by decide)) (by decide) TEs.nil))))) (cI (x:=.int c) (y:=.int 5) (by nofun) (by nofun) ((Af (by decide)).trans rfl)) (Nat.mod_lt _ (by decide)) (by decide) rfl
def gY(ns:List Int)(s1 s2 s3 s4 s5 s6 s7 s8 s9 sA sB sC sD sE:Sl):Rho:=[("_law_script",.sh (scr ns)),("_law_rows",s1),("_law_columns",s2),("_law_table_here",s3),("_law_row",s4),("_law_k",s5),("_law_text_here",s6),("_law_signs",s7),("_law_spoilt_here",s8),("_law_lines",s9),("_law_place",sA),("_law_less",sB),("_law_odd",sC),("_law_great",sD),("_law_bad",sE)]
theorem j7{ns:List Int}{s1 s2 s3 s4 s5 s6 s7 s8 s9 sA sB sC sD sE:Sl}(h1:nOw s1=true)(h2:nOw s2=true)(h3:nOw s3=true)(h4:nOw s4=true)(h5:nOw s5=true)(h6:nOw s6=true)(h7:nOw s7=true)(h8:nOw s8=true)(h9:nOw s9=true)(hA:nOw sA=true)(hB:nOw sB=true)(hC:nOw sC=true)(hD:nOw sD=true)(hE:nOw sE=true):dI (gY ns s1 s2 s3 s4 s5 s6 s7 s8 s9 sA sB sC sD sE)=true :=
 bx rfl (bx h1 (bx h2 (bx h3 (bx h4 (bx h5 (bx h6 (bx h7 (bx h8 (bx h9 (bx hA (bx hB (bx hC (bx hD (bx hE rfl))))))))))))))
def tF(ns:List Int):Nat->Nat->Int:=λi j=>((pickN ns (10+8*i+j) 199:Nat):Int)-99
theorem Lw(ns:List Int)(i j:Nat):-99<=tF ns i j/\tF ns i j<=99:=by
 have:=dU (ns:=ns) (k:=10+8*i+j) (many:=199) (by decide);unfold tF;omega
def gw(m n:Nat)(f:Nat->Nat->Int):List (List Int):=(List.range m).map λi=>(List.range n).map λj=>f i j
theorem oU(m n:Nat)(f:Nat->Nat->Int):tD (gw m n f)=tbl m n f:=by
 unfold tD gw tbl Ls;simp only[W4z,Function.comp_def]
theorem oR{m n:Nat}{ns:List Int}(h1:1<=m)(h2:m<=4)(h3:1<=n)(h4:n<=4):Tb (gw m n (tF ns)):=yj (by
 rw[oU,BW h1 h3 (Lw ns),Y3z (by omega),Y3z (by omega)];rfl)
theorem Gk{rows:List (List Int)}(Q:Tb rows):OkT 200 (TT rows):=by
 refine⟨λc hc=>?_,?_⟩
 .rw[Qz Q] at hc
  rcases List.mem_append.mp hc with hc|hc
  .rcases xO hc with rfl|⟨a,ha,hc⟩
   .decide
   .obtain⟨r,hr,rfl⟩:=List.mem_map.mp ha
    rcases xO hc with rfl|⟨b,hb,hc⟩
    .decide
    .obtain⟨v,hv,rfl⟩:=List.mem_map.mp hb
     exact(pW ((Q.row r hr).2.2 v hv).1 ((Q.row r hr).2.2 v hv).2).2.2.2 c hc
  .rw[List.mem_singleton.mp hc];decide
 .have h1:=xu λr hr=>(Q.row r hr).2
  have h2:=Q.len;show(TTl rows).length<=200;omega
theorem Kq{c B:Nat}:∀{l:List (List Nat)},(∀a∈l,a.length<=B)->(J c l).length<=(B+1)*l.length
 |[],_=>Z4z _
 |[a],h=>by have:=h a (by simp);simp only[J,P0z];omega
 |a::b::r,h=>by
  have h1:=h a (by simp);have h2:=Kq (c:=c) (l:=b::r) λx hx=>h x (S0z _ hx);have e:(a::b::r).length=(b::r).length+1:=rfl;rw[e,Nat.mul_succ];show(a++c::J c (b::r)).length<=_;rw[N1z,Q2z];omega
theorem pQ(k:Nat){sc:Scope}{U:Rho}{x:Str}{n:Nat}{w e1 e2:Expr}{q1 q2 p1 p2 p3:Pos}(o:OkT 1000 x)(hw:ev (cxN T 60 (k+7)) (n+1) sc U w=some (.int 1))(he:ev (cxN T 60 (k+7)) (n+1) sc U e1=some (.str x))(he2:ev (cxN T 60 (k+7)) (n+1) sc U e2=some (.str x))
  (h1:isFn (cxN T 60 (k+7)) sc "_law_do" [w,e1]=true) (h2:isFn (cxN T 60 (k+7)) sc "_law_read" [e2]=true):ev (cxN T 60 (k+7)) (n+3) sc U (.Compare (.Call (.Name "_law_do" q1) [w,e1] [] p1) [.NotEq] [.Call (.Name "_law_read" q2) [e2] [] p2] p3)=some (.bl false):=by
 obtain⟨g1,g2⟩:=agree k o.l o.a;exact dO (x:=ans x) (y:=ans x) (aQ h1 (aq hw (aq he bV)) g1) (aQ h2 (aq he2 bV) g2) (KD (Gh x) (Qy x))
def xT:List Str:=["","\n","1","1 2\n3\n","01\n","-0\n","100\n","1  2\n"," 1\n","1 \n","+1\n","1\n2\n3\n4\n5\n"]
theorem DN{z:Str}(h:z∈xT):OkT 1000 z:=by
 have e:(xT.all λz=>(cl z).all (λc=>decide (c<128))&&decide (z.length<=1000))=true:=by rfl'
 have:=A3z.mp e z h;rw[L2z,A3z] at this;exact⟨λc hc=>D2z (this.1 c hc),D2z this.2⟩
def great:D:=.tup [.tup [.int 1000,.int (-5)]]
theorem zc(k:Nat):aK T 60 (k+8) "_law_do" [.int 0,great]=some (.str "1000 -5\n"):=by rfl'
theorem JC{α:Type}{l:List α}{i:Nat}(h:i<l.length):∃x,l[i]?=some x/\x∈l:=⟨l[i],List.getElem?_eq_getElem h,T2z h⟩
theorem Eh{ns:List Int}{m n:Nat}{f:Nat->Nat->Int}{s1 s2 s4 s5 s6 s7 s8 s9 sA sB:Sl}(hm1:1<=m)(hm:m<=5)(hn:n<=5)(h1:nOw s1=true)(h2:nOw s2=true)(h4:nOw s4=true)(h5:nOw s5=true)(h6:nOw s6=true)(h7:nOw s7=true)(h8:nOw s8=true)(h9:nOw s9=true)(hA:nOw sA=true)(hB:nOw sB=true) :
  blk (cxN T 60 39) 60 60 (aB (top 47)).sc ((aB (top 47)).body.drop 11) (gY ns s1 s2 (.sh (tbl m n f)) s4 s5 s6 s7 s8 s9 sA sB .no .no .no)=some (.ret (.bl true)):=by
 have hp:=dU (ns:=ns) (k:=111) (many:=12) (by decide);obtain⟨z,g1,g2⟩:=JC (l:=xT) (i:=pickN ns 111 12) hp;obtain⟨v,v1,v2⟩:=Hu 35 ns 120 hm1 hm hn (f:=f);have o:=DN g2
 refine JD (U':=gY ns s1 s2 (.sh (tbl m n f)) s4 s5 s6 s7 s8 s9 sA sB .no .no .no) (d:=.lst (xT.map D.str)) (dF (j7 h1 h2 rfl h4 h5 h6 h7 h8 h9 hA hB rfl rfl rfl)) rfl (by nofun) ?_ rfl (by
  have:pF (gY ns s1 s2 (.sh (tbl m n f)) s4 s5 s6 s7 s8 s9 sA sB .no .no .no) "_law_odd"=true:=nW (j7 h1 h2 rfl h4 h5 h6 h7 h8 h9 hA hB rfl rfl rfl)
  rw[this];rfl)
 refine zu (U':=gY ns s1 s2 (.sh (tbl m n f)) s4 s5 s6 s7 s8 s9 sA sB (.sh (.lst (xT.map D.str))) .no .no) (d:=.str z) (cH rfl (cH h1 (cH h2 (cH rfl (cH h4 (cH h5 (cH h6 (cH h7 (cH h8 (cH h9 (cH hA (cH hB (KZ rfl (cH rfl (cH rfl Gx))))))))))))))) rfl rfl ?_ ?_
 .refine xIx (x:=.lst (xT.map D.str)) (i:=((pickN ns 111 12:Nat):Int)) (by nofun) (aQ rfl (aq (x:=scr ns) (by nofun) (aq (x:=.int 111) (by nofun) (aq (x:=.int 12) (by nofun) bV))) (vd 37 ns 111 (many:=12) (by decide) rfl rfl)) rfl (eZ ?_)
  rw[List.getElem?_map,g1];rfl
 have c1:∀{sD sE:Sl},nOw sD=true->nOw sE=true->dI (gY ns s1 s2 (.sh (tbl m n f)) s4 s5 (.sh (.str z)) s7 s8 s9 sA sB (.sh (.lst (xT.map D.str))) sD sE)=true:=λhD hE=>j7 h1 h2 rfl h4 h5 rfl h7 h8 h9 hA hB rfl hD hE;refine w6 (U:=gY ns s1 s2 (.sh (tbl m n f)) s4 s5 (.sh (.str z)) s7 s8 s9 sA sB (.sh (.lst (xT.map D.str))) .no .no) (c1 rfl rfl) (pQ 32 o (by nofun) (by nofun) (by nofun) rfl rfl) ?_;refine gH (c1 rfl rfl) rfl rfl (d:=great) (by nofun) ?_;refine w6 (U:=gY ns s1 s2 (.sh (tbl m n f)) s4 s5 (.sh (.str z)) s7 s8 s9 sA sB (.sh (.lst (xT.map D.str))) (.sh great) .no) (c1 rfl rfl) (dO (x:=.str "1000 -5\n") (y:=.str "1000 -5\n") (aQ rfl (aq (x:=.int 0) (by nofun) (aq (x:=great) (by nofun) bV)) (zc 31)) (by nofun) (KD (by simp[dep]) rfl)) ?_;refine gH (c1 rfl rfl) rfl rfl (d:=v) (aQ rfl (aq (x:=scr ns) (by nofun) (aq (x:=.int 120) (by nofun) (aq (x:=tbl m n f) (by nofun) bV))) v2) ?_;refine Ae (U:=gY ns s1 s2 (.sh (tbl m n f)) s4 s5 (.sh (.str z)) s7 s8 s9 sA sB (.sh (.lst (xT.map D.str))) (.sh great) (.sh v)) (c1 rfl rfl) ?_
 cases hf:cP v with
 |true=>exact bH (xX (aQ rfl (aq (x:=v) (by nofun) (aq (x:=.non) (by nofun) bV)) (hf▸Bg 38 (by omega))))
 |false=>exact bH (kj (aQ rfl (aq (x:=v) (by nofun) (aq (x:=.non) (by nofun) bV)) (hf▸Bg 38 (by omega))) (jx (dO (x:=.str "no table") (y:=.str "no table") (aQ rfl (aq (x:=.int 0) (by nofun) (aq (x:=v) (by nofun) bV)) (J9 33 (by omega) hf)) (by nofun) (by rw[KH];simp))))
theorem Kd{us:List D}{i:Nat}(h:i<=us.length):nM us none (some (i:Int))=us.take i:=by
 show(us.drop 0).take (min i us.length-0)=_;rw[C4z,W3z h];rfl
theorem z7{us:List D}{i:Nat}(h:i<=us.length):nM us (some (i:Int)) none=us.drop i:=by
 show(us.drop (min i us.length)).take (us.length-min i us.length)=_;rw[W3z h,N0z (by rw[J2z];exact X4z _)]
theorem MP{us vs:List D}(h:us.length+vs.length<=100000):binop .Add (.lst us) (.lst vs)=some (.lst (us++vs)):=by
 show(if szl (us.length+vs.length)=true then some (D.lst (us++vs)) else none)=_;rw[P5z (eE h)]
theorem Ef{ns:List Int}{m n:Nat}{s1 s2 s4 s5 s7 s8:Sl}(hm1:1<=m)(hm:m<=4)(hn1:1<=n)(hn:n<=4)(h1:nOw s1=true)(h2:nOw s2=true)(h4:nOw s4=true)(h5:nOw s5=true)(h7:nOw s7=true)(h8:nOw s8=true) :
  blk (cxN T 60 39) 60 60 (aB (top 47)).sc ((aB (top 47)).body.drop 7) (gY ns s1 s2 (.sh (tbl m n (tF ns))) s4 s5 (.sh (.str (TT (gw m n (tF ns))))) s7 s8 .no .no .no .no .no .no)=some (.ret (.bl true)):=by
 have Q:=oR (ns:=ns) hm1 hm hn1 hn;generalize hR:gw m n (tF ns)=rows at Q;have hl:=Q.len;have o:=Gk Q;have e:=Hx Q
 have hS:∀w∈sp (TT rows) 10,w.length<=16:=λw hw=>by
  rw[e] at hw;rcases List.mem_append.mp hw with hw|hw
  .obtain⟨r,hr,rfl⟩:=List.mem_map.mp hw
   exact iM (Q.row r hr).2.1 (Q.row r hr).2.2
  .rw[List.mem_singleton.mp hw];exact Z4z _
 have hN:(sp (TT rows) 10).length<=5/\0<(sp (TT rows) 10).length:=by rw[e];simp;omega
 have hasc:=λw (hw:w∈sp (TT rows) 10)=>uJ o.a hw;generalize hW:sp (TT rows) 10=W at hS hN hasc e;have hp:=dU (ns:=ns) (k:=110) (many:=W.length) hN.2;generalize hP:pickN ns 110 W.length=p at hp
 have hWm:∀w∈W.take p++W.drop (p+1),w∈W:=λw hw=>by
  rcases List.mem_append.mp hw with hw|hw
  .exact Y0z hw
  .exact X0z hw
 have hVl:(W.take p++W.drop (p+1)).length<=5:=by
  rw[N1z,I2z,J2z];omega
 have hV:∃y,y=mk (J 10 ((W.take p++W.drop (p+1)).map cl)):=⟨_,rfl⟩;obtain⟨y,hy⟩:=hV
 have oy:OkT 1000 y:=by
  subst hy;refine⟨λc hc=>?_,?_⟩
  .rcases xO hc with rfl|⟨a,ha,hc⟩
   .decide
   .obtain⟨w,hw,rfl⟩:=List.mem_map.mp ha
    exact hasc w (hWm w hw) c hc
  .have:=Kq (c:=10) (B:=16) (l:=(W.take p++W.drop (p+1)).map cl) λa ha=>by
    obtain⟨w,hw,rfl⟩:=List.mem_map.mp ha;exact hS w (hWm w hw)
   rw[I3z] at this;show(J 10 _).length<=1000;omega
 have c1:∀{s9 sA sB:Sl},nOw s9=true->nOw sA=true->nOw sB=true->dI (gY ns s1 s2 (.sh (tbl m n (tF ns))) s4 s5 (.sh (.str (TT rows))) s7 s8 s9 sA sB .no .no .no)=true:=λh9 hA hB=>j7 h1 h2 rfl h4 h5 rfl h7 h8 h9 hA hB rfl rfl rfl;refine gH (U:=gY ns s1 s2 (.sh (tbl m n (tF ns))) s4 s5 (.sh (.str (TT rows))) s7 s8 .no .no .no .no .no .no) (c1 rfl rfl rfl) rfl rfl (d:=.lst (W.map D.str)) ((xTm (x:=.str (TT rows)) (z:=.str ⟨#[10]⟩) rfl (by nofun) (by nofun) rfl (fj (R4z o.l (by decide)))).trans (by rw[hW])) ?_;refine gH (U:=gY ns s1 s2 (.sh (tbl m n (tF ns))) s4 s5 (.sh (.str (TT rows))) s7 s8 (.sh (.lst (W.map D.str))) .no .no .no .no .no) (c1 rfl rfl rfl) rfl rfl (d:=.int p) (aQ rfl (aq (x:=scr ns) (by nofun) (aq (x:=.int 110) (by nofun) (aq (x:=.int (W.length:Int)) (dw rfl rfl rfl (aq (x:=.lst (W.map D.str)) (by nofun) bV) (xq.trans (by rw[I3z]))) bV))) ((vd 37 ns 110 (many:=W.length) hN.2 rfl rfl).trans (by rw[hP]))) ?_;have hl':(W.map D.str).length=W.length:=I3z ..;refine gH (U:=gY ns s1 s2 (.sh (tbl m n (tF ns))) s4 s5 (.sh (.str (TT rows))) s7 s8 (.sh (.lst (W.map D.str))) (.sh (.int p)) .no .no .no .no) (c1 rfl rfl rfl) rfl rfl (d:=.str y) (xTm (x:=.str ⟨#[10]⟩) (z:=.lst ((W.take p++W.drop (p+1)).map D.str)) rfl (by nofun) ?_ rfl (hy▸uw (B:=16) (λw hw=>hS w (hWm w hw)) (by omega))) ?_
 .refine xY (cI (x:=.lst ((W.map D.str).take p)) (y:=.lst ((W.map D.str).drop (p+1))) (xY (La (us:=W.map D.str) (l:=none) (u:=some (p:Int)) (by nofun) dB (iW (by nofun))) (congrArg D.lst (Kd (by omega)))) (xY (La (us:=W.map D.str) (l:=some ((p+1:Nat):Int)) (u:=none) (by nofun) (iW (cI (x:=.int p) (y:=.int 1) (by nofun) (by nofun) rfl)) dB) (congrArg D.lst (z7 (by omega)))) (MP (by rw[I2z,J2z,hl'];omega))) (by rw[P3z,List.map_take,List.map_drop])
 refine w6 (U:=gY ns s1 s2 (.sh (tbl m n (tF ns))) s4 s5 (.sh (.str (TT rows))) s7 s8 (.sh (.lst (W.map D.str))) (.sh (.int p)) (.sh (.str y)) .no .no .no) (c1 rfl rfl rfl) (pQ 32 oy (by nofun) (by nofun) (by nofun) rfl rfl) ?_;exact Eh hm1 (by omega) (by omega) h1 h2 h4 h5 rfl h7 h8 rfl rfl rfl
def LK:Stmt->Str
 |.Assign _ (.Constant (.str z) _ _) _=>z
 |.Assign _ (.BinOp _ _ (.Constant (.str z) _ _) _) _=>z
 |_=>""
def oh:List Stmt:=aF (aD 47 6)
def ifB:List Stmt:=match oh.getD 1 (.Pass ⟨0,0,0,0⟩) with|.If _ b _ _=>b|_=>[]
def sg(i:Nat):Str:=match i with
 |0=>LK (oh.getD 0 (.Pass ⟨0,0,0,0⟩))
 |1=>LK (ifB.getD 0 (.Pass ⟨0,0,0,0⟩))
 |_=>LK (ifB.getD 1 (.Pass ⟨0,0,0,0⟩))
def sgB(z:Str):Bool:=(cl z).all (λc=>decide (c<128))&&decide (0<z.length)&&decide (z.length<=500)
theorem Ma:sgB (sg 0)=true/\sgB (sg 1)=true/\sgB (sg 2)=true:=⟨by rfl',by rfl',by rfl'⟩
theorem uP{z:Str}(h:sgB z=true):OkT 500 z/\0<z.length:=by
 unfold sgB at h;rw[L2z,L2z,A3z] at h;exact⟨⟨λc hc=>D2z (h.1.1 c hc),D2z h.2⟩,D2z h.1.2⟩
def oM(ns:List Int)(m n:Nat)(s4 s5 s7 s8:Sl):Rho:=gY ns (.sh (.int m)) (.sh (.int n)) (.sh (tbl m n (tF ns))) s4 s5 (.sh (.str (TT (gw m n (tF ns))))) s7 s8 .no .no .no .no .no .no
section
variable{ns:List Int}{m n:Nat}{s4 s5 s7 s8:Sl}
theorem gk(h4:nOw s4=true)(h5:nOw s5=true)(h7:nOw s7=true)(h8:nOw s8=true):dI (oM ns m n s4 s5 s7 s8)=true:=j7 rfl rfl rfl h4 h5 rfl h7 h8 rfl rfl rfl rfl rfl rfl
theorem Bf{i:Nat}{z:Str}(Q:Tb (gw m n (tF ns)))(h4:nOw s4=true)(h8:nOw s8=true)(o:OkT 1000 z)(h0:0<z.length) :
  ∃y,blk (cxN T 60 39) 60 59 (aB (top 47)).sc (oh.drop 2) (oM ns m n s4 (.sh (.int i)) (.sh (.str z)) s8)=some (.nxt (oM ns m n s4 (.sh (.int i)) (.sh (.str z)) (.sh (.str y)))):=by
 have hp:=vd 37 ns (100+i) (many:=1000000000) (by decide) (i:=100+(i:Int)) (by omega) (m:=1000000000) rfl;generalize pickN ns (100+i) 1000000000=c at hp;obtain⟨y,e1,oy⟩:=oV 38 (c:=c) (Gk Q) o.a h0 o.l;refine⟨y,?_⟩;refine gH (gk h4 rfl rfl h8) rfl rfl (d:=.str y) (aQ rfl (aq (x:=.str (TT (gw m n (tF ns)))) (by nofun) (aq (x:=.int c) (aQ rfl (aq (x:=scr ns) (by nofun) (aq (x:=.int (100+(i:Int))) (cI (x:=.int 100) (y:=.int i) (by nofun) (by nofun) rfl) (aq (x:=.int 1000000000) (cI (x:=.int 10) (y:=.int 9) (by nofun) (by nofun) rfl) bV))) hp) (aq (x:=.str z) (by nofun) bV))) e1) ?_;exact w6 (U:=oM ns m n s4 (.sh (.int i)) (.sh (.str z)) (.sh (.str y))) (gk h4 rfl rfl rfl) (pQ 32 oy (by nofun) (by nofun) (by nofun) rfl rfl) fP
theorem Ju{i:Nat}(Q:Tb (gw m n (tF ns)))(h4:nOw s4=true)(h5:nOw s5=true)(h7:nOw s7=true)(h8:nOw s8=true) :
  ∃s5' s7' s8',nOw s5'=true/\nOw s7'=true/\nOw s8'=true/\fF (cxN T 60 39) 60 59 (aB (top 47)).sc (cu (aD 47 6)) oh (.int i) (oM ns m n s4 s5 s7 s8)=some (.nxt (oM ns m n s4 s5' s7' s8')):=by
 obtain⟨g0,g1,g2⟩:=Ma;obtain⟨o0,p0⟩:=uP g0;obtain⟨o1,p1⟩:=uP g1;obtain⟨o2,p2⟩:=uP g2
 have head:∀fl,blk (cxN T 60 39) 60 59 (aB (top 47)).sc (oh.drop 1) (oM ns m n s4 (.sh (.int i)) (.sh (.str (sg 0))) s8)=some fl->fF (cxN T 60 39) 60 59 (aB (top 47)).sc (cu (aD 47 6)) oh (.int i) (oM ns m n s4 s5 s7 s8)=some fl:=λfl h =>
  dg (U1:=oM ns m n s4 (.sh (.int i)) s7 s8) rfl (gH (gk h4 rfl h7 h8) rfl rfl (d:=.str (sg 0)) (by nofun) h)
 have c1:ev (cxN T 60 39) 60 (aB (top 47)).sc (oM ns m n s4 (.sh (.int i)) (.sh (.str (sg 0))) s8) (match oh.getD 1 (.Pass ⟨0,0,0,0⟩) with|.If c _ _ _=>c|_=>.Name "" ⟨0,0,0,0⟩)=some (.bl (decide ((2:Int)<i))):=dO (x:=.int i) (y:=.int 2) (by nofun) (by nofun) oGt
 by_cases hi:(2:Int)<i
 .rw[Y3z hi] at c1
  have o3:OkT 1000 (M80.mk (cl (sg 1)++cl (sg 2))):=o1.app o2;obtain⟨y,hy⟩:=Bf (i:=i) Q h4 h8 o3 (by show 0<(cl (sg 1)++cl (sg 2)).length;rw[N1z];exact I1z p1 (P2z _ _));refine⟨_,_,_,rfl,rfl,rfl,head _ (Gy (gk h4 rfl rfl h8) c1 (fl1:=.nxt (oM ns m n s4 (.sh (.int i)) (.sh (.str (M80.mk (cl (sg 1)++cl (sg 2))))) s8)) ?_ hy)⟩;refine gH (gk h4 rfl rfl h8) rfl rfl (d:=.str (sg 1)) (by nofun) ?_;exact gH (U:=oM ns m n s4 (.sh (.int i)) (.sh (.str (sg 1))) s8) (gk h4 rfl rfl h8) rfl rfl (d:=.str (M80.mk (cl (sg 1)++cl (sg 2)))) (cI (x:=.str (sg 1)) (y:=.str (sg 2)) (by nofun) (by nofun) (vH rfl (R4z o3.l (by decide)))) fP
 .rw[C3z hi] at c1
  obtain⟨y,hy⟩:=Bf (i:=i) (z:=sg 0) Q h4 h8 ⟨o0.a,R4z o0.l (by decide)⟩ p0;exact⟨_,_,_,rfl,rfl,rfl,head _ (w6 (gk h4 rfl rfl h8) c1 hy)⟩
end
theorem yS{ns:List Int}{m n:Nat}{s4:Sl}(hm1:1<=m)(hm:m<=4)(hn1:1<=n)(hn:n<=4)(h4:nOw s4=true) :
  blk (cxN T 60 39) 60 60 (aB (top 47)).sc ((aB (top 47)).body.drop 5) (oM ns m n s4 .no .no .no)=some (.ret (.bl true)):=by
 have Q:=oR (ns:=ns) hm1 hm hn1 hn;have e:=oU m n (tF ns)
 obtain⟨U',⟨s5,s7,s8,q5,q7,q8,rfl⟩,go⟩:=v8 (f:=fF (cxN T 60 39) 60 59 (aB (top 47)).sc (cu (aD 47 6)) oh) (h:=λi=>.int i) (N:=5) (P:=λ_ U=>∃s5 s7 s8,nOw s5=true/\nOw s7=true/\nOw s8=true/\U=oM ns m n s4 s5 s7 s8) (λi U hi ⟨s5,s7,s8,q5,q7,q8,hU⟩=>by
  subst hU;obtain⟨t5,t7,t8,g5,g7,g8,h⟩:=Ju (i:=i) Q h4 q5 q7 q8
  exact⟨_,⟨t5,t7,t8,g5,g7,g8,rfl⟩,h⟩) (U:=oM ns m n s4 .no .no .no) ⟨_,_,_,rfl,rfl,rfl,rfl⟩
 refine w6 (U:=oM ns m n s4 .no .no .no) (gk h4 rfl rfl rfl) (bH (kj (dO (x:=.str (TT (gw m n (tF ns)))) (y:=.str (TT (gw m n (tF ns)))) (aQ rfl (aq (x:=.int 0) (by nofun) (aq (x:=tbl m n (tF ns)) (by nofun) bV)) (e▸FP 33 Q)) (by nofun) (KD (by simp[dep]) rfl)) (jx (dO (x:=tbl m n (tF ns)) (y:=tbl m n (tF ns)) (aQ rfl (aq (x:=.int 1) (by nofun) (aq (x:=.str (TT (gw m n (tF ns)))) (by nofun) bV)) ((wH 32 (R4z (Gk Q).l (by decide))).trans (by rw[Km Q,e]))) (by nofun) (KD (by have:=wK (m:=m) (n:=n) (f:=tF ns);omega) (e▸QJ)))))) ?_
 exact Sw (gk h4 rfl rfl rfl) (G3 (j:=5) rfl (by nofun) (by decide)) go (Ef hm1 hm hn1 hn rfl rfl h4 q5 q7 q8)
theorem law_true(ns:List Int)(_:ns.length<=63):aK T 60 40 "law" [.lst (ns.map D.int)]=some (.bl true):=by
 have hm:=dU (ns:=ns) (k:=0) (many:=4) (by decide);have hn:=dU (ns:=ns) (k:=1) (many:=4) (by decide);obtain⟨m,em⟩:∃m,m=1+pickN ns 0 4:=⟨_,rfl⟩;obtain⟨n,en⟩:∃n,n=1+pickN ns 1 4:=⟨_,rfl⟩;have Q:=oR (ns:=ns) (m:=m) (n:=n) (by omega) (by omega) (by omega) (by omega);have e:=oU m n (tF ns);refine d9 (fd:=aB (top 47)) rfl rfl (gTup (d:=.tup [.int m,.int n]) (U':=gY ns (.sh (.int m)) (.sh (.int n)) .no .no .no .no .no .no .no .no .no .no .no .no) rfl ?_ rfl rfl ?_)
 .exact K8 (aq (xY (cI (x:=.int 1) (y:=.int ((pickN ns 0 4:Nat):Int)) (by nofun) (aQ rfl (aq (x:=scr ns) (by nofun) (aq (x:=.int 0) (by nofun) (aq (x:=.int 4) (by nofun) bV))) (vd 37 ns 0 (many:=4) (by decide) rfl rfl)) rfl) (congrArg D.int (by omega))) (aq (xY (cI (x:=.int 1) (y:=.int ((pickN ns 1 4:Nat):Int)) (by nofun) (aQ rfl (aq (x:=scr ns) (by nofun) (aq (x:=.int 1) (by nofun) (aq (x:=.int 4) (by nofun) bV))) (vd 37 ns 1 (many:=4) (by decide) rfl rfl)) rfl) (congrArg D.int (by omega))) bV)) rfl
 refine fD rfl (d:=.lst []) (by nofun) (JG (U':=gY ns (.sh (.int m)) (.sh (.int n)) (.ow []) .no .no .no .no .no .no .no .no .no .no .no) (U2:=gY ns (.sh (.int m)) (.sh (.int n)) (.ow (Ls m λi=>row n (tF ns i))) (Gu m) .no .no .no .no .no .no .no .no .no .no) (l:=Ls m λi=>.int i) rfl (G3 rfl (by nofun) (by omega)) ?_ ?_)
 .refine iz (R:=λi=>gY ns (.sh (.int m)) (.sh (.int n)) (.ow (Ls i λi=>row n (tF ns i))) (Gu i) .no .no .no .no .no .no .no .no .no .no) λi hi=>?_
  refine dg (U1:=gY ns (.sh (.int m)) (.sh (.int n)) (.ow (Ls i λi=>row n (tF ns i))) (.sh (.int i)) .no .no .no .no .no .no .no .no .no .no) rfl ?_;show _=some (Fl.nxt (gY ns (.sh (.int m)) (.sh (.int n)) (.ow (Ls (i+1) λi=>row n (tF ns i))) (Gu (i+1)) .no .no .no .no .no .no .no .no .no .no));rw[xK];refine Sh (d:=row n (tF ns i)) rfl rfl rfl (eE (by rw[cR];omega)) ?_ rfl;refine dw rfl rfl rfl (aq ?_ bV) UJ;refine' d7 ?L80Y_1a ?L80Y_1b ?L80Y_1c (nR ?L80Y_1d);(case L80Y_1a=>rfl);(case L80Y_1b=>walk_at "xi");(case L80Y_1c=>exact Hh (by omega))
  case L80Y_1d =>
   intro j hj;refine' fJ ?L80Y_1e ?L80Y_1f;(case L80Y_1e=>rfl)
   case L80Y_1f =>
    refine cI (x:=.int ((pickN ns (10+8*i+j) 199:Nat):Int)) (aQ rfl (aq ?_ (aq ?_ (aq ?_ bV))) (pick 37 ns (10+8*i+j) (many:=199) (by omega))) (by nofun) rfl
    .nofun
    .refine xY (cI (cI (by nofun) (cI (by nofun) (by nofun) (Kl (.inl (by decide)))) rfl) (by nofun) rfl) (congrArg D.int (by omega))
    .exact jF rfl
 have hr:nOw (Gu m)=true:=by cases m<;>rfl
 refine zu (U':=gY ns (.sh (.int m)) (.sh (.int n)) (.sh (.lst (Ls m λi=>row n (tF ns i)))) (Gu m) .no .no .no .no .no .no .no .no .no .no) (d:=tbl m n (tF ns)) (cH rfl (cH rfl (cH rfl (KZ rfl (cH hr (cH rfl (cH rfl (cH rfl (cH rfl (cH rfl (cH rfl (cH rfl (cH rfl (cH rfl (cH rfl Gx))))))))))))))) rfl rfl (dw rfl rfl rfl (aq (x:=.lst (Ls m λi=>row n (tF ns i))) (by nofun) bV) rfl) ?_;refine gH (U:=gY ns (.sh (.int m)) (.sh (.int n)) (.sh (tbl m n (tF ns))) (Gu m) .no .no .no .no .no .no .no .no .no .no) (j7 rfl rfl rfl hr rfl rfl rfl rfl rfl rfl rfl rfl rfl rfl) rfl rfl (d:=.str (TT (gw m n (tF ns)))) (aQ rfl (aq (x:=tbl m n (tF ns)) (by nofun) bV) (e▸qR 38 Q)) ?_;exact yS (by omega) (by omega) (by omega) (by omega) hr
end M80
noncomputable section
namespace HS
open PySem PySem.W
theorem goT{p:Program}{w:World}{m:Nat}{a:Option Value}{n:Nat}{x y:Shared}{u:Thread}{c:Code}{o:Pos}{l:List Frame}(h:Fast.tw15667345088766844465 Fast.tw14364793385576792824 p w m a n x u=some (y,⟨Fast.tw11892475500146522536 Fast.tw14364793385576792824 c,c,o,l⟩)):topGo treeTable p w m a n x u=some (y,⟨denote treeTable c,c,o,l⟩):=by
 rw[Fast.te15667345088766844465,C0z,Fast.te11892475500146522536];exact h
theorem Tj{p:Program}{w:World}{m:Nat}{a:Option Value}{k n:Nat}{x:Shared}{u:Thread}{y:Option (Flow×Shared×Code×Pos)}(h:Fast.tw14374325043358763698 Fast.tw14364793385576792824 p w m a k n x u=y):segRun treeTable p w m a k n x u=y:=by
 rw[Fast.te14374325043358763698,C0z];exact h
theorem xQ{p:Program}{w:World}{m:Nat}{a:Option Value}{k n:Nat}{x:SharedT}{u:Thread}{y:Option (Flow×SharedT×Code×Pos)}(h:Fast.tw10110043849684766642 Fast.tw14364793385576792824 p w m a k n x u=y):segRunT treeTable p w m a k n x u=y:=by
 rw[Fast.te10110043849684766642,C0z];exact h
theorem SJ{p:Program}{w:World}{m:Nat}{a:Option Value}{n:Nat}{x:Shared}{u:Thread}{y:Option Shared}(h:Fast.tw14082659384304107361 Fast.tw14364793385576792824 p w m a n x u=y):topRun treeTable p w m a n x u=y:=by
 rw[Fast.te14082659384304107361,C0z];exact h
theorem Mh{p:Program}{w:World}{m:Nat}{a:Option Value}{n:Nat}{x:Shared}{b l:List Stmt}{E:Env}{c:Code}{o:Pos}{B:List Frame}{y:Option Shared}(e:b=l)(h:topRun treeTable p w m a n x (restOf l E c o B)=y):topRun treeTable p w m a n x (restOf b E c o B)=y:=by
 rw[e];exact h
end HS
namespace H80
open PySem PySem.W HS
noncomputable abbrev p:Program:=PySem.Challenge.pw_minortables_k80_whole_texts
abbrev q:Program:=W.view p [1,2,3,4,5,6,7,9,10,11,12,13,14,15,16,18,19,20,22,23,24,25,26,27,29,30,31,32,33,34,35,36,37,38,39,40,41,42,43,44,45,46,47]
abbrev N:Nat:=5144
abbrev lo:List Str:=[]
noncomputable abbrev z:Value:=.none
noncomputable abbrev r(a:Nat):Value:=.ref a
noncomputable abbrev i(a:Int)(n:Nat):Value:=.int a n
abbrev s(x:Str)(n:Nat):Value:=.str x n
abbrev t(x:String):Value:=.type x
abbrev b(x:String):Value:=.builtin x
abbrev e(P:Params)(x:Str)(n:Nat)(v:Value):DictEntry:=⟨PyData.keyHash P x,.str x n,v⟩
def d(j:Nat):Stmt:=p.main.body.getD j (.Pass ⟨0,0,0,0⟩)
def m(j k:Nat):Stmt:=match d j with|.ClassDef _ _ _ l .. =>l.getD k (.Pass ⟨0,0,0,0⟩)|x=>x
def f(x:Stmt)(qn:Str)(g:Nat)(dV kV dc pm cd ct:Value):FuncData:=match x with|.FunctionDef n a l _ _ _ sc .. =>⟨n,qn,a,.stmts l,sc,g,[],dV,kV,dc,pm,none,cd,ct,0⟩|_=>default
def y:Obj:=⟨.type "tuple",none,.seq #[] 0,#[]⟩
noncomputable def x:Obj:=⟨.none,none,.fields #[],#[]⟩
noncomputable def tnV:List Str->Nat->List Value|[],_=>[]|a::l,k=>.str a k::tnV l (k+1)
def tn(l:List Str)(k:Nat):Obj:=⟨.type "tuple",none,.seq (tnV l k).toArray 0,#[]⟩
def g(a:Stmt)(n:Str):Obj:=⟨.none,none,.func (f a n 0 z z z z z z),#[]⟩
def u(a:Stmt)(n:Str)(pm:Value)(c:Nat):Obj:=⟨.type "function",none,.func (f a n 3 z z z pm (r c) z),#[]⟩
def c(n:Str)(k:Nat)(l a fl:Int)(q:Nat)(bb:Bool)(h:Int)(q':Nat)(v w v':Value)(k':Nat):Obj:=⟨.type "code",none,.fields #[s n k,s n (k+1),s "/claim/cut.py" (k+2),i l 0,i a 0,i 0 0,i 0 0,i fl 0,r q,.bool bb,i h 0,r q',z,v,w,v',i k' 0,i l 0,s "/claim/cut.py" (k'+1)],#[]⟩
def I(t:BT):Nat->List Obj->BT|_,[]=>t|n,o::l=>I (t.ins n o) (n+1) l
def es(P:Params):List DictEntry:=[e P "__doc__" 166 z,
 e P "__package__" 167 z,
 e P "__loader__" 168 (b "__main__.__loader__#opaque"),
 e P "__spec__" 169 z,
 e P "__annotations__" 170 (r 6),
 e P "__builtins__" 171 (r 4),
 e P "__file__" 173 (s "/claim/cut.py" 172),
 e P "__cached__" 174 z,
 e P "MinorError" 206 (r 24),
 e P "NoTable" 222 (r 37),
 e P "NoFit" 238 (r 49),
 e P "NoPlace" 254 (r 61),
 e P "NoStep" 270 (r 73),
 e P "NoSteps" 286 (r 85),
 e P "NoText" 302 (r 97),
 e P "MOST_LINES" 306 (i 4 305),
 e P "is_whole" 313 (r 106),
 e P "is_whole_within" 322 (r 113),
 e P "is_short_tuple" 329 (r 120),
 e P "has_lines" 335 (r 125),
 e P "numbers_of" 344 (r 132),
 e P "has_table_form" 350 (r 137),
 e P "need_table" 357 (r 144),
 e P "MOST_NUMBER" 361 (i 99 360),
 e P "is_small_row" 367 (r 149),
 e P "is_table" 373 (r 154),
 e P "number_text" 384 (r 161),
 e P "row_text" 390 (r 166),
 e P "table_text" 396 (r 171),
 e P "written_numbers" 402 (r 176),
 e P "read_row" 408 (r 181),
 e P "read_table" 414 (r 186),
 e P "_law_cell" 424 (r 193),
 e P "_law_pick" 434 (r 200),
 e P "_law_table" 440 (r 205),
 e P "_law_size" 448 (r 212),
 e P "_law_times" 462 (r 219),
 e P "_law_worth" 468 (r 224),
 e P "_law_some" 474 (r 229),
 e P "_law_part" 480 (r 234),
 e P "_law_minors" 491 (r 241),
 e P "_law_places" 497 (r 246),
 e P "_law_put" 507 (r 253),
 e P "_law_spoilt_thing" 521 (r 260),
 e P "_law_is_table" 527 (r 265),
 e P "_law_spoilt" 540 (r 272),
 e P "_law_word" 548 (r 279),
 e P "_law_do" 559 (r 286),
 e P "_law_text" 570 (r 293),
 e P "_law_read" 576 (r 298),
 e P "law" 582 (r 303)]
def og(k n:Nat)(v:Value)(P:Params):Obj:=⟨.type "dict",none,.dict ((e P "__name__" 165 v::es P).take k).toArray n,#[]⟩
def fv:List Value:=[(i 2 0),(i 0 0),(r 20),(i 4 0),(i 0 0),(r 33),(i 6 0),(i 0 0),(r 45),(i 8 0),(i 0 0),(r 57),(i 10 0),(i 0 0),(r 69),(i 12 0),(i 0 0),(r 81),(i 14 0),(i 0 0),(r 93),(i 18 0),(i 0 0),(r 105),(i 20 0),(i 0 0),(r 112),(i 22 0),(i 0 0),(r 119),(i 24 0),(i 0 0),(r 124),(i 28 0),(i 0 0),(r 131),(i 33 0),(i 0 0),(r 136),(i 35 0),(i 0 0),(r 143),(i 40 0),(i 0 0),(r 148),(i 42 0),(i 0 0),(r 153),(i 45 0),(i 0 0),(r 160),(i 55 0),(i 0 0),(r 165),(i 57 0),(i 0 0),(r 170),(i 60 0),(i 0 0),(r 175),(i 62 0),(i 0 0),(r 180),(i 68 0),(i 0 0),(r 185),(i 76 0),(i 0 0),(r 192),(i 82 0),(i 0 0),(r 199),(i 85 0),(i 0 0),(r 204),(i 91 0),(i 0 0),(r 211),(i 93 0),(i 0 0),(r 218),(i 104 0),(i 0 0),(r 223),(i 114 0),(i 0 0),(r 228),(i 122 0),(i 0 0),(r 233),(i 124 0),(i 0 0),(r 240),(i 131 0),(i 0 0),(r 245),(i 137 0),(i 0 0),(r 252),(i 142 0),(i 0 0),(r 259),(i 150 0),(i 0 0),(r 264),(i 162 0),(i 0 0),(r 271),(i 178 0),(i 0 0),(r 278),(i 184 0),(i 0 0),(r 285),(i 194 0),(i 0 0),(r 292),(i 201 0),(i 0 0),(r 297),(i 213 0),(i 0 0),(r 302)]
def o12:Obj:=⟨z,none,.fields (fv.take 0).toArray,#[]⟩
def o13:=c "<module>" 182 1 0 0 11 false 181 12 z z z 185
def o14:Obj:=⟨(t "frame"),none,.plain,#[some (r 13),some (r 3),some (r 3),none,some (s "__main__" 164),none,some (r 0)]⟩
def Uj(P:Params):Obj:=og 10 10 (s "minortables.errors" 187) P
def Pr:Obj:=⟨z,none,.fields (fv.take 3).toArray,#[]⟩
def o15:Obj:=⟨(t "tuple"),none,(.seq #[(t "ValueError")] 0),#[]⟩
def o16:Obj:=⟨(t "builtin_function_or_method"),none,(.fields #[(b "type.__prepare__"),(t "type")]),#[]⟩
def o17(P:Params):Obj:=⟨(t "dict"),none,(.dict #[e P "__module__" 196 (s "minortables.errors" 187),e P "__qualname__" 198 (s "MinorError" 197),e P "__firstlineno__" 200 (i 2 199),e P "__static_attributes__" 201 (r 22)] 4),#[]⟩
def o20:=c "MinorError" 191 2 0 0 18 false 181 19 z z z 194
def o21:Obj:=⟨(t "frame"),none,.plain,#[some (r 20),some (r 3),some (r 17),none,some (s "minortables.errors" 187),none,some (r 0)]⟩
def o23(P:Params):Obj:=⟨(t "dict"),none,(.dict #[e P "__module__" 196 (s "minortables.errors" 187),e P "__firstlineno__" 200 (i 2 199),e P "__static_attributes__" 201 (r 22),e P "__weakref__" 203 (r 25),e P "__doc__" 204 z] 3),#[]⟩
def o24:Obj:=⟨(t "type"),none,(.cls ⟨"MinorError",[(t "ValueError")],[(r 24),(t "ValueError"),(t "Exception"),(t "BaseException"),(t "object")],23,"MinorError",true,[],[],false,none,false⟩),#[some (r 15),none,some (s "MinorError" 189),some (s "MinorError" 197),some (b "ValueError.__new__"),some (.bool true)]⟩
def o25:Obj:=⟨(t "getset_descriptor"),none,(.fields #[(s "__weakref__" 202),(r 24),(b "ExceptionGroup.__weakref__"),z]),#[]⟩
def o26:Obj:=⟨(t "super"),none,(.fields #[(r 24),(r 24),(r 24)]),#[]⟩
def o27:Obj:=⟨(t "builtin_function_or_method"),none,(.fields #[(b "object.__init_subclass__"),(r 24)]),#[]⟩
def Ui(P:Params):Obj:=og 11 11 (s "minortables.errors" 187) P
def Pq:Obj:=⟨z,none,.fields (fv.take 6).toArray,#[]⟩
def NZ:Obj:=⟨(t "type"),none,(.cls ⟨"MinorError",[(t "ValueError")],[(r 24),(t "ValueError"),(t "Exception"),(t "BaseException"),(t "object")],23,"MinorError",true,[],[(r 37)],false,none,false⟩),#[some (r 15),none,some (s "MinorError" 189),some (s "MinorError" 197),some (b "ValueError.__new__"),some (.bool true)]⟩
def o28:Obj:=⟨(t "tuple"),none,(.seq #[(r 24)] 0),#[]⟩
def o29:Obj:=⟨(t "builtin_function_or_method"),none,(.fields #[(b "type.__prepare__"),(t "type")]),#[]⟩
def o30(P:Params):Obj:=⟨(t "dict"),none,(.dict #[e P "__module__" 214 (s "minortables.errors" 187),e P "__qualname__" 216 (s "NoTable" 215),e P "__firstlineno__" 218 (i 4 217),e P "__static_attributes__" 219 (r 35)] 4),#[]⟩
def o33:=c "NoTable" 209 4 0 0 31 false 181 32 z z z 212
def o34:Obj:=⟨(t "frame"),none,.plain,#[some (r 33),some (r 3),some (r 30),none,some (s "minortables.errors" 187),none,some (r 0)]⟩
def o36(P:Params):Obj:=⟨(t "dict"),none,(.dict #[e P "__module__" 214 (s "minortables.errors" 187),e P "__firstlineno__" 218 (i 4 217),e P "__static_attributes__" 219 (r 35),e P "__doc__" 220 z] 2),#[]⟩
def o37:Obj:=⟨(t "type"),none,(.cls ⟨"NoTable",[(r 24)],[(r 37),(r 24),(t "ValueError"),(t "Exception"),(t "BaseException"),(t "object")],36,"NoTable",true,[],[],false,none,false⟩),#[some (r 28),none,some (s "NoTable" 207),some (s "NoTable" 215),some (b "ValueError.__new__"),some (.bool true)]⟩
def o38:Obj:=⟨(t "super"),none,(.fields #[(r 37),(r 37),(r 37)]),#[]⟩
def o39:Obj:=⟨(t "builtin_function_or_method"),none,(.fields #[(b "object.__init_subclass__"),(r 37)]),#[]⟩
def Uh(P:Params):Obj:=og 12 12 (s "minortables.errors" 187) P
def Pn:Obj:=⟨z,none,.fields (fv.take 9).toArray,#[]⟩
def NT:Obj:=⟨(t "type"),none,(.cls ⟨"MinorError",[(t "ValueError")],[(r 24),(t "ValueError"),(t "Exception"),(t "BaseException"),(t "object")],23,"MinorError",true,[],[(r 37),(r 49)],false,none,false⟩),#[some (r 15),none,some (s "MinorError" 189),some (s "MinorError" 197),some (b "ValueError.__new__"),some (.bool true)]⟩
def o40:Obj:=⟨(t "tuple"),none,(.seq #[(r 24)] 0),#[]⟩
def o41:Obj:=⟨(t "builtin_function_or_method"),none,(.fields #[(b "type.__prepare__"),(t "type")]),#[]⟩
def o42(P:Params):Obj:=⟨(t "dict"),none,(.dict #[e P "__module__" 230 (s "minortables.errors" 187),e P "__qualname__" 232 (s "NoFit" 231),e P "__firstlineno__" 234 (i 6 233),e P "__static_attributes__" 235 (r 47)] 4),#[]⟩
def o45:=c "NoFit" 225 6 0 0 43 false 181 44 z z z 228
def o46:Obj:=⟨(t "frame"),none,.plain,#[some (r 45),some (r 3),some (r 42),none,some (s "minortables.errors" 187),none,some (r 0)]⟩
def o48(P:Params):Obj:=⟨(t "dict"),none,(.dict #[e P "__module__" 230 (s "minortables.errors" 187),e P "__firstlineno__" 234 (i 6 233),e P "__static_attributes__" 235 (r 47),e P "__doc__" 236 z] 2),#[]⟩
def o49:Obj:=⟨(t "type"),none,(.cls ⟨"NoFit",[(r 24)],[(r 49),(r 24),(t "ValueError"),(t "Exception"),(t "BaseException"),(t "object")],48,"NoFit",true,[],[],false,none,false⟩),#[some (r 40),none,some (s "NoFit" 223),some (s "NoFit" 231),some (b "ValueError.__new__"),some (.bool true)]⟩
def o50:Obj:=⟨(t "super"),none,(.fields #[(r 49),(r 49),(r 49)]),#[]⟩
def o51:Obj:=⟨(t "builtin_function_or_method"),none,(.fields #[(b "object.__init_subclass__"),(r 49)]),#[]⟩
def Ug(P:Params):Obj:=og 13 13 (s "minortables.errors" 187) P
def Pk:Obj:=⟨z,none,.fields (fv.take 12).toArray,#[]⟩
def NQ:Obj:=⟨(t "type"),none,(.cls ⟨"MinorError",[(t "ValueError")],[(r 24),(t "ValueError"),(t "Exception"),(t "BaseException"),(t "object")],23,"MinorError",true,[],[(r 37),(r 49),(r 61)],false,none,false⟩),#[some (r 15),none,some (s "MinorError" 189),some (s "MinorError" 197),some (b "ValueError.__new__"),some (.bool true)]⟩
def o52:Obj:=⟨(t "tuple"),none,(.seq #[(r 24)] 0),#[]⟩
def o53:Obj:=⟨(t "builtin_function_or_method"),none,(.fields #[(b "type.__prepare__"),(t "type")]),#[]⟩
def o54(P:Params):Obj:=⟨(t "dict"),none,(.dict #[e P "__module__" 246 (s "minortables.errors" 187),e P "__qualname__" 248 (s "NoPlace" 247),e P "__firstlineno__" 250 (i 8 249),e P "__static_attributes__" 251 (r 59)] 4),#[]⟩
def o57:=c "NoPlace" 241 8 0 0 55 false 181 56 z z z 244
def o58:Obj:=⟨(t "frame"),none,.plain,#[some (r 57),some (r 3),some (r 54),none,some (s "minortables.errors" 187),none,some (r 0)]⟩
def o60(P:Params):Obj:=⟨(t "dict"),none,(.dict #[e P "__module__" 246 (s "minortables.errors" 187),e P "__firstlineno__" 250 (i 8 249),e P "__static_attributes__" 251 (r 59),e P "__doc__" 252 z] 2),#[]⟩
def o61:Obj:=⟨(t "type"),none,(.cls ⟨"NoPlace",[(r 24)],[(r 61),(r 24),(t "ValueError"),(t "Exception"),(t "BaseException"),(t "object")],60,"NoPlace",true,[],[],false,none,false⟩),#[some (r 52),none,some (s "NoPlace" 239),some (s "NoPlace" 247),some (b "ValueError.__new__"),some (.bool true)]⟩
def o62:Obj:=⟨(t "super"),none,(.fields #[(r 61),(r 61),(r 61)]),#[]⟩
def o63:Obj:=⟨(t "builtin_function_or_method"),none,(.fields #[(b "object.__init_subclass__"),(r 61)]),#[]⟩
def Ue(P:Params):Obj:=og 14 14 (s "minortables.errors" 187) P
def Pj:Obj:=⟨z,none,.fields (fv.take 15).toArray,#[]⟩
def NP:Obj:=⟨(t "type"),none,(.cls ⟨"MinorError",[(t "ValueError")],[(r 24),(t "ValueError"),(t "Exception"),(t "BaseException"),(t "object")],23,"MinorError",true,[],[(r 37),(r 49),(r 61),(r 73)],false,none,false⟩),#[some (r 15),none,some (s "MinorError" 189),some (s "MinorError" 197),some (b "ValueError.__new__"),some (.bool true)]⟩
def o64:Obj:=⟨(t "tuple"),none,(.seq #[(r 24)] 0),#[]⟩
def o65:Obj:=⟨(t "builtin_function_or_method"),none,(.fields #[(b "type.__prepare__"),(t "type")]),#[]⟩
def o66(P:Params):Obj:=⟨(t "dict"),none,(.dict #[e P "__module__" 262 (s "minortables.errors" 187),e P "__qualname__" 264 (s "NoStep" 263),e P "__firstlineno__" 266 (i 10 265),e P "__static_attributes__" 267 (r 71)] 4),#[]⟩
def o69:=c "NoStep" 257 10 0 0 67 false 181 68 z z z 260
def o70:Obj:=⟨(t "frame"),none,.plain,#[some (r 69),some (r 3),some (r 66),none,some (s "minortables.errors" 187),none,some (r 0)]⟩
def o72(P:Params):Obj:=⟨(t "dict"),none,(.dict #[e P "__module__" 262 (s "minortables.errors" 187),e P "__firstlineno__" 266 (i 10 265),e P "__static_attributes__" 267 (r 71),e P "__doc__" 268 z] 2),#[]⟩
def o73:Obj:=⟨(t "type"),none,(.cls ⟨"NoStep",[(r 24)],[(r 73),(r 24),(t "ValueError"),(t "Exception"),(t "BaseException"),(t "object")],72,"NoStep",true,[],[],false,none,false⟩),#[some (r 64),none,some (s "NoStep" 255),some (s "NoStep" 263),some (b "ValueError.__new__"),some (.bool true)]⟩
def o74:Obj:=⟨(t "super"),none,(.fields #[(r 73),(r 73),(r 73)]),#[]⟩
def o75:Obj:=⟨(t "builtin_function_or_method"),none,(.fields #[(b "object.__init_subclass__"),(r 73)]),#[]⟩
def Ud(P:Params):Obj:=og 15 15 (s "minortables.errors" 187) P
def Ph:Obj:=⟨z,none,.fields (fv.take 18).toArray,#[]⟩
def NK:Obj:=⟨(t "type"),none,(.cls ⟨"MinorError",[(t "ValueError")],[(r 24),(t "ValueError"),(t "Exception"),(t "BaseException"),(t "object")],23,"MinorError",true,[],[(r 37),(r 49),(r 61),(r 73),(r 85)],false,none,false⟩),#[some (r 15),none,some (s "MinorError" 189),some (s "MinorError" 197),some (b "ValueError.__new__"),some (.bool true)]⟩
def o76:Obj:=⟨(t "tuple"),none,(.seq #[(r 24)] 0),#[]⟩
def o77:Obj:=⟨(t "builtin_function_or_method"),none,(.fields #[(b "type.__prepare__"),(t "type")]),#[]⟩
def o78(P:Params):Obj:=⟨(t "dict"),none,(.dict #[e P "__module__" 278 (s "minortables.errors" 187),e P "__qualname__" 280 (s "NoSteps" 279),e P "__firstlineno__" 282 (i 12 281),e P "__static_attributes__" 283 (r 83)] 4),#[]⟩
def o81:=c "NoSteps" 273 12 0 0 79 false 181 80 z z z 276
def o82:Obj:=⟨(t "frame"),none,.plain,#[some (r 81),some (r 3),some (r 78),none,some (s "minortables.errors" 187),none,some (r 0)]⟩
def o84(P:Params):Obj:=⟨(t "dict"),none,(.dict #[e P "__module__" 278 (s "minortables.errors" 187),e P "__firstlineno__" 282 (i 12 281),e P "__static_attributes__" 283 (r 83),e P "__doc__" 284 z] 2),#[]⟩
def o85:Obj:=⟨(t "type"),none,(.cls ⟨"NoSteps",[(r 24)],[(r 85),(r 24),(t "ValueError"),(t "Exception"),(t "BaseException"),(t "object")],84,"NoSteps",true,[],[],false,none,false⟩),#[some (r 76),none,some (s "NoSteps" 271),some (s "NoSteps" 279),some (b "ValueError.__new__"),some (.bool true)]⟩
def o86:Obj:=⟨(t "super"),none,(.fields #[(r 85),(r 85),(r 85)]),#[]⟩
def o87:Obj:=⟨(t "builtin_function_or_method"),none,(.fields #[(b "object.__init_subclass__"),(r 85)]),#[]⟩
def Uc(P:Params):Obj:=og 22 22 (s "minortables.checks" 303) P
def Pb:Obj:=⟨z,none,.fields (fv.take 36).toArray,#[]⟩
def DQ:Obj:=⟨(t "type"),none,(.cls ⟨"MinorError",[(t "ValueError")],[(r 24),(t "ValueError"),(t "Exception"),(t "BaseException"),(t "object")],23,"MinorError",true,[],[(r 37),(r 49),(r 61),(r 73),(r 85),(r 97)],false,none,false⟩),#[some (r 15),none,some (s "MinorError" 189),some (s "MinorError" 197),some (b "ValueError.__new__"),some (.bool true)]⟩
def o88:Obj:=⟨(t "tuple"),none,(.seq #[(r 24)] 0),#[]⟩
def o89:Obj:=⟨(t "builtin_function_or_method"),none,(.fields #[(b "type.__prepare__"),(t "type")]),#[]⟩
def o90(P:Params):Obj:=⟨(t "dict"),none,(.dict #[e P "__module__" 294 (s "minortables.errors" 187),e P "__qualname__" 296 (s "NoText" 295),e P "__firstlineno__" 298 (i 14 297),e P "__static_attributes__" 299 (r 95)] 4),#[]⟩
def o93:=c "NoText" 289 14 0 0 91 false 181 92 z z z 292
def o94:Obj:=⟨(t "frame"),none,.plain,#[some (r 93),some (r 3),some (r 90),none,some (s "minortables.errors" 187),none,some (r 0)]⟩
def o96(P:Params):Obj:=⟨(t "dict"),none,(.dict #[e P "__module__" 294 (s "minortables.errors" 187),e P "__firstlineno__" 298 (i 14 297),e P "__static_attributes__" 299 (r 95),e P "__doc__" 300 z] 2),#[]⟩
def o97:Obj:=⟨(t "type"),none,(.cls ⟨"NoText",[(r 24)],[(r 97),(r 24),(t "ValueError"),(t "Exception"),(t "BaseException"),(t "object")],96,"NoText",true,[],[],false,none,false⟩),#[some (r 88),none,some (s "NoText" 287),some (s "NoText" 295),some (b "ValueError.__new__"),some (.bool true)]⟩
def o98:Obj:=⟨(t "super"),none,(.fields #[(r 97),(r 97),(r 97)]),#[]⟩
def o99:Obj:=⟨(t "builtin_function_or_method"),none,(.fields #[(b "object.__init_subclass__"),(r 97)]),#[]⟩
def Qd:Obj:=tn ["thing"] 310
def R6:Obj:=g (d 10) "is_whole"
def Qc:Obj:=c "is_whole" 307 18 1 3 100 true 181 101 (r 102) (r 103) (r 104) 311
def Qa:Obj:=u (d 10) "is_whole" (s "minortables.checks" 303) 105
def P0:Obj:=tn ["thing","least","most"] 317
def o111:=g (d 11) "is_whole_within"
def PN:Obj:=c "is_whole_within" 314 20 3 3 107 true 181 108 (r 109) (r 110) (r 111) 320
def PK:Obj:=u (d 11) "is_whole_within" (s "minortables.checks" 303) 112
def PJ:Obj:=tn ["thing"] 326
def R5:Obj:=g (d 12) "is_short_tuple"
def PB:Obj:=c "is_short_tuple" 323 22 1 3 114 true 181 115 (r 116) (r 117) (r 118) 327
def Pz:Obj:=u (d 12) "is_short_tuple" (s "minortables.checks" 303) 119
def R4:Obj:=g (d 13) "has_lines"
def Py:Obj:=c "has_lines" 330 24 1 3 121 true 181 122 z z (r 123) 333
def Px:Obj:=u (d 13) "has_lines" (s "minortables.checks" 303) 124
def Pu:Obj:=tn ["table","told","row"] 339
def R3:Obj:=g (d 14) "numbers_of"
def O8:Obj:=c "numbers_of" 336 28 1 3 126 true 181 127 (r 128) (r 129) (r 130) 342
def O7:Obj:=u (d 14) "numbers_of" (s "minortables.checks" 303) 131
def Ub(P:Params):Obj:=og 36 36 (s "law_minortables_k80_whole_texts" 415) P
def Pa:Obj:=⟨z,none,.fields (fv.take 75).toArray,#[]⟩
def R0:Obj:=g (d 15) "has_table_form"
def O6:Obj:=c "has_table_form" 345 33 1 3 133 true 181 134 z z (r 135) 348
def O5:Obj:=u (d 15) "has_table_form" (s "minortables.checks" 303) 136
def O4:Obj:=tn ["thing"] 354
def RZ:Obj:=g (d 16) "need_table"
def O2:Obj:=c "need_table" 351 35 1 3 138 true 181 139 (r 140) (r 141) (r 142) 355
def O1:Obj:=u (d 16) "need_table" (s "minortables.checks" 303) 143
def RX:Obj:=g (d 19) "is_small_row"
def OJ:Obj:=c "is_small_row" 362 40 1 3 145 true 181 146 z z (r 147) 365
def OD:Obj:=u (d 19) "is_small_row" (s "minortables.tables" 358) 148
def RW:Obj:=g (d 20) "is_table"
def Oz:Obj:=c "is_table" 368 42 1 3 150 true 181 151 z z (r 152) 371
def Ox:Obj:=u (d 20) "is_table" (s "minortables.tables" 358) 153
def Ow:Obj:=tn ["number","far","pieces"] 379
def RV:Obj:=g (d 22) "number_text"
def Ov:Obj:=c "number_text" 376 45 1 3 155 true 181 156 (r 157) (r 158) (r 159) 382
def Ou:Obj:=u (d 22) "number_text" (s "minortables.texts" 374) 160
def RT:Obj:=g (d 23) "row_text"
def Ot:Obj:=c "row_text" 385 55 1 3 162 true 181 163 z z (r 164) 388
def Oq:Obj:=u (d 23) "row_text" (s "minortables.texts" 374) 165
def RQ:Obj:=g (d 24) "table_text"
def Oo:Obj:=c "table_text" 391 57 1 3 167 true 181 168 z z (r 169) 394
def Om:Obj:=u (d 24) "table_text" (s "minortables.texts" 374) 170
def RP:Obj:=g (d 25) "written_numbers"
def Ol:Obj:=c "written_numbers" 397 60 0 3 172 true 181 173 z z (r 174) 400
def Oj:Obj:=u (d 25) "written_numbers" (s "minortables.texts" 374) 175
def RN:Obj:=g (d 26) "read_row"
def Oi:Obj:=c "read_row" 403 62 1 3 177 true 181 178 z z (r 179) 406
def Oh:Obj:=u (d 26) "read_row" (s "minortables.texts" 374) 180
def RM:Obj:=g (d 27) "read_table"
def Og:Obj:=c "read_table" 409 68 1 3 182 true 181 183 z z (r 184) 412
def Oe:Obj:=u (d 27) "read_table" (s "minortables.texts" 374) 185
def Od:Obj:=tn ["_law_script","_law_k"] 420
def RL:Obj:=g (d 29) "_law_cell"
def Oc:Obj:=c "_law_cell" 417 76 2 3 187 true 181 188 (r 189) (r 190) (r 191) 422
def Ob:Obj:=u (d 29) "_law_cell" (s "law_minortables_k80_whole_texts" 415) 192
def Oa:Obj:=tn ["_law_script","_law_k","_law_many","_law_drawn"] 428
def RK:Obj:=g (d 30) "_law_pick"
def N8:Obj:=c "_law_pick" 425 82 3 3 194 true 181 195 (r 196) (r 197) (r 198) 432
def o200:=u (d 30) "_law_pick" (s "law_minortables_k80_whole_texts" 415) 199
def RJ:Obj:=g (d 31) "_law_table"
def RG:Obj:=c "_law_table" 435 85 4 3 201 true 181 202 z z (r 203) 438
def RD:Obj:=u (d 31) "_law_table" (s "law_minortables_k80_whole_texts" 415) 204
def Ua(P:Params):Obj:=og 49 49 (s "law_minortables_k80_whole_texts" 415) P
def O9:Obj:=⟨z,none,.fields (fv.take 114).toArray,#[]⟩
def RB:Obj:=tn ["_law_script","_law_at"] 444
def Rz:Obj:=g (d 32) "_law_size"
def Ry:Obj:=c "_law_size" 441 91 2 3 206 true 181 207 (r 208) (r 209) (r 210) 446
def Rx:Obj:=u (d 32) "_law_size" (s "law_minortables_k80_whole_texts" 415) 211
def Rw:Obj:=tn ["_law_one","_law_other","_law_made","_law_row","_law_line","_law_column","_law_total","_law_k"] 452
def Rv:Obj:=g (d 33) "_law_times"
def Ru:Obj:=c "_law_times" 449 93 2 3 213 true 181 214 (r 215) (r 216) (r 217) 460
def Rt:Obj:=u (d 33) "_law_times" (s "law_minortables_k80_whole_texts" 415) 218
def Rr:Obj:=g (d 34) "_law_worth"
def Rq:Obj:=c "_law_worth" 463 104 1 3 220 true 181 221 z z (r 222) 466
def Rp:Obj:=u (d 34) "_law_worth" (s "law_minortables_k80_whole_texts" 415) 223
def Ro:Obj:=g (d 35) "_law_some"
def Rn:Obj:=c "_law_some" 469 114 2 3 225 true 181 226 z z (r 227) 472
def Rm:Obj:=u (d 35) "_law_some" (s "law_minortables_k80_whole_texts" 415) 228
def Rk:Obj:=g (d 36) "_law_part"
def Rj:Obj:=c "_law_part" 475 122 3 3 230 true 181 231 z z (r 232) 478
def Ri:Obj:=u (d 36) "_law_part" (s "law_minortables_k80_whole_texts" 415) 233
def Rh:Obj:=tn ["_law_table_here","_law_made","_law_size_here","_law_some_here","_law_others"] 484
def Rg:Obj:=g (d 37) "_law_minors"
def Rf:Obj:=c "_law_minors" 481 124 1 3 235 true 181 236 (r 237) (r 238) (r 239) 489
def Rc:Obj:=u (d 37) "_law_minors" (s "law_minortables_k80_whole_texts" 415) 240
def Rb:Obj:=g (d 38) "_law_places"
def N7:Obj:=c "_law_places" 492 131 1 3 242 true 181 243 z z (r 244) 495
def N6:Obj:=u (d 38) "_law_places" (s "law_minortables_k80_whole_texts" 415) 245
def N5:Obj:=tn ["_law_thing","_law_place","_law_new","_law_k"] 501
def Ra:Obj:=g (d 39) "_law_put"
def Nz:Obj:=c "_law_put" 498 137 3 3 247 true 181 248 (r 249) (r 250) (r 251) 505
def Ny:Obj:=u (d 39) "_law_put" (s "law_minortables_k80_whole_texts" 415) 252
def Nx:Obj:=tn ["_law_script","_law_at","_law_thing","_law_places_here","_law_place","_law_here","_law_k","_law_some_here"] 511
def Q9:Obj:=g (d 40) "_law_spoilt_thing"
def Nv:Obj:=c "_law_spoilt_thing" 508 142 3 3 254 true 181 255 (r 256) (r 257) (r 258) 519
def Nu:Obj:=u (d 40) "_law_spoilt_thing" (s "law_minortables_k80_whole_texts" 415) 259
def Q8:Obj:=g (d 41) "_law_is_table"
def Nt:Obj:=c "_law_is_table" 522 150 2 3 261 true 181 262 z z (r 263) 525
def Nr:Obj:=u (d 41) "_law_is_table" (s "law_minortables_k80_whole_texts" 415) 264
def Nq:Obj:=tn ["_law_text_here","_law_cell_here","_law_signs","_law_at","_law_sign","_law_on","_law_way"] 531
def Q7:Obj:=g (d 42) "_law_spoilt"
def Np:Obj:=c "_law_spoilt" 528 162 3 3 266 true 181 267 (r 268) (r 269) (r 270) 538
def Nm:Obj:=u (d 42) "_law_spoilt" (s "law_minortables_k80_whole_texts" 415) 271
def Nk:Obj:=tn ["_law_kept","_law_kinds"] 544
def Q6:Obj:=g (d 43) "_law_word"
def Nj:Obj:=c "_law_word" 541 178 1 3 273 true 181 274 (r 275) (r 276) (r 277) 546
def Ni:Obj:=u (d 43) "_law_word" (s "law_minortables_k80_whole_texts" 415) 278
def Nh:Obj:=tn ["_law_what","_law_thing","_law_kept","_law_answer","e"] 552
def Q5:Obj:=g (d 44) "_law_do"
def Ng:Obj:=c "_law_do" 549 184 2 3 280 true 181 281 (r 282) (r 283) (r 284) 557
def Nf:Obj:=u (d 44) "_law_do" (s "law_minortables_k80_whole_texts" 415) 285
def DP(P:Params):Obj:=og 52 52 (s "law_minortables_k80_whole_texts" 415) P
def Az:Obj:=⟨z,none,.fields (fv.take 123).toArray,#[]⟩
def Nb:Obj:=tn ["_law_table_here","_law_text_here","_law_row","_law_k","_law_number"] 563
def Q0:Obj:=g (d 45) "_law_text"
def M9:Obj:=c "_law_text" 560 194 1 3 287 true 181 288 (r 289) (r 290) (r 291) 568
def M8:Obj:=u (d 45) "_law_text" (s "law_minortables_k80_whole_texts" 415) 292
def QZ:Obj:=g (d 46) "_law_read"
def M7:Obj:=c "_law_read" 571 201 1 3 294 true 181 295 z z (r 296) 574
def M6:Obj:=u (d 46) "_law_read" (s "law_minortables_k80_whole_texts" 415) 297
def QX:Obj:=g (d 47) "law"
def M5:Obj:=c "law" 577 213 1 3 299 true 181 300 z z (r 301) 580
def M4:Obj:=u (d 47) "law" (s "law_minortables_k80_whole_texts" 415) 302
def Ha(P:Params):Heap:=⟨⟨[boot_o_0 P,boot_o_1 P,boot_o_2 P,boot_o_3 P,boot_o_4 P,boot_o_5 P,boot_o_6 P,boot_o_7 P,boot_o_8 P,boot_o_9 P,boot_o_10 P,y,o12,o13,o14]⟩,{}⟩
def T0(P:Params):BT:=I .nil 0 [boot_o_0 P,boot_o_1 P,boot_o_2 P,boot_o_3 P,boot_o_4 P,boot_o_5 P,boot_o_6 P,boot_o_7 P,boot_o_8 P,boot_o_9 P,boot_o_10 P,y,o12,o13,o14]
def T1(P:Params):BT:=I (T0 P) 15 [o15,o16,o17 P,y,x,o20,o21,y,o23 P,o24,o25,o26,o27] |>.set 3 (λ_=>Uj P) |>.set 12 (λ_=>Pr)
def T2(P:Params):BT:=I (T1 P) 28 [o28,o29,o30 P,y,x,o33,o34,y,o36 P,o37,o38,o39] |>.set 3 (λ_=>Ui P) |>.set 12 (λ_=>Pq) |>.set 24 (λ_=>NZ)
def T3(P:Params):BT:=I (T2 P) 40 [o40,o41,o42 P,y,x,o45,o46,y,o48 P,o49,o50,o51] |>.set 3 (λ_=>Uh P) |>.set 12 (λ_=>Pn) |>.set 24 (λ_=>NT)
def T4(P:Params):BT:=I (T3 P) 52 [o52,o53,o54 P,y,x,o57,o58,y,o60 P,o61,o62,o63] |>.set 3 (λ_=>Ug P) |>.set 12 (λ_=>Pk) |>.set 24 (λ_=>NQ)
def T5(P:Params):BT:=I (T4 P) 64 [o64,o65,o66 P,y,x,o69,o70,y,o72 P,o73,o74,o75] |>.set 3 (λ_=>Ue P) |>.set 12 (λ_=>Pj) |>.set 24 (λ_=>NP)
def T6(P:Params):BT:=I (T5 P) 76 [o76,o77,o78 P,y,x,o81,o82,y,o84 P,o85,o86,o87] |>.set 3 (λ_=>Ud P) |>.set 12 (λ_=>Ph) |>.set 24 (λ_=>NK)
def T7(P:Params):BT:=I (T6 P) 88 [o88,o89,o90 P,y,x,o93,o94,y,o96 P,o97,o98,o99,y,x,Qd,y,R6,Qc,Qa,y,x,P0,y,o111,PN,PK,y,x,PJ,y,R5,PB,Pz,y,x,R4,Py,Px,y,x,Pu,y,R3,O8,O7] |>.set 3 (λ_=>Uc P) |>.set 12 (λ_=>Pb) |>.set 24 (λ_=>DQ)
def T8(P:Params):BT:=I (T7 P) 133 [y,x,R0,O6,O5,y,x,O4,y,RZ,O2,O1,y,x,RX,OJ,OD,y,x,RW,Oz,Ox,y,x,Ow,y,RV,Ov,Ou,y,x,RT,Ot,Oq,y,x,RQ,Oo,Om,y,x,RP,Ol,Oj,y,x,RN,Oi,Oh,y,x,RM,Og,Oe,y,x,Od,y,RL,Oc,Ob,y,x,Oa,y,RK,N8,o200,y,x,RJ,RG,RD] |>.set 3 (λ_=>Ub P) |>.set 12 (λ_=>Pa)
def T9(P:Params):BT:=I (T8 P) 206 [y,x,RB,y,Rz,Ry,Rx,y,x,Rw,y,Rv,Ru,Rt,y,x,Rr,Rq,Rp,y,x,Ro,Rn,Rm,y,x,Rk,Rj,Ri,y,x,Rh,y,Rg,Rf,Rc,y,x,Rb,N7,N6,y,x,N5,y,Ra,Nz,Ny,y,x,Nx,y,Q9,Nv,Nu,y,x,Q8,Nt,Nr,y,x,Nq,y,Q7,Np,Nm,y,x,Nk,y,Q6,Nj,Ni,y,x,Nh,y,Q5,Ng,Nf] |>.set 3 (λ_=>Ua P) |>.set 12 (λ_=>O9)
def T10(P:Params):BT:=I (T9 P) 287 [y,x,Nb,y,Q0,M9,M8,y,x,QZ,M7,M6,y,x,QX,M5,M4] |>.set 3 (λ_=>DP P) |>.set 12 (λ_=>Az)
def H1(P:Params):Heap:=⟨⟨[boot_o_0 P,boot_o_1 P,boot_o_2 P,DP P,boot_o_4 P,boot_o_5 P,boot_o_6 P,boot_o_7 P,boot_o_8 P,boot_o_9 P,boot_o_10 P,y,Az,o13,o14,o15,o16,o17 P,y,x,o20,o21,y,o23 P,DQ,o25,o26,o27,o28,o29,o30 P,y,x,o33,o34,y,o36 P,o37,o38,o39,o40,o41,o42 P,y,x,o45,o46,y,o48 P,o49,o50,o51,o52,o53,o54 P,y,x,o57,o58,y,o60 P,o61,o62,o63,o64,o65,o66 P,y,x,o69,o70,y,o72 P,o73,o74,o75,o76,o77,o78 P,y,x,o81,o82,y,o84 P,o85,o86,o87,o88,o89,o90 P,y,x,o93,o94,y,o96 P,o97,o98,o99,y,x,Qd,y,R6,Qc,Qa,y,x,P0,y,o111,PN,PK,y,x,PJ,y,R5,PB,Pz,y,x,R4,Py,Px,y,x,Pu,y,R3,O8,O7,y,x,R0,O6,O5,y,x,O4,y,RZ,O2,O1,y,x,RX,OJ,OD,y,x,RW,Oz,Ox,y,x,Ow,y,RV,Ov,Ou,y,x,RT,Ot,Oq,y,x,RQ,Oo,Om,y,x,RP,Ol,Oj,y,x,RN,Oi,Oh,y,x,RM,Og,Oe,y,x,Od,y,RL,Oc,Ob,y,x,Oa,y,RK,N8,o200,y,x,RJ,RG,RD,y,x,RB,y,Rz,Ry,Rx,y,x,Rw,y,Rv,Ru,Rt,y,x,Rr,Rq,Rp,y,x,Ro,Rn,Rm,y,x,Rk,Rj,Ri,y,x,Rh,y,Rg,Rf,Rc,y,x,Rb,N7,N6,y,x,N5,y,Ra,Nz,Ny,y,x,Nx,y,Q9,Nv,Nu,y,x,Q8,Nt,Nr,y,x,Nq,y,Q7,Np,Nm,y,x,Nk,y,Q6,Nj,Ni,y,x,Nh,y,Q5,Ng,Nf,y,x,Nb,y,Q0,M9,M8,y,x,QZ,M7,M6,y,x,QX,M5,M4]⟩,{}⟩
def S0(w:World)(os:OsState):SharedT:=⟨T0 w.params,15,{},⟨[]⟩,{},187,os⟩
def S1(w:World)(os:OsState):SharedT:=⟨T1 w.params,28,{},⟨[]⟩,{},207,os⟩
def S2(w:World)(os:OsState):SharedT:=⟨T2 w.params,40,{},⟨[]⟩,{},223,os⟩
def S3(w:World)(os:OsState):SharedT:=⟨T3 w.params,52,{},⟨[]⟩,{},239,os⟩
def S4(w:World)(os:OsState):SharedT:=⟨T4 w.params,64,{},⟨[]⟩,{},255,os⟩
def S5(w:World)(os:OsState):SharedT:=⟨T5 w.params,76,{},⟨[]⟩,{},271,os⟩
def S6(w:World)(os:OsState):SharedT:=⟨T6 w.params,88,{},⟨[]⟩,{},287,os⟩
def S7(w:World)(os:OsState):SharedT:=⟨T7 w.params,133,{},⟨[]⟩,{},345,os⟩
def S8(w:World)(os:OsState):SharedT:=⟨T8 w.params,206,{},⟨[]⟩,{},441,os⟩
def S9(w:World)(os:OsState):SharedT:=⟨T9 w.params,287,{},⟨[]⟩,{},560,os⟩
def S10(w:World)(os:OsState):SharedT:=⟨T10 w.params,304,{},⟨[]⟩,{},583,os⟩
def S(w:World)(os:OsState):Shared:=⟨H1 w.params,⟨[]⟩,{},583,os⟩
def E:Env:={scope:=p.main.scope,locals:=mainNs,globals:=mainNs,cells:=[],code:=(r 13),frame:=some 14}
abbrev C:Code:=.body (behindTheImports p) E
abbrev B:List Frame:=[topFrame ⟨0,0,0,0⟩]
def l1:List Stmt:=((behindTheImports p).drop 0).take 2
def l2:List Stmt:=((behindTheImports p).drop 2).take 1
def l3:List Stmt:=((behindTheImports p).drop 3).take 1
def l4:List Stmt:=((behindTheImports p).drop 4).take 1
def l5:List Stmt:=((behindTheImports p).drop 5).take 1
def l6:List Stmt:=((behindTheImports p).drop 6).take 1
def l7:List Stmt:=((behindTheImports p).drop 7).take 8
def l8:List Stmt:=((behindTheImports p).drop 15).take 17
def l9:List Stmt:=((behindTheImports p).drop 32).take 13
def l10:List Stmt:=((behindTheImports p).drop 45).take 3
theorem pre(w:World)(os:OsState):topGo treeTable p w 11 (some (r 6)) 12 ⟨boot_heap w.params,Array.mk [],boot_drawn,boot_toks,os⟩ (topStub p)=some (⟨Ha w.params,⟨[]⟩,{},187,os⟩,⟨denote treeTable C,C,⟨0,0,0,0⟩,B⟩):=goT (by rfl')
theorem blk(w:World)(os:OsState):segRun treeTable p w 11 (some (r 6)) 1 1 ⟨Ha w.params,⟨[]⟩,{},187,os⟩ (blockOf (behindTheImports p) E C ⟨0,0,0,0⟩ B)=some (.next,(S0 w os).abs,C,⟨0,0,0,0⟩):=Tj (by rfl')
theorem p1(w:World)(os:OsState):segRun treeTable p w 11 (some (r 6)) 1 196 (S0 w os).abs (piecesOf l1 E C ⟨0,0,0,0⟩ B)=some (.next,(S1 w os).abs,C,⟨2,0,3,8⟩):=K5z (xQ (by rfl'))
theorem p2(w:World)(os:OsState):segRun treeTable p w 11 (some (r 6)) 1 214 (S1 w os).abs (piecesOf l2 E C ⟨2,0,3,8⟩ B)=some (.next,(S2 w os).abs,C,⟨4,0,5,8⟩):=K5z (xQ (by rfl'))
theorem p3(w:World)(os:OsState):segRun treeTable p w 11 (some (r 6)) 1 214 (S2 w os).abs (piecesOf l3 E C ⟨4,0,5,8⟩ B)=some (.next,(S3 w os).abs,C,⟨6,0,7,8⟩):=K5z (xQ (by rfl'))
theorem p4(w:World)(os:OsState):segRun treeTable p w 11 (some (r 6)) 1 214 (S3 w os).abs (piecesOf l4 E C ⟨6,0,7,8⟩ B)=some (.next,(S4 w os).abs,C,⟨8,0,9,8⟩):=K5z (xQ (by rfl'))
theorem p5(w:World)(os:OsState):segRun treeTable p w 11 (some (r 6)) 1 214 (S4 w os).abs (piecesOf l5 E C ⟨8,0,9,8⟩ B)=some (.next,(S5 w os).abs,C,⟨10,0,11,8⟩):=K5z (xQ (by rfl'))
theorem p6(w:World)(os:OsState):segRun treeTable p w 11 (some (r 6)) 1 214 (S5 w os).abs (piecesOf l6 E C ⟨10,0,11,8⟩ B)=some (.next,(S6 w os).abs,C,⟨12,0,13,8⟩):=K5z (xQ (by rfl'))
theorem p7(w:World)(os:OsState):segRun treeTable p w 11 (some (r 6)) 1 378 (S6 w os).abs (piecesOf l7 E C ⟨12,0,13,8⟩ B)=some (.next,(S7 w os).abs,C,⟨28,0,32,15⟩):=K5z (xQ (by rfl'))
theorem p8(w:World)(os:OsState):segRun treeTable p w 11 (some (r 6)) 1 393 (S7 w os).abs (piecesOf l8 E C ⟨28,0,32,15⟩ B)=some (.next,(S8 w os).abs,C,⟨85,0,90,27⟩):=K5z (xQ (by rfl'))
theorem p9(w:World)(os:OsState):segRun treeTable p w 11 (some (r 6)) 1 396 (S8 w os).abs (piecesOf l9 E C ⟨85,0,90,27⟩ B)=some (.next,(S9 w os).abs,C,⟨184,0,193,31⟩):=K5z (xQ (by rfl'))
theorem p10(w:World)(os:OsState):segRun treeTable p w 11 (some (r 6)) 1 86 (S9 w os).abs (piecesOf l10 E C ⟨184,0,193,31⟩ B)=some (.next,(S10 w os).abs,C,⟨213,0,243,78⟩):=K5z (xQ (by rfl'))
theorem fin(w:World)(os:OsState):topRun treeTable p w 11 (some (r 6)) 2 (S10 w os).abs ⟨doneF .next,C,⟨213,0,243,78⟩,B⟩=some (S w os):=SJ (by rfl')
abbrev M:Nat:=(12+(1+(196+(214+(214+(214+(214+(214+(378+(393+(396+(86+2))))))))))))
theorem lst:behindTheImports p=(l1++(l2++(l3++(l4++(l5++(l6++(l7++(l8++(l9++(l10++[])))))))))):=by rfl'
theorem r10(w:World)(os:OsState):topRun treeTable p w 11 (some (r 6)) 2 (S10 w os).abs (restOf [] E C ⟨213,0,243,78⟩ B)=some (S w os):=fin w os
theorem r9(w:World)(os:OsState):topRun treeTable p w 11 (some (r 6)) (86+2) (S9 w os).abs (restOf (l10++[]) E C ⟨184,0,193,31⟩ B)=some (S w os):=L5z (p10 w os) (r10 w os)
theorem r8(w:World)(os:OsState):topRun treeTable p w 11 (some (r 6)) (396+(86+2)) (S8 w os).abs (restOf (l9++(l10++[])) E C ⟨85,0,90,27⟩ B)=some (S w os):=L5z (p9 w os) (r9 w os)
theorem r7(w:World)(os:OsState):topRun treeTable p w 11 (some (r 6)) (393+(396+(86+2))) (S7 w os).abs (restOf (l8++(l9++(l10++[]))) E C ⟨28,0,32,15⟩ B)=some (S w os):=L5z (p8 w os) (r8 w os)
theorem r6(w:World)(os:OsState):topRun treeTable p w 11 (some (r 6)) (378+(393+(396+(86+2)))) (S6 w os).abs (restOf (l7++(l8++(l9++(l10++[])))) E C ⟨12,0,13,8⟩ B)=some (S w os):=L5z (p7 w os) (r7 w os)
theorem r5(w:World)(os:OsState):topRun treeTable p w 11 (some (r 6)) (214+(378+(393+(396+(86+2))))) (S5 w os).abs (restOf (l6++(l7++(l8++(l9++(l10++[]))))) E C ⟨10,0,11,8⟩ B)=some (S w os):=L5z (p6 w os) (r6 w os)
theorem r4(w:World)(os:OsState):topRun treeTable p w 11 (some (r 6)) (214+(214+(378+(393+(396+(86+2)))))) (S4 w os).abs (restOf (l5++(l6++(l7++(l8++(l9++(l10++[])))))) E C ⟨8,0,9,8⟩ B)=some (S w os):=L5z (p5 w os) (r5 w os)
theorem r3(w:World)(os:OsState):topRun treeTable p w 11 (some (r 6)) (214+(214+(214+(378+(393+(396+(86+2))))))) (S3 w os).abs (restOf (l4++(l5++(l6++(l7++(l8++(l9++(l10++[]))))))) E C ⟨6,0,7,8⟩ B)=some (S w os):=L5z (p4 w os) (r4 w os)
theorem r2(w:World)(os:OsState):topRun treeTable p w 11 (some (r 6)) (214+(214+(214+(214+(378+(393+(396+(86+2)))))))) (S2 w os).abs (restOf (l3++(l4++(l5++(l6++(l7++(l8++(l9++(l10++[])))))))) E C ⟨4,0,5,8⟩ B)=some (S w os):=L5z (p3 w os) (r3 w os)
theorem r1(w:World)(os:OsState):topRun treeTable p w 11 (some (r 6)) (214+(214+(214+(214+(214+(378+(393+(396+(86+2))))))))) (S1 w os).abs (restOf (l2++(l3++(l4++(l5++(l6++(l7++(l8++(l9++(l10++[]))))))))) E C ⟨2,0,3,8⟩ B)=some (S w os):=L5z (p2 w os) (r2 w os)
theorem r0(w:World)(os:OsState):topRun treeTable p w 11 (some (r 6)) (196+(214+(214+(214+(214+(214+(378+(393+(396+(86+2)))))))))) (S0 w os).abs (restOf (l1++(l2++(l3++(l4++(l5++(l6++(l7++(l8++(l9++(l10++[])))))))))) E C ⟨0,0,0,0⟩ B)=some (S w os):=L5z (p1 w os) (r1 w os)
theorem run(w:World)(os:OsState):topRun treeTable p w 11 (some (r 6)) M ⟨boot_heap w.params,Array.mk [],boot_drawn,boot_toks,os⟩ (topStub p)=some (S w os):=go_top (pre w os) (piece_block (blk w os) (Mh lst (r0 w os)))
def K(P:Params):Frag:=[(2,boot_o_2 P),(3,DP P),(15,o15),(22,y),(23,o23 P),(24,DQ),(25,o25),(28,o28),(35,y),(36,o36 P),(37,o37),(40,o40),(47,y),(48,o48 P),(49,o49),(52,o52),(59,y),(60,o60 P),(61,o61),(64,o64),(71,y),(72,o72 P),(73,o73),(76,o76),(83,y),(84,o84 P),(85,o85),(88,o88),(95,y),(96,o96 P),(97,o97),(100,y),(102,Qd),(103,y),(105,Qc),(106,Qa),(107,y),(109,P0),(110,y),(112,PN),(113,PK),(114,y),(116,PJ),(117,y),(119,PB),(120,Pz),(121,y),(124,Py),(125,Px),(126,y),(128,Pu),(129,y),(131,O8),(132,O7),(133,y),(136,O6),(137,O5),(138,y),(140,O4),(141,y),(143,O2),(144,O1),(145,y),(148,OJ),(149,OD),(150,y),(153,Oz),(154,Ox),(155,y),(157,Ow),(158,y),(160,Ov),(161,Ou),(162,y),(165,Ot),(166,Oq),(167,y),(170,Oo),(171,Om),(172,y),(175,Ol),(176,Oj),(177,y),(180,Oi),(181,Oh),(182,y),(185,Og),(186,Oe),(187,y),(189,Od),(190,y),(192,Oc),(193,Ob),(194,y),(196,Oa),(197,y),(199,N8),(200,o200),(242,y),(245,N7),(246,N6),(247,y),(249,N5),(250,y),(252,Nz),(253,Ny),(254,y),(256,Nx),(257,y),(259,Nv),(260,Nu),(261,y),(264,Nt),(265,Nr),(266,y),(268,Nq),(269,y),(271,Np),(272,Nm),(273,y),(275,Nk),(276,y),(278,Nj),(279,Ni),(280,y),(282,Nh),(283,y),(285,Ng),(286,Nf),(287,y),(289,Nb),(290,y),(292,M9),(293,M8),(294,y),(297,M7),(298,M6),(299,y),(302,M5),(303,M4)]
noncomputable abbrev as:List Addr:=[2,3,15,22,23,24,25,28,35,36,37,40,47,48,49,52,59,60,61,64,71,72,73,76,83,84,85,88,95,96,97,100,102,103,105,106,107,109,110,112,113,114,116,117,119,120,121,124,125,126,128,129,131,132,133,136,137,138,140,141,143,144,145,148,149,150,153,154,155,157,158,160,161,162,165,166,167,170,171,172,175,176,177,180,181,182,185,186,187,189,190,192,193,194,196,197,199,200,242,245,246,247,249,250,252,253,254,256,257,259,260,261,264,265,266,268,269,271,272,273,275,276,278,279,280,282,283,285,286,287,289,290,292,293,294,297,298,299,302,303]
abbrev m0:Nat:=11
abbrev tk:Nat:=583
abbrev ann:Option Value:=(some (r 6))
def Xt(s:Shared):Bool:=xlAt q [] s&&recOk PySem.Challenge.rw_minortables_k80_whole_texts.row.toRowW.records s
theorem lk0(w:World)(os:OsState):(staticsOk (importedModules p.main.body) (boot_heap w.params) (H1 w.params)&&namesBound p (H1 w.params)&&gensDone (S w os)&&laidKept (boot_heap w.params) (H1 w.params))=true:=by
 rw[Fast.te5923862056798008813];rfl'
theorem lk1(w:World)(os:OsState):PyProof.Rows.seen ((PyProof.Rows.recsOf q).map (·.name)) (PyProof.Rows.ownsOf q) [] {S w os with gens := #[]}=PyProof.Rows.expectedOf q:=by
 rw[Fast.te5160383126252970620,Fast.te3399658132070893891,Fast.te5991557255702980513];rfl'
theorem lk2(w:World)(os:OsState):(S w os).heap.bltView=bltViewBooted:=by rfl'
theorem lk3(w:World)(os:OsState):((S w os).heap.keysOk (looseW q lo) ((PyProof.Rows.recsOf q).map (·.name)) ((PyProof.Rows.litsOf q).map (·.1)) ((PyProof.Rows.clssOf q (looseW q lo)).map (·.name))&&(S w os).heap.accountedOkI (importedModules p.main.body)&&(S w os).heap.isNs mainGlobals&&(S w os).heap.isNs builtinsNs&&PyProof.Rows.tablesOk q (S w os).heap&&Xt (S w os)&&(if true then(S w os).gens.size==0 else !leftWithCleanup (S w os).gens))=true:=by
 rw[Fast.te10880121769531294198,Fast.te821141287760084731,Fast.te3399658132070893891,Fast.te7409074990110511671,Fast.te13664370479719496447,Fast.te14722251495701143533,Fast.te5923862056798008813];rfl'
theorem lk4(w:World)(os:OsState):PyProof.Rows.tabsOk q (S w os)=true:=by rw[Fast.te479339242167458305];rfl'
theorem lk5(w:World)(os:OsState):pinSeenD q (PyProof.Rows.drecsOf q) (S w os)=pinGoodD (PyProof.Rows.drecsOf q):=by rw[Fast.te16090120013241838585,Fast.te3247288618530077131];rfl'
theorem lk6(w:World)(os:OsState):PyProof.Rows.plainSeenE q (looseW q lo) (S w os)=PyProof.Rows.plainGoodE q (looseW q lo):=by rw[Fast.te2386780881361962483,Fast.te821141287760084731];rfl'
theorem lk7(w:World)(os:OsState):PyProof.Rows.plainSeenD q lo (S w os)=PyProof.Rows.plainGoodD q lo:=by rw[Fast.te11698064438423848299];rfl'
theorem lk8(w:World)(os:OsState):wideSeen q (S w os)=wideGood q:=by rw[Fast.te7317090234206586261];rfl'
theorem lk9(w:World)(os:OsState):clsSeenW q lo (S w os)=clsGoodW q lo:=by rw[Fast.te7369524293546568484];rfl'
theorem asK(P:Params):as=(K P).map (·.1):=by rfl'
abbrev H:Hook:=kHook K as asK
theorem lkY(w:World)(os:OsState):H.obs (S w os)=H.val w:=by rfl'
theorem looks(w:World):(λos=>((staticsOk (importedModules p.main.body) (boot_heap w.params) (H1 w.params)&&namesBound p (H1 w.params)&&gensDone (S w os)&&laidKept (boot_heap w.params) (H1 w.params)),openSeen q lo (importedModules p.main.body) Xt true (S w os),H.obs (S w os)))=λ_=>(true,openGood q lo,H.val w) :=
 funext λos=>J5z (lk0 w os) (J5z (J5z (lk1 w os) (J5z (lk2 w os) (J5z (lk3 w os) (J5z (lk4 w os) (J5z (lk5 w os) (J5z (lk6 w os) (J5z (lk7 w os) (J5z (lk8 w os) (lk9 w os))))))))) (lkY w os))
theorem size(w:World):((boot_heap w.params).isNs mainGlobals&&(Array.mk ([]:List GenState)).size==0,(boot_heap w.params).objs.size,(boot_heap w.params).nsMap mainGlobals "__annotations__")=(true,m0,ann):=by
 rw[Fast.te8920871248978507458];rfl'
theorem bt(w:World):(fencedOpening treeTable p w N).map (λs=>(s.heap,s.gens,s.drawn,s.toks))=some (boot_heap w.params,Array.mk [],boot_drawn,boot_toks) :=
 boot_open (p:=p) (N:=N) (by rfl') (by rfl') (λ_=>rfl) w
theorem left:LeftO p q lo Xt H.obs H.val N :=
 LeftO.of_pieces (H₀:=boot_heap) (H₁:=H1) (m₀:=m0) (ann:=ann) (M:=M) (gs₀:=Array.mk []) (gs₁:=⟨[]⟩) (d₀:=boot_drawn) (d₁:={}) (k₀:=boot_toks) (k₁:=tk) bt size run (by rfl') looks
abbrev R:OpenLaw:=PySem.Challenge.rw_minortables_k80_whole_texts
theorem said:R.wellSaid=true:=by rw[Fast.te9446332074065402090];rfl'
def dr:DefRec:=match d 47 with|.FunctionDef n a l _ _ _ sc _ _ o=>⟨n,a,l,sc,o⟩|_=>⟨"",default,[],default,⟨0,0,0,0⟩⟩
theorem hdef:defOf q R.row.name=some (dr,[]):=by rfl'
theorem hthe:R.row.prog.theDef R.row.name=some (dr.params,dr.body,dr.scope):=by rfl'
theorem hkw:kwWritten? dr.params.kwonlyargs dr.params.kw_defaults=some []:=by rfl'
theorem hok:(chainsOk q&&opensWell R.row.prog&&(frees R.row.toRowW&&R.row.within.isEmpty))=true:=by rfl'
theorem hbare:R.row.prog.bare:=⟨rfl,rfl,rfl,rfl,rfl,by rfl'⟩
theorem Ut:R.row.toRowW.promised:=⟨[.list []],by rfl',by rfl'⟩
theorem holds(call:WalkO q lo (XL q []) H.says R.row.toRowW dr [] λf vs=>PySem.call f vs):R.Holds :=
 holds_law said λk1=>holds_open (r:=R.row) (q:=q) (loose:=lo) (Xt:=Xt) (XP:=XL q []) (Yf:=H.obs) (Ya:=H.val) (YP:=H.says) (N:=N) left H.of H.keeps (λs e=>xl_of s (Bool.and_eq_true_iff.mp e).1) XL.keeps hdef hthe hkw (λs e=>recFacts_of (Bool.and_eq_true_iff.mp e).2) rfl k1 hok hbare Ut call
end H80
end
namespace M80
open PySem PySem.W L2 DE
theorem txt(w:World){mg:Str->Option Value}{h:Heap}(X:(H80.K w.params).In h)(G:h.Ns mainGlobals mg):Text w (H80.K w.params) mg T :=
  ⟨in_of (l:=cs) (Q:=λ(x:Str)(d:D)=>∃v u,(∀H',Rep (H80.K w.params) H' d v)/\mg x=some u/\RelV v u) (aC (cA X G 305 (by rfl')) (aC (cA X G 360 (by rfl')) (aN))),
    in_of (l:=bl) (Q:=λx b=>mg x=none/\x=Str.ofString b) (aC (bA X G (by rfl') rfl) (aC (bA X G (by rfl') rfl) (aC (bA X G (by rfl') rfl) (aC (bA X G (by rfl') rfl) (aC (bA X G (by rfl') rfl) (aC (bA X G (by rfl') rfl) (aC (bA X G (by rfl') rfl) (aC (bA X G (by rfl') rfl) (aC (bA X G (by rfl') rfl) (aC (bA X G (by rfl') rfl) (aC (bA X G (by rfl') rfl) (aC (bA X G (by rfl') rfl) (aC (bA X G (by rfl') rfl) (aN)))))))))))))),
    in_of (l:=df) (Q:=λx fd=>FunAt (H80.K w.params) mg x fd) (
     aC (bw X G 106 .none (.str "minortables.checks" 303) (.ref 105) b10 (by rfl') (by rfl') (by rfl')) (
     aC (bw X G 113 .none (.str "minortables.checks" 303) (.ref 112) b11 (by rfl') (by rfl') (by rfl')) (
     aC (bw X G 120 .none (.str "minortables.checks" 303) (.ref 119) b12 (by rfl') (by rfl') (by rfl')) (
     aC (bw X G 125 .none (.str "minortables.checks" 303) (.ref 124) b13 (by rfl') (by rfl') (by rfl')) (
     aC (bw X G 132 .none (.str "minortables.checks" 303) (.ref 131) b14 (by rfl') (by rfl') (by rfl')) (
     aC (bw X G 137 .none (.str "minortables.checks" 303) (.ref 136) b15 (by rfl') (by rfl') (by rfl')) (
     aC (bw X G 144 .none (.str "minortables.checks" 303) (.ref 143) b16 (by rfl') (by rfl') (by rfl')) (
     aC (bw X G 149 .none (.str "minortables.tables" 358) (.ref 148) b19 (by rfl') (by rfl') (by rfl')) (
     aC (bw X G 154 .none (.str "minortables.tables" 358) (.ref 153) b20 (by rfl') (by rfl') (by rfl')) (
     aC (bw X G 161 .none (.str "minortables.texts" 374) (.ref 160) b22 (by rfl') (by rfl') (by rfl')) (
     aC (bw X G 166 .none (.str "minortables.texts" 374) (.ref 165) b23 (by rfl') (by rfl') (by rfl')) (
     aC (bw X G 171 .none (.str "minortables.texts" 374) (.ref 170) b24 (by rfl') (by rfl') (by rfl')) (
     aC (bw X G 176 .none (.str "minortables.texts" 374) (.ref 175) b25 (by rfl') (by rfl') (by rfl')) (
     aC (bw X G 181 .none (.str "minortables.texts" 374) (.ref 180) b26 (by rfl') (by rfl') (by rfl')) (
     aC (bw X G 186 .none (.str "minortables.texts" 374) (.ref 185) b27 (by rfl') (by rfl') (by rfl')) (
     aC (bw X G 193 .none (.str "law_minortables_k80_whole_texts" 415) (.ref 192) b29 (by rfl') (by rfl') (by rfl')) (
     aC (bw X G 200 .none (.str "law_minortables_k80_whole_texts" 415) (.ref 199) b30 (by rfl') (by rfl') (by rfl')) (
     aC (bw X G 246 .none (.str "law_minortables_k80_whole_texts" 415) (.ref 245) b38 (by rfl') (by rfl') (by rfl')) (
     aC (bw X G 253 .none (.str "law_minortables_k80_whole_texts" 415) (.ref 252) b39 (by rfl') (by rfl') (by rfl')) (
     aC (bw X G 260 .none (.str "law_minortables_k80_whole_texts" 415) (.ref 259) b40 (by rfl') (by rfl') (by rfl')) (
     aC (bw X G 265 .none (.str "law_minortables_k80_whole_texts" 415) (.ref 264) b41 (by rfl') (by rfl') (by rfl')) (
     aC (bw X G 272 .none (.str "law_minortables_k80_whole_texts" 415) (.ref 271) b42 (by rfl') (by rfl') (by rfl')) (
     aC (bw X G 279 .none (.str "law_minortables_k80_whole_texts" 415) (.ref 278) b43 (by rfl') (by rfl') (by rfl')) (
     aC (bw X G 286 .none (.str "law_minortables_k80_whole_texts" 415) (.ref 285) b44 (by rfl') (by rfl') (by rfl')) (
     aC (bw X G 293 .none (.str "law_minortables_k80_whole_texts" 415) (.ref 292) b45 (by rfl') (by rfl') (by rfl')) (
     aC (bw X G 298 .none (.str "law_minortables_k80_whole_texts" 415) (.ref 297) b46 (by rfl') (by rfl') (by rfl')) (
     aC (bw X G 303 .none (.str "law_minortables_k80_whole_texts" 415) (.ref 302) b47 (by rfl') (by rfl') (by rfl')) (
     aN)))))))))))))))))))))))))))),XText.of (λx v h=>N4z X G h) (by rfl'),by show List.map _ _=List.map _ _;rfl'⟩
end M80
open PySem PySem.W PyProof.Rows
set_option maxRecDepth 100000 in
set_option maxHeartbeats 0 in
theorem PySem.Challenge.cw_minortables_k80_whole_texts_holds : PySem.Challenge.rw_minortables_k80_whole_texts.Holds :=
 H80.holds (M80.walk (l := PySem.Challenge.rw_minortables_k80_whole_texts) (K := H80.K) rfl (by rfl') (fun w h Y => W.kIn_of (e := H80.asK) Y) fun w mg fa h KX G hmg => M80.fin M80.law_true (M80.txt w KX G) KX G hmg 303 .none (.str "law_minortables_k80_whole_texts" 415) (.ref 302) (by rfl') (by rfl') (by rfl') (by rfl'))
#print axioms PySem.Challenge.cw_minortables_k80_whole_texts_holds
