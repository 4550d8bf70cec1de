import PyProof.Rows.All
import Wide.All
import OpenK.AllK
import Wide.FinOn
import Lean
import PyProof.EqAt
import PyProof.EqKinds
import PyProof.TupleCall
import PyProof.ListRange
import KE.KSortAsk
import KE.KSortTup
import PyProof.Rows.SortShellK
import PyProof.TupleKey
import PyProof.Rows.SetFrom
import KE.KDictSum
import PyProof.SetNew
import PySem.Names
import PyProof.NeKinds
import PySem.Challenge.RW_minortables_k60_whole_signs
set_option Elab.async false
set_option linter.all false
set_option maxRecDepth 100000
noncomputable section
namespace L2
open PySem PySem.Spec PyProof.Rows
abbrev Key:=Sum Int Str
def sV:Key->Value->Bool
 | .inl k,v=>Value.isInt k v
 | .inr x,v=>Value.isStrOf x v
def Tt(w:World):Key->Int
 | .inl k=>hashInt k
 | .inr x=>hashStr w x
theorem bI:∀ {k:Key} {v:Value},sV k v=true->(∃ i t,k=Sum.inl i/\v=Value.int i t)\/(∃ x t,k=Sum.inr x/\v=Value.str x t)
 | .inl i,v,h=>by
  obtain⟨t,e⟩:=Value.isInt_shape (k:=i) (v:=v) h;exact .inl ⟨i,t,rfl,e⟩
 | .inr x,v,h=>by
  obtain⟨t,e⟩:=Value.isStrOf_shape (x:=x) (v:=v) h;exact .inr ⟨x,t,rfl,e⟩
theorem vO(i:Int)(t:Tok):sV (.inl i) (.int i t)=true:=by simp[sV,Value.isInt]
theorem vN(x:Str)(t:Tok):sV (.inr x) (.str x t)=true:=by simp[sV,Value.isStrOf]
theorem JT(a b:Int):decide ((Sum.inl a:Key)=Sum.inl b)=(a==b):=by
 by_cases e:a=b
 ·subst e;simp
 ·have h:¬ (Sum.inl a:Key)=Sum.inl b:=fun q=>e (Sum.inl.inj q)
  rw[decide_eq_false h];exact(beq_eq_false_iff_ne.mpr e).symm
theorem JN(a b:Str):decide ((Sum.inr a:Key)=Sum.inr b)=decide (a=b):=by
 by_cases e:a=b
 ·subst e;simp
 ·have h:¬ (Sum.inr a:Key)=Sum.inr b:=fun q=>e (Sum.inr.inj q)
  rw[decide_eq_false h,decide_eq_false e]
theorem JR(a:Int)(b:Str):decide ((Sum.inl a:Key)=Sum.inr b)=false:=decide_eq_false (fun q=>nomatch q)
theorem JQ(a:Str)(b:Int):decide ((Sum.inr a:Key)=Sum.inl b)=false:=decide_eq_false (fun q=>nomatch q)
def cX(prog:Program)(w:World):PySem.KeyKind prog w Key where
 is:=sV
 hash:=Tt w
 inj:=fun v a b ha hb=>by
  rcases bI ha with⟨i,t,rfl,rfl⟩ | ⟨x,t,rfl,rfl⟩
  ·rcases bI hb with⟨j,u,rfl,e⟩ | ⟨y,u,rfl,e⟩
   ·injection e with e1 _;rw[e1]
   ·exact nomatch e
  ·rcases bI hb with⟨j,u,rfl,e⟩ | ⟨y,u,rfl,e⟩
   ·exact nomatch e
   ·injection e with e1 _;rw[e1]
 byValue:=fun k v h=>by
  rcases bI h with⟨i,t,rfl,rfl⟩ | ⟨x,t,rfl,rfl⟩<;>rfl
 pyHash:=fun hv h=>by
  rcases bI hv with⟨i,t,rfl,rfl⟩ | ⟨x,t,rfl,rfl⟩
  ·exact wpAny_pyHash_int h
  ·exact wpAny_pyHash_str h
 eqBool:=fun hu hv h=>by
  rcases bI hu with⟨i,t,rfl,rfl⟩ | ⟨x,t,rfl,rfl⟩
  ·rcases bI hv with⟨j,u,rfl,rfl⟩ | ⟨y,u,rfl,rfl⟩
   ·rw[JT] at h;exact wpAny_eqBool_int h
   ·rw[JR] at h;exact SeqAt.EqAt.int_str i t y u _ _ _ _ h
  ·rcases bI hv with⟨j,u,rfl,rfl⟩ | ⟨y,u,rfl,rfl⟩
   ·rw[JQ] at h;exact SeqAt.EqAt.str_int x t j u _ _ _ _ h
   ·rw[JN] at h;exact wpAny_eqBool_str h
 «strs» :=fun k x t v h=>by
  rcases bI h with⟨i,u,rfl,e⟩ | ⟨y,u,rfl,e⟩
  ·exact nomatch e
  ·injection e with e1 _
   subst e1
   cases v<;>rfl
theorem pL(prog:Program)(w:World)(i:Int)(t:Tok):(cX prog w).is (.inl i) (.int i t)=true:=vO i t
theorem pK(prog:Program)(w:World)(x:Str)(t:Tok):(cX prog w).is (.inr x) (.str x t)=true:=vN x t
end L2
namespace L2
open PySem PySem.Spec PyProof.Rows
inductive V where
 | non | bl (b:Bool) | int (i:Int) | str (x:Str) | byt (b:Array UInt8) | flt (b:UInt64) | ref (a:Addr) | ty (n:String)
 deriving DecidableEq
def RelV:V->Value->Prop
 | .non,u=>u=Value.none
 | .bl b,u=>u=Value.bool b
 | .int i,u=>∃ t,u=Value.int i t
 | .str x,u=>∃ t,u=Value.str x t
 | .byt b,u=>∃ t,u=Value.bytes b t
 | .flt b,u=>∃ t,u=Value.float b t
 | .ref a,u=>u=Value.ref a
 | .ty n,u=>u=Value.type n
abbrev Vals:List V->List Value->Prop:=Paired RelV
theorem Vals.length{xs:List V}{us:List Value}(r:Vals xs us):xs.length=us.length:=Paired.length r
theorem Vals.get:∀ {xs:List V} {us:List Value} {i:Nat} {x:V},Vals xs us->xs[i]?=some x->∃ u,us[i]?=some u/\RelV x u
 | _,_,_,_,.nil,e=>by simp at e
 | _,_,0,_,.cons r _,e=>by simp at e;subst e;exact⟨_,rfl,r⟩
 | _,_,i+1,x,.cons _ t,e=>by
  obtain⟨u,h1,h2⟩:=Vals.get (i:=i) (x:=x) t (by simpa using e);exact⟨u,by simpa using h1,h2⟩
theorem Vals.set{x:V}{u:Value}(r:RelV x u):∀ {xs:List V} {us:List Value} (i:Nat),Vals xs us->Vals (xs.set i x) (us.set i u)
 | _,_,_,.nil=>.nil
 | _,_,0,.cons _ t=>.cons r t
 | _,_,i+1,.cons q t=>.cons q (Vals.set r i t)
theorem Vals.append:∀ {xs ys:List V} {us ws:List Value},Vals xs us->Vals ys ws->Vals (xs++ys) (us++ws)
 | _,_,_,_,.nil,s=>s
 | _,_,_,_,.cons r t,s=>.cons r (Vals.append t s)
theorem Vals.take:∀ {xs:List V} {us:List Value} (n:Nat),Vals xs us->Vals (xs.take n) (us.take n)
 | _,_,0,_=>.nil
 | _,_,_+1,.nil=>.nil
 | _,_,n+1,.cons r t=>.cons r (Vals.take n t)
theorem Vals.drop:∀ {xs:List V} {us:List Value} (n:Nat),Vals xs us->Vals (xs.drop n) (us.drop n)
 | _,_,0,r=>r
 | _,_,_+1,.nil=>.nil
 | _,_,n+1,.cons _ t=>Vals.drop n t
def Hq:Option V->Option Value->Prop
 | some v,some u=>RelV v u
 | none,none=>True
 | _,_=>False
def KV{κ:Type}:List (κ×V)->List (κ×Value)->Prop:=Paired fun(p:κ×V) (q:κ×Value)=>p.1=q.1/\RelV p.2 q.2
def kV:Key->V
 | .inl i=>.int i
 | .inr x=>.str x
inductive HO where
 | lst (xs:List V)
 | tup (xs:List V)
 | dK (kvs:List (Key×V)) | dT (kvs:List (List Key×V))
 | set (S:Int->Bool) (n:Nat)
 | ins (C dx:Addr) (fs:List (Str×V))
 | own (x:Addr)
 | xd (fs:List (Str×V))
 | met (f x:Addr)
 | rng (lo hi:Int)
 | frz (o:Obj) (u:HO)
 | tbl (ps:Array Value)
 | ext (φ:Heap->Prop)
noncomputable abbrev Hp:=Addr->Option HO
def upd(H:Hp)(a:Addr)(o:HO):Hp:=fun b=>if b=a then some o else H b
theorem aR{H:Hp}{a:Addr}{o:HO}:upd H a o a=some o:=by unfold upd;rw[if_pos rfl]
theorem aH{H:Hp}{a b:Addr}{o:HO}(h:b≠a):upd H a o b=H b:=by unfold upd;rw[if_neg h]
theorem aF{H:Hp}{a b:Addr}{o:HO}(h:H a=some o)(h':H b=none):a≠b:=by
 intro e;subst e;rw[h] at h';cases h'
section
variable (P:Program) (w:World)
def cV(H:Hp)(h:Heap)(a:Addr):HO->Prop
 | .lst xs=>xs.length<=sizeLine/\∃ (its:List Value) (n:Nat),Vals xs its/\h.get? a=some { cls:=.type "list",data:=.seq its.toArray n }
 | .tup xs=>xs.length<=sizeLine/\∃ its:List Value,Vals xs its/\IsTup h a its.toArray
 | .dK kvs=>kvs.length<=sizeLine/\(a==sysModules)=false/\∃ vs,KV kvs vs/\h.DictOf (cX P w) a vs
 | .dT kvs => kvs.length <= sizeLine /\ (a == sysModules) = false /\ ∃ xs : List (List Key × Addr × Value),
   Paired (fun(p:List Key×V) (q:List Key×Addr×Value)=>p.1=q.1/\H q.2.1=some (.tup (p.1.map kV))/\RelV p.2 q.2.2) kvs xs /\
   ∃ o es ep,h.get? a=some o/\o.ExactDict/\o.data=.dict es ep/\es.toList=xs.map (entryOfKey (tupleKind (cX P w)))/\(xs.map (·.1)).Nodup
 | .set S n=>h.SetOf (intKind P w) a S n
 | .ins C dx fs => H dx = some (.own a) /\ fs.length <= 1000 /\ dx ≠ a /\ h.get? a = some (PySem.W.instObj C dx) /\
   ∃ mA,h.Ns1 dx mA/\(∀ f,Hq (fs.lookup f) (mA f))/\PySem.Within mA (fs.map (·.1))
 | .own _=>∃ o,h.get? a=some o
 | .xd fs=>∃ mA,h.Ns1 a mA/\∀ f,Hq (fs.lookup f) (mA f)
 | .rng lo hi=>∃ t u v,h.get? a=some { cls:=.type "range",data:=.fields #[.int lo t,.int hi u,.int 1 v] }
 | .frz o u=>h.get? a=some o/\cV H h a u
 | .tbl ps=>h.get? a=some { cls:=.none,data:=.fields ps }
 | .met f x=>h.get? a=some (PySem.W.methodObj (.ref f) (.ref x))
 | .ext φ=>φ h/\(∃ o,h.get? a=some o)/\∀ h1 h2:Heap,φ h1->(∀ o,h1.get? a=some o->h2.get? a=some o)->φ h2
def HOk(H:Hp)(h:Heap):Prop:=∀ a o,H a=some o->cV P w H h a o
end
section
variable {P:Program} {w:World} {H H':Hp} {h h':Heap} {a:Addr} {o:HO}
theorem cV.lt(x:cV P w H h a o):a<h.objs.size:=by
 cases o with
 | lst xs=>obtain⟨_,_,_,_,e⟩:=x;exact Heap.lt_size e
 | tup xs=>obtain⟨_,_,_,p⟩:=x;exact p.lt
 | dK kvs=>obtain⟨_,_,_,_,o,_,_,e,_⟩:=x;exact Heap.lt_size e
 | dT kvs=>obtain⟨_,_,_,_,o,_,_,e,_⟩:=x;exact Heap.lt_size e
 | set S n=>obtain⟨o,_,_,_,e,_⟩:=x;exact Heap.lt_size e
 | ins C dx fs=>obtain⟨_,_,_,e,_⟩:=x;exact Heap.lt_size e
 | own y=>obtain⟨_,e⟩:=x;exact Heap.lt_size e
 | xd fs=>obtain⟨_,⟨_,_,_,e,_⟩,_⟩:=x;exact Heap.lt_size e
 | rng lo hi=>obtain⟨_,_,_,e⟩:=x;exact Heap.lt_size e
 | frz ob u=>obtain⟨e,_⟩:=x;exact Heap.lt_size e
 | tbl ps=>exact Heap.lt_size (show h.get? a=some _ from x)
 | met f y=>exact Heap.lt_size (show h.get? a=some _ from x)
 | ext φ=>obtain⟨_,⟨_,e⟩,_⟩:=x;exact Heap.lt_size e
theorem Paired.mapP{α β:Type}{F G:α->β->Prop}:∀ {l₁:List α} {l₂:List β},Paired F l₁ l₂->(∀ a b,F a b->G a b)->Paired G l₁ l₂
 | _,_,.nil,_=>.nil
 | _,_,.cons r t,f=>.cons (f _ _ r) (Paired.mapP t f)
theorem cV.stay(x:cV P w H h a o)(k:∀ b u,(b=a\/H b=some (.own a))->h.get? b=some u->h'.get? b=some u)
  (ho:∀ b,H b=some (.own a)->H' b=some (.own a)) (ht:∀ b xs,H b=some (.tup xs)->H' b=some (.tup xs)):cV P w H' h' a o:=by
 induction o with
 | lst xs=>obtain⟨z,its,n,r,e⟩:=x;exact⟨z,its,n,r,k _ _ (.inl rfl) e⟩
 | tup xs=>obtain⟨z,its,r,ob,e,c⟩:=x;exact⟨z,its,r,ob,k _ _ (.inl rfl) e,c⟩
 | dK kvs=>obtain⟨z,y,vs,r,ob,es,ep,e,c⟩:=x;exact⟨z,y,vs,r,ob,es,ep,k _ _ (.inl rfl) e,c⟩
 | dT kvs =>
  obtain⟨z,y,xs,r,ob,es,ep,e,c⟩:=x;exact⟨z,y,xs,Paired.mapP r fun p q z=>⟨z.1,ht _ _ z.2.1,z.2.2⟩,ob,es,ep,k _ _ (.inl rfl) e,c⟩
 | set S n=>obtain⟨ob,es,ep,t,e,c⟩:=x;exact⟨ob,es,ep,t,k _ _ (.inl rfl) e,c⟩
 | ins C dx fs =>
  obtain⟨d,z,ne,e,mA,⟨od,es,ep,e2,c⟩,r⟩:=x;exact⟨ho _ d,z,ne,k _ _ (.inl rfl) e,mA,⟨od,es,ep,k _ _ (.inr d) e2,c⟩,r⟩
 | own y=>obtain⟨ob,e⟩:=x;exact⟨ob,k _ _ (.inl rfl) e⟩
 | xd fs=>obtain⟨mA,⟨od,es,ep,e,c⟩,r⟩:=x;exact⟨mA,⟨od,es,ep,k _ _ (.inl rfl) e,c⟩,r⟩
 | rng lo hi=>obtain⟨t,u,v,e⟩:=x;exact⟨t,u,v,k _ _ (.inl rfl) e⟩
 | frz ob u ih=>obtain⟨e,q⟩:=x;exact⟨k _ _ (.inl rfl) e,ih q⟩
 | tbl ps =>
  have e:h.get? a=some { cls:=.none,data:=.fields ps }:=x;show h'.get? a=some { cls:=.none,data:=.fields ps };exact k a _ (.inl rfl) e
 | met f y =>
  have e:h.get? a=some (PySem.W.methodObj (.ref f) (.ref y)):=x;show h'.get? a=some (PySem.W.methodObj (.ref f) (.ref y));exact k a _ (.inl rfl) e
 | ext φ=>obtain⟨p,⟨o,e⟩,st⟩:=x;exact⟨st _ _ p fun o q=>k _ _ (.inl rfl) q,⟨o,k _ _ (.inl rfl) e⟩,st⟩
theorem HOk.lt(x:HOk P w H h)(e:H a=some o):a<h.objs.size:=(x a o e).lt
theorem HOk.fresh(x:HOk P w H h)(e:h.objs.size<=a):H a=none:=by
 cases q:H a with
 | none=>rfl
 | some u=>exact absurd (Nat.lt_of_lt_of_le (x.lt q) e) (Nat.lt_irrefl _)
theorem HOk.kept(x:HOk P w H h)(k:∀ b u,h.get? b=some u->h'.get? b=some u):HOk P w H h':=fun a o e =>
 (x a o e).stay (fun b u _ q=>k b u q) (fun _ q=>q) fun _ _ q=>q
theorem HOk.laid(x:HOk P w H h)(k:∀ b u,h.get? b=some u->h'.get? b=some u)(hp:h.objs.size<=a)(new:cV P w (upd H a o) h' a o):HOk P w (upd H a o) h':=fun b u e=>by
 have hn:=x.fresh hp
 by_cases hb:b=a
 ·subst hb;rw[aR] at e;cases e;exact new
 ·rw[aH hb] at e
  exact(x b u e).stay (fun c v _ q=>k c v q) (fun c q=>by rw[aH (aF q hn)];exact q) fun c xs q=>by rw[aH (aF q hn)];exact q
end
def Rd(H:Hp)(a:Addr)(u:HO):Prop:=H a=some u\/∃ o,H a=some (.frz o u)
theorem Rd.ok{P:Program}{w:World}{H:Hp}{h:Heap}{a:Addr}{u:HO}(r:Rd H a u)(x:HOk P w H h):cV P w H h a u:=by
 rcases r with r | ⟨o,r⟩
 ·exact x a u r
 ·obtain⟨_,q⟩:=x a _ r
  exact q
def Mut:Option HO->Prop
 | some (.lst _)=>True
 | some (.dK _)=>True
 | some (.dT _)=>True
 | some (.set _ _)=>True
 | some (.ins _ _ _)=>True
 | some (.ext _)=>True
 | _=>False
section
variable {P:Program} {w:World} {H:Hp} {h h':Heap} {x e:Addr} {o':HO}
theorem HOk.write(ok:HOk P w H h)(mu:Mut (H x))(he:e=x\/H e=some (.own x))(k:∀ b u,b≠e->h.get? b=some u->h'.get? b=some u)(heo:∃ u,h'.get? e=some u)
  (new:cV P w (upd H x o') h' x o'):HOk P w (upd H x o') h':=fun b u q=>by
 have nown:∀ c y,H c=some (.own y)->c≠x:=fun c y r z=>by subst z;rw[r] at mu;exact mu
 have ntup:∀ c xs,H c=some (.tup xs)->c≠x:=fun c xs r z=>by subst z;rw[r] at mu;exact mu
 by_cases hb:b=x
 ·subst hb;rw[aR] at q;cases q;exact new
 ·rw[aH hb] at q
  by_cases hbe:b=e
  ·have q':H b=some (.own x):=by
    rcases he with z | z
    ·exact absurd (hbe.trans z) hb
    ·rw[hbe];exact z
   rw[q] at q';cases q'
   obtain⟨v,hv⟩:=heo;exact⟨v,by rw[hbe];exact hv⟩
  ·refine(ok b u q).stay (fun c v hc r=>k c v ?_ r) (fun c r=>by rw[aH (nown c b r)];exact r) fun c xs r=>by rw[aH (ntup c xs r)];exact r
   rcases hc with rfl | hc
   ·exact hbe
   ·rintro rfl
    rcases he with z | z
    ·exact nown c b hc z
    ·rw[hc] at z;cases z;exact hb rfl
end
structure Un (fs ex:List Addr) (H H':Hp) (h h':Heap):Prop where
 keep:∀ b o,h.get? b=some o->H b=none->b∉fs->b∉ex->h'.get? b=some o
 slot:∀ b o,h.get? b=some o->H b=none->b∈fs->b∉ex->∃ sl,h'.get? b=some { o with slots:=sl }
 free:∀ b o,h.get? b=some o->H b=none->b∉ex->H' b=none
 there:∀ b o,h.get? b=some o->b∉ex->∃ o',h'.get? b=some o'
 tups:∀ b xs,H b=some (.tup xs)->H' b=some (.tup xs)
 frzs:∀ b o u,H b=some (.frz o u)->H' b=some (.frz o u)
 tbls:∀ b ps,H b=some (.tbl ps)->∃ more,H' b=some (.tbl (ps++more))
section
variable {fs fs' ex ex':List Addr} {H H1 H2:Hp} {h h1 h2 h':Heap} {a x e:Addr} {o:HO}
theorem Un.any(u:Un fs ex H H1 h h1){b:Addr}{ob:Obj}(q:h.get? b=some ob)(n:H b=none)(hx:b∉ex):∃ sl,h1.get? b=some { ob with slots:=sl }:=by
 by_cases hb:b∈fs
 ·exact u.slot b ob q n hb hx
 ·exact⟨ob.slots,u.keep b ob q n hb hx⟩
theorem Un.trans(a:Un fs ex H H1 h h1)(b:Un fs ex H1 H2 h1 h2):Un fs ex H H2 h h2 where
 keep:=fun c ob q n hc hx=>b.keep c ob (a.keep c ob q n hc hx) (a.free c ob q n hx) hc hx
 slot:=fun c ob q n hc hx=>by
  obtain⟨sl,e1⟩:=a.slot c ob q n hc hx;obtain⟨sl',e2⟩:=b.slot c _ e1 (a.free c ob q n hx) hc hx;exact⟨sl',e2⟩
 free:=fun c ob q n hx=>by
  obtain⟨o',e1⟩:=a.there c ob q hx;exact b.free c o' e1 (a.free c ob q n hx) hx
 there:=fun c ob q hx=>by
  obtain⟨o',e1⟩:=a.there c ob q hx;exact b.there c o' e1 hx
 tups:=fun c xs q=>b.tups c xs (a.tups c xs q)
 frzs:=fun c ob xs q=>b.frzs c ob xs (a.frzs c ob xs q)
 tbls:=fun c ps q=>by
  obtain⟨m1,e1⟩:=a.tbls c ps q;obtain⟨m2,e2⟩:=b.tbls c _ e1;exact⟨m1++m2,by rw[e2,Array.append_assoc]⟩
theorem Un.kept(k:∀ b u,h.get? b=some u->h'.get? b=some u):Un fs ex H H h h' :=
 ⟨fun b ob q _ _ _=>k b ob q,fun b ob q _ _ _=>⟨ob.slots,k b ob q⟩,fun _ _ _ n _=>n,fun b ob q _=>⟨ob,k b ob q⟩,fun _ _ q=>q,fun _ _ _ q=>q,fun _ ps q=>⟨#[],by rw[q];simp⟩⟩
theorem Un.refl:Un fs ex H H h h:=Un.kept fun _ _ q=>q
theorem Un.laid(k:∀ b u,h.get? b=some u->h'.get? b=some u)(hp:h.objs.size<=a)(hn:H a=none):Un fs ex H (upd H a o) h h' where
 keep:=fun b u q _ _ _=>k b u q
 slot:=fun b u q _ _ _=>⟨u.slots,k b u q⟩
 free:=fun b u q n _=>by rw[aH (Nat.ne_of_lt (Nat.lt_of_lt_of_le (Heap.lt_size q) hp))];exact n
 there:=fun b u q _=>⟨u,k b u q⟩
 tups:=fun b xs q=>by rw[aH (aF q hn)];exact q
 frzs:=fun b u xs q=>by rw[aH (aF q hn)];exact q
 tbls:=fun b ps q=>⟨#[],by rw[aH (aF q hn),q];simp⟩
theorem Un.write(mu:Mut (H x))(he:e=x\/H e=some (.own x))(k:∀ b u,b≠e->h.get? b=some u->h'.get? b=some u)(heo:∃ u,h'.get? e=some u):Un fs ex H (upd H x o) h h':=by
 have hx:∀ b,H b=none->b≠x:=fun b n z=>by subst z;rw[n] at mu;exact mu
 have hb:∀ b,H b=none->b≠e:=fun b n z=>by
  subst z;rcases he with r | r
  ·exact hx b n r
  ·rw[n] at r;cases r
 have hm:∀ b u,H b=some u->¬ Mut (some u)->b≠x:=fun b u q nm z=>by subst z;rw[q] at mu;exact nm mu
 refine⟨fun b u q n _ _=>k b u (hb b n) q,fun b u q n _ _=>⟨u.slots,k b u (hb b n) q⟩,fun b u q n _=>by rw[aH (hx b n)];exact n,fun b u q _=>?_,
  fun b xs q=>by rw[aH (hm b _ q fun z=>z)];exact q,fun b u xs q=>by rw[aH (hm b _ q fun z=>z)];exact q,fun b ps q=>⟨#[],by rw[aH (hm b _ q fun z=>z),q];simp⟩⟩
 by_cases hbe:b=e
 ·subst hbe;exact heo
 ·exact⟨u,k b u hbe q⟩
theorem Un.mono(u:Un fs ex H H1 h h1)(hs:∀ b∈fs,b∈fs')(hx:∀ b∈ex,b∈ex'):Un fs' ex' H H1 h h1 :=
 ⟨fun b ob q n hb he=>u.keep b ob q n (fun z=>hb (hs b z)) fun z=>he (hx b z),fun _ _ q n _ he=>u.any q n fun z=>he (hx _ z),fun b ob q n he=>u.free b ob q n fun z=>he (hx b z),fun b ob q he=>u.there b ob q fun z=>he (hx b z),u.tups,u.frzs,u.tbls⟩
end
def trk(h:Heap)(H:Hp):List Addr:=(List.range h.objs.size).filter fun a=>(H a).isSome
def zN(h:Heap)(H:Hp):Heap:=PySem.W.hideAll h (trk h H)
theorem vZ(h:Heap)(H:Hp):(zN h H).objs.size=h.objs.size:=PySem.W.hideAll_size _ _
theorem zM{h:Heap}{H:Hp}{b:Addr}{o:Obj}(e:h.get? b=some o)(n:H b=none):(zN h H).get? b=some o :=
 PySem.W.hideAll_get _ e fun hm=>by
  have q:(H b).isSome=true:=(List.mem_filter.mp hm).2;rw[n] at q;simp at q
theorem Eu{h:Heap}{H:Hp}{b:Addr}{o:Obj}(e:(zN h H).get? b=some o):h.get? b=some o/\H b=none:=by
 have e':h.get? b=some o:=PySem.W.of_hideAll (trk h H) e;refine⟨e',?_⟩
 cases q:H b with
 | none=>rfl
 | some x =>
  have hm:b∈trk h H:=List.mem_filter.mpr ⟨List.mem_range.mpr (Heap.lt_size e'),by simp[q]⟩;have z:(zN h H).get? b=none:=PySem.W.hideAll_none (trk h H) hm;rw[z] at e;cases e
def G5(g h:Heap)(L:Addr):List (Addr×Obj):=(List.range h.objs.size).filterMap fun a=>if a=L\/(g.get? a).isSome=true then none else(h.get? a).map fun o=>(a,o)
def rest(g h:Heap)(L d:Addr):List (Addr×Obj):=(G5 g h L).filter fun p=>decide (p.1≠d)
end L2
namespace L2
open PySem PySem.Spec PyProof.Rows
structure Mod (K:PySem.W.Frag) (mg:Str->Option Value) (base:Heap):Prop where
 kin:K.In base
 glob:base.Ns mainGlobals mg
 blt:∃ mb,base.Ns builtinsNs mb/\∀ x:Str,x≠"__name__"->mb x=bootBuiltins x
 nolimit:base.NoLimit
structure Cx where
 prog:Program
 w:World
 K:PySem.W.Frag
 mg:Str->Option Value
 base:Heap
 A:Around
 N:List Str
 s₀:Shared
 H₀:Hp
 env:Env
 outer:List Env
 stack:List Env
 ex:List Addr
 fn:Str->Bool
 calm:Bool
 pn:List (Addr×Obj)
 xe:Value->Shared->Prop
def frs(l:List Env):List Addr:=l.filterMap (·.frame)
abbrev Cx.fs(X:Cx):List Addr:=frs X.outer
def Vis(sc:Scope)(x:Str):Prop:=sc.names.lookup x=some .local\/sc.names.lookup x=some .cell\/sc.names.lookup x=some .free
def Loc(sc:Scope)(x:Str):Prop:=sc.names.lookup x=some .local\/sc.names.lookup x=some .cell
def Look(env:Env)(h:Heap)(m:Str->Option Value)(x:Str)(u:Value):Prop :=
 (env.kindOf x=some .local/\m x=some u)\/((env.kindOf x=some .cell\/env.kindOf x=some .free)/\∃ c,env.cells.lookup x=some c/\h.IsCell c (some u))
structure Cx.Ok (X:Cx):Prop where
 mod:Mod X.K X.mg X.base
 kind:X.env.scope.kind=.function
 glob:X.env.globals=mainGlobals
 blt:X.env.builtins=builtinsNs
 above:X.s₀.heap.objs.size<=X.env.locals
 inj:∀ x y c,X.env.cells.lookup x=some c->X.env.cells.lookup y=some c->x=y
 has:∀ x,(X.env.kindOf x=some .cell\/X.env.kindOf x=some .free)->∃ c,X.env.cells.lookup x=some c
 cab:∀ x c,X.fn x=true->X.env.cells.lookup x=some c->X.s₀.heap.objs.size<=c
 hd:X.calm=true->X.A.handled=none
 frames:X.A.frames=some X.stack
 stk:X.stack=X.outer\/(X.stack=X.env::X.outer/\X.env.frame=some X.env.locals)
 exf:∀ b∈X.ex,b≠X.env.locals/\∀ x c,X.env.cells.lookup x=some c->c≠b
 bs:∀ b o,X.base.get? b=some o->X.s₀.heap.get? b=some o/\X.H₀ b=none
 bsz:X.base.objs.size<=X.s₀.heap.objs.size
 noex:∀ b o,X.base.get? b=some o->b∉X.ex
 exfs:∀ b∈X.ex,b∉X.fs
 funs:X.s₀.heap.FunFrames X.base X.outer
 frf:∀ b∈X.fs,X.H₀ b=none
structure Inv (X:Cx) (pins:List (Addr×Obj)) (σ:List (Option V)) (H:Hp) (s:Shared):Prop where
 ok:X.Ok
 os:s.os=X.s₀.os
 bare:AllBare s.gens
 base:Un X.fs X.ex X.H₀ H X.s₀.heap s.heap
 loc:∃ m,s.heap.Ns X.env.locals m/\∀ (i:Nat) (x:Str) (v:V),X.N[i]?=some x->σ[i]?=some (some v)->Vis X.env.scope x->∃ u,RelV v u/\Look X.env s.heap m x u
 cell:∀ x c,X.env.cells.lookup x=some c->∃ v,s.heap.IsCell c v
 free:H X.env.locals=none
 freeC:∀ x c,X.env.cells.lookup x=some c->H c=none
 pin:∀ p∈X.pn++pins,s.heap.get? p.1=some p.2/\H p.1=none/\p.1≠X.env.locals/\p.1∉X.fs/\∀ v,p.2.data≠.cell v
 hok:HOk X.prog X.w H s.heap
 len:σ.length=X.N.length
section
variable {X:Cx} {pins:List (Addr×Obj)} {σ:List (Option V)} {H H':Hp} {s:Shared} {h':Heap}
theorem Cx.Ok.nofr(ok:X.Ok){b:Addr}{o:Obj}(e:X.base.get? b=some o):b∉X.fs:=fun hb=>by
 have:=(ok.funs.mem hb).1;rw[e] at this;cases this
theorem Inv.bs(I:Inv X pins σ H s):∀ b o,X.base.get? b=some o->s.heap.get? b=some o/\H b=none:=fun b o e =>
 ⟨I.base.keep b o (I.ok.bs b o e).1 (I.ok.bs b o e).2 (I.ok.nofr e) (I.ok.noex b o e),I.base.free b o (I.ok.bs b o e).1 (I.ok.bs b o e).2 (I.ok.noex b o e)⟩
theorem Inv.bk(I:Inv X pins σ H s):∀ b o,X.base.get? b=some o->s.heap.get? b=some o:=fun b o e=>(I.bs b o e).1
theorem Inv.mod(I:Inv X pins σ H s):Mod X.K X.mg X.base:=I.ok.mod
theorem Inv.kIn(I:Inv X pins σ H s):X.K.In s.heap:=I.ok.mod.kin.keeps I.bk
theorem Inv.lt(I:Inv X pins σ H s):X.env.locals<s.heap.objs.size:=let ⟨_,hn,_⟩:=I.loc;hn.lt
theorem Inv.sz(I:Inv X pins σ H s):X.s₀.heap.objs.size<=s.heap.objs.size:=Nat.le_trans I.ok.above (Nat.le_of_lt I.lt)
theorem Inv.nofs(I:Inv X pins σ H s){a:Addr}(h:s.heap.objs.size<=a):a∉X.fs:=fun hb=>by
 obtain⟨_,o,ho,_⟩:=I.ok.funs.mem hb;exact absurd (Nat.lt_of_lt_of_le (Heap.lt_size ho) (Nat.le_trans I.sz h)) (Nat.lt_irrefl _)
theorem Inv.cne(I:Inv X pins σ H s):∀ x c,X.env.cells.lookup x=some c->c≠X.env.locals:=fun x c e z=>by
 obtain⟨v,o,ho,hd⟩:=I.cell x c e;obtain⟨m,⟨o',es,ep,ho',hd',_⟩,_⟩:=I.loc;rw[z,ho'] at ho;cases ho;rw[hd'] at hd;cases hd
theorem Inv.funs(I:Inv X pins σ H s):s.heap.FunFrames X.base X.outer:=by
 have all:∀ (l:List Env),(∀ b∈frs l,b∈X.fs)->X.s₀.heap.FunFrames X.base l->s.heap.FunFrames X.base l:=by
  intro l
  induction l with
  | nil=>intro _ _;trivial
  | cons env r ih =>
   intro hs hl;obtain⟨hk,⟨L,o,hf,hn,ho,hd⟩,hr⟩:=hl;have hL:L∈X.fs:=hs L (by unfold frs;rw[List.filterMap_cons,hf];exact List.mem_cons_self);obtain⟨sl,e⟩:=I.base.slot L o ho (I.ok.frf L hL) hL fun z=>I.ok.exfs L z hL;exact⟨hk,⟨L,_,hf,hn,e,hd⟩,ih (fun b hb=>hs b (by unfold frs;rw[List.filterMap_cons,hf];exact List.mem_cons_of_mem _ hb)) hr⟩
 exact all X.outer (fun _ hb=>hb) I.ok.funs
theorem Inv.stack(I:Inv X pins σ H s):s.heap.FunFrames X.base X.stack:=by
 rcases I.ok.stk with e | ⟨e,hf⟩
 ·rw[e];exact I.funs
 ·rw[e]
  obtain⟨m,hn,_⟩:=I.loc;refine .cons (by rw[I.ok.kind];decide) hf hn ?_ I.funs;exact Heap.get?_none_of_le (Nat.le_trans I.ok.bsz I.ok.above)
theorem Inv.stkSub(I:Inv X pins σ H s):∀ b∈frs X.stack,b∈X.env.locals::X.fs:=fun b hb=>by
 rcases I.ok.stk with e | ⟨e,hf⟩
 ·rw[e] at hb;exact List.mem_cons_of_mem _ hb
 ·rw[e] at hb
  unfold frs at hb;rw[List.filterMap_cons,hf] at hb;exact hb
theorem Inv.stkFree(I:Inv X pins σ H s):∀ b∈frs X.stack,H b=none:=fun b hb=>by
 rcases List.mem_cons.mp (I.stkSub b hb) with e | hb
 ·rw[e];exact I.free
 ·obtain⟨_,o,ho,_⟩:=I.ok.funs.mem hb
  exact I.base.free b o ho (I.ok.frf b hb) fun z=>I.ok.exfs b z hb
theorem Inv.step{g':Array GenState}{t':Nat}{d':Drawn}{ch:List Addr}(I:Inv X pins σ H s)
  (hch:∀ b∈ch,(b∈X.ex\/X.s₀.heap.objs.size<=b)/\b≠X.env.locals/\(∀ x c,X.env.cells.lookup x=some c->c≠b)/\∀ p∈X.pn++pins,p.1≠b)
  (keep:∀ b o,b≠X.env.locals->b∉X.fs->b∉ch->s.heap.get? b=some o->H b=none->h'.get? b=some o)
  (slot:∀ b o,b≠X.env.locals->b∈X.fs->b∉ch->s.heap.get? b=some o->H b=none->∃ sl,h'.get? b=some { o with slots:=sl }) (free:∀ b o,b∉ch->s.heap.get? b=some o->H b=none->H' b=none)
  (there:∀ b o,b∉ch->s.heap.get? b=some o->∃ o',h'.get? b=some o')
  (tups:∀ b xs,H b=some (.tup xs)->H' b=some (.tup xs)) (frzs:∀ b o u,H b=some (.frz o u)->H' b=some (.frz o u)) (tbls:∀ b ps,H b=some (.tbl ps)->∃ more,H' b=some (.tbl (ps++more)))
  (ns:∀ m,s.heap.Ns X.env.locals m->h'.Ns X.env.locals m) (hok:HOk X.prog X.w H' h') (hg:AllBare g') :
  Inv X pins σ H' { s with heap:=h',gens:=g',drawn:=d',toks:=t' }:=by
 have neL:∀ b o,X.s₀.heap.get? b=some o->b≠X.env.locals:=fun b o e=>Nat.ne_of_lt (Nat.lt_of_lt_of_le (Heap.lt_size e) I.ok.above)
 have neC:∀ b o,X.s₀.heap.get? b=some o->b∉X.ex->b∉ch:=fun b o e hx hb=>by
  rcases(hch b hb).1 with z | z
  ·exact hx z
  ·exact absurd (Nat.lt_of_lt_of_le (Heap.lt_size e) z) (Nat.lt_irrefl _)
 have cellK:∀ x c,X.env.cells.lookup x=some c->∀ v,s.heap.IsCell c v->h'.IsCell c v:=fun x c e v ⟨o,ho,hd⟩=>by
  have nch:c∉ch:=fun z=>(hch c z).2.2.1 x c e rfl
  by_cases hc:c∈X.fs
  ·obtain⟨sl,q⟩:=slot c o (I.cne x c e) hc nch ho (I.freeC x c e)
   exact⟨_,q,hd⟩
  ·exact⟨o,keep c o (I.cne x c e) hc nch ho (I.freeC x c e),hd⟩
 refine⟨I.ok,I.os,hg,⟨fun b o e n hb hx=>?_,fun b o e n hb hx=>?_,fun b o e n hx=>?_,fun b o e hx=>?_,fun b xs e=>tups b xs (I.base.tups b xs e),fun b o xs e=>frzs b o xs (I.base.frzs b o xs e),fun b ps e=>?_⟩,?_,fun x c e=>?_,?_,fun x c e=>?_,fun p hp=>?_,hok,I.len⟩
 ·exact keep b o (neL b o e) hb (neC b o e hx) (I.base.keep b o e n hb hx) (I.base.free b o e n hx)
 ·obtain⟨sl,e1⟩:=I.base.slot b o e n hb hx
  obtain⟨sl',e2⟩:=slot b _ (neL b o e) hb (neC b o e hx) e1 (I.base.free b o e n hx);exact⟨sl',e2⟩
 ·obtain⟨o',e1⟩:=I.base.there b o e hx
  exact free b o' (neC b o e hx) e1 (I.base.free b o e n hx)
 ·obtain⟨o',e1⟩:=I.base.there b o e hx
  exact there b o' (neC b o e hx) e1
 ·obtain⟨m1,e1⟩:=I.base.tbls b ps e
  obtain⟨m2,e2⟩:=tbls b _ e1;exact⟨m1++m2,by rw[e2,Array.append_assoc]⟩
 ·obtain⟨m,hn,hl⟩:=I.loc
  refine⟨m,ns m hn,fun i x v e1 e2 e3=>?_⟩;obtain⟨u,r,l⟩:=hl i x v e1 e2 e3;refine⟨u,r,?_⟩;rcases l with l | ⟨k,c,e,z⟩
  ·exact .inl l
  ·exact .inr ⟨k,c,e,cellK x c e _ z⟩
 ·obtain⟨v,z⟩:=I.cell x c e
  exact⟨v,cellK x c e v z⟩
 ·obtain⟨m,⟨o,_,_,ho,_⟩,_⟩:=I.loc
  exact free _ o (fun z=>(hch _ z).2.1 rfl) ho I.free
 ·obtain⟨v,o,ho,hd⟩:=I.cell x c e
  exact free c o (fun z=>(hch c z).2.2.1 x c e rfl) ho (I.freeC x c e)
 ·obtain⟨e,n,ne,nf,d⟩:=I.pin p hp
  have nch:p.1∉ch:=fun z=>(hch p.1 z).2.2.2 p hp rfl;exact⟨keep p.1 p.2 ne nf nch e n,free p.1 p.2 nch e n,ne,nf,d⟩
theorem Inv.un{t':Nat}(I:Inv X pins σ H s)(u:Un X.fs [] H H' s.heap h')(hok:HOk X.prog X.w H' h'):Inv X pins σ H' { s with heap:=h',toks:=t' }:=by
 obtain⟨m,⟨o,es,ep,ho,r⟩,_⟩:=id I.loc;obtain⟨sl,hL⟩:=u.any ho I.free (by simp)
 exact I.step (g':=s.gens) (d':=s.drawn) (ch:=[]) (fun _ z=>nomatch z) (fun b o _ hb _ e n=>u.keep b o e n hb (by simp)) (fun b o _ hb _ e n=>u.slot b o e n hb (by simp)) (fun b o _ e n=>u.free b o e n (by simp)) (fun b o _ e=>u.there b o e (by simp)) u.tups u.frzs u.tbls (fun m' hm=>by
  obtain⟨o',es',ep',ho',r'⟩:=hm;rw[ho] at ho';cases ho'
  exact⟨_,es',ep',hL,r'⟩) hok I.bare
theorem Inv.call{g':Array GenState}{t':Nat}{d':Drawn}{ch:List Addr}(I:Inv X pins σ H s)(u:Un (frs X.stack) ch H H' s.heap h')(hok:HOk X.prog X.w H' h')(hg:AllBare g')
  (hch:∀ b∈ch,(b∈X.ex\/X.s₀.heap.objs.size<=b)/\b≠X.env.locals/\(∀ x c,X.env.cells.lookup x=some c->c≠b)/\∀ p∈X.pn++pins,p.1≠b) :
  Inv X pins σ H' { s with heap:=h',gens:=g',drawn:=d',toks:=t' }:=by
 obtain⟨m,⟨o,es,ep,ho,r⟩,_⟩:=id I.loc;obtain⟨sl,hL⟩:=u.any ho I.free fun z=>(hch _ z).2.1 rfl
 exact I.step (ch:=ch) hch (fun b o hL hb hc e n=>u.keep b o e n (fun z=>(List.mem_cons.mp (I.stkSub b z)).elim hL hb) hc) (fun b o _ _ hc e n=>u.any e n hc) (fun b o hc e n=>u.free b o e n hc) (fun b o hc e=>u.there b o e hc) u.tups u.frzs u.tbls (fun m' hm=>by
  obtain⟨o',es',ep',ho',r'⟩:=hm;rw[ho] at ho';cases ho'
  exact⟨_,es',ep',hL,r'⟩) hok hg
theorem Inv.turned{t':Nat}{it:Addr}(I:Inv X pins σ H s)(k:∀ b o,b≠it->s.heap.get? b=some o->h'.get? b=some o)(hn:H it=none)(hL:it≠X.env.locals)
  (h1:it∈X.ex\/X.s₀.heap.objs.size<=it) (h2:∀ x c,X.env.cells.lookup x=some c->c≠it) (h3:∀ p∈X.pn++pins,p.1≠it):Inv X pins σ H { s with heap:=h',toks:=t' }:=by
 have nit:∀ b u,H b=some u->b≠it:=fun b u e z=>by rw[z,hn] at e;cases e
 refine I.step (g':=s.gens) (d':=s.drawn) (ch:=[it]) (fun b hb=>?_) (fun b o _ _ hc e _=>k b o (fun z=>hc (by simp[z])) e) (fun b o _ _ hc e _=>⟨o.slots,k b o (fun z=>hc (by simp[z])) e⟩) (fun _ _ _ _ n=>n)
  (fun b o hc e=>⟨o,k b o (fun z=>hc (by simp[z])) e⟩) (fun _ _ e=>e) (fun _ _ _ e=>e) (fun b ps e=>⟨#[],by rw[e];simp⟩) (fun m hm=>?_) (fun b u e=>?_) I.bare
 ·have e:b=it:=by simpa using hb
  subst e;exact⟨h1,hL,h2,h3⟩
 ·obtain⟨o,es,ep,ho,r⟩:=hm
  exact⟨o,es,ep,k _ o (Ne.symm hL) ho,r⟩
 ·refine(I.hok b u e).stay (fun c v hc q=>k c v ?_ q) (fun _ q=>q) fun _ _ q=>q
  rcases hc with z | z
  ·rw[z];exact nit b u e
  ·exact nit c _ z
theorem Inv.tok(I:Inv X pins σ H s)(t:Nat):Inv X pins σ H { s with toks:=t }:=I.un (h':=s.heap) (t':=t) Un.refl I.hok
theorem Inv.kept{t':Nat}(I:Inv X pins σ H s)(k:∀ b u,s.heap.get? b=some u->h'.get? b=some u):Inv X pins σ H { s with heap:=h',toks:=t' }:=I.un (Un.kept k) (I.hok.kept k)
theorem Inv.laid{a:Addr}{o:HO}{t':Nat}(I:Inv X pins σ H s)(k:∀ b u,s.heap.get? b=some u->h'.get? b=some u)(hp:s.heap.objs.size<=a)(new:cV X.prog X.w (upd H a o) h' a o) :
  Inv X pins σ (upd H a o) { s with heap:=h',toks:=t' }:=I.un (Un.laid k hp (I.hok.fresh hp)) (I.hok.laid k hp new)
theorem Inv.write{x e:Addr}{o:HO}{t':Nat}(I:Inv X pins σ H s)(mu:Mut (H x))(he:e=x\/H e=some (.own x))(k:∀ b u,b≠e->s.heap.get? b=some u->h'.get? b=some u)(heo:∃ u,h'.get? e=some u)
  (new:cV X.prog X.w (upd H x o) h' x o):Inv X pins σ (upd H x o) { s with heap:=h',toks:=t' }:=I.un (Un.write mu he k heo) (I.hok.write mu he k heo new)
theorem Inv.pins_of{pins':List (Addr×Obj)}(I:Inv X pins σ H s)(h:∀ p∈pins',s.heap.get? p.1=some p.2/\H p.1=none/\p.1≠X.env.locals/\p.1∉X.fs/\∀ v,p.2.data≠.cell v):Inv X pins' σ H s :=
 ⟨I.ok,I.os,I.bare,I.base,I.loc,I.cell,I.free,I.freeC,fun p hp=>(List.mem_append.mp hp).elim (fun z=>I.pin p (List.mem_append_left _ z)) (h p),I.hok,I.len⟩
theorem lJ{N:List Str}(hN:N.Nodup){i j:Nat}{x:Str}(a:N[i]?=some x)(b:N[j]?=some x):i=j:=by
 obtain⟨h1,e1⟩:=List.getElem?_eq_some_iff.mp a;obtain⟨h2,e2⟩:=List.getElem?_eq_some_iff.mp b;exact(List.getElem_inj hN).mp (e1.trans e2.symm)
theorem mX{M:Model}{A:Around}{E:Value->Shared->Prop}{i:Nat}{x:Str}{v:V}{u:Value}{Q:Unit->Shared->Prop}(I:Inv X pins σ H s)(hN:X.N.Nodup)(hi:X.N[i]?=some x)(hx:Loc X.env.scope x)(r:RelV v u)
  (h:∀ s',Inv X pins (σ.set i (some v)) H s'->(∃ a,Heap.SameBut a s.heap s'.heap/\(a=X.env.locals\/X.env.cells.lookup x=some a))->Q () s') (hf:X.fn x=true\/X.env.scope.names.lookup x=some .local:=by first | exact .inl rfl | exact .inr rfl | assumption):wpAny M A (storeName X.env x u) Q E s:=by
 obtain⟨m,hn,hl⟩:=id I.loc
 have hcls:(X.env.scope.kind==.class||(X.env.scope.kind==.module&&X.env.locals !=X.env.globals))=false:=by rw[I.ok.kind];rfl
 have hiσ:i<σ.length:=by rw[I.len];exact(List.getElem?_eq_some_iff.mp hi).1
 have cne:=I.cne
 have tracked:∀ {a:Addr} {h':Heap},(∃ o,s.heap.get? a=some o/\H a=none)->Heap.SameBut a s.heap h'->HOk X.prog X.w H h':=fun {a h'} ha hs b ob e=>by
  obtain⟨_,_,hfree⟩:=ha;refine(I.hok b ob e).stay (fun c w' hc q=>(hs.2 c ?_).trans q) (fun _ q=>q) fun _ _ q=>q;rintro rfl;rcases hc with rfl | hc
  ·rw[hfree] at e;cases e
  ·rw[hfree] at hc;cases hc
 rcases hx with hk | hk
 ·refine wpAny_storeName_local hk hn (fun h' hn' hs=>?_) hcls
  obtain⟨oL,_,_,hoL,_⟩:=id hn;refine h _ ⟨I.ok,I.os,I.bare,⟨fun b o e n hb hx=>?_,fun b o e n hb hx=>?_,I.base.free,fun b o e hx=>?_,I.base.tups,I.base.frzs,I.base.tbls⟩,⟨_,hn',fun j y v' e1 e2 e3=>?_⟩,fun y c e=>?_,I.free,I.freeC,fun p hp=>?_,tracked ⟨oL,hoL,I.free⟩ hs,by simpa using I.len⟩ ⟨_,hs,.inl rfl⟩
  ·exact(hs.2 b (Nat.ne_of_lt (Nat.lt_of_lt_of_le (Heap.lt_size e) I.ok.above))).trans (I.base.keep b o e n hb hx)
  ·obtain⟨sl,e1⟩:=I.base.slot b o e n hb hx
   exact⟨sl,(hs.2 b (Nat.ne_of_lt (Nat.lt_of_lt_of_le (Heap.lt_size e) I.ok.above))).trans e1⟩
  ·obtain⟨o',e1⟩:=I.base.there b o e hx
   exact⟨o',(hs.2 b (Nat.ne_of_lt (Nat.lt_of_lt_of_le (Heap.lt_size e) I.ok.above))).trans e1⟩
  ·by_cases hj:j=i
   ·subst hj
    rw[hi] at e1;cases e1
    rw[List.getElem?_set_self hiσ] at e2;cases e2;exact⟨u,r,.inl ⟨hk,by simp⟩⟩
   ·rw[List.getElem?_set_ne (Ne.symm hj)] at e2
    obtain⟨u',r',q⟩:=hl j y v' e1 e2 e3;refine⟨u',r',?_⟩;rcases q with⟨k,e⟩ | ⟨k,c,e,z⟩
    ·refine .inl ⟨k,?_⟩
     have:y≠x:=fun e=>hj (lJ hN e1 (e▸hi));simp[this,e]
    ·exact .inr ⟨k,c,e,z.sameBut hs (cne y c e)⟩
  ·obtain⟨w',z⟩:=I.cell y c e
   exact⟨w',z.sameBut hs (cne y c e)⟩
  ·obtain⟨e,n,ne,nf,d⟩:=I.pin p hp
   exact⟨(hs.2 p.1 ne).trans e,n,ne,nf,d⟩
 ·have hfn:X.fn x=true:=by
   rcases hf with z | z
   ·exact z
   ·rw[z] at hk;cases hk
  obtain⟨c,hc⟩:=I.ok.has x (.inl hk);obtain⟨w',z⟩:=I.cell x c hc;refine wpAny_storeName_cell I.ok.kind hk hc z (fun h' hc' hs=>?_);obtain⟨oc,hoc,hocd⟩:=id z;refine h { s with heap:=h' } ⟨I.ok,I.os,I.bare,⟨fun b o e n hb hx=>?_,fun b o e n hb hx=>?_,I.base.free,fun b o e hx=>?_,I.base.tups,I.base.frzs,I.base.tbls⟩,⟨m,hn.sameBut hs (Ne.symm (cne x c hc)),fun j y v' e1 e2 e3=>?_⟩,fun y c' e=>?_,I.free,I.freeC,fun p hp=>?_,tracked ⟨oc,hoc,I.freeC x c hc⟩ hs,by simpa using I.len⟩ ⟨c,hs,.inr hc⟩
  ·exact(hs.2 b (Nat.ne_of_lt (Nat.lt_of_lt_of_le (Heap.lt_size e) (I.ok.cab x c hfn hc)))).trans (I.base.keep b o e n hb hx)
  ·obtain⟨sl,e1⟩:=I.base.slot b o e n hb hx
   exact⟨sl,(hs.2 b (Nat.ne_of_lt (Nat.lt_of_lt_of_le (Heap.lt_size e) (I.ok.cab x c hfn hc)))).trans e1⟩
  ·obtain⟨o',e1⟩:=I.base.there b o e hx
   exact⟨o',(hs.2 b (Nat.ne_of_lt (Nat.lt_of_lt_of_le (Heap.lt_size e) (I.ok.cab x c hfn hc)))).trans e1⟩
  ·by_cases hj:j=i
   ·subst hj
    rw[hi] at e1;cases e1
    rw[List.getElem?_set_self hiσ] at e2;cases e2;exact⟨u,r,.inr ⟨.inl hk,c,hc,hc'⟩⟩
   ·rw[List.getElem?_set_ne (Ne.symm hj)] at e2
    obtain⟨u',r',q⟩:=hl j y v' e1 e2 e3;refine⟨u',r',?_⟩;rcases q with q | ⟨k,c',e,z'⟩
    ·exact .inl q
    ·refine .inr ⟨k,c',e,z'.sameBut hs ?_⟩
     rintro rfl;exact hj (lJ hN e1 (I.ok.inj _ _ _ e hc▸hi))
  ·by_cases hcc:c'=c
   ·subst hcc;exact⟨_,hc'⟩
   ·obtain⟨w2,z2⟩:=I.cell y c' e
    exact⟨w2,z2.sameBut hs hcc⟩
  ·obtain⟨e,n,ne,nf,d⟩:=I.pin p hp
   refine⟨(hs.2 p.1 ?_).trans e,n,ne,nf,d⟩;intro q;rw[q,hoc] at e;have q':oc=p.2:=Option.some.inj e;exact d w' (by rw[<- q'];exact hocd)
theorem fW{M:Model}{A:Around}{E:Value->Shared->Prop}{i:Nat}{x:Str}{v:V}{u:Value}{Q:Unit->Shared->Prop}(I:Inv X pins σ H s)(hN:X.N.Nodup)(hi:X.N[i]?=some x)(hx:Loc X.env.scope x)(r:RelV v u)
  (h:∀ s',Inv X pins (σ.set i (some v)) H s'->Q () s') (hf:X.fn x=true\/X.env.scope.names.lookup x=some .local:=by first | exact .inl rfl | exact .inr rfl | assumption):wpAny M A (storeName X.env x u) Q E s :=
 mX I hN hi hx r (fun s' I' _=>h s' I') hf
theorem Inv.call'{s':Shared}{ch:List Addr}(I:Inv X pins σ H s)(ho:s'.os=s.os)(u:Un (frs X.stack) ch H H' s.heap s'.heap)(hok:HOk X.prog X.w H' s'.heap)(hg:AllBare s'.gens)
  (hch:∀ b∈ch,(b∈X.ex\/X.s₀.heap.objs.size<=b)/\b≠X.env.locals/\(∀ x c,X.env.cells.lookup x=some c->c≠b)/\∀ p∈X.pn++pins,p.1≠b):Inv X pins σ H' s':=by
 obtain⟨h',g',d',t',o'⟩:=s';have e:o'=s.os:=ho;subst e;exact I.call (g':=g') (t':=t') (d':=d') u hok hg hch
end
abbrev XK:=Value->Option Addr->Hp->Prop
abbrev St:=List (Option V)
abbrev VK:=V->Hp->Prop
abbrev TE:=St->Hp->VK->Prop
abbrev TT:=St->Hp->(Bool->Hp->Prop)->Prop
abbrev TA:=St->Hp->(List V->Hp->Prop)->Prop
structure Ends where
 nx:St->Hp->Prop
 rt:VK
 bk:St->Hp->Prop:=fun _ _=>False
 ct:St->Hp->Prop:=fun _ _=>False
abbrev TS:=Ends->St->Hp->Prop
def EP(X:Cx)(pins:List (Addr×Obj))(σ:St)(Q:VK)(u:Value)(s':Shared):Prop:=∃ v H',Inv X pins σ H' s'/\RelV v u/\Q v H'
def TP(X:Cx)(pins:List (Addr×Obj))(σ:St)(Q:Bool->Hp->Prop)(b:Bool)(s':Shared):Prop:=∃ H',Inv X pins σ H' s'/\Q b H'
def AP(X:Cx)(pins:List (Addr×Obj))(σ:St)(Q:List V->Hp->Prop)(us:List Value)(s':Shared):Prop:=∃ vs H',Inv X pins σ H' s'/\Vals vs us/\Q vs H'
def SP(X:Cx)(pins:List (Addr×Obj))(D:Ends)(f:Flow)(s':Shared):Prop :=
 match f with
 | .next=>∃ σ' H',Inv X pins σ' H' s'/\D.nx σ' H'
 | .brk=>∃ σ' H',Inv X pins σ' H' s'/\D.bk σ' H'
 | .cont=>∃ σ' H',Inv X pins σ' H' s'/\D.ct σ' H'
 | .ret u=>∃ v σ' H',Inv X pins σ' H' s'/\RelV v u/\D.rt v H'
def PE(X:Cx)(e:Expr)(t:TE):Prop :=
 ∀ (pins:List (Addr×Obj)) (s:Shared) (σ:St) (H:Hp) (Q:VK),Inv X pins σ H s->t σ H Q->wpAny (model X.prog X.w) X.A (eval e X.env) (EP X pins σ Q) X.xe s
def PT(X:Cx)(e:Expr)(t:TT):Prop :=
 ∀ (pins:List (Addr×Obj)) (s:Shared) (σ:St) (H:Hp) (Q:Bool->Hp->Prop),Inv X pins σ H s->t σ H Q->wpAny (model X.prog X.w) X.A (isTrue e X.env (eval e X.env)) (TP X pins σ Q) X.xe s
def PW(X:Cx)(e:Expr)(t:TT):Prop :=
 ∀ (whole:Sem Value) (pins:List (Addr×Obj)) (s:Shared) (σ:St) (H:Hp) (Q:Bool->Hp->Prop),Inv X pins σ H s->t σ H Q->wpAny (model X.prog X.w) X.A (isTrue e X.env whole) (TP X pins σ Q) X.xe s
def PA(X:Cx)(es:List Expr)(t:TA):Prop :=
 ∀ (pos:Pos) (pins:List (Addr×Obj)) (s:Shared) (σ:St) (H:Hp) (Q:List V->Hp->Prop),Inv X pins σ H s->t σ H Q->wpAny (model X.prog X.w) X.A (spliced (backTo pos (starEach es X.env))) (AP X pins σ Q) X.xe s
def PS(X:Cx)(st:Stmt)(t:TS):Prop :=
 ∀ (pins:List (Addr×Obj)) (s:Shared) (σ:St) (H:Hp) (D:Ends),Inv X pins σ H s->t D σ H->wpAny (model X.prog X.w) X.A (exec st X.env) (SP X pins D) X.xe s
def PSs(X:Cx)(st:List Stmt)(t:TS):Prop :=
 ∀ (pins:List (Addr×Obj)) (s:Shared) (σ:St) (H:Hp) (D:Ends),Inv X pins σ H s->t D σ H->wpAny (model X.prog X.w) X.A (execs st X.env) (SP X pins D) X.xe s
theorem thn{α:Type}{t:Sem α}{Q Q':α->Shared->Prop}{M:Model}{A:Around}{E:Value->Shared->Prop}{s:Shared}(h:wpAny M A t Q E s)(hQ:∀ a s,Q a s->Q' a s):wpAny M A t Q' E s:=wpAny_mono h hQ fun _ _ x=>x
end L2
namespace L2
open PySem PySem.Spec PyProof.Rows
section
variable {X:Cx}
def HB(i:Nat):TE:=fun σ H Q=>∃ v,σ[i]?=some (some v)/\Q v H
def tC(v:V):TE:=fun _ H Q=>Q v H
theorem fY{i:Nat}{x:Str}{pos:Pos}(hN:X.N[i]?=some x)(hv:Vis X.env.scope x)(hd:(x==("__debug__":Str))=false:=by decide)(hcd:(x==("__classdict__":Str))=false:=by decide):PE X (.Name x pos) (HB i):=by
 intro pins s σ H Q I h;obtain⟨v,e,h⟩:=h;obtain⟨m,hn,hl⟩:=I.loc;obtain⟨u,r,l⟩:=hl i x v hN e hv;have fin:EP X pins σ Q u s:=⟨v,H,I,r,h⟩;rcases l with⟨hk,hm⟩ | ⟨hk,c,hc,hcell⟩
 ·exact wpAny_Name (wpAny_loadName_local I.ok.kind hk hn hm fin) hd
 ·rcases hk with hk | hk
  ·exact wpAny_Name (wpAny_loadName_cell I.ok.kind hk hc hcell fin) hd
  ·exact wpAny_Name (wpAny_loadName_free I.ok.kind hk hc hcell fin hcd) hd
theorem Jm{i j pos}:PE X (.Constant (.int i) j pos) (tC (.int i)):=fun _ _ _ H _ I h=>wpAny_Constant_int ⟨.int i,H,I.tok _,⟨_,rfl⟩,h⟩
theorem Mg{b j pos}:PE X (.Constant (.bool b) j pos) (tC (.bl b)):=fun _ _ _ H _ I h=>Constant_bool ⟨.bl b,H,I,rfl,h⟩
theorem Jl{j pos}:PE X (.Constant .none j pos) (tC .non):=fun _ _ _ H _ I h=>Constant_none ⟨.non,H,I,rfl,h⟩
theorem Bq{x j pos}:PE X (.Constant (.str x) j pos) (tC (.str x)):=fun _ _ _ H _ I h=>Calls.Constant_str ⟨.str x,H,I.tok _,⟨_,rfl⟩,h⟩
def Gl(X:Cx)(x:Str):Prop:=X.env.kindOf x=some .globalImplicit
theorem jq{E:Value->Shared->Prop}{pins:List (Addr×Obj)}{s:Shared}{σ:St}{H:Hp}{x:Str}{u:Value}{pos:Pos}{Q:Value->Shared->Prop}(I:Inv X pins σ H s)(hg:Gl X x)(hm:X.mg x=some u)(h:Q u s)
  (hd:(x==("__debug__":Str))=false:=by decide):wpAny (model X.prog X.w) X.A (eval (.Name x pos) X.env) Q E s :=
 Calls.Name_function_global I.ok.kind hg (Calls.loadGlobal_global (by rw[I.ok.glob];exact I.mod.glob.keeps I.bk) hm h) hd
theorem cQ{E:Value->Shared->Prop}{pins:List (Addr×Obj)}{s:Shared}{σ:St}{H:Hp}{x:Str}{u:Value}{pos:Pos}{Q:Value->Shared->Prop}(I:Inv X pins σ H s)(hg:Gl X x)(hm:X.mg x=none)(hv:bootBuiltins x=some u)(h:Q u s)
  (hn:x≠"__name__":=by decide) (hd:(x==("__debug__":Str))=false:=by decide):wpAny (model X.prog X.w) X.A (eval (.Name x pos) X.env) Q E s:=by
 obtain⟨mb,h1,h2⟩:=I.mod.blt;exact Calls.Name_function_global I.ok.kind hg (Calls.loadGlobal_builtin (by rw[I.ok.glob];exact I.mod.glob.keeps I.bk) hm (by rw[I.ok.blt];exact h1.keeps I.bk) ((h2 x hn).trans hv) h) hd
theorem pD{x:Str}{v:V}{u:Value}{pos:Pos}(hg:Gl X x)(hm:X.mg x=some u)(r:RelV v u)(hd:(x==("__debug__":Str))=false:=by decide):PE X (.Name x pos) (tC v) :=
 fun _ _ _ H _ I h=>jq I hg hm ⟨v,H,I,r,h⟩ hd
theorem vg{x:Str}{v:V}{u:Value}{pos:Pos}(hg:Gl X x)(hm:X.mg x=none)(hv:bootBuiltins x=some u)(r:RelV v u)(hn:x≠"__name__":=by decide)(hd:(x==("__debug__":Str))=false:=by decide):PE X (.Name x pos) (tC v) :=
 fun _ _ _ H _ I h=>cQ I hg hm hv ⟨v,H,I,r,h⟩ hn hd
variable {a b:Expr} {ta tb:TE} {pos:Pos}
def tB(t:TE):TT:=fun σ H Q=>t σ H fun x H1=>∃ c,x=.bl c/\Q c H1
theorem Bl{e:Expr}{t:TE}(h:PE X e t)(he:∀ whole,isTrue e X.env whole=(do let v <- whole;standAt e.pos;holding [v] (truthy v)):=by intro _;rfl):PT X e (tB t):=by
 intro pins s σ H Q I hw;refine isTrue_plain (thn (h pins s σ H _ I hw) fun v s1 ⟨x,H1,I1,r1,q1⟩=>?_) (he _);obtain⟨d,rfl,q⟩:=q1;cases r1;exact wpAny_truthy_bool ⟨H1,I1,q⟩
variable {tA tB':TT} {rest:List Expr}
def R9(t u:TT):TT:=fun σ H Q=>t σ H fun c H1=>if c=true then u σ H1 Q else Q false H1
def tOr(t u:TT):TT:=fun σ H Q=>t σ H fun c H1=>if c=true then Q true H1 else u σ H1 Q
def R5(t:TT):TT:=fun σ H Q=>t σ H fun c H1=>Q (!c) H1
theorem Dy(ha:PT X a tA):PW X (.BoolOp .And [a] pos) tA:=by
 intro wh pins s σ H Q I h;refine isTrue_and (thn (ha pins s σ H Q I h) fun c s1 e=>?_)
 cases c with
 | true=>exact isTrue_and_nil e
 | false=>exact e
theorem IW(ha:PT X a tA):PW X (.BoolOp .Or [a] pos) tA:=by
 intro wh pins s σ H Q I h;refine isTrue_or (thn (ha pins s σ H Q I h) fun c s1 e=>?_)
 cases c with
 | false=>exact isTrue_or_nil e
 | true=>exact e
theorem Bk(ha:PT X a tA)(hb:PW X (.BoolOp .And (b::rest) pos) tB'):PW X (.BoolOp .And (a::b::rest) pos) (R9 tA tB'):=by
 intro wh pins s σ H Q I h;refine isTrue_and (thn (ha pins s σ H _ I h) fun c s1 ⟨H1,I1,q1⟩=>?_)
 cases c with
 | true=>exact hb wh pins s1 σ H1 Q I1 q1
 | false=>exact⟨H1,I1,q1⟩
theorem Ja(ha:PT X a tA)(hb:PW X (.BoolOp .Or (b::rest) pos) tB'):PW X (.BoolOp .Or (a::b::rest) pos) (tOr tA tB'):=by
 intro wh pins s σ H Q I h;refine isTrue_or (thn (ha pins s σ H _ I h) fun c s1 ⟨H1,I1,q1⟩=>?_)
 cases c with
 | true=>exact⟨H1,I1,q1⟩
 | false=>exact hb wh pins s1 σ H1 Q I1 q1
theorem Bm(ha:PT X a tA):PT X (.UnaryOp .Not a pos) (R5 tA):=by
 intro pins s σ H Q I h;exact isTrue_not (ha pins s σ H (fun c H1=>Q (!c) H1) I h)
def Li(ta tb:TE):TE:=fun σ H Q=>ta σ H fun x H1=>∃ c,x=.bl c/\if c=true then tb σ H1 Q else Q (.bl false) H1
def R4(ta tb:TE):TE:=fun σ H Q=>ta σ H fun x H1=>∃ c,x=.bl c/\if c=true then Q (.bl true) H1 else tb σ H1 Q
def Le(ta:TE):TE:=fun σ H Q=>ta σ H fun x H1=>∃ c,x=.bl c/\Q (.bl (!c)) H1
theorem Jj{op}{t:TE}(h:PE X a t):PE X (.BoolOp op [a] pos) t:=fun pins s σ H Q I hw=>BoolOp_one (h pins s σ H Q I hw)
theorem Bs(ha:PE X a ta)(hb:PE X (.BoolOp .And (b::rest) pos) tb):PE X (.BoolOp .And (a::b::rest) pos) (Li ta tb):=by
 intro pins s σ H Q I h;refine BoolOp_and (thn (ha pins s σ H _ I h) fun v s1 ⟨x,H1,I1,r1,q1⟩=>?_);obtain⟨c,rfl,q1⟩:=q1;cases r1;refine wpAny_truthy_bool ?_
 cases c with
 | true=>exact hb pins s1 σ H1 Q I1 q1
 | false=>exact⟨.bl false,H1,I1,rfl,q1⟩
theorem Ji(ha:PE X a ta)(hb:PE X (.BoolOp .Or (b::rest) pos) tb):PE X (.BoolOp .Or (a::b::rest) pos) (R4 ta tb):=by
 intro pins s σ H Q I h;refine BoolOp_or (thn (ha pins s σ H _ I h) fun v s1 ⟨x,H1,I1,r1,q1⟩=>?_);obtain⟨c,rfl,q1⟩:=q1;cases r1;refine wpAny_truthy_bool ?_
 cases c with
 | false=>exact hb pins s1 σ H1 Q I1 q1
 | true=>exact⟨.bl true,H1,I1,rfl,q1⟩
theorem Jk(ha:PE X a ta):PE X (.UnaryOp .Not a pos) (Le ta):=by
 intro pins s σ H Q I h;refine UnaryOp_ (thn (ha pins s σ H _ I h) fun v s1 ⟨x,H1,I1,r1,q1⟩=>?_);obtain⟨c,rfl,q1⟩:=q1;cases r1;exact not_of (wpAny_truthy_bool ⟨.bl (!c),H1,I1,rfl,q1⟩)
def tIf(t:TT)(ta tb:TE):TE:=fun σ H Q=>t σ H fun c H1=>if c=true then ta σ H1 Q else tb σ H1 Q
theorem lB{c:Expr}(hc:PT X c tA)(ha:PE X a ta)(hb:PE X b tb):PE X (.IfExp c a b pos) (tIf tA ta tb):=by
 intro pins s σ H Q I h;refine wpAny_IfExp (thn (hc pins s σ H _ I h) fun d s1 ⟨H1,I1,q1⟩=>?_)
 cases d with
 | true=>exact ha pins s1 σ H1 Q I1 q1
 | false=>exact hb pins s1 σ H1 Q I1 q1
end
end L2
namespace L2
open PySem PySem.Spec PyProof.Rows
def SqL(K:PySem.W.Frag)(H:Hp)(a:Addr)(xs:List V):Prop :=
 Rd H a (.lst xs) \/
  ∃ (o:Obj) (its:Array Value) (n:Nat),K.lookup a=some o/\o.cls=.type "list"/\o.dict=none/\o.data=.seq its n/\its.size<=sizeLine/\Vals xs its.toList
def SqT(K:PySem.W.Frag)(H:Hp)(a:Addr)(xs:List V):Prop :=
 Rd H a (.tup xs) \/
  ∃ (o:Obj) (its:Array Value) (n:Nat),K.lookup a=some o/\o.cls=.type "tuple"/\o.data=.seq its n/\its.size<=sizeLine/\Vals xs its.toList
def Ue:Value->Option V
 | .none=>some .non
 | .bool b=>some (.bl b)
 | .int i _=>some (.int i)
 | .str x _=>some (.str x)
 | .bytes b _=>some (.byt b)
 | .float b _=>some (.flt b)
 | .ref a=>some (.ref a)
 | .type n=>some (.ty n)
 | _=>none
theorem RelV.abs{x:V}{u:Value}(r:RelV x u):Ue u=some x:=by
 cases x with
 | non=>cases r;rfl
 | bl _=>cases r;rfl
 | int _=>obtain⟨t,rfl⟩:=r;rfl
 | str _=>obtain⟨t,rfl⟩:=r;rfl
 | byt _=>obtain⟨t,rfl⟩:=r;rfl
 | flt _=>obtain⟨t,rfl⟩:=r;rfl
 | ref _=>cases r;rfl
 | ty _=>cases r;rfl
theorem RelV.inj{x y:V}{u:Value}(r:RelV x u)(q:RelV y u):x=y:=Option.some.inj (r.abs.symm.trans q.abs)
theorem Vals.inj:∀ {xs ys:List V} {us:List Value},Vals xs us->Vals ys us->xs=ys
 | _,_,_,.nil,.nil=>rfl
 | _,_,_,.cons r t,.cons r' t'=>by rw[r.inj r',Vals.inj t t']
section
variable {X:Cx} {pins:List (Addr×Obj)} {σ:St} {H:Hp} {s:Shared} {a:Addr} {xs ys:List V}
theorem SqL.of{K:PySem.W.Frag}(h:H a=some (.lst xs)):SqL K H a xs:=.inl (.inl h)
theorem SqT.of{K:PySem.W.Frag}(h:H a=some (.tup xs)):SqT K H a xs:=.inl (.inl h)
theorem Inv.list(I:Inv X pins σ H s)(h:SqL X.K H a xs):∃ its:List Value,Vals xs its/\PlainL s.heap a its.toArray/\xs.length<=sizeLine:=by
 rcases h with h | ⟨o,its,n,hk,hc,hd,hs,hz,r⟩
 ·obtain⟨z,its,n,r,e⟩:=h.ok I.hok
  exact⟨its,r,⟨_,n,e,rfl,rfl,rfl⟩,z⟩
 ·refine⟨its.toList,r,⟨o,n,I.kIn a o hk,hc,hd,by simpa using hs⟩,?_⟩
  have e:=r.length;simp only[Array.length_toList] at e;omega
theorem Inv.tuple(I:Inv X pins σ H s)(h:SqT X.K H a xs):∃ its:List Value,Vals xs its/\IsTup s.heap a its.toArray/\xs.length<=sizeLine:=by
 rcases h with h | ⟨o,its,n,hk,hc,hs,hz,r⟩
 ·obtain⟨z,its,r,p⟩:=h.ok I.hok
  exact⟨its,r,p,z⟩
 ·refine⟨its.toList,r,⟨o,I.kIn a o hk,hc,n,by simpa using hs⟩,?_⟩
  have e:=r.length;simp only[Array.length_toList] at e;omega
theorem Inv.list_inj(I:Inv X pins σ H s)(h:SqL X.K H a xs)(h':SqL X.K H a ys):xs=ys:=by
 obtain⟨its,r,⟨o,n,e,_,_,d⟩,_⟩:=I.list h;obtain⟨its',r',⟨o',n',e',_,_,d'⟩,_⟩:=I.list h';rw[e] at e';cases e';rw[d] at d';injection d' with d1 _
 have:its=its':=by simpa using congrArg Array.toList d1
 subst this;exact r.inj r'
theorem Inv.tuple_inj(I:Inv X pins σ H s)(h:SqT X.K H a xs)(h':SqT X.K H a ys):xs=ys:=by
 obtain⟨its,r,⟨o,e,_,n,d⟩,_⟩:=I.tuple h;obtain⟨its',r',⟨o',e',_,n',d'⟩,_⟩:=I.tuple h';rw[e] at e';cases e';rw[d] at d';injection d' with d1 _
 have:its=its':=by simpa using congrArg Array.toList d1
 subst this;exact r.inj r'
end
abbrev Cx.wish(X:Cx)(E:Value->Shared->Prop):Cx:={ X with xe:=E }
abbrev Cx.nox(X:Cx):Cx:=X.wish fun _ _=>False
theorem Cx.Ok.wish{X:Cx}(ok:X.Ok)(E:Value->Shared->Prop):(X.wish E).Ok :=
 ⟨ok.mod,ok.kind,ok.glob,ok.blt,ok.above,ok.inj,ok.has,ok.cab,ok.hd,ok.frames,ok.stk,ok.exf,ok.bs,ok.bsz,ok.noex,ok.exfs,ok.funs,ok.frf⟩
theorem Cx.Ok.unwish{X:Cx}{E:Value->Shared->Prop}(ok:(X.wish E).Ok):X.Ok :=
 ⟨ok.mod,ok.kind,ok.glob,ok.blt,ok.above,ok.inj,ok.has,ok.cab,ok.hd,ok.frames,ok.stk,ok.exf,ok.bs,ok.bsz,ok.noex,ok.exfs,ok.funs,ok.frf⟩
section
variable {X:Cx} {pins:List (Addr×Obj)} {σ:St} {H:Hp} {s:Shared} {E:Value->Shared->Prop}
theorem Inv.wish(I:Inv X pins σ H s)(E:Value->Shared->Prop):Inv (X.wish E) pins σ H s:=⟨I.ok.wish E,I.os,I.bare,I.base,I.loc,I.cell,I.free,I.freeC,I.pin,I.hok,I.len⟩
theorem Inv.unwish(I:Inv (X.wish E) pins σ H s):Inv X pins σ H s:=⟨I.ok.unwish,I.os,I.bare,I.base,I.loc,I.cell,I.free,I.freeC,I.pin,I.hok,I.len⟩
theorem SP.unwish{D:Ends}{f:Flow}{s':Shared}(h:SP (X.wish E) pins D f s'):SP X pins D f s':=by
 cases f with
 | next=>obtain⟨σ',H',I,q⟩:=h;exact⟨σ',H',I.unwish,q⟩
 | brk=>obtain⟨σ',H',I,q⟩:=h;exact⟨σ',H',I.unwish,q⟩
 | cont=>obtain⟨σ',H',I,q⟩:=h;exact⟨σ',H',I.unwish,q⟩
 | ret u=>obtain⟨v,σ',H',I,r,q⟩:=h;exact⟨v,σ',H',I.unwish,r,q⟩
end
section
variable {X:Cx} {st:Stmt} {rest:List Stmt} {t u:TS} {e:Expr} {te:TE} {pos:Pos}
def CQ:TS:=fun D σ H=>D.nx σ H
def Qp(t u:TS):TS:=fun D σ H=>t { D with nx:=u D } σ H
theorem uX:PSs X [] CQ:=fun _ _ σ H _ I h=>wpAny_execs_nil ⟨σ,H,I,h⟩
theorem lq(h1:PS X st t)(h2:PSs X rest u):PSs X (st::rest) (Qp t u):=by
 intro pins s σ H D I h;refine wpAny_execs_cons (thn (h1 pins s σ H { D with nx:=u D } I h) fun f s1 q=>?_)
 cases f with
 | next =>
  obtain⟨σ',H',I',q⟩:=q;exact h2 pins s1 σ' H' D I' q
 | ret v=>exact q
 | brk=>exact q
 | cont=>exact q
theorem DK:PS X (.Pass pos) CQ:=fun _ _ σ H _ I h=>wpAny_Pass ⟨σ,H,I,h⟩
theorem Inv.quiet{pins:List (Addr×Obj)}{σ:St}{H:Hp}{s:Shared}(I:Inv X pins σ H s):interactive X.env=false:=by simp[interactive,I.ok.kind]
def Lg(te:TE):TS:=fun D σ H=>te σ H fun _ H1=>D.nx σ H1
theorem gC(he:PE X e te)(hs:swapsWith e none pos.line X.env=pure false:=by rfl):PS X (.Expr e pos) (Lg te):=by
 intro pins s σ H D I h;exact wpAny_Expr_any (thn (he pins s σ H _ I h) fun v s1 ⟨x,H1,I1,r1,q1⟩=>⟨σ,H1,I1,q1⟩) I.quiet hs
def R0(te:TE):TS:=fun D σ H=>te σ H D.rt
theorem Jb(he:PE X e te):PS X (.Return (some e) pos) (R0 te):=by
 intro pins s σ H D I h;exact wpAny_Return_some (thn (he pins s σ H _ I h) fun v s1 ⟨x,H1,I1,r1,q1⟩=>⟨x,σ,H1,I1,r1,q1⟩)
def Lb:TS:=fun D _ H=>D.rt .non H
theorem DG:PS X (.Return none pos) Lb:=fun _ _ σ H _ I h=>wpAny_Return_none ⟨.non,σ,H,I,rfl,h⟩
def R7(c:TT)(t u:TS):TS:=fun D σ H=>c σ H fun b H1=>if b=true then t D σ H1 else u D σ H1
theorem DN{c:Expr}{a b:List Stmt}{tc:TT}(hc:PT X c tc)(ha:PSs X a t)(hb:PSs X b u):PS X (.If c a b pos) (R7 tc t u):=by
 intro pins s σ H D I h;refine wpAny_If (thn (hc pins s σ H _ I h) fun d s1 ⟨H1,I1,q1⟩=>?_)
 cases d with
 | true=>exact ha pins s1 σ H1 D I1 q1
 | false=>exact hb pins s1 σ H1 D I1 q1
end
abbrev TG:=V->St->Hp->(St->Hp->Prop)->Prop
abbrev TGs:=List V->St->Hp->(St->Hp->Prop)->Prop
def PG(X:Cx)(target:Expr)(t:TG):Prop :=
  ∀ (pins : List (Addr × Obj)) (s : Shared) (σ : St) (H : Hp) (v : V) (u : Value) (Q : St -> Hp -> Prop), Inv X pins σ H s -> RelV v u -> t v σ H Q ->
    wpAny (model X.prog X.w) X.A (assign target X.env u) (fun _ s'=>∃ σ' H',Inv X pins σ' H' s'/\Q σ' H') X.xe s
def PGs(X:Cx)(ts:List Expr)(t:TGs):Prop :=
  ∀ (pins : List (Addr × Obj)) (s : Shared) (σ : St) (H : Hp) (vs : List V) (us : List Value) (Q : St -> Hp -> Prop), Inv X pins σ H s -> Vals vs us -> t vs σ H Q ->
    wpAny (model X.prog X.w) X.A (assignInOrder ((assignEach ts X.env).map (·.2)) us) (fun _ s'=>∃ σ' H',Inv X pins σ' H' s'/\Q σ' H') X.xe s
abbrev Qk:=V->V->V->Hp->(Hp->Prop)->Prop
def RL(X:Cx)(t:Qk):Prop :=
  ∀ (pins : List (Addr × Obj)) (s : Shared) (σ : St) (H : Hp) (o i v : V) (ov iv u : Value) (Q : Hp -> Prop), Inv X pins σ H s -> RelV o ov -> RelV i iv -> RelV v u -> t o i v H Q ->
    wpAny (model X.prog X.w) X.A (setItem ov iv u) (fun _ s'=>∃ H',Inv X pins σ H' s'/\Q H') X.xe s
section
variable {X:Cx} {pos:Pos}
def zT(i:Nat):TG:=fun v σ H Q=>Q (σ.set i (some v)) H
theorem Ea{i:Nat}{x:Str}(hN:X.N.Nodup)(hi:X.N[i]?=some x)(hx:Loc X.env.scope x)(hf:X.fn x=true\/X.env.scope.names.lookup x=some .local:=by first | exact .inl rfl | exact .inr rfl | assumption):PG X (.Name x pos) (zT i):=by
 intro pins s σ H v u Q I r h;exact wpAny_assign_Name (fW I hN hi hx r (fun s' I'=>⟨_,H,I',h⟩) hf)
def TQ:TGs:=fun vs σ H Q=>vs=[]/\Q σ H
def Qe(t:TG)(u:TGs):TGs:=fun vs σ H Q=>∃ v r,vs=v::r/\t v σ H fun σ' H'=>u r σ' H' Q
theorem DY:PGs X [] TQ:=by
 intro pins s σ H vs us Q I r h;obtain⟨e,h⟩:=h;subst e;cases r;exact assignInOrder_nil ⟨σ,H,I,h⟩
theorem yS{e:Expr}{es:List Expr}{t:TG}{u:TGs}(h1:PG X e t)(h2:PGs X es u)
  (hs:(assignEach (e::es) X.env).map (·.2)=assign e X.env::(assignEach es X.env).map (·.2):=by rfl):PGs X (e::es) (Qe t u):=by
 intro pins s σ H vs us Q I r h;obtain⟨v,vr,e1,h⟩:=h;subst e1
 cases r with
 | cons r rr =>
  rw[hs];refine assignInOrder_cons (thn (h1 pins s σ H _ _ _ I r h) fun _ s1 ⟨σ1,H1,I1,q1⟩=>?_);exact h2 pins s1 σ1 H1 _ _ Q I1 rr q1
def gTup(K:PySem.W.Frag)(n:Nat)(t:TGs):TG:=fun v σ H Q=>∃ a xs,v=.ref a/\SqT K H a xs/\xs.length=n/\t xs σ H Q
theorem Bp{es:List Expr}{k:Nat}{t:TGs}{n:Nat}(hc:X.calm=true)(h:PGs X es t)
  (hn:(assignEach es X.env).length=n:=by rfl) (hst:(assignEach es X.env).findIdx? (·.1)=none:=by rfl):PG X (.Tuple es k pos) (gTup X.K n t):=by
 intro pins s σ H v u Q I r hw;obtain⟨a,xs,e1,hq,hl,hw⟩:=hw;subst e1;cases r;obtain⟨its,rv,ht,hz⟩:=I.tuple hq;refine assign_Tuple_tuple (I.ok.hd hc) ht (by simp[hn,<- hl,rv.length]) hst fun h' hx=>?_;have I1:Inv X pins σ H { s with heap:=h' }:=I.kept (t':=s.toks) fun b o e=>hx b o (Nat.ne_of_lt (Heap.lt_size e)) e;exact h pins _ σ H xs _ Q I1 (by simpa using rv) hw
def TJ(to ti:TE)(t:Qk):TG:=fun v σ H Q=>to σ H fun o H1=>ti σ H1 fun i H2=>t o i v H2 fun H3=>Q σ H3
theorem vf{o i:Expr}{to ti:TE}{t:Qk}(ho:PE X o to)(hi:PE X i ti)(hs:RL X t)
  (ha:∀ v,assign (.Subscript o i pos) X.env v=(do
   let ov <- holding [v] (eval o X.env)
   let iv <- holding [v,ov] (eval i X.env)
   standAt pos
   holding [v,ov,iv] (setItem ov iv v)
   release [v,ov,iv] []):=by intro _;rfl):PG X (.Subscript o i pos) (TJ to ti t):=by
 intro pins s σ H v u Q I r h;rw[ha];refine wpAny_bind (wpAny_holding (thn (ho pins s σ H _ I h) fun ov s1 ⟨x,H1,I1,r1,q1⟩=>?_));refine wpAny_bind (wpAny_holding (thn (hi pins s1 σ H1 _ I1 q1) fun iv s2 ⟨y,H2,I2,r2,q2⟩=>?_));refine wpAny_bind (wpAny_standAt (wpAny_bind (wpAny_holding (thn (hs pins s2 σ H2 x y v ov iv u _ I2 r1 r2 r q2) fun _ s3 ⟨H3,I3,q3⟩=>?_))));exact wpAny_release ⟨σ,H3,I3,q3⟩
def Kv(te:TE)(g:TG):TS:=fun D σ H=>te σ H fun x H1=>g x σ H1 D.nx
theorem qF{tg e:Expr}{te:TE}{g:TG}(he:PE X e te)(hg:PG X tg g)(hs:swapsWithSole [tg] e pos.line X.env=pure false:=by rfl)(hw:swappedStores [tg] e X.env=pure none:=by rfl)
  (h1:(assignEach [tg] X.env).map (·.2)=[assign tg X.env]:=by rfl):PS X (.Assign [tg] e pos) (Kv te g):=by
 intro pins s σ H D I h;refine wpAny_Assign_stores (thn (he pins s σ H _ I h) fun v s1 ⟨x,H1,I1,r1,q1⟩=>?_) hs hw;rw[h1];exact thn (hg pins s1 σ H1 x v _ I1 r1 q1) fun _ s2 q=>q
theorem gW{i:Nat}{x:Str}{e:Expr}{te:TE}{pos':Pos}(hN:X.N.Nodup)(hi:X.N[i]?=some x)(hx:Loc X.env.scope x)(he:PE X e te)(hs:swapsWith e (some (.Name x pos')) pos.line X.env=pure false:=by rfl)(hf:X.fn x=true\/X.env.scope.names.lookup x=some .local:=by first | exact .inl rfl | exact .inr rfl | assumption) :
  PS X (.Assign [.Name x pos'] e pos) (Kv te (zT i)):=by
 intro pins s σ H D I h;refine wpAny_Assign_Name (thn (he pins s σ H _ I h) fun v s1 ⟨y,H1,I1,r1,q1⟩=>?_) hs;exact fW I1 hN hi hx r1 (fun s2 I2=>⟨_,H1,I2,q1⟩) hf
def R3(i j:Nat)(ta:TA):TS:=fun D σ H=>ta σ H fun vs H1=>∃ v w,vs=[v,w]/\D.nx ((σ.set i (some v)).set j (some w)) H1
theorem Jc{i j:Nat}{x y:Str}{a b:Expr}{ta:TA}{px py pt:Pos}{kt k2 pt2}(hc:X.calm=true)(hN:X.N.Nodup)(hi:X.N[i]?=some x)(hj:X.N[j]?=some y)(hij:i≠j)
  (hx:X.env.scope.names.lookup x=some .local) (hy:X.env.scope.names.lookup y=some .local) (ha:PA X [a,b] ta)
  (hw:swappedStores [.Tuple [.Name x px,.Name y py] kt pt] (.Tuple [a,b] k2 pt2) X.env=pure (some [x,y]))
  (hs:swapsWithSole [.Tuple [.Name x px,.Name y py] kt pt] (.Tuple [a,b] k2 pt2) pos.line X.env=pure false:=by rfl) :
  PS X (.Assign [.Tuple [.Name x px,.Name y py] kt pt] (.Tuple [a,b] k2 pt2) pos) (R3 i j ta):=by
 intro pins s σ H D I h;rw[exec_Assign_arm];refine wpAny_bind (wpAny_standAt ?_);rw[hs];refine wpAny_bind (wpAny_pure ?_);rw[if_neg (by decide)];refine wpAny_bind (Tuple_ (thn (ha _ pins s σ H _ I h) fun us s1 ⟨vs,H1,I1,r1,q1⟩=>?_));obtain⟨v,w,e1,q1⟩:=q1;subst e1
 obtain⟨u1,u2,rfl,rv,rw'⟩:∃ u1 u2,us=[u1,u2]/\RelV v u1/\RelV w u2:=by
  cases r1 with
  | cons p q =>
   cases q with
   | cons p' q' =>
    cases q';exact⟨_,_,rfl,p,p'⟩
 refine wpAny_newObj_type ?_ (by show 2<=sizeLine;decide)
 have I2:Inv X pins σ H1 { s1 with heap:=s1.heap.push { cls:=.type "tuple",data:=.seq [u1,u2].toArray } }:=I1.kept (t':=s1.toks) fun b o e=>Heap.get?_push_of_some _ e;rw[hw];refine wpAny_bind (wpAny_pure ?_);show wpAny (model X.prog X.w) X.A (do rule "assign.swapped-stores";let items <- unpackItems (.ref s1.heap.objs.size) 2 none;assignInOrder [fun v=>bindName X.env y v,fun v=>bindName X.env x v] items.reverse;pure Flow.next) _ _ _;refine wpAny_bind (wpAny_rule (wpAny_bind (unpackItems_tuple (items := #[u1,u2]) (I.ok.hd hc) (IsTup.new s1.heap _) fun h' hx'=>?_)));have I3:=I2.kept (h':=h') (t':=s1.toks) fun b o e=>hx' b o (Nat.ne_of_lt (Heap.lt_size e)) e;show wpAny _ _ (assignInOrder [fun v=>bindName X.env y v,fun v=>bindName X.env x v] [u2,u1] >>=fun _=>pure Flow.next) _ _ _;refine wpAny_bind (assignInOrder_cons (wpAny_bindName (fW I3 hN hj (.inl hy) rw' (fun s2 I4=>?_) (.inr hy))));refine assignInOrder_cons (wpAny_bindName (fW I4 hN hi (.inl hx) rv (fun s3 I5=>assignInOrder_nil (wpAny_pure ?_)) (.inr hx)));rw[List.set_comm _ _ (Ne.symm hij)] at I5;exact⟨_,H1,I5,q1⟩
end
section
variable {X:Cx} {pos:Pos}
end
structure It where
 go:Nat->Hp->Prop
 yld:Nat->Hp->V->Hp->Prop
 stop:Nat->Hp->Prop
def qb(X:Cx)(pins:List (Addr×Obj))(H:Hp)(b:Addr):Prop :=
 H b=none/\b≠X.env.locals/\b∉X.fs/\(b∈X.ex\/X.s₀.heap.objs.size<=b)/\(∀ x c,X.env.cells.lookup x=some c->c≠b)/\∀ p∈X.pn++pins,p.1≠b
theorem Inv.fpOk{X:Cx}{pins:List (Addr×Obj)}{σ:St}{H H':Hp}{s:Shared}{b:Addr}(I:Inv X pins σ H s)(hb:s.heap.objs.size<=b)(hn:H' b=none):qb X pins H' b:=by
 refine⟨hn,Nat.ne_of_gt (Nat.lt_of_lt_of_le I.lt hb),I.nofs hb,.inr (Nat.le_trans I.sz hb),fun x c e z=>?_,fun p hp z=>?_⟩
 ·obtain⟨v,q⟩:=I.cell x c e
  exact absurd (Nat.lt_of_lt_of_le q.lt (by rw[z];exact hb)) (Nat.lt_irrefl _)
 ·exact absurd (Nat.lt_of_lt_of_le (Heap.lt_size (I.pin p hp).1) (by rw[z];exact hb)) (Nat.lt_irrefl _)
structure Turn (P:Program) (w:World) (K:PySem.W.Frag) (tg:Expr) (J:It) (fp:List Addr) (it:Addr) (tn:Nat->Heap->Prop):Prop where
 mem:it∈fp
 obj:∀ i h,tn i h->∀ b∈fp,∃ o,h.get? b=some o/\∀ v,o.data≠.cell v
 keep:∀ i h h',tn i h->(∀ b∈fp,∀ o,h.get? b=some o->h'.get? b=some o)->tn i h'
 item:∀ (X:Cx),X.prog=P->X.w=w->X.K=K->X.calm=true->∀ (i:Nat) (pins:List (Addr×Obj)) (s:Shared) (σ:St) (H:Hp) (E:Value->Shared->Prop),Inv X pins σ H s->(∀ b∈fp,qb X pins H b)->tn i s.heap->J.go i H ->
  wpAny (model P w) X.A (pyNext (.ref it)) (fun r s1=>∃ u,r=some u /\
   wpAny (model P w) X.A (letOwnedTupleGo tg (.ref it) u) (fun _ s2=>∃ x H',Inv X pins σ H' s2/\RelV x u/\J.yld i H x H'/\tn (i+1) s2.heap/\∀ b∈fp,H' b=none) E s1) E s
 done:∀ (X:Cx),X.prog=P->X.w=w->X.K=K->X.calm=true->∀ (i:Nat) (pins:List (Addr×Obj)) (s:Shared) (σ:St) (H:Hp) (E:Value->Shared->Prop),Inv X pins σ H s->(∀ b∈fp,qb X pins H b)->tn i s.heap->J.stop i H ->
  wpAny (model P w) X.A (pyNext (.ref it)) (fun r s1=>r=none/\Inv X pins σ H s1) E s
 self:∀ (A:Around) (i:Nat) (s:Shared) (Q:Value->Shared->Prop) (E:Value->Shared->Prop),tn i s.heap->Q (.ref it) s->wpAny (model P w) A (pyIter (.ref it)) Q E s
abbrev TI:=St->Hp->(It->Hp->Prop)->Prop
def PIE(X:Cx)(pins:List (Addr×Obj))(σ:St)(tg:Expr)(R:It->Hp->Prop)(itv:Value)(s2:Shared):Prop :=
 ∃ (it:Addr) (fp:List Addr) (tn:Nat->Heap->Prop) (J:It) (H':Hp),itv=.ref it/\Inv X pins σ H' s2/\Turn X.prog X.w X.K tg J fp it tn/\tn 0 s2.heap/\(∀ b∈fp,qb X pins H' b)/\R J H'
def PI(X:Cx)(tg iter:Expr)(wi:TI):Prop :=
  ∀ (pins : List (Addr × Obj)) (s : Shared) (σ : St) (H : Hp) (R : It -> Hp -> Prop), Inv X pins σ H s -> wi σ H R ->
    wpAny (model X.prog X.w) X.A (eval iter X.env) (fun v s1=>wpAny (model X.prog X.w) X.A (pyIter v) (PIE X pins σ tg R) X.xe s1) X.xe s
theorem v7{M:Model}{A:Around}{E:Value->Shared->Prop}{s:Shared}{tg:Expr}{it:Addr}{u:Value}{o:Obj}{n:String}{vs:Array Value}{Q:Unit->Shared->Prop}(ho:s.heap.get? it=some o)(hc:o.cls=.type n)(hd:o.data=.fields vs)
    (hn:["enumerate","zip","dict_itemiterator","dict_reverseitemiterator","odict_iterator","itertools.zip_longest","itertools.pairwise"].contains n=false) (hQ:Q () s):wpAny M A (letOwnedTupleGo tg (.ref it) u) Q E s:=by
  unfold letOwnedTupleGo
  cases tg<;>first
    | exact wpAny_pure hQ
    | (cases u<;>first
        | exact wpAny_pure hQ
        | (refine wpAny_bind (wpAny_load ho ?_)
           rw[hc,hd]
           show wpAny M A (if(["enumerate","zip","dict_itemiterator","dict_reverseitemiterator","odict_iterator","itertools.zip_longest","itertools.pairwise"].contains n&&vs[0]?==some (rawInt _))=true then _ else _) Q E s
           rw[if_neg (by intro h;rw[hn,Bool.false_and] at h;cases h)]
           exact wpAny_pure hQ))
def Itl(K:PySem.W.Frag)(a:Addr):It :=
 ⟨fun i H=>∃ xs x,SqL K H a xs/\xs[i]?=some x,fun i H x H'=>H'=H/\∀ xs,SqL K H a xs->xs[i]?=some x,fun i H=>∃ xs,SqL K H a xs/\xs.length<=i⟩
def Itt(K:PySem.W.Frag)(a:Addr):It :=
 ⟨fun i H=>∃ xs x,SqT K H a xs/\xs[i]?=some x,fun i H x H'=>H'=H/\∀ xs,SqT K H a xs->xs[i]?=some x,fun i H=>∃ xs,SqT K H a xs/\xs.length<=i⟩
def Itr(lo:Int)(n:Nat):It:=⟨fun i _=>i<n,fun i H x H'=>H'=H/\x=.int (lo+i),fun i _=>n<=i⟩
theorem um{P:Program}{w:World}{K:PySem.W.Frag}{tg:Expr}(a it:Addr):Turn P w K tg (Itl K a) [it] it (fun i h=>h.IsListIter it a i) where
 mem:=by simp
 obj:=fun i h st b hb=>by
  have e:b=it:=by simpa using hb
  subst e;obtain⟨o,e,c,d⟩:=st;exact⟨o,e,fun v z=>by rw[d] at z;cases z⟩
 keep:=fun i h h' st k=>st.at fun o e=>k it (by simp) o e
 item:=by
  intro X hP hw hK hc i pins s σ H E I hf st hg;subst hP hw hK;obtain⟨xs,x,hq,hx⟩:=hg;obtain⟨its,rv,p,hz⟩:=I.list hq;obtain⟨u,hu,ru⟩:=rv.get hx;obtain⟨f0,f1,f2,f3,f4,f5⟩:=hf it (by simp);refine wpAny_pyNext_list_item st p.isList (x:=u) (by simpa using hu) fun h' st' sb=>?_;have I1:Inv X pins σ H { s with heap:=h' }:=I.turned (t':=s.toks) (fun b o hb e=>(sb.2 b hb).trans e) f0 f1 f3 f4 f5;obtain⟨o,e,c,d⟩:=id st';exact⟨u,rfl,v7 (s:={ s with heap:=h' }) e c d (by decide) ⟨x,H,I1,ru,⟨rfl,fun ys hy=>by rw[I.list_inj hy hq];exact hx⟩,st',fun b hb=>(hf b hb).1⟩⟩
 done:=by
  intro X hP hw hK hc i pins s σ H E I hf st hg;subst hP hw hK;obtain⟨xs,hq,hx⟩:=hg;obtain⟨its,rv,p,hz⟩:=I.list hq;obtain⟨f0,f1,f2,f3,f4,f5⟩:=hf it (by simp);have hl:=rv.length;exact wpAny_pyNext_list_end (I.ok.hd hc) st p.isList (by simp;omega) fun h' eb=>⟨rfl,I.turned (t':=s.toks) (fun b o hb e=>eb b o hb e) f0 f1 f3 f4 f5⟩
 self:=fun _ _ _ _ _ st h=>wpAny_pyIter_listiter st h
theorem rN{P:Program}{w:World}{K:PySem.W.Frag}{tg:Expr}(a it:Addr):Turn P w K tg (Itt K a) [it] it (fun i h=>h.IsTupleIter it a i) where
 mem:=by simp
 obj:=fun i h st b hb=>by
  have e:b=it:=by simpa using hb
  subst e;obtain⟨o,e,c,d⟩:=st;exact⟨o,e,fun v z=>by rw[d] at z;cases z⟩
 keep:=fun i h h' st k=>st.at fun o e=>k it (by simp) o e
 item:=by
  intro X hP hw hK hc i pins s σ H E I hf st hg;subst hP hw hK;obtain⟨xs,x,hq,hx⟩:=hg;obtain⟨its,rv,p,hz⟩:=I.tuple hq;obtain⟨u,hu,ru⟩:=rv.get hx;obtain⟨f0,f1,f2,f3,f4,f5⟩:=hf it (by simp);refine wpAny_pyNext_tuple_item st (show s.heap.IsTuple a its.toArray from p) (x:=u) (by simpa using hu) fun h' st' sb=>?_;have I1:Inv X pins σ H { s with heap:=h' }:=I.turned (t':=s.toks) (fun b o hb e=>(sb.2 b hb).trans e) f0 f1 f3 f4 f5;obtain⟨o,e,c,d⟩:=id st';exact⟨u,rfl,v7 (s:={ s with heap:=h' }) e c d (by decide) ⟨x,H,I1,ru,⟨rfl,fun ys hy=>by rw[I.tuple_inj hy hq];exact hx⟩,st',fun b hb=>(hf b hb).1⟩⟩
 done:=by
  intro X hP hw hK hc i pins s σ H E I hf st hg;subst hP hw hK;obtain⟨xs,hq,hx⟩:=hg;obtain⟨its,rv,p,hz⟩:=I.tuple hq;obtain⟨f0,f1,f2,f3,f4,f5⟩:=hf it (by simp);have hl:=rv.length;exact wpAny_pyNext_tuple_end (I.ok.hd hc) st (show s.heap.IsTuple a its.toArray from p) (by simp;omega) fun h' eb=>⟨rfl,I.turned (t':=s.toks) (fun b o hb e=>eb b o hb e) f0 f1 f3 f4 f5⟩
 self:=fun _ _ _ _ _ st h=>wpAny_pyIter_tupleiter st h
theorem rO{P:Program}{w:World}{K:PySem.W.Frag}{tg:Expr}(it:Addr)(lo:Int)(n:Nat):Turn P w K tg (Itr lo n) [it] it (fun i h=>IsRangeIter h it (lo+(i:Nat)*1) ((n:Int)-(i:Nat)) 1) where
 mem:=by simp
 obj:=fun i h st b hb=>by
  have e:b=it:=by simpa using hb
  subst e
  exact⟨_,st,fun v z=>by
   have z':Data.fields _=Data.cell v:=z
   cases z'⟩
 keep:=fun i h h' st k=>k it (by simp) _ st
 item:=by
  intro X hP hw hK hc i pins s σ H E I hf st hg;subst hP hw hK;obtain⟨f0,f1,f2,f3,f4,f5⟩:=hf it (by simp);have W:=Walks.range (prog:=X.prog) (w:=X.w) (I.ok.hd hc) it lo 1 n;refine W.item i s _ _ hg st fun v h' tk hv st' kk=>?_;obtain⟨t,rfl⟩:=hv;have I1:Inv X pins σ H { s with heap:=h',toks:=tk }:=I.turned (fun b o hb e=>kk b o (by simpa using hb) e) f0 f1 f3 f4 f5;refine⟨_,rfl,v7 (s:={ s with heap:=h',toks:=tk }) (n:="range_iterator") st' rfl rfl (by decide) ⟨.int (lo+i),H,I1,⟨t,?_⟩,⟨rfl,rfl⟩,st',fun b hb=>(hf b hb).1⟩⟩;rw[Int.mul_one]
 done:=by
  intro X hP hw hK hc i pins s σ H E I hf st hg;subst hP hw hK;obtain⟨f0,f1,f2,f3,f4,f5⟩:=hf it (by simp);exact wpAny_pyNext_range_end (I.ok.hd hc) st (by have:n<=i:=hg;omega) fun h' eb=>⟨rfl,I.turned (t':=s.toks) (fun b o hb e=>eb b o hb e) f0 f1 f3 f4 f5⟩
 self:=fun _ _ _ _ _ st h=>wpAny_pyIter_rangeiter st h
end L2
namespace L2
open PySem PySem.Spec PyProof.Rows
section
variable {X:Cx} {tg:Expr}
def PJ(K:PySem.W.Frag)(tl:TE):TI:=fun σ H R=>tl σ H fun x H1=>∃ a,x=.ref a/\(∃ xs,SqL K H1 a xs)/\R (Itl K a) H1
def Tw(K:PySem.W.Frag)(tl:TE):TI:=fun σ H R=>tl σ H fun x H1=>∃ a,x=.ref a/\(∃ xs,SqT K H1 a xs)/\R (Itt K a) H1
theorem DW{l:Expr}{tl:TE}(hl:PE X l tl):PI X tg l (PJ X.K tl):=by
 intro pins s σ H R I h;refine thn (hl pins s σ H _ I h) fun v s1 ⟨x,H1,I1,r1,q1⟩=>?_;obtain⟨a,e,⟨xs,hq⟩,q⟩:=q1;subst e;cases r1;obtain⟨its,rv,p,hz⟩:=I1.list hq;refine wpAny_pyIter_list p.isList ?_;refine⟨s1.heap.objs.size,[s1.heap.objs.size],_,_,H1,rfl,I1.kept (t':=s1.toks) fun b o e=>Heap.get?_push_of_some _ e,um a _,⟨_,Heap.get?_push_size _ rfl,rfl,rfl⟩,fun b hb=>?_,q⟩
 have e:b=s1.heap.objs.size:=by simpa using hb
 subst e;exact I1.fpOk (Nat.le_refl _) (I1.hok.fresh (Nat.le_refl _))
theorem Jf{l:Expr}{tl:TE}(hl:PE X l tl):PI X tg l (Tw X.K tl):=by
 intro pins s σ H R I h;refine thn (hl pins s σ H _ I h) fun v s1 ⟨x,H1,I1,r1,q1⟩=>?_;obtain⟨a,e,⟨xs,hq⟩,q⟩:=q1;subst e;cases r1;obtain⟨its,rv,p,hz⟩:=I1.tuple hq;refine wpAny_pyIter_tuple (show s1.heap.IsTuple a its.toArray from p) ?_;refine⟨s1.heap.objs.size,[s1.heap.objs.size],_,_,H1,rfl,I1.kept (t':=s1.toks) fun b o e=>Heap.get?_push_of_some _ e,rN a _,⟨_,Heap.get?_push_size _ rfl,rfl,rfl⟩,fun b hb=>?_,q⟩
 have e:b=s1.heap.objs.size:=by simpa using hb
 subst e;exact I1.fpOk (Nat.le_refl _) (I1.hok.fresh (Nat.le_refl _))
theorem qC{pins:List (Addr×Obj)}{σ:St}{H:Hp}{s:Shared}{R:It->Hp->Prop}{E:Value->Shared->Prop}{lo hi:Int}{t u v:Tok}{tk:Nat}(I:Inv X pins σ H s)(h1:-(2^62)<=lo)(h2:lo<2^62)(h3:-(2^62)<=hi)(h4:hi<2^62)
  (q:R (Itr lo (hi-lo).toNat) H):wpAny (model X.prog X.w) X.A (pyIter (.ref s.heap.objs.size)) (PIE X pins σ tg R) E { s with heap:=s.heap.push { cls:=.type "range",data:=.fields #[.int lo t,.int hi u,.int 1 v] },toks:=tk }:=by
 refine wpAny_pyIter_range (IsRange.new ..) (small_one h1 h2 h3 h4) ?_;have I1:Inv X pins σ H { s with heap:=s.heap.push { cls:=.type "range",data:=.fields #[.int lo t,.int hi u,.int 1 v] },toks:=tk }:=I.kept fun b o e=>Heap.get?_push_of_some _ e
 refine⟨(s.heap.push { cls:=.type "range",data:=.fields #[.int lo t,.int hi u,.int 1 v] }).objs.size,[(s.heap.push { cls:=.type "range",data:=.fields #[.int lo t,.int hi u,.int 1 v] }).objs.size],_,_,H,rfl,
  I1.kept (t':=tk) fun b o e=>Heap.get?_push_of_some _ e,rO _ lo (hi-lo).toNat,?_,fun b hb=>?_,q⟩
 ·have e1:lo+((0:Nat):Int)*1=lo:=by simp
  have e2:(((hi-lo).toNat:Nat):Int)-((0:Nat):Int)=Builtin.Range.rangeSize lo hi 1:=by rw[rangeSize_one];split<;>omega
  show IsRangeIter _ _ (lo+((0:Nat):Int)*1) ((((hi-lo).toNat:Nat):Int)-((0:Nat):Int)) 1;rw[e1,e2];exact Heap.get?_push_size _ rfl
 ·have e:b=(s.heap.push { cls:=.type "range",data:=.fields #[.int lo t,.int hi u,.int 1 v] }).objs.size:=by simpa using hb
  subst e;exact I1.fpOk (Nat.le_refl _) (I1.hok.fresh (Nat.le_refl _))
def Pz(ta:TA):TI:=fun σ H R=>ta σ H fun vs H1=>∃ j:Int,vs=[.int j] /\ -(2^62)<=j/\j<2^62/\R (Itr 0 j.toNat) H1
def Py(ta:TA):TI:=fun σ H R=>ta σ H fun vs H1=>∃ i j:Int,vs=[.int i,.int j]/\(-(2^62)<=i/\i<2^62 /\ -(2^62)<=j/\j<2^62)/\R (Itr i (j-i).toNat) H1
theorem vd{a:Expr}{ta:TA}{p pos:Pos}(hg:Gl X "range")(hm:X.mg "range"=none)(ha:PA X [a] ta)(hs:starEach [a] X.env=[(false,eval a X.env)]:=by rfl):PI X tg (.Call (.Name "range" p) [a] [] pos) (Pz ta):=by
 intro pins s σ H R I h;refine Call_ (cQ I hg hm boot_range (PyProof.Rows.callWith_type1 (thn (ha pos pins s σ H _ I h) fun us s1 ⟨vs,H1,I1,r1,q1⟩=>?_) hs rfl));obtain⟨j,e,q1,q2,q⟩:=q1;subst e
 cases r1 with
 | cons r rr =>
  cases rr;obtain⟨t,rfl⟩:=r;exact call_range_1 (qC I1 (by omega) (by omega) q1 q2 (by simpa using q))
theorem u9{a b:Expr}{ta:TA}{p pos:Pos}(hg:Gl X "range")(hm:X.mg "range"=none)(ha:PA X [a,b] ta)(hs:starEach [a,b] X.env=[(false,eval a X.env),(false,eval b X.env)]:=by rfl)(hs2:starEach [b] X.env=[(false,eval b X.env)]:=by rfl) :
  PI X tg (.Call (.Name "range" p) [a,b] [] pos) (Py ta):=by
 intro pins s σ H R I h;refine Call_ (cQ I hg hm boot_range (PyProof.Rows.callWith_type1 (thn (ha pos pins s σ H _ I h) fun us s1 ⟨vs,H1,I1,r1,q1⟩=>?_) (by rw[hs,hs2]) (by rw[hs2];rfl)));obtain⟨i,j,e,⟨q1,q2,q3,q4⟩,q⟩:=q1;subst e
 cases r1 with
 | cons r rr =>
  cases rr with
  | cons r' rr =>
   cases rr;obtain⟨t,rfl⟩:=r;obtain⟨t',rfl⟩:=r';exact call_range_2 (qC I1 q1 q2 q3 q4 q)
def R8(wi:TI)(g:TG)(tb:TS):TS:=fun D σ H=>wi σ H fun J H1=>∃ W:Nat->Nat->St->Hp->Prop,(∃ m,W 0 m σ H1)/\∀ i m σ H,W i m σ H ->
 (J.stop i H/\D.nx σ H)\/(J.go i H/\∃ N:St->Hp->Prop,(∀ σ' H',N σ' H'->∃ m',m'<m/\W (i+1) m' σ' H')/\∀ x H',J.yld i H x H'->g x σ H' fun σ2 H2=>tb { D with nx:=N,ct:=N,bk:=D.nx } σ2 H2)
def m9(fp:List Addr)(h:Heap):List (Addr×Obj):=fp.filterMap fun b=>(h.get? b).map fun o=>(b,o)
theorem eZ{fp:List Addr}{h:Heap}{b:Addr}{o:Obj}(hb:b∈fp)(e:h.get? b=some o):(b,o)∈m9 fp h:=List.mem_filterMap.mpr ⟨b,hb,by rw[e];rfl⟩
theorem vq{fp:List Addr}{h:Heap}{p:Addr×Obj}(hp:p∈m9 fp h):p.1∈fp/\h.get? p.1=some p.2:=by
 obtain⟨b,hb,e⟩:=List.mem_filterMap.mp hp
 cases q:h.get? b with
 | none=>rw[q] at e;cases e
 | some o =>
  rw[q] at e;have e':(b,o)=p:=Option.some.inj e;subst e';exact⟨hb,q⟩
theorem Inv.pinned{pins:List (Addr×Obj)}{σ:St}{H:Hp}{s:Shared}{fp:List Addr}(I:Inv X pins σ H s)(hf:∀ b∈fp,qb X pins H b)(ho:∀ b∈fp,∃ o,s.heap.get? b=some o/\∀ v,o.data≠.cell v):Inv X (pins++m9 fp s.heap) σ H s :=
 I.pins_of fun p hp=>(List.mem_append.mp hp).elim (fun z=>I.pin p (List.mem_append_right _ z)) fun z=>by
  obtain⟨hb,e⟩:=vq z;obtain⟨f0,f1,f2,_⟩:=hf p.1 hb;obtain⟨o,e',d⟩:=ho p.1 hb;rw[e] at e';cases e';exact⟨e,f0,f1,f2,d⟩
theorem Inv.unpinned{pins pl:List (Addr×Obj)}{σ:St}{H:Hp}{s:Shared}(I:Inv X (pins++pl) σ H s):Inv X pins σ H s:=I.pins_of fun p hp=>I.pin p (List.mem_append_right _ (List.mem_append_left _ hp))
theorem Jd{iter:Expr}{body:List Stmt}{wi:TI}{g:TG}{tb:TS}{pos:Pos}(hp:PassesOwn (model X.prog X.w) X.A X.env X.xe)(hc:X.calm=true)(hi:PI X tg iter wi)(hg:PG X tg g)(hb:PSs X body tb)
  (hs:∀ x,foldedSetIterable iter X.env x=pure x:=by intro _;rfl):PS X (.For tg iter body [] pos) (R8 wi g tb):=by
 intro pins s σ H D I h;refine wpAny_For (thn (hi pins s σ H _ I h) fun v s1 h1=>thn h1 fun itv s2 h2=>?_) hs;obtain⟨it,fp,tn,J,H2,e,I2,T,st2,f2,W,⟨m0,w0⟩,turn⟩:=h2;subst e;have stat:∀ {H':Hp},(∀ b∈fp,H' b=none)->∀ b∈fp,qb X pins H' b:=fun hn b hb=>⟨hn b hb,(f2 b hb).2⟩;refine codeAny_forLoop_any (fun n s'=>∃ i σ' H',Inv X pins σ' H' s'/\tn i s'.heap/\(∀ b∈fp,H' b=none)/\W i n σ' H') ?_ m0 ⟨0,σ,H2,I2,st2,fun b hb=>(f2 b hb).1,w0⟩;rintro n s3 ⟨i,σ3,H3,I3,st3,fr3,w3⟩;rcases turn i n σ3 H3 w3 with⟨stop,qn⟩ | ⟨go,N,hN,step⟩
 ·refine wpAny_passesOwn hp (thn (T.done X rfl rfl rfl hc i pins s3 σ3 H3 X.xe I3 (stat fr3) st3 stop) fun r s4 ⟨hr,I4⟩=>?_)
  subst hr;exact wpAny_execs_nil ⟨σ3,H3,I4,qn⟩
 ·refine wpAny_passesOwn hp (thn (T.item X rfl rfl rfl hc i pins s3 σ3 H3 X.xe I3 (stat fr3) st3 go) fun r s4 ⟨u,hr,h4⟩=>?_)
  subst hr;refine wpAny_passesOwn hp (thn h4 fun _ s5 ⟨x,H5,I5,r5,y5,st5,fr5⟩=>?_);have I5':=I5.pinned (stat fr5) (T.obj _ _ st5);refine wpAny_passesOwn hp (thn (hg _ s5 σ3 H5 x u _ I5' r5 (step x H5 y5)) fun _ s6 ⟨σ6,H6,I6,q6⟩=>?_);refine wpAny_passesOwn hp (thn (hb _ s6 σ6 H6 _ I6 q6) fun f s7 q7=>?_)
  have again:∀ {σ7:St} {H7:Hp},Inv X (pins++m9 fp s5.heap) σ7 H7 s7->N σ7 H7->∃ m,m<n/\∃ i σ' H',Inv X pins σ' H' s7/\tn i s7.heap/\(∀ b∈fp,H' b=none)/\W i m σ' H':=fun {σ7 H7} I7 n7=>by
   obtain⟨m',hm,w7⟩:=hN σ7 H7 n7;refine⟨m',hm,i+1,σ7,H7,I7.unpinned,T.keep _ _ _ st5 fun b hb o e=>(I7.pin (b,o) (List.mem_append_right _ (List.mem_append_right _ (eZ hb e)))).1,fun b hb=>?_,w7⟩;obtain⟨o,e,d⟩:=T.obj _ _ st5 b hb;exact(I7.pin (b,o) (List.mem_append_right _ (List.mem_append_right _ (eZ hb e)))).2.1
  cases f with
  | next=>obtain⟨σ7,H7,I7,n7⟩:=q7;exact again I7 n7
  | cont=>obtain⟨σ7,H7,I7,n7⟩:=q7;exact again I7 n7
  | brk=>obtain⟨σ7,H7,I7,q7⟩:=q7;exact⟨σ7,H7,I7.unpinned,q7⟩
  | ret v=>obtain⟨x7,σ7,H7,I7,r7,q7⟩:=q7;exact⟨x7,σ7,H7,I7.unpinned,r7,q7⟩
end
end L2
namespace L2
open PySem PySem.Spec PyProof.Rows
abbrev R2:=V->V->Hp->VK->Prop
def OpR(X:Cx)(f:Value->Value->Sem Value)(r:R2):Prop :=
  ∀ (pins : List (Addr × Obj)) (s : Shared) (σ : St) (H : Hp) (x y : V) (v u : Value) (Q : VK), Inv X pins σ H s -> RelV x v -> RelV y u -> r x y H Q ->
    wpAny (model X.prog X.w) X.A (f v u) (EP X pins σ Q) X.xe s
def UnR(X:Cx)(f:Value->Sem Value)(r:V->Hp->VK->Prop):Prop :=
  ∀ (pins : List (Addr × Obj)) (s : Shared) (σ : St) (H : Hp) (x : V) (v : Value) (Q : VK), Inv X pins σ H s -> RelV x v -> r x H Q ->
    wpAny (model X.prog X.w) X.A (f v) (EP X pins σ Q) X.xe s
def bH(X:Cx)(f:Value)(r:List V->Hp->VK->Prop):Prop :=
  ∀ (pins : List (Addr × Obj)) (s : Shared) (σ : St) (H : Hp) (xs : List V) (us : List Value) (Q : VK), Inv X pins σ H s -> Vals xs us -> r xs H Q ->
    wpAny (model X.prog X.w) X.A (call f us) (EP X pins σ Q) X.xe s
def tOp(r:R2)(ta tb:TE):TE:=fun σ H Q=>ta σ H fun x H1=>tb σ H1 fun y H2=>r x y H2 Q
def tUn(r:V->Hp->VK->Prop)(ta:TE):TE:=fun σ H Q=>ta σ H fun x H1=>r x H1 Q
def rI(C:Int->Int->Prop)(g:Int->Int->V):R2:=fun x y H Q=>∃ i j,x=.int i/\y=.int j/\C i j/\Q (g i j) H
def rI0(g:Int->Int->V):R2:=fun x y H Q=>∃ i j,x=.int i/\y=.int j/\Q (g i j) H
def rU(g:Int->V):V->Hp->VK->Prop:=fun x H Q=>∃ i,x=.int i/\Q (g i) H
section
variable {X:Cx} {a b c:Expr} {ta tb tc:TE} {pos:Pos}
theorem Qi(ha:PE X a ta)(hb:PE X b tb){pins:List (Addr×Obj)}{s:Shared}{σ:St}{H:Hp}{R:V->V->Hp->Prop}(I:Inv X pins σ H s)
  (h:ta σ H fun x H1=>tb σ H1 fun y H2=>R x y H2) {Q:Value->Shared->Prop} {f:Value->Value->Sem Value}
  (hf:∀ v u s2 x y H2,Inv X pins σ H2 s2->RelV x v->RelV y u->R x y H2->wpAny (model X.prog X.w) X.A (f v u) Q X.xe s2) :
  wpAny (model X.prog X.w) X.A (eval a X.env) (fun v s₁=>wpAny (model X.prog X.w) X.A (eval b X.env) (fun u s₂=>wpAny (model X.prog X.w) X.A (f v u) Q X.xe s₂) X.xe s₁) X.xe s:=by
 refine thn (ha pins s σ H _ I h) fun v s1 ⟨x,H1,I1,r1,q1⟩=>?_;refine thn (hb pins s1 σ H1 _ I1 q1) fun u s2 ⟨y,H2,I2,r2,q2⟩=>?_;exact hf v u s2 x y H2 I2 r1 r2 q2
theorem iD{op:Operator}{r:R2}(ho:OpR X (binaryOp op) r)(ha:PE X a ta)(hb:PE X b tb):PE X (.BinOp a op b pos) (tOp r ta tb):=by
 intro pins s σ H Q I h;exact wpAny_BinOp (Qi ha hb I h fun v u s2 x y H2 I2 rx ry q=>ho pins s2 σ H2 x y v u Q I2 rx ry q)
theorem Mf{op:UnaryOp}{r:V->Hp->VK->Prop}(ho:UnR X (unaryOp op) r)(ha:PE X a ta):PE X (.UnaryOp op a pos) (tUn r ta):=by
 intro pins s σ H Q I h;exact UnaryOp_ (thn (ha pins s σ H _ I h) fun v s1 ⟨x,H1,I1,r1,q1⟩=>ho pins s1 σ H1 x v Q I1 r1 q1)
theorem opI{f:Value->Value->Sem Value}{C:Int->Int->Prop}{g:Int->Int->Int}
  (rule:∀ (i j:Int) (t u:Tok) (s:Shared) (Q:Value->Shared->Prop) (E:Value->Shared->Prop),C i j->Q (.int (g i j) s.toks) { s with toks:=s.toks+1 }->wpAny (model X.prog X.w) X.A (f (.int i t) (.int j u)) Q E s) :
  OpR X f (rI C fun i j=>.int (g i j)):=by
 intro pins s σ H x y v u Q I rx ry h;obtain⟨i,j,rfl,rfl,hc,q⟩:=h;obtain⟨t,rfl⟩:=rx;obtain⟨t',rfl⟩:=ry;exact rule i j t t' s _ _ hc ⟨.int (g i j),H,I.tok _,⟨_,rfl⟩,q⟩
theorem Qv{f:Value->Value->Sem Value}{g:Int->Int->Int}
  (rule:∀ (i j:Int) (t u:Tok) (s:Shared) (Q:Value->Shared->Prop) (E:Value->Shared->Prop),Q (.int (g i j) s.toks) { s with toks:=s.toks+1 }->wpAny (model X.prog X.w) X.A (f (.int i t) (.int j u)) Q E s) :
  OpR X f (rI0 fun i j=>.int (g i j)):=by
 intro pins s σ H x y v u Q I rx ry h;obtain⟨i,j,rfl,rfl,q⟩:=h;obtain⟨t,rfl⟩:=rx;obtain⟨t',rfl⟩:=ry;exact rule i j t t' s _ _ ⟨.int (g i j),H,I.tok _,⟨_,rfl⟩,q⟩
theorem KH{f:Value->Value->Sem Value}{g:Int->Int->Bool}
  (rule:∀ (i j:Int) (t u:Tok) (s:Shared) (Q:Value->Shared->Prop) (E:Value->Shared->Prop),Q (.bool (g i j)) s->wpAny (model X.prog X.w) X.A (f (.int i t) (.int j u)) Q E s) :
  OpR X f (rI0 fun i j=>.bl (g i j)):=by
 intro pins s σ H x y v u Q I rx ry h;obtain⟨i,j,rfl,rfl,q⟩:=h;obtain⟨t,rfl⟩:=rx;obtain⟨t',rfl⟩:=ry;exact rule i j t t' s _ _ ⟨.bl (g i j),H,I,rfl,q⟩
def Uh(i j:Int):Prop:=0<j/\j<1073741824
def Ql(i j:Int):Prop:=(-(2^64)<i/\i<2^64)\/(-(2^64)<j/\j<2^64)
theorem Ql.ok{i j:Int}(h:Ql i j):IntMulOk i j:=by
 rcases h with⟨h1,h2⟩ | ⟨h1,h2⟩
 ·exact .of_left (intBits_le_64 h1 h2)
 ·exact .of_right (intBits_le_64 h1 h2)
theorem Js:OpR X (binaryOp .Add) (rI0 fun i j=>.int (i+j)):=Qv fun _ _ _ _ _ _ _ q=>add_int q
theorem Jo:OpR X (binaryOp .Sub) (rI0 fun i j=>.int (i-j)):=Qv fun _ _ _ _ _ _ _ q=>sub_int q
theorem Er:OpR X (binaryOp .FloorDiv) (rI Uh fun i j=>.int (i / j)):=opI fun i j _ _ _ _ _ hc q=>by
 have h1:(0:Int)<j:=hc.1;have h2:j<1073741824:=hc.2;exact floordiv_int (by omega) (by rw[Int.fdiv_eq_ediv_of_nonneg i (by omega)];exact q) (.inl (PyProof.noPylong_small (by omega)))
theorem Jp:OpR X (binaryOp .Mod) (rI (fun _ j=>0<j) fun i j=>.int (i%j)):=opI fun i j _ _ _ _ _ hc q=>by
 have h1:(0:Int)<j:=hc;exact mod_int' (by omega) (by rw[Int.fmod_eq_emod_of_nonneg i (by omega)];exact q)
theorem Ep:OpR X (binaryOp .Mod) (rI (fun _ j=>j≠0) fun i j=>.int (i.fmod j)):=opI fun _ _ _ _ _ _ _ hc q=>mod_int' hc q
theorem unI{f:Value->Sem Value}{g:Int->Int}
  (rule:∀ (i:Int) (t:Tok) (s:Shared) (Q:Value->Shared->Prop) (E:Value->Shared->Prop),Q (.int (g i) s.toks) { s with toks:=s.toks+1 }->wpAny (model X.prog X.w) X.A (f (.int i t)) Q E s) :
  UnR X f (rU fun i=>.int (g i)):=by
 intro pins s σ H x v Q I rx h;obtain⟨i,rfl,q⟩:=h;obtain⟨t,rfl⟩:=rx;exact rule i t s _ _ ⟨.int (g i),H,I.tok _,⟨_,rfl⟩,q⟩
theorem Hy:UnR X (unaryOp .USub) (rU fun i=>.int (-i)):=unI fun _ _ _ _ _ q=>neg_int q
end
section
variable {X:Cx} {a b c:Expr} {ta tb tc:TE} {pos:Pos}
theorem BW{pins:List (Addr×Obj)}{σ:St}{H:Hp}{s:Shared}{Q:VK}{k k':Bool}(I:Inv X pins σ H s)(q:Q (.bl k) H)(e:k=k'):EP X pins σ Q (.bool k') s:=by
 subst e;exact⟨.bl k,H,I,rfl,q⟩
theorem Mi:OpR X (compareOp .Lt) (rI0 fun i j=>.bl (decide (i<j))):=KH fun _ _ _ _ _ _ _ q=>lt_int q
theorem Mj:OpR X (compareOp .LtE) (rI0 fun i j=>.bl (decide (i<=j))):=KH fun _ _ _ _ _ _ _ q=>le_int q
theorem Ml:OpR X (compareOp .Gt) (rI0 fun i j=>.bl (decide (j<i))):=KH fun _ _ _ _ _ _ _ q=>gt_int q
theorem Mp:OpR X (compareOp .GtE) (rI0 fun i j=>.bl (decide (j<=i))):=KH fun _ _ _ _ _ _ _ q=>ge_int q
theorem Jq:OpR X (compareOp .Is) (fun x y H Q=>y=.non/\Q (.bl (decide (x=.non))) H):=by
 intro pins s σ H x y v u Q I rx ry h;obtain⟨rfl,q⟩:=h;cases ry;refine is_none_gen (BW I q ?_)
 cases x<;>first
  | (cases rx;rfl)
  | (obtain⟨t,rfl⟩:=rx;rfl)
theorem Em:OpR X (compareOp .IsNot) (fun x y H Q=>y=.non/\Q (.bl (!decide (x=.non))) H):=by
 intro pins s σ H x y v u Q I rx ry h;obtain⟨rfl,q⟩:=h;cases ry;refine isnot_none_gen (BW I q ?_)
 cases x<;>first
  | (cases rx;rfl)
  | (obtain⟨t,rfl⟩:=rx;rfl)
theorem Eh{op:CmpOp}{r:R2}(ho:OpR X (compareOp op) r)(ha:PE X a ta)(hb:PE X b tb)(hm:behindInMarks op b=false):PE X (.Compare a [op] [b] pos) (tOp r ta tb):=by
 intro pins s σ H Q I h;exact wpAny_Compare1 (Qi ha hb I h fun v u s2 x y H2 I2 rx ry q=>ho pins s2 σ H2 x y v u Q I2 rx ry q) hm
def HD(t:TE):TT:=fun σ H Q=>t σ H fun x H'=>∃ k,x=.bl k/\Q k H'
theorem Dz{op:CmpOp}{r:R2}(ho:OpR X (compareOp op) r)(ha:PE X a ta)(hb:PE X b tb)(hm:behindInMarks op b=false):PT X (.Compare a [op] [b] pos) (HD (tOp r ta tb)):=by
 intro pins s σ H Q I h
 refine wpAny_isTrue_Compare1 (thn (ha pins s σ H _ I h) fun v s1 ⟨x,H1,I1,r1,q1⟩=>thn (hb pins s1 σ H1 _ I1 q1) fun u s2 ⟨y,H2,I2,r2,q2⟩ =>
  thn (ho pins s2 σ H2 x y v u _ I2 r1 r2 q2) fun c s3 ⟨z,H3,I3,r3,k,e,q3⟩=>?_) hm
 subst e;cases r3;exact wpAny_truthy_bool ⟨H3,I3,q3⟩
def uz(r r':R2)(ta tb tc:TE):TE:=fun σ H Q=>ta σ H fun x H1=>tb σ H1 fun y H2=>r x y H2 fun z H3=>∃ k,z=.bl k /\
 (if k=true then tc σ H3 fun w' H4=>r' y w' H4 Q else Q (.bl false) H3)
theorem yV{op op':CmpOp}{r r':R2}(ho:OpR X (compareOp op) r)(ho':OpR X (compareOp op') r')(ha:PE X a ta)(hb:PE X b tb)(hc:PE X c tc)
  (hm:lastMarks [op,op'] [b,c]=false:=by with_unfolding_all rfl):PE X (.Compare a [op,op'] [b,c] pos) (uz r r' ta tb tc):=by
 intro pins s σ H Q I h
 refine Compare_chain (thn (ha pins s σ H _ I h) fun v s1 ⟨x,H1,I1,r1,q1⟩=>chain_link (thn (hb pins s1 σ H1 _ I1 q1) fun u s2 ⟨y,H2,I2,r2,q2⟩ =>
  thn (ho pins s2 σ H2 x y v u _ I2 r1 r2 q2) fun d s3 ⟨z,H3,I3,r3,k,e,q3⟩=>?_)) hm
 subst e;cases r3;refine wpAny_truthy_bool ?_
 cases k with
 | false=>exact ite_ff ⟨.bl false,H3,I3,rfl,q3⟩
 | true=>exact ite_tt (chain_last (thn (hc pins s3 σ H3 _ I3 q3) fun w' s4 ⟨z',H4,I4,r4,q4⟩=>ho' pins s4 σ H4 y z' u w' Q I4 r2 r4 q4))
theorem yM{op op':CmpOp}{r r':R2}(ho:OpR X (compareOp op) r)(ho':OpR X (compareOp op') r')(ha:PE X a ta)(hb:PE X b tb)(hc:PE X c tc)
  (hm:lastMarks [op,op'] [b,c]=false:=by with_unfolding_all rfl):PT X (.Compare a [op,op'] [b,c] pos) (HD (uz r r' ta tb tc)):=by
 intro pins s σ H Q I h
 refine isTrue_chain (thn (ha pins s σ H _ I h) fun v s1 ⟨x,H1,I1,r1,q1⟩=>test_link (thn (hb pins s1 σ H1 _ I1 q1) fun u s2 ⟨y,H2,I2,r2,q2⟩ =>
  thn (ho pins s2 σ H2 x y v u _ I2 r1 r2 q2) fun d s3 ⟨z,H3,I3,r3,k,e,q3⟩=>?_)) hm
 subst e;cases r3;refine wpAny_truthy_bool ?_
 cases k with
 | false =>
  obtain⟨k',e',q'⟩:=q3;cases e';exact ite_ff ⟨H3,I3,q'⟩
 | true =>
  refine ite_tt (test_last (thn (hc pins s3 σ H3 _ I3 q3) fun w' s4 ⟨z',H4,I4,r4,q4⟩=>thn (ho' pins s4 σ H4 y z' u w' _ I4 r2 r4 q4) fun d' s5 ⟨z2,H5,I5,r5,k2,e2,q5⟩=>?_));subst e2;cases r5;exact wpAny_truthy_bool ⟨H5,I5,q5⟩
theorem jW:(sizeLine:Nat)<2^63:=by rw[sizeLine_eq];decide
theorem vals1{x:V}{us:List Value}(r:Vals [x] us):∃ u,us=[u]/\RelV x u:=by
 cases r with
 | cons r1 r2=>cases r2;exact⟨_,rfl,r1⟩
theorem vals2{x y:V}{us:List Value}(r:Vals [x,y] us):∃ u w',us=[u,w']/\RelV x u/\RelV y w':=by
 cases r with
 | cons r1 r2 =>
  cases r2 with
  | cons r3 r4=>cases r4;exact⟨_,_,rfl,r1,r3⟩
theorem Ar:bH X (.builtin "abs") (fun xs H Q=>∃ i,xs=[.int i]/\Q (.int (if i<0 then -i else i)) H):=by
 intro pins s σ H xs us Q I r h;obtain⟨i,rfl,q⟩:=h;obtain⟨u,rfl,t,rfl⟩:=vals1 r;exact call_abs_int fun u tk=>⟨.int (if i<0 then -i else i),H,I.tok _,⟨_,rfl⟩,q⟩
theorem xq(hc:X.calm=true):bH X (.builtin "max") (fun xs H Q=>∃ i j,xs=[.int i,.int j]/\Q (.int (if j>i then j else i)) H):=by
 intro pins s σ H xs us Q I r h;obtain⟨i,j,rfl,q⟩:=h;obtain⟨u,w',rfl,⟨t,rfl⟩,⟨t',rfl⟩⟩:=vals2 r;refine max_two_ints (I.ok.hd hc) fun h' tk k=>⟨_,H,I.kept k,?_,q⟩
 by_cases hj:j>i
 ·rw[if_pos hj,if_pos hj];exact⟨_,rfl⟩
 ·rw[if_neg hj,if_neg hj];exact⟨_,rfl⟩
theorem wZ(hc:X.calm=true):bH X (.builtin "min") (fun xs H Q=>∃ i j,xs=[.int i,.int j]/\Q (.int (if j<i then j else i)) H):=by
 intro pins s σ H xs us Q I r h;obtain⟨i,j,rfl,q⟩:=h;obtain⟨u,w',rfl,⟨t,rfl⟩,⟨t',rfl⟩⟩:=vals2 r;refine min_two_ints (I.ok.hd hc) fun h' tk k=>⟨_,H,I.kept k,?_,q⟩
 by_cases hj:j<i
 ·rw[if_pos hj,if_pos hj];exact⟨_,rfl⟩
 ·rw[if_neg hj,if_neg hj];exact⟨_,rfl⟩
theorem n8:bH X (.type "int") (fun xs H Q=>(∃ i,xs=[.int i]/\Q (.int i) H)\/∃ k,xs=[.bl k]/\Q (.int (if k then 1 else 0)) H):=by
 intro pins s σ H xs us Q I r h;rcases h with⟨i,rfl,q⟩ | ⟨k,rfl,q⟩
 ·obtain⟨u,rfl,t,rfl⟩:=vals1 r
  exact call_int_int ⟨.int i,H,I,⟨_,rfl⟩,q⟩
 ·obtain⟨u,rfl,r1⟩:=vals1 r
  cases r1;exact call_int_bool ⟨.int (if k then 1 else 0),H,I.tok _,⟨_,rfl⟩,q⟩
end
end L2
namespace L2
open PySem PySem.Spec PyProof.Rows
section
variable {prog:Program} {w:World} {A:Around} {E:Value->Shared->Prop} {s:Shared} {K:PySem.W.Frag} {x dx C f:Addr} {mA:Str->Option Value} {name:Str} {v:Value}
end
theorem Hq.some_of{v:V}{o:Option Value}(r:Hq (some v) o):∃ u,o=some u/\RelV v u:=by
 cases o with
 | none=>exact(show False from r).elim
 | some u=>exact⟨u,rfl,r⟩
section
variable {P:Program} {w:World} {H H':Hp} {h h':Heap} {a C dx:Addr} {fs fs':List (Str×V)}
end
section
variable {X:Cx} {pins:List (Addr×Obj)} {σ:St} {H:Hp} {s:Shared} {a C dx:Addr} {fs:List (Str×V)} {f:Str} {v:V} {A:Around} {E:Value->Shared->Prop}
end
section
variable {X:Cx} {o e value:Expr} {f:Str} {pos pos' tpos:Pos} {ta tv:TE}
end
section
variable {X:Cx} {pins:List (Addr×Obj)} {σ:St} {H:Hp} {s:Shared} {A:Around} {E:Value->Shared->Prop} {Q:Value->Shared->Prop} {c:Value} {b:Bool}
end
end L2
namespace L2
open PySem PySem.Spec PyProof.Rows
structure Room (k:Nat) (A:Around):Prop where
 hd:A.handled=none
 dp:A.depth+3*k+5<recursionLimit
 un:A.units+16*k+200<cLine
theorem Room.deeper{k:Nat}{A:Around}(r:Room (k+1) A)(env:Env):Room k (A.deeper env) :=
 ⟨r.hd,by have:=r.dp;show A.depth+1+3*k+5<_;omega,by have:=r.un;show A.units+3+16*k+200<_;omega⟩
theorem Room.depth{k:Nat}{A:Around}(r:Room k A):A.depth<recursionLimit:=by have:=r.dp;omega
theorem Room.units{k:Nat}{A:Around}(r:Room k A):A.units+64<cLine:=by have:=r.un;omega
def Qq:TA:=fun _ H Q=>Q [] H
def HF(ta:TE)(tr:TA):TA:=fun σ H Q=>ta σ H fun x H1=>tr σ H1 fun xs H2=>Q (x::xs) H2
section
variable {X:Cx} {e:Expr} {es:List Expr} {te:TE} {t:TA} {pos:Pos}
theorem bO:PA X [] Qq:=fun _ _ _ _ H Q I h=>Calls.spliced_nil ⟨[],H,I,.nil,h⟩
theorem aV(ha:PE X e te)(hr:PA X es t)(hs:starEach (e::es) X.env=(false,eval e X.env)::starEach es X.env:=by rfl):PA X (e::es) (HF te t):=by
 intro pos pins s σ H Q I h;rw[hs];show wpAny _ _ (spliced ((false,eval e X.env)::backTo pos (starEach es X.env))) _ _ s;refine Calls.spliced_cons (thn (ha pins s σ H _ I h) fun u s1 ⟨x,H1,I1,r1,q1⟩=>?_);exact thn (hr pos pins s1 σ H1 _ I1 q1) fun us s2 ⟨xs,H2,I2,r2,q2⟩=>⟨x::xs,H2,I2,.cons r1 r2,q2⟩
def RZ(t:TA):TE:=fun σ H Q=>t σ H fun xs H1=>xs.length<=sizeLine/\∀ p,H1 p=none->Q (.ref p) (upd H1 p (.tup xs))
def R6(t:TA):TE:=fun σ H Q=>t σ H fun xs H1=>xs.length<=sizeLine/\∀ p,H1 p=none->Q (.ref p) (upd H1 p (.lst xs))
theorem Jh{x1}(h:PA X es t):PE X (.Tuple es x1 pos) (RZ t):=by
 intro pins s σ H Q I hq;refine wpAny_Tuple_spliced (thn (h pos pins s σ H _ I hq) fun us s1 ⟨xs,H1,I1,r,z,q⟩=>⟨by rw[<- r.length];exact z,?_⟩);have hf:H1 s1.heap.objs.size=none:=I1.hok.fresh (Nat.le_refl _);refine⟨.ref s1.heap.objs.size,upd H1 s1.heap.objs.size (.tup xs),I1.laid (t':=s1.toks) (fun b u e=>Heap.get?_push_of_some _ e) (Nat.le_refl _) ?_,rfl,q _ hf⟩;exact⟨z,us,r,⟨_,Heap.get?_push_size _ rfl,rfl,_,rfl⟩⟩
theorem Br(h:PA X es t):PE X (.List es pos) (R6 t):=by
 intro pins s σ H Q I hq;refine wpAny_List_spliced (thn (h pos pins s σ H _ I hq) fun us s1 ⟨xs,H1,I1,r,z,q⟩=>⟨by rw[<- r.length];exact z,?_⟩);have hf:H1 s1.heap.objs.size=none:=I1.hok.fresh (Nat.le_refl _);refine⟨.ref s1.heap.objs.size,upd H1 s1.heap.objs.size (.lst xs),I1.laid (t':=s1.toks) (fun b u e=>Heap.get?_push_of_some _ e) (Nat.le_refl _) ?_,rfl,q _ hf⟩;exact⟨z,us,0,r,Heap.get?_push_size _ rfl⟩
end
abbrev Sp:=List V->Hp->VK->XK->Prop
abbrev CXT:=List Env->Hp->Shared->XK->Value->Shared->Prop
structure Env0 (P:Program) (w:World) (K:PySem.W.Frag) (mg:Str->Option Value) (base:Heap) (A:Around) (outer:List Env) (s:Shared) (H:Hp):Prop where
 frames:A.frames=some outer
 mod:Mod K mg base
 bs:∀ b o,base.get? b=some o->s.heap.get? b=some o/\H b=none
 bsz:base.objs.size<=s.heap.objs.size
 funs:s.heap.FunFrames base outer
 frf:∀ b∈frs outer,H b=none
 hok:HOk P w H s.heap
 bare:AllBare s.gens
def CE(outer:List Env)(P:Program)(w:World)(H:Hp)(s:Shared)(Q:VK)(u:Value)(s':Shared):Prop :=
 ∃ v H',s'.os=s.os/\AllBare s'.gens/\Un (frs outer) [] H H' s.heap s'.heap/\HOk P w H' s'.heap/\RelV v u/\Q v H'
def CR(CX:CXT)(outer:List Env)(P:Program)(w:World)(H:Hp)(s:Shared)(Q:VK)(E:XK)(r:Result)(s':Shared):Prop :=
 match r with
 | .ok (.ret u)=>CE outer P w H s Q u s'
 | .ok _=>False
 | .error e=>CX outer H s E e s'
structure FnOk (P:Program) (w:World) (K:PySem.W.Frag) (mg:Str->Option Value) (base:Heap) (CX:CXT) (k:Nat) (f:Addr) (fd:FuncData) (ps:List Str) (sp:Sp):Prop where
 len:∀ vs H Q E,sp vs H Q E->vs.length=ps.length
 run:∀ (A:Around) (outer:List Env) (s:Shared) (H:Hp) (args:Args) (us:List Value) (vs:List V) (Q:VK) (E:XK),Room k A->Env0 P w K mg base A outer s H->BindsTo s fd args (ps.zip us)->Vals vs us->sp vs H Q E ->
  codeAny (model P w) A (.call (.ref f) args) (CR CX outer P w H s Q E) s
theorem FnOk.imp{P:Program}{w:World}{K:PySem.W.Frag}{mg:Str->Option Value}{base:Heap}{CX:CXT}{k:Nat}{f:Addr}{fd:FuncData}{ps:List Str}{sp sp':Sp}(F:FnOk P w K mg base CX k f fd ps sp)
  (h:∀ vs H Q E,sp' vs H Q E->sp vs H Q E):FnOk P w K mg base CX k f fd ps sp' :=
 ⟨fun vs H Q E q=>F.len vs H Q E (h _ _ _ _ q),fun A outer s H args us vs Q E hr he hb hv hs=>F.run A outer s H args us vs Q E hr he hb hv (h _ _ _ _ hs)⟩
section
variable {X:Cx} {pins:List (Addr×Obj)} {σ:St} {H:Hp} {s s':Shared}
theorem Inv.env0(I:Inv X pins σ H s):Env0 X.prog X.w X.K X.mg X.base X.A X.stack s H :=
 ⟨I.ok.frames,I.ok.mod,I.bs,Nat.le_trans I.ok.bsz I.sz,I.stack,I.stkFree,I.hok,I.bare⟩
theorem Inv.after{Q:VK}{u:Value}(I:Inv X pins σ H s)(h:CE X.stack X.prog X.w H s Q u s'):EP X pins σ Q u s':=by
 obtain⟨v,H',os,bare,un,hok,r,q⟩:=h;obtain⟨hh,g,d,t,os'⟩:=s';obtain rfl:os'=s.os:=os;exact⟨v,H',I.call (h':=hh) (g':=g) (d':=d) (t':=t) (ch:=[]) un hok bare (fun b z=>absurd z (by simp)),r,q⟩
end
def Lh(sp:Sp)(dvs:List V)(E:XK)(t:TA):TE:=fun σ H Q=>t σ H fun vs H1=>sp (vs++dvs) H1 Q E
def Binds(K:PySem.W.Frag)(fd:FuncData)(ps:List Str)(ds:List Value):Prop :=
 ∀ (s:Shared) (us:List Value),K.In s.heap->(us++ds).length=ps.length->BindsTo s fd ⟨us,[]⟩ (ps.zip (us++ds))
theorem Binds.all{K:PySem.W.Frag}{fd:FuncData}{ps:List Str}(h:∀ us:List Value,us.length=ps.length->bindArgs fd ⟨us,[]⟩=pure (ps.zip us)):Binds K fd ps []:=fun s us _ hl=>by
 rw[List.append_nil] at hl ⊢;exact .of_eq (h us hl)
def Passes(CX:CXT)(X:Cx)(E:XK):Prop:=∀ (pins:List (Addr×Obj)) (σ:St) (H:Hp) (s:Shared) (e:Value) (s':Shared),Inv X pins σ H s->CX X.stack H s E e s'->X.xe e s'
section
variable {X:Cx} {CX:CXT} {k:Nat} {f C:Addr} {fd:FuncData} {ps:List Str} {sp:Sp} {dvs:List V} {ds:List Value} {E:XK} {x m:Str} {p pos apos:Pos} {e o:Expr} {es:List Expr} {ta:TE} {t:TA}
theorem Io{pins:List (Addr×Obj)}{σ:St}{H:Hp}{s:Shared}{Q:VK}{us:List Value}{vs:List V}(F:FnOk X.prog X.w X.K X.mg X.base CX k f fd ps sp)(hr:Room k X.A)(hb:Binds X.K fd ps ds)(hd:Vals dvs ds)(hx:Passes CX X E)
  (I:Inv X pins σ H s) (r:Vals vs us) (h:sp (vs++dvs) H Q E):wpAny (model X.prog X.w) X.A (call (.ref f) us) (EP X pins σ Q) X.xe s:=by
 have r2:Vals (vs++dvs) (us++ds):=r.append hd
 have hl:(us++ds).length=ps.length:=by rw[<- r2.length];exact F.len _ _ _ _ h
 refine wpAny_call (codeAny_mono (F.run X.A X.stack s H ⟨us,[]⟩ (us++ds) (vs++dvs) Q E hr I.env0 (hb s us I.kIn hl) r2 h) fun r s' hq=>?_)
 cases r with
 | error e=>exact hx pins σ H s e s' I hq
 | ok fl =>
  cases fl with
  | ret u=>exact I.after hq
  | next=>exact False.elim hq
  | brk=>exact False.elim hq
  | cont=>exact False.elim hq
theorem Ei(F:FnOk X.prog X.w X.K X.mg X.base CX k f fd ps sp)(hr:Room k X.A)(hg:Gl X x)(hm:X.mg x=some (.ref f))(hk:PySem.W.keepIn X.K (.ref f)=true)(hb:Binds X.K fd ps ds)(hd:Vals dvs ds)(hx:Passes CX X E)
  (ha:PA X (e::es) t) (hdb:(x==("__debug__":Str))=false:=by decide) (he:starEach (e::es) X.env=(false,eval e X.env)::starEach es X.env:=by rfl) (hpl:(backTo pos (starEach es X.env)).any (·.1)=false:=by rfl) :
  PE X (.Call (.Name x p) (e::es) [] pos) (Lh sp dvs E t):=by
 intro pins s σ H Q I h;refine wpAny_Call_Name_kw (jq I hg hm ?_ hdb);refine PySem.W.callWith_K (h₀:=X.base) I.ok.mod.kin hk (thn (ha pos pins s σ H _ I h) fun us s1 ⟨vs,H1,I1,r,q⟩=>⟨I1.kIn,?_⟩) he hpl;exact Io F hr hb hd hx I1 r q
end
section
variable {X:Cx} {CX:CXT} {k:Nat} {f C:Addr} {fd:FuncData} {ps ks:List Str} {sp:Sp} {E:XK} {x m:Str} {p pos apos kpos:Pos} {e o:Expr} {es:List Expr} {kws:List Keyword} {te ta:TE} {t tk:TA} {nm:Option Str}
variable {g:List Value->List Value->List Value} {gV:List V->List V->List V}
end
structure FnScope (N P:List Str) (sc:Scope):Prop where
 kind:sc.kind=.function
 co:sc.isCoroutine=false
 gen:sc.isGenerator=false
 nd:N.Nodup
 pre:N.take P.length=P
 par:∀ x∈P,sc.names.lookup x=some .local\/sc.names.lookup x=some .cell
 nofree:∀ y∈sc.names,y.2≠.free
theorem oE{kindOf:Str->Option NameKind}{x:Str}:∀ {binds:List (Str×Value)} {m:Str->Option Value},(∀ v,(x,v)∉binds)->bindL kindOf binds m x=m x
 | [],_,_=>rfl
 | (n,v)::r,m,h=>by
  unfold bindL;rw[oE fun w hw=>h w (List.mem_cons_of_mem _ hw)];split
  ·have:x≠n:=by rintro rfl;exact h v List.mem_cons_self
   simp[this]
  ·rfl
theorem oG{kindOf:Str->Option NameKind}{x:Str}:∀ {binds:List (Str×Value)} {m:Str->Option Value},(∀ v,(x,v)∉binds)->bindC kindOf binds m x=m x
 | [],_,_=>rfl
 | (n,v)::r,m,h=>by
  unfold bindC;rw[oG fun w hw=>h w (List.mem_cons_of_mem _ hw)];split
  ·rfl
  ·have:x≠n:=by rintro rfl;exact h v List.mem_cons_self
   simp[this]
theorem oF{kindOf:Str->Option NameKind}{x:Str}{v:Value}:∀ {P:List Str} {vs:List Value} {i:Nat} {m:Str->Option Value},P.Nodup->P[i]?=some x->vs[i]?=some v->kindOf x=some .local ->
  bindL kindOf (P.zip vs) m x=some v
 | [],_,_,_,_,h,_,_=>by simp at h
 | _::_,[],_,_,_,_,h,_=>by simp at h
 | p::P,w::vs,0,m,nd,h1,h2,hk=>by
  simp at h1 h2;subst h1;subst h2
  show bindL kindOf ((p,w)::P.zip vs) m p=_;unfold bindL;rw[oE fun v hv=>(List.nodup_cons.mp nd).1 (List.of_mem_zip hv).1,if_pos hk];simp
 | p::P,w::vs,i+1,m,nd,h1,h2,hk=>by
  show bindL kindOf ((p,w)::P.zip vs) m x=_;unfold bindL;exact oF (i:=i) (List.nodup_cons.mp nd).2 (by simpa using h1) (by simpa using h2) hk
theorem oH{kindOf:Str->Option NameKind}{x:Str}{v:Value}:∀ {P:List Str} {vs:List Value} {i:Nat} {m:Str->Option Value},P.Nodup->P[i]?=some x->vs[i]?=some v->kindOf x≠some .local ->
  bindC kindOf (P.zip vs) m x=some v
 | [],_,_,_,_,h,_,_=>by simp at h
 | _::_,[],_,_,_,_,h,_=>by simp at h
 | p::P,w::vs,0,m,nd,h1,h2,hk=>by
  simp at h1 h2;subst h1;subst h2
  show bindC kindOf ((p,w)::P.zip vs) m p=_;unfold bindC;rw[oG fun v hv=>(List.nodup_cons.mp nd).1 (List.of_mem_zip hv).1,if_neg hk];simp
 | p::P,w::vs,i+1,m,nd,h1,h2,hk=>by
  show bindC kindOf ((p,w)::P.zip vs) m x=_;unfold bindC;exact oH (i:=i) (List.nodup_cons.mp nd).2 (by simpa using h1) (by simpa using h2) hk
def start(N:List Str)(vs:List V):St:=vs.map some++List.replicate (N.length-vs.length) none
def gK(CX:CXT)(P:Program)(w:World)(K:PySem.W.Frag)(mg:Str->Option Value)(base:Heap)(N:List Str)(qual:Str)(scope:Scope)(f:Addr)(cd:Value)(A:Around)(outer:List Env)(s:Shared)(H:Hp)(E:XK):Cx where
 prog:=P
 w:=w
 K:=K
 mg:=mg
 base:=base
 A:=A.deeper (envOfC qual scope s.heap.objs.size f cd)
 N:=N
 s₀:=s
 H₀:=H
 env:=envOfC qual scope s.heap.objs.size f cd
 outer:=outer
 stack:=envOfC qual scope s.heap.objs.size f cd::outer
 ex:=[]
 calm:=true
 fn:=fun _=>true
 pn:=[]
 xe:=fun e s'=>wpAny (model P w) (A.deeper (envOfC qual scope s.heap.objs.size f cd)) (leaving (envOfC qual scope s.heap.objs.size f cd) e) (fun _ s''=>CX outer H s E e s'') (fun e' s''=>CX outer H s E e' s'') s'
theorem rC{sc:Scope}{n:Nat}{x:Str}(h:sc.names.lookup x=some .cell):∃ c,(cellsFrom n sc.names []).lookup x=some c:=by
 have q:=PySem.W.cellsFrom_some sc.names n [] (.inl h);exact Option.isSome_iff_exists.mp q
theorem vX{CX:CXT}{P:Program}{w:World}{K:PySem.W.Frag}{mg:Str->Option Value}{base:Heap}{N ps:List Str}{qual:Str}{scope:Scope}{f:Addr}{cd:Value}{A:Around}{outer:List Env}{s s1:Shared}{H:Hp}{E:XK}{us:List Value}{vs:List V}
  (S:FnScope N ps scope) (hd:A.handled=none) (e0:Env0 P w K mg base A outer s H) (hl:vs.length=ps.length) (r:Vals vs us)
  (x:InCallC s s.heap.objs.size (bindL (envOfC qual scope s.heap.objs.size f cd).kindOf (ps.zip us) fun _=>none) (cellsFrom (s.heap.objs.size+1) scope.names []) (bindC (envOfC qual scope s.heap.objs.size f cd).kindOf (ps.zip us) fun _=>none) s1) :
  Inv (gK CX P w K mg base N qual scope f cd A outer s H E) [] (start N vs) H s1:=by
 have hpl:ps.length<=N.length:=by have:=congrArg List.length S.pre;rw[List.length_take] at this;omega
 obtain⟨h1,tk,rfl,hk⟩:=x.done;have noA:∀ b:Addr,b∉(gK CX P w K mg base N qual scope f cd A outer s H E).ex:=fun b z=>absurd (show b∈([]:List Addr) from z) (by simp)
 refine⟨⟨e0.mod,S.kind,rfl,rfl,Nat.le_refl _,fun y z c h1 h2=>?_,fun y hy=>?_,fun y c _ h=>?_,fun _=>hd,Around.frames_deeper e0.frames,.inr ⟨rfl,rfl⟩,fun b z=>absurd z (noA b),e0.bs,e0.bsz,fun b _ _=>noA b,fun b z=>absurd z (noA b),e0.funs,e0.frf⟩,
  rfl,e0.bare,Un.kept hk,⟨_,x.toInCall.ns,fun i y v h1 h2 h3=>?_⟩,fun y c h=>⟨_,x.cell y c h⟩,e0.hok.fresh (Nat.le_refl _),fun y c h=>?_,fun p hp=>absurd (show p∈([]:List (Addr×Obj)) from hp) (by simp),e0.hok.kept hk,?_⟩
 ·exact name_of_addr x.apart (PySem.mem_of_lookup h1) (PySem.mem_of_lookup h2)
 ·have hy:scope.names.lookup y=some .cell\/scope.names.lookup y=some .free:=hy
  rcases hy with hy | hy
  ·exact rC hy
  ·exact absurd rfl (S.nofree _ (PySem.mem_of_lookup hy))
 ·exact Nat.le_of_lt (x.above y c (PySem.mem_of_lookup h))
 ·have hi:i<vs.length:=by
   unfold start at h2
   by_cases hi:i<vs.length
   ·exact hi
   ·rw[List.getElem?_append_right (by simpa using hi)] at h2
    rw[List.getElem?_replicate] at h2
    split at h2<;>cases h2
  have ha:vs[i]?=some v:=by
   unfold start at h2;rw[List.getElem?_append_left (by simpa using hi),List.getElem?_map] at h2
   cases e:vs[i]? with
   | none=>rw[e] at h2;cases h2
   | some a=>rw[e] at h2;cases h2;rfl
  obtain⟨u,hu,rv⟩:=r.get ha
  have hp:ps[i]?=some y:=by
   rw[<- S.pre,List.getElem?_take_of_lt (by omega)];exact h1
  have ndP:ps.Nodup:=by rw[<- S.pre];exact S.nd.sublist (List.take_sublist _ _)
  refine⟨u,rv,?_⟩;rcases S.par y (List.mem_of_getElem? hp) with k | k
  ·exact .inl ⟨k,oF ndP hp hu k⟩
  ·obtain⟨c,e⟩:=rC (n:=s.heap.objs.size+1) k
   refine .inr ⟨.inl k,c,e,?_⟩;have q:=x.cell y c e;rw[oH ndP hp hu (by show scope.names.lookup y≠_;rw[k];decide)] at q;exact q
 ·exact e0.hok.fresh (Nat.le_of_lt (x.above y c (PySem.mem_of_lookup h)))
 ·unfold start
  show _=N.length;rw[List.length_append,List.length_map,List.length_replicate];omega
theorem Qf{CX:CXT}{P:Program}{w:World}{K:PySem.W.Frag}{mg:Str->Option Value}{base:Heap}{k:Nat}{f:Addr}{name qual:Str}{params:Arguments}{body:List Stmt}{scope:Scope}{dV kV doc pm cdv ct oc:Value}{an od:Option Addr}
  {osl:Array (Option Value)} {N ps:List Str} {sp:Sp} (lk:K.lookup f=some ⟨oc,od,.func (PySem.W.fnOf name qual params body scope dV kV doc pm an cdv ct),osl⟩) (hcd:PySem.W.codeIn K cdv qual=true) (S:FnScope N ps scope)
  (len:∀ vs H Q E,sp vs H Q E->vs.length=ps.length)
  (hbody : ∀ (A : Around) (outer : List Env) (s : Shared) (H : Hp) (vs : List V) (Q : VK) (E : XK), Room k (A.deeper (envOfC qual scope s.heap.objs.size f cdv)) -> sp vs H Q E ->
   ∃ t,PSs (gK CX P w K mg base N qual scope f cdv A outer s H E) body t/\t { nx:=fun _ H'=>Q .non H',rt:=Q } (start N vs) H) :
  FnOk P w K mg base CX (k+1) f (PySem.W.fnOf name qual params body scope dV kV doc pm an cdv ct) ps sp:=by
 refine⟨len,fun A outer s H args us vs Q E hr e0 hb r hsp=>?_⟩;have hl:=len _ _ _ _ hsp;have KX:K.In s.heap:=e0.mod.kin.keeps fun b o e=>(e0.bs b o e).1;have lim:s.heap.NoLimit:=e0.mod.nolimit.keeps fun b o e=>(e0.bs b o e).1
 have hkind:∀ y∈ps.zip us,scope.names.lookup y.1=some .local\/(scope.names.lookup y.1=some .cell/\((cellsFrom (s.heap.objs.size+1) scope.names []).lookup y.1).isSome=true):=fun⟨n,v⟩ hy=>by
  rcases S.par n (List.of_mem_zip hy).1 with q | q
  ·exact .inl q
  ·exact .inr ⟨q,PySem.W.cellsFrom_some _ _ _ (.inl q)⟩
 refine codeAny_call_function hr.depth (KX _ _ lk) rfl S.co S.gen rfl (PySem.W.codeRec_of KX hcd) (hb _ _ _ _ ?_);refine wpAny_newFunctionEnv_cells S.kind hkind fun env he s1 x=>?_;subst he;refine⟨lim.keeps x.toInCall.keep,codeAny_func ?_⟩;obtain⟨t,ht,hq⟩:=hbody A outer s H vs Q E (hr.deeper _) hsp;have I:Inv (gK CX P w K mg base N qual scope f cdv A outer s H E) [] (start N vs) H s1:=vX S hr.hd e0 hl r x;refine wpAny_mono (ht [] s1 (start N vs) H _ I hq) (fun fl s' hs=>?_) fun e s' hs=>hs
 have fin:∀ {σ':St} {H':Hp} {v:V} {u:Value},Inv (gK CX P w K mg base N qual scope f cdv A outer s H E) [] σ' H' s'->RelV v u->Q v H'->CE outer P w H s Q u s' :=
  fun {σ' H' v u} J rv q=>⟨v,H',J.os,J.bare,J.base,J.hok,rv,q⟩
 cases fl with
 | ret u =>
  obtain⟨v,σ',H',J,rv,q⟩:=hs;exact fin J rv q
 | next =>
  obtain⟨σ',H',J,q⟩:=hs;exact fin (v:=V.non) (u:=Value.none) J rfl q
 | brk =>
  obtain⟨_,_,_,q⟩:=hs;exact False.elim q
 | cont =>
  obtain⟨_,_,_,q⟩:=hs;exact False.elim q
end L2
namespace L2
open PySem PySem.Spec PyProof.Rows
section
variable {X:Cx} {x:Str} {p pos:Pos} {e:Expr} {es:List Expr} {t:TA} {id T:String} {r:List V->Hp->VK->Prop}
def tCB(r:List V->Hp->VK->Prop)(t:TA):TE:=fun σ H Q=>t σ H fun vs H1=>r vs H1 Q
theorem lD(hc:bH X (.builtin id) r)(hg:Gl X x)(hm:X.mg x=none)(hv:bootBuiltins x=some (.builtin id))(ha:PA X (e::es) t)(hn:x≠"__name__":=by decide)(hdb:(x==("__debug__":Str))=false:=by decide)
  (he:starEach (e::es) X.env=(false,eval e X.env)::starEach es X.env:=by rfl) (hpl:(backTo pos (starEach es X.env)).any (·.1)=false:=by rfl):PE X (.Call (.Name x p) (e::es) [] pos) (tCB r t):=by
 intro pins s σ H Q I h;refine wpAny_Call_Name_kw (cQ I hg hm hv ?_ hn hdb);exact PyProof.Rows.callWith_builtin1 (thn (ha pos pins s σ H _ I h) fun us s1 ⟨vs,H1,I1,r1,q1⟩=>hc pins s1 σ H1 vs us Q I1 r1 q1) he hpl
theorem nq(hc:bH X (.type T) r)(hg:Gl X x)(hm:X.mg x=none)(hv:bootBuiltins x=some (.type T))(ha:PA X (e::es) t)(hn:x≠"__name__":=by decide)(hdb:(x==("__debug__":Str))=false:=by decide)
  (he:starEach (e::es) X.env=(false,eval e X.env)::starEach es X.env:=by rfl) (hpl:(backTo pos (starEach es X.env)).any (·.1)=false:=by rfl):PE X (.Call (.Name x p) (e::es) [] pos) (tCB r t):=by
 intro pins s σ H Q I h;refine wpAny_Call_Name_kw (cQ I hg hm hv ?_ hn hdb);exact PyProof.Rows.callWith_type1 (thn (ha pos pins s σ H _ I h) fun us s1 ⟨vs,H1,I1,r1,q1⟩=>hc pins s1 σ H1 vs us Q I1 r1 q1) he hpl
end
end L2
namespace HT
open PySem PyProof.Rows
section
open PySem.SeqAt
open PySem.AutoSeq1 (wpAny_loadPart')
open PySem.MeetsSeq PySem.MeetsSeq2 PySem.MeetsSeq3
end
section
variable {prog:Program} {w:World} {A:Around} {E:Value->Shared->Prop} {s:Shared}
theorem GR{t b:Addr}{vs ws:List Value}{Q:Value->Shared->Prop}(ht:IsTup s.heap t vs.toArray)(hb:IsTup s.heap b ws.toArray)(hv:vs≠[])
  (h1:ws=[]->Q (.ref t) s) (h2:ws≠[]->Q (.ref s.heap.objs.size) { s with heap:=s.heap.push { cls:=.type "tuple",data:=.seq (vs++ws).toArray } })
  (hsz:vs.length+ws.length<=sizeLine):wpAny (model prog w) A (binaryOp .Add (.ref t) (.ref b)) Q E s:=by
 obtain⟨⟨cls,dd,data,sl⟩,ho,hc,n,hd⟩:=id ht;obtain⟨⟨cls2,dd2,data2,sl2⟩,ho2,hc2,n2,hd2⟩:=id hb;simp only at hc hd hc2 hd2;subst hc hd hc2 hd2
 have e:vs.toArray++ws.toArray=(vs++ws).toArray:=by simp
 by_cases hw:ws=[]
 ·exact concat_meets ⟨_,ho,rfl⟩ ⟨_,ho2,rfl⟩ noFill_tuple_add seq_tuple_add PySem.F.slot_tuple_add PySem.F.entry_tuple_add (PySem.F.args_tuple_add_2 _ _)
   (tuple_addW1 t b vs.toArray ws.toArray n n2 dd dd2 sl sl2 (by simpa using hv) (by simp[hw])) ⟨ho,ho2,h1 hw⟩
 ·refine concat_meets ⟨_,ho,rfl⟩ ⟨_,ho2,rfl⟩ noFill_tuple_add seq_tuple_add PySem.F.slot_tuple_add PySem.F.entry_tuple_add (PySem.F.args_tuple_add_2 _ _)
   (tuple_addW2 t b vs.toArray ws.toArray n n2 dd dd2 sl sl2 (by simpa using hv) (by simpa using hw) (by rw[List.size_toArray,List.size_toArray];exact hsz)) ⟨ho,ho2,?_⟩
  rw[e];exact h2 hw
def sIx(n d:Nat):Option Int->Nat
 | none=>d
 | some v=>if v<0 then(v+(n:Int)).toNat else min v.toNat n
theorem Im(n d:Nat)(hd:d<=n)(o:Option Int):sIx n d o<=n:=by
 cases o with
 | none=>exact hd
 | some v =>
  show(if v<0 then(v+(n:Int)).toNat else min v.toNat n)<=n
  by_cases hv:v<0
  ·rw[if_pos hv];omega
  ·rw[if_neg hv];exact Nat.min_le_right _ _
theorem wO(v:Int)(n d:Nat):(if v<0 then max (v+(n:Int)) 0 else min v (n:Int))=((sIx n d (some v):Nat):Int):=by
 show(if v<0 then max (v+(n:Int)) 0 else min v (n:Int))=(((if v<0 then(v+(n:Int)).toNat else min v.toNat n):Nat):Int)
 by_cases hv:v<0
 ·simp only[if_pos hv];omega
 ·simp only[if_neg hv];omega
theorem tQ(lo hi:Option Int)(n:Nat):Builtin.Slice.sliceAdjust lo hi 1 (n:Int)=(((sIx n 0 lo:Nat):Int),((sIx n n hi:Nat):Int)):=by
 have h1:¬ ((1:Int)<0):=by omega
 unfold Builtin.Slice.sliceAdjust;simp only[h1,if_false];refine Prod.ext ?_ ?_
 ·cases lo with
  | none=>rfl
  | some v=>exact wO v n 0
 ·cases hi with
  | none=>rfl
  | some v=>exact wO v n n
theorem sJ(i j:Nat):Builtin.Slice.slicePlaces (i:Int) (j:Int) 1=j-i:=by
 unfold Builtin.Slice.slicePlaces
 have h1:(1:Int)>0:=by omega
 simp only[h1,if_true,Int.ediv_one]
 split<;>omega
theorem jR{v:Value}{o:Option Int}{Q:Option Int->Shared->Prop}(p:IsPart v o)(h:Q o s):wpAny (model prog w) A (Builtin.Slice.slicePartIndex v) Q E s:=by
 cases p with
 | none=>exact slicePart_none h
 | int i t=>exact slicePart_int h
theorem d8{sl:Addr}{vl vu:Value}{lo hi:Option Int}{n:Nat}{Q:Int×Int×Nat->Shared->Prop}(hs:s.heap.IsSliceOf sl vl vu .none)(pl:IsPart vl lo)(pu:IsPart vu hi)
  (h:Q (((sIx n 0 lo:Nat):Int),1,sIx n n hi-sIx n 0 lo) s):wpAny (model prog w) A (Builtin.Slice.sliceApplied (.ref sl) (pure (n:Int))) Q E s:=by
 obtain⟨os,hos,hcs,hds⟩:=id hs;unfold Builtin.Slice.sliceApplied Builtin.Slice.sliceFields;refine wpAny_bind (wpAny_bind (wpAny_field hos hds (x:=vl) rfl (wpAny_bind (wpAny_field hos hds (x:=vu) rfl (wpAny_bind (wpAny_field hos hds (x:=.none) rfl (wpAny_pure ?_)))))));refine wpAny_bind (slicePart_none ?_);show wpAny _ _ (if((1:Int)==0)=true then _ else _) _ _ s;rw[if_neg (by decide)];refine wpAny_bind (jR pl (wpAny_bind (jR pu (wpAny_bind (wpAny_pure ?_)))));show wpAny _ _ (match Builtin.Slice.sliceAdjust lo hi 1 (n:Int) with | (lo,hi)=>pure (lo,(1:Int),Builtin.Slice.slicePlaces lo hi 1)) _ _ s;rw[tQ lo hi n];show wpAny _ _ (pure (((sIx n 0 lo:Nat):Int),(1:Int),Builtin.Slice.slicePlaces ((sIx n 0 lo:Nat):Int) ((sIx n n hi:Nat):Int) 1)) _ _ s;rw[sJ];exact wpAny_pure h
theorem yQ(xs:Array Value)(i k:Nat):((List.range k).filterMap fun(m:Nat)=>xs[((i:Int)+(m:Int)*1).toNat]?).toArray=((xs.toList.drop i).take k).toArray:=by
 have e:(fun(m:Nat)=>xs[((i:Int)+(m:Int)*1).toNat]?)=fun m=>xs[i+m]?:=by
  funext m
  have:((i:Int)+(m:Int)*1).toNat=i+m:=by omega
  rw[this]
 rw[e];have:=pick_run xs i k;rw[List.filterMap_map] at this;have e2:((fun x=>xs[x]?)∘fun x=>i+x)=fun m=>xs[i+m]?:=rfl;rw[e2] at this;rw[this]
theorem gG{t sl:Addr}{items:Array Value}{vl vu:Value}{lo hi:Option Int}{Q:Value->Shared->Prop}(ht:IsTup s.heap t items)(hs:s.heap.IsSliceOf sl vl vu .none)(pl:IsPart vl lo)(pu:IsPart vu hi)
  (hw:¬ (sIx items.size 0 lo=0/\sIx items.size items.size hi=items.size))
  (h:Q (.ref s.heap.objs.size) { s with heap:=s.heap.push { cls:=.type "tuple",data:=.seq ((items.toList.drop (sIx items.size 0 lo)).take (sIx items.size items.size hi-sIx items.size 0 lo)).toArray } })
  (hsz:items.size<=sizeLine):wpAny (model prog w) A (getItem (.ref t) (.ref sl)) Q E s:=by
 have htake:sizeOk (.seq ((items.toList.drop (sIx items.size 0 lo)).take (sIx items.size items.size hi-sIx items.size 0 lo)).toArray):=by
  show((items.toList.drop (sIx items.size 0 lo)).take (sIx items.size items.size hi-sIx items.size 0 lo)).toArray.size<=sizeLine;rw[List.size_toArray,List.length_take,List.length_drop,Array.length_toList];omega
 have hj:sIx items.size items.size hi<=items.size:=Im _ _ (Nat.le_refl _) hi;obtain⟨os,hos,hcs,hds⟩:=id hs;have hTs:s.TypeIs (.ref sl) "slice":=⟨os,hos,hcs⟩;unfold getItem
 try with_reducible refine wpAny_holding ?_
 first | refine wpAny_bind (wpAny_pure ?_) | skip
 refine wpAny_bind (wpAny_sequenceKey ht.typeIs (by decide) ?_)
 refine wpAny_bind (wpAny_callSpecial?_slot (name:=Str.ofString "__getitem__") ht.typeIs PyProof.Rows.slot_tuple_getitem
  (wpAny_call_entry PyProof.Rows.slot_tuple_getitem ht.typeIs entry_tuple_getitem ?_ (args_tuple_getitem _ _)))
 show wpAny _ _ (Builtin.Tuple.tupleItemsOf (.ref t) >>=_) _ _ s;refine wpAny_bind (tupleItemsOf_ ht ?_);refine wpAny_bind (wpAny_typeOf hTs ?_);rw[if_pos (by decide)];refine wpAny_bind (d8 hs pl pu ?_)
 have hno:¬ ((((sIx items.size 0 lo:Nat):Int)==0&&(1:Int)==1&&(sIx items.size items.size hi-sIx items.size 0 lo)==items.size)=true):=by
  intro q;rw[Bool.and_eq_true,Bool.and_eq_true] at q;have q1:((sIx items.size 0 lo:Nat):Int)=0:=eq_of_beq q.1.1;have q2:sIx items.size items.size hi-sIx items.size 0 lo=items.size:=eq_of_beq q.2;exact hw ⟨by omega,by omega⟩
 show wpAny _ _ (if(((sIx items.size 0 lo:Nat):Int)==0&&(1:Int)==1&&(sIx items.size items.size hi-sIx items.size 0 lo)==items.size)=true then _ else _) _ _ s;rw[if_neg hno,yQ]
 first
  | exact wpAny_bind (m:=Builtin.Tuple.tupleExact _) (wpAny_newObj_type (wpAny_pure ⟨_,rfl,wpAny_pure h⟩) htake)
  | exact wpAny_bind (m:=Builtin.Tuple.tupleExact _) (wpAny_newObj_type (wpAny_bind (wpAny_pure (wpAny_pure ⟨_,rfl,wpAny_pure h⟩))) htake)
  | exact wpAny_bind (wpAny_bind (m:=Builtin.Tuple.tupleExact _) (wpAny_newObj_type (wpAny_pure (wpAny_pure ⟨_,rfl,wpAny_pure h⟩)) htake))
  | exact wpAny_bind (wpAny_bind (m:=Builtin.Tuple.tupleExact _) (wpAny_newObj_type (wpAny_pure ⟨_,rfl,wpAny_pure h⟩) htake))
end
end HT
namespace L2
open PySem PySem.Spec PyProof.Rows
abbrev TO:=St->Hp->(Option Int->Hp->Prop)->Prop
def PO(X:Cx)(e:Option Expr)(t:TO):Prop :=
  ∀ (pins : List (Addr × Obj)) (s : Shared) (σ : St) (H : Hp) (Q : Option Int -> Hp -> Prop), Inv X pins σ H s -> t σ H Q ->
    wpAny (model X.prog X.w) X.A (evalPart e X.env) (fun u s'=>∃ o H',Inv X pins σ H' s'/\IsPart u o/\Q o H') X.xe s
def CP:TO:=fun _ H Q=>Q none H
def Ld(t:TE):TO:=fun σ H Q=>t σ H fun x H1=>∃ i,x=.int i/\Q (some i) H1
theorem intsAre_of{ns:List Int}:∀ {us:List Value},Vals (ns.map V.int) us->IntsAre us ns:=by
 induction ns with
 | nil=>intro us r;rw[List.map_nil] at r;cases r;exact .nil
 | cons n ns ih =>
  intro us r;rw[List.map_cons] at r
  cases r with
  | cons r1 r2 =>
   obtain⟨t,e⟩:=r1;subst e;exact .cons n t (ih r2)
section
variable {X:Cx} {e:Expr} {te:TE} {lo hi:Option Expr} {tl th:TO} {pos p2:Pos}
theorem DQ:PO X none CP:=by
 intro pins s σ H Q I h;rw[evalPart_none];exact wpAny_pure ⟨none,H,I,.none,h⟩
theorem DP(h:PE X e te):PO X (some e) (Ld te):=by
 intro pins s σ H Q I hw;rw[evalPart_some];refine thn (h pins s σ H _ I hw) fun u s1 ⟨x,H1,I1,r1,q1⟩=>?_;obtain⟨i,rfl,q⟩:=q1;obtain⟨t,rfl⟩:=r1;exact⟨some i,H1,I1,.int i t,q⟩
def SlR(X:Cx)(r:V->Option Int->Option Int->Hp->VK->Prop):Prop :=
  ∀ (pins : List (Addr × Obj)) (s : Shared) (σ : St) (H : Hp) (x : V) (v vl vu : Value) (lo hi : Option Int) (sl : Addr) (Q : VK), Inv X pins σ H s -> RelV x v -> s.heap.IsSliceOf sl vl vu .none -> IsPart vl lo -> IsPart vu hi -> r x lo hi H Q ->
    ∃ T id,typeLookup (.type T) "__getitem__"=pure (some (.builtin id))/\s.TypeIs v T/\wpAny (model X.prog X.w) X.A (getItem v (.ref sl)) (EP X pins σ Q) X.xe s
def tSl(r:V->Option Int->Option Int->Hp->VK->Prop)(te:TE)(tl th:TO):TE:=fun σ H Q=>te σ H fun x H1=>tl σ H1 fun l H2=>th σ H2 fun u H3=>r x l u H3 Q
theorem lA{r:V->Option Int->Option Int->Hp->VK->Prop}(hr:SlR X r)(he:PE X e te)(hl:PO X lo tl)(hu:PO X hi th):PE X (.Subscript e (.Slice lo hi none p2) pos) (tSl r te tl th):=by
 intro pins s σ H Q I h;refine Subscript_ (thn (he pins s σ H _ I h) fun v s1 ⟨x,H1,I1,r1,q1⟩=>?_);refine wpAny_Slice (thn (hl pins s1 σ H1 _ I1 q1) fun vl s2 ⟨l,H2,I2,pl,q2⟩=>thn (hu pins s2 σ H2 _ I2 q2) fun vu s3 ⟨u,H3,I3,pu,q3⟩=>?_);rw[evalPart_none];refine wpAny_pure ?_;have I4:Inv X pins σ H3 { s3 with heap:=s3.heap.push { cls:=.type "slice",data:=.fields #[vl,vu,.none] } }:=I3.kept (t':=s3.toks) fun b ob q=>Heap.get?_push_of_some _ q;obtain⟨T,id,hT,ht,hg⟩:=hr pins { s3 with heap:=s3.heap.push { cls:=.type "slice",data:=.fields #[vl,vu,.none] } } σ H3 x v vl vu l u s3.heap.objs.size Q I4 r1 (Heap.IsSliceOf.new ..) pl pu q3;show wpAny (model X.prog X.w) X.A (subscriptTail e (.Slice lo hi none p2) v (.ref s3.heap.objs.size)) (EP X pins σ Q) X.xe { s3 with heap:=s3.heap.push { cls:=.type "slice",data:=.fields #[vl,vu,.none] } };exact tail_any (ops:=[.ref s3.heap.objs.size,v]) ht hT hg (by with_unfolding_all rfl)
def Ce(xs:List V)(lo hi:Option Int):List V:=(xs.drop (HT.sIx xs.length 0 lo)).take (HT.sIx xs.length xs.length hi-HT.sIx xs.length 0 lo)
theorem jy(xs:List V)(lo hi:Option Int):(Ce xs lo hi).length<=xs.length:=by
 unfold Ce;rw[List.length_take,List.length_drop];omega
def Sh(K:PySem.W.Frag):V->Option Int->Option Int->Hp->VK->Prop:=fun x lo hi H Q=>∃ a xs,x=.ref a/\SqT K H a xs /\
 ¬ (HT.sIx xs.length 0 lo=0/\HT.sIx xs.length xs.length hi=xs.length)/\∀ p,H p=none->Q (.ref p) (upd H p (.tup (Ce xs lo hi)))
theorem Ie:SlR X (Sh X.K):=by
 intro pins s σ H x v vl vu lo hi sl Q I rx hs pl pu h;obtain⟨a,xs,rfl,hx,hw,q⟩:=h;cases rx;obtain⟨its,r,ht,hz⟩:=I.tuple hx
 have hlen:its.toArray.size=xs.length:=by rw[List.size_toArray];exact r.length.symm
 refine⟨"tuple",_,PyProof.Rows.slot_tuple_getitem.lookup,ht.typeIs,?_⟩;refine HT.gG ht hs pl pu (by rw[hlen];exact hw) ?_ (by rw[hlen];exact hz);rw[hlen];refine⟨.ref s.heap.objs.size,_,I.laid (t':=s.toks) (o:=.tup (Ce xs lo hi)) (fun b ob q=>Heap.get?_push_of_some _ q) (Nat.le_refl _) ?_,rfl,q _ (I.hok.fresh (Nat.le_refl _))⟩;exact⟨Nat.le_trans (jy xs lo hi) hz,_,(r.drop (HT.sIx xs.length 0 lo)).take (HT.sIx xs.length xs.length hi-HT.sIx xs.length 0 lo),IsTup.new _ _⟩
def LQ(K:PySem.W.Frag):R2:=fun x y H Q=>∃ a b xs ys,x=.ref a/\y=.ref b/\SqT K H a xs/\SqT K H b ys/\xs≠[]/\xs.length+ys.length<=sizeLine /\
 (ys=[]->Q (.ref a) H)/\(ys≠[]->∀ p,H p=none->Q (.ref p) (upd H p (.tup (xs++ys))))
theorem Vals.nil_iff{xs:List V}{us:List Value}(r:Vals xs us):us=[]↔xs=[]:=by
 cases r with
 | nil=>simp
 | cons _ _=>simp
theorem Es:OpR X (binaryOp .Add) (LQ X.K):=by
 intro pins s σ H x y v u Q I rx ry h;obtain⟨a,b,xs,ys,rfl,rfl,ha,hb,hx,hz,q1,q2⟩:=h;cases rx;cases ry;obtain⟨its,r1,p1,_⟩:=I.tuple ha;obtain⟨its2,r2,p2,_⟩:=I.tuple hb;refine HT.GR p1 p2 (fun z=>hx (r1.nil_iff.mp z)) (fun z=>⟨.ref a,H,I,rfl,q1 (r2.nil_iff.mp z)⟩) (fun z=>?_) (by rw[<- r1.length,<- r2.length];exact hz);refine⟨.ref s.heap.objs.size,_,I.laid (t':=s.toks) (o:=.tup (xs++ys)) (fun b ob q=>Heap.get?_push_of_some _ q) (Nat.le_refl _) ?_,rfl,q2 (fun w=>z (r2.nil_iff.mpr w)) _ (I.hok.fresh (Nat.le_refl _))⟩;exact⟨by rw[List.length_append];exact hz,_,r1.append r2,IsTup.new _ _⟩
end
end L2
namespace L2
open PySem PySem.Spec PyProof.Rows
def ixN(n:Nat)(i:Int):Option Nat:=if 0<=i then(if i<n then some i.toNat else none) else if -(n:Int)<=i then some (i+n).toNat else none
def atI{α:Type}(xs:List α)(i:Int):Option α:=(ixN xs.length i).bind fun j=>xs[j]?
theorem vV{n:Nat}{i:Int}{j:Nat}(h:ixN n i=some j):seqIndex? i n=some j/\j<n /\ -(n:Int)<=i/\i<n:=by
 unfold ixN at h
 by_cases h0:0<=i
 ·rw[if_pos h0] at h
  by_cases h1:i<n
  ·rw[if_pos h1] at h
   have e:i.toNat=j:=Option.some.inj h;exact⟨by rw[seqIndex_of h0 h1,e],by omega,by omega,h1⟩
  ·rw[if_neg h1] at h;cases h
 ·rw[if_neg h0] at h
  by_cases h1:-(n:Int)<=i
  ·rw[if_pos h1] at h
   have e:(i+n).toNat=j:=Option.some.inj h;exact⟨by rw[seqIndex_neg (by omega) h1,e],by omega,h1,by omega⟩
  ·rw[if_neg h1] at h;cases h
theorem xM{α:Type}{xs:List α}{i:Int}{v:α}(h:atI xs i=some v):∃ j,seqIndex? i xs.length=some j/\xs[j]?=some v/\j<xs.length /\ -(xs.length:Int)<=i/\i<xs.length:=by
 unfold atI at h
 cases e:ixN xs.length i with
 | none=>rw[e] at h;cases h
 | some j =>
  rw[e] at h;obtain⟨h1,h2,h3,h4⟩:=vV e;exact⟨j,h1,h,h2,h3,h4⟩
def xU(b:Expr):Prop:=∀ o i,subscripted b false o i=operate [o,i] (getItem o i)
def IxR(X:Cx)(r:R2):Prop :=
  ∀ (value slice : Expr) (pins : List (Addr × Obj)) (s : Shared) (σ : St) (H : Hp) (x y : V) (v u : Value) (Q : VK), Inv X pins σ H s -> RelV x v -> RelV y u -> r x y H Q ->
    subscripted slice false v u=operate [v,u] (getItem v u)->wpAny (model X.prog X.w) X.A (subscriptTail value slice v u) (EP X pins σ Q) X.xe s
def MtR(X:Cx)(id:String)(r:V->List V->Hp->VK->Prop):Prop :=
  ∀ (pins : List (Addr × Obj)) (s : Shared) (σ : St) (H : Hp) (x : V) (xs : List V) (v : Value) (us : List Value) (Q : VK), Inv X pins σ H s -> RelV x v -> Vals xs us -> r x xs H Q ->
    wpAny (model X.prog X.w) X.A (call (.builtin id) (v::us)) (EP X pins σ Q) X.xe s
section
variable {X:Cx} {a b:Expr} {ta tb:TE} {pos:Pos}
theorem Ef{r:R2}(hr:IxR X r)(ha:PE X a ta)(hb:PE X b tb)(hs:xU b):PE X (.Subscript a b pos) (tOp r ta tb):=by
 intro pins s σ H Q I h;exact Subscript_ (Qi ha hb I h fun v u s2 x y H2 I2 rx ry q=>hr a b pins s2 σ H2 x y v u Q I2 rx ry q (hs _ _))
def Sv(K:PySem.W.Frag):R2:=fun x y H Q=>∃ p xs i v,x=.ref p/\y=.int i/\SqL K H p xs/\atI xs i=some v/\Q v H
def Ss(K:PySem.W.Frag):R2:=fun x y H Q=>∃ p xs i v,x=.ref p/\y=.int i/\SqT K H p xs/\atI xs i=some v/\Q v H
theorem vU:IxR X (Sv X.K):=by
 intro value slice pins s σ H x y v u Q I rx ry h hs;obtain⟨p,xs,i,z,rfl,rfl,hq,he,q⟩:=h;cases rx;obtain⟨t,rfl⟩:=ry;obtain⟨its,r,pl,hz⟩:=I.list hq;obtain⟨j,h1,h2,h3,h4,h5⟩:=xM he;obtain⟨w,ew,rw'⟩:=r.get h2;have hl:=r.length;have hn:=jW;have fin:EP X pins σ Q w s:=⟨z,H,I,rw',q⟩
 by_cases h0:0<=i
 ·have hj:i.toNat=j:=by
   rw[seqIndex_of h0 h5] at h1;exact Option.some.inj h1
  exact item_listR pl.isList h0 (by omega) (by rw[hj];simpa using ew) fin hs
 ·have hj:(i+(its.toArray.size:Int)).toNat=j:=by
   rw[seqIndex_neg (by omega) h4] at h1;rw[List.size_toArray,<- hl];exact Option.some.inj h1
  exact subscriptTail_builtinR (x:=w) pl.isList.typeIs slot_list_getitem.lookup
   (wpAny_getItem_list_neg (Q:=fun r s'=>r=w/\EP X pins σ Q r s') pl.isList (by omega) (by rw[List.size_toArray]<;>omega) (by omega) (by rw[hj];simpa using ew) ⟨rfl,fin⟩) hs
theorem JV:IxR X (Ss X.K):=by
 intro value slice pins s σ H x y v u Q I rx ry h hs;obtain⟨p,xs,i,z,rfl,rfl,hq,he,q⟩:=h;cases rx;obtain⟨t,rfl⟩:=ry;obtain⟨its,r,pl,hz⟩:=I.tuple hq;obtain⟨j,h1,h2,h3,h4,h5⟩:=xM he;obtain⟨w,ew,rw'⟩:=r.get h2;have hl:=r.length;have hn:=jW;have fin:EP X pins σ Q w s:=⟨z,H,I,rw',q⟩
 exact subscriptTail_builtinR (x:=w) pl.typeIs slot_tuple_getitem.lookup
  (getItem_tuple (j:=j) (Q:=fun r s'=>r=w/\EP X pins σ Q r s') pl (by omega) (by omega) (by rw[List.size_toArray,<- hl];exact h1) (by simpa using ew) ⟨rfl,fin⟩) hs
theorem sS(its:List Value)(n j:Nat)(u:Value):Obj.mapSeq (·.setIfInBounds j u) { cls:=.type "list",data:=.seq its.toArray n }={ cls:=.type "list",data:=.seq (its.set j u).toArray n }:=by
 simp[Obj.mapSeq]
theorem Inv.lst{pins:List (Addr×Obj)}{σ:St}{H:Hp}{s:Shared}{p:Addr}{xs:List V}(I:Inv X pins σ H s)(h:H p=some (.lst xs)) :
  ∃ (its:List Value) (n:Nat),Vals xs its/\s.heap.get? p=some { cls:=.type "list",data:=.seq its.toArray n }/\xs.length<=sizeLine:=by
 obtain⟨z,its,n,r,e⟩:=I.hok p _ h;exact⟨its,n,r,e,z⟩
theorem Inv.lstUpd{pins:List (Addr×Obj)}{σ:St}{H:Hp}{s:Shared}{p:Addr}{xs ys:List V}{its its':List Value}{n n':Nat}{f:Obj->Obj}(I:Inv X pins σ H s)(h:H p=some (.lst xs))
  (ho:s.heap.get? p=some { cls:=.type "list",data:=.seq its.toArray n }) (hf:f { cls:=.type "list",data:=.seq its.toArray n }={ cls:=.type "list",data:=.seq its'.toArray n' }) (r:Vals ys its') (hz:ys.length<=sizeLine) (t:Nat) :
  Inv X pins σ (upd H p (.lst ys)) { s with heap:=s.heap.update p f,toks:=t }:=by
 have e:(s.heap.update p f).get? p=some { cls:=.type "list",data:=.seq its'.toArray n' }:=by
  rw[Heap.get?_update_self f ho (by rw[hf]<;>rfl),hf]
 refine I.write (x:=p) (e:=p) (by rw[h];trivial) (.inl rfl) (fun b u hb q=>(Heap.get?_update_other _ _ (Ne.symm hb)).trans q) ⟨_,e⟩ ?_
 exact⟨hz,its',n',r,e⟩
def Lw:V->V->V->Hp->(Hp->Prop)->Prop:=fun o i v H Q=>∃ p xs k j,o=.ref p/\i=.int k/\H p=some (.lst xs)/\ixN xs.length k=some j/\Q (upd H p (.lst (xs.set j v)))
theorem set_list:RL X Lw:=by
 intro pins s σ H o i v ov iv u Q I ro ri rv h;obtain⟨p,xs,k,j,rfl,rfl,hp,hj,q⟩:=h;cases ro;obtain⟨t,rfl⟩:=ri;obtain⟨its,n,r,ho,hz⟩:=I.lst hp;obtain⟨h1,h2,h3,h4⟩:=vV hj;have hl:=r.length;have hn:=jW
 have I':Inv X pins σ (upd H p (.lst (xs.set j v))) { s with heap:=s.heap.update p (Obj.mapSeq (·.setIfInBounds j u)) } :=
  I.lstUpd hp ho (sS its n j u) (r.set rv j) (by rw[List.length_set];exact hz) s.toks
 by_cases h0:0<=k
 ·have hk:k.toNat=j:=by
   rw[seqIndex_of h0 h4] at h1;exact Option.some.inj h1
  exact PySem.W.ki_setAt ho h0 (by omega) (by rw[List.size_toArray,<- hl];exact h4) (by rw[hk];exact⟨_,I',q⟩)
 ·have hk:(k+(its.toArray.size:Int)).toNat=j:=by
   rw[seqIndex_neg (by omega) h3] at h1;rw[List.size_toArray,<- hl];exact Option.some.inj h1
  exact PySem.W.ki_setBack ho (by omega) (by rw[List.size_toArray,<- hl];exact h3) (by omega) (by rw[hk];exact⟨_,I',q⟩)
theorem mY(lo hi:Option Int)(n:Nat):(sliceBounds lo hi none n).1=((HT.sIx n 0 lo:Nat):Int)/\(sliceBounds lo hi none n).2.1=((HT.sIx n n hi:Nat):Int)/\(sliceBounds lo hi none n).2.2=1:=by
 refine⟨?_,?_,rfl⟩
 ·cases lo with
  | none=>simp[sliceBounds,HT.sIx]
  | some i =>
   simp only[sliceBounds,HT.sIx,Option.getD_none,show(1:Int)>0 by decide,if_true]
   by_cases h:i<0
   ·simp only[h,if_true]<;>omega
   ·simp only[h,if_false]<;>omega
 ·cases hi with
  | none=>simp[sliceBounds,HT.sIx]
  | some i =>
   simp only[sliceBounds,HT.sIx,Option.getD_none,show(1:Int)>0 by decide,if_true]
   by_cases h:i<0
   ·simp only[h,if_true]<;>omega
   ·simp only[h,if_false]<;>omega
theorem kJ(its:List Value)(lo hi:Option Int):slicePick its.toArray lo hi none=((its.drop (HT.sIx its.length 0 lo)).take (HT.sIx its.length its.length hi-HT.sIx its.length 0 lo)).toArray:=by
 obtain⟨h1,h2,h3⟩:=mY lo hi its.toArray.size;unfold slicePick;rw[h1,h2,h3]
 simp only[sliceRange_one,pick_run,List.size_toArray]<;>rfl
def Sq(K:PySem.W.Frag):V->Option Int->Option Int->Hp->VK->Prop:=fun x lo hi H Q=>∃ a xs,x=.ref a/\SqL K H a xs/\∀ p,H p=none->Q (.ref p) (upd H p (.lst (Ce xs lo hi)))
theorem Dh:SlR X (Sq X.K):=by
 intro pins s σ H x v vl vu lo hi sl Q I rx hs pl pu h;obtain⟨a,xs,rfl,hx,q⟩:=h;cases rx;obtain⟨its,r,ht,hz⟩:=I.list hx;have hlen:=r.length;refine⟨"list",_,slot_list_getitem.lookup,ht.isList.typeIs,?_⟩;refine wpAny_getItem_list_slice ht.isList hs pl pu .none (by simp) ?_ (by rw[List.size_toArray]<;>omega);rw[kJ,<- hlen];refine⟨.ref s.heap.objs.size,_,I.laid (t':=s.toks) (o:=.lst (Ce xs lo hi)) (fun b ob q=>Heap.get?_push_of_some _ q) (Nat.le_refl _) ?_,rfl,q _ (I.hok.fresh (Nat.le_refl _))⟩;exact⟨Nat.le_trans (jy xs lo hi) hz,_,0,(r.drop (HT.sIx xs.length 0 lo)).take (HT.sIx xs.length xs.length hi-HT.sIx xs.length 0 lo),Heap.get?_push_size _ rfl⟩
theorem n6:bH X (.builtin "len") (fun xs H Q=>∃ p ys,xs=[.ref p]/\(SqL X.K H p ys\/SqT X.K H p ys)/\Q (.int ys.length) H):=by
 intro pins s σ H xs us Q I r h;obtain⟨p,ys,rfl,hq,q⟩:=h;obtain⟨u,rfl,rx⟩:=vals1 r;cases rx;have hn:=jW;rcases hq with hq | hq
 ·obtain⟨its,r',pl,hz⟩:=I.list hq
  have hlen:=r'.length;exact Calls.call_len_list pl.isList (by simp only[List.size_toArray]<;>omega) ⟨.int ys.length,H,I.tok _,⟨s.toks+1,by rw[List.size_toArray,hlen]⟩,q⟩
 ·obtain⟨its,r',pl,hz⟩:=I.tuple hq
  have hlen:=r'.length;exact len_tuple pl (by simp only[List.size_toArray]<;>omega) ⟨.int ys.length,H,I.tok _,⟨s.toks+1,by rw[List.size_toArray,hlen]⟩,q⟩
theorem iu:bH X (.type "list") (fun xs H Q=>∃ p ys,xs=[.ref p]/\(SqL X.K H p ys\/SqT X.K H p ys)/\∀ l,H l=none->Q (.ref l) (upd H l (.lst ys))):=by
 intro pins s σ H xs us Q I r h;obtain⟨p,ys,rfl,hq,q⟩:=h;obtain⟨u,rfl,rx⟩:=vals1 r;cases rx
 have fin:∀ (its:List Value),Vals ys its->ys.length<=sizeLine->∀ (h':Heap) (c':Nat),(∀ b o',s.heap.get? b=some o'->h'.get? b=some o') ->
   h'.get? s.heap.objs.size=some { cls:=.type "list",dict:=none,data:=.seq its.toArray c',slots := #[] }->EP X pins σ Q (.ref s.heap.objs.size) { s with heap:=h' }:=fun its r' hz h' c' kp e =>
  ⟨.ref s.heap.objs.size,_,I.laid (t':=s.toks) kp (Nat.le_refl _) (show cV X.prog X.w _ h' _ (.lst ys) from⟨hz,its,c',r',e⟩),rfl,q _ (I.hok.fresh (Nat.le_refl _))⟩
 rcases hq with hq | hq
 ·obtain⟨its,r',pl,hz⟩:=I.list hq
  have hlen:=r'.length;obtain⟨o,ho,hc,n,hd⟩:=pl.isList;exact call_list_seq p (.inl rfl) ho hc hd (fun h' c' kp e=>fin its r' hz h' c' kp e) (by simp only[List.size_toArray]<;>omega)
 ·obtain⟨its,r',pl,hz⟩:=I.tuple hq
  have hlen:=r'.length;obtain⟨o,ho,hc,n,hd⟩:=pl;exact call_list_seq p (.inr rfl) ho hc hd (fun h' c' kp e=>fin its r' hz h' c' kp e) (by simp only[List.size_toArray]<;>omega)
theorem mG:bH X (.type "tuple") (fun xs H Q=>∃ p ys,xs=[.ref p]/\((SqL X.K H p ys/\∀ l,H l=none->Q (.ref l) (upd H l (.tup ys)))\/(SqT X.K H p ys/\Q (.ref p) H))):=by
 intro pins s σ H xs us Q I r h;obtain⟨p,ys,rfl,h⟩:=h;obtain⟨u,rfl,rx⟩:=vals1 r;cases rx;rcases h with⟨hq,q⟩ | ⟨hq,q⟩
 ·obtain⟨its,r',pl,hz⟩:=I.list hq
  have hlen:=r'.length;refine call_tuple_list pl.isList (fun h' kp=>?_) (by simp only[List.size_toArray]<;>omega);have I1:Inv X pins σ H { s with heap:=h' }:=I.kept (t':=s.toks) kp
  have I2:Inv X pins σ (upd H h'.objs.size (.tup ys)) { s with heap:=h'.push { cls:=.type "tuple",data:=.seq its.toArray } } :=
   I1.laid (t':=s.toks) (fun b o e=>Heap.get?_push_of_some _ e) (Nat.le_refl _) (show cV X.prog X.w _ _ _ (.tup ys) from⟨hz,its,r',IsTup.new _ _⟩)
  exact⟨.ref h'.objs.size,_,I2,rfl,q _ (I1.hok.fresh (Nat.le_refl _))⟩
 ·obtain⟨its,r',pl,hz⟩:=I.tuple hq
  exact call_tuple_same pl ⟨.ref p,H,I,rfl,q⟩
def tyV(K:PySem.W.Frag)(T:String)(x:V)(H:Hp):Prop:=match x with
 | .str _=>T="str"
 | .int _=>T="int"
 | .ref p => (T = "list" /\ ∃ xs, SqL K H p xs) \/ (T = "tuple" /\ ∃ o, K.lookup p = some o /\ o.cls = .type "tuple" /\ o.dict = none) \/
   (T="dict"/\((∃ kvs,H p=some (.dK kvs))\/∃ kvs,H p=some (.dT kvs)))\/(T="set"/\∃ S n,H p=some (.set S n))
 | _=>False
theorem Hz{pins:List (Addr×Obj)}{σ:St}{H:Hp}{s:Shared}{T:String}{x:V}{v:Value}(I:Inv X pins σ H s)(r:RelV x v)(ty:tyV X.K T x H) :
  s.TypeIs v T/\∀ a,v=.ref a->∃ ob,s.heap.get? a=some ob/\ob.dict=none:=by
 cases x with
 | str z =>
  obtain⟨t,rfl⟩:=r;cases (show T="str" from ty);exact⟨typeIs_str s z t,fun _ e=>nomatch e⟩
 | int i =>
  obtain⟨t,rfl⟩:=r;cases (show T="int" from ty);exact⟨typeIs_int s i t,fun _ e=>nomatch e⟩
 | ref p =>
  cases r;rcases ty with⟨rfl,xs,hq⟩ | ⟨rfl,o,hk,hc,hd⟩ | ⟨rfl,hk⟩ | ⟨rfl,S,n,hk⟩
  ·obtain⟨its,_,pl,_⟩:=I.list hq
   refine⟨pl.isList.typeIs,fun a e=>?_⟩;cases e;obtain⟨o,n,e,c,hd,_⟩:=pl;exact⟨o,e,hd⟩
  ·refine⟨⟨o,I.kIn p o hk,hc⟩,fun a e=>?_⟩
   cases e;exact⟨o,I.kIn _ o hk,hd⟩
  ·have z:∃ o,s.heap.get? p=some o/\o.ExactDict:=by
    rcases hk with⟨kvs,hk⟩ | ⟨kvs,hk⟩
    ·obtain⟨_,_,_,_,o,_,_,e,ex,_⟩:=I.hok p _ hk
     exact⟨o,e,ex⟩
    ·obtain⟨_,_,_,_,o,_,_,e,ex,_⟩:=I.hok p _ hk
     exact⟨o,e,ex⟩
   obtain⟨o,e,ex⟩:=z;refine⟨⟨o,e,ex.1⟩,fun a e2=>?_⟩;cases e2;exact⟨o,e,ex.2.1⟩
  ·obtain⟨o,_,_,_,e,ex,_⟩:=I.hok p _ hk
   refine⟨⟨o,e,ex.1⟩,fun a e2=>?_⟩;cases e2;exact⟨o,e,ex.2.1⟩
 | _=>exact False.elim ty
def tBM(K:PySem.W.Frag)(T:String)(r:V->List V->Hp->VK->Prop)(to:TE)(t:TA):TE:=fun σ H Q=>to σ H fun x H1=>tyV K T x H1/\t σ H1 fun xs H2=>r x xs H2 Q
variable {o e:Expr} {es:List Expr} {to:TE} {t:TA} {name:Str} {apos cpos:Pos} {T id:String} {r:V->List V->Hp->VK->Prop}
theorem pF(pa:PlainAttrs T)(slot:Slot T name id)(hty:typeOf (.builtin id)=pure (.type "method_descriptor"))(hm:MtR X id r)(ho:PE X o to)(ha:PA X (e::es) t)
  (hbase:attributeBase o name X.env (eval o X.env)=eval o X.env:=by rfl)
  (hfew : ((backTo cpos (starEach (e :: es) X.env)).all (fun x => !x.1) && (backToKw cpos (keywordEach [] X.env)).all (fun x => x.1.isSome)
   && decide ((e::es).length+([]:List Keyword).length+(if([]:List Keyword).isEmpty then 0 else 1)<30))=true:=by rfl)
  (hline:(apos.endLine==cpos.line)=true:=by rfl) (hs:starEach (e::es) X.env=(false,eval e X.env)::starEach es X.env:=by rfl) (hplain:(backTo cpos (starEach es X.env)).any (·.1)=false:=by rfl) :
  PE X (.Call (.Attribute o name apos) (e::es) [] cpos) (tBM X.K T r to t):=by
 intro pins s σ H Q I h;refine wpAny_Call_method_late hbase hfew hline rfl (thn (ho pins s σ H _ I h) fun v s1 ⟨x,H1,I1,r1,ty,q1⟩=>?_);obtain⟨h1,h2⟩:=Hz I1 r1 ty;refine⟨T,id,pa,slot,hty,h1,h2,?_⟩;have hA:=ha cpos pins s1 σ H1 _ I1 q1;rw[hs] at hA ⊢;refine Calls.callWith_builtin (by show(false||(backTo cpos (starEach es X.env)).any (·.1))=false;rw[hplain]<;>rfl) (Calls.evalArgs_plain ?_);exact thn hA fun us s2 ⟨vs,H2,I2,r2,q2⟩=>hm pins s2 σ H2 x vs v us Q I2 r1 r2 q2
end
end L2
namespace L2
open PySem PySem.Spec PyProof.Rows
def MtM(X:Cx)(id:String)(r:V->List V->Hp->VK->Prop):Prop :=
  ∀ (pins : List (Addr × Obj)) (s : Shared) (σ : St) (H : Hp) (x : V) (xs : List V) (v : Value) (us : List Value) (Q : VK), Inv X pins σ H s -> RelV x v -> Vals xs us -> r x xs H Q ->
    wpAny (model X.prog X.w) X.A (call (.builtin id) (v::us)) (EP X pins σ Q) X.xe s
theorem Vals.one:∀ {x:V} {us:List Value},Vals [x] us->∃ u,us=[u]/\RelV x u
 | _,_,.cons r .nil=>⟨_,rfl,r⟩
theorem Vals.reverse{xs:List V}{us:List Value}(h:Vals xs us):Vals xs.reverse us.reverse:=by
 induction h with
 | nil=>exact .nil
 | cons r t ih=>rw[List.reverse_cons,List.reverse_cons];exact Vals.append ih (.cons r .nil)
theorem Vals.rep{xs:List V}{us:List Value}(h:Vals xs us):∀ k:Nat,Vals (List.replicate k xs).flatten (List.replicate k us).flatten
 | 0=>.nil
 | k+1=>by
  rw[List.replicate_succ,List.replicate_succ,List.flatten_cons,List.flatten_cons];exact Vals.append h (Vals.rep h k)
theorem foldl_rep(its:List Value):∀ (k:Nat) (acc:List Value),
  List.foldl (fun x1 x2=>x1++x2) acc.toArray (List.replicate k its.toArray)=(acc++(List.replicate k its).flatten).toArray
 | 0,acc=>by simp
 | k+1,acc=>by
  have e:acc.toArray++its.toArray=(acc++its).toArray:=by simp
  have e2:(acc++its)++(List.replicate k its).flatten=acc++(List.replicate (k+1) its).flatten:=by
   rw[List.replicate_succ,List.flatten_cons,List.append_assoc]
  rw[<- e2,<- foldl_rep its k (acc++its),<- e,List.replicate_succ,List.foldl_cons]
section
variable {X:Cx} {pins:List (Addr×Obj)} {σ:St} {H:Hp} {s:Shared} {l b:Addr} {xs ys zs:List V}
theorem Inv.lset{its its':List Value}{n:Nat}{f:Array Value->Array Value}{t':Nat}(I:Inv X pins σ H s)(hH:H l=some (.lst xs))
  (e:s.heap.get? l=some { cls:=.type "list",data:=.seq its.toArray n }) (hf:f its.toArray=its'.toArray) (hv:Vals ys its') (hz:ys.length<=sizeLine) :
  Inv X pins σ (upd H l (.lst ys)) { s with heap:=s.heap.update l (Obj.mapSeq f),toks:=t' }:=by
 have q:=PySem.IsL.update e f;rw[hf] at q;refine I.write (x:=l) (e:=l) (by rw[hH];exact trivial) (.inl rfl) (fun b' u hb hu=>(Heap.get?_update_other s.heap (Obj.mapSeq f) (Ne.symm hb)).trans hu) ⟨_,q⟩ ?_;exact⟨hz,its',_,hv,q⟩
theorem Inv.lnew{its:List Value}{t':Nat}(I:Inv X pins σ H s)(hv:Vals ys its)(hz:ys.length<=sizeLine) :
  Inv X pins σ (upd H s.heap.objs.size (.lst ys)) { s with heap:=s.heap.push { cls:=.type "list",data:=.seq its.toArray },toks:=t' } :=
 I.laid (fun _ _ q=>Heap.get?_push_of_some _ q) (Nat.le_refl _) ⟨hz,its,0,hv,Heap.get?_push_size _ rfl⟩
theorem Inv.fresh(I:Inv X pins σ H s):H s.heap.objs.size=none:=I.hok.fresh (Nat.le_refl _)
theorem Inv.lstM(I:Inv X pins σ H s)(hH:H l=some (.lst xs)):xs.length<=sizeLine/\∃ (its:List Value) (n:Nat),Vals xs its/\xs.length=its.length/\s.heap.get? l=some { cls:=.type "list",data:=.seq its.toArray n }:=by
 obtain⟨z,its,n,r,e⟩:=I.hok l _ hH;exact⟨z,its,n,r,r.length,e⟩
theorem lH{n:Nat}(h:n<=sizeLine):Builtin.List.listTooLong n=false:=by
 unfold Builtin.List.listTooLong;exact decide_eq_false (by omega)
end
section
variable {X:Cx}
def Dw:V->List V->Hp->VK->Prop:=fun x vs H Q=>∃ l xs y,x=.ref l/\vs=[y]/\H l=some (.lst xs)/\xs.length<sizeLine/\Q .non (upd H l (.lst (xs++[y])))
theorem jo:MtM X "list.append" Dw:=by
 intro pins s σ H x vs v us Q I rx rv h;obtain⟨l,xs,y,rfl,rfl,hH,hz,q⟩:=h;cases rx;obtain⟨u,rfl,ru⟩:=rv.one;obtain⟨z,its,n,r,hl,e⟩:=I.lstM hH;refine call_meets F.slot_list_append ⟨_,e,rfl⟩ F.entry_list_append (F.args_list_append_2 _ _) (PySem.list_append l its.toArray n u (by rw[List.size_toArray];omega)) ⟨e,?_⟩;refine⟨.non,_,I.lset (its':=its++[u]) hH e (by simp) (r.append (.cons ru .nil)) ?_,rfl,q⟩;rw[List.length_append,List.length_singleton];omega
theorem len_rep{α:Type}(xs:List α)(k:Nat):(List.replicate k xs).flatten.length=k*xs.length:=by
 induction k with
 | zero=>simp
 | succ k ih=>rw[List.replicate_succ,List.flatten_cons,List.length_append,ih,Nat.succ_mul,Nat.add_comm]
end
section
variable {prog:Program} {w:World} {A:Around} {E:Value->Shared->Prop} {s:Shared}
set_option maxRecDepth 100000 in
end
section
variable {X:Cx}
end
end L2
namespace Att
open PySem PySem.W PySem.Calls PyProof.Rows
theorem jt{P:Params}{h:Heap}:∀ (ns:List Int) (vs:List Value),WellAll P h vs (ns.map WData.int)->IntsAre vs ns:=by
 intro ns
 induction ns with
 | nil =>
  intro vs w;rw[List.map_nil] at w;cases w;exact .nil
 | cons n ns ih =>
  intro vs w;rw[List.map_cons] at w
  cases w with
  | cons a b =>
   cases a;exact .cons _ _ (ih _ b)
theorem uR{l:OpenLaw}{n:Nat}(hn:l.most=some n){P:Params}{h:Heap}{args:List WData}{vals:List Value}
  (hpre:l.row.toRowW.claim.pre args=true) (hwl:WellAll P h vals args) :
  ∃ a vs ns,vals=[Value.ref a]/\args=[WData.list (ns.map WData.int)]/\h.get? a=some { cls:=.type "list",data:=.seq vs.toArray }/\IntsAre vs ns/\ns.length<=n:=by
 have hsh:WShape.hasAll [] args [.list .int]=true:=(pre_splitW hpre).1;have hc:l.pre.holds [] { args:=args }=true:=(pre_splitW hpre).2;obtain⟨d,r,rfl,h1,h2⟩:=hasAllW_cons hsh;obtain rfl:=hasAllW_nil h2;obtain⟨xs,rfl,h3⟩:=hasW_list h1;obtain⟨ns,rfl⟩:=items_int h3
 have hlen:ns.length<=n:=by
  unfold OpenLaw.pre at hc
  have h4:(WTm.not (.lt (.lit (.int (n:Int))) (.len (.arg 0)))).holds [] { args:=[.list (ns.map .int)] }=true:=by
   have h4:=(holds_andW hc).1;rw[hn] at h4;exact h4
  have h5:=condW_of h4 (w_not (w_lt w_lit (w_len_list (w_arg rfl))));rw[List.length_map] at h5;refine Nat.le_of_not_lt fun q=>?_
  have q':(n:Int)<((ns.length:Nat):Int):=by omega
  first
   | (rw[decide_eq_true q'] at h5;exact absurd h5 (by decide))
   | (simp at h5;omega)
 cases hwl with
 | cons w1 w2 =>
  cases w2
  cases w1 with
  | list ho hall=>exact⟨_,_,ns,rfl,rfl,ho,jt ns _ hall,hlen⟩
theorem uZ(l:OpenLaw)(args:List WData):l.row.toRowW.claim.post args (.bool true) args=true :=
 postW_of (r:=l.row.toRowW) (X:=(true==true))
  (show WShape.has [] (.bool true) .bool=true by first | rfl | decide | simp[WShape.has,WShape.arms,WShape.armsAll])
  (show(WTm.eq .res (.lit (.bool true))).value [] { args:=args,res:=some (.bool true),after:=args }=some (.bool (true==true)) from w_eq_bool (w_res rfl) w_lit) rfl
theorem pZ{l:OpenLaw}{n:Nat}{q:Program}{loose:List Str}{XP:(Str->Option Value)->Heap->Prop}{YP:World->Heap->Prop}{d:DefRec}
  (hn:l.most=some n) (hdf:d.params.defaults=[])
  (call : ∀ (w : World) (s₀ s₁ : Shared) (mg mb : Str -> Option Value) (fa : Addr) (o : Obj) (pm cd doc : Value) (a : Addr) (vs : List Value) (ns : List Int),
   Ground q loose [] XP w s₀ mg mb s₁.heap->YP w s₁.heap ->
   s₁.heap.get? fa=some o->o.data=.func (docDef d.name d.params d.body d.scope pm cd doc)->s₁.heap.CodeRec cd d.name->mg d.name=some (.ref fa) ->
   s₁.heap.get? a=some { cls:=.type "list",data:=.seq vs.toArray }->IntsAre vs ns->ns.length<=n->s₁.gens = #[] ->
   codeAny (model l.prog w) callerA (.call (.ref fa) ⟨[.ref a],[]⟩) (fun r s'=>r=.ok (.ret (.bool true))/\OldK s₁.heap s'.heap/\s'.os=s₁.os/\AllBare s'.gens) s₁) :
  WalkO q loose XP YP l.row.toRowW d [] (fun f vs=>PySem.call f vs):=by
 intro w s₀ s₁ mg mb G Y fa o pm cd doc dV kV ho hd hcd hD hmg hg args vals as hpre hlay hrd hwl hlo;obtain rfl:dV=.none:=Dflts.none hD hdf;obtain rfl:kV=.none:=Dflts.noKw hD;obtain⟨a,vs,ns,rfl,rfl,hobj,hints,hlen⟩:=uR hn hpre hwl;refine enter_call (codeAny_mono (call w s₀ s₁ mg mb fa o pm cd doc a vs ns G Y ho (fd_plain hd) hcd hmg hobj hints hlen hg) fun r s' hq=>?_);obtain⟨rfl,h2,h3,h4⟩:=hq;exact⟨.inl ⟨.bool true,.bool true,[],rfl,fun _=>rfl,.bool true,uZ l _,fun _=>⟨List.Pairwise.nil,fun _ hm=>(nomatch hm)⟩⟩,h2,h3,h4⟩
section
variable {prog:Program} {w:World} {A:Around} {E:Value->Shared->Prop} {s:Shared} {K:Frag}
def ledger(h:Heap)(L d:Addr):List (Addr×Obj):=(List.range h.objs.size).filterMap fun a=>if a=L\/a=d then none else(h.get? a).map fun o=>(a,o)
end
end Att
namespace L2
open PySem PySem.Spec PyProof.Rows
theorem iV:∀ {vs:List Value} {ns:List Int},IntsAre vs ns->Vals (ns.map V.int) vs
 | _,_,.nil=>.nil
 | _,_,.cons n t h=>.cons ⟨t,rfl⟩ (iV h)
def Only(H:Hp):Prop:=∀ b,H b=none\/∃ o xs,H b=some (.frz o (.lst xs))
theorem zF{P:Program}{w:World}{K:PySem.W.Frag}{mg mb:Str->Option Value}{CX:CXT}{k:Nat}{fa a:Addr}{fd:FuncData}{x:Str}{sp:Sp}{s₁:Shared}{vs:List Value}{ns:List Int}
  (KX:K.In s₁.heap) (hns:s₁.heap.Ns mainGlobals mg) (hb:s₁.heap.Ns builtinsNs mb) (hbb:∀ x:Str,x≠"__name__"->mb x=bootBuiltins x) (hlim:s₁.heap.NoLimit) (hg:s₁.gens = #[])
  (ha:s₁.heap.get? a=some { cls:=.type "list",data:=.seq vs.toArray }) (hi:IntsAre vs ns) (hl:ns.length<=sizeLine) (hr:Room k callerA)
  (F:∀ base:Heap,K.In base->base.Ns mainGlobals mg->FnOk P w K mg base CX k fa fd [x] sp) (hbind:∀ (s:Shared) (u:Value),BindsTo s fd ⟨[u],[]⟩ [(x,u)])
  (hsp:∀ H:Hp,Only H->SqL K H a (ns.map V.int)->sp [.ref a] H (fun v _=>v=.bl true) fun _ _ _=>False)
  (hCX:∀ H e s',CX [] H s₁ (fun _ _ _=>False) e s'->False) :
  codeAny (model P w) callerA (.call (.ref fa) ⟨[.ref a],[]⟩) (fun r s'=>r=.ok (.ret (.bool true))/\OldK s₁.heap s'.heap/\s'.os=s₁.os/\AllBare s'.gens) s₁:=by
 have rv:=iV hi;have lenV:=hi.length
 have core:∀ H:Hp,Only H->SqL K H a (ns.map V.int)->HOk P w H s₁.heap->(∀ b,H b≠none->b=a)->(H a≠none->K.lookup a=none) ->
   codeAny (model P w) callerA (.call (.ref fa) ⟨[.ref a],[]⟩) (fun r s'=>r=.ok (.ret (.bool true))/\OldK s₁.heap s'.heap/\s'.os=s₁.os/\AllBare s'.gens) s₁:=by
  intro H hO hS hok hA hK;have base_of:∀ {b:Addr} {o:Obj},s₁.heap.get? b=some o->H b=none->(zN s₁.heap H).get? b=some o:=fun e n=>zM e n
  have noA:∀ {b:Addr} {o:Obj} {es:Array DictEntry} {ep:Nat},s₁.heap.get? b=some o->o.data=.dict es ep->H b=none:=fun {b o es ep} e d=>by
   cases q:H b with
   | none=>rfl
   | some u =>
    have e':b=a:=hA b (by rw[q];simp)
    subst e';rw[ha] at e;cases e;have d':Data.seq vs.toArray _=Data.dict es ep:=d;cases d'
  have nsK:∀ {b:Addr} {m:Str->Option Value},s₁.heap.Ns b m->(zN s₁.heap H).Ns b m:=fun {b m} ⟨o,es,ep,e,d,r⟩=>⟨o,es,ep,base_of e (noA e d),d,r⟩
  have hKb:K.In (zN s₁.heap H):=fun b o e=>base_of (KX b o e) (by
   cases q:H b with
   | none=>rfl
   | some u =>
    have e':b=a:=hA b (by rw[q];simp)
    subst e'
    rw[hK (by rw[q];simp)] at e;cases e)
  have hM:Mod K mg (zN s₁.heap H):=⟨hKb,nsK hns,⟨mb,nsK hb,hbb⟩,let ⟨mc,h1,h2⟩:=hlim;⟨mc,nsK h1,h2⟩⟩
  have e0:Env0 P w K mg (zN s₁.heap H) callerA [] s₁ H:=⟨rfl,hM,fun b o e=>Eu e,Nat.le_of_eq (vZ _ _),trivial,fun b hb=>absurd (show b∈([]:List Addr) from hb) (by simp),hok,.of_eq hg⟩;refine codeAny_mono ((F _ hKb (nsK hns)).run callerA [] s₁ H ⟨[.ref a],[]⟩ [.ref a] [.ref a] _ _ hr e0 (hbind s₁ (.ref a)) (.cons rfl .nil) (hsp H hO hS)) fun r s' h=>?_
  cases r with
  | error e=>exact(hCX H e s' h).elim
  | ok fl =>
   cases fl with
   | next=>exact False.elim h
   | brk=>exact False.elim h
   | cont=>exact False.elim h
   | ret u =>
    obtain⟨v,H',os,bare,un,hok',r',q⟩:=h;have q':v=.bl true:=q;subst q';obtain rfl:u=Value.bool true:=r';refine⟨rfl,OldK.of_keep fun b o e=>?_,os,bare⟩
    cases q:H b with
    | none=>exact un.keep b o e q (by intro z;exact absurd (show b∈([]:List Addr) from z) (by simp)) (by simp)
    | some u =>
     rcases hO b with z | ⟨ob,xs,z⟩
     ·rw[q] at z;cases z
     ·have z2:=un.frzs b ob _ z
      obtain⟨e1,_⟩:=hok b _ z;obtain⟨e2,_⟩:=hok' b _ z2;rw[e] at e1;cases e1;exact e2
 cases hk:K.lookup a with
 | some o =>
  have e:=KX a o hk;rw[ha] at e;cases e;refine core (fun _=>none) (fun _=>.inl rfl) (.inr ⟨_,vs.toArray,_,hk,rfl,rfl,rfl,by rw[List.size_toArray,lenV];exact hl,by simpa using rv⟩) (fun b u z=>by have z':(none:Option HO)=some u:=z;cases z') (fun b z=>absurd rfl z) fun z=>absurd rfl z
 | none =>
  refine core (fun b=>if b=a then some (.frz { cls:=.type "list",data:=.seq vs.toArray } (.lst (ns.map V.int))) else none) (fun b=>?_) (.inl (.inr ⟨{ cls:=.type "list",data:=.seq vs.toArray },if_pos rfl⟩)) (fun b u z=>?_) (fun b z=>?_) fun _=>hk
  ·by_cases hb:b=a
   ·exact .inr ⟨_,_,if_pos hb⟩
   ·exact .inl (if_neg hb)
  ·by_cases hb:b=a
   ·have z':=(if_pos hb).symm.trans z
    cases z';subst hb;exact⟨ha,by rw[List.length_map];exact hl,vs,_,rv,ha⟩
   ·have z':=(if_neg hb).symm.trans z
    cases z'
  ·by_cases hb:b=a
   ·exact hb
   ·exact absurd (if_neg hb) z
end L2
namespace L2
open PySem PySem.Spec PyProof.Rows
theorem CJ{l:PySem.W.OpenLaw}{n k:Nat}{q:Program}{loose:List Str}{XP:(Str->Option Value)->Heap->Prop}{YP:World->Heap->Prop}{d:DefRec}{K:Params->PySem.W.Frag}{CX:World->CXT}{sp:World->Sp}{x:Str}
    (hn:l.most=some n) (hn2:n<=sizeLine) (hdf:d.params.defaults=[]) (hr:Room k callerA)
    (hY:∀ (w:World) (h:Heap),YP w h->(K w.params).In h)
    (F:∀ (w:World) (mg:Str->Option Value) (fa:Addr) (h:Heap),(K w.params).In h->h.Ns mainGlobals mg->mg d.name=some (.ref fa) ->
      ∃ fd : FuncData, (∀ (s : Shared) (u : Value), BindsTo s fd ⟨[u], []⟩ [(x, u)]) /\
        ∀ base:Heap,(K w.params).In base->base.Ns mainGlobals mg->FnOk l.prog w (K w.params) mg base (CX w) k fa fd [x] (sp w))
    (hsp:∀ (w:World) (H:Hp) (a:Addr) (ns:List Int),ns.length<=n->Only H->SqL (K w.params) H a (ns.map V.int)->sp w [.ref a] H (fun v _=>v=.bl true) fun _ _ _=>False)
    (hCX:∀ (w:World) (H:Hp) (s:Shared) (e:Value) (s':Shared),CX w [] H s (fun _ _ _=>False) e s'->False) :
    PySem.W.WalkO q loose XP YP l.row.toRowW d [] (fun f vs=>PySem.call f vs):=by
  refine Att.pZ hn hdf fun w s₀ s₁ mg mb fa o pm cd doc a vs ns G Y ho hd hcd hmg hobj hints hlen hg=>?_
  have KX:=hY w _ Y
  obtain⟨fd,hb,hF⟩:=F w mg fa _ KX G.T.g hmg
  exact zF KX G.T.g G.T.b G.T.builtins G.T.nolimit hg hobj hints (Nat.le_trans hlen hn2) hr hF hb (fun H hO hS=>hsp w H a ns hlen hO hS) fun H e s'=>hCX w H s₁ e s'
end L2
namespace L2
open PySem PySem.Spec PyProof.Rows
def dH(s:Stmt):Arguments:=match s with
 | .FunctionDef _ a _ _ _ _ _ _ _ _=>a
 | _=>{ posonlyargs:=[],args:=[],vararg:=none,kwonlyargs:=[],kw_defaults:=[],kwarg:=none,defaults:=[] }
def bN(s:Stmt):List Stmt:=match s with
 | .FunctionDef _ _ b _ _ _ _ _ _ _=>b
 | _=>[]
def aX(s:Stmt):Scope:=match s with
 | .FunctionDef _ _ _ _ _ _ sc _ _ _=>sc
 | _=>{ kind:=.function,names:=[],isGenerator:=false,isCoroutine:=false }
abbrev CX0:CXT:=fun _ _ _ _ _ _=>False
abbrev E0:XK:=fun _ _ _=>False
structure Fun (K:PySem.W.Frag) (x qual:Str) (st:Stmt) (f:Addr) (fd:FuncData):Prop where
 ex:∃ (oc:Value) (od:Option Addr) (kV doc pm:Value) (an:Option Addr) (cdv ct:Value) (osl:Array (Option Value)),
  fd=PySem.W.fnOf x qual (dH st) (bN st) (aX st) .none kV doc pm an cdv ct/\K.lookup f=some ⟨oc,od,.func fd,osl⟩/\PySem.W.codeIn K cdv qual=true
 kp:PySem.W.keepIn K (.ref f)=true
section
variable {P:Program} {w:World} {K:PySem.W.Frag} {mg:Str->Option Value} {base:Heap}
theorem Fun.binds{x qual:Str}{st:Stmt}{f:Addr}{fd:FuncData}{ps:List Str}(F:Fun K x qual st f fd)
  (h:∀ (kV doc pm:Value) (an:Option Addr) (cdv ct:Value) (us:List Value),us.length=ps.length->bindArgs (PySem.W.fnOf x qual (dH st) (bN st) (aX st) .none kV doc pm an cdv ct) ⟨us,[]⟩=pure (ps.zip us)):Binds K fd ps []:=by
 obtain⟨oc,od,kV,doc,pm,an,cdv,ct,osl,rfl,lk,hcd⟩:=F.ex;exact .all (h kV doc pm an cdv ct)
theorem wg{x qual:Str}{st:Stmt}{f:Addr}{oc:Value}{od an:Option Addr}{osl:Array (Option Value)}{kV doc pm cdv ct:Value}(l:K.lookup f=some ⟨oc,od,.func (PySem.W.fnOf x qual (dH st) (bN st) (aX st) .none kV doc pm an cdv ct),osl⟩)
  (c:PySem.W.codeIn K cdv qual=true) (k:PySem.W.keepIn K (.ref f)=true):Fun K x qual st f (PySem.W.fnOf x qual (dH st) (bN st) (aX st) .none kV doc pm an cdv ct):=⟨⟨oc,od,kV,doc,pm,an,cdv,ct,osl,rfl,l,c⟩,k⟩
end
section
variable {X:Cx}
end
theorem vW{A B:Prop}(h:B):if false=true then A else B:=by
 rw[if_neg Bool.false_ne_true];exact h
theorem tV{A B:Prop}(h:A):if true=true then A else B:=by
 rw[if_pos rfl];exact h
def Same(H H':Hp):Prop:=∀ b o,H b=some o->H' b=some o
theorem Same.refl(H:Hp):Same H H:=fun _ _ h=>h
theorem Same.trans{H H1 H2:Hp}(a:Same H H1)(b:Same H1 H2):Same H H2:=fun c o h=>b c o (a c o h)
theorem Same.free{H H':Hp}(e:Same H H'){l:Addr}(h:H' l=Option.none):H l=Option.none:=by
 cases q:H l with
 | none=>rfl
 | some o =>
  rw[e l o q] at h;cases h
theorem Same.seq{K:PySem.W.Frag}{H H':Hp}{a:Addr}{xs:List V}(e:Same H H')(h:SqL K H a xs):SqL K H' a xs:=by
 rcases h with(h | ⟨o,h⟩) | h
 ·exact .inl (.inl (e _ _ h))
 ·exact .inl (.inr ⟨o,e _ _ h⟩)
 ·exact .inr h
end L2
namespace L2
open PySem PySem.Spec PyProof.Rows
def ig(cells:List (Str×Addr)):List (Str×NameKind)->List (Str×Addr)->List (Str×Addr)
 | [],acc=>acc
 | (x,k)::r,acc=>if k==.free then ig cells r ((x,(cells.lookup x).getD 0)::acc) else ig cells r acc
theorem lV{env:Env}(f:Str×NameKind->List (Str×Addr)->Sem (ForInStep (List (Str×Addr))))
  (hf:∀ name kind cs,f (name,kind) cs=if kind==.free then(do let a <- cellOf env name;pure (.yield ((name,a)::cs))) else pure (.yield cs)) :
  ∀ (l:List (Str×NameKind)) (acc:List (Str×Addr)),(∀ x,(x,NameKind.free)∈l->∃ c,env.cells.lookup x=some c)->(forIn l acc f:Sem (List (Str×Addr)))=pure (ig env.cells l acc)
 | [],acc,_=>by rw[List.forIn_nil];rfl
 | (x,k)::r,acc,h=>by
  rw[List.forIn_cons,hf];unfold ig
  cases hk:k==NameKind.free with
  | false =>
   simp only[Bool.false_eq_true,if_false];show(forIn r acc f:Sem _)=_;exact lV f hf r acc fun y hy=>h y (List.mem_cons_of_mem _ hy)
  | true =>
   simp only[if_true]
   have ek:k=.free:=by simpa using hk
   obtain⟨c,hc⟩:=h x (by rw[ek];exact List.mem_cons_self)
   have e1:cellOf env x=pure c:=by unfold cellOf;rw[hc]
   rw[e1,hc];show(forIn r ((x,c)::acc) f:Sem _)=_;exact lV f hf r _ fun y hy=>h y (List.mem_cons_of_mem _ hy)
theorem eV{env:Env}{scope:Scope}(h:∀ x,(x,NameKind.free)∈scope.names->∃ c,env.cells.lookup x=some c):closureFor scope env=pure (ig env.cells scope.names []):=by
 simp only[closureFor];rw[lV (env:=env) _ (fun name kind cs=>by cases hk:kind==NameKind.free<;>simp[hk]) scope.names [] h];rfl
theorem pI{M:Model}{A:Around}{E:Value->Shared->Prop}{s:Shared}{scope:Scope}{globals:Addr}{closure:List (Str×Addr)}{qual:Str}{outer:Env}{Q:Env->Shared->Prop}
  (hQ:Q (newEnv scope s.heap.objs.size globals (cellsFrom (s.heap.objs.size+1) scope.names closure) qual none .none (some outer) builtinsNs) { s with heap:=pushCells (s.heap.push { cls:=.type "dict",data:=.dict #[] }) scope.names }) :
  wpAny M A (newFunctionEnv scope globals closure [] qual none .none (some outer)) Q E s:=by
 simp only[newFunctionEnv,Option.isSome_some,if_true];refine wpAny_bind (wpAny_alloc ?_);refine wpAny_bind (wpAny_layCells _ (fun name kind cells=>by cases hkc:kind==NameKind.cell<;>simp[hkc]) _ _ _ _ ?_);rw[show({ s with heap:=s.heap.push { cls:=.type "dict",data:=.dict #[] } }:Shared).heap.objs.size=s.heap.objs.size+1 from Heap.size_push ..];rw[List.forIn_nil];exact wpAny_bind (wpAny_pure (wpAny_pure hQ))
theorem fZ{α:Type}:∀ {l:List (Str×α)} {x:Str} {c:α},(x,c)∈l->∃ d,l.lookup x=some d
 | (y,d)::r,x,c,h=>by
  rw[List.lookup_cons]
  cases hb:x==y with
  | true=>exact⟨d,rfl⟩
  | false =>
   rcases List.mem_cons.mp h with e | h
   ·cases e;simp at hb
   ·exact fZ h
theorem bM{α:Type}:∀ {l:List (Str×α)} {x:Str} {c:α},(l.map (·.1)).Nodup->(x,c)∈l->l.lookup x=some c
 | (y,d)::r,x,c,hn,h=>by
  rw[List.map_cons,List.nodup_cons] at hn;rw[List.lookup_cons];rcases List.mem_cons.mp h with e | h'
  ·cases e;simp
  ·have hne:(x==y)=false:=by
    rw[beq_eq_false_iff_ne];intro exy;exact hn.1 (List.mem_map.mpr ⟨(x,c),h',exy⟩)
   rw[hne];exact bM hn.2 h'
theorem cN{x:Str}{c:Addr}:∀ (names:List (Str×NameKind)) (n:Nat) (acc:List (Str×Addr)),(cellsFrom n names acc).lookup x=some c ->
  ((x,NameKind.cell)∈names/\n<=c)\/((x,NameKind.cell)∉names/\acc.lookup x=some c)
 | [],_,_,h=>.inr ⟨by simp,h⟩
 | (y,k)::r,n,acc,h=>by
  unfold cellsFrom at h
  cases hk:k==NameKind.cell with
  | true =>
   have ek:k=.cell:=by simpa using hk
   subst ek;rw[if_pos (show(NameKind.cell==NameKind.cell)=true from rfl)] at h;rcases cN r _ _ h with⟨h1,h2⟩ | ⟨h1,h2⟩
   ·exact .inl ⟨List.mem_cons_of_mem _ h1,by omega⟩
   ·rw[List.lookup_cons] at h2
    cases hb:x==y with
    | true =>
     rw[hb] at h2;cases h2
     have:x=y:=by simpa using hb
     subst this;exact .inl ⟨List.mem_cons_self,Nat.le_refl _⟩
    | false =>
     rw[hb] at h2;refine .inr ⟨fun hm=>?_,h2⟩;rcases List.mem_cons.mp hm with e | hm
     ·cases e;simp at hb
     ·exact h1 hm
  | false =>
   rw[hk] at h;simp only[Bool.false_eq_true,if_false] at h;rcases cN r _ _ h with⟨h1,h2⟩ | ⟨h1,h2⟩
   ·exact .inl ⟨List.mem_cons_of_mem _ h1,h2⟩
   ·refine .inr ⟨fun hm=>?_,h2⟩
    rcases List.mem_cons.mp hm with e | hm
    ·cases e;simp at hk
    ·exact h1 hm
theorem dg:∀ (names:List (Str×NameKind)) (n:Nat) (acc:List (Str×Addr)),(acc.Pairwise fun x y=>x.2≠y.2)->(∀ p∈acc,p.2<n)->(cellsFrom n names acc).Pairwise fun x y=>x.2≠y.2
 | [],_,_,h,_=>h
 | (y,k)::r,n,acc,h,hl=>by
  unfold cellsFrom;split
  ·refine dg r _ _ (List.pairwise_cons.mpr ⟨fun p hp e=>?_,h⟩) fun p hp=>?_
   ·have e':n=p.2:=e
    have q:=hl p hp;rw[<- e'] at q;exact Nat.lt_irrefl _ q
   ·rcases List.mem_cons.mp hp with e | hp
    ·subst e;exact Nat.lt_succ_self _
    ·exact Nat.lt_succ_of_lt (hl p hp)
  ·exact dg r _ _ h hl
theorem pU{cells:List (Str×Addr)}(inj:∀ x y c,cells.lookup x=some c->cells.lookup y=some c->x=y):∀ (names:List (Str×NameKind)) (acc:List (Str×Addr)),(names.map (·.1)).Nodup->(∀ x,(x,NameKind.free)∈names->∃ c,cells.lookup x=some c) ->
  (acc.Pairwise fun x y=>x.2≠y.2)->(∀ p∈acc,cells.lookup p.1=some p.2/\p.1∉names.map (·.1))->((ig cells names acc).Pairwise fun x y=>x.2≠y.2)/\∀ p∈ig cells names acc,cells.lookup p.1=some p.2
 | [],acc,_,_,h1,h2=>⟨h1,fun p hp=>(h2 p hp).1⟩
 | (y,k)::r,acc,hn,hf,h1,h2=>by
  rw[List.map_cons,List.nodup_cons] at hn;have hf':∀ x,(x,NameKind.free)∈r->∃ c,cells.lookup x=some c:=fun x hx=>hf x (List.mem_cons_of_mem _ hx);unfold ig;split
  ·rename_i hk
   have ek:k=.free:=by simpa using hk
   subst ek;obtain⟨c,hc⟩:=hf y List.mem_cons_self;rw[hc];refine pU inj r _ hn.2 hf' (List.pairwise_cons.mpr ⟨fun p hp e=>?_,h1⟩) fun p hp=>?_
   ·have e':c=p.2:=e
    obtain⟨a1,a2⟩:=h2 p hp;rw[<- e'] at a1;have:=inj _ _ _ a1 hc;exact a2 (by rw[this];simp)
   ·rcases List.mem_cons.mp hp with e | hp
    ·subst e;exact⟨hc,hn.1⟩
    ·exact⟨(h2 p hp).1,fun z=>(h2 p hp).2 (List.mem_cons_of_mem _ z)⟩
  ·exact pU inj r _ hn.2 hf' h1 fun p hp=>⟨(h2 p hp).1,fun z=>(h2 p hp).2 (List.mem_cons_of_mem _ z)⟩
theorem mF{cells:List (Str×Addr)}{p:Str×Addr}:∀ (names:List (Str×NameKind)) (acc:List (Str×Addr)),p∈acc->p∈ig cells names acc
 | [],_,h=>h
 | (y,k)::r,acc,h=>by
  unfold ig;split
  ·exact mF r _ (List.mem_cons_of_mem _ h)
  ·exact mF r _ h
theorem mD{cells:List (Str×Addr)}{x:Str}:∀ (names:List (Str×NameKind)) (acc:List (Str×Addr)),(x,NameKind.free)∈names->∃ c,(x,c)∈ig cells names acc
 | (y,k)::r,acc,h=>by
  unfold ig;rcases List.mem_cons.mp h with e | h
  ·cases e
   rw[if_pos (show(NameKind.free==NameKind.free)=true from rfl)];exact⟨_,mF r _ List.mem_cons_self⟩
  ·split
   ·exact mD r _ h
   ·exact mD r _ h
theorem dD{env:Env}{x:Str}:∀ (names:List (Str×NameKind)),
  (names.map fun (n, k) => if (k == NameKind.free && env.scope.kind == .function && env.kindOf n == some .cell) then (n, NameKind.cell) else (n, k)).lookup x =
   (names.lookup x).map fun k=>if(k==NameKind.free&&env.scope.kind==.function&&env.kindOf x==some .cell) then NameKind.cell else k
 | []=>rfl
 | (y,k)::r=>by
  have ih:=dD (x:=x) (env:=env) r
  by_cases hx:x=y
  ·subst hx
   cases hc:(k==NameKind.free&&env.scope.kind==.function&&env.kindOf x==some .cell)<;>simp only[List.map_cons,hc,List.lookup_cons,beq_self_eq_true,Option.map_some,if_true,if_false,Bool.false_eq_true]
  ·have hb:(x==y)=false:=by simpa using hx
   cases hc:(k==NameKind.free&&env.scope.kind==.function&&env.kindOf y==some .cell)<;>simp only[List.map_cons,hc,List.lookup_cons,hb,if_true,if_false,Bool.false_eq_true]<;>exact ih
def qx(N:List Str)(σ:St)(x:Str):Option V:=match N.idxOf? x with
 | some j=>(σ[j]?).getD none
 | none=>none
def pJ(N:List Str)(names:List (Str×NameKind))(σ:St):St:=names.map fun p=>if p.2==.free then qx N σ p.1 else none
def rA(scope:Scope)(cells:List (Str×Addr))(C:Addr)(env:Env):Env :=
 { scope:=relabel scope env,locals:=C,globals:=env.globals,cells:=cells,qual:=env.qual,func:=none,code:=env.code,frame:=env.frame,builtins:=env.builtins }
structure CompOf (X:Cx) (scope:Scope) (Xc:Cx):Prop where
 prog:Xc.prog=X.prog
 w:Xc.w=X.w
 K:Xc.K=X.K
 mg:Xc.mg=X.mg
 base:Xc.base=X.base
 A:Xc.A=X.A
 N:Xc.N=scope.names.map (·.1)
 sc:Xc.env.scope=relabel scope X.env
 calm:Xc.calm=true
 fn:Xc.fn=fun x=>scope.names.lookup x==some .cell
 xe:Xc.xe=fun _ _=>False
def nU(X:Cx)(scope:Scope)(cells:List (Str×Addr))(C:Addr)(s:Shared)(H:Hp)(fp:List Addr):Cx where
 prog:=X.prog
 w:=X.w
 K:=X.K
 mg:=X.mg
 base:=X.base
 A:=X.A
 N:=scope.names.map (·.1)
 s₀:=s
 H₀:=H
 env:=rA scope cells C X.env
 outer:=X.stack
 stack:=X.stack
 ex:=fp
 fn:=fun x=>scope.names.lookup x==some .cell
 calm:=true
 pn:=[]
 xe:=fun _ _=>False
def xZ(X:Cx)(ifs:List Expr)(t:TT):Prop :=
  ∀ (pins : List (Addr × Obj)) (s : Shared) (σ : St) (H : Hp) (Q : Bool -> Hp -> Prop), Inv X pins σ H s -> t σ H Q ->
    wpAny (model X.prog X.w) X.A (forIn ifs true fun c r=>if r=true then do let ok <- isTrue c X.env (eval c X.env);pure (ForInStep.yield ok) else pure (ForInStep.yield r)) (TP X pins σ Q) X.xe s
theorem yO{X:Cx}:xZ X [] (fun _ H Q=>Q true H):=fun _ _ _ H _ I h=>wpAny_tests_nil ⟨H,I,h⟩
theorem yN{X:Cx}{c:Expr}{t:TT}(h:PT X c t):xZ X [c] t:=fun pins s σ H Q I hw=>wpAny_tests_one (h pins s σ H Q I hw)
def o8(X:Cx)(scope:Scope)(wi:TI)(mk:St->St)(g:Cx->TG)(tc:Cx->TT)(te:Cx->TE):TE:=fun σ H Q=>wi σ H fun J H1=>∀ acc,H1 acc=none->∀ Xc,CompOf X scope Xc ->
  ∃ W : Nat -> Nat -> St -> Hp -> Prop, (∃ m, W 0 m (mk σ) (upd H1 acc (.lst []))) /\ ∀ i m σc H, W i m σc H ->
    (J.stop i H/\Q (.ref acc) H)\/(J.go i H/\∃ N:St->Hp->Prop,(∀ σ' H',N σ' H'->∃ m',m'<m/\W (i+1) m' σ' H')/\∀ x H',J.yld i H x H' ->
      g Xc x σc H' fun σ2 H2=>tc Xc σ2 H2 fun b H3=>if b=true then te Xc σ2 H3 fun v H4=>∃ ys,H4 acc=some (.lst ys)/\ys.length<sizeLine/\N σ2 (upd H4 acc (.lst (ys++[v]))) else N σ2 H3)
theorem fD{prog:Program}{w:World}{A:Around}{R:Result->Shared->Prop}{s:Shared}{elt target iter:Expr}{ifs:List Expr}{scope:Scope}{pos:Pos}{it acc:Value}{env:Env}(I:Nat->Shared->Prop)
  (turn:∀ n s,I n s->wpAny (model prog w) A (pyNext it) (fun r s₁=>match r with
   | none=>R (.ok .next) s₁
   | some v=>wpAny (model prog w) A (letOwnedTupleGo target it v) (fun _ s₁'=>wpAny (model prog w) A (assign target env v) (fun _ s₂ =>
     wpAny (model prog w) A (forIn ifs true fun c r=>if r=true then do let ok <- isTrue c env (eval c env);pure (ForInStep.yield ok) else pure (ForInStep.yield r)) (fun ok s₃ =>
      if ok=true then wpAny (model prog w) A (eval elt env) (fun x s₄ =>
       wpAny (model prog w) A (call (.builtin "list.append") [acc,x]) (fun _ s₅=>∃ m,m<n/\I m s₅) (fun _ _=>False) s₄) (fun _ _=>False) s₃
      else ∃ m,m<n/\I m s₃) (fun _ _=>False) s₂) (fun _ _=>False) s₁') (fun _ _=>False) s₁) (fun _ _=>False) s)
  (n:Nat) (h:I n s) :
  codeAny (model prog w) A (.compLoop (.ListComp elt [⟨target,iter,ifs,0⟩] scope pos) 0 it acc env) R s:=by
 refine codeAny_loop rfl I (fun n s hI=>?_) n h;show wpAny _ A ((compTurn (.ListComp elt [⟨target,iter,ifs,0⟩] scope pos) 0 it acc env).onRaise (fun x=>do noteFrame x env;theTreesLotGoes x)) _ _ s;refine wpAny_noted ?_;rw[compTurn_list];refine wpAny_bind (wpAny_standAt (wpAny_bind (wpAny_mono (turn n s hI) (fun r s₁ h₁=>?_) fun _ _ h'=>h'.elim)))
 cases r with
 | none=>exact wpAny_pure h₁
 | some v =>
  refine wpAny_bind (wpAny_mono h₁ (fun _ s₁' h₁'=>?_) fun _ _ h'=>h'.elim);refine wpAny_bind (wpAny_mono h₁' (fun _ s₂ h₂=>wpAny_bind (wpAny_mono h₂ (fun ok s₃ h₃=>?_) fun _ _ h'=>h'.elim)) fun _ _ h'=>h'.elim)
  cases ok with
  | false=>exact wpAny_pure ⟨rfl,h₃⟩
  | true =>
   exact wpAny_bind (wpAny_bind (wpAny_mono h₃ (fun x s₄ h₄=>wpAny_bind (wpAny_mono h₄ (fun _ s₅ h₅=>wpAny_pure (wpAny_pure ⟨rfl,h₅⟩)) fun _ _ h'=>h'.elim)) fun _ _ h'=>h'.elim))
section
variable {X:Cx}
theorem gM{pins:List (Addr×Obj)}{σ:St}{H:Hp}{s:Shared}{scope:Scope}(I:Inv X pins σ H s)(hnd:(scope.names.map (·.1)).Nodup)
  (hcap:∀ x,(x,NameKind.free)∈scope.names->X.env.kindOf x=some .cell\/X.env.kindOf x=some .free) :
  (∀ x,(x,NameKind.free)∈scope.names->∃ c,X.env.cells.lookup x=some c) /\
  ((cellsFrom (s.heap.objs.size+1) scope.names (ig X.env.cells scope.names [])).Pairwise fun x y=>x.2≠y.2) /\
  (∀ x c,(cellsFrom (s.heap.objs.size+1) scope.names (ig X.env.cells scope.names [])).lookup x=some c->((x,NameKind.cell)∈scope.names/\s.heap.objs.size+1<=c)\/((x,NameKind.cell)∉scope.names/\X.env.cells.lookup x=some c/\c<s.heap.objs.size)) /\
  (∀ x,(x,NameKind.free)∈scope.names->(cellsFrom (s.heap.objs.size+1) scope.names (ig X.env.cells scope.names [])).lookup x=X.env.cells.lookup x):=by
 have hf:∀ x,(x,NameKind.free)∈scope.names->∃ c,X.env.cells.lookup x=some c:=fun x hx=>I.ok.has x (hcap x hx);have ok:=pU I.ok.inj scope.names [] hnd hf List.Pairwise.nil (fun p hp=>absurd hp (by simp))
 have small:∀ x c,X.env.cells.lookup x=some c->c<s.heap.objs.size:=fun x c e=>by
  obtain⟨v,z⟩:=I.cell x c e;exact z.lt
 refine⟨hf,dg _ _ _ ok.1 fun p hp=>Nat.lt_succ_of_lt (small p.1 p.2 (ok.2 p hp)),fun x c e=>?_,fun x hx=>?_⟩
 ·rcases cN _ _ _ e with h | ⟨h1,h2⟩
  ·exact .inl h
  ·have h3:=ok.2 _ (PySem.mem_of_lookup h2)
   exact .inr ⟨h1,h3,small _ _ h3⟩
 ·obtain⟨c,hc⟩:=hf x hx
  have nc:(x,NameKind.cell)∉scope.names:=fun z=>by
   have e1:=bM hnd z;rw[bM hnd hx] at e1;cases e1
  obtain⟨d,hd⟩:=mD (cells:=X.env.cells) scope.names [] hx;obtain⟨d',hd'⟩:=fZ hd;have hs:((cellsFrom (s.heap.objs.size+1) scope.names (ig X.env.cells scope.names [])).lookup x).isSome=true:=PySem.W.cellsFrom_some _ _ _ (.inr (by rw[hd'];rfl));obtain⟨c',hc'⟩:=Option.isSome_iff_exists.mp hs;rcases cN _ _ _ hc' with⟨h,_⟩ | ⟨_,h2⟩
  ·exact absurd h nc
  ·rw[hc',ok.2 _ (PySem.mem_of_lookup h2)]
theorem El:∀ (names:List (Str×NameKind)) (h:Heap) (acc:List (Str×Addr)) {x:Str} {c:Addr},(cellsFrom h.objs.size names acc).lookup x=some c->(x,NameKind.cell)∈names->(pushCells h names).IsCell c none:=by
 intro names
 induction names with
 | nil=>intro h acc x c e hx;cases hx
 | cons p r ih =>
  obtain⟨y,k⟩:=p;intro h acc x c e hx;unfold cellsFrom at e;unfold pushCells
  by_cases hin:(x,NameKind.cell)∈r
  ·split at e
   ·rename_i hk
    rw[if_pos hk];refine ih (h.push { cls:=.type "cell",data:=.cell none }) ((y,h.objs.size)::acc) ?_ hin;rw[Heap.size_push];exact e
   ·rename_i hk
    rw[if_neg hk];exact ih h acc e hin
  ·rcases List.mem_cons.mp hx with ex | hx
   ·cases ex
    rw[if_pos (show(NameKind.cell==NameKind.cell)=true from rfl)] at e ⊢;rcases cN _ _ _ e with⟨h1,_⟩ | ⟨_,h2⟩
    ·exact absurd h1 hin
    ·rw[List.lookup_cons] at h2
     simp at h2;subst h2;exact⟨_,pushCells_keeps _ _ _ _ (Heap.get?_push_size _ rfl),rfl⟩
   ·exact absurd hx hin
theorem Ak{pins:List (Addr×Obj)}{σ:St}{H:Hp}{s:Shared}{scope:Scope}{fp:List Addr}(I:Inv X pins σ H s)(hc:X.calm=true)(hk:scope.kind=.function)(hnd:(scope.names.map (·.1)).Nodup)
  (hcap:∀ x,(x,NameKind.free)∈scope.names->X.env.kindOf x=some .cell\/X.env.kindOf x=some .free) (hfp:∀ b∈fp,qb X pins H b) (hlt:∀ b∈fp,b<s.heap.objs.size) :
  Inv (nU X scope (cellsFrom (s.heap.objs.size+1) scope.names (ig X.env.cells scope.names [])) s.heap.objs.size s H fp) [] (pJ X.N scope.names σ) H { s with heap:=pushCells (s.heap.push { cls:=.type "dict",data:=.dict #[] }) scope.names }:=by
 obtain⟨hf,apart,look,same⟩:=gM I hnd hcap;have keep:∀ b o,s.heap.get? b=some o->(pushCells (s.heap.push { cls:=.type "dict",data:=.dict #[] }) scope.names).get? b=some o:=fun b o e=>pushCells_keeps _ _ b o (Heap.get?_push_of_some _ e);have ckd:=cellsFrom_ok scope.names (s.heap.push { cls:=.type "dict",data:=.dict #[] }) (s.heap.objs.size+1) [] ⟨fun _ _ hm=>(nomatch hm),List.Pairwise.nil⟩ (by rw[Heap.size_push];exact Nat.le_refl _);rw[Heap.size_push] at ckd;have own:∀ x c,(cellsFrom (s.heap.objs.size+1) scope.names (ig X.env.cells scope.names [])).lookup x=some c->(x,NameKind.cell)∈scope.names->(pushCells (s.heap.push { cls:=.type "dict",data:=.dict #[] }) scope.names).IsCell c none:=fun x c e hx=>El scope.names (s.heap.push { cls:=.type "dict",data:=.dict #[] }) _ (by rw[Heap.size_push];exact e) hx;have kinds:∀ x,(nU X scope (cellsFrom (s.heap.objs.size+1) scope.names (ig X.env.cells scope.names [])) s.heap.objs.size s H fp).env.kindOf x=(scope.names.lookup x).map fun k=>if(k==NameKind.free&&X.env.scope.kind==.function&&X.env.kindOf x==some .cell) then NameKind.cell else k:=fun x=>dD scope.names;have fresh:∀ {b:Addr},s.heap.objs.size<=b->H b=none:=fun hb=>I.hok.fresh hb
 refine⟨⟨I.ok.mod,hk,I.ok.glob,I.ok.blt,Nat.le_refl _,fun x y c e1 e2=>name_of_addr apart (PySem.mem_of_lookup e1) (PySem.mem_of_lookup e2),fun x hx=>?_,fun x c hx e=>?_,fun _=>I.ok.hd hc,I.ok.frames,.inl rfl,fun b hb=>⟨Nat.ne_of_lt (hlt b hb),fun x c e=>?_⟩,I.bs,Nat.le_trans I.ok.bsz I.sz,fun b o e hb=>?_,fun b hb z=>?_,I.stack,I.stkFree⟩,
  rfl,I.bare,Un.kept keep,⟨fun _=>none,?_,fun i x v e1 e2 e3=>?_⟩,fun x c e=>?_,fresh (Nat.le_refl _),fun x c e=>?_,fun p hp=>absurd (show p∈([]:List (Addr×Obj)) from hp) (by simp),I.hok.kept keep,?_⟩
 ·
  rw[kinds x] at hx
  cases hl:scope.names.lookup x with
  | none=>rw[hl] at hx;rcases hx with h | h<;>cases h
  | some k =>
   rw[hl] at hx;have hm:=PySem.mem_of_lookup hl
   cases k with
   | cell=>exact Option.isSome_iff_exists.mp (PySem.W.cellsFrom_some _ _ _ (.inl hl))
   | free =>
    obtain⟨c,h⟩:=hf x hm;exact⟨c,(same x hm).trans h⟩
   | _=>simp at hx
 ·have hm:(x,NameKind.cell)∈scope.names:=PySem.mem_of_lookup (by simpa[nU] using hx)
  rcases look x c e with⟨_,h⟩ | ⟨h,_⟩
  ·exact Nat.le_of_succ_le h
  ·exact absurd hm h
 ·rcases look x c e with⟨_,h⟩ | ⟨_,h,_⟩
  ·exact Nat.ne_of_gt (Nat.lt_of_lt_of_le (hlt b hb) (Nat.le_of_succ_le h))
  ·exact(hfp b hb).2.2.2.2.1 x c h
 ·rcases(hfp b hb).2.2.2.1 with z | z
  ·exact I.ok.noex b o e z
  ·exact absurd (Nat.lt_of_lt_of_le (Heap.lt_size e) (Nat.le_trans I.ok.bsz z)) (Nat.lt_irrefl _)
 ·rcases List.mem_cons.mp (I.stkSub b z) with h | h
  ·exact(hfp b hb).2.1 h
  ·exact(hfp b hb).2.2.1 h
 ·exact(Heap.Ns.new s.heap (.type "dict")).keeps (pushCells_keeps _ _)
 ·
  have e1':(scope.names.map (·.1))[i]?=some x:=e1;rw[List.getElem?_map] at e1';unfold pJ at e2;rw[List.getElem?_map] at e2
  cases hp:scope.names[i]? with
  | none=>rw[hp] at e2;cases e2
  | some p =>
   rw[hp] at e1' e2;have ex:p.1=x:=Option.some.inj e1';have e2':(if p.2==.free then qx X.N σ p.1 else none)=some v:=Option.some.inj e2
   cases hk2:p.2==NameKind.free with
   | false=>rw[hk2] at e2';simp at e2'
   | true =>
    rw[hk2] at e2';simp only[if_true] at e2'
    have ek:p.2=.free:=by simpa using hk2
    have hm:(x,NameKind.free)∈scope.names:=by
     have:=List.mem_of_getElem? hp;rw[<- ex,<- ek];exact this
    unfold qx at e2';rw[ex] at e2'
    cases hj:X.N.idxOf? x with
    | none=>rw[hj] at e2';cases e2'
    | some j =>
     rw[hj] at e2';have e3:(σ[j]?).getD none=some v:=e2'
     have hσ:σ[j]?=some (some v):=by
      cases q:σ[j]? with
      | none=>rw[q] at e3;simp at e3
      | some o=>rw[q] at e3;simp at e3;rw[e3]
     have hN:X.N[j]?=some x:=by
      rw[List.idxOf?,List.findIdx?_eq_some_iff_getElem] at hj;obtain⟨h1,h2,_⟩:=hj;rw[List.getElem?_eq_getElem h1];simpa using h2
     obtain⟨m,hn,hl⟩:=I.loc;have kx:=hcap x hm;obtain⟨u,r,l⟩:=hl j x v hN hσ (by rcases kx with k | k;exact .inr (.inl k);exact .inr (.inr k));refine⟨u,r,.inr ⟨?_,?_⟩⟩
     ·rw[kinds x,bM hnd hm]
      simp only[Option.map_some];split
      ·exact .inl rfl
      ·exact .inr rfl
     ·rcases l with⟨k,_⟩ | ⟨_,c,hc',z⟩
      ·rcases kx with k' | k'<;>(rw[k'] at k;cases k)
      ·exact⟨c,(same x hm).trans hc',z.keeps keep⟩
 ·rcases look x c e with⟨h,_⟩ | ⟨_,h,_⟩
  ·exact⟨_,own x c e h⟩
  ·obtain⟨v,z⟩:=I.cell x c h
   exact⟨v,z.keeps keep⟩
 ·rcases look x c e with⟨_,h⟩ | ⟨_,h,_⟩
  ·exact fresh (Nat.le_of_succ_le h)
  ·exact I.freeC x c h
 ·show(pJ X.N scope.names σ).length=(scope.names.map (·.1)).length
  unfold pJ;rw[List.length_map,List.length_map]
structure Blk (X:Cx) (pins:List (Addr×Obj)) (H:Hp) (s:Shared) (C:Addr):Prop where
 ns:∃ m,s.heap.Ns C m
 free:H C=none
 loc:C≠X.env.locals
 abv:X.s₀.heap.objs.size<=C
 cel:∀ x c,X.env.cells.lookup x=some c->c≠C
 pin:∀ p∈X.pn++pins,p.1≠C
theorem nW{elt tg iter:Expr}{ifs:List Expr}{scope:Scope}{pos:Pos}{wi:TI}{g:Cx->TG}{tc:Cx->TT}{te:Cx->TE}(hc:X.calm=true)(hk:scope.kind=.function)(hnd:(scope.names.map (·.1)).Nodup)
  (hcap:∀ x,(x,NameKind.free)∈scope.names->X.env.kindOf x=some .cell\/X.env.kindOf x=some .free) (hi:PI X tg iter wi)
  (hin:∀ Xc:Cx,CompOf X scope Xc->PG Xc tg (g Xc)/\xZ Xc ifs (tc Xc)/\PE Xc elt (te Xc)) {pins:List (Addr×Obj)} {s:Shared} {σ:St} {H:Hp} {Q:VK} (I:Inv X pins σ H s) (h:o8 X scope wi (pJ X.N scope.names) g tc te σ H Q) {R:Value->Addr->Result->Shared->Prop}
  (fin:∀ acc C H' s',Inv X pins σ H' s'->Blk X pins H' s' C->Q (.ref acc) H'->R (.ref acc) C (.ok .next) s') :
  wpAny (model X.prog X.w) X.A (eval iter X.env) (fun x s₁=>wpAny (model X.prog X.w) X.A (pyIter x) (fun it s₂=>wpAny (model X.prog X.w) X.A (newList []) (fun acc s₃ =>
   wpAny (model X.prog X.w) X.A (newFunctionEnv scope X.env.globals (ig X.env.cells scope.names []) [] X.env.qual none .none (some X.env)) (fun cenv s₄ =>
    codeAny (model X.prog X.w) X.A (.compStart (.ListComp elt [⟨tg,iter,ifs,0⟩] scope pos) 0 it acc { cenv with scope:=relabel scope X.env }) (R acc cenv.locals) s₄) X.xe s₃) X.xe s₂) X.xe s₁) X.xe s:=by
 refine thn (hi pins s σ H _ I h) fun v s1 h1=>thn h1 fun itv s2 h2=>?_;obtain⟨it,fp,tn,J,H2,rfl,I2,T,st2,f2,q2⟩:=h2;refine wpAny_newObj_type ?_;have hf:H2 s2.heap.objs.size=none:=I2.hok.fresh (Nat.le_refl _);have I3:=I2.lnew (ys:=[]) (its:=[]) (t':=s2.toks) .nil (Nat.zero_le _);generalize hs3:({ s2 with heap:=s2.heap.push { cls:=.type "list",data:=.seq ([]:List Value).toArray },toks:=s2.toks }:Shared)=s3 at I3
 have lt2:∀ b∈fp,b<s2.heap.objs.size:=fun b hb=>by
  obtain⟨o,e,_⟩:=T.obj _ _ st2 b hb;exact Heap.lt_size e
 have f3:∀ b∈fp,qb X pins (upd H2 s2.heap.objs.size (.lst [])) b:=fun b hb=>⟨by rw[aH (Nat.ne_of_lt (lt2 b hb))];exact(f2 b hb).1,(f2 b hb).2⟩
 have sz3:s3.heap.objs.size=s2.heap.objs.size+1:=by rw[<- hs3];exact Heap.size_push ..
 have lt3:∀ b∈fp,b<s3.heap.objs.size:=fun b hb=>by rw[sz3];exact Nat.lt_succ_of_lt (lt2 b hb)
 have st3:tn 0 s3.heap:=T.keep _ _ _ st2 fun b hb o e=>by rw[<- hs3];exact Heap.get?_push_of_some _ e
 have J0:=Ak I3 hc hk hnd hcap f3 lt3;have cO:CompOf X scope (nU X scope (cellsFrom (s3.heap.objs.size+1) scope.names (ig X.env.cells scope.names [])) s3.heap.objs.size s3 (upd H2 s2.heap.objs.size (.lst [])) fp):=⟨rfl,rfl,rfl,rfl,rfl,rfl,rfl,rfl,rfl,rfl,rfl⟩;obtain⟨hg,hif,he⟩:=hin _ cO;obtain⟨W,⟨m0,w0⟩,turn⟩:=q2 s2.heap.objs.size hf _ cO;refine pI ?_;have st4:tn 0 (pushCells (s3.heap.push { cls:=.type "dict",data:=.dict #[] }) scope.names):=T.keep _ _ _ st3 fun b _ o e=>pushCells_keeps _ _ b o (Heap.get?_push_of_some _ e);generalize hXc:nU X scope (cellsFrom (s3.heap.objs.size+1) scope.names (ig X.env.cells scope.names [])) s3.heap.objs.size s3 (upd H2 s2.heap.objs.size (.lst [])) fp=Xc at J0 hg hif he turn
 have hprog:Xc.prog=X.prog:=by rw[<- hXc];rfl
 have hw:Xc.w=X.w:=by rw[<- hXc];rfl
 have hK:Xc.K=X.K:=by rw[<- hXc];rfl
 have hA:Xc.A=X.A:=by rw[<- hXc];rfl
 have hcm:Xc.calm=true:=by rw[<- hXc];rfl
 have hxe:Xc.xe=fun _ _=>False:=by rw[<- hXc];rfl
 have hen:Xc.env=rA scope (cellsFrom (s3.heap.objs.size+1) scope.names (ig X.env.cells scope.names [])) s3.heap.objs.size X.env:=by rw[<- hXc];rfl
 have hex:Xc.ex=fp:=by rw[<- hXc];rfl
 have hfs:Xc.fs=frs X.stack:=by rw[<- hXc];rfl
 have hs0:Xc.s₀=s3:=by rw[<- hXc];rfl
 have hH0:Xc.H₀=upd H2 s2.heap.objs.size (.lst []):=by rw[<- hXc];rfl
 have hpn:Xc.pn=[]:=by rw[<- hXc];rfl
 have stat:∀ {H':Hp},(∀ b∈fp,H' b=none)->∀ b∈fp,qb Xc [] H' b:=fun {H'} hn b hb=>by
  refine⟨hn b hb,(J0.ok.exf b (by rw[hex];exact hb)).1,fun z=>J0.ok.exfs b (by rw[hex];exact hb) z,.inl (by rw[hex];exact hb),(J0.ok.exf b (by rw[hex];exact hb)).2,fun p hp=>?_⟩
  rw[hpn] at hp;exact absurd hp (by simp)
 have loop:codeAny (model X.prog X.w) X.A (.compLoop (.ListComp elt [⟨tg,iter,ifs,0⟩] scope pos) 0 (.ref it) (.ref s2.heap.objs.size) Xc.env)
   (R (.ref s2.heap.objs.size) s3.heap.objs.size) { s3 with heap:=pushCells (s3.heap.push { cls:=.type "dict",data:=.dict #[] }) scope.names }:=by
  refine fD (fun n s'=>∃ i σ' H',Inv Xc [] σ' H' s'/\tn i s'.heap/\(∀ b∈fp,H' b=none)/\W i n σ' H') ?_ m0 ⟨0,_,_,J0,st4,fun b hb=>(f3 b hb).1,w0⟩;rintro n s5 ⟨i,σ5,H5,I5,st5,fr5,w5⟩;rcases turn i n σ5 H5 w5 with⟨stop,qn⟩ | ⟨go,N,hN,step⟩
  ·have q:=T.done Xc hprog hw hK hcm i [] s5 σ5 H5 (fun _ _=>False) I5 (stat fr5) st5 stop
   rw[hA] at q;refine thn q fun r s6 ⟨hr,I6⟩=>?_;subst hr
   have hL:Xc.env.locals=s3.heap.objs.size:=by rw[hen];rfl
   have ub:=I6.base;rw[hfs,hex,hH0,hs0] at ub
   have IX:Inv X pins σ H5 s6:=by
    refine I3.call' (ch:=fp) ?_ ub ?_ I6.bare fun b hb=>⟨(f3 b hb).2.2.2.1,(f3 b hb).2.1,(f3 b hb).2.2.2.2.1,(f3 b hb).2.2.2.2.2⟩
    ·have:=I6.os
     rw[hs0] at this;exact this
    ·have hok:=I6.hok
     rw[hprog,hw] at hok;exact hok
   refine fin _ _ _ _ IX ⟨?_,?_,Nat.ne_of_gt I3.lt,I3.sz,fun x c e=>?_,fun p hp=>?_⟩ qn
   ·obtain⟨m,hn,_⟩:=I6.loc
    rw[hL] at hn;exact⟨m,hn⟩
   ·have:=I6.free
    rw[hL] at this;exact this
   ·obtain⟨v,z⟩:=I3.cell x c e
    exact Nat.ne_of_lt z.lt
   ·exact Nat.ne_of_lt (Heap.lt_size (I3.pin p hp).1)
  ·have q:=T.item Xc hprog hw hK hcm i [] s5 σ5 H5 (fun _ _=>False) I5 (stat fr5) st5 go
   rw[hA] at q;refine thn q fun r s6 ⟨u,hr,h6⟩=>?_;subst hr;refine thn h6 fun _ s7 ⟨x,H7,I7,r7,y7,st7,fr7⟩=>?_;have I7':=I7.pinned (stat fr7) (T.obj _ _ st7);have q8:=hg _ s7 σ5 H7 x u _ I7' r7 (step x H7 y7);rw[hprog,hw,hA,hxe] at q8;refine thn q8 fun _ s8 ⟨σ8,H8,I8,z8⟩=>?_;have q9:=hif _ s8 σ8 H8 _ I8 z8;rw[hprog,hw,hA,hxe] at q9;refine thn q9 fun ok s9 ⟨H9,I9,z9⟩=>?_
   have again:∀ {s':Shared} {σ':St} {H':Hp},Inv Xc ([]++m9 fp s7.heap) σ' H' s'->N σ' H'->∃ m,m<n/\∃ i σ' H',Inv Xc [] σ' H' s'/\tn i s'.heap/\(∀ b∈fp,H' b=none)/\W i m σ' H':=fun {s' σ' H'} I' n'=>by
    obtain⟨m',hm,w'⟩:=hN σ' H' n';refine⟨m',hm,i+1,σ',H',I'.unpinned,T.keep _ _ _ st7 fun b hb o e=>(I'.pin (b,o) (List.mem_append_right _ (List.mem_append_right _ (eZ hb e)))).1,fun b hb=>?_,w'⟩;obtain⟨o,e,d⟩:=T.obj _ _ st7 b hb;exact(I'.pin (b,o) (List.mem_append_right _ (List.mem_append_right _ (eZ hb e)))).2.1
   cases ok with
   | false =>
    rw[if_neg Bool.false_ne_true] at z9 ⊢;exact again I9 z9
   | true =>
    rw[if_pos rfl] at z9 ⊢;have q10:=he _ s9 σ8 H9 _ I9 z9;rw[hprog,hw,hA,hxe] at q10;refine thn q10 fun uv s10 ⟨v,H10,I10,r10,ys,hy,hz,z10⟩=>?_;have q11:=jo (X:=Xc) _ s10 σ8 H10 (.ref s2.heap.objs.size) [v] (.ref s2.heap.objs.size) [uv] (fun _ H'=>N σ8 H') I10 rfl (.cons r10 .nil) ⟨_,ys,v,rfl,rfl,hy,hz,z10⟩;rw[hprog,hw,hA,hxe] at q11;exact thn q11 fun _ s11 ⟨_,H11,I11,_,z11⟩=>again I11 z11
 have eenv:({ (newEnv scope s3.heap.objs.size X.env.globals (cellsFrom (s3.heap.objs.size+1) scope.names (ig X.env.cells scope.names [])) X.env.qual none .none (some X.env) builtinsNs) with scope:=relabel scope X.env }:Env)=Xc.env:=by rw[hen];rfl
 rw[eenv];exact codeAny_compStart_list loop (T.self X.A 0 _ _ _ st4 loop)
theorem Blk.gone{pins:List (Addr×Obj)}{σ:St}{H:Hp}{s:Shared}{C:Addr}{h':Heap}(b:Blk X pins H s C)(I:Inv X pins σ H s)(hs:Heap.SameBut C s.heap h'):Inv X pins σ H { s with heap:=h' } :=
 I.turned (t':=s.toks) (fun c o hc e=>(hs.2 c hc).trans e) b.free b.loc (.inr b.abv) b.cel b.pin
theorem lC{elt tg iter:Expr}{ifs:List Expr}{scope:Scope}{pos:Pos}{wi:TI}{g:Cx->TG}{tc:Cx->TT}{te:Cx->TE}(hc:X.calm=true)(hk:scope.kind=.function)(hnd:(scope.names.map (·.1)).Nodup)
  (hcap:∀ x,(x,NameKind.free)∈scope.names->X.env.kindOf x=some .cell\/X.env.kindOf x=some .free) (hi:PI X tg iter wi)
  (hin:∀ Xc:Cx,CompOf X scope Xc->PG Xc tg (g Xc)/\xZ Xc ifs (tc Xc)/\PE Xc elt (te Xc)) (hs:∀ x,foldedSetIterable iter X.env x=pure x) :
  PE X (.ListComp elt [⟨tg,iter,ifs,0⟩] scope pos) (o8 X scope wi (pJ X.N scope.names) g tc te):=by
 intro pins s σ H Q I h;rw[eval_ListComp];refine wpAny_comprehension_free (use:=none) (cl:=ig X.env.cells scope.names []) rfl hs (eV (gM I hnd hcap).1) hk (fun x hx hl=>bM hnd (by rw[<- hl];exact hx)) ?_;refine nW hc hk hnd hcap hi hin I h fun acc C H' s' I' b q=>?_;obtain⟨m,hn⟩:=b.ns;exact⟨m,hn,fun h' hsb=>⟨.ref acc,H',b.gone I' hsb,rfl,q⟩⟩
theorem uY{i:Nat}{x:Str}{elt tg iter:Expr}{ifs:List Expr}{scope:Scope}{pos pos' spos:Pos}{wi:TI}{g:Cx->TG}{tc:Cx->TT}{te:Cx->TE}(hN:X.N.Nodup)(hix:X.N[i]?=some x)(hx:X.env.scope.names.lookup x=some .local)
  (hc:X.calm=true) (hk:scope.kind=.function) (hnd:(scope.names.map (·.1)).Nodup)
  (hcap:∀ x,(x,NameKind.free)∈scope.names->X.env.kindOf x=some .cell\/X.env.kindOf x=some .free) (hi:PI X tg iter wi)
  (hin:∀ Xc:Cx,CompOf X scope Xc->PG Xc tg (g Xc)/\xZ Xc ifs (tc Xc)/\PE Xc elt (te Xc)) (hs:∀ x,foldedSetIterable iter X.env x=pure x)
  (hsw:swapsWith (.ListComp elt [⟨tg,iter,ifs,0⟩] scope pos) (some (.Name x pos')) spos.line X.env=pure true) :
  PS X (.Assign [.Name x pos'] (.ListComp elt [⟨tg,iter,ifs,0⟩] scope pos) spos) (Kv (o8 X scope wi (pJ X.N scope.names) g tc te) (zT i)):=by
 intro pins s σ H D I h;rw[exec_Assign_Name_used _ _ _ _ hsw];refine wpAny_bind (wpAny_standAt (wpAny_bind ?_));show wpAny _ X.A (do let _ <- comprehension (.ListComp elt [⟨tg,iter,ifs,0⟩] scope pos) scope X.env _ (newList []) false (eval iter X.env) (some (assign (.Name x pos') X.env))) _ _ s
 refine wpAny_bind (thn (wpAny_comprehension_free (use:=some (assign (.Name x pos') X.env)) (Q:=fun _ s'=>SP X pins D .next s') (cl:=ig X.env.cells scope.names []) rfl hs (eV (gM I hnd hcap).1) hk (fun x hx hl=>bM hnd (by rw[<- hl];exact hx))
  (nW hc hk hnd hcap hi hin I h fun acc C H' s' I' b q=>?_)) fun _ s' hq=>wpAny_pure (wpAny_pure hq))
 show wpAny _ X.A (assign (.Name x pos') X.env (.ref acc)) _ _ s';refine wpAny_assign_Name (mX I' hN hix (.inl hx) (v:=.ref acc) rfl (fun s'' I'' ⟨a,hsb,ha⟩=>?_) (.inr hx));obtain⟨m,hn⟩:=b.ns
 have hCa:C≠a:=by
  rcases ha with ha | ha
  ·rw[ha];exact b.loc
  ·exact(b.cel x a ha).symm
 have b2:Blk X pins H' s'' C:=⟨⟨m,hn.sameBut hsb hCa⟩,b.free,b.loc,b.abv,b.cel,b.pin⟩;exact⟨m,hn.sameBut hsb hCa,fun h' hsb'=>⟨_,H',b2.gone I'' hsb',q⟩⟩
end
end L2
namespace L2
open PySem PySem.Spec PyProof.Rows
section
variable {prog:Program} {w:World} {A:Around} {E:Value->Shared->Prop} {s:Shared}
theorem Ag{it t:Addr}{i:Nat}{its:Array Value}{Q:Value->Shared->Prop}(hh:A.handled=none)(hit:s.heap.IsTupleIter it t i)(ht:s.heap.IsTuple t its)
  (hs:∀ x h',its[i]?=some x->h'.IsTupleIter it t (i+1)->Heap.SameBut it s.heap h'->Q x { s with heap:=h' })
  (he:∀ h' e,its[i]?=none->Heap.ExtBut it s.heap h'->(∃ o,h'.get? e=some o/\o.cls=.type "StopIteration")->E (.ref e) { s with heap:=h' }) :
  wpAny (model prog w) A (Builtin.SmallTypes.nextOf (.ref it)) Q E s:=by
 obtain⟨oi,hoi,hci,hdi⟩:=id hit;obtain⟨ot,hot,_,nt,hdt⟩:=ht;unfold Builtin.SmallTypes.nextOf;refine wpAny_bind (wpAny_callSpecial?_slot (name:=Str.ofString "__next__") hit.typeIs F.slot_tuple_iterator_next (wpAny_call_entry F.slot_tuple_iterator_next hit.typeIs F.entry_tuple_iterator_next ?_ (F.args_tuple_iterator_next_1 _)));show wpAny _ _ (field (.ref it) 0 >>=_) _ _ s;refine wpAny_bind (wpAny_field hoi hdi (x:=.ref t) rfl ?_);have nn:¬ ((Value.ref t==Value.none)=true):=Bool.false_ne_true;show wpAny _ _ (if(Value.ref t==Value.none)=true then _ else _) _ _ s;rw[if_neg nn];show wpAny _ _ (field (.ref it) 1 >>=_) _ _ s;refine wpAny_bind (wpAny_field hoi hdi (x:=.int i 0) rfl ?_);show wpAny _ _ (seqItems? (.ref t) >>=_) _ _ s;refine wpAny_bind (wpAny_seqItems hot hdt ?_)
 cases hx:its[i]? with
 | some x =>
  simp only[Int.toNat_natCast,hx];have fin:(s.heap.update it fun o=>o.mapFields (·.setIfInBounds 1 (rawInt ((i:Int)+1)))).IsTupleIter it t (i+1):=⟨_,Heap.get?_update_self _ hoi (Obj.isFreed_of_fields (Obj.data_mapFields hdi _)),(Obj.cls_mapFields ..).trans hci,by rw[Obj.data_mapFields hdi];simp[rawInt]⟩;exact wpAny_bind (wpAny_setField hoi hdi (by simp) (wpAny_pure ⟨x,rfl,wpAny_pure (hs x _ hx fin (Heap.SameBut.update ..))⟩))
 | none =>
  simp only[Int.toNat_natCast,hx];refine wpAny_bind (wpAny_rule (wpAny_bind (wpAny_setField hoi hdi (by simp) (wpAny_bind (m:=newExc (.type "StopIteration") []) ?_))));simp only[newExc,newTuple];refine wpAny_bind (wpAny_newObj_type (wpAny_bind (m:=firstArgMember _ _) (wpAny_of_eq (a:=Value.none) (by first | rfl | (simp only[firstArgMember];rfl)) (wpAny_newObj_type ?_ (by size_fits)))) (by size_fits));simp only[raiseNew];refine wpAny_bind (wpAny_handled ?_)
  first | rw[show A.in1.handled=none from hh] | rw[hh]
  exact wpAny_bind (wpAny_pure (wpAny_throw (he _ _ hx (((Heap.SameBut.update ..).extBut.push _).push _) ⟨_,Heap.get?_push_size _ rfl,rfl⟩)))
structure ZT (h:Heap) (z ti to i1 i2 t1 t2:Addr) (k:Nat) (f:Value):Prop where
 hz:IsZip h z ti to f
 hi:IsPair h ti (.ref i1) (.ref i2)
 ho:∃ a b,IsPair h to a b
 h1:h.IsTupleIter i1 t1 k
 h2:h.IsTupleIter i2 t2 k
theorem ZT.keep{h h':Heap}{z ti to i1 i2 t1 t2:Addr}{k:Nat}{f:Value}(x:ZT h z ti to i1 i2 t1 t2 k f)(kp:∀ b∈[z,ti,to,i1,i2],∀ o,h.get? b=some o->h'.get? b=some o):ZT h' z ti to i1 i2 t1 t2 k f :=
 ⟨kp z (by simp) _ x.hz,kp ti (by simp) _ x.hi,let ⟨a,b,e⟩:=x.ho;⟨a,b,kp to (by simp) _ e⟩,x.h1.at fun o e=>kp i1 (by simp) o e,x.h2.at fun o e=>kp i2 (by simp) o e⟩
theorem tW{z ti to i1 i2 t1 t2:Addr}{k:Nat}{xs ys:Array Value}{Q:Fin->Shared->Prop}(hh:A.handled=none)(D:ZipApart z ti to i1 i2 t1 t2)(hZ:ZT s.heap z ti to i1 i2 t1 t2 k .none)
  (ht1:s.heap.IsTuple t1 xs) (ht2:s.heap.IsTuple t2 ys)
  (hs : ∀ x y h', xs[k]? = some x -> ys[k]? = some y -> ZT h' z ti to i1 i2 t1 t2 (k + 1) (rawInt s.heap.objs.size) -> IsPair h' s.heap.objs.size x y -> h'.objs.size = s.heap.objs.size + 1 ->
   (∀ c o,c∉[z,to,i1,i2]->s.heap.get? c=some o->h'.get? c=some o)->Q (.done (.ret (.ref s.heap.objs.size))) { s with heap:=h' })
  (he:∀ h' e,(xs[k]?=none\/ys[k]?=none)->(∀ c o,c∉[z,to,i1,i2]->s.heap.get? c=some o->h'.get? c=some o)->(∃ o,h'.get? e=some o/\o.cls=.type "StopIteration")->E (.ref e) { s with heap:=h' }) :
  wpAny (model prog w) A (Builtin.«zip.__next__» ⟨[.ref z],[]⟩) Q E s:=by
 obtain⟨hz,hi,⟨a,b,ho⟩,h1,h2⟩:=hZ;show wpAny _ _ (field (.ref z) 2 >>=_) _ _ _;refine wpAny_bind (wpAny_field hz rfl (x:=.bool false) rfl ?_);show wpAny _ _ (field (.ref z) 3 >>=_) _ _ _;refine wpAny_bind (wpAny_field hz rfl (x:=.ref ti) rfl (wpAny_bind (wpAny_seqItems hi rfl ?_)));show wpAny _ _ (Builtin.SmallTypes.ownedTupleIsFree (.ref z) >>=_) _ _ _;unfold Builtin.SmallTypes.ownedTupleIsFree;refine wpAny_bind (wpAny_bind (wpAny_field hz rfl (x:=.none) rfl (wpAny_pure ?_)));simp only[if_true];refine wpAny_bind (wpAny_rule (wpAny_bind (wpAny_field hz rfl (x:=.ref to) rfl (wpAny_bind (wpAny_setField_rec hz (by simp) fun ha za sa=>?_)))))
 replace za:IsZip ha z ti to .ellipsis:=za
 refine wpAny_bind ?_;simp only[List.zipIdx_cons,List.zipIdx_nil,List.forIn_cons,List.forIn_nil];refine wpAny_bind (wpAny_bind (wpAny_onRaise ?_))
 have ne4:∀ {c:Addr},c∉[z,to,i1,i2]->c≠z/\c≠to/\c≠i1/\c≠i2:=fun hc=>by simpa using hc
 show wpAny _ _ (Builtin.SmallTypes.nextOf (.ref i1) >>=_) _ _ _;refine wpAny_bind (Ag hh (h1.extBut sa.extBut D.i1z) (ht1.extBut sa.extBut D.l1z) (fun x hb hx itb sb=>wpAny_pure ?_) fun hb e hx eb ⟨oe,oe1,oe2⟩=>?_)
 ·have tob:IsPair hb to a b:=sb.extBut _ _ D.TOi1 (sa.extBut _ _ D.TOz ho)
  refine wpAny_bind (wpAny_seqItems tob rfl (wpAny_bind (wpAny_updateSeq_pair tob fun hc toc sc=>wpAny_bind (wpAny_letGo (wpAny_pure ?_)))))
  replace toc:IsPair hc to x b:=toc
  refine wpAny_bind (wpAny_bind (wpAny_onRaise ?_));have h2c:hc.IsTupleIter i2 t2 k:=((h2.extBut sa.extBut D.i2z).extBut sb.extBut D.i12.symm).extBut sc.extBut D.TOi2.symm;have t2c:hc.IsTuple t2 ys:=((ht2.extBut sa.extBut D.l2z).extBut sb.extBut D.l2i1).extBut sc.extBut D.l2TO;show wpAny _ _ (Builtin.SmallTypes.nextOf (.ref i2) >>=_) _ _ _;refine wpAny_bind (Ag hh h2c t2c (fun y hd hy itd sd=>wpAny_pure ?_) fun hd e hy ed ⟨oe,oe1,oe2⟩=>?_)
  ·have tod:IsPair hd to x b:=sd.extBut _ _ D.TOi2 toc
   refine wpAny_bind (wpAny_seqItems tod rfl (wpAny_bind (wpAny_updateSeq_pair tod fun hf tof sf=>wpAny_bind (wpAny_letGo (wpAny_pure (wpAny_pure ?_))))))
   replace tof:IsPair hf to x y:=tof
   refine wpAny_bind (wpAny_seqItems tof rfl (wpAny_bind (wpAny_newTuple ?_)))
   have szf:hf.objs.size=s.heap.objs.size:=by rw[sf.1,sd.1,sc.1,sb.1,sa.1]
   have zf:IsZip hf z ti to .ellipsis:=sf.extBut _ _ D.TOz.symm (sd.extBut _ _ D.i2z.symm (sc.extBut _ _ D.TOz.symm (sb.extBut _ _ D.i1z.symm za)))
   have kf:∀ c o,c∉[z,to,i1,i2]->s.heap.get? c=some o->hf.get? c=some o:=fun c o hc' e=>by
    obtain⟨c1,c2,c3,c4⟩:=ne4 hc';exact sf.extBut _ _ c2 (sd.extBut _ _ c4 (sc.extBut _ _ c2 (sb.extBut _ _ c3 (sa.extBut _ _ c1 e))))
   have i1f:hf.IsTupleIter i1 t1 (k+1):=((itb.extBut sc.extBut D.TOi1.symm).extBut sd.extBut D.i12).extBut sf.extBut D.TOi1.symm;have i2f:hf.IsTupleIter i2 t2 (k+1):=itd.extBut sf.extBut D.TOi2.symm;have tif:IsPair hf ti (.ref i1) (.ref i2):=sf.extBut _ _ D.TITO (sd.extBut _ _ D.TIi2 (sc.extBut _ _ D.TITO (sb.extBut _ _ D.TIi1 (sa.extBut _ _ D.TIz hi))));have zlt:z<hf.objs.size:=Heap.lt_size zf;show wpAny _ _ (Builtin.SmallTypes.ownedTupleHandOut (.ref z) (.ref hf.objs.size) >>=_) _ _ _;unfold Builtin.SmallTypes.ownedTupleHandOut;have zg:IsZip (hf.push { cls:=.type "tuple",data:=.seq #[x,y] }) z ti to .ellipsis:=Heap.get?_push_of_some _ zf;refine wpAny_bind (wpAny_bind (wpAny_setField_rec zg (by simp) fun hk zk sk=>wpAny_setField_rec (show IsZip hk z ti to (rawInt hf.objs.size) from zk) (by simp) fun hm zm sm=>wpAny_pure ?_))
   replace zm:IsZip hm z ti to (rawInt hf.objs.size):=zm
   have up:∀ c o,c≠z->hf.get? c=some o->hm.get? c=some o:=fun c o c1 e=>sm.extBut _ _ c1 (sk.extBut _ _ c1 (Heap.get?_push_of_some _ e));have new:IsPair hm hf.objs.size x y:=sm.extBut _ _ (Nat.ne_of_gt zlt) (sk.extBut _ _ (Nat.ne_of_gt zlt) (Heap.get?_push_size _ rfl))
   have szm:hm.objs.size=hf.objs.size+1:=by rw[sm.1,sk.1,Heap.size_push]
   have q:=hs x y hm hx hy ⟨by rw[<- szf];exact zm,up _ _ D.TIz tif,⟨x,y,up _ _ D.TOz tof⟩,i1f.at fun o e=>up _ o D.i1z e,i2f.at fun o e=>up _ o D.i2z e⟩ (by rw[<- szf];exact new) (by rw[szm,szf]) fun c o hc' e=>up c o (ne4 hc').1 (kf c o hc' e)
   rw[<- szf] at q;exact q
  ·have zd:IsZip hd z ti to .ellipsis:=ed _ _ D.i2z.symm (sc.extBut _ _ D.TOz.symm (sb.extBut _ _ D.i1z.symm za))
   have ez:e≠z:=fun q=>by subst q;rw[zd] at oe1;cases oe1;simp at oe2
   refine wpAny_setField_rec zd (by simp) fun hf _ sf=>he hf e (.inr hy) (fun c o hc' q=>?_) ⟨oe,sf.extBut _ _ ez oe1,oe2⟩;obtain⟨c1,c2,c3,c4⟩:=ne4 hc';exact sf.extBut _ _ c1 (ed _ _ c4 (sc.extBut _ _ c2 (sb.extBut _ _ c3 (sa.extBut _ _ c1 q))))
 ·have zb:IsZip hb z ti to .ellipsis:=eb _ _ D.i1z.symm za
  have ez:e≠z:=fun q=>by subst q;rw[zb] at oe1;cases oe1;simp at oe2
  refine wpAny_setField_rec zb (by simp) fun hf _ sf=>he hf e (.inl hx) (fun c o hc' q=>?_) ⟨oe,sf.extBut _ _ ez oe1,oe2⟩;obtain⟨c1,c2,c3,c4⟩:=ne4 hc';exact sf.extBut _ _ c1 (eb _ _ c3 (sa.extBut _ _ c1 q))
theorem jf{z ti to i1 i2 t1 t2:Addr}{k:Nat}{xs ys:Array Value}{Q:Option Value->Shared->Prop}(hh:A.handled=none)(D:ZipApart z ti to i1 i2 t1 t2)(hZ:ZT s.heap z ti to i1 i2 t1 t2 k .none)
  (ht1:s.heap.IsTuple t1 xs) (ht2:s.heap.IsTuple t2 ys)
  (hs : ∀ x y h', xs[k]? = some x -> ys[k]? = some y -> ZT h' z ti to i1 i2 t1 t2 (k + 1) (rawInt s.heap.objs.size) -> IsPair h' s.heap.objs.size x y -> h'.objs.size = s.heap.objs.size + 1 ->
   (∀ c o,c∉[z,to,i1,i2]->s.heap.get? c=some o->h'.get? c=some o)->Q (some (.ref s.heap.objs.size)) { s with heap:=h' })
  (he:∀ h',(xs[k]?=none\/ys[k]?=none)->(∀ c o,c∉[z,to,i1,i2]->s.heap.get? c=some o->h'.get? c=some o)->Q none { s with heap:=h' }) :
  wpAny (model prog w) A (pyNext (.ref z)) Q E s:=by
 have hT:s.TypeIs (.ref z) "zip":=⟨_,hZ.hz,rfl⟩;unfold pyNext
 refine wpAny_bind (wpAny_attempt (wpAny_callSpecial?_slot (name:=Str.ofString "__next__") hT F.slot_zip_next (wpAny_call_entry F.slot_zip_next hT F.entry_zip_next
  (tW hh D hZ ht1 ht2 (fun x y h' a1 a2 a3 a4 a5 a6=>⟨_,rfl,wpAny_pure (hs x y h' a1 a2 a3 a4 a5 a6)⟩) fun h' e a1 a2 ⟨o,e1,e2⟩=>?_) (F.args_zip_next_1 _))))
 exact wpAny_bind (wpAny_isInstance (T:="StopIteration") (b:=true) ⟨o,e1,e2⟩ isSubtype_stop (wpAny_pure (he h' a1 a2)))
abbrev itT(t:Addr):Obj:={ cls:=.type "tuple_iterator",data:=.fields #[.ref t,.int 0 0] }
theorem Cr(hp H1 H2 H3 H4 H5:Heap)(t1 t2:Addr)(e1:H1=hp.push (itT t1))(e2:H2=H1.push (itT t2))(e3:H3=H2.push { cls:=.type "tuple",data:=.seq #[.ref hp.objs.size,.ref H1.objs.size] })(e4:H4=H3.push { cls:=.type "tuple",data:=.seq #[.none,.none] })
  (e5:H5=H4.push { cls:=.type "zip",data:=.fields #[.none,.bool false,.bool false,.ref H2.objs.size,.ref H3.objs.size] }) :
  H4.objs.size=hp.objs.size+4/\H5.objs.size=hp.objs.size+5/\(∀ c o,hp.get? c=some o->H5.get? c=some o)/\ZT H5 (hp.objs.size+4) (hp.objs.size+2) (hp.objs.size+3) hp.objs.size (hp.objs.size+1) t1 t2 0 .none:=by
 have z1:H1.objs.size=hp.objs.size+1:=by rw[e1,Heap.size_push]
 have z2:H2.objs.size=hp.objs.size+2:=by rw[e2,Heap.size_push,z1]
 have z3:H3.objs.size=hp.objs.size+3:=by rw[e3,Heap.size_push,z2]
 have z4:H4.objs.size=hp.objs.size+4:=by rw[e4,Heap.size_push,z3]
 have z5:H5.objs.size=hp.objs.size+5:=by rw[e5,Heap.size_push,z4]
 have k5:∀ c o,H4.get? c=some o->H5.get? c=some o:=fun c o e=>by rw[e5];exact Heap.get?_push_of_some _ e
 have k4:∀ c o,H3.get? c=some o->H5.get? c=some o:=fun c o e=>k5 c o (by rw[e4];exact Heap.get?_push_of_some _ e)
 have k3:∀ c o,H2.get? c=some o->H5.get? c=some o:=fun c o e=>k4 c o (by rw[e3];exact Heap.get?_push_of_some _ e)
 have k2:∀ c o,H1.get? c=some o->H5.get? c=some o:=fun c o e=>k3 c o (by rw[e2];exact Heap.get?_push_of_some _ e)
 have k1:∀ c o,hp.get? c=some o->H5.get? c=some o:=fun c o e=>k2 c o (by rw[e1];exact Heap.get?_push_of_some _ e)
 refine⟨z4,z5,k1,?_,?_,⟨.none,.none,?_⟩,⟨_,k2 _ _ (by rw[e1];exact Heap.get?_push_size _ rfl),rfl,rfl⟩,⟨_,k3 _ _ (by rw[e2,<- z1];exact Heap.get?_push_size _ rfl),rfl,rfl⟩⟩
 ·have q:H5.get? H4.objs.size=some { cls:=.type "zip",data:=.fields #[.none,.bool false,.bool false,.ref H2.objs.size,.ref H3.objs.size] }:=by rw[e5];exact Heap.get?_push_size _ rfl
  rw[z2,z3,z4] at q;exact q
 ·have q:H5.get? H2.objs.size=some { cls:=.type "tuple",data:=.seq #[.ref hp.objs.size,.ref H1.objs.size] }:=k4 _ _ (by rw[e3];exact Heap.get?_push_size _ rfl)
  rw[z1,z2] at q;exact q
 ·have q:H5.get? H3.objs.size=some { cls:=.type "tuple",data:=.seq #[.none,.none] }:=k5 _ _ (by rw[e4];exact Heap.get?_push_size _ rfl)
  rw[z3] at q;exact q
theorem yd(t1 t2:Addr)(xs ys:Array Value) :
    Meets (Builtin.«zip.__new__» ⟨[.type "zip",.ref t1,.ref t2],[]⟩) (fun _ R s=>s.heap.IsTuple t1 xs/\s.heap.IsTuple t2 ys /\
      ∀ h', (∀ c o, s.heap.get? c = some o -> h'.get? c = some o) -> h'.objs.size = s.heap.objs.size + 5 -> ZT h' (s.heap.objs.size + 4) (s.heap.objs.size + 2) (s.heap.objs.size + 3) s.heap.objs.size (s.heap.objs.size + 1) t1 t2 0 .none ->
        R (.ok (.ret (.ref (s.heap.objs.size+4)))) { s with heap:=h' }) :=
  .of_wp fun prog w A R s h=>by
    obtain⟨hp,g,d,tk,os⟩:=s;obtain⟨hl1,hl2,h⟩:=h
    have hsub:=sub_zip
    have hL1:Heap.IsTuple (Shared.heap ⟨hp,g,d,tk,os⟩) t1 xs:=hl1
    have hL2:Heap.IsTuple (Shared.heap ⟨hp.push (itT t1),g,d,tk,os⟩) t2 ys:=let ⟨o,e,r⟩:=hl2;⟨o,Heap.get?_push_of_some _ e,r⟩
    wp_walk using wpAny_pyIter_tuple hL1,wpAny_pyIter_tuple hL2
    refine⟨_,rfl,?_⟩
    obtain⟨z4,z5,kp,Z⟩:=Cr hp _ _ _ _ _ t1 t2 rfl rfl rfl rfl rfl
    have q:=h _ kp z5 Z
    rw[<- z4] at q
    exact q
theorem wU{t1 t2:Addr}{xs ys:Array Value}{Q:Value->Shared->Prop}(hl1:s.heap.IsTuple t1 xs)(hl2:s.heap.IsTuple t2 ys)
  (h : ∀ h', (∀ c o, s.heap.get? c = some o -> h'.get? c = some o) -> h'.objs.size = s.heap.objs.size + 5 -> ZT h' (s.heap.objs.size + 4) (s.heap.objs.size + 2) (s.heap.objs.size + 3) s.heap.objs.size (s.heap.objs.size + 1) t1 t2 0 .none ->
   Q (.ref (s.heap.objs.size+4)) { s with heap:=h' }):wpAny (model prog w) A (call (.type "zip") [.ref t1,.ref t2]) Q E s:=by
 refine callType_new F.called_zip (by decide) (F.typeCall_zip_2 _ _) (F.newCall_zip_2 _ _) (fun obj=>F.args_object_init_3 obj _ _) F.entry_zip_new (yd t1 t2 xs ys) ⟨hl1,hl2,fun h' kp z5 Z=>?_⟩;exact⟨⟨_,Z.hz,rfl⟩,h h' kp z5 Z⟩
end
end L2
namespace L2
open PySem PySem.Spec PyProof.Rows
namespace RF
end RF
end L2
namespace L2
open PySem PySem.Spec PyProof.Rows
section
variable {prog:Program} {w:World} {A:Around} {E:Value->Shared->Prop} {s:Shared}
end
end L2
namespace L2
open PySem PySem.Spec PyProof.Rows PySem.SeqAt
section
variable {prog:Program} {w:World} {A:Around} {E:Value->Shared->Prop} {s:Shared}
end
end L2
namespace L2
open PySem PySem.Spec PyProof.Rows
def Itz(K:PySem.W.Frag)(t1 t2:Addr):It :=
  ⟨fun i H=>∃ xs ys x y,SqT K H t1 xs/\SqT K H t2 ys/\xs[i]?=some x/\ys[i]?=some y,
   fun i H v H'=>∃ p,H p=none/\v=.ref p/\∀ xs ys x y,SqT K H t1 xs->SqT K H t2 ys->xs[i]?=some x->ys[i]?=some y->H'=upd H p (.tup [x,y]),
   fun i H=>∃ xs ys,SqT K H t1 xs/\SqT K H t2 ys/\(xs.length<=i\/ys.length<=i)⟩
theorem Inv.turnedNew{X:Cx}{pins:List (Addr×Obj)}{σ:St}{H:Hp}{s:Shared}{h':Heap}{ch:List Addr}{o:HO}{t':Nat}(I:Inv X pins σ H s)(hf:∀ b∈ch,qb X pins H b)(k:∀ b u,b∉ch->s.heap.get? b=some u->h'.get? b=some u)
  (new:cV X.prog X.w (upd H s.heap.objs.size o) h' s.heap.objs.size o):Inv X pins σ (upd H s.heap.objs.size o) { s with heap:=h',toks:=t' }:=by
 have hn:H s.heap.objs.size=none:=I.hok.fresh (Nat.le_refl _);refine I.call' (s':={ s with heap:=h',toks:=t' }) (ch:=ch) rfl ?_ ?_ I.bare fun b hb=>⟨(hf b hb).2.2.2.1,(hf b hb).2.1,(hf b hb).2.2.2.2.1,(hf b hb).2.2.2.2.2⟩
 ·refine⟨fun b u e _ _ hc=>k b u hc e,fun b u e _ _ hc=>⟨u.slots,k b u hc e⟩,fun b u e n hc=>?_,fun b u e hc=>⟨u,k b u hc e⟩,fun b xs e=>?_,fun b u xs e=>?_,fun b ps e=>⟨#[],?_⟩⟩
  ·rw[aH (Nat.ne_of_lt (Heap.lt_size e))];exact n
  ·rw[aH (aF e hn)];exact e
  ·rw[aH (aF e hn)];exact e
  ·rw[aH (aF e hn),e];simp
 ·intro b u e
  by_cases hb:b=s.heap.objs.size
  ·subst hb;rw[aR] at e;cases e;exact new
  ·rw[aH hb] at e
   refine(I.hok b u e).stay (fun c v hc q=>k c v (fun z=>?_) q) (fun c q=>by rw[aH (aF q hn)];exact q) fun c xs q=>by rw[aH (aF q hn)];exact q
   have zn:=(hf c z).1;rcases hc with rfl | hc
   ·rw[zn] at e;cases e
   ·rw[zn] at hc;cases hc
theorem Inv.turnedAll{X:Cx}{pins:List (Addr×Obj)}{σ:St}{H:Hp}{s:Shared}{h':Heap}{ch:List Addr}{t':Nat}(I:Inv X pins σ H s)(hf:∀ b∈ch,qb X pins H b)(k:∀ b u,b∉ch->s.heap.get? b=some u->h'.get? b=some u) :
  Inv X pins σ H { s with heap:=h',toks:=t' }:=by
 refine I.call' (s':={ s with heap:=h',toks:=t' }) (ch:=ch) rfl ?_ ?_ I.bare fun b hb=>⟨(hf b hb).2.2.2.1,(hf b hb).2.1,(hf b hb).2.2.2.2.1,(hf b hb).2.2.2.2.2⟩
 ·exact⟨fun b u e _ _ hc=>k b u hc e,fun b u e _ _ hc=>⟨u.slots,k b u hc e⟩,fun b u e n hc=>n,fun b u e hc=>⟨u,k b u hc e⟩,fun b xs e=>e,fun b u xs e=>e,fun b ps e=>⟨#[],by rw[e];simp⟩⟩
 ·intro b u e
  refine(I.hok b u e).stay (fun c v hc q=>k c v (fun z=>?_) q) (fun c q=>q) fun c xs q=>q;have zn:=(hf c z).1;rcases hc with rfl | hc
  ·rw[zn] at e;cases e
  ·rw[zn] at hc;cases hc
theorem yr{P:Program}{w:World}{K:PySem.W.Frag}{es:List Expr}{kt:Nat}{pt:Pos}{z ti to i1 i2 t1 t2:Addr}(D:ZipApart z ti to i1 i2 t1 t2) :
    Turn P w K (.Tuple es kt pt) (Itz K t1 t2) [z,ti,to,i1,i2] z (fun i h=>ZT h z ti to i1 i2 t1 t2 i .none) where
  mem:=by simp
  obj:=fun i h st b hb=>by
    simp at hb
    rcases hb with rfl | rfl | rfl | rfl | rfl
    · exact⟨_,st.hz,fun v q=>by have q':Data.fields _=Data.cell v:=q;cases q'⟩
    · exact⟨_,st.hi,fun v q=>by have q':Data.seq _ _=Data.cell v:=q;cases q'⟩
    · obtain⟨a,c,e⟩:=st.ho
      exact⟨_,e,fun v q=>by have q':Data.seq _ _=Data.cell v:=q;cases q'⟩
    · obtain⟨o,e,_,d⟩:=st.h1
      exact⟨o,e,fun v q=>by rw[d] at q;cases q⟩
    · obtain⟨o,e,_,d⟩:=st.h2
      exact⟨o,e,fun v q=>by rw[d] at q;cases q⟩
  keep:=fun i h h' st k=>st.keep k
  item:=by
    intro X hP hw hK hc i pins s σ H E I hf st hg
    subst hP hw hK
    obtain⟨xs,ys,x,y,hq1,hq2,hx,hy⟩:=hg
    obtain⟨its1,rv1,p1,_⟩:=I.tuple hq1
    obtain⟨its2,rv2,p2,_⟩:=I.tuple hq2
    obtain⟨u1,hu1,ru1⟩:=rv1.get hx
    obtain⟨u2,hu2,ru2⟩:=rv2.get hy
    refine jf (I.ok.hd hc) D st (show s.heap.IsTuple t1 its1.toArray from p1) (show s.heap.IsTuple t2 its2.toArray from p2) (fun a b h' ha hb Z pr sz kp=>?_) fun h' hn _=>?_
    · have ea : a = u1 := by have : its1[i]? = some a := by simpa using ha
                             rw[hu1] at this;exact(Option.some.inj this).symm
      have eb : b = u2 := by have : its2[i]? = some b := by simpa using hb
                             rw[hu2] at this;exact(Option.some.inj this).symm
      subst ea eb
      have szl:2<=sizeLine:=by decide
      have hf4:∀ c∈[z,to,i1,i2],qb X pins H c:=fun c hc'=>hf c (by simp at hc' ⊢;rcases hc' with h | h | h | h<;>simp[h])
      have I1:Inv X pins σ (upd H s.heap.objs.size (.tup [x,y])) { s with heap:=h',toks:=s.toks }:=I.turnedNew hf4 kp ⟨szl,[a,b],.cons ru1 (.cons ru2 .nil),⟨_,pr,rfl,_,rfl⟩⟩
      have fresh:H s.heap.objs.size=none:=I.hok.fresh (Nat.le_refl _)
      have ltf:∀ c∈[z,ti,to,i1,i2],c≠s.heap.objs.size:=fun c hc' e=>by
        have:H c=none:=(hf c hc').1
        simp at hc'
        have lt:c<s.heap.objs.size:=by
          rcases hc' with rfl | rfl | rfl | rfl | rfl
          · exact Heap.lt_size st.hz
          · exact Heap.lt_size st.hi
          · obtain⟨_,_,e'⟩:=st.ho;exact Heap.lt_size e'
          · obtain⟨o,e',_⟩:=st.h1;exact Heap.lt_size e'
          · obtain⟨o,e',_⟩:=st.h2;exact Heap.lt_size e'
        exact Nat.ne_of_lt lt e
      refine⟨_,rfl,wpAny_letOwnedTupleGo_zip (s:={ s with heap:=h' }) Z.hz fun h2 z2 sb=>?_⟩
      have fz:=hf z (by simp)
      have I2:Inv X pins σ (upd H s.heap.objs.size (.tup [x,y])) { s with heap:=h2 }:=I1.turned (t':=s.toks) (fun c o hc' e=>(sb.2 c hc').trans e) (by rw[aH (ltf z (by simp))];exact fz.1) fz.2.1 fz.2.2.2.1 fz.2.2.2.2.1 fz.2.2.2.2.2
      refine⟨.ref s.heap.objs.size,_,I2,rfl,⟨_,fresh,rfl,fun xs' ys' x' y' a1 a2 a3 a4=>?_⟩,?_,fun c hc'=>by rw[aH (ltf c hc')];exact(hf c hc').1⟩
      · have e1:=I.tuple_inj a1 hq1
        have e2:=I.tuple_inj a2 hq2
        subst e1 e2
        rw[hx] at a3;rw[hy] at a4
        cases a3;cases a4
        rfl
      · obtain⟨a',b',e'⟩:=Z.ho
        exact⟨z2,(sb.2 ti D.TIz).trans Z.hi,⟨a',b',(sb.2 to D.TOz).trans e'⟩,Z.h1.at fun o e=>(sb.2 i1 D.i1z).trans e,Z.h2.at fun o e=>(sb.2 i2 D.i2z).trans e⟩
    · rcases hn with hn | hn
      · have:its1[i]?=none:=by simpa using hn
        rw[hu1] at this;cases this
      · have:its2[i]?=none:=by simpa using hn
        rw[hu2] at this;cases this
  done:=by
    intro X hP hw hK hc i pins s σ H E I hf st hg
    subst hP hw hK
    obtain⟨xs,ys,hq1,hq2,hl⟩:=hg
    obtain⟨its1,rv1,p1,_⟩:=I.tuple hq1
    obtain⟨its2,rv2,p2,_⟩:=I.tuple hq2
    have l1:=rv1.length
    have l2:=rv2.length
    refine jf (I.ok.hd hc) D st (show s.heap.IsTuple t1 its1.toArray from p1) (show s.heap.IsTuple t2 its2.toArray from p2) (fun a b h' ha hb Z pr sz kp=>?_) fun h' _ kp=>⟨rfl,?_⟩
    · exfalso
      have h1 : i < its1.length := by have : its1[i]? = some a := by simpa using ha
                                      exact(List.getElem?_eq_some_iff.mp this).1
      have h2 : i < its2.length := by have : its2[i]? = some b := by simpa using hb
                                      exact(List.getElem?_eq_some_iff.mp this).1
      omega
    · have hf4:∀ c∈[z,to,i1,i2],qb X pins H c:=fun c hc'=>hf c (by simp at hc' ⊢;rcases hc' with h | h | h | h<;>simp[h])
      exact I.turnedAll (t':=s.toks) hf4 kp
  self:=fun _ _ _ _ _ st h=>wpAny_pyIter_zip st.hz h
section
variable {X:Cx}
def Tv(K:PySem.W.Frag)(ta:TA):TI:=fun σ H R=>ta σ H fun vs H1=>∃ a b,vs=[.ref a,.ref b]/\(∃ xs,SqT K H1 a xs)/\(∃ ys,SqT K H1 b ys)/\R (Itz K a b) H1
theorem Je{a b:Expr}{ta:TA}{p pos pt:Pos}{es:List Expr}{kt:Nat}(hg:Gl X "zip")(hm:X.mg "zip"=none)(ha:PA X [a,b] ta)(hs:starEach [a,b] X.env=[(false,eval a X.env),(false,eval b X.env)])(hs2:starEach [b] X.env=[(false,eval b X.env)]) :
  PI X (.Tuple es kt pt) (.Call (.Name "zip" p) [a,b] [] pos) (Tv X.K ta):=by
 intro pins s σ H R I h;refine Call_ (cQ I hg hm boot_zip (PyProof.Rows.callWith_type1 (thn (ha pos pins s σ H _ I h) fun us s1 ⟨vs,H1,I1,r1,q1⟩=>?_) (by rw[hs,hs2]) (by rw[hs2];rfl)));obtain⟨a1,b1,e,⟨xs,hx⟩,⟨ys,hy⟩,q⟩:=q1;subst e
 cases r1 with
 | cons r rr =>
  cases rr with
  | cons r' rr =>
   cases rr;cases (show _=Value.ref a1 from r);cases (show _=Value.ref b1 from r');obtain⟨its1,_,p1,_⟩:=I1.tuple hx;obtain⟨its2,_,p2,_⟩:=I1.tuple hy;refine wU (show s1.heap.IsTuple a1 its1.toArray from p1) (show s1.heap.IsTuple b1 its2.toArray from p2) fun h' kp sz Z=>?_;refine wpAny_pyIter_zip (s:={ s1 with heap:=h' }) Z.hz ?_;have I2:Inv X pins σ H1 { s1 with heap:=h' }:=I1.kept (t':=s1.toks) kp;refine⟨s1.heap.objs.size+4,_,_,_,H1,rfl,I2,yr (zipApart_new p1.lt p2.lt),Z,fun c hc=>?_,q⟩
   have hc':s1.heap.objs.size<=c:=by
    simp at hc
    rcases hc with h | h | h | h | h<;>rw[h]<;>first | exact Nat.le_refl _ | exact Nat.le_add_right _ _
   exact I1.fpOk hc' (I1.hok.fresh hc')
end
end L2
namespace L2
open PySem PySem.Spec PyProof.Rows
def RP(K:PySem.W.Frag)(t:Addr)(n:Nat):It :=
 ⟨fun i H=>∃ ys,SqL K H t ys/\ys.length=n/\i<n,fun i H x H'=>H'=H/\∀ ys,SqL K H t ys->ys[n-1-i]?=some x,fun i _=>i=n⟩
theorem uh{P:Program}{w:World}{K:PySem.W.Frag}{tg:Expr}(t r:Addr)(n:Nat):Turn P w K tg (RP K t n) [r] r (fun i h=>h.IsRevIter r t ((n:Int)-1-(i:Int))) where
 mem:=by simp
 obj:=fun i h st b hb=>by
  have e:b=r:=by simpa using hb
  subst e;obtain⟨o,h1,h2,h3⟩:=st;exact⟨o,h1,fun v z=>by rw[h3] at z;cases z⟩
 keep:=fun i h h' st k=>st.at fun o e=>k r (by simp) o e
 item:=by
  intro X hP hw hK hc i pins s σ H E I hf st hg;subst hP hw hK;obtain⟨ys,hq,hl,hi⟩:=hg;obtain⟨its,rv,p0,_⟩:=I.list hq;have p:=p0.isList
  have hn:its.length=n:=by rw[<- rv.length,hl]
  obtain⟨f0,f1,f2,f3,f4,f5⟩:=hf r (by simp)
  have e1:(n:Int)-1-(i:Int)=((n-1-i:Nat):Int):=by omega
  have st':=st;rw[e1] at st'
  have hlt:n-1-i<its.length:=by omega
  obtain⟨x,hx,rx⟩:∃ x,ys[n-1-i]?=some x/\RelV x its[n-1-i]:=by
   have hly:n-1-i<ys.length:=by omega
   obtain⟨u,hu,ru⟩:=rv.get (i:=n-1-i) (x:=ys[n-1-i]) (by simp);rw[List.getElem?_eq_getElem hlt] at hu;cases hu;exact⟨_,by simp,ru⟩
  refine wpAny_pyNext_rev_item st' p (x:=its[n-1-i]) (by simp[hlt]) fun h' st2 sb=>?_;have I1:Inv X pins σ H { s with heap:=h' }:=I.turned (t':=s.toks) (fun b o hb e=>(sb.2 b hb).trans e) f0 f1 f3 f4 f5
  have e2:((n-1-i:Nat):Int)-1=(n:Int)-1-((i+1:Nat):Int):=by omega
  rw[e2] at st2;obtain⟨o,g1,g2,g3⟩:=st2;exact⟨_,rfl,v7 (s:={ s with heap:=h' }) (n:="list_reverseiterator") g1 g2 g3 (by decide) ⟨x,H,I1,rx,⟨rfl,fun zs hy=>by rw[I.list_inj hy hq];exact hx⟩,⟨o,g1,g2,g3⟩,fun b hb=>(hf b hb).1⟩⟩
 done:=by
  intro X hP hw hK hc i pins s σ H E I hf st hg;subst hP hw hK;obtain⟨f0,f1,f2,f3,f4,f5⟩:=hf r (by simp);have hg':i=n:=hg
  have e1:(n:Int)-1-(i:Int)=-1:=by omega
  rw[e1] at st;exact wpAny_pyNext_rev_end (I.ok.hd hc) st fun h' eb=>⟨rfl,I.turned (t':=s.toks) (fun b o hb e=>eb b o hb e) f0 f1 f3 f4 f5⟩
 self:=fun _ _ _ _ _ st h=>wpAny_pyIter_revIter st h
section
variable {X:Cx}
def PB(K:PySem.W.Frag)(ta:TA):TI:=fun σ H R=>ta σ H fun vs H1=>∃ a xs,vs=[.ref a]/\SqL K H1 a xs/\R (RP K a xs.length) H1
theorem yR{a:Expr}{ta:TA}{p pos:Pos}{tg:Expr}(hg:Gl X "reversed")(hm:X.mg "reversed"=none)(ha:PA X [a] ta)(hs:starEach [a] X.env=[(false,eval a X.env)]) :
  PI X tg (.Call (.Name "reversed" p) [a] [] pos) (PB X.K ta):=by
 intro pins s σ H R I h;refine Call_ (cQ I hg hm boot_reversed (PyProof.Rows.callWith_type1 (thn (ha pos pins s σ H _ I h) fun us s1 ⟨vs,H1,I1,r1,q1⟩=>?_) hs rfl));obtain⟨a1,xs,e,hx,q⟩:=q1;subst e
 cases r1 with
 | cons r rr =>
  cases rr;cases (show _=Value.ref a1 from r);obtain⟨its1,rv,p0,_⟩:=I1.list hx;have p1:=p0.isList;have hl:=rv.length;refine call_reversed_list p1 ?_
  have st:(s1.heap.push (revObj a1 ((its1.toArray.size:Int)-1))).IsRevIter s1.heap.objs.size a1 ((xs.length:Int)-1-((0:Nat):Int)):=by
   have e0:((xs.length:Int)-1-((0:Nat):Int))=(its1.toArray.size:Int)-1:=by rw[List.size_toArray];omega
   rw[e0];exact⟨_,Heap.get?_push_size _ rfl,rfl,rfl⟩
  refine wpAny_pyIter_revIter (s:={ s1 with heap:=s1.heap.push (revObj a1 ((its1.toArray.size:Int)-1)) }) st ?_;refine⟨s1.heap.objs.size,_,_,_,H1,rfl,I1.kept (t':=s1.toks) fun b o e=>Heap.get?_push_of_some _ e,uh a1 _ xs.length,st,fun c hc=>?_,q⟩
  have hc':c=s1.heap.objs.size:=by simpa using hc
  subst hc';exact I1.fpOk (Nat.le_refl _) (I1.hok.fresh (Nat.le_refl _))
end
end L2
namespace L2
open PySem PySem.Spec PyProof.Rows
def K1(hi:Int)(n:Nat):It:=⟨fun i _=>i<n,fun i H x H'=>H'=H/\x=.int (hi-i),fun i _=>n<=i⟩
theorem oY{P:Program}{w:World}{K:PySem.W.Frag}{tg:Expr}(it:Addr)(hi:Int)(n:Nat):Turn P w K tg (K1 hi n) [it] it (fun i h=>IsRangeIter h it (hi+(i:Nat)*(-1)) ((n:Int)-(i:Nat)) (-1)) where
 mem:=by simp
 obj:=fun i h st b hb=>by
  have e:b=it:=by simpa using hb
  subst e
  exact⟨_,st,fun v z=>by
   have z':Data.fields _=Data.cell v:=z
   cases z'⟩
 keep:=fun i h h' st k=>k it (by simp) _ st
 item:=by
  intro X hP hw hK hc i pins s σ H E I hf st hg;subst hP hw hK;obtain⟨f0,f1,f2,f3,f4,f5⟩:=hf it (by simp);have W:=Walks.range (prog:=X.prog) (w:=X.w) (I.ok.hd hc) it hi (-1) n;refine W.item i s _ _ hg st fun v h' tk hv st' kk=>?_;obtain⟨t,rfl⟩:=hv;have I1:Inv X pins σ H { s with heap:=h',toks:=tk }:=I.turned (fun b o hb e=>kk b o (by simpa using hb) e) f0 f1 f3 f4 f5;refine⟨_,rfl,v7 (s:={ s with heap:=h',toks:=tk }) (n:="range_iterator") st' rfl rfl (by decide) ⟨.int (hi-i),H,I1,⟨t,?_⟩,⟨rfl,rfl⟩,st',fun b hb=>(hf b hb).1⟩⟩;rw[show hi+(i:Int)*(-1)=hi-i by omega]
 done:=by
  intro X hP hw hK hc i pins s σ H E I hf st hg;subst hP hw hK;obtain⟨f0,f1,f2,f3,f4,f5⟩:=hf it (by simp);exact wpAny_pyNext_range_end (I.ok.hd hc) st (by have:n<=i:=hg;omega) fun h' eb=>⟨rfl,I.turned (t':=s.toks) (fun b o hb e=>eb b o hb e) f0 f1 f3 f4 f5⟩
 self:=fun _ _ _ _ _ st h=>wpAny_pyIter_rangeiter st h
theorem gU(a b:Int):Builtin.Range.rangeSize a b (-1)=if b<a then a-b else 0:=by
 unfold Builtin.Range.rangeSize;simp only[show ¬ (-1:Int)>0 by decide,if_false,show -(-1:Int)=1 by decide,Int.ediv_one]
 split<;>omega
theorem yF{a b:Int}(ha:-(2^62)<=a)(ha':a<2^62)(hb:-(2^62)<=b)(hb':b<2^62):Builtin.Range.small a b (-1)=true:=by
 unfold Builtin.Range.small;rw[gU];simp only[Builtin.Range.rangeFitsLong,Bool.and_eq_true,Bool.or_eq_true,decide_eq_true_eq,beq_iff_eq,show ¬ (-1:Int)>0 by decide,if_false]
 split<;>omega
section
variable {X:Cx} {tg:Expr}
theorem uT{pins:List (Addr×Obj)}{σ:St}{H:Hp}{s:Shared}{R:It->Hp->Prop}{E:Value->Shared->Prop}{hi lo:Int}{t u v:Tok}{tk:Nat}(I:Inv X pins σ H s)(h1:-(2^62)<=hi)(h2:hi<2^62)(h3:-(2^62)<=lo)(h4:lo<2^62)
  (q:R (K1 hi (hi-lo).toNat) H):wpAny (model X.prog X.w) X.A (pyIter (.ref s.heap.objs.size)) (PIE X pins σ tg R) E { s with heap:=s.heap.push { cls:=.type "range",data:=.fields #[.int hi t,.int lo u,.int (-1) v] },toks:=tk }:=by
 refine wpAny_pyIter_range (IsRange.new ..) (yF h1 h2 h3 h4) ?_;have I1:Inv X pins σ H { s with heap:=s.heap.push { cls:=.type "range",data:=.fields #[.int hi t,.int lo u,.int (-1) v] },toks:=tk }:=I.kept fun b o e=>Heap.get?_push_of_some _ e
 refine⟨(s.heap.push { cls:=.type "range",data:=.fields #[.int hi t,.int lo u,.int (-1) v] }).objs.size,[(s.heap.push { cls:=.type "range",data:=.fields #[.int hi t,.int lo u,.int (-1) v] }).objs.size],_,_,H,rfl,
  I1.kept (t':=tk) fun b o e=>Heap.get?_push_of_some _ e,oY _ hi (hi-lo).toNat,?_,fun b hb=>?_,q⟩
 ·have e1:hi+((0:Nat):Int)*(-1)=hi:=by simp
  have e2:(((hi-lo).toNat:Nat):Int)-((0:Nat):Int)=Builtin.Range.rangeSize hi lo (-1):=by rw[gU];split<;>omega
  show IsRangeIter _ _ (hi+((0:Nat):Int)*(-1)) ((((hi-lo).toNat:Nat):Int)-((0:Nat):Int)) (-1);rw[e1,e2];exact Heap.get?_push_size _ rfl
 ·have e:b=(s.heap.push { cls:=.type "range",data:=.fields #[.int hi t,.int lo u,.int (-1) v] }).objs.size:=by simpa using hb
  subst e;exact I1.fpOk (Nat.le_refl _) (I1.hok.fresh (Nat.le_refl _))
def Px(ta:TA):TI:=fun σ H R=>ta σ H fun vs H1=>∃ i j:Int,vs=[.int i,.int j,.int (-1)]/\(-(2^62)<=i/\i<2^62 /\ -(2^62)<=j/\j<2^62)/\R (K1 i (i-j).toNat) H1
theorem u6{a b c:Expr}{ta:TA}{p pos:Pos}(hg:Gl X "range")(hm:X.mg "range"=none)(ha:PA X [a,b,c] ta)(hs:starEach [a,b,c] X.env=[(false,eval a X.env),(false,eval b X.env),(false,eval c X.env)])(hs2:starEach [b,c] X.env=[(false,eval b X.env),(false,eval c X.env)]) :
  PI X tg (.Call (.Name "range" p) [a,b,c] [] pos) (Px ta):=by
 intro pins s σ H R I h;refine Call_ (cQ I hg hm boot_range (PyProof.Rows.callWith_type1 (thn (ha pos pins s σ H _ I h) fun us s1 ⟨vs,H1,I1,r1,q1⟩=>?_) (by rw[hs,hs2]) (by rw[hs2];rfl)));obtain⟨i,j,e,⟨q1,q2,q3,q4⟩,q⟩:=q1;subst e
 cases r1 with
 | cons r rr =>
  cases rr with
  | cons r' rr =>
   cases rr with
   | cons r'' rr =>
    cases rr;obtain⟨t,rfl⟩:=r;obtain⟨t',rfl⟩:=r';obtain⟨t'',rfl⟩:=r'';exact call_range_3 (by decide) (uT I1 q1 q2 q3 q4 q) (Or.inl (PyProof.noPylong_small (by omega)))
end
end L2
namespace L2
open PySem PySem.Spec PyProof.Rows
section
variable {prog:Program} {w:World} {A:Around} {E:Value->Shared->Prop} {s:Shared}
theorem Cd(hh:A.handled=none)(it t:Addr)(ap:t≠it)(its:Array Value):Draws prog w A it [it,t] its.size (fun k v=>its[k]?=some v) (fun k h=>h.IsTupleIter it t k/\h.IsTuple t its) where
 live:=fun _ _ q=>by obtain⟨⟨o,e,_⟩,_⟩:=q;exact⟨o,e⟩
 frame:=fun _ _ _ q kp=>by
  obtain⟨⟨o,e,r⟩,⟨o2,e2,r2⟩⟩:=q;exact⟨⟨o,kp it (by simp) o e,r⟩,⟨o2,kp t (by simp) o2 e2,r2⟩⟩
 item:=fun k s Q E lt q fin=>Ag hh q.1 q.2 (fun x h' hx a sb=>fin x h' s.toks hx ⟨a,by obtain⟨o2,e2,r2⟩:=q.2;exact⟨o2,(sb.2 t ap).trans e2,r2⟩⟩ sb) fun h' e hx _ _=>by
  have:its[k]?=some its[k]:=by simp[lt]
  rw[this] at hx;cases hx
 done:=fun s Q E q fin=>Ag hh q.1 q.2 (fun x h' hx _ _=>by simp at hx) fun h' e _ a b=>fin h' e a b
set_option maxHeartbeats 1000000 in
theorem wF(t:Addr)(its:Array Value)(n:Nat)(dd:Option Addr)(sl:Array (Option Value)) :
  Meets (Builtin.«enumerate.__new__» ⟨[.type "enumerate",.ref t],[]⟩) (fun _ R s=>s.heap.get? t=some { cls:=.type "tuple",dict:=dd,data:=.seq its n,slots:=sl } /\
   R (.ok (.ret (.ref (s.heap.push (itT t)).objs.size))) { s with heap:=(s.heap.push (itT t)).push { cls:=.type "enumerate",data:=.fields #[.none,.bool false,.ref s.heap.objs.size,rawInt 0,.none,.none] } }) :=
 .of_wp fun prog w A R s h=>by
  obtain⟨hp,g,d,tk,os⟩:=s;obtain⟨hl,h⟩:=h
  have hsub:=sub_enumerate;have hL:Heap.IsTuple (Shared.heap ⟨hp,g,d,tk,os⟩) t its:=⟨_,hl,rfl,n,rfl⟩
  wp_walk using AutoSeq1.wpAny_loadPart' hl
  refine wpAny_stack_any fun fr=>wpAny_pure ?_;split
  ·rename_i c _ _ _ _ _
   cases (c==Value.type "enumerate")<;>(wp_walk using AutoSeq1.wpAny_loadPart' hl,wpAny_pyIter_tuple hL;exact⟨_,rfl,h⟩)
  ·wp_walk using AutoSeq1.wpAny_loadPart' hl,wpAny_pyIter_tuple hL;exact⟨_,rfl,h⟩
theorem tL{t:Addr}{its:Array Value}{Q:Value->Shared->Prop}(ht:s.heap.IsTuple t its)
  (q:∀ h',IsEnum h' (s.heap.objs.size+1) s.heap.objs.size 0 .none->h'.IsTupleIter s.heap.objs.size t 0->(∀ b o,s.heap.get? b=some o->h'.get? b=some o)->Q (.ref (s.heap.objs.size+1)) { s with heap:=h' }) :
  wpAny (model prog w) A (call (.type "enumerate") [.ref t]) Q E s:=by
 obtain⟨⟨c,dd,dt,sl⟩,e,hc,n,hd⟩:=ht;cases (show c=.type "tuple" from hc);cases (show dt=.seq its n from hd);refine callType_new F.called_enumerate (by decide) (F.typeCall_enumerate_1 _) (F.newCall_enumerate_1 _) (fun obj=>F.args_object_init_2 obj _) F.entry_enumerate_new (wF t its n dd sl) ⟨e,?_⟩;have z:(s.heap.push (itT t)).objs.size=s.heap.objs.size+1:=Heap.size_push ..;have en:=Heap.get?_push_size (s.heap.push (itT t)) (o:={ cls:=.type "enumerate",data:=.fields #[.none,.bool false,.ref s.heap.objs.size,rawInt 0,.none,.none] }) rfl;rw[z] at en;show _/\_;rw[z];exact⟨⟨_,en,rfl⟩,q _ en ⟨_,Heap.get?_push_of_some _ (Heap.get?_push_size _ rfl),rfl,rfl⟩ fun b o x=>Heap.get?_push_of_some _ (Heap.get?_push_of_some _ x)⟩
end
def Ite(K:PySem.W.Frag)(t:Addr):It :=
 ⟨fun i H=>∃ xs x,SqT K H t xs/\xs[i]?=some x,fun i H v H'=>∃ p,H p=none/\v=.ref p/\∀ xs x,SqT K H t xs->xs[i]?=some x->H'=upd H p (.tup [.int (i:Int),x]),fun i H=>∃ xs,SqT K H t xs/\xs.length=i⟩
theorem uo{P:Program}{w:World}{K:PySem.W.Frag}{es:List Expr}{kt:Nat}{pt:Pos}{e it t:Addr}(d1:e≠it)(d2:e≠t)(d3:t≠it) :
  Turn P w K (.Tuple es kt pt) (Ite K t) [e,it] e (fun i h=>(∃ old,IsEnum h e it (i:Int) old)/\h.IsTupleIter it t i) where
 mem:=by simp
 obj:=fun i h q b hb=>by
  obtain⟨⟨old,q1⟩,o2,q2,_,q3⟩:=q;simp at hb;rcases hb with rfl | rfl
  ·exact⟨_,q1,fun v z=>by have z':Data.fields _=Data.cell v:=z;cases z'⟩
  ·exact⟨o2,q2,fun v z=>by rw[q3] at z;cases z⟩
 keep:=fun i h h' q kp=>by
  obtain⟨⟨old,q1⟩,o2,q2,q3⟩:=q;exact⟨⟨old,kp e (by simp) _ q1⟩,o2,kp it (by simp) _ q2,q3⟩
 item:=by
  intro X hP hw hK hc i pins s σ H E I hf q hg;subst hP hw hK;obtain⟨xs,x,hq,hx⟩:=hg;obtain⟨⟨old,q1⟩,q2⟩:=q;obtain⟨its,rv,p,hz⟩:=I.tuple hq;obtain⟨u,hu,ru⟩:=rv.get hx
  have hi:i<its.toArray.size:=by simpa using(List.getElem?_eq_some_iff.mp hu).1
  have D:=Cd (prog:=X.prog) (w:=X.w) (A:=X.A.in1) (I.ok.hd hc) it t d3 its.toArray;refine wpAny_pyNext_enum_itemD D q1 ⟨q2,(show s.heap.IsTuple t its.toArray from p)⟩ hi d1 (by simp;exact⟨d1,d2⟩) fun y h' tk hy eo st' new sz kp=>?_
  have ey:y=u:=by
   have:its[i]?=some y:=by simpa using hy
   rw[hu] at this;exact(Option.some.inj this).symm
  subst ey
  have szl:2<=sizeLine:=by decide
  have hlt:∀ c∈[e,it],c<s.heap.objs.size:=fun c hc'=>by
   simp at hc';rcases hc' with rfl | rfl
   ·exact Heap.lt_size q1
   ·obtain⟨o2,q2,_⟩:=q2;exact Heap.lt_size q2
  have I1:Inv X pins σ (upd H s.heap.objs.size (.tup [.int (i:Int),x])) { s with heap:=h',toks:=tk+1 }:=I.turnedNew (ch:=[e,it]) hf (fun b o hb z=>kp b o (fun q=>hb (by simp[q])) (fun q=>hb (by simp[q])) z) ⟨szl,[.int i tk,y],.cons ⟨tk,rfl⟩ (.cons ru .nil),⟨_,new,rfl,_,rfl⟩⟩;refine⟨_,rfl,wpAny_letOwnedTupleGo_enum (s:={ s with heap:=h',toks:=tk+1 }) eo fun h2 e2 sb=>?_⟩;obtain⟨f0,f1,f2,f3,f4,f5⟩:=hf e (by simp);have I2:Inv X pins σ (upd H s.heap.objs.size (.tup [.int (i:Int),x])) { s with heap:=h2,toks:=tk+1 }:=I1.turned (t':=tk+1) (fun c o hc' z=>(sb.2 c hc').trans z) (by rw[aH (Nat.ne_of_lt (hlt e (by simp)))];exact f0) f1 f3 f4 f5;refine⟨.ref s.heap.objs.size,_,I2,rfl,⟨_,I.hok.fresh (Nat.le_refl _),rfl,fun xs' x' a1 a2=>?_⟩,⟨⟨y,by simpa using e2⟩,?_⟩,fun b hb=>by rw[aH (Nat.ne_of_lt (hlt b hb))];exact(hf b hb).1⟩
  ·have e1:=I.tuple_inj a1 hq
   subst e1;rw[hx] at a2;cases a2;rfl
  ·obtain⟨o3,g1,g2⟩:=st'.1
   exact⟨o3,(sb.2 it d1.symm).trans g1,g2⟩
 done:=by
  intro X hP hw hK hc i pins s σ H E I hf q hg;subst hP hw hK;obtain⟨xs,hq,hl⟩:=hg;obtain⟨⟨old,q1⟩,q2⟩:=q;obtain⟨its,rv,p,hz⟩:=I.tuple hq
  have hn:its.toArray.size=i:=by rw[List.size_toArray,<- rv.length,hl]
  have D:=Cd (prog:=X.prog) (w:=X.w) (A:=X.A.in1) (I.ok.hd hc) it t d3 its.toArray;refine wpAny_pyNext_enum_endD D q1 ⟨by rw[hn];exact q2,(show s.heap.IsTuple t its.toArray from p)⟩ fun h' eb=>⟨rfl,?_⟩;obtain⟨f0,f1,f2,f3,f4,f5⟩:=hf it (by simp);exact I.turned (t':=s.toks) (fun b o hb z=>eb b o hb z) f0 f1 f3 f4 f5
 self:=fun _ _ _ _ _ q h=>by obtain⟨⟨old,q1⟩,_⟩:=q;exact wpAny_pyIter_enum q1 h
section
variable {X:Cx}
def PK(K:PySem.W.Frag)(ta:TA):TI:=fun σ H R=>ta σ H fun vs H1=>∃ a,vs=[.ref a]/\(∃ xs,SqT K H1 a xs)/\R (Ite K a) H1
theorem DX{a:Expr}{ta:TA}{p pos pt:Pos}{es:List Expr}{kt:Nat}(hg:Gl X "enumerate")(hm:X.mg "enumerate"=none)(ha:PA X [a] ta)(hs:starEach [a] X.env=[(false,eval a X.env)]) :
  PI X (.Tuple es kt pt) (.Call (.Name "enumerate" p) [a] [] pos) (PK X.K ta):=by
 intro pins s σ H R I h;refine Call_ (cQ I hg hm (show bootBuiltins "enumerate"=some (.type "enumerate") by decide +kernel) (PyProof.Rows.callWith_type1 (thn (ha pos pins s σ H _ I h) fun us s1 ⟨vs,H1,I1,r1,q1⟩=>?_) hs rfl));obtain⟨a1,e,⟨xs,hx⟩,q⟩:=q1;subst e
 cases r1 with
 | cons r rr =>
  cases rr;cases (show _=Value.ref a1 from r);obtain⟨its1,rv,p1,hz⟩:=I1.tuple hx;refine tL (show s1.heap.IsTuple a1 its1.toArray from p1) fun h' en ti kp=>?_;refine wpAny_pyIter_enum (s:={ s1 with heap:=h' }) en ?_;have I2:Inv X pins σ H1 { s1 with heap:=h' }:=I1.kept (t':=s1.toks) kp;have lt1:a1<s1.heap.objs.size:=p1.lt;refine⟨s1.heap.objs.size+1,_,_,_,H1,rfl,I2,uo (Nat.succ_ne_self _) (Nat.ne_of_gt (Nat.lt_succ_of_lt lt1)) (Nat.ne_of_lt lt1),⟨⟨_,en⟩,ti⟩,fun c hc=>?_,q⟩
  have hc':s1.heap.objs.size<=c:=by
   simp at hc
   rcases hc with h | h<;>rw[h]<;>first | exact Nat.le_refl _ | exact Nat.le_add_right _ _
  exact I1.fpOk hc' (I1.hok.fresh hc')
end
end L2
namespace L2
open PySem PySem.Spec PyProof.Rows
structure ZL (h:Heap) (z ti to i1 i2 t1 t2:Addr) (k:Nat) (f:Value):Prop where
 hz:IsZip h z ti to f
 hi:IsPair h ti (.ref i1) (.ref i2)
 ho:∃ a b,IsPair h to a b
 h1:h.IsListIter i1 t1 k
 h2:h.IsListIter i2 t2 k
theorem ZL.keep{h h':Heap}{z ti to i1 i2 t1 t2:Addr}{k:Nat}{f:Value}(x:ZL h z ti to i1 i2 t1 t2 k f)(kp:∀ b∈[z,ti,to,i1,i2],∀ o,h.get? b=some o->h'.get? b=some o):ZL h' z ti to i1 i2 t1 t2 k f :=
 ⟨kp z (by simp) _ x.hz,kp ti (by simp) _ x.hi,let ⟨a,b,e⟩:=x.ho;⟨a,b,kp to (by simp) _ e⟩,x.h1.at fun o e=>kp i1 (by simp) o e,x.h2.at fun o e=>kp i2 (by simp) o e⟩
def RN(K:PySem.W.Frag)(t1 t2:Addr):It :=
  ⟨fun i H=>∃ us ys x y,SqL K H t1 us/\SqL K H t2 ys/\us[i]?=some x/\ys[i]?=some y,
   fun i H v H'=>∃ p,H p=none/\v=.ref p/\∀ us ys x y,SqL K H t1 us->SqL K H t2 ys->us[i]?=some x->ys[i]?=some y->H'=upd H p (.tup [x,y]),
   fun i H=>∃ us ys,SqL K H t1 us/\SqL K H t2 ys/\(us.length<=i\/ys.length<=i)⟩
theorem ug{P:Program}{w:World}{K:PySem.W.Frag}{es:List Expr}{kt:Nat}{pt:Pos}{z ti to i1 i2 t1 t2:Addr}(D:ZipApart z ti to i1 i2 t1 t2) :
  Turn P w K (.Tuple es kt pt) (RN K t1 t2) [z,ti,to,i1,i2] z (fun i h=>ZL h z ti to i1 i2 t1 t2 i .none) where
 mem:=by simp
 obj:=fun i h st b hb=>by
  simp at hb;rcases hb with rfl | rfl | rfl | rfl | rfl
  ·exact⟨_,st.hz,fun v q=>by have q':Data.fields _=Data.cell v:=q;cases q'⟩
  ·exact⟨_,st.hi,fun v q=>by have q':Data.seq _ _=Data.cell v:=q;cases q'⟩
  ·obtain⟨a,c,e⟩:=st.ho
   exact⟨_,e,fun v q=>by have q':Data.seq _ _=Data.cell v:=q;cases q'⟩
  ·obtain⟨o,e,_,d⟩:=st.h1
   exact⟨o,e,fun v q=>by rw[d] at q;cases q⟩
  ·obtain⟨o,e,_,d⟩:=st.h2
   exact⟨o,e,fun v q=>by rw[d] at q;cases q⟩
 keep:=fun i h h' st k=>st.keep k
 item:=by
  intro X hP hw hK hc i pins s σ H E I hf st hg;subst hP hw hK;obtain⟨us,ys,x,y,hq1,hq2,hx,hy⟩:=hg;obtain⟨its1,rv1,p1,_⟩:=I.list hq1;obtain⟨its2,rv2,p2,_⟩:=I.list hq2;obtain⟨u1,hu1,ru1⟩:=rv1.get hx;obtain⟨u2,hu2,ru2⟩:=rv2.get hy;obtain⟨a0,b0,ho⟩:=st.ho;refine wpAny_pyNext_zip_item D st.hz st.hi ho st.h1 st.h2 p1.isList p2.isList (x:=u1) (y:=u2) (by simpa using hu1) (by simpa using hu2) fun h' zz hto g1 g2 pr sz kp=>?_
  have kp4:∀ c o,c∉[z,to,i1,i2]->s.heap.get? c=some o->h'.get? c=some o:=fun c o hc' e=>by
   simp only[List.mem_cons,List.not_mem_nil,or_false,not_or] at hc';exact kp c o hc'.1 hc'.2.1 hc'.2.2.1 hc'.2.2.2 e
  have hti:IsPair h' ti (.ref i1) (.ref i2):=kp4 ti _ (by simp[D.TIz,D.TITO,D.TIi1,D.TIi2]) st.hi;have Z:ZL h' z ti to i1 i2 t1 t2 (i+1) (rawInt s.heap.objs.size):=⟨zz,hti,⟨_,_,hto⟩,g1,g2⟩
  have two:2<=sizeLine:=by decide
  have hf4:∀ c∈[z,to,i1,i2],qb X pins H c:=fun c hc'=>hf c (by simp at hc' ⊢;rcases hc' with h | h | h | h<;>simp[h])
  have I1:Inv X pins σ (upd H s.heap.objs.size (.tup [x,y])) { s with heap:=h',toks:=s.toks }:=I.turnedNew hf4 kp4 ⟨two,[u1,u2],.cons ru1 (.cons ru2 .nil),⟨_,pr,rfl,_,rfl⟩⟩;have fresh:H s.heap.objs.size=none:=I.hok.fresh (Nat.le_refl _)
  have ltf:∀ c∈[z,ti,to,i1,i2],c≠s.heap.objs.size:=fun c hc' e=>by
   simp at hc'
   have lt:c<s.heap.objs.size:=by
    rcases hc' with rfl | rfl | rfl | rfl | rfl
    ·exact Heap.lt_size st.hz
    ·exact Heap.lt_size st.hi
    ·exact Heap.lt_size ho
    ·obtain⟨o,e',_⟩:=st.h1;exact Heap.lt_size e'
    ·obtain⟨o,e',_⟩:=st.h2;exact Heap.lt_size e'
   exact Nat.ne_of_lt lt e
  refine⟨_,rfl,wpAny_letOwnedTupleGo_zip (s:={ s with heap:=h' }) Z.hz fun h2 z2 sb=>?_⟩;have fz:=hf z (by simp);have I2:Inv X pins σ (upd H s.heap.objs.size (.tup [x,y])) { s with heap:=h2 }:=I1.turned (t':=s.toks) (fun c o hc' e=>(sb.2 c hc').trans e) (by rw[aH (ltf z (by simp))];exact fz.1) fz.2.1 fz.2.2.2.1 fz.2.2.2.2.1 fz.2.2.2.2.2;refine⟨.ref s.heap.objs.size,_,I2,rfl,⟨_,fresh,rfl,fun us' ys' x' y' a1 a2 a3 a4=>?_⟩,?_,fun c hc'=>by rw[aH (ltf c hc')];exact(hf c hc').1⟩
  ·have e1:=I.list_inj a1 hq1
   have e2:=I.list_inj a2 hq2;subst e1 e2;rw[hx] at a3;rw[hy] at a4;cases a3;cases a4;rfl
  ·obtain⟨a',b',e'⟩:=Z.ho
   exact⟨z2,(sb.2 ti D.TIz).trans Z.hi,⟨a',b',(sb.2 to D.TOz).trans e'⟩,Z.h1.at fun o e=>(sb.2 i1 D.i1z).trans e,Z.h2.at fun o e=>(sb.2 i2 D.i2z).trans e⟩
 done:=by
  intro X hP hw hK hc i pins s σ H E I hf st hg;subst hP hw hK;obtain⟨us,ys,hq1,hq2,hl⟩:=hg;obtain⟨its1,rv1,p1,_⟩:=I.list hq1;obtain⟨its2,rv2,p2,_⟩:=I.list hq2;have l1:=rv1.length;have l2:=rv2.length;obtain⟨a0,b0,ho⟩:=st.ho
  refine wpAny_pyNext_zip_end (I.ok.hd hc) D st.hz st.hi ho st.h1 st.h2 p1.isList p2.isList (by
   rcases hl with h | h
   ·exact .inl (by rw[List.getElem?_toArray];exact List.getElem?_eq_none (by omega))
   ·exact .inr (by rw[List.getElem?_toArray];exact List.getElem?_eq_none (by omega))) fun h' kp=>⟨rfl,?_⟩
  have hf4:∀ c∈[z,to,i1,i2],qb X pins H c:=fun c hc'=>hf c (by simp at hc' ⊢;rcases hc' with h | h | h | h<;>simp[h])
  refine I.turnedAll (t':=s.toks) hf4 fun c o hc' e=>?_;simp only[List.mem_cons,List.not_mem_nil,or_false,not_or] at hc';exact kp c o hc'.1 hc'.2.1 hc'.2.2.1 hc'.2.2.2 e
 self:=fun _ _ _ _ _ st h=>wpAny_pyIter_zip st.hz h
section
variable {X:Cx}
def Pu(K:PySem.W.Frag)(ta:TA):TI:=fun σ H R=>ta σ H fun vs H1=>∃ a b,vs=[.ref a,.ref b]/\(∃ us,SqL K H1 a us)/\(∃ ys,SqL K H1 b ys)/\R (RN K a b) H1
theorem DR{a b:Expr}{ta:TA}{p pos pt:Pos}{es:List Expr}{kt:Nat}(hg:Gl X "zip")(hm:X.mg "zip"=none)(ha:PA X [a,b] ta)(hs:starEach [a,b] X.env=[(false,eval a X.env),(false,eval b X.env)])(hs2:starEach [b] X.env=[(false,eval b X.env)]) :
  PI X (.Tuple es kt pt) (.Call (.Name "zip" p) [a,b] [] pos) (Pu X.K ta):=by
 intro pins s σ H R I h;refine Call_ (cQ I hg hm boot_zip (PyProof.Rows.callWith_type1 (thn (ha pos pins s σ H _ I h) fun us s1 ⟨vs,H1,I1,r1,q1⟩=>?_) (by rw[hs,hs2]) (by rw[hs2];rfl)));obtain⟨a1,b1,e,⟨us',hx⟩,⟨ys,hy⟩,q⟩:=q1;subst e;obtain⟨v1,v2,rfl,r,r'⟩:=vals2 r1;cases (show v1=Value.ref a1 from r);cases (show v2=Value.ref b1 from r');obtain⟨its1,_,p1,_⟩:=I1.list hx;obtain⟨its2,_,p2,_⟩:=I1.list hy
 have lt1:a1<s1.heap.objs.size:=by obtain⟨_,e,_⟩:=p1.isList;exact Heap.lt_size e
 have lt2:b1<s1.heap.objs.size:=by obtain⟨_,e,_⟩:=p2.isList;exact Heap.lt_size e
 refine call_zip_2 p1.isList p2.isList fun h' g1 g2 g3 g4 g5 sz kp=>?_;have Z:ZL h' (s1.heap.objs.size+4) (s1.heap.objs.size+2) (s1.heap.objs.size+3) s1.heap.objs.size (s1.heap.objs.size+1) a1 b1 0 .none:=⟨g1,g2,⟨_,_,g3⟩,g4,g5⟩;refine wpAny_pyIter_zip (s:={ s1 with heap:=h' }) Z.hz ?_;have I2:Inv X pins σ H1 { s1 with heap:=h' }:=I1.kept (t':=s1.toks) kp;refine⟨s1.heap.objs.size+4,_,_,_,H1,rfl,I2,ug (zipApart_new lt1 lt2),Z,fun c hc=>?_,q⟩
 have hc':s1.heap.objs.size<=c:=by
  simp at hc
  rcases hc with h | h | h | h | h<;>rw[h]<;>first | exact Nat.le_refl _ | exact Nat.le_add_right _ _
 exact I1.fpOk hc' (I1.hok.fresh hc')
end
end L2
namespace L2
open PySem PySem.Spec PyProof.Rows
section
variable {prog:Program} {w:World} {A:Around} {E:Value->Shared->Prop} {s:Shared}
end
section
variable {X:Cx}
end
end L2
namespace L2
open PySem PySem.Spec PyProof.Rows
section
variable {prog:Program} {w:World} {A:Around} {E:Value->Shared->Prop} {s:Shared}
end
section
variable {X:Cx}
end
end L2
namespace L2
open PySem PySem.Spec PyProof.Rows
section
variable {X:Cx}
end
end L2
namespace L2
open PySem PySem.Spec PyProof.Rows
end L2
namespace L2
open PySem PySem.Spec PyProof.Rows PySem.SeqAt
section
variable {X:Cx}
def LR(K:PySem.W.Frag):R2:=fun x y H Q=>∃ l b us zs,x=.ref l/\y=.ref b/\SqL K H l us/\SqL K H b zs/\us.length+zs.length<=sizeLine/\∀ p,H p=none->Q (.ref p) (upd H p (.lst (us++zs)))
theorem vo:OpR X (binaryOp .Add) (LR X.K):=by
 intro pins s σ H x y v u Q I rx ry h;obtain⟨l,b,us,zs,rfl,rfl,hH,hB,hz,q⟩:=h;cases (show v=Value.ref l from rx);cases (show u=Value.ref b from ry);obtain⟨its,r,pl,z1⟩:=I.list hH;obtain⟨its2,r2,pl2,z2⟩:=I.list hB;have e1:=r.length;have e2:=r2.length;obtain⟨⟨c1,d1,w1,t1⟩,n1,o1,hc1,hd1,hs1⟩:=pl;obtain⟨⟨c2,d2,w2,t2⟩,n2,o2,hc2,hd2,hs2⟩:=pl2;simp only at hc1 hs1 hc2 hs2;subst hc1 hs1 hc2 hs2;refine concat_meets ⟨_,o1,rfl⟩ ⟨_,o2,rfl⟩ noFill_list_add seq_list_add PySem.F.slot_list_add PySem.F.entry_list_add (PySem.F.args_list_add_2 _ _) (list_addW l b its.toArray its2.toArray n1 n2 d1 d2 t1 t2 (by rw[List.size_toArray,List.size_toArray];omega)) ⟨o1,o2,?_⟩;rw[show its.toArray++its2.toArray=(its++its2).toArray by simp];exact⟨.ref _,_,I.lnew (t':=s.toks) (r.append r2) (by rw[List.length_append];omega),rfl,q _ I.fresh⟩
def Lx(K:PySem.W.Frag):R2:=fun x y H Q=>∃ l k us,x=.ref l/\y=.int k/\SqL K H l us /\ -(2^63)<=k/\k<2^63/\us.length*k.toNat<=sizeLine /\
 ∀ p,H p=none->Q (.ref p) (upd H p (.lst (List.replicate k.toNat us).flatten))
theorem vm:OpR X (binaryOp .Mult) (Lx X.K):=by
 intro pins s σ H x y v u Q I rx ry h;obtain⟨l,k,us,rfl,rfl,hH,h1,h2,hz,q⟩:=h;cases (show v=Value.ref l from rx);obtain⟨t,rfl⟩:=ry;obtain⟨its,r,pl,z1⟩:=I.list hH;have hl:=r.length;obtain⟨⟨c1,d1,w1,t1⟩,n1,e,hc1,hd1,hs1⟩:=pl;simp only at hc1 hs1;subst hc1 hs1
 have a1:its.toArray.size*k.toNat<=sizeLine:=by rw[List.size_toArray,<- hl];exact hz
 have a2:¬ its.toArray.size*k.toNat>(2^63-1) / 8:=by
  have:(sizeLine:Nat)<=(2^63-1) / 8:=by decide
  omega
 have a3:¬ (!Builtin.List.listFitsIndex k)=true:=by rw[fitsIndex_both h1 h2];exact Bool.false_ne_true
 have a4:¬ Builtin.List.listTooLong (its.toArray.size*k.toNat)=true:=by rw[lH a1];exact Bool.false_ne_true
 have a5:List.foldl (fun x1 x2=>x1++x2) #[] (List.replicate (if its.toArray.isEmpty=true then 0 else k.toNat) its.toArray)=(List.replicate k.toNat its).flatten.toArray:=by
  have f0:∀ m:Nat,List.foldl (fun x1 x2=>x1++x2) #[] (List.replicate m its.toArray)=(List.replicate m its).flatten.toArray:=fun m=>(foldl_rep its m []).trans (by rw[List.nil_append]);rw[f0]
  cases its with
  | nil=>simp
  | cons a r'=>rw[if_neg (by simp)]
 refine wpAny_binaryOp_repeat_ref (T:="list") (U:="int") (by decide) ⟨_,e,rfl⟩ (fun s'=>typeIs_int s' k t) noFill_list_mul F.fills_int_mul F.slot_int_rmul repeat_list F.slot_int_index.lookup ?_;refine call_meets F.slot_int_rmul (typeIs_int s k t) F.entry_int_rmul (F.args_int_rmul_2 _ _) (lm_int_rmul_list_any k t l its.toArray n1 d1 t1) ⟨e,rfl,⟨_,e,rfl⟩,?_⟩;refine call_meets F.slot_list_mul ⟨_,e,rfl⟩ F.entry_list_mul (F.args_list_mul_2 _ _) (lm_list_mul_any l its.toArray n1 d1 t1 k t a3 a2 a4) ⟨e,?_⟩;rw[a5];exact⟨.ref _,_,I.lnew (t':=s.toks) (r.rep k.toNat) (by rw[len_rep,Nat.mul_comm];exact hz),rfl,q _ I.fresh⟩
end
end L2
namespace L2
open PySem PySem.Spec PyProof.Rows PySem.SeqAt
theorem yP(its:List Value):slicePick its.toArray none none (some (-1))=its.reverse.toArray:=by
 have e1:sliceBounds none none (some (-1)) its.toArray.size=((its.length:Int)-1,-1,-1):=by
  simp[sliceBounds]
 have e2:sliceRange ((its.length:Int)-1) (-1) (-1)=(List.range its.length).map fun k=>its.length-1-k:=by
  unfold sliceRange
  have hc:(if(-1:Int)>0 then(if(its.length:Int)-1 < -1 then(-1-((its.length:Int)-1) + -1-1) / -1 else 0) else(if(its.length:Int)-1 > -1 then((its.length:Int)-1 - -1 - -1-1) / (- -1) else 0))=(its.length:Int):=by
   rw[if_neg (by decide)]
   by_cases h:(its.length:Int)-1 > -1
   ·rw[if_pos h,show(- -1:Int)=1 from rfl,Int.ediv_one];omega
   ·rw[if_neg h];omega
  simp only[hc,Int.toNat_natCast];refine List.map_congr_left fun k hk=>?_;have:=List.mem_range.mp hk;omega
 unfold slicePick;rw[e1];simp only[e2];congr 1
 have e3:(List.range its.length).map (fun k=>its[its.length-1-k]?)=its.reverse.map some:=by
  apply List.ext_getElem?;intro i
  by_cases h:i<its.length
  ·rw[List.getElem?_map,List.getElem?_range h,List.getElem?_map,List.getElem?_reverse h,Option.map_some,List.getElem?_eq_getElem (by omega),Option.map_some]
  ·rw[List.getElem?_eq_none (by simp;omega),List.getElem?_eq_none (by simp;omega)]
 have e4:((List.range its.length).map fun k=>its.length-1-k).filterMap (fun x=>its.toArray[x]?)=((List.range its.length).map fun k=>its[its.length-1-k]?).filterMap id:=by
  rw[List.filterMap_map,List.filterMap_map];refine congrArg (fun f=>List.filterMap f (List.range its.length)) (funext fun k=>?_);simp
 rw[e4,e3,List.filterMap_map];simp
section
variable {X:Cx}
theorem Ec{e c:Expr}{te tc:TE}{p2 pos:Pos}(he:PE X e te)(hc:PE X c tc) :
  PE X (.Subscript e (.Slice none none (some c) p2) pos) (fun σ H Q=>te σ H fun x H1=>tc σ H1 fun y H2=>∃ p us,x=.ref p/\y=.int (-1)/\SqL X.K H2 p us/\∀ q,H2 q=none->Q (.ref q) (upd H2 q (.lst us.reverse))):=by
 intro pins s σ H Q I h;refine Subscript_ (thn (he pins s σ H _ I h) fun v s1 ⟨x,H1,I1,r1,q1⟩=>?_);refine wpAny_Slice ?_;rw[evalPart_none,evalPart_some];refine wpAny_pure (wpAny_pure (thn (hc pins s1 σ H1 _ I1 q1) fun u s2 ⟨y,H2,I2,r2,q2⟩=>?_));obtain⟨p,us,rfl,rfl,hq,q⟩:=q2;cases (show v=Value.ref p from r1);obtain⟨t,rfl⟩:=r2;have I3:Inv X pins σ H2 { s2 with heap:=s2.heap.push { cls:=.type "slice",data:=.fields #[.none,.none,.int (-1) t] } }:=I2.kept (t':=s2.toks) fun b ob q=>Heap.get?_push_of_some _ q;obtain⟨its,r,pl,hz⟩:=I3.list hq;have hl:=r.length
 have hg:=wpAny_getItem_list_slice (prog:=X.prog) (w:=X.w) (A:=X.A) (E:=X.xe) (Q:=EP X pins σ Q) (vl:=.none) (vu:=.none) (vs:=.int (-1) t) (lo:=none) (hi:=none) (st:=some (-1)) pl.isList (Heap.IsSliceOf.new ..) .none .none (.int _ t) (by decide) (by
  rw[yP]
  exact⟨.ref _,_,I3.lnew (t':=s2.toks) r.reverse (by rw[List.length_reverse];omega),rfl,q _ I3.fresh⟩) (by rw[List.size_toArray];omega)
 show wpAny (model X.prog X.w) X.A (subscriptTail e (.Slice none none (some c) p2) (.ref p) (.ref s2.heap.objs.size)) (EP X pins σ Q) X.xe { s2 with heap:=s2.heap.push { cls:=.type "slice",data:=.fields #[.none,.none,.int (-1) t] } };exact tail_any (ops:=[.ref p,.ref s2.heap.objs.size]) pl.isList.typeIs list_getitem_lookup hg (by with_unfolding_all rfl)
end
end L2
namespace L2
open PySem PySem.Spec PyProof.Rows PySem.SeqAt
section
variable {prog:Program} {w:World} {A:Around} {E:Value->Shared->Prop} {s:Shared}
theorem tO(n:Nat):Builtin.Slice.sliceAdjust none none (-1) (n:Int)=((n:Int)-1,-1):=by
 unfold Builtin.Slice.sliceAdjust;simp
theorem sH(n:Nat):Builtin.Slice.slicePlaces ((n:Int)-1) (-1) (-1)=n:=by
 unfold Builtin.Slice.slicePlaces
 have h1:¬ ((-1:Int)>0):=by omega
 simp only[h1,if_false];split
 ·rw[show(- -1:Int)=1 from rfl,Int.ediv_one];omega
 ·omega
theorem iB{sl:Addr}{n:Nat}{u:Tok}{Q:Int×Int×Nat->Shared->Prop}(hs:s.heap.IsSliceOf sl .none .none (.int (-1) u))(h:Q ((n:Int)-1,-1,n) s) :
  wpAny (model prog w) A (Builtin.Slice.sliceApplied (.ref sl) (pure (n:Int))) Q E s:=by
 obtain⟨os,hos,hcs,hds⟩:=id hs;unfold Builtin.Slice.sliceApplied Builtin.Slice.sliceFields;refine wpAny_bind (wpAny_bind (wpAny_field hos hds (x:=.none) rfl (wpAny_bind (wpAny_field hos hds (x:=.none) rfl (wpAny_bind (wpAny_field hos hds (x:=.int (-1) u) rfl (wpAny_pure ?_)))))));refine wpAny_bind (slicePart_int ?_);show wpAny _ _ (if((-1:Int)==0)=true then _ else _) _ _ s;rw[if_neg (by decide)];refine wpAny_bind (slicePart_none (wpAny_bind (slicePart_none (wpAny_bind (wpAny_pure ?_)))));show wpAny _ _ (match Builtin.Slice.sliceAdjust none none (-1) (n:Int) with | (lo,hi)=>pure (lo,(-1:Int),Builtin.Slice.slicePlaces lo hi (-1))) _ _ s;rw[tO n];show wpAny _ _ (pure ((n:Int)-1,(-1:Int),Builtin.Slice.slicePlaces ((n:Int)-1) (-1) (-1))) _ _ s;rw[sH n];exact wpAny_pure h
theorem u5(its:List Value):((List.range its.length).filterMap fun(k:Nat)=>its.toArray[(((its.length:Int)-1)+(k:Int)*(-1)).toNat]?).toArray=its.reverse.toArray:=by
 congr 1
 have e3:(List.range its.length).map (fun(k:Nat)=>its.toArray[(((its.length:Int)-1)+(k:Int)*(-1)).toNat]?)=its.reverse.map some:=by
  apply List.ext_getElem?;intro i
  by_cases h:i<its.length
  ·rw[List.getElem?_map,List.getElem?_range h,List.getElem?_map,List.getElem?_reverse h,Option.map_some,List.getElem?_toArray,show(((its.length:Int)-1)+(i:Int)*(-1)).toNat=its.length-1-i by omega,List.getElem?_eq_getElem (by omega),Option.map_some]
  ·rw[List.getElem?_eq_none (by simp;omega),List.getElem?_eq_none (by simp;omega)]
 have e4:(List.range its.length).filterMap (fun(k:Nat)=>its.toArray[(((its.length:Int)-1)+(k:Int)*(-1)).toNat]?)=((List.range its.length).map (fun(k:Nat)=>its.toArray[(((its.length:Int)-1)+(k:Int)*(-1)).toNat]?)).filterMap id:=by
  rw[List.filterMap_map];rfl
 rw[e4,e3,List.filterMap_map];simp
theorem gF{t sl:Addr}{its:List Value}{u:Tok}{Q:Value->Shared->Prop}(ht:IsTup s.heap t its.toArray)(hs:s.heap.IsSliceOf sl .none .none (.int (-1) u))
  (h:Q (.ref s.heap.objs.size) { s with heap:=s.heap.push { cls:=.type "tuple",data:=.seq its.reverse.toArray } })
  (hsz:its.length<=sizeLine):wpAny (model prog w) A (getItem (.ref t) (.ref sl)) Q E s:=by
 have hrev:sizeOk (.seq its.reverse.toArray):=by
  show its.reverse.toArray.size<=sizeLine;rw[List.size_toArray,List.length_reverse];exact hsz
 obtain⟨os,hos,hcs,hds⟩:=id hs;have hTs:s.TypeIs (.ref sl) "slice":=⟨os,hos,hcs⟩;unfold getItem
 try with_reducible refine wpAny_holding ?_
 first | refine wpAny_bind (wpAny_pure ?_) | skip
 refine wpAny_bind (wpAny_sequenceKey ht.typeIs (by decide) ?_)
 refine wpAny_bind (wpAny_callSpecial?_slot (name:=Str.ofString "__getitem__") ht.typeIs slot_tuple_getitem
  (wpAny_call_entry slot_tuple_getitem ht.typeIs entry_tuple_getitem ?_ (args_tuple_getitem _ _)))
 show wpAny _ _ (Builtin.Tuple.tupleItemsOf (.ref t) >>=_) _ _ s;refine wpAny_bind (tupleItemsOf_ ht ?_);refine wpAny_bind (wpAny_typeOf hTs ?_);rw[if_pos (by decide)];refine wpAny_bind (iB (n:=its.toArray.size) hs ?_)
 have hno:¬ ((((its.toArray.size:Nat):Int)-1==0&&(-1:Int)==1&&its.toArray.size==its.toArray.size)=true):=by
  rw[show((-1:Int)==1)=false from rfl];simp
 show wpAny _ _ (if(((its.toArray.size:Nat):Int)-1==0&&(-1:Int)==1&&its.toArray.size==its.toArray.size)=true then _ else _) _ _ s;rw[if_neg hno,List.size_toArray,u5]
 first
  | exact wpAny_bind (m:=Builtin.Tuple.tupleExact _) (wpAny_newObj_type (wpAny_pure ⟨_,rfl,wpAny_pure h⟩) hrev)
  | exact wpAny_bind (m:=Builtin.Tuple.tupleExact _) (wpAny_newObj_type (wpAny_bind (wpAny_pure (wpAny_pure ⟨_,rfl,wpAny_pure h⟩))) hrev)
  | exact wpAny_bind (wpAny_bind (m:=Builtin.Tuple.tupleExact _) (wpAny_newObj_type (wpAny_pure (wpAny_pure ⟨_,rfl,wpAny_pure h⟩)) hrev))
  | exact wpAny_bind (wpAny_bind (m:=Builtin.Tuple.tupleExact _) (wpAny_newObj_type (wpAny_pure ⟨_,rfl,wpAny_pure h⟩) hrev))
end
section
variable {X:Cx}
theorem Eb{e c:Expr}{te tc:TE}{p2 pos:Pos}(he:PE X e te)(hc:PE X c tc) :
  PE X (.Subscript e (.Slice none none (some c) p2) pos) (fun σ H Q=>te σ H fun x H1=>tc σ H1 fun y H2=>∃ p us,x=.ref p/\y=.int (-1)/\SqT X.K H2 p us/\∀ q,H2 q=none->Q (.ref q) (upd H2 q (.tup us.reverse))):=by
 intro pins s σ H Q I h;refine Subscript_ (thn (he pins s σ H _ I h) fun v s1 ⟨x,H1,I1,r1,q1⟩=>?_);refine wpAny_Slice ?_;rw[evalPart_none,evalPart_some];refine wpAny_pure (wpAny_pure (thn (hc pins s1 σ H1 _ I1 q1) fun u s2 ⟨y,H2,I2,r2,q2⟩=>?_));obtain⟨p,us,rfl,rfl,hq,q⟩:=q2;cases (show v=Value.ref p from r1);obtain⟨t,rfl⟩:=r2;have I3:Inv X pins σ H2 { s2 with heap:=s2.heap.push { cls:=.type "slice",data:=.fields #[.none,.none,.int (-1) t] } }:=I2.kept (t':=s2.toks) fun b ob q=>Heap.get?_push_of_some _ q;obtain⟨its,r,pt,hz⟩:=I3.tuple hq;have hl:=r.length
 have hg:=gF (prog:=X.prog) (w:=X.w) (A:=X.A) (E:=X.xe) (Q:=EP X pins σ Q) (u:=t) pt (Heap.IsSliceOf.new ..) (by
  refine⟨.ref _,_,I3.laid (t':=s2.toks) (o:=.tup us.reverse) (fun b ob q=>Heap.get?_push_of_some _ q) (Nat.le_refl _) ?_,rfl,q _ (I3.hok.fresh (Nat.le_refl _))⟩
  exact⟨by rw[List.length_reverse];exact hz,its.reverse,r.reverse,IsTup.new _ _⟩) (by omega)
 show wpAny (model X.prog X.w) X.A (subscriptTail e (.Slice none none (some c) p2) (.ref p) (.ref s2.heap.objs.size)) (EP X pins σ Q) X.xe { s2 with heap:=s2.heap.push { cls:=.type "slice",data:=.fields #[.none,.none,.int (-1) t] } };exact tail_any (ops:=[.ref p,.ref s2.heap.objs.size]) pt.typeIs slot_tuple_getitem.lookup hg (by with_unfolding_all rfl)
end
end L2
namespace HT
open PySem PySem.Spec PyProof.Rows PySem.SeqAt L2
section
variable {prog:Program} {w:World} {A:Around} {E:Value->Shared->Prop} {s:Shared}
theorem fM{t sl:Addr}{items:Array Value}{vl vu:Value}{lo hi:Option Int}{Q:Value->Shared->Prop}(ht:IsTup s.heap t items)(hs:s.heap.IsSliceOf sl vl vu .none)(pl:IsPart vl lo)(pu:IsPart vu hi)
  (hw:sIx items.size 0 lo=0/\sIx items.size items.size hi=items.size) (h:Q (.ref t) s):wpAny (model prog w) A (getItem (.ref t) (.ref sl)) Q E s:=by
 obtain⟨os,hos,hcs,hds⟩:=id hs;have hTs:s.TypeIs (.ref sl) "slice":=⟨os,hos,hcs⟩;unfold getItem
 try with_reducible refine wpAny_holding ?_
 first | refine wpAny_bind (wpAny_pure ?_) | skip
 refine wpAny_bind (wpAny_sequenceKey ht.typeIs (by decide) ?_)
 refine wpAny_bind (wpAny_callSpecial?_slot (name:=Str.ofString "__getitem__") ht.typeIs PyProof.Rows.slot_tuple_getitem
  (wpAny_call_entry PyProof.Rows.slot_tuple_getitem ht.typeIs entry_tuple_getitem ?_ (args_tuple_getitem _ _)))
 show wpAny _ _ (Builtin.Tuple.tupleItemsOf (.ref t) >>=_) _ _ s;refine wpAny_bind (tupleItemsOf_ ht ?_);refine wpAny_bind (wpAny_typeOf hTs ?_);rw[if_pos (by decide)];refine wpAny_bind (d8 hs pl pu ?_)
 have hyes:(((sIx items.size 0 lo:Nat):Int)==0&&(1:Int)==1&&(sIx items.size items.size hi-sIx items.size 0 lo)==items.size)=true:=by
  rw[hw.1,hw.2];simp
 show wpAny _ _ (if(((sIx items.size 0 lo:Nat):Int)==0&&(1:Int)==1&&(sIx items.size items.size hi-sIx items.size 0 lo)==items.size)=true then _ else _) _ _ s;rw[if_pos hyes];refine wpAny_bind (wpAny_bind (wpAny_typeOf ht.typeIs (wpAny_pure ?_)));rw[if_pos (by decide)]
 first
  | exact wpAny_bind (wpAny_rule (wpAny_bind (wpAny_pure (wpAny_pure ⟨_,rfl,wpAny_pure h⟩))))
  | exact wpAny_bind (wpAny_rule (wpAny_bind (wpAny_pure ⟨_,rfl,wpAny_pure h⟩)))
  | exact wpAny_bind (wpAny_rule (wpAny_pure ⟨_,rfl,wpAny_pure h⟩))
end
end HT
namespace L2
open PySem PyProof.Rows
section
variable {X:Cx}
def Sg(K:PySem.W.Frag):V->Option Int->Option Int->Hp->VK->Prop:=fun x lo hi H Q=>∃ a xs,x=.ref a/\SqT K H a xs /\
 (HT.sIx xs.length 0 lo=0/\HT.sIx xs.length xs.length hi=xs.length)/\Q (.ref a) H
theorem Dg:SlR X (Sg X.K):=by
 intro pins s σ H x v vl vu lo hi sl Q I rx hs pl pu h;obtain⟨a,xs,rfl,hx,hw,q⟩:=h;cases rx;obtain⟨its,r,ht,hz⟩:=I.tuple hx
 have hlen:its.toArray.size=xs.length:=by rw[List.size_toArray];exact r.length.symm
 refine⟨"tuple",_,PyProof.Rows.slot_tuple_getitem.lookup,ht.typeIs,?_⟩;exact HT.fM ht hs pl pu (by rw[hlen];exact hw) ⟨.ref a,H,I,rfl,q⟩
end
end L2
namespace Kas
open PySem PySem.W PyProof.Rows
def run{α:Type}(lt:Nat->Nat->Bool):KasT α->α
 | .ret a=>a
 | .ask i j k=>run lt (k (lt i j))
theorem run_bind{α β:Type}{lt:Nat->Nat->Bool}{f:α->KasT β}:∀ t:KasT α,run lt (t.bind f)=run lt (f (run lt t))
 | .ret _=>rfl
 | .ask i j k=>run_bind (k (lt i j))
section
variable {r:Nat->Nat} {N:Nat}
abbrev K(r:Nat->Nat)(p:Array Nat)(i:Nat):Nat:=r (p.getD i 0)
abbrev ltR(r:Nat->Nat):Nat->Nat->Bool:=fun i j=>decide (r i<r j)
def So(r:Nat->Nat)(m:Nat)(p:Array Nat):Prop:=∀ i j,i<j->j<m->K r p i<K r p j
def De(r:Nat->Nat)(m:Nat)(p:Array Nat):Prop:=∀ i j,i<j->j<m->K r p j<K r p i
def Di(r:Nat->Nat)(N:Nat)(p:Array Nat):Prop:=∀ i j,i<j->j<N->K r p i≠K r p j
theorem So.more{m:Nat}{p:Array Nat}(h:So r m p)(hm:1<=m)(h1:K r p (m-1)<K r p m):So r (m+1) p:=fun i j hi hj=>by
 by_cases e:j=m
 ·subst e
  by_cases e2:i=j-1
  ·subst e2;exact h1
  ·exact Nat.lt_trans (h i (j-1) (by omega) (by omega)) h1
 ·exact h i j hi (by omega)
theorem De.more{m:Nat}{p:Array Nat}(h:De r m p)(hm:1<=m)(h1:K r p m<K r p (m-1)):De r (m+1) p:=fun i j hi hj=>by
 by_cases e:j=m
 ·subst e
  by_cases e2:i=j-1
  ·subst e2;exact h1
  ·exact Nat.lt_trans h1 (h i (j-1) (by omega) (by omega))
 ·exact h i j hi (by omega)
theorem asc{p:Array Nat}(d:Di r N p):∀ (f n:Nat),1<=n->n+f<=N->So r n p->n<=run (ltR r) (kas_asc p f n)/\run (ltR r) (kas_asc p f n)<=n+f/\So r (run (ltR r) (kas_asc p f n)) p/\(run (ltR r) (kas_asc p f n)=n->0<f->K r p n<K r p (n-1))
 | 0,n,h1,h2,h3=>⟨Nat.le_refl _,Nat.le_refl _,h3,fun _ h=>absurd h (by omega)⟩
 | f+1,n,h1,h2,h3=>by
  unfold kas_asc;simp only[run]
  by_cases c:K r p n<K r p (n-1)
  ·rw[show ltR r (p.getD n 0) (p.getD (n-1) 0)=true from decide_eq_true c]
   simp only[if_true,run];exact⟨Nat.le_refl _,by omega,h3,fun _ _=>c⟩
  ·rw[show ltR r (p.getD n 0) (p.getD (n-1) 0)=false from decide_eq_false c]
   simp only[Bool.false_eq_true,if_false];have ne:=d (n-1) n (by omega) (by omega);obtain⟨a1,a2,a3,_⟩:=asc d f (n+1) (by omega) (by omega) (h3.more h1 (by omega));exact⟨by omega,by omega,a3,fun e=>absurd e (by omega)⟩
theorem desc{p:Array Nat}(d:Di r N p):∀ (f n:Nat),1<=n->n+f<=N->De r n p->∃ m,run (ltR r) (kas_desc f p n 0)=(p,m,0)/\n<=m/\m<=n+f/\De r m p
 | 0,n,h1,h2,h3=>⟨n,rfl,Nat.le_refl _,Nat.le_refl _,h3⟩
 | f+1,n,h1,h2,h3=>by
  unfold kas_desc;simp only[run]
  by_cases c:K r p n<K r p (n-1)
  ·rw[show ltR r (p.getD n 0) (p.getD (n-1) 0)=true from decide_eq_true c]
   simp only[if_true,if_neg (show ¬ (0>0) by omega)];obtain⟨m,e,a1,a2,a3⟩:=desc d f (n+1) (by omega) (by omega) (h3.more h1 c);exact⟨m,e,by omega,by omega,a3⟩
  ·have ne:=d (n-1) n (by omega) (by omega)
   have c2:K r p (n-1)<K r p n:=by omega
   rw[show ltR r (p.getD n 0) (p.getD (n-1) 0)=false from decide_eq_false c];simp only[Bool.false_eq_true,if_false,run];rw[show ltR r (p.getD (n-1) 0) (p.getD n 0)=true from decide_eq_true c2];simp only[if_true,run];exact⟨n,rfl,Nat.le_refl _,by omega,h3⟩
theorem v9{p q:Array Nat}{i j:Nat}(h:p[i]?=q[j]?):p.getD i 0=q.getD j 0:=by
 rw[Array.getD_eq_getD_getElem?,Array.getD_eq_getD_getElem?,h]
theorem Bj{p:Array Nat}{m:Nat}(hm:m<=p.size)(k:Nat):(kas_rev p 0 m).getD k 0=p.getD (if k<m then m-1-k else k) 0:=by
 refine v9 ?_;have:=getElem?_mirror_all (xs:=p) (i:=0) (j:=m) hm k;unfold kas_rev;rw[this]
 by_cases h:k<m
 ·rw[if_pos ⟨Nat.zero_le _,h⟩,if_pos h]
  congr 1;omega
 ·rw[if_neg (fun q=>h q.2),if_neg h]
theorem Iu{p:Array Nat}{m:Nat}(hm:m<=p.size)(d:De r m p):So r m (kas_rev p 0 m):=fun i j hi hj=>by
 show r _<r _;rw[Bj hm,Bj hm,if_pos (by omega),if_pos hj];exact d (m-1-j) (m-1-i) (by omega) (by omega)
structure Ok (r:Nat->Nat) (N:Nat) (p:Array Nat):Prop where
 z:p.size=N
 pm:p.toList.Perm (List.range N)
 inj:∀ i j,i<N->j<N->r i=r j->i=j
theorem Ok.di{p:Array Nat}(o:Ok r N p):Di r N p:=fun i j hi hj e=>by
 have lt:∀ k (hk:k<N),p.getD k 0<N/\p.getD k 0=p.toList[k]'(by rw[Array.length_toList,o.z];exact hk):=fun k hk=>by
  have hk':k<p.size:=by rw[o.z];exact hk
  have e:p.getD k 0=p[k]:=by simp[Array.getD,hk']
  refine⟨?_,by rw[e,Array.getElem_toList]⟩
  have:p[k]∈p.toList:=by rw[<- Array.getElem_toList];exact List.getElem_mem _
  rw[e];exact List.mem_range.mp (o.pm.mem_iff.mp this)
 have q:=o.inj _ _ (lt i (by omega)).1 (lt j hj).1 e;rw[(lt i (by omega)).2,(lt j hj).2] at q;have nd:p.toList.Nodup:=o.pm.nodup_iff.mpr List.nodup_range;have:=(List.getElem_inj nd).mp q;omega
theorem Ok.of{p q:Array Nat}(o:Ok r N p)(h:q.Perm p):Ok r N q:=⟨by rw[h.size_eq,o.z],(Array.perm_iff_toList_perm.mp h).trans o.pm,o.inj⟩
theorem count{p:Array Nat}(o:Ok r N p)(hN:2<=N):∃ m q,run (ltR r) (kas_count N p)=(m,q)/\1<=m/\m<=N/\Ok r N q/\So r m q:=by
 have d:=o.di;have s1:So r 1 p:=fun i j hi hj=>absurd hj (by omega);obtain⟨a1,a2,a3,a4⟩:=asc d (N-1) 1 (by omega) (by omega) s1;unfold kas_count;rw[run_bind];generalize run (ltR r) (kas_asc p (N-1) 1)=n at a1 a2 a3 a4 ⊢
 by_cases e:n=N
 ·rw[if_pos (by simpa using e)]
  exact⟨n,p,rfl,a1,by omega,o,a3⟩
 ·rw[if_neg (by simpa using e)]
  by_cases g:n>1
  ·rw[if_pos g]
   simp only[run];rw[show ltR r (p.getD 0 0) (p.getD (n-1) 0)=true from decide_eq_true (a3 0 (n-1) (by omega) (by omega))];simp only[if_true,run];exact⟨n,p,rfl,a1,by omega,o,a3⟩
  ·rw[if_neg g]
   have n1:n=1:=by omega
   subst n1;have dn:De r 1 p:=fun i j hi hj=>absurd hj (by omega);have d2:=dn.more (Nat.le_refl 1) (a4 rfl (by omega));obtain⟨m,em,m1,m2,m3⟩:=desc d (N-(1+1)) 2 (by omega) (by omega) d2;unfold kas_descPart;rw[run_bind,em];simp only[if_neg (show ¬ (0>0) by omega)];unfold kas_tail3;rw[run_bind];have oq:Ok r N (kas_rev p 0 m):=o.of (mirror_perm _ _ _ _);obtain⟨b1,b2,b3,_⟩:=asc oq.di (N-m) m (by omega) (by omega) (Iu (by rw[o.z];omega) m3);exact⟨_,_,rfl,by omega,by omega,oq,b3⟩
theorem place{p:Array Nat}{k:Nat}(d:Di r N p)(hk:k<N)(s:So r k p):∀ (f l h:Nat),l<=h->h<=k->h-l<=f->(∀ i,i<l->K r p i<K r p k)->(∀ i,h<=i->i<k->K r p k<K r p i) ->
  ∃ l',run (ltR r) (kas_place p k f l h)=l'/\l'<=k/\(∀ i,i<l'->K r p i<K r p k)/\∀ i,l'<=i->i<k->K r p k<K r p i
 | 0,l,h,h1,h2,h3,h4,h5=>⟨l,rfl,by omega,h4,fun i a b=>h5 i (by omega) b⟩
 | f+1,l,h,h1,h2,h3,h4,h5=>by
  unfold kas_place
  by_cases e:l>=h
  ·rw[if_pos e]
   exact⟨l,rfl,by omega,h4,fun i a b=>h5 i (by omega) b⟩
  ·rw[if_neg e]
   simp only[run]
   by_cases c:K r p k<K r p ((l+h) / 2)
   ·rw[show ltR r (p.getD k 0) (p.getD ((l+h) / 2) 0)=true from decide_eq_true c]
    simp only[if_true];refine place d hk s f l ((l+h) / 2) (by omega) (by omega) (by omega) h4 fun i a b=>?_
    by_cases e2:i=(l+h) / 2
    ·rw[e2];exact c
    ·exact Nat.lt_trans c (s _ i (by omega) b)
   ·rw[show ltR r (p.getD k 0) (p.getD ((l+h) / 2) 0)=false from decide_eq_false c]
    simp only[Bool.false_eq_true,if_false];have ne:=d ((l+h) / 2) k (by omega) hk;refine place d hk s f ((l+h) / 2+1) h (by omega) (by omega) (by omega) (fun i a=>?_) h5
    by_cases e2:i=(l+h) / 2
    ·rw[e2];omega
    ·exact Nat.lt_trans (s i ((l+h) / 2) (by omega) (by omega)) (by omega)
theorem Cm{p:Array Nat}{k l:Nat}(hk:k<p.size)(hl:l<=k)(i:Nat):(bubble p k (k-l)).getD i 0=p.getD (if i=l then k else if l<i/\i<=k then i-1 else i) 0:=by
 refine v9 ?_;have:=getElem?_bubble hk (k-l) (by omega) i;rw[this];rw[show k-(k-l)=l by omega]
 by_cases h:i=l
 ·rw[if_pos h,if_pos h]
 ·rw[if_neg h,if_neg h]
  by_cases h2:l<i/\i<=k
  ·rw[if_pos h2,if_pos h2]
  ·rw[if_neg h2,if_neg h2]
theorem ins{p:Array Nat}{k l:Nat}(hk:k<p.size)(hl:l<=k)(s:So r k p)(h1:∀ i,i<l->K r p i<K r p k)(h2:∀ i,l<=i->i<k->K r p k<K r p i):So r (k+1) (bubble p k (k-l)):=fun i j hi hj=>by
 show r _<r _;rw[Cm hk hl,Cm hk hl]
 by_cases a:i=l
 ·rw[if_pos a,if_neg (by omega),if_pos (by omega)]
  exact h2 (j-1) (by omega) (by omega)
 ·by_cases b:j=l
  ·rw[if_neg a,if_pos b,if_neg (by omega)]
   exact h1 i (by omega)
  ·rw[if_neg a,if_neg b]
   by_cases c:l<i/\i<=k
   ·rw[if_pos c,if_pos (by omega)]
    exact s (i-1) (j-1) (by omega) (by omega)
   ·rw[if_neg c]
    by_cases c2:l<j/\j<=k
    ·rw[if_pos c2]
     by_cases e:i=j-1
     ·omega
     ·exact s i (j-1) (by omega) (by omega)
    ·rw[if_neg c2]
     exact s i j hi (by omega)
theorem bin:∀ (f k:Nat) {p:Array Nat},k+f=N->Ok r N p->So r k p->Ok r N (run (ltR r) (kas_bin f p k))/\So r N (run (ltR r) (kas_bin f p k))
  | 0, k, p, h, o, s => ⟨o, by have : k = N := by omega
                               subst this;exact s⟩
  | f+1,k,p,h,o,s=>by
    unfold kas_bin
    rw[run_bind]
    obtain⟨l,e,hl,h1,h2⟩:=place o.di (by omega) s k 0 k (Nat.zero_le _) (Nat.le_refl _) (by omega) (fun i hi=>absurd hi (by omega)) (fun i a b=>absurd b (by omega))
    rw[e]
    exact bin f (k+1) (by omega) (o.of (bubble_perm _ _ _)) (ins (by rw[o.z];omega) hl s h1 h2)
theorem Df(hN:2<=N)(inj:∀ i j,i<N->j<N->r i=r j->i=j):Ok r N (run (ltR r) (kas_sort N))/\So r N (run (ltR r) (kas_sort N)):=by
 have o:Ok r N (List.toArray (List.range N)):=⟨by simp,by simp,inj⟩;obtain⟨m,q,e,h1,h2,o2,s⟩:=count o hN;unfold kas_sort;rw[run_bind,e]
 by_cases g:m<N
 ·rw[if_pos g]
  rw[show max m 1=m by omega];exact bin (N-m) m (by omega) o2 s
 ·rw[if_neg g]
  have:m=N:=by omega
  subst this;exact⟨o2,s⟩
end
end Kas
namespace Kas
open PySem PySem.W PyProof.Rows
def okP{α:Type}(n:Nat):KasT α->(α->Prop)->Prop
 | .ret a,P=>P a
 | .ask i j k,P=>i<n/\j<n/\∀ b,okP n (k b) P
theorem okP.bind{α β:Type}{n:Nat}{f:α->KasT β}{P:α->Prop}{R:β->Prop}(hf:∀ a,P a->okP n (f a) R):∀ {t:KasT α},okP n t P->okP n (t.bind f) R
 | .ret a,q=>hf a q
 | .ask i j k,q=>⟨q.1,q.2.1,fun b=>(q.2.2 b).bind hf⟩
section
variable {n:Nat}
def Pn(n:Nat)(p:Array Nat):Prop:=∀ x∈p.toList,x<n
theorem Pn.at{p:Array Nat}(h:Pn n p)(h1:1<=n)(i:Nat):p.getD i 0<n:=by
 by_cases hi:i<p.size
 ·have e:p.getD i 0=p[i]:=by simp[Array.getD,hi]
  rw[e];exact h _ (by rw[<- Array.getElem_toList];exact List.getElem_mem _)
 ·have e:p.getD i 0=0:=by simp[Array.getD,hi]
  omega
theorem Pn.of{p q:Array Nat}(h:Pn n p)(e:q.Perm p):Pn n q:=fun x hx=>h x ((Array.perm_iff_toList_perm.mp e).mem_iff.mp hx)
theorem vp{p:Array Nat}(h1:1<=n)(h:Pn n p):∀ (f m:Nat),okP n (kas_asc p f m) fun _=>True
 | 0,m=>trivial
 | f+1,m=>⟨h.at h1 _,h.at h1 _,fun b=>by
  cases b
  ·exact vp h1 h f (m+1)
  ·exact trivial⟩
theorem nC{p:Array Nat}(h:Pn n p)(i j:Nat):Pn n (kas_rev p i j):=h.of (mirror_perm _ _ _ _)
theorem lF(h1:1<=n):∀ (f:Nat) {p:Array Nat} (m q:Nat),Pn n p->okP n (kas_desc f p m q) fun r=>Pn n r.1
 | 0,p,m,q,h=>h
 | f+1,p,m,q,h=>⟨h.at h1 _,h.at h1 _,fun b=>by
  cases b
  ·refine⟨h.at h1 _,h.at h1 _,fun c=>?_⟩
   cases c
   ·exact lF h1 f _ _ h
   ·exact h
  ·show okP n (if q>0 then _ else _) _
   split
   ·exact lF h1 f _ _ (nC h _ _)
   ·exact lF h1 f _ _ h⟩
theorem qI{p:Array Nat}(h1:1<=n)(h:Pn n p)(m k:Nat):okP n (kas_tail3 m k p) fun r=>Pn n r.2:=okP.bind (n:=n) (P:=fun _=>True) (R:=fun r=>Pn n r.2) (f:=fun a=>.ret (a,kas_rev p 0 m)) (fun a _=>(show Pn n (kas_rev p 0 m) from nC h 0 m)) (vp h1 (nC h 0 m) (k-m) m)
theorem ji{p:Array Nat}(h1:1<=n)(h:Pn n p)(m k:Nat):okP n (kas_descPart m k p) fun r=>Pn n r.2:=(lF h1 (k-(m+1)) (m+1) 0 h).bind fun r hr=>by
 split
 ·exact qI h1 (nC hr _ _) _ _
 ·exact qI h1 hr _ _
theorem zc{p:Array Nat}(h1:1<=n)(h:Pn n p)(k:Nat):okP n (kas_count k p) fun r=>Pn n r.2:=(vp h1 h (k-1) 1).bind fun m _=>by
 split
 ·exact h
 ·split
  ·refine⟨h.at h1 _,h.at h1 _,fun c=>?_⟩
   cases c
   ·exact ji h1 (nC h 0 m) m k
   ·exact h
  ·exact ji h1 h m k
theorem lE{p:Array Nat}(h1:1<=n)(h:Pn n p)(k:Nat):∀ (f l r:Nat),okP n (kas_place p k f l r) fun _=>True
 | 0,l,r=>trivial
 | f+1,l,r=>by
  unfold kas_place;split
  ·exact trivial
  ·refine⟨h.at h1 _,h.at h1 _,fun c=>?_⟩
   cases c
   ·exact lE h1 h k f _ _
   ·exact lE h1 h k f _ _
theorem Bv(h1:1<=n):∀ (f:Nat) {p:Array Nat} (k:Nat),Pn n p->okP n (kas_bin f p k) (Pn n)
 | 0,p,k,h=>h
 | f+1,p,k,h=>(lE h1 h k k 0 k).bind fun l _=>Bv h1 f (k+1) (h.of (bubble_perm _ _ _))
theorem pG(h1:1<=n):okP n (kas_sort n) (Pn n):=by
 have h0:Pn n (List.toArray (List.range n)):=fun x hx=>List.mem_range.mp (by simpa using hx)
 exact(zc h1 h0 n).bind fun r hr=>by
  split
  ·exact Bv h1 _ _ hr
  ·exact hr
end
theorem wp_run{α:Type}{n:Nat}{lt:Nat->Nat->Bool}{cmp:Nat->Nat->(Bool->Shared->Prop)->Shared->Prop}{J:Shared->Prop}(hc:∀ i j C s,i<n->j<n->J s->(∀ s',J s'->C (lt i j) s')->cmp i j C s){P:α->Prop}{Q:α->Shared->Prop}:∀ {t:KasT α} {s:Shared},okP n t P->J s->(∀ s',J s'->Q (run lt t) s')->t.kasWp cmp Q s
 | .ret a,s,_,hJ,h=>h s hJ
 | .ask i j k,s,ok,hJ,h=>hc i j _ s ok.1 ok.2.1 hJ fun s' hJ'=>wp_run hc (ok.2.2 (lt i j)) hJ' h
end Kas
namespace Kas
open PySem PySem.W PyProof.Rows
def Fy(fin:Bool):List Int->List Int->Bool
 | a::as,b::bs=>if a=b then Fy fin as bs else decide (a<b)
 | _,_=>fin
section
variable {prog:Program} {w:World} {A:Around} {E:Value->Shared->Prop} {s:Shared} {Q:Bool->Shared->Prop} {b fin:Bool}
theorem vK:∀ {xs ys:List Value} {as bs:List Int} {i:Nat},IntsAre xs as->IntsAre ys bs->Q (Fy fin as bs) s->KatLex prog w A b fin Q (xs.zip ys) i s
 | [],ys,as,bs,i,hx,hy,h=>by
  cases hx;exact kat_nil (by cases bs<;>exact h)
 | x::xs,[],as,bs,i,hx,hy,h=>by
  cases hy;cases hx;exact kat_nil h
 | x::xs,y::ys,as,bs,i,hx,hy,h=>by
  cases hx with
  | cons m t hx =>
   cases hy with
   | cons n u hy =>
    show KatLex prog w A b fin Q ((Value.int m t,Value.int n u)::xs.zip ys) i s;refine kat_cons (wpAny_eqBool_int ?_);refine kat_go (fun e=>kat_yes (vK hx hy ?_)) fun e=>kat_no ?_
    ·have e':m=n:=by simpa using e
     simpa only[Fy,e',if_true] using h
    ·have e':¬ m=n:=by simpa using e
     simp only[Fy,if_neg e'] at h
     cases b&&i==0 with
     | true=>exact oneLt_int h
     | false=>exact kat_one _ _ (lt_int h)
theorem Jz{x y:Addr}{ox oy:Obj}{xs ys:Array Value}{n k:Nat}{as bs:List Int}(hx:s.heap.get? x=some ox)(dx:ox.data=.seq xs n)(hy:s.heap.get? y=some oy)(dy:oy.data=.seq ys k)(ix:IntsAre xs.toList as)(iy:IntsAre ys.toList bs)(h:Q (Fy (decide (as.length<bs.length)) as bs) s):wpAny (model prog w) A (keyLt' (tuples' b) (.ref x) (.ref y)) Q E s:=by
 refine kat_lt hx dx hy dy (vK ix iy ?_);have l1:=ix.length;have l2:=iy.length;simp only[Array.length_toList] at l1 l2;rw[l1,l2];exact h
end
end Kas
namespace Kas
open PySem PySem.W PyProof.Rows
def dj(h:Heap)(vs:List Value)(ks:List (List Int)):Prop:=vs.length=ks.length/\∀ (i:Nat) (v:Value) (k:List Int),vs[i]?=some v->ks[i]?=some k->k≠[]/\∃ a o xs n,v=.ref a/\h.get? a=some o/\o.cls=.type "tuple"/\o.data=.seq xs n/\IntsAre xs.toList k
theorem dj.keep{h h':Heap}{vs:List Value}{ks:List (List Int)}(t:dj h vs ks)(k:∀ b o,o.cls=.type "tuple"->h.get? b=some o->h'.get? b=some o):dj h' vs ks:=⟨t.1,fun i v q h1 h2=>by
 obtain⟨n,a,o,xs,m,e,g,c,d,x⟩:=t.2 i v q h1 h2
 exact⟨n,a,o,xs,m,e,k a o c g,c,d,x⟩⟩
theorem dj.cons{h:Heap}{v:Value}{vs:List Value}{q:List Int}{ks:List (List Int)}(t:dj h (v::vs) (q::ks)):dj h vs ks:=⟨by simpa using t.1,fun i v k h1 h2=>t.2 (i+1) v k (by simpa using h1) (by simpa using h2)⟩
theorem dj.firsts{h:Heap}:∀ {vs:List Value} {ks:List (List Int)},dj h vs ks->∃ fs,KatTups h vs fs/\fs.length=vs.length/\∀ f∈fs,∃ n t,f=Value.int n t
 | [],ks,t=>⟨[],KatTups.nil,rfl,fun f hf=>nomatch hf⟩
 | v::vs,[],t=>absurd t.1 (by simp)
 | v::vs,q::ks,t=>by
  obtain⟨fs,h1,h2,h3⟩:=t.cons.firsts;obtain⟨n,a,o,xs,m,rfl,g,c,d,x⟩:=t.2 0 v q rfl rfl
  cases q with
  | nil=>exact absurd rfl n
  | cons z zs =>
   obtain⟨l⟩:=xs
   cases x with
   | cons _ u x=>exact⟨.int z u::fs,KatTups.cons g c d rfl h1,by simp[h2],fun f hf=>by
     rcases List.mem_cons.mp hf with rfl | hf
     ·exact⟨_,_,rfl⟩
     ·exact h3 f hf⟩
theorem kI{lt:Nat->Nat->Bool}{n:Nat}:∀ (f:Nat) {p:Array Nat} (m q:Nat),p.size=n->(run lt (kas_desc f p m q)).1.size=n
 | 0,p,m,q,h=>h
 | f+1,p,m,q,h=>by
  unfold kas_desc;simp only[run];cases lt (p.getD m 0) (p.getD (m-1) 0)
  ·simp only[Bool.false_eq_true,if_false,run]
   cases lt (p.getD (m-1) 0) (p.getD m 0)
   ·simp only[Bool.false_eq_true,if_false]
    exact kI f _ _ h
   ·simp only[if_true,run]
    exact h
  ·simp only[if_true]
   split
   ·exact kI f _ _ (by rw[<- h];exact(mirror_perm _ _ _ _).size_eq)
   ·exact kI f _ _ h
theorem uD{p:Array Nat}{i j n:Nat}(h:p.size=n):(kas_rev p i j).size=n:=by rw[<- h];exact(mirror_perm _ _ _ _).size_eq
theorem qj{lt:Nat->Nat->Bool}{p:Array Nat}{m k n:Nat}(h:p.size=n):(run lt (kas_tail3 m k p)).2.size=n:=by
 unfold kas_tail3;rw[run_bind];exact uD h
theorem iW{lt:Nat->Nat->Bool}{p:Array Nat}{m k n:Nat}(h:p.size=n):(run lt (kas_descPart m k p)).2.size=n:=by
 unfold kas_descPart;rw[run_bind];have q:=kI (lt:=lt) (k-(m+1)) (m+1) 0 h;split
 ·exact qj (uD q)
 ·exact qj q
theorem yw{lt:Nat->Nat->Bool}{p:Array Nat}{k n:Nat}(h:p.size=n):(run lt (kas_count k p)).2.size=n:=by
 unfold kas_count;rw[run_bind];split
 ·exact h
 ·split
  ·simp only[run]
   split
   ·exact h
   ·exact iW (uD h)
  ·exact iW h
theorem Bc{lt:Nat->Nat->Bool}{n:Nat}:∀ (f:Nat) {p:Array Nat} (k:Nat),p.size=n->(run lt (kas_bin f p k)).size=n
 | 0,p,k,h=>h
 | f+1,p,k,h=>by
  unfold kas_bin;rw[run_bind];exact Bc f _ (by rw[<- h];exact(bubble_perm _ _ _).size_eq)
theorem yK{lt:Nat->Nat->Bool}{n:Nat}:(run lt (kas_sort n)).size=n:=by
 unfold kas_sort;rw[run_bind];have q:=yw (lt:=lt) (k:=n) (p:=List.toArray (List.range n)) (n:=n) (by simp);split
 ·exact Bc _ _ q
 ·exact q
section
variable {prog:Program} {w:World} {A:Around} {E:Value->Shared->Prop} {s:Shared}
abbrev ltK(ks:List (List Int)):Nat->Nat->Bool:=fun i j=>Fy (decide ((ks.getD i []).length<(ks.getD j []).length)) (ks.getD i []) (ks.getD j [])
theorem lN{a:Addr}{vs:List Value}{ks:List (List Int)}{n:Nat}{P:PySem.Fin->Shared->Prop}(ho:s.heap.get? a=some (seqObj "list" vs.toArray n))(t:dj s.heap vs ks)(h2:2<=vs.length)(h64:vs.length<64)
  (h:P (.done (.ret .none)) { s with heap:=sortedHeap s.heap a vs (List.toArray ((run (ltK ks) (kas_sort vs.length)).toList.map fun i=>vs.getD i Value.none)) }) :
  wpAny (model prog w) A (Builtin.«list.sort» ⟨[.ref a],[]⟩) P E s:=by
 rw[list_sort_plain];have ha:a<s.heap.objs.size:=Heap.lt_size ho;refine wpAny_bind (listItems_at ho rfl ?_);refine wpAny_bind (listUpdate_at ho rfl ?_ (by rw[List.size_toArray,sizeLine_eq];omega) (Nat.zero_le _));obtain⟨e1,ho1⟩:∃ e1,(s.heap.update a (Obj.mapSeq fun _ => #[])).get? a=some (seqObj "list" #[] e1):=⟨_,get?_update_seq ho (fun _ => #[])⟩;refine wpAny_bind (seqEpoch_at ho1 rfl ?_);refine wpAny_bind (wpAny_newTuple ?_ (by show vs.length<=_;rw[sizeLine_eq];omega));refine wpAny_bind (wpAny_newList ?_ (Nat.zero_le _));refine wpAny_holding ?_
 have ho6:(((s.heap.update a (Obj.mapSeq fun _ => #[])).push (seqObj "tuple" vs.toArray 0)).push (seqObj "list" #[] 0)).get? a=some (seqObj "list" #[] e1):=by
  rw[Heap.get?_push_ne _ _ _ (by rw[size_push',Heap.size_update];exact Nat.ne_of_lt (Nat.lt_succ_of_lt ha)),Heap.get?_push_ne _ _ _ (by rw[Heap.size_update];exact Nat.ne_of_lt ha)]
  exact ho1
 have t6:dj (((s.heap.update a (Obj.mapSeq fun _ => #[])).push (seqObj "tuple" vs.toArray 0)).push (seqObj "list" #[] 0)) vs ks:=t.keep fun b o c e=>by
  have hb:b≠a:=fun q=>by
   rw[q,ho] at e;cases e;exact absurd c (by simp[seqObj])
  refine Heap.get?_push_of_some _ (Heap.get?_push_of_some _ ?_);rw[Heap.get?_update_ne _ _ _ _ hb];exact e
 show wpAny (model prog w) A _ P E { s with heap:=((s.heap.update a (Obj.mapSeq fun _ => #[])).push (seqObj "tuple" vs.toArray 0)).push (seqObj "list" #[] 0) };dsimp only
 have hn2:¬ vs.toArray.size<2:=by rw[List.size_toArray];omega
 rw[if_neg hn2,if_neg hn2];obtain⟨fs,f1,f2,f3⟩:=t6.firsts;refine wpAny_bind (kat_kind (T:=.type "int") f1 (by omega) (fun v hv=>?_) (by decide) ?_)
 ·obtain⟨m,u,rfl⟩:=f3 v hv
  exact .now
 refine wpAny_bind (wpAny_mono (kat_run (Q:=fun st' s'=>s'={ s with heap:=((s.heap.update a (Obj.mapSeq fun _ => #[])).push (seqObj "tuple" vs.toArray 0)).push (seqObj "list" #[] 0) }/\arrOf st'=(run (ltK ks) (kas_sort vs.length)).map (kas_item (vs.toArray.zip vs.toArray))/\failedOf st'=none) (G:=fun p s'=>p=run (ltK ks) (kas_sort vs.length)/\s'={ s with heap:=((s.heap.update a (Obj.mapSeq fun _ => #[])).push (seqObj "tuple" vs.toArray 0)).push (seqObj "list" #[] 0) }) rfl h2 h64 (fun p st' s' a1 a2 a3 a4=>⟨a4.2,by rw[a2,a4.1],a3⟩) ?_) ?_ fun _ _ e=>e)
 ·refine wp_run (J:=fun s'=>s'={ s with heap:=((s.heap.update a (Obj.mapSeq fun _ => #[])).push (seqObj "tuple" vs.toArray 0)).push (seqObj "list" #[] 0) }) (lt:=ltK ks) (fun i j C s' hi hj hJ hC=>?_) (pG (by omega)) rfl fun s' hJ=>⟨rfl,hJ⟩
  subst hJ;have lk:=t6.1;obtain⟨_,x,ox,xs,nx,ex,gx,_,dx,ix⟩:=t6.2 i vs[i] (ks[i]'(by omega)) (List.getElem?_eq_getElem hi) (List.getElem?_eq_getElem (by omega));obtain⟨_,y,oy,ys,ny,ey,gy,_,dy,iy⟩:=t6.2 j vs[j] (ks[j]'(by omega)) (List.getElem?_eq_getElem hj) (List.getElem?_eq_getElem (by omega));have c:=hC _ rfl
  have e1:vs.getD i Value.none=.ref x:=by rw[List.getD_eq_getElem?_getD,List.getElem?_eq_getElem hi,<- ex];rfl
  have e2:vs.getD j Value.none=.ref y:=by rw[List.getD_eq_getElem?_getD,List.getElem?_eq_getElem hj,<- ey];rfl
  have e3:ks.getD i []=ks[i]'(by omega):=by rw[List.getD_eq_getElem?_getD,List.getElem?_eq_getElem (by omega)];rfl
  have e4:ks.getD j []=ks[j]'(by omega):=by rw[List.getD_eq_getElem?_getD,List.getElem?_eq_getElem (by omega)];rfl
  unfold ltK at c;rw[e3,e4] at c;unfold kas_ask;rw[e1,e2];exact Jz gx dx gy dy ix iy c
 rintro⟨⟨⟩,st'⟩ s' ⟨rfl,har,hf⟩;dsimp only;have hout:=kat_snds (ks:=vs) (vs:=vs) rfl har;rw[hout];have okr:=pG (n:=vs.length) (by omega)
 have hsz:(List.toArray ((run (ltK ks) (kas_sort vs.length)).toList.map fun i=>vs.getD i Value.none)).size<=sizeLine+1:=by
  have:=yK (n:=vs.length) (lt:=ltK ks);rw[List.size_toArray,List.length_map,Array.length_toList,this,sizeLine_eq];omega
 refine wpAny_bind (seqEpoch_at ho6 rfl ?_);refine wpAny_bind (listUpdate_at ho6 rfl ?_ (Nat.zero_le _) hsz);rw[hf];simp only[bne_self_eq_false,Bool.false_eq_true,if_false];exact wpAny_pure h
end
end Kas
namespace Kst
open PySem PySem.W PyProof.Rows
def G6{α:Type}(es:Array (Int×α))(t:SetTable)(h:Int)(x:α):Option (Array (Int×α)×SetTable) :=
 if t.fits es.size && !t.gaveWay&&t.plain then
  match t.probe (fun i=>(es[i]?.map (·.1)).getD 0) h (t.probeStart h) with
  | some (.empty j none) =>
   let t1:=(t.put j).1
   let es1:=SetTable.insertAt es (t.put j).2 (h,x)
   if t1.fits es1.size&&decide (es1.size<4096) then
    if t1.tooFull then
     if decide (SetTable.sizeAbove (SetTable.grown (es.size+1))<=4096) then
      match t1.relaid (es1.map (·.1)) (SetTable.grown (es.size+1)) with
      | some (t2,order)=>if(order.filterMap (es1[·]?)).size==es1.size&&decide ((order.filterMap (es1[·]?)).size<4096) then some (order.filterMap (es1[·]?),t2) else none
      | none=>none
     else none
    else some (es1,t1)
   else none
  | _=>none
 else none
def mp{α β:Type}(f:α->β)(es:Array (Int×α)):Array (Int×β):=es.map fun e=>(e.1,f e.2)
theorem Jx{α β:Type}(f:α->β)(es:Array (Int×α))(i:Nat):(mp f es)[i]?=es[i]?.map fun e=>(e.1,f e.2):=by
 unfold mp;rw[Array.getElem?_map]
theorem vG{α β:Type}(f:α->β)(es:Array (Int×α)):(mp f es).size=es.size:=Array.size_map ..
theorem Jv{α β:Type}(f:α->β)(es:Array (Int×α))(p:Nat)(h:Int)(x:α):SetTable.insertAt (mp f es) p (h,f x)=mp f (SetTable.insertAt es p (h,x)):=by
 unfold SetTable.insertAt mp;simp[Array.map_extract]
theorem Jw{α β:Type}(f:α->β)(es:Array (Int×α)):(mp f es).map (·.1)=es.map (·.1):=by
 unfold mp;rw[Array.map_map];rfl
theorem Ft{α β:Type}(f:α->β)(es:Array (Int×α))(o:Array Nat):o.filterMap ((mp f es)[·]?)=mp f (o.filterMap (es[·]?)):=by
 have e:(fun i=>(mp f es)[i]?)=fun i=>(es[i]?).map fun(e:Int×α)=>(e.1,f e.2):=funext fun i=>Jx f es i;rw[e];unfold mp;rw[Array.map_filterMap]
theorem Ko{α β:Type}(f:α->β){es:Array (Int×α)}{t:SetTable}{h:Int}{x:α}:G6 (mp f es) t h (f x)=(G6 es t h x).map fun r=>(mp f r.1,r.2):=by
 unfold G6
 have e1:(fun i=>(((mp f es)[i]?).map (fun(e:Int×β)=>e.1)).getD 0)=fun i=>((es[i]?).map (fun(e:Int×α)=>e.1)).getD 0:=funext fun i=>by
  rw[Jx,Option.map_map];rfl
 simp only[e1,vG,Jv,Jw,Ft];split
 ·split
  ·split
   ·split
    ·split
     ·split
      ·split
       ·rfl
       ·rfl
      ·rfl
     ·rfl
    ·rfl
   ·rfl
  ·rfl
 ·rfl
def lY{α:Type}:List (Int×α)->Array (Int×α)->SetTable->Option (Array (Int×α)×SetTable)
 | [],es,t=>some (es,t)
 | (h,x)::r,es,t=>match G6 es t h x with
  | some (es',t')=>lY r es' t'
  | none=>none
theorem wj{α β:Type}(f:α->β):∀ (l:List (Int×α)) (es:Array (Int×α)) (t:SetTable),lY (l.map fun e=>(e.1,f e.2)) (mp f es) t=(lY l es t).map fun r=>(mp f r.1,r.2)
 | [],es,t=>rfl
 | (h,x)::r,es,t=>by
  simp only[List.map_cons,lY];rw[Ko]
  cases G6 es t h x with
  | none=>rfl
  | some q=>exact wj f r q.1 q.2
def goodW(t:SetTable)(n:Nat):Bool:=t.fits n&&t.plain&&(List.range n).all (fun i=>SetTable.below t.place (if i=0 then 0 else t.place.getD (i-1) 0+1)==i)&&(SetTable.below t.place (if n=0 then 0 else t.place.getD (n-1) 0+1)==n)
def Ig(hs:List Int):Bool:=[true,false].all fun led=>match lY (hs.zip (List.range hs.length)) #[] (.fresh 0 0 led) with
 | some (es,t)=>(es.toList.map (·.2)).isPerm (List.range hs.length)&&goodW t hs.length&&t.led==led
 | none=>false
def hK(ks:List Int):Int:=reduceHash (Builtin.Tuple.tupleHashOf (ks.map fun k=>hashInt k))
theorem PL{prog:Program}{w:World}(ks:List Int):tupleKeyHash (intKind prog w) ks=hK ks:=rfl
end Kst
namespace Kst
open PySem PySem.W PyProof.Rows
section
variable {prog:Program} {w:World} {A:Around} {E:Value->Shared->Prop} {s:Shared}
abbrev TK(h:Heap)(k:List Int)(a:Addr):Prop:=∃ o items n,h.get? a=some o/\o.cls=.type "tuple"/\o.data=.seq items n/\IntsAre items.toList k
theorem jZ:∀ {k:List Int} {vs:List Value},IntsAre vs k->ItemsAre (intKind prog w) k vs
 | [],_,h=>by cases h;exact .nil
 | n::k,_,h=>by
  cases h with
  | cons n t h=>exact .cons (by simp[intKind,Value.isInt]) (jZ h)
theorem TK.key{h:Heap}{k:List Int}{a:Addr}(x:TK h k a):IsTupleKey (intKind prog w) h k a:=by
 obtain⟨o,i,n,a1,a2,a3,a4⟩:=x;exact⟨o,i,n,a1,a2,a3,jZ a4⟩
theorem lU{k:List Int}{a:Addr}{Q:Bool->Shared->Prop}(hk:TK s.heap k a)(h:Q true s):wpAny (model prog w) A (hashByValue 8 (.ref a)) Q E s:=by
 obtain⟨o,items,n,ho,hc,hd,hi⟩:=hk;unfold hashByValue;refine wpAny_bind (wpAny_specialOf (T:="tuple") ⟨o,ho,hc⟩ F.slot_tuple_hash.lookup ?_);dsimp only;refine wpAny_bind (wpAny_seqItems ho hd ?_);show wpAny _ _ (forIn items _ _ >>=_) _ _ _;refine wpAny_bind ?_;rw[<- Array.forIn_toList];refine wpAny_forIn_list _ (fun rest b s'=>(∃ left,IntsAre rest left)/\b=(none,())/\s'=s) _ ?_ ?_ _ _ ⟨⟨k,hi⟩,rfl,rfl⟩
 ·rintro x rest b s' ⟨⟨left,hl⟩,rfl,rfl⟩
  cases hl with
  | cons m t hl =>
   show wpAny _ _ (pure true >>=_) _ _ _;exact wpAny_bind (wpAny_pure (wpAny_pure ⟨⟨_,hl⟩,rfl,rfl⟩))
 ·rintro b s' ⟨_,rfl,rfl⟩
  exact wpAny_pure h
theorem v8{h:Heap}{S:Addr}{o:Obj}{es es':Array (Int×Value)}{ep:Nat}{t t':SetTable}(ho:h.get? S=some o)(hd:o.data=.set es ep t):(h.update S (Obj.putSet es' t')).get? S=some { o with data:=.set es' (ep+1) t' }:=by
 have:=Heap.get?_update_self (Obj.putSet es' t') ho (by rw[putSet_of es' t' hd];rfl)
 rw[putSet_of es' t' hd] at this;exact this
theorem Dm{k:List Int}{a S:Addr}{o:Obj}{es es':Array (Int×Value)}{ep:Nat}{t t':SetTable}{Q:Bool->Shared->Prop}(hu:A.units<cLine)(hk:TK s.heap k a)(ho:s.heap.get? S=some o)(hd:o.data=.set es ep t)(hadd:G6 es t (hK k) (.ref a)=some (es',t'))
  (h:∀ h' ep' tk,Heap.SameBut S s.heap h'->h'.get? S=some { o with data:=.set es' ep' t' }->s.toks<=tk->Q true { s with heap:=h',toks:=tk }):wpAny (model prog w) A (setAdd S (.ref a)) Q E s:=by
 unfold setAdd;refine wpAny_holding (wpAny_bind (wpAny_pyHash_tuple (knd:=intKind prog w) hu hk.key ?_));rw[PL];unfold G6 at hadd;split at hadd
 case isFalse=>exact absurd hadd nofun
 rename_i c1;simp only[Bool.and_eq_true,Bool.not_eq_true'] at c1;obtain⟨⟨hf,hg⟩,hp⟩:=c1;unfold setAddHashed setAddHashedIn;refine wpAny_holding (wpAny_bind (wpAny_setState_of (s:={ s with toks:=s.toks+(k.length+1) }) ho hd hf ?_));dsimp only;rw[show byScan (.ref a) es=false from rfl];simp only[Bool.false_eq_true,if_false];unfold setSearch setSearchFrom;refine wpAny_bind ?_;refine wpAny_bind (wpAny_setState_of (s:={ s with toks:=s.toks+(k.length+1) }) ho hd hf ?_);dsimp only;rw[hg];simp only[Bool.false_eq_true,if_false];split at hadd
 case h_2=>exact absurd hadd nofun
 rename_i j hj;have hj':t.probe (fun i=>(es[i]?.map (·.1)).getD 0) (hK k) ((none:Option SetTable.Probe).getD (t.probeStart (hK k)))=some (.empty j none):=hj;generalize hm:t.probe _ (hK k) ((none:Option SetTable.Probe).getD (t.probeStart (hK k)))=m;obtain rfl:m=some (.empty j none):=hm.symm.trans hj';dsimp only;refine wpAny_pure ?_;dsimp only;refine wpAny_bind (wpAny_setState_of (s:={ s with toks:=s.toks+(k.length+1) }) ho hd hf ?_);dsimp only at hadd ⊢;have e1:(t.put j).1.plain=true:=hp;rw[e1];simp only[if_true];refine wpAny_bind (lU (s:={ s with toks:=s.toks+(k.length+1) }) hk ?_);simp only[if_true];split at hadd
 case isFalse=>exact absurd hadd nofun
 rename_i c2;simp only[Bool.and_eq_true,decide_eq_true_eq] at c2;refine wpAny_bind (wpAny_storeSet_of (s:={ s with toks:=s.toks+(k.length+1) }) ho hd ?_ (fits_of_scanBound c2.2));have ho1:=v8 (es':=SetTable.insertAt es (t.put j).2 (hK k,Value.ref a)) (t':=(t.put j).1) ho hd;have sb1:=Heap.SameBut.update s.heap S (Obj.putSet (SetTable.insertAt es (t.put j).2 (hK k,Value.ref a)) (t.put j).1);split at hadd
 ·rename_i c3
  rw[c3];simp only[Bool.not_false,Bool.true_and,if_true];split at hadd
  case isFalse=>exact absurd hadd nofun
  rename_i c4;simp only[decide_eq_true_eq] at c4;split at hadd
  case h_2=>exact absurd hadd nofun
  rename_i t2 order hr;split at hadd
  case isFalse=>exact absurd hadd nofun
  rename_i c5;simp only[Bool.and_eq_true,beq_iff_eq,decide_eq_true_eq] at c5;cases hadd;refine wpAny_bind ?_;unfold setRelay;refine wpAny_bind (wpAny_setState_of ho1 rfl c2.1 ?_);dsimp only;rw[if_neg (by rw[sizeLine_eq];omega)];rw[hr];refine wpAny_bind ?_;show wpAny _ _ (if((order.filterMap ((SetTable.insertAt es (t.put j).2 (hK k,Value.ref a))[·]?)).size !=(SetTable.insertAt es (t.put j).2 (hK k,Value.ref a)).size)=true then _ else _) _ _ _;rw[if_neg (by simp[c5.1])];refine wpAny_pure ?_;dsimp only;refine wpAny_storeSet_of ho1 rfl ?_ (fits_of_scanBound c5.2);have ho2:=v8 (es':=order.filterMap ((SetTable.insertAt es (t.put j).2 (hK k,Value.ref a))[·]?)) (t':=t') ho1 rfl;exact wpAny_pure (h _ _ _ (sb1.trans (Heap.SameBut.update _ S _)) ho2 (Nat.le_add_right _ _))
 ·rename_i c3
  have c3':(t.put j).1.tooFull=false:=by simpa using c3
  rw[c3'];simp only[Bool.not_false,Bool.and_false,Bool.false_eq_true,if_false];cases hadd;exact wpAny_pure (h _ _ _ sb1 ho1 (by omega))
end
end Kst
namespace Kst
open PySem PySem.W PyProof.Rows
section
variable {prog:Program} {w:World} {A:Around} {R:Result->Shared->Prop} {I:Addr} {fp wr:List Addr} {G:Array GenState->Array GenState->Prop} {n:Nat} {P:Nat->Value->Prop} {St:Nat->Shared->Prop}
abbrev rY(es:Array (Int×Value))(ep:Nat)(t:SetTable):Obj:={ cls:=.type "set",dict:=none,data:=.set es ep t,slots := #[] }
theorem yI(W:WalksS prog w A.in1 I fp wr G n P St)(S:Addr)(hSf:S∉fp){N:Nat}(hN:∀ b∈S::wr,N<=b){h0:Heap}{vs:Nat->Addr}{ks:Nat->List Int}(hval:∀ i v,i<n->P i v->v=.ref (vs i))(hk:∀ i,i<n->TK h0 (ks i) (vs i))(hlt:∀ i,i<n->vs i<N)(hu:A.in1.units<cLine){esF:Array (Int×Value)}{tF:SetTable} :
    ∀ (k i : Nat) (s : Shared) (es : Array (Int × Value)) (ep : Nat) (t : SetTable), n - i = k -> i <= n -> St i s -> (∀ b o, b < N -> h0.get? b = some o -> s.heap.get? b = some o) -> s.heap.get? S = some (rY es ep t) ->
      lY ((List.range' i k).map fun j=>(hK (ks j),Value.ref (vs j))) es t=some (esF,tF) ->
      (∀ s' ep',Moved (S::wr) G s s'->s'.heap.get? S=some (rY esF ep' tF)->R (.ok (.ret .none)) s') ->
      codeAny (model prog w) A (.builtin "set.update.loop" ⟨[.ref S,.ref I],[]⟩) R s:=by
  have hSw:S∉wr:=fun h=>hSf (W.sub _ h)
  have hsub:∀ b∈wr,b∈S::wr:=fun b hb=>List.mem_cons_of_mem _ hb
  intro k
  induction k with
  | zero =>
    intro i s es ep t hki hi hst hold hS hfold hR
    have hin:i=n:=by omega
    subst hin
    cases hfold
    refine codeAny_builtin F.entry_set_update_loop ?_
    rw[Around.under_plainId F.plain_set_update_loop _]
    show wpAny _ A.in1 (pyNext (.ref I) >>=_) _ _ s
    refine wpAny_bind (W.done s _ _ hst fun s' hm=>?_)
    show wpAny _ A.in1 (ret Value.none) _ _ s'
    exact wpAny_pure (hR s' ep (hm.mono hsub) (hm.heap S _ hSw hS))
  | succ k ih =>
    intro i s es ep t hki hi hst hold hS hfold hR
    have hin:i<n:=by omega
    refine codeAny_builtin F.entry_set_update_loop ?_
    rw[Around.under_plainId F.plain_set_update_loop _]
    show wpAny _ A.in1 (pyNext (.ref I) >>=_) _ _ s
    refine wpAny_bind (W.item i s _ _ hin hst fun v s' hP hst' hm=>?_)
    obtain rfl:=hval i v hin hP
    have hS':=hm.heap S _ hSw hS
    have hold':∀ b o,b<N->h0.get? b=some o->s'.heap.get? b=some o:=fun b o hb e=>hm.heap b o (fun q=>absurd (hN b (hsub b q)) (Nat.not_le.mpr hb)) (hold b o hb e)
    obtain⟨o,items,m,a1,a2,a3,a4⟩:=hk i hin
    have hk':TK s'.heap (ks i) (vs i):=⟨o,items,m,hold' _ _ (hlt i hin) a1,a2,a3,a4⟩
    rw[List.range'_succ,List.map_cons] at hfold
    unfold lY at hfold
    split at hfold
    case h_2=>exact absurd hfold nofun
    rename_i es' t' hadd
    show wpAny _ A.in1 (holding [Value.ref (vs i)] (setAdd S (.ref (vs i))) >>=_) _ _ s'
    refine wpAny_bind (wpAny_holding (Dm hu hk' hS' rfl hadd fun h' ep' tk hsb hg htk=>?_))
    refine wpAny_pure ⟨plainId_quiet F.plain_set_update_loop _,ih (i+1) _ es' ep' t' (by omega) hin (W.frame _ s' _ _ hst' htk fun b hb o e=>?_) (fun b o hb e=>?_) hg hfold fun s'' ep'' hm'' hS''=>?_⟩
    · rw[hsb.2 b (fun h:b=S=>hSf (by rw[<- h];exact hb))];exact e
    · rw[hsb.2 b (fun h:b=S=>absurd (hN S List.mem_cons_self) (by rw[<- h];exact Nat.not_le.mpr hb))]
      exact hold' b o hb e
    · refine hR s'' ep'' (Moved.trans W.gtrans ((hm.mono hsub).then_heap htk fun b o hb e=>?_) hm'') hS''
      rw[hsb.2 b (fun h:b=S=>hb (by rw[h];exact List.mem_cons_self))];exact e
end
end Kst
namespace Kst
open PySem PySem.W PyProof.Rows
abbrev byT(w:World):Bool:=w.params.followText "set-order"
abbrev xX(w:World):Obj:=rY #[] 0 (.fresh 0 0 (!byT w))
section
variable {prog:Program} {w:World} {A:Around} {E:Value->Shared->Prop} {s:Shared}
theorem Dl(a:Value){Q₁:Value->Shared->Prop}(h:Q₁ (.ref s.heap.objs.size) { s with heap:=s.heap.push (xX w) }) :
  codeAny (model prog w) A (.call (.builtin "set.__new__") ⟨[.type "set",a],[]⟩) (wants Q₁ E) s:=by
 refine codeAny_of_tree ?_;show wpAny _ A.in1 (do checkBuiltinCall "set.__new__" ⟨[.type "set",a],[]⟩;again (.builtin "set.__new__" ⟨[.type "set",a],[]⟩)) _ _ s;refine wpAny_bind (wpAny_of_eq (PySem.F.newCall_set_1 a) (wpAny_pure ⟨plainId_quiet PySem.F.plain_set_new _,codeAny_builtin PySem.F.entry_set_new ?_⟩));rw[Around.under_plainId PySem.F.plain_set_new _];unfold Builtin.«set.__new__» Builtin.Frozenset.newClass;have hsub:=sub_set_self;obtain⟨hp,g,d,tk,os⟩:=s;dsimp only
 wp_walk
 refine wpAny_askSetting (wpAny_pure ?_);dsimp only;simp only[newObj];refine wpAny_bind (wpAny_alloc (wpAny_pure ?_));exact wpAny_pure h
set_option maxHeartbeats 3200000 in
theorem Ao{l:Addr}{items:Array Value}{vs:Nat->Addr}{ks:Nat->List Int}{esF:Array (Int×Value)}{tF:SetTable}{Q:Value->Shared->Prop}
  (hh:A.handled=none) (hu:A.in1.in1.in1.units<cLine) (hl:s.heap.IsList l items) (hv:∀ i v,i<items.size->items[i]?=some v->v=.ref (vs i)) (hk:∀ i,i<items.size->TK s.heap (ks i) (vs i))
  (hfold:lY ((List.range' 0 items.size).map fun j=>(hK (ks j),Value.ref (vs j))) #[] (.fresh 0 0 (!byT w))=some (esF,tF))
  (h:∀ (h':Heap) (tk ep:Nat),h'.get? s.heap.objs.size=some (rY esF ep tF)->(∀ b o,b<s.heap.objs.size->s.heap.get? b=some o->h'.get? b=some o)->Q (.ref s.heap.objs.size) { s with heap:=h',toks:=tk }) :
  wpAny (model prog w) A (call (.type "set") [.ref l]) Q E s:=by
 obtain⟨c,tl,hmro⟩:=PySem.F.called_set.mro;have hmade:=PySem.F.called_set.made;have hsub:=PySem.F.called_set.sub;refine wpAny_call (codeAny_of_tree ?_);show wpAny _ _ (callAny (.type "set") _) _ _ _;refine wpAny_pure ⟨Code.quiet_builtin _ (by decide +kernel),codeAny_builtin PySem.F.entry_type_call ?_⟩;rw[Around.under_plain (weight_type_call_type "set" [.ref l] []) rfl];have h1:=PySem.F.called_set.notType;have h2:=PySem.F.called_set.canCreate;have hct:=PySem.F.typeCall_set_1 (.ref l)
 repeat (any_goals (first | assumption | wp_step))
 refine codeAny_mono (Dl (.ref l) (E:=E) (Q₁:=fun obj s₁=>obj=.ref s.heap.objs.size/\s₁={ s with heap:=s.heap.push (xX w) }) ⟨rfl,rfl⟩) fun r s₁ hr=>?_
 cases r with
 | error e=>exact hr
 | ok fl =>
  cases fl with
  | ret obj =>
   obtain⟨rfl,rfl⟩:=hr;have hS:(s.heap.push (xX w)).get? s.heap.objs.size=some (xX w):=Heap.get?_push_size _ rfl;have hT:Shared.TypeIs { s with heap:=s.heap.push (xX w) } (.ref s.heap.objs.size) "set":=⟨_,hS,rfl⟩;have hli:=PySem.F.called_set.init.lookup;have hbi:=PySem.F.called_set.init.bind (.ref s.heap.objs.size)
   repeat (any_goals (first | assumption | wp_step))
   refine codeAny_mono (codeAny_call_builtin (R:=wants (fun r s₂=>r=.none/\∃ h' tk ep,s₂={ s with heap:=h',toks:=tk }/\h'.get? s.heap.objs.size=some (rY esF ep tF)/\(∀ b o,b<s.heap.objs.size->s.heap.get? b=some o->h'.get? b=some o)) E) PySem.F.called_set.init.plain PySem.F.entry_set_init (check_set_init_1 hT ?_)) fun r₂ s₂ hr₂=>?_
   ·obtain⟨ol,hol,hcl,nl,hdl⟩:=hl
    obtain⟨ocls,odict,odata,oslots⟩:=ol;simp only at hcl hdl;subst hcl;subst hdl;have hol':(s.heap.push (xX w)).get? l=some { cls:=.type "list",dict:=odict,data:=.seq items nl,slots:=oslots }:=Heap.get?_push_of_some _ hol;have hsls:=PySem.F.sub_list_set;have hslf:=PySem.F.sub_list_frozenset
    have hne:(Value.type "list"==Value.type "dict")=false:=by decide
    have hl1:(s.heap.push (xX w)).IsList l items:=⟨_,hol',rfl,nl,rfl⟩;unfold Builtin.«set.__init__» noKeywords Builtin.Frozenset.updateFrom;generalize hPI:pyIter=PI
    wp_walk
    subst hPI;refine wpAny_pyIter_list hl1 ?_;refine wpAny_bind (wpAny_runValue ?_);have hlS:l<s.heap.objs.size:=Heap.lt_size hol
    have hh3:A.in1.in1.in1.handled=none:=by simp[hh]
    have hneI:l≠(s.heap.push (xX w)).objs.size:=by
     rw[Heap.size_push];exact Nat.ne_of_lt (Nat.lt_succ_of_lt hlS)
    have hSf:s.heap.objs.size∉[(s.heap.push (xX w)).objs.size,l]:=by
     rw[Heap.size_push];simp only[List.mem_cons,List.mem_singleton,List.not_mem_nil,or_false,not_or]
     exact⟨Nat.ne_of_lt (Nat.lt_succ_self _),Nat.ne_of_gt hlS⟩
    refine yI ((Walks.list hh3 _ l hneI items).toS) s.heap.objs.size hSf (N:=s.heap.objs.size) (h0:=s.heap) (fun b hb=>?_) hv hk (fun i hi=>?_) hu (items.size-0) 0 _ #[] 0 (.fresh 0 0 (!byT w)) rfl (Nat.zero_le _)
     ⟨⟨_,Heap.get?_push_size _ rfl,rfl,rfl⟩,(hl1.push _)⟩ (fun b o hb e=>Heap.get?_push_of_some _ (Heap.get?_push_of_some _ e)) (Heap.get?_push_of_some _ hS) hfold ?hR
    ·rcases List.mem_cons.mp hb with rfl | hb
     ·exact Nat.le_refl _
     ·rw[List.mem_singleton.mp hb,Heap.size_push];exact Nat.le_succ _
    ·obtain⟨o,_,_,e,_⟩:=hk i hi
     exact Heap.lt_size e
    case hR =>
     intro s' ep' hm hS';obtain⟨h',g',d',tk',os'⟩:=s';have eg:g'=s.gens:=hm.gens;have ed:d'=s.drawn:=hm.drawn;have eo:os'=s.os:=hm.os;subst eg;subst ed;subst eo;show wpAny _ _ _ _ _ _;refine wpAny_pure ?_;show wpAny _ _ (ret Value.none) _ _ _;refine wpAny_pure ⟨rfl,h',tk',ep',rfl,hS',fun b o hb e=>?_⟩;have hb1:b≠s.heap.objs.size:=Nat.ne_of_lt hb
     have hb2:b≠(s.heap.push (xX w)).objs.size:=by
      rw[Heap.size_push];exact Nat.ne_of_lt (Nat.lt_succ_of_lt hb)
     exact hm.heap b o (by simp only[List.mem_cons,List.mem_singleton,List.not_mem_nil,or_false,not_or];exact⟨hb1,hb2⟩) (Heap.get?_push_of_some _ (Heap.get?_push_of_some _ e))
   ·cases r₂ with
    | error e=>exact hr₂
    | ok fl₂ =>
     cases fl₂ with
     | ret r =>
      obtain⟨rfl,h',tk,ep,rfl,hS',hk'⟩:=hr₂
      repeat (any_goals (first | assumption | wp_step))
      exact h _ _ _ hS' hk'
     | _=>exact hr₂.elim
  | _=>exact hr.elim
end
end Kst
namespace Kst
open PySem PySem.W PyProof.Rows
theorem qG:Manifest.owners.lookup (String.ofList ['r','o','t','a','r','e','t','i','_','t','e','s'].reverse)=some Manifest.sig_set_iterator:=by kernel_rfl
theorem bU:Slot "set_iterator" "__next__" "set_iterator.__next__" :=
 .of (owner:="set_iterator") (n:="__next__") (by rw[typeLookup_type,builtinLookup_eq_fast];kernel_rfl) (by decide +kernel) (by decide +kernel) (by decide +kernel)
  (by first | exact .inl (by decide +kernel) | exact .inr (by decide +kernel)) (by rw[isSubtype_type];kernel_rfl)
theorem gn:entryFor table "set_iterator.__next__"=some Builtin.«set_iterator.__next__» :=entryFor_of_tree (by kernel_rfl)
theorem iw(a:Value):argsOk "set_iterator.__next__" ⟨[a],[]⟩:=by
 unfold argsOk;rw[signature?_of (id:="set_iterator.__next__") (n:=['_','_','t','x','e','n','_','_']) (o:=['r','o','t','a','r','e','t','i','_','t','e','s']) (by kernel_rfl) qG];kernel_rfl
theorem gQ:Slot "set_iterator" "__iter__" "set_iterator.__iter__" :=
 .of (owner:="set_iterator") (n:="__iter__") (by rw[typeLookup_type,builtinLookup_eq_fast];kernel_rfl) (by decide +kernel) (by decide +kernel) (by decide +kernel)
  (by first | exact .inl (by decide +kernel) | exact .inr (by decide +kernel)) (by rw[isSubtype_type];kernel_rfl)
theorem oM(a:Value):argsOk "set_iterator.__iter__" ⟨[a],[]⟩:=by
 unfold argsOk;rw[signature?_of (id:="set_iterator.__iter__") (n:=['_','_','r','e','t','i','_','_']) (o:=['r','o','t','a','r','e','t','i','_','t','e','s']) (by kernel_rfl) qG];kernel_rfl
theorem jQ:entryFor table "set.__iter__"=some Builtin.«frozenset.__iter__» :=entryFor_alias (id':="frozenset.__iter__") (by kernel_rfl) rfl (by decide +kernel) (by kernel_rfl)
end Kst
namespace Kst
open PySem PySem.W PyProof.Rows
theorem lZ:entryFor table "set_iterator.__iter__"=some Builtin.«dict_keyiterator.__iter__» :=entryFor_alias (id':="dict_keyiterator.__iter__") (by kernel_rfl) rfl (by decide +kernel) (by kernel_rfl)
def ord(w:World)(S:Addr)(ep:Nat)(es:Array (Int×Value)):Array (Int×Value):=if byT w then pickOrder (w.params.setOrder S ep) es else es
def sl(w:World)(t:SetTable)(i:Nat):Nat:=if byT w then 0 else if i=0 then 0 else t.place.getD (i-1) 0+1
def yc(h:Heap)(it S:Addr)(w:World)(t:SetTable)(i n ep:Nat):Prop:=∃ o,h.get? it=some o/\o.cls=.type "set_iterator"/\o.data=.fields #[.int (sl w t i) 0,.int i 0,.ref S,.int n 0,.int ep 0]
theorem yc.at{h h':Heap}{it S:Addr}{w:World}{t:SetTable}{i n ep:Nat}(x:yc h it S w t i n ep)(e:∀ o,h.get? it=some o->h'.get? it=some o):yc h' it S w t i n ep:=let ⟨o,ho,r⟩:=x;⟨o,e _ ho,r⟩
def nx(w:World)(S:Addr)(ep:Nat)(es:Array (Int×Value))(t:SetTable)(slot i:Nat):Option (Value×Nat):=if byT w then(ord w S ep es)[i]?.map (fun e=>(e.2,slot)) else match es[SetTable.below t.place slot]?,t.place[SetTable.below t.place slot]? with | some (_,x),some j=>some (x,j+1) | _,_=>none
section
variable {prog:Program} {w:World} {A:Around} {E:Value->Shared->Prop} {s:Shared} {S:Addr} {es:Array (Int×Value)} {ep:Nat} {t:SetTable}
theorem yc.typeIs{it:Addr}{i n:Nat}(x:yc s.heap it S w t i n ep):s.TypeIs (.ref it) "set_iterator":=let ⟨o,ho,hc,_⟩:=x;⟨o,ho,hc⟩
theorem uQ{Q:Bool->Shared->Prop}(ho:s.heap.get? S=some (rY es ep t))(hf:t.fits es.size=true)(hp:t.plain=true)(h:Q false s):wpAny (model prog w) A (setDrawn S) Q E s:=by
 unfold setDrawn;refine wpAny_bind (wpAny_setState_of ho rfl hf ?_);dsimp only;refine wpAny_bind ?_;unfold setsByText;refine wpAny_bind (wpAny_askSetting (wpAny_pure ?_))
 have e:(!byT w&&(!t.plain&&decide (es.size>1)))=false:=by rw[hp];simp
 refine wpAny_pure ?_;show Q (!byT w&&(!t.plain&&decide (es.size>1))) s;rw[e];exact h
theorem zJ{Q:Value->Shared->Prop}(ho:s.heap.get? S=some (rY es ep t))(hf:t.fits es.size=true)(hp:t.plain=true)
  (h:Q (.ref s.heap.objs.size) { s with heap:=s.heap.push { cls:=.type "set_iterator",data:=.fields #[.int (sl w t 0) 0,.int 0 0,.ref S,.int es.size 0,.int ep 0] } }):wpAny (model prog w) A (pyIter (.ref S)) Q E s:=by
 have hT:s.TypeIs (.ref S) "set":=⟨_,ho,rfl⟩;refine wpAny_pyIter_slot hT PySem.F.slot_set_iter (wpAny_call_entry PySem.F.slot_set_iter hT jQ ?_ (PySem.F.args_set_iter_1 _));unfold Builtin.«frozenset.__iter__»;refine wpAny_bind (m:=Builtin.Frozenset.slot0 _ _) (wpAny_pure ?_);refine wpAny_bind (m:=Builtin.Frozenset.sizeOf _) (wpAny_bind (wpAny_bind (wpAny_setState_of ho rfl hf (wpAny_pure (wpAny_pure ?_)))));refine wpAny_bind (uQ ho hf hp ?_);simp only[Bool.false_eq_true,if_false];refine wpAny_bind (wpAny_pure ?_);refine wpAny_bind (wpAny_setEpoch_of ho rfl hf ?_);refine wpAny_bind (wpAny_newObj_type (wpAny_pure ⟨_,rfl,"set_iterator",_,⟨_,Heap.get?_push_size _ rfl,rfl⟩,bU.lookup,?_⟩))
 have e0:sl w t 0=0:=by unfold sl;split<;>rfl
 rw[e0] at h;exact h
theorem qy{slot i:Nat}{Q:Option (Value×Nat)->Shared->Prop}(ho:s.heap.get? S=some (rY es ep t))(hf:t.fits es.size=true)(hp:t.plain=true)(hl:t.led = !byT w)
  (h:Q (nx w S ep es t slot i) s):wpAny (model prog w) A (setNext S slot i ep) Q E s:=by
 unfold setNext;refine wpAny_bind (wpAny_setState_of ho rfl hf ?_);dsimp only;refine wpAny_bind ?_;unfold setsByText;refine wpAny_bind (wpAny_askSetting (wpAny_pure ?_));show wpAny _ _ (if byT w=true then _ else _) _ _ _;unfold nx ord at h
 by_cases hb:byT w=true
 ·rw[if_pos hb]
  rw[if_pos hb,if_pos hb] at h;rw[if_neg (by simp)];refine wpAny_bind ?_;unfold setWalk;refine wpAny_bind (wpAny_setState_of ho rfl hf ?_);dsimp only;refine wpAny_bind ?_;unfold setsByText;refine wpAny_bind (wpAny_askSetting (wpAny_pure ?_));show wpAny _ _ (if byT w=true then _ else _) _ _ _;rw[if_pos hb];refine wpAny_bind (wpAny_askSetting (wpAny_pure ?_));exact wpAny_pure h
 ·rw[if_neg hb]
  rw[if_neg hb] at h
  have hb':byT w=false:=by simpa using hb
  rw[hb'] at hl;show wpAny _ _ (if(!t.plain&&decide (es.size>1))=true then _ else _) _ _ _;rw[if_neg (by rw[hp];simp)];refine wpAny_bind ?_;show wpAny _ _ (if(!t.led && !es.isEmpty)=true then _ else _) _ _ _;rw[if_neg (by rw[hl];simp)];exact wpAny_pure (wpAny_pure h)
end
end Kst
namespace Kst
open PySem PySem.W PyProof.Rows
structure SetW (w:World) (es:Array (Int×Value)) (t:SetTable):Prop where
 f:t.fits es.size=true
 p:t.plain=true
 l:t.led = !byT w
 k:∀ i,i<es.size->SetTable.below t.place (if i=0 then 0 else t.place.getD (i-1) 0+1)=i
 e:SetTable.below t.place (if es.size=0 then 0 else t.place.getD (es.size-1) 0+1)=es.size
theorem nj{α:Type}:∀ (l:List α) (i:Nat) (h:i<l.length),(l[i]::l.eraseIdx i).Perm l
 | a::l,0,_=>List.Perm.refl _
 | a::l,i+1,h=>(List.Perm.swap _ _ _).trans (List.Perm.cons a (nj l i (by simpa using h)))
theorem ni{α:Type}(next:Nat->Nat):∀ (n k:Nat) (l:List α) (out:Array α),n=l.length->(pickOrder.go next n k l out).toList.Perm (out.toList++l)
 | 0,k,l,out,h=>by
  have:l=[]:=List.length_eq_zero_iff.mp h.symm;subst this;simp[pickOrder.go]
 | n+1,k,l,out,h=>by
  have hl:next k%l.length<l.length:=Nat.mod_lt _ (by omega)
  have e:l[next k%l.length]?=some (l[next k%l.length]):=List.getElem?_eq_getElem hl;unfold pickOrder.go;rw[e];dsimp only;refine(ni next n (k+1) _ _ (by rw[List.length_eraseIdx_of_lt hl];omega)).trans ?_;rw[Array.toList_push,List.append_assoc];exact List.Perm.append_left _ (nj _ _ hl)
theorem qH(w:World)(S:Addr)(ep:Nat)(es:Array (Int×Value)):(ord w S ep es).toList.Perm es.toList:=by
 unfold ord;split
 ·exact(ni _ _ _ _ _ (by simp)).trans (by simp)
 ·exact List.Perm.refl _
theorem dY(w:World)(S:Addr)(ep:Nat)(es:Array (Int×Value)):(ord w S ep es).size=es.size:=by
 have:=(qH w S ep es).length_eq;simpa using this
section
variable {prog:Program} {w:World} {A:Around} {E:Value->Shared->Prop} {s:Shared} {S it:Addr} {es:Array (Int×Value)} {ep:Nat} {t:SetTable}
theorem Fg(W:SetW w es t)(i:Nat)(hi:i<es.size):nx w S ep es t (sl w t i) i=some (((ord w S ep es)[i]'(by rw[dY];exact hi)).2,sl w t (i+1)):=by
 unfold nx
 by_cases hb:byT w=true
 ·rw[if_pos hb]
  have e1:sl w t i=0:=if_pos hb;have e2:sl w t (i+1)=0:=if_pos hb;rw[e1,e2,Array.getElem?_eq_getElem (by rw[dY];exact hi)];rfl
 ·rw[if_neg hb]
  have e1:sl w t i=if i=0 then 0 else t.place.getD (i-1) 0+1:=if_neg hb;have e2:sl w t (i+1)=t.place.getD i 0+1:=(if_neg hb).trans (if_neg (Nat.succ_ne_zero i))
  have hz:t.place.size=es.size:=by have:=W.f;simp only[SetTable.fits,Bool.and_eq_true,beq_iff_eq] at this;exact this.1
  rw[e1,W.k i hi,e2,Array.getElem?_eq_getElem hi,Array.getElem?_eq_getElem (by omega)]
  have e3:t.place.getD i 0=t.place[i]'(by omega):=by simp[Array.getD,show i<t.place.size by omega]
  have e4:(ord w S ep es)[i]'(by rw[dY];exact hi)=es[i]:=by
   have:ord w S ep es=es:=if_neg hb;simp only[this]
  rw[e4,e3]
theorem next_end(W:SetW w es t):nx w S ep es t (sl w t es.size) es.size=none:=by
 unfold nx
 by_cases hb:byT w=true
 ·rw[if_pos hb,Array.getElem?_eq_none (by rw[dY];exact Nat.le_refl _)]
  rfl
 ·rw[if_neg hb]
  have e1:sl w t es.size=if es.size=0 then 0 else t.place.getD (es.size-1) 0+1:=if_neg hb;rw[e1,W.e,Array.getElem?_eq_none (Nat.le_refl _)]
theorem Dk{i:Nat}{Q:Option Value->Shared->Prop}(W:SetW w es t)(hit:yc s.heap it S w t i es.size ep)(ho:s.heap.get? S=some (rY es ep t))(hi:i<es.size)
  (hQ:∀ h',yc h' it S w t (i+1) es.size ep->Heap.SameBut it s.heap h'->Q (some ((ord w S ep es)[i]'(by rw[dY];exact hi)).2) { s with heap:=h' }):wpAny (model prog w) A (pyNext (.ref it)) Q E s:=by
 obtain⟨o,hio,hc,hd⟩:=id hit;unfold pyNext;refine wpAny_bind (wpAny_attempt (wpAny_callSpecial?_slot (name:=Str.ofString "__next__") hit.typeIs bU (wpAny_call_entry bU hit.typeIs gn ?_ (iw _))));unfold Builtin.«set_iterator.__next__»;refine wpAny_bind (m:=slotArgs _ _ _) (wpAny_pure ?_);refine wpAny_bind (wpAny_fieldsOf hio hd ?_);dsimp only;refine wpAny_bind (m:=setEntries S) (wpAny_bind (wpAny_setState_of ho rfl W.f (wpAny_pure ?_)));rw[if_neg (by simp)];simp only[Int.toNat_natCast];refine wpAny_bind (qy ho W.f W.p W.l ?_);rw[Fg W i hi];dsimp only;refine wpAny_bind (wpAny_setField hio hd (by simp) ?_);have hio2:=Heap.get?_update_self (Obj.mapFields fun vs=>vs.setIfInBounds 0 (rawInt (sl w t (i+1)))) hio (Obj.isFreed_of_fields (Obj.data_mapFields hd _));have hd2:=Obj.data_mapFields hd fun vs=>vs.setIfInBounds 0 (rawInt (sl w t (i+1)));refine wpAny_bind (wpAny_setField hio2 hd2 (by simp) (wpAny_pure ⟨_,rfl,wpAny_pure (hQ _ ?_ ((Heap.SameBut.update ..).trans (Heap.SameBut.update ..)))⟩));refine⟨_,Heap.get?_update_self _ hio2 (Obj.isFreed_of_fields (Obj.data_mapFields hd2 _)),(Obj.cls_mapFields ..).trans ((Obj.cls_mapFields ..).trans hc),?_⟩;rw[Obj.data_mapFields hd2];simp[rawInt]
theorem Ih{Q:Option Value->Shared->Prop}(hh:A.handled=none)(W:SetW w es t)(hit:yc s.heap it S w t es.size es.size ep)(ho:s.heap.get? S=some (rY es ep t))
  (hQ:∀ h',Heap.ExtBut it s.heap h'->Q none { s with heap:=h' }):wpAny (model prog w) A (pyNext (.ref it)) Q E s:=by
 obtain⟨o,hio,hc,hd⟩:=id hit;unfold pyNext;refine wpAny_bind (wpAny_attempt (wpAny_callSpecial?_slot (name:=Str.ofString "__next__") hit.typeIs bU (wpAny_call_entry bU hit.typeIs gn ?_ (iw _))));unfold Builtin.«set_iterator.__next__»;refine wpAny_bind (m:=slotArgs _ _ _) (wpAny_pure ?_);refine wpAny_bind (wpAny_fieldsOf hio hd ?_);dsimp only;refine wpAny_bind (m:=setEntries S) (wpAny_bind (wpAny_setState_of ho rfl W.f (wpAny_pure ?_)));rw[if_neg (by simp)];simp only[Int.toNat_natCast];refine wpAny_bind (qy ho W.f W.p W.l ?_);rw[next_end W];dsimp only;refine wpAny_bind (wpAny_setField hio hd (by simp) ?_);show wpAny _ _ (newExc (.type "StopIteration") [] >>=_) _ _ _;refine wpAny_bind ?_;simp only[newExc,newTuple];refine wpAny_bind (wpAny_newObj_type ?_ (by size_fits));refine wpAny_bind (m:=firstArgMember _ _) (wpAny_of_eq (a:=Value.none) (by first | rfl | (simp only[firstArgMember];rfl)) ?_);refine wpAny_newObj_type ?_ (by size_fits);simp only[raiseNew];refine wpAny_bind (wpAny_handled ?_);rw[show A.in1.handled=none from hh];refine wpAny_bind (wpAny_pure (wpAny_throw ?_));refine wpAny_bind (wpAny_isInstance (T:="StopIteration") (b:=true) ⟨_,Heap.get?_push_size _ rfl,rfl⟩ isSubtype_stop ?_);exact wpAny_pure (hQ _ (((Heap.SameBut.update ..).extBut.push _).push _))
theorem Dj{i n:Nat}{Q:Value->Shared->Prop}(hit:yc s.heap it S w t i n ep)(h:Q (.ref it) s):wpAny (model prog w) A (pyIter (.ref it)) Q E s:=by
 refine wpAny_pyIter_slot hit.typeIs gQ (wpAny_call_entry gQ hit.typeIs lZ ?_ (oM _));show wpAny _ _ (ret (.ref it)) _ _ s;exact wpAny_pure ⟨_,rfl,"set_iterator",_,hit.typeIs,bU.lookup,h⟩
theorem uP(hh:A.handled=none)(I S:Addr)(hne:S≠I)(W:SetW w es t):Walks prog w A I [I,S] [I] es.size (fun i v=>∃ h:i<(ord w S ep es).size,v=((ord w S ep es)[i]'h).2) (fun i h=>yc h I S w t i es.size ep/\h.get? S=some (rY es ep t)) where
 sub:=fun b hb=>by simp at hb;simp[hb]
 frame:=fun _ _ _ st hk=>⟨st.1.at fun o e=>hk I (by simp) o e,hk S (by simp) _ st.2⟩
 item:=fun i s Q E hi st hQ=>Dk W st.1 st.2 hi fun h' hit' hs'=>hQ _ h' s.toks ⟨by rw[dY];exact hi,rfl⟩ ⟨hit',hs'.extBut S _ hne st.2⟩ fun b o hb e=>hs'.extBut b o (fun h=>hb (by simp[h])) e
 done:=fun s Q E st hQ=>Ih hh W st.1 st.2 fun h' he'=>hQ h' s.toks fun b o hb e=>he' b o (fun h=>hb (by simp[h])) e
 self:=fun _ _ _ _ st hQ=>Dj st.1 hQ
theorem zL{r:Addr}{Q:Bool->Shared->Prop}(hT:s.TypeIs (.ref r) "set")(h:Q false s):wpAny (model prog w) A (Builtin.List.listLengthHint (.ref r)) Q E s:=by
 unfold Builtin.List.listLengthHint;refine wpAny_bind (wpAny_specialOf hT PySem.F.slot_set_len.lookup ?_);generalize hid:("set.__len__":String)=id0
 wp_delta
 rw[show splitId id0=some ("set","__len__") from by subst hid;decide +kernel]
 subst hid;refine wpAny_bind (wpAny_isInstance (T:="set") (b:=true) hT (by rw[isSubtype_type];kernel_rfl) ?_);refine wpAny_ite_split (fun hab=>absurd hab (by decide)) (fun _=>?_);refine wpAny_ite_split (fun _=>?_) (fun hab=>absurd (by decide +kernel) hab);refine wpAny_bind (wpAny_typeOf hT ?_);exact wpAny_pure h
theorem FT(W:SetW w es t):KdlSrc prog w "set" S S es.size (fun i v=>∃ h:i<(ord w S ep es).size,v=((ord w S ep es)[i]'h).2) (fun h=>h.get? S=some (rY es ep t)) where
 type:=fun _ hm=>⟨_,hm,rfl⟩
 there:=fun _ hm=>⟨Heap.lt_size hm,Heap.lt_size hm⟩
 keep:=fun _ _ hm hk=>hk S (.inl rfl) _ hm
 notList:=by decide
 notTuple:=by decide
 hint:=fun _ _ _ _ hm hq=>zL ⟨_,hm,rfl⟩ hq
 iter:=fun _ _ hh hm=>⟨_,_,(fun _ _ hq=>zJ hm W.f W.p hq),uP hh _ S (Nat.ne_of_lt (Heap.lt_size hm)) W,⟨⟨_,Heap.get?_push_size _ rfl,rfl,rfl⟩,Heap.get?_push_of_some _ hm⟩⟩
end
end Kst
namespace Kst
open PySem PySem.W PyProof.Rows Kas
theorem yU{α β:Type}{f:α->β}{us vs:List β}(h:us.Perm vs):∀ l:List α,vs=l.map f->∃ p:List α,p.Perm l/\us=p.map f:=by
 induction h with
 | nil =>
  intro l e
  have:l=[]:=by simpa using e.symm
  subst this;exact⟨[],List.Perm.refl _,rfl⟩
 | cons x h ih =>
  intro l e
  cases l with
  | nil=>simp at e
  | cons a l =>
   simp only[List.map_cons,List.cons.injEq] at e;obtain⟨p,h1,h2⟩:=ih l e.2;exact⟨a::p,h1.cons a,by rw[h2,List.map_cons,<- e.1]⟩
 | swap x y t =>
  intro l e
  cases l with
  | nil=>simp at e
  | cons a l =>
   cases l with
   | nil=>simp at e
   | cons b l =>
    simp only[List.map_cons,List.cons.injEq] at e;obtain⟨rfl,rfl,rfl⟩:=e;exact⟨b::a::l,List.Perm.swap _ _ _,rfl⟩
 | trans h1 h2 ih1 ih2 =>
  intro l e;obtain⟨p2,a1,a2⟩:=ih2 l e;obtain⟨p1,b1,b2⟩:=ih1 p2 a2;exact⟨p1,b1.trans a1,b2⟩
theorem m6{α:Type}{n:Nat}{P:α->Prop}{lt lt':Nat->Nat->Bool}(h:∀ i j,i<n->j<n->lt i j=lt' i j):∀ {t:KasT α},okP n t P->run lt t=run lt' t
 | .ret a,_=>rfl
 | .ask i j k,q=>by
  simp only[Kas.run];rw[h i j q.1 q.2.1];exact m6 h (q.2.2 _)
theorem Lk{r:Nat->Nat}{n:Nat}{p:Array Nat}(s:So r n p)(h:∀ i,i<n->K r p i<n):∀ i,i<n->K r p i=i:=by
 have lo:∀ i,i<n->i<=K r p i:=by
  intro i
  induction i with
  | zero=>intro _;exact Nat.zero_le _
  | succ i ih =>
   intro hi;have:=ih (by omega);have:=s i (i+1) (by omega) hi;omega
 have up:∀ k i,i+k<n->K r p i+k<=K r p (i+k):=by
  intro k
  induction k with
  | zero=>intro i _;exact Nat.le_refl _
  | succ k ih =>
   intro i hi;have:=ih i (by omega);have:=s (i+k) (i+k+1) (by omega) (by omega)
   have e:i+(k+1)=i+k+1:=by omega
   rw[e];omega
 intro i hi;have a:=lo i hi;have b:=up (n-1-i) i (by omega);have c:=h (i+(n-1-i)) (by omega);omega
theorem yD{n:Nat}{ks:List (List Int)}{f:Nat->Value}{p:List Nat}(hn:2<=n)(hp:p.Perm (List.range n))(rise:∀ i j,i<n->j<n->ltK ks i j=decide (i<j)) :
  (run (ltK (p.map fun i=>ks.getD i [])) (kas_sort (p.map f).length)).toList.map (fun i=>(p.map f).getD i Value.none)=(List.range n).map f:=by
 have hl:p.length=n:=by rw[hp.length_eq,List.length_range]
 have nd:p.Nodup:=hp.nodup_iff.mpr List.nodup_range;rw[List.length_map,hl]
 have pat:∀ i (hi:i<n),p.getD i 0=p[i]'(by omega):=fun i hi=>by rw[List.getD_eq_getElem?_getD,List.getElem?_eq_getElem (by omega)];rfl
 have plt:∀ i,i<n->p.getD i 0<n:=fun i hi=>by
  rw[pat i hi];exact List.mem_range.mp (hp.mem_iff.mp (List.getElem_mem _))
 have e1:run (ltK (p.map fun i=>ks.getD i [])) (kas_sort n)=run (ltR fun i=>p.getD i 0) (kas_sort n):=m6 (n:=n) (P:=Pn n) (fun i j hi hj=>by
  have q:∀ i,i<n->(p.map fun i=>ks.getD i []).getD i []=ks.getD (p.getD i 0) []:=fun i hi=>by
   rw[List.getD_eq_getElem?_getD,List.getElem?_map,List.getElem?_eq_getElem (by omega),pat i hi];rfl
  show Fy _ _ _=_;rw[q i hi,q j hj]
  exact rise _ _ (plt i hi) (plt j hj)) (pG (by omega))
 rw[e1]
 obtain⟨o,so⟩:=Df (r:=fun i=>p.getD i 0) (N:=n) hn (fun i j hi hj e=>by
  simp only[pat i hi,pat j hj] at e
  exact(List.getElem_inj nd).mp e)
 generalize run (ltR fun i=>p.getD i 0) (kas_sort n)=q at o so
 have hq:∀ i,i<n->q.getD i 0<n:=fun i hi=>by
  have hi':i<q.size:=by rw[o.z];exact hi
  have e:q.getD i 0=q[i]:=by simp[Array.getD,hi']
  rw[e];exact List.mem_range.mp (o.pm.mem_iff.mp (by rw[<- Array.getElem_toList];exact List.getElem_mem _))
 have kk:=Lk so (fun i hi=>plt _ (hq i hi));refine List.ext_getElem (by simp[o.z]) fun i h1 h2=>?_
 have hi:i<n:=by simpa using h2
 have hi':i<q.size:=by rw[o.z];exact hi
 rw[List.getElem_map,List.getElem_map,List.getElem_range,Array.getElem_toList]
 have e:q.getD i 0=q[i]:=by simp[Array.getD,hi']
 have k1:p.getD (q.getD i 0) 0=i:=kk i hi;rw[<- e];have e2:=pat _ (hq i hi);rw[List.getD_eq_getElem?_getD,List.getElem?_map,List.getElem?_eq_getElem (by rw[hl];exact hq i hi),<- e2,k1];rfl
section
variable {prog:Program} {w:World} {A:Around} {E:Value->Shared->Prop} {s:Shared}
theorem lO{a:Addr}{vs:List Value}{n:Nat}{P:PySem.Fin->Shared->Prop}(ho:s.heap.get? a=some (seqObj "list" vs.toArray n))(h2:vs.length<2)(h:P (.done (.ret .none)) { s with heap:=sortedHeap s.heap a vs vs.toArray }):wpAny (model prog w) A (Builtin.«list.sort» ⟨[.ref a],[]⟩) P E s:=by
 rw[list_sort_plain];have ha:a<s.heap.objs.size:=Heap.lt_size ho;refine wpAny_bind (listItems_at ho rfl ?_);refine wpAny_bind (listUpdate_at ho rfl ?_ (by rw[List.size_toArray,sizeLine_eq];omega) (Nat.zero_le _));obtain⟨e1,ho1⟩:∃ e1,(s.heap.update a (Obj.mapSeq fun _ => #[])).get? a=some (seqObj "list" #[] e1):=⟨_,get?_update_seq ho (fun _ => #[])⟩;refine wpAny_bind (seqEpoch_at ho1 rfl ?_);refine wpAny_bind (wpAny_newTuple ?_ (by show vs.length<=_;rw[sizeLine_eq];omega));refine wpAny_bind (wpAny_newList ?_ (Nat.zero_le _));refine wpAny_holding ?_
 have ho6:(((s.heap.update a (Obj.mapSeq fun _ => #[])).push (seqObj "tuple" vs.toArray 0)).push (seqObj "list" #[] 0)).get? a=some (seqObj "list" #[] e1):=by
  rw[Heap.get?_push_ne _ _ _ (by rw[size_push',Heap.size_update];exact Nat.ne_of_lt (Nat.lt_succ_of_lt ha)),Heap.get?_push_ne _ _ _ (by rw[Heap.size_update];exact Nat.ne_of_lt ha)]
  exact ho1
 show wpAny (model prog w) A _ P E { s with heap:=((s.heap.update a (Obj.mapSeq fun _ => #[])).push (seqObj "tuple" vs.toArray 0)).push (seqObj "list" #[] 0) };dsimp only
 have h2':vs.toArray.size<2:=by simpa using h2
 rw[if_pos h2',if_pos h2'];refine wpAny_bind (wpAny_pure ?_);rw[StateT.run_pure];refine wpAny_bind (wpAny_pure ?_);dsimp only
 have ez:Array.map (fun x=>x.2) (arrOf (SortSt.mk' general' (vs.toArray.zip vs.toArray) #[] 7 none))=vs.toArray:=by
  apply Array.toList_inj.mp;show(Array.map (fun(x:Value×Value)=>x.2) (vs.toArray.zip vs.toArray)).toList=vs;simp[List.map_snd_zip]
 refine wpAny_bind (seqEpoch_at ho6 rfl ?_);refine wpAny_bind (listUpdate_at ho6 rfl ?_ (Nat.zero_le _) (by show(Array.map (fun(x:Value×Value)=>x.2) (vs.toArray.zip vs.toArray)).size<=_;simp;rw[sizeLine_eq];omega));simp only[bne_self_eq_false,Bool.false_eq_true,if_false];refine wpAny_pure ?_;rw[<- ez] at h;simp only[ez] at h ⊢;exact h
end
end Kst
namespace Kst
open PySem PySem.W PyProof.Rows Kas PySem.Calls
section
variable {prog:Program} {w:World} {A:Around} {E:Value->Shared->Prop} {s:Shared} {S:Addr} {es:Array (Int×Value)} {ep:Nat} {t:SetTable}
theorem uq{h:Heap}{n:Nat}{f:Nat->Value}{ks:List (List Int)}{p:List Nat}(hp:p.Perm (List.range n))(ht:dj h ((List.range n).map f) ks):dj h (p.map f) (p.map fun i=>ks.getD i []):=by
 refine⟨by simp,fun i v k h1 h2=>?_⟩
 have hk:ks.length=n:=by have:=ht.1;simpa using this.symm
 rw[List.getElem?_map] at h1 h2
 cases e:p[i]? with
 | none=>rw[e] at h1;cases h1
 | some a =>
  rw[e] at h1 h2;cases h1;cases h2;have ha:a<n:=List.mem_range.mp (hp.mem_iff.mp (List.mem_of_getElem? e));refine ht.2 a (f a) _ (by rw[List.getElem?_map,List.getElem?_range ha];rfl) ?_;show ks[a]?=some (ks.getD a []);rw[List.getD_eq_getElem?_getD,List.getElem?_eq_getElem (by omega)];rfl
theorem jF{n:Nat}{f:Nat->Value}{ks:List (List Int)}{Q:Value->Shared->Prop}(hh:A.in1.handled=none)(W:SetW w es t)(ho:s.heap.get? S=some (rY es ep t))(h1:1<=n)(h64:n<64)(hes:(es.toList.map (·.2)).Perm ((List.range n).map f))(ht:dj s.heap ((List.range n).map f) ks)(rise:∀ i j,i<n->j<n->ltK ks i j=decide (i<j))
  (h:∀ h' tk l e,(∀ b o,s.heap.get? b=some o->h'.get? b=some o)->s.heap.get? l=none->h'.get? l=some (seqObj "list" ((List.range n).map f).toArray e)->Q (.ref l) { s with heap:=h',toks:=tk }):wpAny (model prog w) A (call (.builtin "sorted") [.ref S]) Q E s:=by
 refine call_function_entry kind_sorted plain_sorted entry_sorted (args_sorted1 _) ?_;unfold Builtin.«sorted»;refine wpAny_bind (m:=checkCount "sorted" 1 1 _) (wpAny_pure ?_)
 have hz:es.size=n:=by have:=hes.length_eq;simpa using this
 refine wpAny_bind (kdu_collect (A:=A.in1) (FT (ep:=ep) W) hh ho (by rw[sizeLine_eq];omega) fun h' tk acc hk hacc=>?_)
 have hacc2:acc.toList=(ord w S ep es).toList.map (·.2):=by
  refine List.ext_getElem (by rw[List.length_map,Array.length_toList,Array.length_toList,hacc.1,dY]) fun i q1 q2=>?_;rw[List.getElem_map,Array.getElem_toList,Array.getElem_toList];obtain⟨q,e⟩:=hacc.2 i acc[i] (by rw[Array.getElem?_eq_getElem]);exact e
 have hpm:((ord w S ep es).toList.map (·.2)).Perm ((List.range n).map f):=((qH w S ep es).map _).trans hes;obtain⟨p,hp,hpe⟩:=yU hpm (List.range n) rfl;rw[hacc2,hpe]
 have hl:(p.map f).length=n:=by rw[List.length_map,hp.length_eq,List.length_range]
 refine wpAny_bind (wpAny_newList ?_ (by rw[sizeLine_eq];omega))
 have hoL:(h'.push { cls:=.type "list",data:=.seq (p.map f).toArray }).get? h'.objs.size=some (seqObj "list" (p.map f).toArray 0):=Heap.get?_push_size _ rfl
 have hn:s.heap.get? h'.objs.size=none:=by
  cases e:s.heap.get? h'.objs.size with
  | none=>rfl
  | some o=>exact absurd (Heap.lt_size (hk _ _ e)) (Nat.lt_irrefl _)
 have fin:∀ out:Array Value,out=((List.range n).map f).toArray->Q (.ref h'.objs.size) { s with heap:=sortedHeap (h'.push { cls:=.type "list",data:=.seq (p.map f).toArray }) h'.objs.size (p.map f) out,toks:=tk }:=fun out e=>by
  obtain⟨ep',hat'⟩:=sortedHeap_at (out:=out) (vs:=p.map f) hoL;subst e;refine h _ _ _ ep' (fun b u e=>?_) hn hat';have e':=hk b u e;have hb:b≠h'.objs.size:=Nat.ne_of_lt (Heap.lt_size e');rw[sortedHeap_old hb (by rw[Heap.size_push];exact Nat.lt_succ_of_lt (Heap.lt_size e'))];exact Heap.get?_push_of_some _ e'
 have ht':dj (h'.push { cls:=.type "list",data:=.seq (p.map f).toArray }) (p.map f) (p.map fun i=>ks.getD i []):=(uq hp ht).keep fun b o _ e=>Heap.get?_push_of_some _ (hk _ _ e);refine wpAny_bind (wpAny_holding (wpAny_call_entry slot_list_sort ⟨_,hoL,rfl⟩ entry_list_sort ?body (args_list_sort _)))
 case body =>
  by_cases h2:n<2
  ·refine lO (s:={ s with heap:=h'.push { cls:=.type "list",data:=.seq (p.map f).toArray },toks:=tk }) hoL (by omega) ?_
   refine⟨_,rfl,wpAny_pure ⟨_,rfl,fin _ ?_⟩⟩
   have n1:n=1:=by omega
   subst n1
   have:p=[0]:=by
    have:=hp;simp only[List.range_one] at this;exact List.perm_singleton.mp this
   rw[this];rfl
  ·refine lN (s:={ s with heap:=h'.push { cls:=.type "list",data:=.seq (p.map f).toArray },toks:=tk }) hoL ht' (by omega) (by omega) ?_
   refine⟨_,rfl,wpAny_pure ⟨_,rfl,fin _ ?_⟩⟩;rw[yD (by omega) hp rise]
end
end Kst
namespace Kst
open PySem PySem.W PyProof.Rows Kas PySem.Calls
def Ir(ks:List (List Int)):Bool:=(List.range ks.length).all fun i=>(List.range ks.length).all fun j=>ltK ks i j==decide (i<j)
def Hg(ks:List (List Int)):Bool:=decide (1<=ks.length)&&decide (ks.length<64)&&Ir ks&&Ig (ks.map hK)
theorem Dq{ks:List (List Int)}(h:Ir ks=true):∀ i j,i<ks.length->j<ks.length->ltK ks i j=decide (i<j):=fun i j hi hj=>by
 have:=List.all_eq_true.mp (List.all_eq_true.mp h i (List.mem_range.mpr hi)) j (List.mem_range.mpr hj);exact eq_of_beq this
theorem yH{ks:List (List Int)}{f:Nat->Value}{w:World}(h:Ig (ks.map hK)=true):∃ es t,lY ((List.range' 0 ks.length).map fun j=>(hK (ks.getD j []),f j)) #[] (.fresh 0 0 (!byT w))=some (es,t)/\(es.toList.map (·.2)).Perm ((List.range ks.length).map f)/\SetW w es t:=by
 have hl:∀ led:Bool,led∈[true,false]:=fun led=>by cases led<;>simp
 have h1:=List.all_eq_true.mp h _ (hl (!byT w))
 have e0:(List.range' 0 ks.length).map (fun j=>(hK (ks.getD j []),f j))=((ks.map hK).zip (List.range (ks.map hK).length)).map fun e=>(e.1,f e.2):=by
  refine List.ext_getElem (by simp) fun i q1 q2=>?_
  have hi:i<ks.length:=by simpa using q1
  simp[List.getElem_range',List.getD_eq_getElem?_getD,hi]
 have e1:=wj f ((ks.map hK).zip (List.range (ks.map hK).length)) #[] (.fresh 0 0 (!byT w));split at h1
 case h_2=>exact absurd h1 (by decide)
 rename_i es t he;rw[he] at e1;simp only[Bool.and_eq_true,List.isPerm_iff,beq_iff_eq] at h1;obtain⟨⟨hp,hg⟩,hled⟩:=h1
 have em:mp f (#[]:Array (Int×Nat)) = #[]:=by unfold mp;simp
 rw[em] at e1
 have hz:es.size=ks.length:=by
  have:=hp.length_eq;simpa using this
 refine⟨mp f es,t,by rw[e0];exact e1,?_,?_⟩
 ·have e2:(mp f es).toList.map (·.2)=(es.toList.map (·.2)).map f:=by
   unfold mp;rw[Array.toList_map,List.map_map,List.map_map];rfl
  rw[e2];simpa using hp.map f
 ·have hz2:(mp f es).size=ks.length:=(vG f es).trans hz
  unfold goodW at hg;simp only[Bool.and_eq_true,List.length_map,List.all_eq_true,List.mem_range,beq_iff_eq] at hg;obtain⟨⟨⟨g1,g2⟩,g3⟩,g4⟩:=hg;exact⟨by rw[hz2];exact g1,g2,hled,fun i hi=>g3 i (by rw[hz2] at hi;exact hi),by rw[hz2];exact g4⟩
end Kst
namespace DE
open PySem
inductive D where
 | non | bl (b:Bool) | int (i:Int) | str (x:Str) | tup (xs:List D) | lst (xs:List D)
 | exc (c:Str)
 | dic (ks:List (Sum Int Str)) (xs:List D)
 deriving Inhabited
inductive Sl where
 | no | sh (d:D) | ow (ds:List D) | oo (dss:List (List D))
 deriving Inhabited
noncomputable abbrev Rho:=List (Str×Sl)
inductive Fl where
 | nxt (ρ:Rho) | ret (d:D)
 deriving Inhabited
def b2i(b:Bool):Int:=if b then 1 else 0
mutual
def deq:D->D->Bool
 | .non,.non=>true
 | .bl a,.bl b=>a==b
 | .bl a,.int j=>b2i a==j
 | .int i,.bl b=>i==b2i b
 | .int i,.int j=>i==j
 | .str x,.str y=>x==y
 | .tup xs,.tup ys=>nT xs ys
 | .lst xs,.lst ys=>nT xs ys
 | _,_=>false
def nT:List D->List D->Bool
 | [],[]=>true
 | x::xs,y::ys=>deq x y&&nT xs ys
 | _,_=>false
end
mutual
def dep:D->Nat
 | .tup xs=>deps xs+1
 | .lst xs=>deps xs+1
 | .exc _=>1000
 | .dic _ _=>1000
 | _=>0
def deps:List D->Nat
 | []=>0
 | x::xs=>max (dep x) (deps xs)
end
def asB:D->Option Bool
 | .bl b=>some b
 | _=>none
def asI:D->Option Int
 | .int i=>some i
 | _=>none
def items:D->Option (List D)
 | .tup xs=>some xs
 | .lst xs=>some xs
 | _=>none
def zB:D->Option (List D)
 | .lst xs=>some xs
 | _=>none
def tupI:D->Option (List D)
 | .tup xs=>some xs
 | _=>none
def fU:List D->Option (List Int)
 | []=>some []
 | .int i::r=>(fU r).map (i::·)
 | _=>none
def Kh:List Int->Bool
 | x::y::r=>decide (x<=y)&&Kh (y::r)
 | _=>true
def oK:List D->Option (List Bool)
 | []=>some []
 | .bl i::r=>(oK r).map (i::·)
 | _=>none
def small(i:Int):Bool:=decide (-(2^64)<i)&&decide (i<2^64)
def mid(i:Int):Bool:=decide (i.natAbs.log2<10000)
def szl(n:Nat):Bool:=decide (n<=100000)
def binop:Operator->D->D->Option D
 | .Add,.int i,.int j=>some (.int (i+j))
 | .Add,.tup xs,.tup ys=>if szl (xs.length+ys.length) then some (.tup (xs++ys)) else none
 | .Add,.lst xs,.lst ys=>if szl (xs.length+ys.length) then some (.lst (xs++ys)) else none
 | .Sub,.int i,.int j=>some (.int (i-j))
 | .Mult,.int i,.int j=>if small i||small j||(mid i&&mid j) then some (.int (i*j)) else none
 | .Mult,.lst xs,.int j=>if decide (j<=1000)&&decide (-1000<=j)&&szl (xs.length*j.toNat) then some (.lst (List.replicate j.toNat xs).flatten) else none
 | .Mult,.tup xs,.int j=>if true then none else none
 | .FloorDiv,.int i,.int j=>if decide (0<j)&&decide (j<1073741824) then some (.int (i / j)) else if decide (j≠0)&&decide (j.natAbs.log2<9000) then some (.int (i.fdiv j)) else none
 | .Mod,.int i,.int j=>if decide (0<j) then some (.int (i%j)) else if decide (j≠0) then some (.int (i.fmod j)) else none
 | _,_,_=>none
def oU:List D->Option (List Str)
 | []=>some []
 | .str i::r=>(oU r).map (i::·)
 | _=>none
def inS(x:D)(ys:List D):Option Bool:=(oU ys).bind fun ss=>if decide (dep x<=50) then some (ss.any fun t=>deq (.str t) x) else none
def inT(x:D)(ys:List D):Option Bool:=match asI x,fU ys with
 | some i,some ns=>some (ns.any (· ==i))
 | _,_=>inS x ys
def KR:D->Option (Sum Int Str)
 | .int i=>some (.inl i)
 | .str x=>some (.inr x)
 | _=>none
def Hf(ks:List (Sum Int Str))(ds:List D)(k:Sum Int Str):Option D:=((ks.zip ds).find? fun q=>decide (q.1=k)).map (·.2)
def FW:D->Bool
 | .non=>true
 | _=>false
def cmpop:CmpOp->D->D->Option D
 | .Eq,x,y=>if decide (dep x<=50)&&decide (dep y<=50) then some (.bl (deq x y)) else none
 | .NotEq,x,y=>if decide (dep x<=50)&&decide (dep y<=50) then some (.bl (!deq x y)) else none
 | .Lt,.int i,.int j=>some (.bl (decide (i<j)))
 | .LtE,.int i,.int j=>some (.bl (decide (i<=j)))
 | .Gt,.int i,.int j=>some (.bl (decide (j<i)))
 | .GtE,.int i,.int j=>some (.bl (decide (j<=i)))
 | .Is,x,.non=>some (.bl (FW x))
 | .IsNot,x,.non=>some (.bl (!FW x))
 | .Is,.bl a,.bl b=>some (.bl (a==b))
 | .IsNot,.bl a,.bl b=>some (.bl (!(a==b)))
 | .In,x,.tup ys=>(inT x ys).map fun b=>.bl b
 | .NotIn,x,.tup ys=>(inT x ys).map fun b=>.bl (!b)
 | .NotIn,.int i,.lst ys=>(fU ys).map fun ns=>.bl (!ns.any (· ==i))
 | _,_,_=>none
def ixD(n:Nat)(i:Int):Option Nat:=if 0<=i then(if i<n then some i.toNat else none) else if -(n:Int)<=i then some (i+n).toNat else none
def atD(xs:List D)(i:Int):Option D:=(ixD xs.length i).bind fun j=>xs[j]?
def kY(n d:Nat):Option Int->Nat
 | none=>d
 | some v=>if v<0 then(v+(n:Int)).toNat else min v.toNat n
def oR(xs:List D)(lo hi:Option Int):List D:=(xs.drop (kY xs.length 0 lo)).take (kY xs.length xs.length hi-kY xs.length 0 lo)
def Kw:D->D->Option D
 | .tup xs,.int i=>atD xs i
 | .lst xs,.int i=>atD xs i
 | .dic ks ds,y=>(KR y).bind (Hf ks ds)
 | _,_=>none
mutual
def fO:D->Bool
 | .non=>true
 | .bl _=>true
 | .int _=>true
 | .str _=>true
 | .tup ds=>qX ds
 | _=>false
def qX:List D->Bool
 | []=>true
 | d::r=>fO d&&qX r
end
def jY:String->D->Bool
 | "int",.int _=>true
 | "int",.bl _=>true
 | "bool",.bl _=>true
 | "tuple",.tup _=>true
 | "list",.lst _=>true
 | "str",.str _=>true
 | _,_=>false
def mxL:List Int->Int->Int
 | [],b=>b
 | x::r,b=>mxL r (if x>b then x else b)
def mnL:List Int->Int->Int
 | [],b=>b
 | x::r,b=>mnL r (if x<b then x else b)
def mnT(xs:List D):Option D:=(fU xs).bind fun is=>match is with
 | []=>none
 | x::r=>some (.int (mnL r x))
def mxN(xs:List D):Option D:=(fU xs).bind fun is=>match is with
 | []=>none
 | x::r=>some (.int (mxL r x))
def blt:String->List D->Option D
 | "len",[d]=>do let l <- items d;some (.int l.length)
 | "all",[.lst xs]=>do let bs <- oK xs;some (.bl (bs.all id))
 | "sum",[.lst xs]=>do let is <- fU xs;some (.int is.sum)
 | "sum",[.tup xs]=>do let is <- fU xs;some (.int is.sum)
 | "tuple",[d]=>do let l <- items d;some (.tup l)
 | "list",[d]=>do let l <- items d;some (.lst l)
 | "any",[.lst xs]=>do let bs <- oK xs;some (.bl (bs.any id))
 | "sorted",[.lst xs]=>do let ns <- fU xs;if Kh ns&&decide (ns.length<64) then some (.lst xs) else none
 | "min",[.tup xs]=>mnT xs
 | "min",[.lst xs]=>mnT xs
 | "max",[.lst xs]=>mxN xs
 | "max",[.tup xs]=>mxN xs
 | "min",[.int i,.int j]=>some (.int (if j<i then j else i))
 | "max",[.int i,.int j]=>some (.int (if j>i then j else i))
 | "abs",[.int i]=>some (.int (if i<0 then -i else i))
 | "int",[.bl b]=>some (.int (b2i b))
 | "int",[.int i]=>some (.int i)
 | _,_=>none
structure Cxt where
 cst:List (Str×D)
 blt:List (Str×String)
 fns:List Str
 exs:List Str
 top:Str
 rs:Bool
 call:Str->List D->Option D
 callx:Str->List D->Option Str
def isExc:D->Bool
 | .exc _=>true
 | .dic _ _=>true
 | _=>false
def G8(top c c':Str):Bool:=c==c'||c'==top
noncomputable def jJ(scope sc:Scope):Scope :=
 { scope with names:=scope.names.map fun(n,k)=>if(k==.free&&sc.kind==.function&&sc.names.lookup n==some .cell) then(n,.cell) else(n,k) }
def Ln:Option Sl->Sl
 | some (.sh d)=>.sh d
 | _=>.no
def bD(scope:Scope)(ρ:Rho):Rho:=scope.names.map fun p=>(p.1,if p.2==.free then Ln (ρ.lookup p.1) else .no)
def nF:List Str->Bool
 | []=>true
 | x::r => !r.contains x&&nF r
def gq(sc scope:Scope):Bool :=
 scope.kind==.function&&nF (scope.names.map (·.1))&&scope.names.all fun p=>p.2 !=.free||sc.names.lookup p.1==some .cell||sc.names.lookup p.1==some .free
def bW:Rho->Str->Sl->Rho
 | [],_,_=>[]
 | (y,s)::r,x,v=>if x==y then(y,v)::r else(y,s)::bW r x v
def aq(x:Str):Bool:=x !="__debug__"&&x !="__classdict__"
def ownIn(scope:Scope)(x:Str):Bool:=scope.names.lookup x==some .local||scope.names.lookup x==some .cell
def bindNames(scope:Scope):List Expr->List D->Rho->Option Rho
 | [],[],ρ=>some ρ
 | .Name x _::es,d::ds,ρ=>if ownIn scope x&&(ρ.map (·.1)).contains x then bindNames scope es ds (bW ρ x (.sh d)) else none
 | _,_,_=>none
def fG(scope:Scope):Expr->D->Rho->Option Rho
 | .Name x _,d,ρ=>if ownIn scope x&&(ρ.map (·.1)).contains x then some (bW ρ x (.sh d)) else none
 | .Tuple es _ _,.tup ds,ρ=>bindNames scope es ds ρ
 | _,_,_=>none
def lQ(cx:Cxt)(sc:Scope)(x:Str):Bool:=sc.names.lookup x==some .globalImplicit
def aZ(cx:Cxt)(sc:Scope)(x:Str):Option String:=if lQ cx sc x then cx.blt.lookup x else none
def bB(f:D->Option (Option D)):List D->Option (List D)
 | []=>some []
 | x::r=>do
  match <- f x with
  | some v=>(bB f r).map (v::·)
  | none=>bB f r
def bR(lo hi:Int):List D:=(List.range (hi-lo).toNat).map fun(k:Nat)=>.int (lo+(k:Int))
def dnD(i j:Int):List D:=(List.range (i-j).toNat).map fun(k:Nat)=>.int (i-(k:Int))
def jO(f:Expr->Option D):List Expr->Option (List D)
 | []=>some []
 | e::r=>do let d <- f e;let ds <- jO f r;some (d::ds)
def bV(op:BoolOp)(f:Expr->Option D):List Expr->Option D
 | []=>none
 | [e]=>f e
 | e::e'::r=>do
  let d <- f e
  let b <- asB d
  match op with
  | .And=>if b then bV op f (e'::r) else some (.bl false)
  | .Or=>if b then some (.bl true) else bV op f (e'::r)
def bZ(i:Int):Bool:=decide (-(2^62)<=i)&&decide (i<2^62)
def eH:Expr->Bool
 | .Tuple .. =>true
 | _=>false
inductive Wk where
 | r1 (a:Expr) | r2 (a b:Expr) | r3 (a b c:Expr) | zp (a b:Expr) | rv (a:Expr) | en (a:Expr) | sq
def oW(cx:Cxt)(sc:Scope):Expr->Wk
 | .Call (.Name x _) args [] _=>(match aZ cx sc x with
  | some "range"=>(match args with | [a]=>.r1 a | [a,b]=>.r2 a b | [a,b,c]=>.r3 a b c | _=>.sq)
  | some "zip"=>(match args with | [a,b]=>.zp a b | _=>.sq)
  | some "reversed"=>(match args with | [a]=>.rv a | _=>.sq)
  | some "enumerate"=>(match args with | [a]=>.en a | _=>.sq)
  | _=>.sq)
 | _=>.sq
def enD(xs:List D):List D:=xs.zipIdx.map fun q=>.tup [.int (q.2:Int),q.1]
def Kr:D->D->Option (List D)
 | .tup xs,.tup ys=>some ((xs.zip ys).map fun q=>.tup [q.1,q.2])
 | .lst xs,.lst ys=>some ((xs.zip ys).map fun q=>.tup [q.1,q.2])
 | .lst xs,.tup ys=>if true then none else none
 | .tup xs,.lst ys=>if true then none else none
 | _,_=>none
def evI(cx:Cxt)(tup:Bool)(f:Expr->Option D)(sc:Scope)(e:Expr):Option (List D):=match oW cx sc e with
 | .r1 a=>do let j <- (f a).bind asI;if bZ j then some (bR 0 j) else none
 | .r2 a b=>do let i <- (f a).bind asI;let j <- (f b).bind asI;if bZ i&&bZ j then some (bR i j) else none
 | .r3 a b c=>do let i <- (f a).bind asI;let j <- (f b).bind asI;let s <- (f c).bind asI;if decide (s=-1)&&bZ i&&bZ j then some (dnD i j) else none
 | .zp a b=>do let x <- f a;let y <- f b;if tup then Kr x y else none
 | .rv a=>do let xs <- (f a).bind zB;some xs.reverse
 | .en a=>do let x <- f a;if tup then(tupI x).map enD else none
 | .sq=>(f e).bind items
inductive Wc where
 | lr1 (a:Expr) | lr2 (a b:Expr) | tv (a:Expr) | ls (a:Expr) | tr1 (a:Expr) | al
def Qs(cx:Cxt)(sc:Scope):Expr->Option Expr
 | .Call (.Name y _) [a] [] _=>if aZ cx sc y==some "set" then some a else none
 | _=>none
def Ay:List D->Option (List (List Int))
 | []=>some []
 | .tup ds::r=>match fU ds,Ay r with
  | some (k::ks),some l=>some ((k::ks)::l)
  | _,_=>none
 | _::_=>none
def yj(cx:Cxt)(sc:Scope)(b:String)(args:List Expr):Wc:=match args with
 | [e]=>(match b,oW cx sc e with
  | "list",.r1 a=>.lr1 a
  | "list",.r2 a b=>.lr2 a b
  | "tuple",.rv a=>.tv a
  | "tuple",.r1 a=>.tr1 a
  | "sorted",.sq=>(match Qs cx sc e with | some a=>.ls a | none=>.al)
  | _,_=>.al)
 | _=>.al
def fJ:String->Bool
 | "int"=>true
 | "bool"=>true
 | "tuple"=>true
 | "list"=>true
 | "str"=>true
 | _=>false
def tyOf(cx:Cxt)(sc:Scope):Expr->Option String
 | .Name x _=>aZ cx sc x
 | _=>none
def xOf(cx:Cxt)(sc:Scope):Expr->Option Str
 | .Name x _=>if lQ cx sc x&&(cx.exs.contains x||x==cx.top)&&aq x then some x else none
 | _=>none
def cntB(b:Bool)(bs:List Bool):Nat:=(bs.filter (· ==b)).length
def lR(f:Expr->Option D):List Expr->Option Bool
 | []=>some true
 | [c]=>(f c).bind asB
 | _=>none
def lM(m:Str):D->D->Option D
 | .lst xs,.bl b=>do
  let bs <- oK xs
  if m=="count" then some (.int (cntB b bs)) else if m=="index"&&bs.contains b then some (.int (bs.idxOf b)) else none
 | .lst xs,.str c=>do
  let ss <- oU xs
  if m=="index"&&ss.contains c then some (.int (ss.idxOf c)) else none
 | _,_=>none
def aD:Expr->Bool
 | .Starred .. =>false
 | .Set .. =>false
 | .Slice .. =>false
 | _=>true
def Kz:D->Option Expr->Option Expr->Option Int->Option D
 | .lst xs,none,none,some i=>if i == -1 then some (.lst xs.reverse) else none
 | .tup xs,none,none,some i=>if i == -1 then some (.tup xs.reverse) else none
 | _,_,_,_=>none
def ev(cx:Cxt):Nat->Scope->Rho->Expr->Option D
 | 0,_,_,_=>none
 | n+1,sc,ρ,e=>match e with
  | .Name x _=>if aq x then(match sc.names.lookup x with
    | some .local=>(match ρ.lookup x with | some (.sh d)=>some d | _=>none)
    | some .cell=>(match ρ.lookup x with | some (.sh d)=>some d | _=>none)
    | some .free=>(match ρ.lookup x with | some (.sh d)=>some d | _=>none)
    | some .globalImplicit=>cx.cst.lookup x
    | _=>none) else none
  | .Constant c _ _=>(match c with
    | .none=>some .non
    | .bool b=>some (.bl b)
    | .int i=>some (.int i)
    | .str x=>some (.str x)
    | _=>none)
  | .BinOp a op b _=>do let x <- ev cx n sc ρ a;let y <- ev cx n sc ρ b;binop op x y
  | .UnaryOp op a _=>do
    let x <- ev cx n sc ρ a
    match op with
    | .USub=>(asI x).map fun i=>.int (-i)
    | .Not=>(asB x).map fun b=>.bl (!b)
    | _=>none
  | .BoolOp op es _=>bV op (ev cx n sc ρ) es
  | .Compare a ops bs _=>(match ops,bs with
    | [op],[b]=>do let x <- ev cx n sc ρ a;let y <- ev cx n sc ρ b;cmpop op x y
    | [op,op'],[b,c]=>if !aD c then none else do
     let x <- ev cx n sc ρ a
     let y <- ev cx n sc ρ b
     let k <- (cmpop op x y).bind asB
     if k then do let z <- ev cx n sc ρ c;cmpop op' y z else some (.bl false)
    | _,_=>none)
  | .IfExp c a b _=>do
    let k <- (ev cx n sc ρ c).bind asB
    if k then ev cx n sc ρ a else ev cx n sc ρ b
  | .Tuple es _ _=>do let ds <- jO (ev cx n sc ρ) es;if szl ds.length then some (.tup ds) else none
  | .List es _=>do let ds <- jO (ev cx n sc ρ) es;if szl ds.length then some (.lst ds) else none
  | .Subscript a b _=>do
    let x <- ev cx n sc ρ a
    match b with
    | .Slice lo hi st _=>(match st with
     | none=>do
      let l <- (match lo with | none=>some none | some e=>(ev cx n sc ρ e).bind fun d=>(asI d).map some)
      let h <- (match hi with | none=>some none | some e=>(ev cx n sc ρ e).bind fun d=>(asI d).map some)
      match x with
      | .tup xs=>if kY xs.length 0 l==0&&kY xs.length xs.length h==xs.length then some (.tup xs) else some (.tup (oR xs l h))
      | .lst xs=>some (.lst (oR xs l h))
      | _=>none
     | some c=>Kz x lo hi ((ev cx n sc ρ c).bind asI))
    | b=>do
     let y <- ev cx n sc ρ b
     Kw x y
  | .Call f args kws p=>(match f,kws with
    | .Name x _,[] =>
     if lQ cx sc x then
      match cx.blt.lookup x with
      | some "isinstance"=>(match args with
       | [a,t]=>do
        let d <- ev cx n sc ρ a
        match xOf cx sc t with
        | some c'=>(match d with | .exc c=>if cx.exs.contains c then some (.bl (G8 cx.top c c')) else none | _=>none)
        | none=>do
         let ty <- tyOf cx sc t
         match d with
         | .exc c=>if cx.exs.contains c&&ty=="ValueError" then some (.bl true) else none
         | .dic _ _=>none
         | d=>if fJ ty then some (.bl (jY ty d)) else none
       | _=>none)
      | some b=>(match yj cx sc b args with
       | .lr1 a=>do let j <- (ev cx n sc ρ a).bind asI;if bZ j&&szl j.toNat then some (.lst (bR 0 j)) else none
       | .lr2 a a'=>do let i <- (ev cx n sc ρ a).bind asI;let j <- (ev cx n sc ρ a').bind asI;if bZ i&&bZ j&&szl (j-i).toNat then some (.lst (bR i j)) else none
       | .tr1 a=>if true then none else none
       | .tv a=>if true then none else none
       | .ls a=>do let xs <- (ev cx n sc ρ a).bind zB;let ks <- Ay xs;if Kst.Hg ks then some (.lst xs) else none
       | .al=>if args.isEmpty then none else do let ds <- jO (ev cx n sc ρ) args;blt b ds)
      | none=>if cx.fns.contains x && !args.isEmpty then do let ds <- jO (ev cx n sc ρ) args;cx.call x ds else none
     else none
    | .Name x _,[k]=>(match args with
     | [a]=>if aZ cx sc x==some "max" then none else none
     | _=>none)
    | .Attribute (.Name y py) m ap,[]=>(match args with
     | [e]=>if ap.endLine==p.line then do
       let x <- ev cx n sc ρ (.Name y py)
       let z <- ev cx n sc ρ e
       lM m x z else none
     | _=>none)
    | .Attribute (.List ks lp) m ap,[]=>(match args with
     | [e]=>if ap.endLine==p.line then do
       let x <- ev cx n sc ρ (.List ks lp)
       let z <- ev cx n sc ρ e
       lM m x z else none
     | _=>none)
    | .Attribute (.Dict ks vs dp) m ap,[]=>if true then none else none
    | .Subscript (.List es _) ix _,[]=>if true then none else none
    | _,_=>none)
  | .ListComp elt gens scope _=>(match gens with
    | [⟨tg,iter,ifs,a⟩]=>if a==0&&gq sc scope then do
      let l <- evI cx (eH tg) (ev cx n sc ρ) sc iter
      if szl l.length then do
       let out <- bB (fun d=>do
        let ρ1 <- fG scope tg d (bD scope ρ)
        let b <- lR (ev cx n (jJ scope sc) ρ1) ifs
        if b then(ev cx n (jJ scope sc) ρ1 elt).map some else some none) l
       some (.lst out)
      else none
     else none
    | _=>none)
  | _=>none
def evx(cx:Cxt):Nat->Scope->Rho->Expr->Option Str
 | 0,_,_,_=>none
 | n+1,sc,ρ,e=>match e with
  | .Call (.Name x _) args [] _=>if lQ cx sc x && !args.isEmpty&&args.all aD&&cx.fns.contains x then
    (match jO (ev cx n sc ρ) args with
    | some ds=>cx.callx x ds
    | none=>none)
   else none
  | .IfExp c a b _=>(match (ev cx n sc ρ c).bind asB with
   | some true=>evx cx n sc ρ a
   | some false=>evx cx n sc ρ b
   | none=>none)
  | _=>none
def dR:Nat->Str->Expr->Bool
 | 0,_,_=>true
 | n+1,x,e=>match e with
  | .Name y _=>x==y
  | .Constant .. =>false
  | .BinOp a _ b _=>dR n x a||dR n x b
  | .UnaryOp _ a _=>dR n x a
  | .BoolOp _ es _=>es.any (dR n x)
  | .Compare a _ bs _=>dR n x a||bs.any (dR n x)
  | .IfExp c a b _=>dR n x c||dR n x a||dR n x b
  | .Tuple es _ _=>es.any (dR n x)
  | .List es _=>es.any (dR n x)
  | .Subscript a b _=>dR n x a||dR n x b
  | .Slice lo hi st _=>(lo.map (dR n x)).getD false||(hi.map (dR n x)).getD false||(st.map (dR n x)).getD false
  | .Call f args kws _=>dR n x f||args.any (dR n x) || !kws.isEmpty
  | .ListComp elt gens _ _=>dR n x elt||gens.any fun g=>dR n x g.iter||g.ifs.any (dR n x)
  | _=>true
def frz(n:Nat)(e:Expr)(ρ:Rho):Rho:=ρ.map fun p=>match p.2 with
 | .ow ds=>if dR n p.1 e then(p.1,.sh (.lst ds)) else p
 | .oo dss=>if dR n p.1 e then(p.1,.sh (.lst (dss.map .lst))) else p
 | _=>p
noncomputable def isL:Expr->Bool
 | .List .. =>true
 | _=>false
def Ry:Operator->Bool
 | .Mult=>true
 | _=>false
def aQ:Expr->Bool
 | .List .. =>true
 | .ListComp .. =>true
 | .BinOp a op _ _=>isL a&&Ry op
 | _=>false
def wR:Sl->Bool
 | .no=>true
 | .sh _=>true
 | _=>false
def KY:Sl->Bool
 | .oo _=>true
 | _=>false
def sO(ρ:Rho)(x:Str):Bool:=ρ.all fun p=>p.1==x||wR p.2
def jU(ρ:Rho)(x:Str):Bool:=ρ.all fun p=>p.1==x || !KY p.2
def KQ(cx:Cxt)(sc:Scope):Expr->Bool
 | .Name y _=>aq y&&sc.names.lookup y==some .local
 | .Call (.Name f _) _ [] _=>lQ cx sc f&&(cx.blt.lookup f).isNone
 | _=>false
def Rz:Operator->Bool
 | .Add=>true
 | _=>false
def KD(cx:Cxt)(sc:Scope):Expr->Bool
 | .Call (.Name l _) [y] [] _=>aZ cx sc l==some "list"&&KQ cx sc y
 | .ListComp .. =>true
 | .BinOp _ op b _=>Rz op&&aQ b
 | _=>false
def zE(cx:Cxt)(sc:Scope):Expr->Bool
 | .Call (.Name l _) [y] [] _=>aZ cx sc l==some "list"&&KQ cx sc y
 | _=>false
def ooE(cx:Cxt)(sc:Scope):Expr->Bool
 | .ListComp elt [⟨.Name _ _,_,[],_⟩] scope _=>KD cx (jJ scope sc) elt
 | _=>false
def Hl:List D->Option (List (List D))
 | []=>some []
 | .lst ds::r=>(Hl r).map (ds::·)
 | _=>none
def JF:D->Option (List (List D))
 | .lst ds=>Hl ds
 | _=>none
def Qj(x:Str):Expr->Option (Expr×Expr)
 | .BinOp (.Subscript (.Name y _) i _) .Add e _=>if x==y then some (i,e) else none
 | _=>none
def jM(e:Expr)(d:D):Sl:=match d with
 | .lst ds=>if aQ e then .ow ds else .sh (.lst ds)
 | d=>.sh d
def nc0:Expr->Bool
 | .Call .. =>true
 | .Name x _=>x !="__debug__"
 | .IfExp .. =>true
 | .ListComp .. =>true
 | .Compare .. =>true
 | _=>false
def nc1:Expr->Bool
 | .Subscript v _ _=>nc0 v
 | e=>nc0 e
def nc:Expr->Bool
 | .Subscript v i _=>nc0 v||nc0 i
 | .BinOp l _ r _=>nc1 l||nc1 r
 | e=>nc0 e
def zK:Expr->Bool
 | .Constant .. =>true
 | _=>false
def swp(sc:Scope)(ts:List Expr)(value:Expr):Option Bool:=match value with
 | .Tuple vs _ _=>(match ts,vs with
  | [.Name x px,.Name y py],[a,b] =>
   if sc.names.lookup x==some .local&&sc.names.lookup y==some .local then
    (if px.line==py.line&&x !=y&&(nc a||nc b)&&aD a&&aD b then some true else if zK a&&zK b then some false else none)
   else some false
  | [.Name x _,.Name y _,.Name z _],[_,_,_]=>if sc.names.lookup x==some .cell&&sc.names.lookup y==some .cell&&sc.names.lookup z==some .cell then some false else none
  | _,_=>none)
 | _=>some false
def rdA:Expr->Bool
 | .Call (.Name _ _) [.Subscript _ _ _,.Subscript _ _ _] [] _=>true
 | _=>false
def bG(f:D->Rho->Option Fl):List D->Rho->Option Fl
 | [],ρ=>some (.nxt ρ)
 | x::r,ρ=>do
  match <- f x ρ with
  | .ret d=>some (.ret d)
  | .nxt ρ'=>bG f r ρ'
def iZ(f:Rho->Stmt->Option Fl):List Stmt->Rho->Option Fl
 | [],ρ=>some (.nxt ρ)
 | s::r,ρ=>do
  match <- f ρ s with
  | .ret d=>some (.ret d)
  | .nxt ρ'=>iZ f r ρ'
def rP:List ExceptHandler->List Stmt->List Stmt->Option (Str×Str×Str)
 | [.ExceptHandler (some (.Name c _)) (some e) [.Assign [.Name kn _] (.Name e' _) _] _],[],[]=>if e==e' then some (c,e,kn) else none
 | _,_,_=>none
def vB:Expr->Option Expr
 | .UnaryOp .Not (.Call f as ks p) _=>some (.Call f as ks p)
 | _=>none
def fV(f:Rho->Stmt->Option Fl)(g:Rho->Stmt->Option (Str×Rho)):List Stmt->Rho->Option (Str×Rho)
 | [],_=>none
 | s::r,ρ=>match f ρ s with
  | some (.nxt ρ')=>fV f g r ρ'
  | some (.ret _)=>none
  | none=>g ρ s
mutual
def st(cx:Cxt)(F:Nat):Nat->Scope->Rho->Stmt->Option Fl
 | 0,_,_,_=>none
 | n+1,sc,ρ,s=>match s with
  | .Pass _=>some (.nxt ρ)
  | .Return v _=>(match v with
    | none=>some (.ret .non)
    | some e=>(ev cx F sc (frz F e ρ) e).map .ret)
  | .Assign tgs e _=>(match tgs with
    | [.Name x _]=>if ownIn sc x&&(ρ.map (·.1)).contains x then
      (if ooE cx sc e&&sO (frz F e ρ) x then(ev cx F sc (frz F e ρ) e).bind fun d=>(JF d).map fun dss=>.nxt (bW (frz F e ρ) x (.oo dss))
      else if zE cx sc e&&jU (frz F e ρ) x then(ev cx F sc (frz F e ρ) e).bind fun d=>(zB d).map fun ds=>.nxt (bW (frz F e ρ) x (.ow ds))
      else if aQ e && !jU (frz F e ρ) x then(if jU (frz F e (frz 0 e ρ)) x then(ev cx F sc (frz F e (frz 0 e ρ)) e).map fun d=>.nxt (bW (frz F e (frz 0 e ρ)) x (jM e d)) else none)
      else if rdA e then(ev cx F sc (frz F e ρ) e).bind fun d=>if fO d then some (.nxt (bW ρ x (.sh d))) else none
      else(ev cx F sc (frz F e ρ) e).map fun d=>.nxt (bW (frz F e ρ) x (jM e d))) else none
    | [.Tuple es _ _]=>if(swp sc es e).isSome||false then do
      let d <- ev cx F sc (frz F e ρ) e
      let l <- items d
      (bindNames sc es l (frz F e ρ)).map .nxt
     else none
    | [.Subscript t ie _]=>(match t with
     | .Name x _=>(match Qj x e with
      | some (i2,e2)=>if true then none else none
      | none=>(match (frz F ie (frz F e ρ)).lookup x with
       | some (.ow ds)=>if ownIn sc x&&aq x && !aQ e then do
         let d <- ev cx F sc (frz F ie (frz F e ρ)) e
         let j <- (ev cx F sc (frz F ie (frz F e ρ)) ie).bind asI
         let n <- ixD ds.length j
         some (.nxt (bW (frz F ie (frz F e ρ)) x (.ow (ds.set n d))))
        else none
       | some (.sh _)=>(match ρ.lookup x with
        | some (.ow ds)=>if ownIn sc x&&aq x && !aQ e then do
          let d <- ev cx F sc (frz F e ρ) e
          let j <- (ev cx F sc (frz F e ρ) ie).bind asI
          let n <- ixD ds.length j
          if fO d then some (.nxt (bW ρ x (.ow (ds.set n d)))) else none
         else none
        | _=>none)
       | _=>none))
     | .Subscript (.Name x _) i1 _=>(match ρ.lookup x with
      | some (.oo dss)=>if ownIn sc x&&aq x && !aQ e then do
        let d <- ev cx F sc (frz F e ρ) e
        let j1 <- (ev cx F sc (frz F i1 ρ) i1).bind asI
        let n1 <- ixD dss.length j1
        let ds <- dss[n1]?
        let j2 <- (ev cx F sc (frz F ie ρ) ie).bind asI
        let n2 <- ixD ds.length j2
        if fO d then some (.nxt (bW ρ x (.oo (dss.set n1 (ds.set n2 d))))) else none
       else none
      | _=>none)
     | _=>none)
    | _=>none)
  | .Expr v _=>(match v with
    | .Call (.Attribute (.Name x _) m ap) [e] [] cp=>(match (frz F e ρ).lookup x with
      | some (.ow ds)=>if ownIn sc x&&aq x&&ap.endLine==cp.line then
        if m=="append"&&szl (ds.length+1) then(ev cx F sc (frz F e ρ) e).map fun d=>.nxt (bW (frz F e ρ) x (.ow (ds++[d])))
        else if m=="extend" then do
         let d <- ev cx F sc (frz F e ρ) e
         (match d with
         | .lst zs=>if szl (ds.length+zs.length) then some (.nxt (bW (frz F e ρ) x (.ow (ds++zs)))) else none
         | .tup zs=>if szl (ds.length+zs.length) then some (.nxt (bW (frz F e ρ) x (.ow (ds++zs)))) else none
         | _=>none)
        else none
       else none
      | some (.sh _)=>(match ρ.lookup x with
       | some (.ow ds)=>if ownIn sc x&&aq x&&ap.endLine==cp.line&&(m=="append"&&szl (ds.length+1)) then do
         let d <- ev cx F sc (frz F e ρ) e
         if fO d then some (.nxt (bW ρ x (.ow (ds++[d])))) else none
        else none
       | _=>none)
      | _=>none)
    | .ListComp .. =>none
    | .Constant .. =>none
    | e=>(ev cx F sc (frz F e ρ) e).map fun _=>.nxt (frz F e ρ))
  | .If c a b _=>do
    let k <- (ev cx F sc (frz F c ρ) c).bind asB
    if k then iZ (fun ρ s=>st cx F n sc ρ s) a ρ else iZ (fun ρ s=>st cx F n sc ρ s) b ρ
  | .For tg iter body orelse _=>(match orelse with
    | []=>do
     let l <- evI cx (eH tg) (ev cx F sc (frz F iter ρ)) sc iter
     bG (fun d ρ=>do let ρ1 <- fG sc tg d ρ;iZ (fun ρ s=>st cx F n sc ρ s) body ρ1) l (frz F iter ρ)
    | _=>none)
  | .While c body orelse _=>(match orelse with
    | []=>if true then none else none
    | _=>none)
  | .Try body hs orelse fin _=>(match rP hs orelse fin with
   | some (c,e,kn)=>(match iZ (fun ρ s=>st cx F n sc ρ s) body ρ with
    | some fl=>some fl
    | none=>(match fV (fun ρ s=>st cx F n sc ρ s) (fun ρ s=>stx { cx with rs:=false } F n sc ρ s) body ρ with
     | some (c',ρ')=>if lQ cx sc c&&c==cx.top&&cx.exs.contains c'&&e !=kn&&aq e&&sc.names.lookup e==some .local&&sc.names.lookup kn==some .local&&(ρ.map (·.1)).contains e&&(ρ.map (·.1)).contains kn&&aq c then
       some (.nxt (bW (bW ρ' kn (.sh (.exc c'))) e .no)) else none
     | none=>none))
   | none=>none)
  | _=>none
def stx(cx:Cxt)(F:Nat):Nat->Scope->Rho->Stmt->Option (Str×Rho)
 | 0,_,_,_=>none
 | n+1,sc,ρ,s=>match s with
  | .Raise (some (.Call (.Name c _) [.Constant (.str _) _ _] [] _)) none _=>if cx.rs&&lQ cx sc c&&cx.exs.contains c&&aq c then some (c,ρ) else none
  | .Expr e _=>if aQ e then none else(evx cx F sc (frz F e ρ) e).map fun c=>(c,frz F e ρ)
  | .Assign [.Name _ _] e _=>if aQ e then none else(evx cx F sc (frz F e ρ) e).map fun c=>(c,frz F e ρ)
  | .If c a b _=>(match (ev cx F sc (frz F c ρ) c).bind asB with
    | some k=>fV (fun ρ s=>st cx F n sc ρ s) (fun ρ s=>stx cx F n sc ρ s) (if k then a else b) (frz F c ρ)
    | none=>(match vB c with
     | some e=>(evx cx F sc (frz F c ρ) e).map fun x=>(x,frz F c ρ)
     | none=>none))
  | _=>none
end
structure Fd where
 ps:List Str
 N:List Str
 sc:Scope
 body:List Stmt
def bY(fd:Fd)(ds:List D):Rho:=(fd.ps.zip (ds.map Sl.sh))++(fd.N.drop fd.ps.length).map fun x=>(x,.no)
structure Pg where
 cst:List (Str×D)
 blt:List (Str×String)
 defs:List (Str×Fd)
 exs:List Str:=[]
 top:Str:="MinorError"
inductive Rs where
 | val (d:D) | exc (c:Str)
def Rs.val?:Option Rs->Option D
 | some (.val d)=>some d
 | _=>none
def Rs.exc?:Option Rs->Option Str
 | some (.exc c)=>some c
 | _=>none
def Pg.cx(P:Pg)(c:Str->List D->Option Rs):Cxt:=⟨P.cst,P.blt,P.defs.map (·.1),P.exs,P.top,true,fun f ds=>Rs.val? (c f ds),fun f ds=>Rs.exc? (c f ds)⟩
def ou(cx:Cxt)(F:Nat)(sc:Scope)(body:List Stmt)(ρ:Rho):Option Rs:=match iZ (fun ρ s=>st cx F F sc ρ s) body ρ with
 | some (.ret d)=>some (.val d)
 | some (.nxt _)=>some (.val .non)
 | none=>(match fV (fun ρ s=>st cx F F sc ρ s) (fun ρ s=>stx cx F F sc ρ s) body ρ with
  | some (c,_)=>some (.exc c)
  | none=>none)
@[irreducible] def d9 (P:Pg) (F:Nat):Nat->Str->List D->Option Rs
 | 0,_,_=>none
 | k+1,f,ds=>match P.defs.lookup f with
  | none=>none
  | some fd=>if ds.length==fd.ps.length then ou (P.cx (d9 P F k)) F fd.sc fd.body (bY fd ds) else none
theorem pX{P:Pg}{F:Nat}{f:Str}{ds:List D}:d9 P F 0 f ds=none:=by with_unfolding_all rfl
theorem jG{P:Pg}{F k:Nat}{f:Str}{ds:List D}:d9 P F (k+1) f ds=(match P.defs.lookup f with
  | none=>none
  | some fd=>if ds.length==fd.ps.length then ou (P.cx (d9 P F k)) F fd.sc fd.body (bY fd ds) else none):=by with_unfolding_all rfl
@[irreducible] def aY (P:Pg) (F k:Nat) (f:Str) (ds:List D):Option D:=Rs.val? (d9 P F k f ds)
theorem gw{P:Pg}{F k:Nat}{f:Str}{ds:List D}:aY P F k f ds=Rs.val? (d9 P F k f ds):=by with_unfolding_all rfl
@[irreducible] def oh (P:Pg) (F k:Nat) (f:Str) (ds:List D):Option Str:=Rs.exc? (d9 P F k f ds)
theorem rE{P:Pg}{F k:Nat}{f:Str}{ds:List D}:oh P F k f ds=Rs.exc? (d9 P F k f ds):=by with_unfolding_all rfl
end DE
namespace L2
open PySem PySem.Spec PyProof.Rows PySem.SeqAt
section
variable {prog:Program} {w:World} {A:Around} {I:Addr} {fp wr:List Addr} {n:Nat} {P:Nat->Value->Prop} {St:Nat->Heap->Prop}
end
end L2
namespace L2
open PySem PySem.Spec PyProof.Rows
end L2
namespace L2
open PySem PySem.Spec PyProof.Rows
section
variable (P:Program) (w:World)
end
section
variable {P:Program} {w:World} {H H':Hp} {h h':Heap} {a:Addr} {o:HO}
end
section
variable {P:Program} {w:World} {H:Hp} {h h':Heap} {x e:Addr} {o':HO}
end
section
variable {fs fs' ex ex':List Addr} {H H1 H2:Hp} {h h1 h2 h':Heap} {a x e:Addr} {o:HO}
end
end L2
namespace L2
open PySem PySem.Spec PyProof.Rows
section
variable {X:Cx} {pins:List (Addr×Obj)} {σ:List (Option V)} {H H':Hp} {s:Shared} {h':Heap}
end
end L2
namespace L2
open PySem PySem.Spec PyProof.Rows
section
variable {X:Cx}
variable {a b:Expr} {ta tb:TE} {pos:Pos}
variable {tA tB':TT} {rest:List Expr}
end
end L2
namespace L2
open PySem PySem.Spec PyProof.Rows
section
variable {X:Cx} {pins:List (Addr×Obj)} {σ:St} {H:Hp} {s:Shared} {a:Addr} {xs ys:List V}
end
section
variable {X:Cx} {pins:List (Addr×Obj)} {σ:St} {H:Hp} {s:Shared} {E:Value->Shared->Prop}
end
section
variable {X:Cx} {st:Stmt} {rest:List Stmt} {t u:TS} {e:Expr} {te:TE} {pos:Pos}
end
section
variable {X:Cx} {pos:Pos}
end
section
variable {X:Cx} {pos:Pos}
end
end L2
namespace L2
open PySem PySem.Spec PyProof.Rows
section
variable {X:Cx} {tg:Expr}
end
end L2
namespace L2
open PySem PySem.Spec PyProof.Rows
section
variable {X:Cx} {a b c:Expr} {ta tb tc:TE} {pos:Pos}
end
section
variable {X:Cx} {a b c:Expr} {ta tb tc:TE} {pos:Pos}
end
end L2
namespace L2
open PySem PySem.Spec PyProof.Rows
section
variable {prog:Program} {w:World} {A:Around} {E:Value->Shared->Prop} {s:Shared} {K:PySem.W.Frag} {x dx C f:Addr} {mA:Str->Option Value} {name:Str} {v:Value}
end
section
variable {P:Program} {w:World} {H H':Hp} {h h':Heap} {a C dx:Addr} {fs fs':List (Str×V)}
end
section
variable {X:Cx} {pins:List (Addr×Obj)} {σ:St} {H:Hp} {s:Shared} {a C dx:Addr} {fs:List (Str×V)} {f:Str} {v:V} {A:Around} {E:Value->Shared->Prop}
end
section
variable {X:Cx} {o e value:Expr} {f:Str} {pos pos' tpos:Pos} {ta tv:TE}
end
section
variable {X:Cx} {pins:List (Addr×Obj)} {σ:St} {H:Hp} {s:Shared} {A:Around} {E:Value->Shared->Prop} {Q:Value->Shared->Prop} {c:Value} {b:Bool}
end
end L2
namespace L2
open PySem PySem.Spec PyProof.Rows
section
variable {X:Cx} {e:Expr} {es:List Expr} {te:TE} {t:TA} {pos:Pos}
end
section
variable {X:Cx} {pins:List (Addr×Obj)} {σ:St} {H:Hp} {s s':Shared}
end
section
variable {X:Cx} {CX:CXT} {k:Nat} {f C:Addr} {fd:FuncData} {ps:List Str} {sp:Sp} {dvs:List V} {ds:List Value} {E:XK} {x m:Str} {p pos apos:Pos} {e o:Expr} {es:List Expr} {ta:TE} {t:TA}
end
section
variable {X:Cx} {CX:CXT} {k:Nat} {f C:Addr} {fd:FuncData} {ps ks:List Str} {sp:Sp} {E:XK} {x m:Str} {p pos apos kpos:Pos} {e o:Expr} {es:List Expr} {kws:List Keyword} {te ta:TE} {t tk:TA} {nm:Option Str}
variable {g:List Value->List Value->List Value} {gV:List V->List V->List V}
end
end L2
namespace L2
open PySem PySem.Spec PyProof.Rows
section
variable {X:Cx} {x:Str} {p pos:Pos} {e:Expr} {es:List Expr} {t:TA} {id T:String} {r:List V->Hp->VK->Prop}
end
end L2
namespace L2
open PySem PySem.Spec PyProof.Rows
section
variable {κ:Type} [DecidableEq κ]
def xW(kvs:List (κ×V))(k:κ):Option V:=(kvs.find? fun kv=>decide (kv.1=k)).map (·.2)
theorem yp{p:κ×V}{r:List (κ×V)}{k:κ}(e:p.1=k):xW (p::r) k=some p.2:=by simp[xW,List.find?_cons,e]
theorem yq{p:κ×V}{r:List (κ×V)}{k:κ}(e:¬ p.1=k):xW (p::r) k=xW r k:=by simp[xW,List.find?_cons,e]
theorem KV.val{kvs:List (κ×V)}{vs:List (κ×Value)}(r:KV kvs vs)(k:κ):Hq (xW kvs k) (valueAt vs k):=by
 unfold KV at r
 induction r with
 | nil=>exact True.intro
 | @cons p q ps qs h t ih =>
  obtain⟨h1,h2⟩:=h
  by_cases e:p.1=k
  ·have e':q.1=k:=h1.symm.trans e
   have b:valueAt (q::qs) k=some q.2:=by simp[valueAt,List.find?_cons,e']
   rw[yp e,b];exact h2
  ·have e':¬ q.1=k:=fun z=>e (h1.trans z)
   have b:valueAt (q::qs) k=valueAt qs k:=by simp[valueAt,List.find?_cons,e']
   rw[yq e,b];exact ih
end
theorem Pr{P:Program}{w:World}{k:Key}{u:Value}(r:RelV (kV k) u):(cX P w).is k u=true:=by
 cases k with
 | inl i=>obtain⟨t,e⟩:=(show ∃ t,u=Value.int i t from r);subst e;exact pL P w i t
 | inr x=>obtain⟨t,e⟩:=(show ∃ t,u=Value.str x t from r);subst e;exact pK P w x t
section
variable {P:Program} {w:World} {H:Hp} {h:Heap} {a:Addr}
theorem Lr{u:HO}(ok:HOk P w H h)(e:Rd H a u):cV P w H h a u:=e.ok ok
theorem Qh{kvs:List (Key×V)}(ok:HOk P w H h)(e:Rd H a (.dK kvs)):kvs.length<=sizeLine/\(a==sysModules)=false/\∃ vs,KV kvs vs/\h.DictOf (cX P w) a vs :=
 show cV P w H h a (.dK kvs) from Lr ok e
end
section
variable {X:Cx} {pins:List (Addr×Obj)} {σ:St} {H:Hp} {s:Shared} {a:Addr} {y v:V} {u r:Value} {o:Option V} {A:Around} {E:Value->Shared->Prop}
end
section
variable {X:Cx} {pins:List (Addr×Obj)} {σ:St} {H:Hp} {s:Shared} {a:Addr} {kvs:List (Key×V)} {k:Key} {u:Value} {A:Around} {E:Value->Shared->Prop}
end
def RM(i:Expr):Prop:=∀ ov iv,subscripted i false ov iv=operate [ov,iv] (getItem ov iv)
theorem CV{prog:Program}{w:World}{A:Around}{E:Value->Shared->Prop}{s:Shared}{env:Env}{value slice:Expr}{pos:Pos}{T id:String}{Q:Value->Shared->Prop}
  (hl:typeLookup (.type T) "__getitem__"=pure (some (.builtin id))) (hs:RM slice)
  (h:wpAny (model prog w) A (eval value env) (fun o s₁=>wpAny (model prog w) A (eval slice env) (fun i s₂=>s₂.TypeIs o T/\wpAny (model prog w) A (getItem o i) Q E s₂) E s₁) E s) :
  wpAny (model prog w) A (eval (.Subscript value slice pos) env) Q E s:=by
 refine Subscript_ (wpAny_mono h (fun o s₁ h₁=>wpAny_mono h₁ (fun i s₂ h₂=>?_) fun _ _ x=>x) fun _ _ x=>x);obtain⟨hT,h₂⟩:=h₂;unfold subscriptTail;refine wpAny_bind ?_;rw[getitemInPython_of_ne hT.not_modules];refine wpAny_bind (wpAny_specialOf hT hl ?_)
 have fin:wpAny (model prog w) A (subscripted slice false o i) (fun r s₃=>wpAny (model prog w) A (letTemporaryGo value o r >>=fun _=>pure r) Q E s₃) E s₂:=by
  rw[hs o i];exact wpAny_operating (wpAny_mono h₂ (fun r s₃ h₃=>wpAny_bind (wpAny_letTemporaryGo (wpAny_pure h₃))) fun _ _ x=>x)
 first
  | exact wpAny_pure (wpAny_bind fin)
  | exact wpAny_bind (wpAny_pure (wpAny_bind fin))
  | exact wpAny_bind fin
section
variable {X:Cx} {o i e value:Expr} {pos pos' tpos:Pos} {td ty tv:TE}
end
section
variable {X:Cx} {pos:Pos}
end
section
variable {X:Cx} {pins:List (Addr×Obj)} {σ:St} {H:Hp} {s:Shared} {a:Addr} {y d:V} {u r:Value} {o:Option V} {A:Around} {E:Value->Shared->Prop}
end
section
variable {X:Cx} {o e f:Expr} {apos cpos:Pos} {td ty tx:TE}
end
section
variable {X:Cx} {pins:List (Addr×Obj)} {σ:St} {H:Hp} {s:Shared} {a:Addr} {kvs:List (Key×V)} {A:Around} {E:Value->Shared->Prop}
end
section
variable {X:Cx} {pins:List (Addr×Obj)} {σ:St} {H:Hp} {s:Shared} {a:Addr} {y:V} {u:Value} {A:Around} {E:Value->Shared->Prop}
end
end L2
namespace Att
open PySem PySem.W PySem.Calls PyProof.Rows
section
variable {prog:Program} {w:World} {A:Around} {E:Value->Shared->Prop} {s:Shared} {K:Frag}
end
end Att
namespace L2
open PySem PySem.Spec PyProof.Rows
end L2
namespace L2
open PySem PySem.Spec PyProof.Rows
end L2
namespace L2
open PySem PySem.Spec PyProof.Rows
section
variable {P:Program} {w:World} {K:PySem.W.Frag} {mg:Str->Option Value} {base:Heap}
end
section
variable {X:Cx}
end
section
variable {κ:Type} [DecidableEq κ]
end
end L2
namespace L2
open PySem PySem.Spec PyProof.Rows
def KDc(K:PySem.W.Frag)(a:Addr)(kvs:List (Key×V)):Prop:=∃ (o:Obj) (es:Array DictEntry) (n:Nat),K.lookup a=some o/\o.ExactDict/\o.data=.dict es n/\(a==sysModules)=false/\(kvs.map (·.1)).Nodup/\Paired (fun(p:Key×V) (e:DictEntry)=>(∃ x t,p.1=.inr x/\e.key=.str x t)/\RelV p.2 e.val) kvs es.toList
def hsO(o:Obj):List Int:=match o.data with | .dict es _=>es.toList.map (·.hash) | _=>[]
def hsX(w:World)(o:Obj):List Int:=match o.data with | .dict es _=>es.toList.map (fun e=>match e.key with | .str x _=>hashStr w x | _=>e.hash) | _=>[]
def KnW(K:PySem.W.Frag)(w:World):Prop:=K.map (fun p=>hsO p.2)=K.map (fun p=>hsX w p.2)
theorem lookup_mem{α:Type}:∀ {l:List (Addr×α)} {a:Addr} {o:α},l.lookup a=some o->(a,o)∈l
 | (b,u)::r,a,o,h=>by
  rw[List.lookup_cons] at h
  cases hb:a==b with
  | true =>
   rw[hb] at h
   have e1:a=b:=by simpa using hb
   cases h;subst e1;exact List.mem_cons_self
  | false =>
   rw[hb] at h;exact List.mem_cons_of_mem _ (lookup_mem h)
theorem KnW.at{K:PySem.W.Frag}{w:World}{a:Addr}{o:Obj}{es:Array DictEntry}{n:Nat}(kw:KnW K w)(h:K.lookup a=some o)(hd:o.data=.dict es n):∀ e∈es.toList,∀ x t,e.key=.str x t->e.hash=hashStr w x:=by
 have:=List.map_inj_left.mp kw (a,o) (lookup_mem h);simp only[hsO,hsX,hd] at this;intro e he x t hk;have q:=List.map_inj_left.mp this e he;rw[hk] at q;exact q
theorem vP{P:Program}{w:World}{kvs:List (Key×V)}{es:List DictEntry}(p:Paired (fun(p:Key×V) (e:DictEntry)=>(∃ x t,p.1=.inr x/\e.key=.str x t)/\RelV p.2 e.val) kvs es)(hh:∀ e∈es,∀ x t,e.key=.str x t->e.hash=hashStr w x) :
  ∃ vs:List (Key×Value),KV kvs vs/\Pairs (cX P w) es vs/\vs.map (·.1)=kvs.map (·.1)/\∀ e∈es,∃ k,(cX P w).is k e.key=true/\e.hash=(cX P w).hash k:=by
 induction p with
 | nil=>exact⟨[],.nil,.nil,rfl,fun e he=>nomatch he⟩
 | @cons q e kvs es h t ih =>
  obtain⟨vs,h1,h2,h3,h4⟩:=ih fun e he=>hh e (List.mem_cons_of_mem _ he);obtain⟨⟨x,tk,g1,g2⟩,g3⟩:=h
  have gi:(cX P w).is q.1 e.key=true:=by
   rw[g1,g2];show Value.isStrOf x (.str x tk)=true;simp[Value.isStrOf]
  refine⟨(q.1,e.val)::vs,.cons ⟨rfl,g3⟩ h1,.cons gi rfl h2,by simp[h3],fun e' he=>?_⟩;rcases List.mem_cons.mp he with r | r
  ·subst r
   refine⟨q.1,gi,?_⟩;rw[hh _ List.mem_cons_self x tk g2,g1];rfl
  ·exact h4 e' r
def DAt(K:PySem.W.Frag)(H:Hp)(a:Addr)(kvs:List (Key×V)):Prop:=Rd H a (.dK kvs)\/KDc K a kvs
section
variable {X:Cx} {pins:List (Addr×Obj)} {σ:St} {H:Hp} {s:Shared} {a:Addr} {kvs:List (Key×V)} {k:Key} {v d:V} {u r:Value} {A:Around} {E:Value->Shared->Prop} {o i e f:Expr} {td ty tx:TE} {pos apos cpos:Pos}
theorem Aj(I:Inv X pins σ H s)(kw:KnW X.K X.w)(g:DAt X.K H a kvs):(a==sysModules)=false/\∃ vs,KV kvs vs/\s.heap.DictOf (cX X.prog X.w) a vs:=by
 rcases g with g | ⟨o,es,n,h1,h2,h3,h4,h5,h6⟩
 ·exact(Qh I.hok g).2
 ·obtain⟨vs,g1,g2,g3,g4⟩:=vP (P:=X.prog) h6 (kw.at h1 h3)
  exact⟨h4,vs,g1,o,es,n,I.kIn a o h1,h2,h3,fun e he=>g4 e (by simpa using he),g2,by rw[g3];exact h5⟩
theorem vQ{Q:Value->Shared->Prop}(I:Inv X pins σ H s)(kw:KnW X.K X.w)(g:DAt X.K H a kvs)(l:some v=xW kvs k)(ry:RelV (kV k) u)(h:∀ w' s',Inv X pins σ H s'->RelV v w'->Q w' s') :
  s.TypeIs (.ref a) "dict"/\wpAny (model X.prog X.w) A (getItem (.ref a) u) Q E s:=by
 obtain⟨hd,vs,rel,dd⟩:=Aj I kw g;obtain⟨w',hw,rw'⟩:=Hq.some_of (v:=v) (o:=valueAt vs k) (by rw[l];exact rel.val k);exact⟨dd.typeIs,wpAny_getItem_of (Pr ry) dd.mapOf hw (h w' _ (I.tok _) rw')⟩
def Lf(K:PySem.W.Frag)(td ty:TE):TE:=fun σ H Q=>td σ H fun x H1=>ty σ H1 fun y H2=>∃ a v kvs k,x=.ref a/\DAt K H2 a kvs/\y=kV k/\some v=xW kvs k/\Q v H2
theorem Ed(kw:KnW X.K X.w)(ho:PE X o td)(hi:PE X i ty)(hs:RM i):PE X (.Subscript o i pos) (Lf X.K td ty):=by
 intro pins s σ H Q I h;refine CV PySem.F.slot_dict_getitem.lookup hs (thn (ho pins s σ H _ I h) fun u s1 ⟨x,H1,I1,rx,q1⟩=>thn (hi pins s1 σ H1 _ I1 q1) fun iv s2 ⟨y,H2,I2,ry,a,v,kvs,k,ex,g,ey,l,q2⟩=>?_);subst ex;subst ey;obtain rfl:u=Value.ref a:=rx;exact vQ I2 kw g l ry fun w' s3 I3 rw'=>⟨v,H2,I3,rw',q2⟩
end
end L2
namespace L2
open PySem PySem.Spec PyProof.Rows
section
variable {P:Program} {w:World} {H H':Hp} {h h':Heap} {a:Addr} {o:HO}
theorem cV.there(x:cV P w H h a o):∃ ob,h.get? a=some ob:=by
 cases o with
 | lst xs=>obtain⟨_,_,_,_,e⟩:=x;exact⟨_,e⟩
 | tup xs=>obtain⟨_,_,_,ob,e,_⟩:=x;exact⟨_,e⟩
 | dK kvs=>obtain⟨_,_,_,_,o,_,_,e,_⟩:=x;exact⟨_,e⟩
 | dT kvs=>obtain⟨_,_,_,_,o,_,_,e,_⟩:=x;exact⟨_,e⟩
 | set S n=>obtain⟨o,_,_,_,e,_⟩:=x;exact⟨_,e⟩
 | ins C dx fs=>obtain⟨_,_,_,e,_⟩:=x;exact⟨_,e⟩
 | own y=>exact x
 | xd fs=>obtain⟨_,⟨_,_,_,e,_⟩,_⟩:=x;exact⟨_,e⟩
 | rng lo hi=>obtain⟨_,_,_,e⟩:=x;exact⟨_,e⟩
 | frz ob u=>obtain⟨e,_⟩:=x;exact⟨_,e⟩
 | tbl ps=>exact⟨_,(show h.get? a=some _ from x)⟩
 | met f y=>exact⟨_,(show h.get? a=some _ from x)⟩
 | ext φ=>exact x.2.1
theorem HOk.none_of(x:HOk P w H h)(e:h.get? a=none):H a=none:=by
 cases q:H a with
 | none=>rfl
 | some u =>
  obtain⟨ob,r⟩:=(x a u q).there;rw[e] at r;cases r
theorem HOk.part{B:Heap}(x:HOk P w H h)(k:∀ b u ob,H b=some u->h.get? b=some ob->B.get? b=some ob):HOk P w H B:=fun b u e=>by
 refine(x b u e).stay (fun c v hc q=>?_) (fun _ q=>q) fun _ _ q=>q;rcases hc with rfl | hc
 ·exact k _ _ _ e q
 ·exact k _ _ _ hc q
end
section
variable {fs fs' ex:List Addr} {H H':Hp} {h h1 h2 B:Heap}
theorem Un.fly(U:Un fs [] H H' h h1)(kB:∀ b o,h.get? b=some o->H b=none->b∉fs->B.get? b=some o)(tB:∀ b o,h.get? b=some o->b∉fs->∃ o',B.get? b=some o')(st:B.StaysIn h2)
  (nf:∀ b∈fs,∀ o,h1.get? b=some o->∀ vs,o.data≠.fields vs) (up:h1.UpToSlots h2):Un fs [] H H' h h2 where
 keep:=fun b o q n hb _=>st b o (kB b o q n hb)
 slot:=fun b o q n hb hx=>by
  obtain⟨sl,e⟩:=U.slot b o q n hb hx;obtain⟨sl',e'⟩:=up b _ e (nf b hb _ e);exact⟨sl',e'⟩
 free:=U.free
 there:=fun b o q hx=>by
  by_cases hb:b∈fs
  ·obtain⟨o',e⟩:=U.there b o q hx
   obtain⟨sl,e'⟩:=up b _ e (nf b hb _ e);exact⟨_,e'⟩
  ·obtain⟨o',e⟩:=tB b o q hb
   exact⟨o',st b o' e⟩
 tups:=U.tups
 frzs:=U.frzs
 tbls:=U.tbls
theorem Un.restrict(U:Un fs' ex H H' h h1)(hs:∀ b o,b∈fs'->h.get? b=some o->b∈fs):Un fs ex H H' h h1 where
 keep:=fun b o q n hb hx=>U.keep b o q n (fun z=>hb (hs b o z q)) hx
 slot:=fun b o q n _ hx=>U.any q n hx
 free:=U.free
 there:=U.there
 tups:=U.tups
 frzs:=U.frzs
 tbls:=U.tbls
end
structure Fly (P:Program) (w:World) (outer:List Env) (H:Hp) (s:Shared) (H':Hp) (ea:Addr) (cls:Value) (s':Shared):Prop where
 os:s'.os=s.os
 bare:AllBare s'.gens
 un:Un (frs outer) [] H H' s.heap s'.heap
 fly:∃ B a0,Heap.FlyingW B outer ea cls a0 s'.heap/\HOk P w H' B/\(∀ b o,s.heap.get? b=some o->H b=none->b∉frs outer->B.get? b=some o)/\(∀ b o,s.heap.get? b=some o->b∉frs outer->∃ o',B.get? b=some o')
 fresh:s.heap.get? ea=none
def CX1(P:Program)(w:World):CXT:=fun outer H s E e s'=>∃ ea cls H',e=.ref ea/\Fly P w outer H s H' ea cls s'/\H' ea=none/\E cls none H'
theorem Mh{P:Program}{w:World}{X:Cx}:Passes (CX1 P w) X E0:=fun _ _ _ _ _ _ _ h=>by obtain⟨_,_,_,_,_,_,z⟩:=h;exact z.elim
theorem zu{B h:Heap}{l:List Env}(f:h.FunFrames B l):∀ b∈frs l,∀ o,h.get? b=some o->∀ vs,o.data≠.fields vs:=fun b hb o e=>by
 obtain⟨_,o',e',hd⟩:=f.mem hb;rw[e] at e';cases e';exact hd
section
variable {P:Program} {w:World} {K:PySem.W.Frag} {mg:Str->Option Value} {base:Heap} {N:List Str} {qual:Str} {scope:Scope} {f:Addr} {cd:Value} {A:Around} {outer:List Env} {s:Shared} {H:Hp} {E:XK}
theorem qU{env:Env}{L:Addr}(hf:env.frame=some L):frs (env::outer)=L::frs outer:=by
 unfold frs;rw[List.filterMap_cons,hf]
theorem vh:Passes (CX1 P w) (gK (CX1 P w) P w K mg base N qual scope f cd A outer s H E) E:=by
 intro pins σ H1 s1 e s' I h;obtain⟨ea,cls,H',rfl,Fl,hn,hE⟩:=h;obtain⟨B,a0,fl,hokB,kB,tB⟩:=Fl.fly;have hfr:frs (gK (CX1 P w) P w K mg base N qual scope f cd A outer s H E).stack=s.heap.objs.size::frs outer:=qU rfl;have nL:∀ b o,s.heap.get? b=some o->b≠s.heap.objs.size:=fun b o q=>Nat.ne_of_lt (Heap.lt_size q)
 have nin:∀ b o,s.heap.get? b=some o->b∉frs outer->b∉frs (gK (CX1 P w) P w K mg base N qual scope f cd A outer s H E).stack:=fun b o q hb z=>by
  rw[hfr] at z;rcases List.mem_cons.mp z with z | z
  ·exact nL b o q z
  ·exact hb z
 have noex:∀ b:Addr,b∉(gK (CX1 P w) P w K mg base N qual scope f cd A outer s H E).ex:=fun b z=>absurd (show b∈([]:List Addr) from z) (by simp);show wpAny _ _ (leaving _ (.ref ea)) _ _ _;refine wpAny_leaves_onW I.ok.frames rfl fl fun h2 fl2 up=>?_;refine⟨ea,cls,H',rfl,⟨Fl.os.trans I.os,Fl.bare,?_,⟨B,a0,fl2,hokB,fun b o q n hb=>?_,fun b o q hb=>?_⟩,?_⟩,hn,hE⟩
 ·have U1:=Un.fly Fl.un kB tB fl2.1 (zu fl.2.2.1) up
  have U0:Un (frs (gK (CX1 P w) P w K mg base N qual scope f cd A outer s H E).stack) [] H H1 s.heap s1.heap:=I.base.mono (fun b hb=>by rw[hfr];exact List.mem_cons_of_mem _ hb) (fun b hb=>hb)
  exact(U0.trans U1).restrict fun b o hb q=>by
   rw[hfr] at hb;rcases List.mem_cons.mp hb with z | z
   ·exact absurd z (nL b o q)
   ·exact z
 ·exact kB b o (I.base.keep b o q n hb (noex b)) (I.base.free b o q n (noex b)) (nin b o q hb)
 ·obtain⟨o1,q1⟩:=I.base.there b o q (noex b)
  exact tB b o1 q1 (nin b o q hb)
 ·cases q:s.heap.get? ea with
  | none=>rfl
  | some o =>
   obtain⟨o1,q1⟩:=I.base.there ea o q (noex ea);rw[Fl.fresh] at q1;cases q1
theorem su{pins:List (Addr×Obj)}{σ:St}{H1:Hp}{s1:Shared}{C e:Addr}{h':Heap}{args:List Value}(I:Inv (gK (CX1 P w) P w K mg base N qual scope f cd A outer s H E) pins σ H1 s1)(hx:Heap.MadeExcOf s1.heap h' e (.ref C) args)(hE:E (.ref C) none H1) :
  (gK (CX1 P w) P w K mg base N qual scope f cd A outer s H E).xe (.ref e) { s1 with heap:=h' }:=by
 have hfr:frs (gK (CX1 P w) P w K mg base N qual scope f cd A outer s H E).stack=s.heap.objs.size::frs outer:=qU rfl;have nL:∀ b o,s.heap.get? b=some o->b≠s.heap.objs.size:=fun b o q=>Nat.ne_of_lt (Heap.lt_size q)
 have nin:∀ b o,s.heap.get? b=some o->b∉frs outer->b∉frs (gK (CX1 P w) P w K mg base N qual scope f cd A outer s H E).stack:=fun b o q hb z=>by
  rw[hfr] at z;rcases List.mem_cons.mp z with z | z
  ·exact nL b o q z
  ·exact hb z
 have noex:∀ b:Addr,b∉(gK (CX1 P w) P w K mg base N qual scope f cd A outer s H E).ex:=fun b z=>absurd (show b∈([]:List Addr) from z) (by simp);have hin:∀ env∈(gK (CX1 P w) P w K mg base N qual scope f cd A outer s H E).stack,∀ b,env.frame=some b->b∈frs (gK (CX1 P w) P w K mg base N qual scope f cd A outer s H E).stack:=fun env he b hb=>List.mem_filterMap.mpr ⟨env,he,hb⟩;show wpAny _ _ (leaving _ (.ref e)) _ _ _;have kB:∀ b o,s1.heap.get? b=some o->b∉frs (gK (CX1 P w) P w K mg base N qual scope f cd A outer s H E).stack->(PySem.W.hideAll s1.heap (frs (gK (CX1 P w) P w K mg base N qual scope f cd A outer s H E).stack)).get? b=some o:=fun b o q hb=>PySem.W.hideAll_get _ q hb;refine wpAny_leaves_madeW I.ok.frames rfl (fun b o q=>PySem.W.of_hideAll _ q) (PySem.W.funFrames_hide I.stack hin) hx fun h2 t x1 x2 x3 x4=>?_;have up:s1.heap.UpToSlots h2:=(Heap.UpToSlots.of_keeps hx.keeps).trans x4
 have hok:HOk P w H1 (PySem.W.hideAll s1.heap (frs (gK (CX1 P w) P w K mg base N qual scope f cd A outer s H E).stack)):=HOk.part I.hok fun b u ob hu q=>kB b ob q fun z=>by
  rw[I.stkFree b z] at hu;cases hu
 have hn:H1 e=none:=HOk.none_of I.hok hx.new;refine⟨e,.ref C,H1,rfl,⟨I.os,I.bare,?_,⟨_,_,x1,hok,fun b o q n hb=>?_,fun b o q hb=>?_⟩,?_⟩,hn,hE⟩
 ·have U1:Un (frs (gK (CX1 P w) P w K mg base N qual scope f cd A outer s H E).stack) [] H1 H1 s1.heap h2:=Un.fly Un.refl (fun b o q _ hb=>kB b o q hb) (fun b o q hb=>⟨o,kB b o q hb⟩) x1.1 (zu I.stack) up
  have U0:Un (frs (gK (CX1 P w) P w K mg base N qual scope f cd A outer s H E).stack) [] H H1 s.heap s1.heap:=I.base.mono (fun b hb=>by rw[hfr];exact List.mem_cons_of_mem _ hb) (fun b hb=>hb)
  exact(U0.trans U1).restrict fun b o hb q=>by
   rw[hfr] at hb;rcases List.mem_cons.mp hb with z | z
   ·exact absurd z (nL b o q)
   ·exact z
 ·exact kB b o (I.base.keep b o q n hb (noex b)) (nin b o q hb)
 ·obtain⟨o1,q1⟩:=I.base.there b o q (noex b)
  exact⟨o1,kB b o1 q1 (nin b o q hb)⟩
 ·cases q:s.heap.get? e with
  | none=>rfl
  | some o =>
   obtain⟨o1,q1⟩:=I.base.there e o q (noex e);have:=hx.new;rw[this] at q1;cases q1
end
def nsOk(K:PySem.W.Frag)(N:Addr):Bool:=match K.lookup N with
 | some ⟨_,_,.dict es _,_⟩=>es.toList.all (fun e=>match e.key with | .str _ _=>true | _=>false)&&(PySem.W.nsIn K N "__init__"==some none)
 | _=>false
def xIn(K:PySem.W.Frag)(C M:Addr):Bool:=match K.lookup C,K.lookup M with
 | some ⟨.type "type",_,.cls cd,sl⟩,some ⟨_,_,.cls cdM,_⟩ =>
  (match sl.toList with | [_,_,_,_,some (.builtin n),_]=>n=="ValueError.__new__" | _=>false)&&cd.mro==[.ref C,.ref M,.type "ValueError",.type "Exception",.type "BaseException",.type "object"] && !cd.hasDel&&nsOk K cd.ns&&nsOk K cdM.ns
 | _,_=>false
theorem vA{K:PySem.W.Frag}{N:Addr}(e:nsOk K N=true):∃ mN:Str->Option Value,mN "__init__"=none/\∀ h:Heap,K.In h->h.Ns N mN:=by
 unfold nsOk at e;split at e
 ·rename_i c d es n sl ho
  rw[Bool.and_eq_true] at e;refine⟨nsFind es,?_,fun h X=>⟨_,es,n,X _ _ ho,rfl,fun en hen=>?_,fun _=>rfl⟩⟩
  ·have e2:PySem.W.nsIn K N "__init__"=some none:=by simpa using e.2
   unfold PySem.W.nsIn at e2;rw[ho] at e2;simp only at e2;unfold nsFind findBy;rw[<- Array.find?_toList];split at e2
   ·cases e2
   ·rename_i q
    rw[q];rfl
  ·have:=List.all_eq_true.mp e.1 en (by simpa using hen)
   split at this
   ·rename_i x t hk;exact⟨x,t,hk⟩
   ·cases this
 ·cases e
theorem Hu{K:PySem.W.Frag}{C M:Addr}(e:xIn K C M=true):∃ nm q N bs hdct sn sub ab col dd k0 k1 k2 k3 k5 mN,mN "__init__"=none/\∀ h:Heap,K.In h ->
  h.get? C=some (excClassObj nm q C N bs [.ref M,.type "ValueError",.type "Exception",.type "BaseException",.type "object"] hdct sn sub ab col dd k0 k1 k2 k3 k5 "ValueError.__new__")/\h.Ns N mN /\
   OwnTail h [.type "ValueError",.type "Exception",.type "BaseException",.type "object"] [.ref M,.type "ValueError",.type "Exception",.type "BaseException",.type "object"]:=by
 unfold xIn at e;split at e
 ·rename_i dd cd sl cM dM cdM slM hC hM
  simp only[Bool.and_eq_true,Bool.not_eq_true'] at e;obtain⟨⟨⟨⟨e1,e2⟩,e3⟩,e4⟩,e5⟩:=e;split at e1
  ·rename_i k0 k1 k2 k3 n k5 hs
   have en:n="ValueError.__new__":=by simpa using e1
   subst en
   have hsl:sl = #[k0,k1,k2,k3,some (.builtin "ValueError.__new__"),k5]:=by
    obtain⟨l⟩:=sl;simp only at hs;rw[hs]
   have em:cd.mro=[.ref C,.ref M,.type "ValueError",.type "Exception",.type "BaseException",.type "object"]:=by simpa using e2
   obtain⟨nm,bs,mro,ns,qn,hd,sn,sub,ab,col,del⟩:=cd;simp only at em e3 e4;subst em e3 hsl;obtain⟨mN,n2,n1⟩:=vA e4;obtain⟨mM,m2,m1⟩:=vA e5;exact⟨_,_,_,_,_,_,_,_,_,_,_,_,_,_,_,mN,n2,fun h X=>⟨X _ _ hC,n1 h X,.own (X _ _ hM) (m1 h X) m2 .base⟩⟩
  ·cases e1
 ·cases e
section
variable {X:Cx}
theorem yL{x:Str}{C M:Addr}{np cpos pos:Pos}{txt:Str}{j:Nat}{p1:Pos}{Q:Flow->Shared->Prop}{pins:List (Addr×Obj)}{σ:St}{H:Hp}{s:Shared}(I:Inv X pins σ H s)(hc:X.A.handled=none)(hg:Gl X x)(hm:X.mg x=some (.ref C))(hd:(x==("__debug__":Str))=false)(hx:xIn X.K C M=true)
  (k:∀ (s2:Shared) (h':Heap) (e:Addr) (args:List Value),Inv X pins σ H s2->Heap.MadeExcOf s2.heap h' e (.ref C) args->X.xe (.ref e) { s2 with heap:=h' }) :
  wpAny (model X.prog X.w) X.A (exec (.Raise (some (.Call (.Name x np) [.Constant (.str txt) j p1] [] cpos)) none pos) X.env) Q X.xe s:=by
 obtain⟨nm,q,N,bs,hdct,sn,sub,ab,col,dd,k0,k1,k2,k3,k5,mN,hni,fx⟩:=Hu hx
 refine wpAny_Raise_call_subU (C:=C) (nm:=nm) (q:=q) (N:=N) (bs:=bs) (bm:=[.ref M,.type "ValueError",.type "Exception",.type "BaseException",.type "object"]) (hdct:=hdct) (sn:=sn) (sub:=sub) (ab:=ab) (col:=col) (dd:=dd) (k0:=k0) (k1:=k1) (k2:=k2) (k3:=k3) (k5:=k5)
  F.excBase_ValueError (by decide) F.excBase_ValueError (mN:=mN) ((fx _ I.kIn).2.2.hasType F.excBase_ValueError.hasBase) hc rfl hni (jq I hg hm ⟨rfl,?_⟩ hd)
 have ha:PA X [.Constant (.str txt) j p1] (HF (tC (.str txt)) Qq):=aV Bq bO;show wpAny _ _ (evalArgs (.ref C) true (backTo cpos ((false,eval (.Constant (.str txt) j p1) X.env)::starEach [] X.env)) []) _ _ _;refine Calls.evalArgs_plain (wpAny_mono (ha cpos pins s σ H (fun vs H1=>vs.length<=1/\H1=H) I ⟨Nat.le_refl _,rfl⟩) (fun us s2 hq=>?_) fun _ _ y=>y);obtain⟨vs,H1,I1,r,q1,rfl⟩:=hq;obtain⟨f1,f2,f3⟩:=fx _ I1.kIn
 have h1:(1:Nat)<=sizeLine:=by decide
 have h2:=r.length;exact⟨rfl,(show us.length<=sizeLine by omega),f1,f2,f3,fun h' e hm'=>k s2 h' e us I1 hm'⟩
end
abbrev Cx.inSuite(X:Cx)(e:Value)(xe:Value->Shared->Prop):Cx:={ X with A:=X.A.mark (some e),calm:=false,xe:=xe }
section
variable {X:Cx} {pins:List (Addr×Obj)} {σ:St} {H H':Hp} {s s':Shared} {e:Value} {xe:Value->Shared->Prop}
theorem Inv.inSuite(I:Inv X pins σ H s)(e:Value)(xe:Value->Shared->Prop):Inv (X.inSuite e xe) pins σ H s :=
 ⟨⟨I.ok.mod,I.ok.kind,I.ok.glob,I.ok.blt,I.ok.above,I.ok.inj,I.ok.has,I.ok.cab,fun z=>(nomatch z),I.ok.frames,I.ok.stk,I.ok.exf,I.ok.bs,I.ok.bsz,I.ok.noex,I.ok.exfs,I.ok.funs,I.ok.frf⟩,I.os,I.bare,I.base,I.loc,I.cell,I.free,I.freeC,I.pin,I.hok,I.len⟩
theorem Inv.outSuite(ok:X.Ok)(I:Inv (X.inSuite e xe) pins σ H s):Inv X pins σ H s:=⟨ok,I.os,I.bare,I.base,I.loc,I.cell,I.free,I.freeC,I.pin,I.hok,I.len⟩
theorem Inv.unbound{i:Nat}{x:Str}{v:Option Value}{m:Str->Option Value}{h':Heap}{t':Nat}(I:Inv X pins σ H s)(hN:X.N.Nodup)(hi:X.N[i]?=some x)(hm:s.heap.Ns X.env.locals m)(hn:h'.Ns X.env.locals (fun y=>if y=x then v else m y))(hs:Heap.SameBut X.env.locals s.heap h') :
  Inv X pins (σ.set i none) H { s with heap:=h',toks:=t' }:=by
 have cne:=I.cne
 have hiσ:i<σ.length:=by rw[I.len];exact(List.getElem?_eq_some_iff.mp hi).1
 obtain⟨m0,hn0,hl⟩:=id I.loc
 have hmm:∀ y,m0 y=m y:=fun y=>by
  obtain⟨o1,es1,ep1,g1,g2,_,g3⟩:=hn0;obtain⟨o2,es2,ep2,f1,f2,_,f3⟩:=hm;rw[g1] at f1;cases f1;rw[g2] at f2;cases f2;rw[<- g3,<- f3]
 obtain⟨oL,_,_,hoL,_⟩:=id hn0
 have tracked:HOk X.prog X.w H h':=fun b ob e=>by
  refine(I.hok b ob e).stay (fun c w' hc q=>(hs.2 c ?_).trans q) (fun _ q=>q) fun _ _ q=>q;rintro rfl;rcases hc with rfl | hc
  ·rw[I.free] at e;cases e
  ·rw[I.free] at hc;cases hc
 refine⟨I.ok,I.os,I.bare,⟨fun b o e n hb hx=>?_,fun b o e n hb hx=>?_,I.base.free,fun b o e hx=>?_,I.base.tups,I.base.frzs,I.base.tbls⟩,⟨_,hn,fun j y v' e1 e2 e3=>?_⟩,fun y c e=>?_,I.free,I.freeC,fun p hp=>?_,tracked,by simpa using I.len⟩
 ·exact(hs.2 b (Nat.ne_of_lt (Nat.lt_of_lt_of_le (Heap.lt_size e) I.ok.above))).trans (I.base.keep b o e n hb hx)
 ·obtain⟨sl,e1⟩:=I.base.slot b o e n hb hx
  exact⟨sl,(hs.2 b (Nat.ne_of_lt (Nat.lt_of_lt_of_le (Heap.lt_size e) I.ok.above))).trans e1⟩
 ·obtain⟨o',e1⟩:=I.base.there b o e hx
  exact⟨o',(hs.2 b (Nat.ne_of_lt (Nat.lt_of_lt_of_le (Heap.lt_size e) I.ok.above))).trans e1⟩
 ·by_cases hj:j=i
  ·subst hj
   rw[List.getElem?_set_self hiσ] at e2;cases e2
  ·rw[List.getElem?_set_ne (Ne.symm hj)] at e2
   obtain⟨u',r',q⟩:=hl j y v' e1 e2 e3;refine⟨u',r',?_⟩;rcases q with⟨k,e⟩ | ⟨k,c,e,z⟩
   ·refine .inl ⟨k,?_⟩
    have:y≠x:=fun e=>hj (lJ hN e1 (e▸hi));simp only[this,if_false];rw[<- hmm];exact e
   ·exact .inr ⟨k,c,e,z.sameBut hs (cne y c e)⟩
 ·obtain⟨w',z⟩:=I.cell y c e
  exact⟨w',z.sameBut hs (cne y c e)⟩
 ·obtain⟨e,n,ne,nf,d⟩:=I.pin p hp
  exact⟨(hs.2 p.1 ne).trans e,n,ne,nf,d⟩
end
def isX(a:Addr)(cls:Value)(h:Heap):Prop:=∃ o,h.get? a=some o/\o.cls=cls/\∃ vs,o.data=.fields vs
theorem JX{P:Program}{w:World}{H:Hp}{h:Heap}{a:Addr}{cls:Value}(x:isX a cls h):cV P w H h a (.ext (isX a cls)) :=
 ⟨x,let ⟨o,e,_⟩:=x;⟨o,e⟩,fun _ _ ⟨o,e,r⟩ k=>⟨o,k o e,r⟩⟩
section
variable {X:Cx} {pins:List (Addr×Obj)} {σ:St} {H H':Hp} {s s':Shared} {ea:Addr} {cls:Value}
theorem Fly.lands{h2:Heap}{B:Heap}{t':Nat}(I:Inv X pins σ H s)(Fl:Fly X.prog X.w X.stack H s H' ea cls s')(hokB:HOk X.prog X.w H' B)(U:Un (frs X.stack) [] H H' s.heap h2)(st:B.StaysIn h2):Inv X pins σ H' { s' with heap:=h2,toks:=t' } :=
 I.call' (s':={ s' with heap:=h2,toks:=t' }) Fl.os U (hokB.kept st) Fl.bare (fun b z=>absurd z (by simp))
end
def kh(K:PySem.W.Frag)(C:Addr):Bool :=
 PySem.W.findIn K (.ref C) "__getattribute__"==some (some (.builtin "BaseException.__getattribute__"))&&PySem.W.findIn K (.ref C) "__getattr__"==some none&&PySem.W.findIn K (.ref C) "__class__"==some (some (.builtin "object.__class__")) &&
  PySem.W.mroIn K C (.type "object")==some true&&PySem.W.mroIn K C (.type "BaseException")==some true&&(PySem.W.clsIn K C).isSome
section
open PySem.Builtin PySem.Builtin.ObjectAttr PySem.Builtin.Getset_descriptor
variable {prog:Program} {w:World} {A:Around} {E:Value->Shared->Prop} {K:PySem.W.Frag} {h:Heap} {g:Array GenState} {d:Drawn} {t:Nat} {os:OsState} {a C:Addr} {o:Obj}
theorem xty{M:Model}(hx:h.get? a=some o)(hc:o.cls=.ref C):PySem.W.Looks M h (typeOf (.ref a)) (.ref C):=hc▸(PySem.W.Looks.ld hx).andThen .now
theorem rJ{R:Result->Shared->Prop}(X:K.In h)(hx:h.get? a=some o)(hc:o.cls=.ref C)(hm:PySem.W.mroIn K C (.type "object")=some true)(hq:R (.ok (.ret (.ref C))) ⟨h,g,d,t,os⟩) :
  codeAny (model prog w) A (.call (.builtin "getset_descriptor.__get__") ⟨[.builtin "object.__class__",.ref a,.ref C],[]⟩) R ⟨h,g,d,t,os⟩:=by
 have hT5:(⟨h,g,d,t,os⟩:Shared).TypeIs (.builtin "object.__class__") "getset_descriptor":=F.typeOf_object_class;have L0:=xty (M:=model prog w) hx hc;have L1:=PySem.W.looks_mroIn (M:=model prog w) X hm;refine codeAny_call_builtin PySem.W.KF.slot_gs.plain PySem.W.KF.entry_gs (PySem.W.KF.slot_gs.check _ _ _ _ _ _ _ _ PySem.W.KF.type_class (PySem.W.KF.args_gs _ _ _) ?_);unfold Builtin.«getset_descriptor.__get__» descrGet;rw[PySem.W.dga_obj];refine wpAny_bind (wpAny_pure ?_);unfold descrGetter descrCheckInstance descrNameAndClass isInstance;simp only[PySem.W.KF.owner_class]
 repeat lk
 refine⟨Code.quiet_builtin _ (by decide +kernel),codeAny_builtin PySem.W.KF.entry_class ?_⟩;unfold Builtin.«object.__class__» shownTypeOf
 repeat lk
 exact hq
theorem mU{tk:Tok}{Q:Fin->Shared->Prop}(X:K.In h)(hx:h.get? a=some o)(hc:o.cls=.ref C)(hm:PySem.W.mroIn K C (.type "object")=some true)(hf:PySem.W.findIn K (.ref C) "__class__"=some (some (.builtin "object.__class__")))(hq:Q (.done (.ret (.ref C))) ⟨h,g,d,t,os⟩) :
  wpAny (model prog w) A (Builtin.«object.__getattribute__» ⟨[.ref a,.str "__class__" tk],[]⟩) Q E ⟨h,g,d,t,os⟩:=by
 have hT5:(⟨h,g,d,t,os⟩:Shared).TypeIs (.builtin "object.__class__") "getset_descriptor":=F.typeOf_object_class;have f5:=F.typeOf_object_class;have f6:=F.slot_gs_get.lookup;have f7:=F.slot_gs_set.lookup;have LF:=PySem.W.looks_findIn (M:=model prog w) X hf
 repeat (any_goals (first | assumption | (with_reducible refine wpAny_loadPart_at hx ?_;rw[hc]) | with_reducible refine LF.at ?_ | wp_step))
 refine rJ X hx hc hm ?_
 repeat (any_goals (first | assumption | wp_step))
theorem mV{M:Model}{nameV:Value}{Q:Unit->Shared->Prop}(X:K.In h)(hx:h.get? a=some o)(hc:o.cls=.ref C)(hm:PySem.W.mroIn K C (.type "BaseException")=some true)(hq:Q () ⟨h,g,d,t,os⟩):wpAny M A (checkBuiltinCall "BaseException.__getattribute__" ⟨[.ref a,nameV],[]⟩) Q E ⟨h,g,d,t,os⟩:=by
 have hk:builtinKind "BaseException.__getattribute__"=some .slot:=by decide +kernel
 have hsplit:splitId "BaseException.__getattribute__"=some ("BaseException","__getattribute__"):=by decide +kernel
 have ha:=F.args_bexc_ga (.ref a) nameV;have LM:=PySem.W.looks_mroIn (M:=M) X hm;simp only[checkBuiltinCall,hk,hsplit];refine wpAny_bind ?_
 ·unfold isInstance
  repeat (first | (with_reducible refine wpAny_loadPart_at hx ?_;rw[hc]) | with_reducible refine LM.at ?_ | wp_step)
  exact hq
theorem tX{tk:Tok}{fill expr:Bool}{Q:Value->Shared->Prop}(X:K.In h)(hx:h.get? a=some o)(hc:o.cls=.ref C)(hA:kh K C=true)(hq:Q (.ref C) ⟨h,g,d,t,os⟩) :
  wpAny (model prog w) A (getAttrBy (.ref a) (.str "__class__" tk) fill expr) Q E ⟨h,g,d,t,os⟩:=by
 unfold kh at hA;simp only[Bool.and_eq_true,beq_iff_eq] at hA;obtain⟨⟨⟨⟨⟨g1,g2⟩,g3⟩,g4⟩,g5⟩,g6⟩:=hA;have f3:=F.excAttr_ValueError.ga.bind (.ref a)
 have hx0:(expr&&onTheHeap (Value.builtin "BaseException.__getattribute__"))=false:=by cases expr<;>rfl
 have hx2:(Value.builtin "BaseException.__getattribute__"==Value.builtin "object.__getattribute__")=false:=by decide +kernel
 have hx1:(onTheHeap (Value.ref C)&&Value.builtin "BaseException.__getattribute__"==Value.builtin "object.__getattribute__")=false:=by rw[hx2];rfl
 have L1:=PySem.W.looks_findIn (M:=model prog w) X g1;have L2':=PySem.W.looks_findIn (M:=model prog w) X g2
 repeat (any_goals (first | assumption | (with_reducible refine wpAny_loadPart_at hx ?_;rw[hc]) | with_reducible refine L1.at ?_ | with_reducible refine L2'.at ?_ | wp_step))
 refine codeAny_call_builtin F.excAttr_ValueError.ga.plain F.entry_bexc_ga (mV X hx hc g5 (mU X hx hc g4 g3 ?_))
 repeat (any_goals (first | assumption | wp_step))
theorem Hr{Q:Option Value->Shared->Prop}(X:K.In h)(hx:h.get? a=some o)(hc:o.cls=.ref C)(hA:kh K C=true)(hq:Q (some (.ref C)) ⟨h,g,d,t+1,os⟩) :
  wpAny (model prog w) A (getAttr? (.ref a) "__class__") Q E ⟨h,g,d,t,os⟩:=by
 unfold getAttr? getAttrBy?
 repeat (any_goals (first | assumption | with_reducible apply tX X hx hc hA | wp_step))
end
theorem zH{K:PySem.W.Frag}{a C:Addr}(hA:kh K C=true):PySem.W.KitX K (.ref a) (.ref C) (isX a (.ref C)) where
 ty:=fun _ _ _ ⟨o,e,c,_⟩=>xty e c
 it:=fun _ _ X _=>by
  unfold kh at hA;rw[Bool.and_eq_true] at hA;obtain⟨cdD,hcD⟩:=Option.isSome_iff_exists.mp hA.2;unfold PySem.W.clsIn at hcD;split at hcD
  ·rename_i c' d' cd' sl' ho
   intro A' Q' E' s' k q;unfold isType loadHead;exact wpAny_bind (wpAny_loadPart (k _ _ (X _ _ ho)) (wpAny_pure q))
  ·cases hcD
 ne:=fun h tp dd its n sl X htp=>by
  unfold kh at hA;rw[Bool.and_eq_true] at hA;obtain⟨cdD,hcD⟩:=Option.isSome_iff_exists.mp hA.2;refine Bool.eq_false_iff.mpr fun q=>?_;have e:C=tp:=Value.ref.inj (beq_iff_eq.mp q);subst e;unfold PySem.W.clsIn at hcD;split at hcD
  ·rename_i c' d' cd' sl' ho
   have z:=(X _ _ ho).symm.trans htp;cases z
  ·cases hcD
 ca:=fun {prog w A E Q s} X p k=>by
  obtain⟨h,g,d,t,os⟩:=s;obtain⟨o,e,c,_⟩:=p;exact Hr X e c hA k
section
variable {X:Cx} {pins:List (Addr×Obj)} {σ:St} {H H':Hp} {s s':Shared} {ea C:Addr}
theorem caught{c n kn:Str}{Mc:Addr}{np p1 p2 p3 hp:Pos}{i j:Nat}{Q:Flow->Shared->Prop}(I:Inv X pins σ H s)(Fl:Fly X.prog X.w X.stack H s H' ea (.ref C) s')(hn:H' ea=none)(hst:X.stack=X.env::X.outer/\X.env.frame=some X.env.locals)
  (hg:Gl X c) (hm:X.mg c=some (.ref Mc)) (hcd:(c==("__debug__":Str))=false) (hx:PySem.W.exmOne X.K (.ref C) (.ref Mc)=some true) (nd:X.N.Nodup) (hi:X.N[i]?=some n) (hj:X.N[j]?=some kn) (hij:i≠j)
  (ln:X.env.scope.names.lookup n=some .local) (lk:X.env.scope.names.lookup kn=some .local) (d1:(n==("__debug__":Str))=false) (d2:(n==("__classdict__":Str))=false)
  (k:∀ s2,Inv X pins ((σ.set j (some (.ref ea))).set i none) (upd H' ea (.ext (isX ea (.ref C)))) s2->Q .next s2) :
  wpAny (model X.prog X.w) X.A (noteFrame (.ref ea) X.env) (fun _ s₂=>wpAny (model X.prog X.w) X.A (setFlight (.ref ea) none) (fun _ s₃ =>
   wpAny (model X.prog X.w) X.A (handleBy (.ref ea) X.env [.ExceptHandler (some (.Name c np)) (some n) [.Assign [.Name kn p1] (.Name n p2) p3] hp]) Q X.xe s₃) X.xe s₂) X.xe s':=by
 obtain⟨B,a0,fl,hokB,kB,tB⟩:=Fl.fly
 have hfr:X.A.frames=some (X.env::X.outer):=by rw[<- hst.1];exact I.ok.frames
 have fl':Heap.FlyingW B (X.env::X.outer) ea (.ref C) a0 s'.heap:=by rw[<- hst.1];exact fl
 refine wpAny_looks_onW hfr hst.2 fl' fun h4 held4 up4=>?_;refine wpAny_landsW held4 fun h5 fl5 up5=>?_;have U5:Un (frs X.stack) [] H H' s.heap h5:=Un.fly Fl.un kB tB fl5.1 (zu fl.2.2.1) (up4.trans up5);have I5:Inv X pins σ H' { s' with heap:=h5 }:=Fly.lands I Fl hokB U5 fl5.1;refine wpAny_handleBy_cons (codeAny_handlers_test ?_) (by intro q;cases q);refine jq (I5.inSuite (.ref ea) X.xe) hg hm ?_ hcd
 have LT:PySem.W.Looks (model X.prog X.w) h5 (typeOf (.ref ea)) (.ref C):=by
  obtain⟨ob,hob,hoc⟩:=fl5.there;exact xty hob hoc
 refine(PySem.W.exm_one I5.kIn LT hx).here ?_;refine codeAny_handlers_suite_as ?_;refine lands_againW fl5 fun h6 fl6 up6=>?_;have U6:Un (frs X.stack) [] H H' s.heap h6:=Un.fly Fl.un kB tB fl6.1 (zu fl.2.2.1) ((up4.trans up5).trans up6)
 have hX6:isX ea (.ref C) h6:=by
  obtain⟨oe,ws,e1,e2,e3,_⟩:=fl6.first
  exact⟨oe,e1,e2,ws,e3⟩
 have hok6:HOk X.prog X.w (upd H' ea (.ext (isX ea (.ref C)))) h6:=fun b u e=>by
  by_cases hb:b=ea
  ·subst hb;rw[aR] at e;cases e;exact JX hX6
  ·rw[aH hb] at e
   exact((hokB.kept fl6.1) b u e).stay (fun _ _ _ q=>q) (fun b' q=>by rw[aH (aF q hn)];exact q) fun b' xs q=>by rw[aH (aF q hn)];exact q
 have U6':Un (frs X.stack) [] H (upd H' ea (.ext (isX ea (.ref C)))) s.heap h6:=by
  refine⟨U6.keep,U6.slot,fun b o q n hx=>?_,U6.there,fun b xs q=>?_,fun b o u q=>?_,fun b ps q=>?_⟩
  ·rw[aH (fun z=>by rw[z,Fl.fresh] at q;cases q)]
   exact U6.free b o q n hx
  ·have:=U6.tups b xs q
   rw[aH (aF this hn)];exact this
  ·have:=U6.frzs b o u q
   rw[aH (aF this hn)];exact this
  ·obtain⟨more,e⟩:=U6.tbls b ps q
   exact⟨more,by rw[aH (aF e hn)];exact e⟩
 have I6:Inv X pins σ (upd H' ea (.ext (isX ea (.ref C)))) { s' with heap:=h6 }:=I.call' (s':={ s' with heap:=h6 }) Fl.os U6' hok6 Fl.bare (fun b z=>absurd z (by simp));refine fW (X:=X.inSuite (.ref ea) X.xe) (I6.inSuite (.ref ea) X.xe) nd hi (.inl ln) (v:=.ref ea) rfl (fun s7 I7=>?_) (.inr ln)
 have hiσ:i<σ.length:=by rw[I.len];exact(List.getElem?_eq_some_iff.mp hi).1
 have hps:PSs (X.inSuite (.ref ea) fun _ _=>False) [.Assign [.Name kn p1] (.Name n p2) p3] (Qp (Kv (HB i) (zT j)) CQ):=lq (gW (X:=X.inSuite (.ref ea) fun _ _=>False) nd hj (.inl lk) (fY (X:=X.inSuite (.ref ea) fun _ _=>False) hi (.inl ln) d1 d2) rfl (.inr lk)) uX;have I7':Inv (X.inSuite (.ref ea) fun _ _=>False) pins (σ.set i (some (.ref ea))) (upd H' ea (.ext (isX ea (.ref C)))) s7:=(I7.outSuite I.ok).inSuite _ _;refine wpAny_mono (hps pins s7 _ _ { nx:=fun σ' H''=>σ'=(σ.set i (some (.ref ea))).set j (some (.ref ea))/\H''=upd H' ea (.ext (isX ea (.ref C))),rt:=fun _ _=>False } I7' ⟨.ref ea,by rw[List.getElem?_set_self hiσ],rfl,rfl⟩) (fun f s8 h8=>?_) fun _ _ z=>z.elim
 cases f with
 | next =>
  obtain⟨σ8,H8,I8,rfl,rfl⟩:=h8;have I8':Inv X pins ((σ.set i (some (.ref ea))).set j (some (.ref ea))) (upd H' ea (.ext (isX ea (.ref C)))) s8:=I8.outSuite I.ok;obtain⟨m,hm8,_⟩:=id I8'.loc;refine wpAny_nameGoes_keeps ln hm8 (by rw[I.ok.kind];rfl) fun h9 v hn9 hs9=>?_;have I9:=I8'.unbound (t':=s8.toks+1) nd hi hm8 hn9 hs9
  have eσ:(((σ.set i (some (V.ref ea))).set j (some (.ref ea))).set i none)=((σ.set j (some (.ref ea))).set i none):=by
   rw[List.set_comm _ _ hij,List.set_set]
  rw[eσ] at I9;exact k _ I9
 | brk=>obtain⟨_,_,_,z⟩:=h8;exact z.elim
 | cont=>obtain⟨_,_,_,z⟩:=h8;exact z.elim
 | ret u=>obtain⟨_,_,_,_,_,z⟩:=h8;exact z.elim
end
end L2
namespace L2
open PySem PySem.Spec PyProof.Rows DE PySem.SeqAt
theorem Same.tup{K:PySem.W.Frag}{H H':Hp}{a:Addr}{xs:List V}(e:Same H H')(h:SqT K H a xs):SqT K H' a xs:=by
 rcases h with(h | ⟨o,h⟩) | h
 ·exact .inl (.inl (e _ _ h))
 ·exact .inl (.inr ⟨o,e _ _ h⟩)
 ·exact .inr h
mutual
def Rep(K:PySem.W.Frag)(H:Hp):D->V->Prop
 | .non,v=>v=.non
 | .bl b,v=>v=.bl b
 | .int i,v=>v=.int i
 | .str x,v=>v=.str x
 | .tup ds,v=>∃ a vs,v=.ref a/\SqT K H a vs/\aJ K H ds vs
 | .lst ds,v=>∃ a vs,v=.ref a/\SqL K H a vs/\aJ K H ds vs
 | .exc c,v=>∃ a C,v=.ref a/\PySem.W.nsIn K mainGlobals c=some (some (.ref C))/\H a=some (.ext (isX a (.ref C)))
 | .dic ks ds,v=>∃ (a:Addr) (kvs:List (Key×V)),v=.ref a/\DAt K H a kvs/\kvs.map (·.1)=ks/\aJ K H ds (kvs.map (·.2))
def aJ(K:PySem.W.Frag)(H:Hp):List D->List V->Prop
 | [],vs=>vs=[]
 | d::ds,vs=>∃ v r,vs=v::r/\Rep K H d v/\aJ K H ds r
end
mutual
theorem Rep.same{K:PySem.W.Frag}{H H':Hp}(e:Same H H'):∀ (d:D) (v:V),Rep K H d v->Rep K H' d v
 | .non,v,h=>by simpa[Rep] using h
 | .bl b,v,h=>by simpa[Rep] using h
 | .int i,v,h=>by simpa[Rep] using h
 | .str x,v,h=>by simpa[Rep] using h
 | .tup ds,v,h=>by
  simp only[Rep] at h ⊢;obtain⟨a,vs,h1,h2,h3⟩:=h;exact⟨a,vs,h1,e.tup h2,aJ.same e ds vs h3⟩
 | .lst ds,v,h=>by
  simp only[Rep] at h ⊢;obtain⟨a,vs,h1,h2,h3⟩:=h;exact⟨a,vs,h1,e.seq h2,aJ.same e ds vs h3⟩
 | .exc c,v,h=>by
  simp only[Rep] at h ⊢;obtain⟨a,C,h1,h2,h3⟩:=h;exact⟨a,C,h1,h2,e _ _ h3⟩
 | .dic ks ds,v,h=>by
  simp only[Rep] at h ⊢;obtain⟨a,kvs,h1,h2,h3,h4⟩:=h;refine⟨a,kvs,h1,?_,h3,aJ.same e ds _ h4⟩;rcases h2 with(h2 | ⟨o,h2⟩) | h2
  ·exact .inl (.inl (e _ _ h2))
  ·exact .inl (.inr ⟨o,e _ _ h2⟩)
  ·exact .inr h2
theorem aJ.same{K:PySem.W.Frag}{H H':Hp}(e:Same H H'):∀ (ds:List D) (vs:List V),aJ K H ds vs->aJ K H' ds vs
 | [],vs,h=>by simpa[aJ] using h
 | d::ds,vs,h=>by
  simp only[aJ] at h ⊢;obtain⟨v,r,h1,h2,h3⟩:=h;exact⟨v,r,h1,Rep.same e d v h2,aJ.same e ds r h3⟩
end
theorem aJ.length{K:PySem.W.Frag}{H:Hp}:∀ {ds:List D} {vs:List V},aJ K H ds vs->ds.length=vs.length
 | [],vs,h=>by simp only[aJ] at h;subst h;rfl
 | d::ds,vs,h=>by
  simp only[aJ] at h;obtain⟨v,r,rfl,_,h3⟩:=h;simp[h3.length]
theorem aJ.nil{K:PySem.W.Frag}{H:Hp}:aJ K H [] []:=by simp[aJ]
theorem aJ.cons{K:PySem.W.Frag}{H:Hp}{d:D}{ds:List D}{v:V}{vs:List V}(h:Rep K H d v)(r:aJ K H ds vs):aJ K H (d::ds) (v::vs):=by
 simp only[aJ];exact⟨v,vs,rfl,h,r⟩
theorem aJ.append{K:PySem.W.Frag}{H:Hp}:∀ {ds es:List D} {vs us:List V},aJ K H ds vs->aJ K H es us->aJ K H (ds++es) (vs++us)
 | [],es,vs,us,h,h'=>by simp only[aJ] at h;subst h;exact h'
 | d::ds,es,vs,us,h,h'=>by
  simp only[aJ] at h;obtain⟨v,r,rfl,h2,h3⟩:=h;exact .cons h2 (h3.append h')
theorem aJ.get{K:PySem.W.Frag}{H:Hp}:∀ {ds:List D} {vs:List V} {i:Nat} {d:D},aJ K H ds vs->ds[i]?=some d->∃ v,vs[i]?=some v/\Rep K H d v
 | [],vs,i,d,_,e=>by simp at e
 | d'::ds,vs,0,d,h,e=>by
  simp only[aJ] at h;obtain⟨v,r,rfl,h2,h3⟩:=h;simp at e;subst e;exact⟨v,rfl,h2⟩
 | d'::ds,vs,i+1,d,h,e=>by
  simp only[aJ] at h;obtain⟨v,r,rfl,h2,h3⟩:=h;obtain⟨u,e1,e2⟩:=h3.get (i:=i) (d:=d) (by simpa using e);exact⟨u,by simpa using e1,e2⟩
theorem aJ.take{K:PySem.W.Frag}{H:Hp}:∀ (n:Nat) {ds:List D} {vs:List V},aJ K H ds vs->aJ K H (ds.take n) (vs.take n)
 | 0,_,_,_=>by simpa using aJ.nil
 | n+1,[],vs,h=>by simp only[aJ] at h;subst h;simpa using aJ.nil
 | n+1,d::ds,vs,h=>by
  simp only[aJ] at h;obtain⟨v,r,rfl,h2,h3⟩:=h;simpa using aJ.cons h2 (h3.take n)
theorem aJ.drop{K:PySem.W.Frag}{H:Hp}:∀ (n:Nat) {ds:List D} {vs:List V},aJ K H ds vs->aJ K H (ds.drop n) (vs.drop n)
 | 0,_,_,h=>by simpa using h
 | n+1,[],vs,h=>by simp only[aJ] at h;subst h;simpa using aJ.nil
 | n+1,d::ds,vs,h=>by
  simp only[aJ] at h;obtain⟨v,r,rfl,h2,h3⟩:=h;simpa using h3.drop n
theorem aJ.reverse{K:PySem.W.Frag}{H:Hp}:∀ {ds:List D} {vs:List V},aJ K H ds vs->aJ K H ds.reverse vs.reverse
 | [],vs,h=>by simp only[aJ] at h;subst h;simpa using aJ.nil
 | d::ds,vs,h=>by
  simp only[aJ] at h;obtain⟨v,r,rfl,h2,h3⟩:=h;simpa using h3.reverse.append (.cons h2 .nil)
structure Ext (Hs H Hs' H':Hp):Prop where
 vis:Same Hs Hs'
 all:Same H H'
 sub:Same Hs' H'
 hid:∀ b o,H b=some o->Hs b=none->Hs' b=none
theorem Ext.refl{Hs H:Hp}(h:Same Hs H):Ext Hs H Hs H:=⟨.refl _,.refl _,h,fun _ _ _ h=>h⟩
theorem Ext.trans{Hs H Hs1 H1 Hs2 H2:Hp}(a:Ext Hs H Hs1 H1)(b:Ext Hs1 H1 Hs2 H2):Ext Hs H Hs2 H2 :=
 ⟨a.vis.trans b.vis,a.all.trans b.all,b.sub,fun c o h1 h2=>b.hid c o (a.all c o h1) (a.hid c o h1 h2)⟩
theorem Ext.new{Hs H:Hp}(h:Same Hs H){p:Addr}(o:HO)(hp:H p=none):Ext Hs H (upd Hs p o) (upd H p o) where
 vis:=fun b u e=>by rw[aH (aF (h b u e) hp)];exact e
 all:=fun b u e=>by rw[aH (aF e hp)];exact e
 sub:=fun b u e=>by
  by_cases hb:b=p
  ·subst hb;rw[aR] at e ⊢;exact e
  ·rw[aH hb] at e ⊢;exact h b u e
 hid:=fun b u e n=>by rw[aH (aF e hp)];exact n
theorem isT{X:Cx}{pins:List (Addr×Obj)}{σ:St}{H:Hp}{s:Shared}{a:Addr}{vs:List V}(I:Inv X pins σ H s)(h:SqT X.K H a vs):∃ its:List Value,Vals vs its/\s.heap.IsTuple a its.toArray:=by
 obtain⟨its,r,p,_⟩:=I.tuple h;exact⟨its,r,p⟩
theorem isL{X:Cx}{pins:List (Addr×Obj)}{σ:St}{H:Hp}{s:Shared}{a:Addr}{vs:List V}(I:Inv X pins σ H s)(h:SqL X.K H a vs):∃ its:List Value,Vals vs its/\s.heap.IsList a its.toArray:=by
 obtain⟨its,r,p,_⟩:=I.list h;exact⟨its,r,p.isList⟩
mutual
theorem mz:∀ d:D,dep d<1000->deq d d=true
 | .non,_=>rfl
 | .bl b,_=>by simp[deq]
 | .int i,_=>by simp[deq]
 | .str x,_=>by simp[deq]
 | .tup xs,h=>by simp only[deq];exact jx xs (by simp only[dep] at h;omega)
 | .lst xs,h=>by simp only[deq];exact jx xs (by simp only[dep] at h;omega)
 | .exc c,h=>absurd h (by simp[dep])
 | .dic _ _,h=>absurd h (by simp[dep])
theorem jx:∀ ds:List D,deps ds<1000->nT ds ds=true
 | [],_=>rfl
 | d::ds,h=>by
  simp only[deps] at h;simp only[nT,mz d (by omega),jx ds (by omega),Bool.and_self]
end
theorem rz:∀ {xs ys:List D} {e:Nat->Bool},(∀ (j:Nat) (x y:D),xs[j]?=some x->ys[j]?=some y->e j=deq x y)->((List.range (min xs.length ys.length)).all e&&xs.length==ys.length)=nT xs ys
 | [],[],_,_=>rfl
 | [],y::ys,_,_=>by simp[nT]
 | x::xs,[],_,_=>by simp[nT]
 | x::xs,y::ys,e,h=>by
  have ih:=rz (xs:=xs) (ys:=ys) (e:=fun j=>e (j+1)) fun j a b e1 e2=>h (j+1) a b (by simpa using e1) (by simpa using e2);have h0:=h 0 x y rfl rfl;simp only[nT,<- ih,<- h0,List.length_cons];rw[show min (xs.length+1) (ys.length+1)=min xs.length ys.length+1 by omega,List.range_succ_eq_map,List.all_cons,List.all_map];rw[Bool.and_assoc];congr 1;congr 1;simp
section
variable {X:Cx} {pins:List (Addr×Obj)} {σ:St} {H:Hp} {s:Shared}
mutual
theorem Rep.inj(I:Inv X pins σ H s):∀ (d d':D) (v:V),dep d<1000->dep d'<1000->Rep X.K H d v->Rep X.K H d' v->d=d'
 | .non,d',v,z,z',h,h'=>by simp only[Rep] at h;subst h;cases d'<;>simp[Rep] at h' ⊢
 | .bl b,d',v,z,z',h,h'=>by simp only[Rep] at h;subst h;cases d'<;>simp[Rep] at h' ⊢;exact h'
 | .int b,d',v,z,z',h,h'=>by simp only[Rep] at h;subst h;cases d'<;>simp[Rep] at h' ⊢;exact h'
 | .str b,d',v,z,z',h,h'=>by simp only[Rep] at h;subst h;cases d'<;>simp[Rep] at h' ⊢;exact h'
 | .tup ds,d',v,z,z',h,h'=>by
  simp only[Rep] at h;obtain⟨a,vs,rfl,h2,h3⟩:=h
  cases d' with
  | tup es =>
   simp only[Rep] at h';obtain⟨a',vs',e,h2',h3'⟩:=h';cases e;have:=I.tuple_inj h2 h2';subst this;rw[aJ.inj I ds es vs (by simp only[dep] at z;omega) (by simp only[dep] at z';omega) h3 h3']
  | lst es =>
   simp only[Rep] at h';obtain⟨a',vs',e,h2',h3'⟩:=h';cases e;obtain⟨i1,_,p1⟩:=isT I h2;obtain⟨i2,_,p2⟩:=isL I h2';exact absurd rfl (ne_of_list_tuple p2 p1)
  | non=>simp[Rep] at h'
  | bl _=>simp[Rep] at h'
  | int _=>simp[Rep] at h'
  | str _=>simp[Rep] at h'
  | exc _=>exact absurd z' (by simp[dep])
  | dic _ _=>exact absurd z' (by simp[dep])
 | .lst ds,d',v,z,z',h,h'=>by
  simp only[Rep] at h;obtain⟨a,vs,rfl,h2,h3⟩:=h
  cases d' with
  | lst es =>
   simp only[Rep] at h';obtain⟨a',vs',e,h2',h3'⟩:=h';cases e;have:=I.list_inj h2 h2';subst this;rw[aJ.inj I ds es vs (by simp only[dep] at z;omega) (by simp only[dep] at z';omega) h3 h3']
  | tup es =>
   simp only[Rep] at h';obtain⟨a',vs',e,h2',h3'⟩:=h';cases e;obtain⟨i1,_,p1⟩:=isL I h2;obtain⟨i2,_,p2⟩:=isT I h2';exact absurd rfl (ne_of_list_tuple p1 p2)
  | non=>simp[Rep] at h'
  | bl _=>simp[Rep] at h'
  | int _=>simp[Rep] at h'
  | str _=>simp[Rep] at h'
  | exc _=>exact absurd z' (by simp[dep])
  | dic _ _=>exact absurd z' (by simp[dep])
 | .exc c,d',v,z,z',h,h'=>absurd z (by simp[dep])
 | .dic _ _,d',v,z,z',h,h'=>absurd z (by simp[dep])
theorem aJ.inj(I:Inv X pins σ H s):∀ (ds es:List D) (vs:List V),deps ds<1000->deps es<1000->aJ X.K H ds vs->aJ X.K H es vs->ds=es
 | [],es,vs,z,z',h,h'=>by
  simp only[aJ] at h;subst h
  cases es with
  | nil=>rfl
  | cons e es=>simp[aJ] at h'
 | d::ds,es,vs,z,z',h,h'=>by
  simp only[aJ] at h;obtain⟨v,r,rfl,h2,h3⟩:=h
  cases es with
  | nil=>simp[aJ] at h'
  | cons e es =>
   simp only[aJ] at h';obtain⟨v',r',e',h2',h3'⟩:=h';cases e';simp only[deps] at z z';rw[Rep.inj I d e v (by omega) (by omega) h2 h2',aJ.inj I ds es r (by omega) (by omega) h3 h3']
end
def eJ(ds es:List D)(j:Nat):Bool:=match ds[j]?,es[j]? with
 | some x,some y=>deq x y
 | _,_=>true
theorem wH(ds es:List D):((List.range (min ds.length es.length)).all (eJ ds es)&&ds.length==es.length)=nT ds es :=
 rz fun j x y e1 e2=>by unfold eJ;rw[e1,e2]
theorem wG(ds es:List D)(h:ds.length=es.length):(List.range ds.length).all (eJ ds es)=nT ds es:=by
 rw[<- wH ds es,<- h];simp
theorem mq:∀ {xs ys:List D},xs.length≠ys.length->nT xs ys=false
 | [],[],h=>absurd rfl h
 | [],_::_,_=>rfl
 | _::_,[],_=>rfl
 | x::xs,y::ys,h=>by
  simp only[nT,mq (xs:=xs) (ys:=ys) (by intro e;exact h (by simp[e])),Bool.and_false]
theorem iI{A:Around}:A.in1.units=A.units+1:=rfl
inductive Vw (s:Shared):D->Value->Prop
 | n:Vw s .non .none
 | b (c:Bool):Vw s (.bl c) (.bool c)
 | i (c:Int) (t:Tok):Vw s (.int c) (.int c t)
 | s (c:Str) (t:Tok):Vw s (.str c) (.str c t)
 | t {ds:List D} {a:Addr} {its:Array Value} (p:s.heap.IsTuple a its):Vw s (.tup ds) (.ref a)
 | l {ds:List D} {a:Addr} {its:Array Value} (p:s.heap.IsList a its):Vw s (.lst ds) (.ref a)
theorem view(I:Inv X pins σ H s){d:D}{v:V}{u:Value}(h:Rep X.K H d v)(r:RelV v u)(z:dep d<1000):Vw s d u:=by
 cases d<;>simp only[Rep] at h<;>first
  | (simp[dep] at z;done)
  | (subst h;first | (cases (show u=_ from r);constructor;done) | (obtain⟨t,rfl⟩:=r;constructor;done))
  | (obtain⟨a,vs,rfl,h2,h3⟩:=h;cases (show u=Value.ref a from r);first | exact .t (isT I h2).choose_spec.2 | exact .l (isL I h2).choose_spec.2)
def Pk:D->D->Bool
 | .tup _,.tup _=>false
 | .lst _,.lst _=>false
 | _,_=>true
theorem g8{A:Around}{d d':D}{u u':Value}(a:Vw s d u)(b:Vw s d' u')(hu:A.units<cLine)(k:Pk d d'=true):EqAt A s u u' (deq d d'):=by
 cases a with
 | n =>
  cases b with
  | n=>exact EqAt.same _
  | b e=>exact EqAt.none_bool e
  | i e f=>exact EqAt.none_int e f
  | s e f=>exact EqAt.none_str e f
  | t q=>exact EqAt.none_tuple q hu
  | l q=>exact EqAt.none_list q hu
 | b c =>
  cases b with
  | n=>exact EqAt.bool_none c
  | b e=>exact EqAt.bool_bool c e
  | i e f=>exact EqAt.bool_int c e f
  | s e f=>exact EqAt.bool_str c e f
  | t q=>exact EqAt.bool_tuple c q hu
  | l q=>exact EqAt.bool_list c q hu
 | i c t =>
  cases b with
  | n=>exact EqAt.int_none c t
  | b e=>exact EqAt.int_bool c t e
  | i e f=>exact EqAt.int_int c t e f
  | s e f=>exact EqAt.int_str c t e f
  | t q=>exact EqAt.int_tuple c t q hu
  | l q=>exact EqAt.int_list c t q hu
 | s c t =>
  cases b with
  | n=>exact EqAt.str_none c t
  | b e=>exact EqAt.str_bool c t e
  | i e f=>exact EqAt.str_int c t e f
  | s e f=>exact EqAt.str_str c t e f
  | t q=>exact EqAt.str_tuple c t q hu
  | l q=>exact EqAt.str_list c t q hu
 | t p =>
  cases b with
  | n=>exact EqAt.tuple_none p hu
  | b e=>exact EqAt.tuple_bool e p hu
  | i e f=>exact EqAt.tuple_int e f p hu
  | s e f=>exact EqAt.tuple_str e f p hu
  | t q=>cases k
  | l q=>exact EqAt.tuple_list p q hu
 | l p =>
  cases b with
  | n=>exact EqAt.list_none p hu
  | b e=>exact EqAt.list_bool e p hu
  | i e f=>exact EqAt.list_int e f p hu
  | s e f=>exact EqAt.list_str e f p hu
  | t q=>exact EqAt.list_tuple p q hu
  | l q=>cases k
theorem Iz{A:Around}{d d':D}{u u':Value}(a:Vw s d u)(b:Vw s d' u')(hu:A.units<cLine)(k:Pk d d'=true):RcAt A s u u' (deq d d')/\RcNeAt A s u u' (!deq d d'):=by
 cases a with
 | n =>
  cases b with
  | n=>exact⟨RcAt.none_none,RcNeAt.none_none⟩
  | b e=>exact⟨RcAt.none_bool e,RcNeAt.none_bool e⟩
  | i e f=>exact⟨RcAt.none_int e f,RcNeAt.none_int e f⟩
  | s e f=>exact⟨RcAt.none_str e f,RcNeAt.none_str e f⟩
  | t q=>exact⟨RcAt.none_tuple q hu,RcNeAt.none_tuple q hu⟩
  | l q=>exact⟨RcAt.none_list q hu,RcNeAt.none_list q hu⟩
 | b c =>
  cases b with
  | n=>exact⟨RcAt.bool_none c,RcNeAt.bool_none c⟩
  | b e=>exact⟨RcAt.bool_bool c e,RcNeAt.bool_bool c e⟩
  | i e f=>exact⟨RcAt.bool_int c e f,RcNeAt.bool_int c e f⟩
  | s e f=>exact⟨RcAt.bool_str c e f,RcNeAt.bool_str c e f⟩
  | t q=>exact⟨RcAt.bool_tuple c q hu,RcNeAt.bool_tuple c q hu⟩
  | l q=>exact⟨RcAt.bool_list c q hu,RcNeAt.bool_list c q hu⟩
 | i c t =>
  cases b with
  | n=>exact⟨RcAt.int_none c t,RcNeAt.int_none c t⟩
  | b e=>exact⟨RcAt.int_bool c t e,RcNeAt.int_bool c t e⟩
  | i e f=>exact⟨RcAt.int_int c t e f,RcNeAt.int_int c t e f⟩
  | s e f=>exact⟨RcAt.int_str c t e f,RcNeAt.int_str c t e f⟩
  | t q=>exact⟨RcAt.int_tuple c t q hu,RcNeAt.int_tuple c t q hu⟩
  | l q=>exact⟨RcAt.int_list c t q hu,RcNeAt.int_list c t q hu⟩
 | s c t =>
  cases b with
  | n=>exact⟨RcAt.str_none c t,RcNeAt.str_none c t⟩
  | b e=>exact⟨RcAt.str_bool c t e,RcNeAt.str_bool c t e⟩
  | i e f=>exact⟨RcAt.str_int c t e f,RcNeAt.str_int c t e f⟩
  | s e f=>exact⟨RcAt.str_str c t e f,RcNeAt.str_str c t e f⟩
  | t q=>exact⟨RcAt.str_tuple c t q hu,RcNeAt.str_tuple c t q hu⟩
  | l q=>exact⟨RcAt.str_list c t q hu,RcNeAt.str_list c t q hu⟩
 | t p =>
  cases b with
  | n=>exact⟨RcAt.tuple_none p hu,RcNeAt.tuple_none p hu⟩
  | b e=>exact⟨RcAt.tuple_bool e p hu,RcNeAt.tuple_bool e p hu⟩
  | i e f=>exact⟨RcAt.tuple_int e f p hu,RcNeAt.tuple_int e f p hu⟩
  | s e f=>exact⟨RcAt.tuple_str e f p hu,RcNeAt.tuple_str e f p hu⟩
  | t q=>cases k
  | l q=>exact⟨RcAt.tuple_list p q hu,RcNeAt.tuple_list p q hu⟩
 | l p =>
  cases b with
  | n=>exact⟨RcAt.list_none p hu,RcNeAt.list_none p hu⟩
  | b e=>exact⟨RcAt.list_bool e p hu,RcNeAt.list_bool e p hu⟩
  | i e f=>exact⟨RcAt.list_int e f p hu,RcNeAt.list_int e f p hu⟩
  | s e f=>exact⟨RcAt.list_str e f p hu,RcNeAt.list_str e f p hu⟩
  | t q=>exact⟨RcAt.list_tuple p q hu,RcNeAt.list_tuple p q hu⟩
  | l q=>cases k
mutual
theorem wD(I:Inv X pins σ H s):∀ (d d':D) (v v':V) (u u':Value) (A:Around),Rep X.K H d v->Rep X.K H d' v'->RelV v u->RelV v' u'->A.units+dep d<cLine->dep d<1000->dep d'<1000->EqAt A s u u' (deq d d')
 | .tup ds,d',v,v',u,u',A,h,h',r,r',hu,z,z'=>by
  have hu0:A.units<cLine:=Nat.lt_of_le_of_lt (Nat.le_add_right _ _) hu
  cases d' with
  | tup es =>
   have hh:=h;have hh':=h';simp only[Rep] at h h';obtain⟨a,vs,rfl,h2,h3⟩:=h;cases (show u=Value.ref a from r);obtain⟨its,rv,p⟩:=isT I h2
   have hu1:A.in1.units+deps ds<cLine:=by have:dep (.tup ds)=deps ds+1:=rfl;rw[iI];omega
   obtain⟨b,us,rfl,h2',h3'⟩:=h';cases (show u'=Value.ref b from r');obtain⟨its',rv',p'⟩:=isT I h2'
   by_cases hab:a=b
   ·subst hab
    have:=Rep.inj I _ _ _ z z' hh hh';rw[<- this,mz _ z];exact EqAt.same _
   ·have q:=RcAt.tuples p p' hu0 (e:=eJ ds es) fun j g1 g2=>gk I ds es vs us its its' A.in1 h3 h3' rv rv' hu1 (by simp only[dep] at z;omega) (by simp only[dep] at z';omega) j _ _ (by simp at g1 ⊢) (by simp at g2 ⊢)
    have l1:=h3.length;have l2:=rv.length;have l3:=h3'.length;have l4:=rv'.length
    rw[List.size_toArray,List.size_toArray,<- l2,<- l1,<- l4,<- l3,wH] at q;exact .of_refs hab q
  | _=>exact g8 (view I h r z) (view I h' r' z') hu0 rfl
 | .lst ds,d',v,v',u,u',A,h,h',r,r',hu,z,z'=>by
  have hu0:A.units<cLine:=Nat.lt_of_le_of_lt (Nat.le_add_right _ _) hu
  cases d' with
  | lst es =>
   have hh:=h;have hh':=h';simp only[Rep] at h h';obtain⟨a,vs,rfl,h2,h3⟩:=h;cases (show u=Value.ref a from r);obtain⟨its,rv,p⟩:=isL I h2
   have hu1:A.in1.units+deps ds<cLine:=by have:dep (.lst ds)=deps ds+1:=rfl;rw[iI];omega
   obtain⟨b,us,rfl,h2',h3'⟩:=h';cases (show u'=Value.ref b from r');obtain⟨its',rv',p'⟩:=isL I h2'
   have l1:=h3.length;have l2:=rv.length;have l3:=h3'.length;have l4:=rv'.length
   by_cases hab:a=b
   ·subst hab
    have:=Rep.inj I _ _ _ z z' hh hh';rw[<- this,mz _ z];exact EqAt.same _
   ·by_cases hl:ds.length=es.length
    ·have q:=RcAt.lists p p' (by simp;omega) hu0 (e:=eJ ds es) fun j g1 g2=>gk I ds es vs us its its' A.in1 h3 h3' rv rv' hu1 (by simp only[dep] at z;omega) (by simp only[dep] at z';omega) j _ _ (by simp at g1 ⊢) (by simp at g2 ⊢)
     rw[List.size_toArray,<- l2,<- l1,wG _ _ hl] at q;exact .of_refs hab q
    ·have q:=RcAt.lists_lengths p p' (by simp;omega) hu0
     rw[show deq (.lst ds) (.lst es)=nT ds es from rfl,mq hl];exact .of_refs hab q
  | _=>exact g8 (view I h r z) (view I h' r' z') hu0 rfl
 | .non,_,_,_,_,_,_,h,h',r,r',hu,z,z'=>g8 (view I h r z) (view I h' r' z') (Nat.lt_of_le_of_lt (Nat.le_add_right _ _) hu) rfl
 | .bl _,_,_,_,_,_,_,h,h',r,r',hu,z,z'=>g8 (view I h r z) (view I h' r' z') (Nat.lt_of_le_of_lt (Nat.le_add_right _ _) hu) rfl
 | .int _,_,_,_,_,_,_,h,h',r,r',hu,z,z'=>g8 (view I h r z) (view I h' r' z') (Nat.lt_of_le_of_lt (Nat.le_add_right _ _) hu) rfl
 | .str _,_,_,_,_,_,_,h,h',r,r',hu,z,z'=>g8 (view I h r z) (view I h' r' z') (Nat.lt_of_le_of_lt (Nat.le_add_right _ _) hu) rfl
 | .exc _,_,_,_,_,_,_,h,h',r,r',hu,z,z'=>g8 (view I h r z) (view I h' r' z') (Nat.lt_of_le_of_lt (Nat.le_add_right _ _) hu) rfl
 | .dic _ _,_,_,_,_,_,_,h,h',r,r',hu,z,z'=>g8 (view I h r z) (view I h' r' z') (Nat.lt_of_le_of_lt (Nat.le_add_right _ _) hu) rfl
theorem gk(I:Inv X pins σ H s):∀ (ds es:List D) (vs us:List V) (its its':List Value) (A:Around),aJ X.K H ds vs->aJ X.K H es us->Vals vs its->Vals us its'->A.units+deps ds<cLine->deps ds<1000->deps es<1000 ->
  ∀ (j:Nat) (u u':Value),its[j]?=some u->its'[j]?=some u'->EqAt A s u u' (eJ ds es j)
 | [],es,vs,us,its,its',A,h,h',r,r',hu,z,z',j,u,u',e1,e2=>by
  simp only[aJ] at h;subst h;cases r;simp at e1
 | d::ds,es,vs,us,its,its',A,h,h',r,r',hu,z,z',j,u,u',e1,e2=>by
  simp only[aJ] at h;obtain⟨v,vr,rfl,h2,h3⟩:=h
  cases r with
  | cons r rr =>
   cases es with
   | nil=>simp only[aJ] at h';subst h';cases r';simp at e2
   | cons e es =>
    simp only[aJ] at h';obtain⟨v',vr',rfl,h2',h3'⟩:=h'
    cases r' with
    | cons r' rr' =>
     have hd:dep d<=deps (d::ds):=Nat.le_max_left _ _;have hds:deps ds<=deps (d::ds):=Nat.le_max_right _ _
     cases j with
     | zero =>
      simp at e1 e2;subst e1 e2
      exact wD I d e v v' _ _ A h2 h2' r r' (by omega) (by simp only[deps] at z;omega) (by simp only[deps] at z';omega)
     | succ j =>
      have q:=gk I ds es vr vr' _ _ A h3 h3' rr rr' (by omega) (by simp only[deps] at z;omega) (by simp only[deps] at z';omega) j u u' (by simpa using e1) (by simpa using e2)
      simpa[eJ] using q
end
theorem rB(I:Inv X pins σ H s){d d':D}{v v':V}{u u':Value}(A:Around)(h:Rep X.K H d v)(h':Rep X.K H d' v')(r:RelV v u)(r':RelV v' u')(hu:A.units+dep d<cLine)(z:dep d<1000)(z':dep d'<1000):RcAt A s u u' (deq d d')/\RcNeAt A s u u' (!deq d d'):=by
 have hu0:A.units<cLine:=Nat.lt_of_le_of_lt (Nat.le_add_right _ _) hu
 cases k:Pk d d' with
 | true=>exact Iz (view I h r z) (view I h' r' z') hu0 k
 | false =>
  cases d<;>cases d'<;>first | (cases k;done) | skip
  all_goals
   rename_i ds es;simp only[Rep] at h h';obtain⟨a,vs,rfl,h2,h3⟩:=h;cases (show u=Value.ref a from r);obtain⟨b,us,rfl,h2',h3'⟩:=h';cases (show u'=Value.ref b from r')
   have hu1:A.in1.units+deps ds<cLine:=by simp only[dep] at hu;rw[iI];omega
   have l1:=h3.length;have l3:=h3'.length
  ·obtain⟨its,rv,p⟩:=isT I h2;obtain⟨its',rv',p'⟩:=isT I h2'
   have l2:=rv.length;have l4:=rv'.length
   have he:∀ j (g1:j<its.toArray.size) (g2:j<its'.toArray.size),EqAt A.in1 s its.toArray[j] its'.toArray[j] (eJ ds es j):=fun j g1 g2=>gk I ds es vs us its its' A.in1 h3 h3' rv rv' hu1 (by simp only[dep] at z;omega) (by simp only[dep] at z';omega) j _ _ (by simp at g1 ⊢) (by simp at g2 ⊢)
   have q:=RcAt.tuples p p' hu0 he;have q':=RcNeAt.tuples p p' hu0 he;rw[List.size_toArray,List.size_toArray,<- l2,<- l1,<- l4,<- l3,wH] at q q';exact⟨q,q'⟩
  ·obtain⟨its,rv,p⟩:=isL I h2;obtain⟨its',rv',p'⟩:=isL I h2'
   have l2:=rv.length;have l4:=rv'.length
   by_cases hl:ds.length=es.length
   ·have he:∀ j (g1:j<its.toArray.size) (g2:j<its'.toArray.size),EqAt A.in1 s its.toArray[j] its'.toArray[j] (eJ ds es j):=fun j g1 g2=>gk I ds es vs us its its' A.in1 h3 h3' rv rv' hu1 (by simp only[dep] at z;omega) (by simp only[dep] at z';omega) j _ _ (by simp at g1 ⊢) (by simp at g2 ⊢)
    have q:=RcAt.lists p p' (by simp;omega) hu0 he
    have q':=RcNeAt.lists p p' (by simp;omega) hu0 he
    rw[List.size_toArray,<- l2,<- l1,wG _ _ hl] at q q';exact⟨q,q'⟩
   ·rw[show deq (.lst ds) (.lst es)=nT ds es from rfl,mq hl]
    exact⟨RcAt.lists_lengths p p' (by simp;omega) hu0,RcNeAt.lists_lengths p p' (by simp;omega) hu0⟩
end
end L2
namespace L2
open PySem PySem.Spec PyProof.Rows DE PySem.SeqAt
def oN(X:Cx)(e:Expr):TE:=fun σ H Q=>∀ pins s,Inv X pins σ H s->wpAny (model X.prog X.w) X.A (eval e X.env) (EP X pins σ Q) X.xe s
def yu(X:Cx)(e:Expr):TT:=fun σ H Q=>∀ pins s,Inv X pins σ H s->wpAny (model X.prog X.w) X.A (isTrue e X.env (eval e X.env)) (TP X pins σ Q) X.xe s
def uy(X:Cx)(es:List Expr):TA:=fun σ H Q=>∀ pos pins s,Inv X pins σ H s->wpAny (model X.prog X.w) X.A (spliced (backTo pos (starEach es X.env))) (AP X pins σ Q) X.xe s
def oZ(X:Cx)(tg iter:Expr):TI:=fun σ H R=>∀ pins s,Inv X pins σ H s->wpAny (model X.prog X.w) X.A (eval iter X.env) (fun v s1=>wpAny (model X.prog X.w) X.A (pyIter v) (PIE X pins σ tg R) X.xe s1) X.xe s
section
variable {X:Cx} {e:Expr}
theorem ak:PE X e (oN X e):=fun pins s σ H Q I h=>h pins s I
theorem dO:PT X e (yu X e):=fun pins s σ H Q I h=>h pins s I
theorem gY{es:List Expr}:PA X es (uy X es):=fun pos pins s σ H Q I h=>h pos pins s I
theorem jh{tg iter:Expr}:PI X tg iter (oZ X tg iter):=fun pins s σ H R I h=>h pins s I
theorem PE.sem{t:TE}{σ:St}{H:Hp}{Q:VK}(h:PE X e t)(q:t σ H Q):oN X e σ H Q:=fun pins s I=>h pins s σ H Q I q
theorem PT.sem{t:TT}{σ:St}{H:Hp}{Q:Bool->Hp->Prop}(h:PT X e t)(q:t σ H Q):yu X e σ H Q:=fun pins s I=>h pins s σ H Q I q
theorem PA.sem{es:List Expr}{t:TA}{σ:St}{H:Hp}{Q:List V->Hp->Prop}(h:PA X es t)(q:t σ H Q):uy X es σ H Q:=fun pos pins s I=>h pos pins s σ H Q I q
theorem PI.sem{tg iter:Expr}{t:TI}{σ:St}{H:Hp}{R:It->Hp->Prop}(h:PI X tg iter t)(q:t σ H R):oZ X tg iter σ H R:=fun pins s I=>h pins s σ H R I q
end
def cC(K:PySem.W.Frag)(Hs:Hp)(ρ:Rho)(σ:St):Prop:=∀ (i:Nat) (x:Str) (d:D),ρ[i]?=some (x,.sh d)->∃ v,σ[i]?=some (some v)/\Rep K Hs d v
theorem cC.same{K:PySem.W.Frag}{Hs Hs':Hp}{ρ:Rho}{σ:St}(h:cC K Hs ρ σ)(e:Same Hs Hs'):cC K Hs' ρ σ:=fun i x d q=>by
 obtain⟨v,e1,e2⟩:=h i x d q;exact⟨v,e1,Rep.same e d v e2⟩
def G7(K:PySem.W.Frag)(J:It)(Hs0:Hp)(ds:List D):Prop:=∀ Hs H,Same Hs0 Hs->Same Hs H->J.stop ds.length H/\∀ (i:Nat) (d:D),ds[i]?=some d->J.go i H/\∀ x H',J.yld i H x H'->∃ Hs',Ext Hs H Hs' H'/\Rep K Hs' d x
def Ev(X:Cx)(ρ:Rho)(e:Expr)(d:D):Prop:=∀ σ H Hs Q,Same Hs H->cC X.K Hs ρ σ->(∀ v H' Hs',Ext Hs H Hs' H'->Rep X.K Hs' d v->Q v H')->oN X e σ H Q
def EvT(X:Cx)(ρ:Rho)(e:Expr)(b:Bool):Prop:=∀ σ H Hs Q,Same Hs H->cC X.K Hs ρ σ->(∀ H' Hs',Ext Hs H Hs' H'->Q b H')->yu X e σ H Q
def EvA(X:Cx)(ρ:Rho)(es:List Expr)(ds:List D):Prop:=∀ σ H Hs Q,Same Hs H->cC X.K Hs ρ σ->(∀ vs H' Hs',Ext Hs H Hs' H'->aJ X.K Hs' ds vs->Q vs H')->uy X es σ H Q
def EvI(X:Cx)(ρ:Rho)(tg iter:Expr)(ds:List D):Prop:=∀ σ H Hs R,Same Hs H->cC X.K Hs ρ σ->(∀ J H' Hs',Ext Hs H Hs' H'->G7 X.K J Hs' ds->R J H')->oZ X tg iter σ H R
def spX(K:PySem.W.Frag)(call:Str->List D->Option D)(callx:Str->List D->Option Str)(f:Str)(ps:List Str):Sp:=fun vs H Q E=>vs.length=ps.length/\∃ Hs ds,Same Hs H/\aJ K Hs ds vs /\
 ((∃ d,call f ds=some d/\∀ v H' Hs',Ext Hs H Hs' H'->Rep K Hs' d v->Q v H')\/(∃ c,callx f ds=some c/\∀ C H' Hs',PySem.W.nsIn K mainGlobals c=some (some (.ref C))->Ext Hs H Hs' H'->E (.ref C) none H'))
def Ba(K:PySem.W.Frag)(exs:List Str)(top:Str):Bool:=match PySem.W.nsIn K mainGlobals top with
  | some (some (.ref M))=>exs.all fun c=>match PySem.W.nsIn K mainGlobals c with
    | some (some (.ref C)) => xIn K C M && kh K C && PySem.W.exmOne K (.ref C) (.ref M) == some true && PySem.W.kitOne K (.ref C) (.ref M) == some true && PySem.W.kitOne K (.ref C) (.type "ValueError") == some true &&
      exs.all fun c'=>match PySem.W.nsIn K mainGlobals c' with
        | some (some (.ref C'))=>PySem.W.kitOne K (.ref C) (.ref C')==some (c==c')
        | _=>false
    | _=>false
  | _=>exs.isEmpty
structure XText (K:PySem.W.Frag) (mg:Str->Option Value) (exs:List Str) (top:Str):Prop where
 glob:∀ x v,PySem.W.nsIn K mainGlobals x=some (some v)->mg x=some v
 cls:∀ c,exs.contains c=true->∃ C M,PySem.W.nsIn K mainGlobals c=some (some (.ref C))/\PySem.W.nsIn K mainGlobals top=some (some (.ref M))/\xIn K C M=true/\kh K C=true/\PySem.W.exmOne K (.ref C) (.ref M)=some true/\PySem.W.kitOne K (.ref C) (.ref M)=some true/\PySem.W.kitOne K (.ref C) (.type "ValueError")=some true
 sub:∀ c c',exs.contains c=true->exs.contains c'=true->∃ C C',PySem.W.nsIn K mainGlobals c=some (some (.ref C))/\PySem.W.nsIn K mainGlobals c'=some (some (.ref C'))/\PySem.W.kitOne K (.ref C) (.ref C')=some (c==c')
theorem XText.of{K:PySem.W.Frag}{mg:Str->Option Value}{exs:List Str}{top:Str}(hg:∀ x v,PySem.W.nsIn K mainGlobals x=some (some v)->mg x=some v)(h:Ba K exs top=true):XText K mg exs top:=by
 unfold Ba at h;split at h
 ·rename_i M hM
  have all:=fun c (hc:exs.contains c=true)=>List.all_eq_true.mp h c (by simpa using hc);refine⟨hg,fun c hc=>?_,fun c c' hc hc'=>?_⟩
  ·have q:=all c hc
   split at q
   ·rename_i C hC
    simp only[Bool.and_eq_true,beq_iff_eq] at q;exact⟨C,M,hC,hM,q.1.1.1.1.1,q.1.1.1.1.2,q.1.1.1.2,q.1.1.2,q.1.2⟩
   ·cases q
  ·have q:=all c hc
   split at q
   ·rename_i C hC
    simp only[Bool.and_eq_true] at q;have q2:=List.all_eq_true.mp q.2 c' (by simpa using hc');split at q2
    ·rename_i C' hC'
     exact⟨C,C',hC,hC',by simpa using q2⟩
    ·cases q2
   ·cases q
 ·have e:exs=[]:=by simpa using h
  subst e;exact⟨hg,fun c hc=>absurd hc (by simp),fun c c' hc=>absurd hc (by simp)⟩
structure Good (cx:Cxt) (k:Nat) (X:Cx) (sc:Scope):Prop where
 calm:X.calm=true
 room:Room k X.A
 sce:X.env.scope=sc
 kind:sc.kind=.function
 nd:X.N.Nodup
 cst:∀ x d,cx.cst.lookup x=some d->∃ v u,(∀ H,Rep X.K H d v)/\X.mg x=some u/\RelV v u
 blt:∀ x b,cx.blt.lookup x=some b->X.mg x=none/\x=Str.ofString b
 exs:XText X.K X.mg cx.exs cx.top
 fns:∀ f,cx.fns.contains f=true->(f==("__debug__":Str))=false/\∃ a fd ps,(∀ ds d,cx.call f ds=some d->ds.length=ps.length)/\(∀ ds c,cx.callx f ds=some c->ds.length=ps.length)/\X.mg f=some (.ref a)/\PySem.W.keepIn X.K (.ref a)=true/\Binds X.K fd ps []/\FnOk X.prog X.w X.K X.mg X.base (CX1 X.prog X.w) k a fd ps (spX X.K cx.call cx.callx f ps)
 kw:KnW X.K X.w
section
variable {X:Cx} {ρ:Rho} {cx:Cxt} {k:Nat} {sc:Scope}
theorem bT:∀ {ρ:Rho} {x:Str} {s:Sl},ρ.lookup x=some s->∃ i:Nat,ρ[i]?=some (x,s)/\(ρ.map (·.1)).idxOf? x=some i
 | (y,t)::r,x,s,h=>by
  rw[List.lookup_cons] at h
  cases hb:x==y with
  | true =>
   rw[hb] at h;cases h
   have:x=y:=by simpa using hb
   subst this;exact⟨0,rfl,by simp[List.idxOf?,List.findIdx?_cons]⟩
  | false =>
   rw[hb] at h;obtain⟨i,h1,h2⟩:=bT h;refine⟨i+1,by simpa using h1,?_⟩
   have hy:(y==x)=false:=by
    rw[beq_eq_false_iff_ne] at hb ⊢;exact fun e=>hb e.symm
   simp only[List.map_cons,List.idxOf?,List.findIdx?_cons,hy,Bool.false_eq_true,if_false];simp only[List.idxOf?] at h2;rw[h2];rfl
theorem Gm{x:Str}{d:D}{pos:Pos}(hN:X.N=ρ.map (·.1))(hv:Vis X.env.scope x)(hp:aq x=true)(h:ρ.lookup x=some (.sh d)):Ev X ρ (.Name x pos) d:=by
 intro σ H Hs Q hs hr hq;obtain⟨i,h1,_⟩:=bT h;obtain⟨v,e1,e2⟩:=hr i x d h1;unfold aq at hp;rw[Bool.and_eq_true,bne_iff_ne,bne_iff_ne] at hp;refine PE.sem (fY (i:=i) (by rw[hN,List.getElem?_map,h1];rfl) hv (by simpa using hp.1) (by simpa using hp.2)) ⟨v,e1,hq v H Hs (.refl hs) e2⟩
theorem Kc{x:Str}{d:D}{v:V}{u:Value}{pos:Pos}(hg:Gl X x)(hd:∀ H,Rep X.K H d v)(hm:X.mg x=some u)(r:RelV v u)(hp:aq x=true):Ev X ρ (.Name x pos) d:=by
 intro σ H Hs Q hs hr hq;unfold aq at hp;rw[Bool.and_eq_true,bne_iff_ne,bne_iff_ne] at hp;exact PE.sem (pD hg hm r (by simpa using hp.1)) (hq _ H Hs (.refl hs) (hd Hs))
theorem z6{c:Const}{d:D}{j:Nat}{pos:Pos}(h:(match c with | .none=>some D.non | .bool b=>some (.bl b) | .int i=>some (.int i) | .str x=>some (.str x) | _=>none)=some d):Ev X ρ (.Constant c j pos) d:=by
 intro σ H Hs Q hs hr hq
 cases c<;>simp at h<;>subst h
 ·exact PE.sem Jl (hq _ H Hs (.refl hs) (by simp[Rep]))
 ·exact PE.sem Mg (hq _ H Hs (.refl hs) (by simp[Rep]))
 ·exact PE.sem Jm (hq _ H Hs (.refl hs) (by simp[Rep]))
 ·exact PE.sem Bq (hq _ H Hs (.refl hs) (by simp[Rep]))
theorem dW{a b:Expr}{x y d:D}{r:R2}{e:Expr}(ha:Ev X ρ a x)(hb:Ev X ρ b y)(hp:PE X e (tOp r (oN X a) (oN X b)))
  (hr:∀ u v H Hs Q,Same Hs H->Rep X.K Hs x u->Rep X.K Hs y v->(∀ w H' Hs',Ext Hs H Hs' H'->Rep X.K Hs' d w->Q w H')->r u v H Q):Ev X ρ e d:=by
 intro σ H Hs Q hs hst hq;refine hp.sem (ha σ H Hs _ hs hst fun u H1 Hs1 E1 r1=>hb σ H1 Hs1 _ E1.sub (hst.same E1.vis) fun v H2 Hs2 E2 r2=>?_);exact hr u v H2 Hs2 Q E2.sub (Rep.same E2.vis x u r1) r2 fun w H' Hs' E3 r3=>hq w H' Hs' (E1.trans (E2.trans E3)) r3
theorem qw{i:Int}(h:small i=true):-(2^64)<i/\i<2^64:=by
 unfold small at h;rw[Bool.and_eq_true,decide_eq_true_eq,decide_eq_true_eq] at h;exact h
theorem eE{n:Nat}(h:szl n=true):n<=sizeLine:=by
 unfold szl at h;rw[decide_eq_true_eq] at h;exact Nat.le_trans h (by rw[sizeLine_eq];decide)
theorem qg{n:Nat}(h:szl n=true):n<sizeLine:=by
 unfold szl at h;rw[decide_eq_true_eq] at h;exact Nat.lt_of_le_of_lt h (by rw[sizeLine_eq];decide)
theorem aA{K:PySem.W.Frag}{H:Hp}{i:Int}{v:V}(h:Rep K H (.int i) v):v=.int i:=by simpa[Rep] using h
theorem cH{K:PySem.W.Frag}{H:Hp}{i:Bool}{v:V}(h:Rep K H (.bl i) v):v=.bl i:=by simpa[Rep] using h
theorem bw{K:PySem.W.Frag}{H:Hp}{ds:List D}{v:V}(h:Rep K H (.tup ds) v):∃ a vs,v=.ref a/\SqT K H a vs/\aJ K H ds vs:=by simpa[Rep] using h
theorem aU{K:PySem.W.Frag}{H:Hp}{ds:List D}{v:V}(h:Rep K H (.lst ds) v):∃ a vs,v=.ref a/\SqL K H a vs/\aJ K H ds vs:=by simpa[Rep] using h
theorem jm{Hs H:Hp}{ds:List D}{vs:List V}{p:Addr}{Q:VK}(hs:Same Hs H)(hr:aJ X.K Hs ds vs)(hp:H p=none)(hq:∀ w H' Hs',Ext Hs H Hs' H'->Rep X.K Hs' (.tup ds) w->Q w H'):Q (.ref p) (upd H p (.tup vs)) :=
 hq _ _ _ (Ext.new hs (.tup vs) hp) (by simp only[Rep];exact⟨p,vs,rfl,.of aR,aJ.same (Ext.new hs (.tup vs) hp).vis ds vs hr⟩)
theorem dG{Hs H:Hp}{ds:List D}{vs:List V}{p:Addr}{Q:VK}(hs:Same Hs H)(hr:aJ X.K Hs ds vs)(hp:H p=none)(hq:∀ w H' Hs',Ext Hs H Hs' H'->Rep X.K Hs' (.lst ds) w->Q w H'):Q (.ref p) (upd H p (.lst vs)) :=
 hq _ _ _ (Ext.new hs (.lst vs) hp) (by simp only[Rep];exact⟨p,vs,rfl,.of aR,aJ.same (Ext.new hs (.lst vs) hp).vis ds vs hr⟩)
def Ma(K:PySem.W.Frag):R2:=fun x y H Q=>∃ a b xs ys,x=.ref a/\y=.ref b/\SqT K H a xs/\SqT K H b ys/\xs.length+ys.length<=sizeLine /\
 (xs=[]->Q (.ref b) H)/\(xs≠[]->ys=[]->Q (.ref a) H)/\(xs≠[]->ys≠[]->∀ p,H p=none->Q (.ref p) (upd H p (.tup (xs++ys))))
theorem Et:OpR X (binaryOp .Add) (Ma X.K):=by
 intro pins s σ H x y v u Q I rx ry h;obtain⟨a,b,xs,ys,rfl,rfl,ha,hb,hz,q0,q1,q2⟩:=h
 by_cases hx:xs=[]
 ·subst hx
  cases (show v=Value.ref a from rx);cases (show u=Value.ref b from ry);obtain⟨its,r1,p1,_⟩:=I.tuple ha;obtain⟨its2,r2,p2,_⟩:=I.tuple hb;have e0:its=[]:=r1.nil_iff.mpr rfl;subst e0;obtain⟨⟨c,dd,data,sl⟩,ho,hc,n,hd⟩:=id p1;obtain⟨⟨c2,dd2,data2,sl2⟩,ho2,hc2,n2,hd2⟩:=id p2;simp only at hc hd hc2 hd2;subst hc hd hc2 hd2;exact concat_meets ⟨_,ho,rfl⟩ ⟨_,ho2,rfl⟩ noFill_tuple_add seq_tuple_add PySem.F.slot_tuple_add PySem.F.entry_tuple_add (PySem.F.args_tuple_add_2 _ _) (tuple_addW0 a b _ its2.toArray n n2 dd dd2 sl sl2 rfl) ⟨ho,ho2,.ref b,H,I,rfl,q0 rfl⟩
 ·exact Es pins s σ H (.ref a) (.ref b) v u Q I rx ry ⟨a,b,xs,ys,rfl,rfl,ha,hb,hx,hz,q1 hx,q2 hx⟩
theorem aJ.rep{K:PySem.W.Frag}{H:Hp}{ds:List D}{vs:List V}(h:aJ K H ds vs):∀ n:Nat,aJ K H (List.replicate n ds).flatten (List.replicate n vs).flatten
 | 0=>by simp[aJ]
 | n+1=>by
  simp only[List.replicate_succ,List.flatten_cons];exact h.append (h.rep n)
def Kq(i j:Int):Prop:=Ql i j\/(i.natAbs.log2<10000/\j.natAbs.log2<10000)
theorem BK{i:Int}(h:mid i=true):i.natAbs.log2<10000:=by unfold mid at h;simpa using h
theorem rG{i:Int}(h:i.natAbs.log2<10000):Builtin.Int.intBits i<=2^20:=by
 unfold Builtin.Int.intBits
 split<;>omega
theorem Eo:OpR X (binaryOp .Mult) (rI Kq fun i j=>.int (i*j)):=opI fun _ _ _ _ _ _ _ hc q=>mul_int q (hc.elim (fun z=>z.ok) fun z=>.of_bits (rG z.1) (rG z.2))
def Qm(i j:Int):Prop:=j≠0/\j.natAbs.log2<9000
theorem yX:OpR X (binaryOp .FloorDiv) (rI Qm fun i j=>.int (i.fdiv j)):=opI fun _ _ _ _ _ _ _ hc q=>floordiv_int hc.1 q (.inl (PyProof.noPylong_of_log2 hc.2))
theorem Aa{a b:Expr}{op:Operator}{x y d:D}{pos:Pos}(ha:Ev X ρ a x)(hb:Ev X ρ b y)(h:binop op x y=some d):Ev X ρ (.BinOp a op b pos) d:=by
 unfold binop at h;split at h
 ·cases h
  exact dW ha hb (iD Js ak ak) fun u v H Hs Q hs r1 r2 hq=>⟨_,_,aA r1,aA r2,hq _ H Hs (.refl hs) (by simp[Rep])⟩
 ·split at h
  ·rename_i hz
   cases h;refine dW ha hb (iD Et ak ak) fun u v H Hs Q hs r1 r2 hq=>?_;obtain⟨p,us,rfl,h1,h2⟩:=bw r1;obtain⟨q,ws,rfl,h3,h4⟩:=bw r2;have l1:=h2.length;have l2:=h4.length
   have nil:∀ (l:List D),l.length=0->l=[]:=fun l hl=>by cases l<;>simp at hl ⊢
   refine⟨p,q,us,ws,rfl,rfl,hs.tup h1,hs.tup h3,by have:=eE hz;omega,fun e=>?_,fun _ e=>?_,fun _ _ l hl=>jm hs (h2.append h4) hl hq⟩
   ·subst e
    have e2:=nil _ l1;subst e2;exact hq _ H Hs (.refl hs) r2
   ·subst e
    have e2:=nil _ l2;subst e2;refine hq _ H Hs (.refl hs) ?_;rw[List.append_nil];exact r1
  ·cases h
 ·split at h
  ·rename_i hz
   cases h;refine dW ha hb (iD vo ak ak) fun u v H Hs Q hs r1 r2 hq=>?_;obtain⟨p,us,rfl,h1,h2⟩:=aU r1;obtain⟨q,ws,rfl,h3,h4⟩:=aU r2;have l1:=h2.length;have l2:=h4.length;exact⟨p,q,us,ws,rfl,rfl,hs.seq h1,hs.seq h3,by have:=eE hz;omega,fun l hl=>dG hs (h2.append h4) hl hq⟩
  ·cases h
 ·cases h
  exact dW ha hb (iD Jo ak ak) fun u v H Hs Q hs r1 r2 hq=>⟨_,_,aA r1,aA r2,hq _ H Hs (.refl hs) (by simp[Rep])⟩
 ·split at h
  ·rename_i hz
   cases h;rw[Bool.or_eq_true,Bool.or_eq_true,Bool.and_eq_true] at hz;have hz':Kq _ _:=hz.elim (fun z=>z.elim (fun z=>.inl (.inl (qw z))) (fun z=>.inl (.inr (qw z)))) (fun z=>.inr ⟨BK z.1,BK z.2⟩);exact dW ha hb (iD Eo ak ak) fun u v H Hs Q hs r1 r2 hq=>⟨_,_,aA r1,aA r2,hz',hq _ H Hs (.refl hs) (by simp[Rep])⟩
  ·cases h
 ·split at h
  ·rename_i hz
   cases h;rw[Bool.and_eq_true,Bool.and_eq_true,decide_eq_true_eq,decide_eq_true_eq] at hz;refine dW ha hb (iD vm ak ak) fun u v H Hs Q hs r1 r2 hq=>?_;obtain⟨p,us,rfl,h1,h2⟩:=aU r1;have l1:=h2.length;exact⟨p,_,us,rfl,aA r2,hs.seq h1,by omega,by omega,by have:=eE hz.2;rw[<- l1];exact this,fun l hl=>dG hs (h2.rep _) hl hq⟩
  ·cases h
 ·simp at h
 ·split at h
  ·rename_i hz
   cases h;rw[Bool.and_eq_true,decide_eq_true_eq,decide_eq_true_eq] at hz;exact dW ha hb (iD Er ak ak) fun u v H Hs Q hs r1 r2 hq=>⟨_,_,aA r1,aA r2,hz,hq _ H Hs (.refl hs) (by simp[Rep])⟩
  ·split at h
   ·rename_i hz
    cases h;rw[Bool.and_eq_true,decide_eq_true_eq,decide_eq_true_eq] at hz;exact dW ha hb (iD yX ak ak) fun u v H Hs Q hs r1 r2 hq=>⟨_,_,aA r1,aA r2,hz,hq _ H Hs (.refl hs) (by simp[Rep])⟩
   ·cases h
 ·split at h
  ·rename_i hz
   cases h;rw[decide_eq_true_eq] at hz;exact dW ha hb (iD Jp ak ak) fun u v H Hs Q hs r1 r2 hq=>⟨_,_,aA r1,aA r2,hz,hq _ H Hs (.refl hs) (by simp[Rep])⟩
  ·split at h
   ·rename_i hz
    cases h;rw[decide_eq_true_eq] at hz;exact dW ha hb (iD Ep ak ak) fun u v H Hs Q hs r1 r2 hq=>⟨_,_,aA r1,aA r2,hz,hq _ H Hs (.refl hs) (by simp[Rep])⟩
   ·cases h
 ·cases h
end
end L2
namespace L2
open PySem PySem.Spec PyProof.Rows DE PySem.SeqAt
section
variable {X:Cx} {ρ:Rho} {cx:Cxt} {k:Nat} {sc:Scope}
theorem aj{e:Expr}{es:List Expr}{env:Env}(h:aD e=true):starEach (e::es) env=(false,eval e env)::starEach es env:=by
 cases e<;>first | rfl | (simp[aD] at h)
theorem iK{e:Expr}(h:aD e=true):xU e:=by
 intro o i
 cases e<;>first | rfl | (simp[aD] at h)
theorem cW{e:Expr}{env:Env}(h:aD e=true)(x:Value):foldedSetIterable e env x=pure x:=by
 cases e<;>first | rfl | (simp[aD] at h)
theorem gD{e:Expr}{op:CmpOp}(h:aD e=true):behindInMarks op e=false:=by
 cases e<;>first | rfl | (simp[aD] at h)
theorem eG{env:Env}{pos:Pos}:∀ {es:List Expr},(∀ e∈es,aD e=true)->(backTo pos (starEach es env)).any (·.1)=false
 | [],_=>rfl
 | e::es,h=>by
  rw[aj (h e List.mem_cons_self)];have ih:=eG (env:=env) (pos:=pos) fun e' he=>h e' (List.mem_cons_of_mem _ he);show((false:Bool)||(backTo pos (starEach es env)).any (·.1))=false;rw[ih];rfl
theorem aM:∀ {n:Nat} {ρ:Rho} {e:Expr} {d:D},ev cx n sc ρ e=some d->aD e=true
 | 0,_,_,_,h=>by simp[ev] at h
 | n+1,ρ,e,d,h=>by
  cases e<;>first | rfl | (exact nomatch (show(Option.none:Option D)=some d from h))
def CN(X:Cx)(e:Expr):TT:=fun σ H Q=>∀ whole pins s,Inv X pins σ H s->wpAny (model X.prog X.w) X.A (isTrue e X.env whole) (TP X pins σ Q) X.xe s
def EvW(X:Cx)(ρ:Rho)(e:Expr)(b:Bool):Prop:=∀ σ H Hs Q,Same Hs H->cC X.K Hs ρ σ->(∀ H' Hs',Ext Hs H Hs' H'->Q b H')->CN X e σ H Q
theorem qD{e:Expr}:PW X e (CN X e):=fun whole pins s σ H Q I h=>h whole pins s I
theorem PW.sem{e:Expr}{t:TT}{σ:St}{H:Hp}{Q:Bool->Hp->Prop}(h:PW X e t)(q:t σ H Q):CN X e σ H Q:=fun whole pins s I=>h whole pins s σ H Q I q
theorem EvW.t{e:Expr}{b:Bool}(h:EvW X ρ e b):EvT X ρ e b:=fun σ H Hs Q hs hr hq pins s I=>h σ H Hs Q hs hr hq _ pins s I
theorem Gx{e:Expr}{b:Bool}(h:Ev X ρ e (.bl b))(he:∀ whole,isTrue e X.env whole=(do let v <- whole;standAt e.pos;holding [v] (truthy v))):EvT X ρ e b:=fun σ H Hs Q hs hr hq =>
 (Bl ak he).sem (h σ H Hs _ hs hr fun v H' Hs' E1 r1=>⟨b,cH r1,hq H' Hs' E1⟩)
theorem J6{a:Expr}{b:Bool}{pos:Pos}(h:Ev X ρ a (.bl b)):Ev X ρ (.UnaryOp .Not a pos) (.bl (!b)):=fun σ H Hs Q hs hr hq =>
 (Jk ak).sem (h σ H Hs _ hs hr fun v H' Hs' E1 r1=>⟨b,cH r1,hq _ H' Hs' E1 (by simp[Rep])⟩)
theorem Gy{a:Expr}{b:Bool}{pos:Pos}(h:EvT X ρ a b):EvT X ρ (.UnaryOp .Not a pos) (!b):=fun σ H Hs Q hs hr hq =>
 (Bm dO).sem (h σ H Hs _ hs hr fun H' Hs' E1=>hq H' Hs' E1)
theorem J7{a:Expr}{i:Int}{pos:Pos}(h:Ev X ρ a (.int i)):Ev X ρ (.UnaryOp .USub a pos) (.int (-i)):=fun σ H Hs Q hs hr hq =>
 (Mf Hy ak).sem (h σ H Hs _ hs hr fun v H' Hs' E1 r1=>⟨i,aA r1,hq _ H' Hs' E1 (by simp[Rep])⟩)
theorem nR{op:BoolOp}{f:Expr->Option D}{pos:Pos}:∀ {es:List Expr} {d:D},(∀ e∈es,∀ d,f e=some d->Ev X ρ e d/\∀ b,d=.bl b->EvT X ρ e b)->bV op f es=some d ->
  Ev X ρ (.BoolOp op es pos) d/\∀ b,d=.bl b->EvW X ρ (.BoolOp op es pos) b
 | [],d,_,h=>by simp[bV] at h
 | [e],d,hf,h=>by
  obtain⟨h1,h2⟩:=hf e (by simp) d (by simpa[bV] using h);refine⟨fun σ H Hs Q hs hr hq=>(Jj ak).sem (h1 σ H Hs Q hs hr hq),fun b hb σ H Hs Q hs hr hq=>?_⟩
  cases op with
  | And=>exact(Dy dO).sem (h2 b hb σ H Hs Q hs hr hq)
  | Or=>exact(IW dO).sem (h2 b hb σ H Hs Q hs hr hq)
 | e::e'::r,d,hf,h=>by
  simp only[bV] at h
  cases he:f e with
  | none=>rw[he] at h;simp at h
  | some x =>
   rw[he] at h
   cases x with
   | bl c =>
    obtain⟨h1,h2⟩:=hf e (by simp) _ he;have h2':=h2 c rfl;simp only[asB,Option.bind_some,Option.bind_eq_bind,bind,Option.bind] at h;have ih:=fun d' (q:bV op f (e'::r)=some d')=>nR (pos:=pos) (es:=e'::r) (fun a ha=>hf a (List.mem_cons_of_mem _ ha)) q
    cases op with
    | And =>
     cases c with
     | true =>
      simp only[if_true] at h;obtain⟨i1,i2⟩:=ih d h;refine⟨fun σ H Hs Q hs hr hq=>(Bs ak ak).sem (h1 σ H Hs _ hs hr fun v H' Hs' E1 r1=>⟨true,cH r1,tV (i1 σ H' Hs' Q E1.sub (hr.same E1.vis) fun w H2 Hs2 E2 r2=>hq w H2 Hs2 (E1.trans E2) r2)⟩),fun b hb σ H Hs Q hs hr hq=>?_⟩;exact(Bk dO qD).sem (h2' σ H Hs _ hs hr fun H' Hs' E1=>tV (i2 b hb σ H' Hs' Q E1.sub (hr.same E1.vis) fun H2 Hs2 E2=>hq H2 Hs2 (E1.trans E2)))
     | false =>
      simp only[Bool.false_eq_true,if_false,Option.some.injEq] at h;subst h;refine⟨fun σ H Hs Q hs hr hq=>(Bs ak ak).sem (h1 σ H Hs _ hs hr fun v H' Hs' E1 r1=>⟨false,cH r1,vW (hq _ H' Hs' E1 (by simp[Rep]))⟩),fun b hb σ H Hs Q hs hr hq=>?_⟩;cases hb;exact(Bk dO qD).sem (h2' σ H Hs _ hs hr fun H' Hs' E1=>vW (hq H' Hs' E1))
    | Or =>
     cases c with
     | true =>
      simp only[if_true,Option.some.injEq] at h;subst h;refine⟨fun σ H Hs Q hs hr hq=>(Ji ak ak).sem (h1 σ H Hs _ hs hr fun v H' Hs' E1 r1=>⟨true,cH r1,tV (hq _ H' Hs' E1 (by simp[Rep]))⟩),fun b hb σ H Hs Q hs hr hq=>?_⟩;cases hb;exact(Ja dO qD).sem (h2' σ H Hs _ hs hr fun H' Hs' E1=>tV (hq H' Hs' E1))
     | false =>
      simp only[Bool.false_eq_true,if_false] at h;obtain⟨i1,i2⟩:=ih d h;refine⟨fun σ H Hs Q hs hr hq=>(Ji ak ak).sem (h1 σ H Hs _ hs hr fun v H' Hs' E1 r1=>⟨false,cH r1,vW (i1 σ H' Hs' Q E1.sub (hr.same E1.vis) fun w H2 Hs2 E2 r2=>hq w H2 Hs2 (E1.trans E2) r2)⟩),fun b hb σ H Hs Q hs hr hq=>?_⟩;exact(Ja dO qD).sem (h2' σ H Hs _ hs hr fun H' Hs' E1=>vW (i2 b hb σ H' Hs' Q E1.sub (hr.same E1.vis) fun H2 Hs2 E2=>hq H2 Hs2 (E1.trans E2)))
   | _=>simp[asB] at h
def LK(X:Cx)(op:CmpOp):R2:=fun u v H Q=>∃ Hs x y d,Same Hs H/\Rep X.K Hs x u/\Rep X.K Hs y v/\cmpop op x y=some d/\∃ b,d=.bl b/\Q (.bl b) H
theorem kZ{K:PySem.W.Frag}{H:Hp}{v:V}(h:Rep K H .non v):v=.non:=by simpa[Rep] using h
theorem qO{K:PySem.W.Frag}{H:Hp}{x:D}{v:V}(h:Rep K H x v):FW x=decide (v=V.non):=by
  cases x with
  | non=>rw[kZ h];rfl
  | bl b=>rw[cH h];rfl
  | int b=>rw[aA h];rfl
  | str b => have e : v = .str b := by simpa [Rep] using h
             rw[e];rfl
  | tup b=>obtain⟨a,vs,e,_⟩:=bw h;rw[e];rfl
  | lst b=>obtain⟨a,vs,e,_⟩:=aU h;rw[e];rfl
  | exc c=>simp only[Rep] at h;obtain⟨a,C,e,_⟩:=h;rw[e];rfl
  | dic k x=>simp only[Rep] at h;obtain⟨a,C,e,_⟩:=h;rw[e];rfl
theorem cB{K:PySem.W.Frag}{H:Hp}:∀ {ds:List D} {ns:List Int} {vs:List V},fU ds=some ns->aJ K H ds vs->vs=ns.map V.int
 | [],ns,vs,h,r=>by
  simp only[fU,Option.some.injEq] at h;subst h
  simpa[aJ] using r
 | .int i::ds,ns,vs,h,r=>by
  simp only[fU,Option.map_eq_some_iff] at h;obtain⟨ms,h1,rfl⟩:=h;simp only[aJ] at r;obtain⟨v,r',rfl,h2,h3⟩:=r;rw[aA h2,cB h1 h3];rfl
 | .non::ds,ns,vs,h,r=>by simp[fU] at h
 | .bl _::ds,ns,vs,h,r=>by simp[fU] at h
 | .str _::ds,ns,vs,h,r=>by simp[fU] at h
 | .tup _::ds,ns,vs,h,r=>by simp[fU] at h
 | .lst _::ds,ns,vs,h,r=>by simp[fU] at h
 | .exc _::ds,ns,vs,h,r=>by simp[fU] at h
 | .dic _ _::ds,ns,vs,h,r=>by simp[fU] at h
theorem any_ints(i:Int):∀ {ns:List Int} {us:List Value},Vals (ns.map V.int) us->us.any (fun y=>match y with | .int j _=>j==i | _=>false)=ns.any (· ==i)
 | [],us,r=>by rw[List.map_nil] at r;cases r;rfl
 | n::ns,us,r=>by
  rw[List.map_cons] at r
  cases r with
  | cons r1 r2 =>
   obtain⟨t,e⟩:=(show ∃ t,_=Value.int n t from r1);subst e;simp only[List.any_cons,any_ints i r2]
theorem lK:∀ {ns:List Int} {us:List Value},Vals (ns.map V.int) us->∀ y∈us,∃ j t,y=Value.int j t
 | [],us,r,y,hy=>by rw[List.map_nil] at r;cases r;simp at hy
 | n::ns,us,r,y,hy=>by
  rw[List.map_cons] at r
  cases r with
  | cons r1 r2 =>
   obtain⟨t,e⟩:=(show ∃ t,_=Value.int n t from r1);subst e;rcases List.mem_cons.mp hy with rfl | hy
   ·exact⟨n,t,rfl⟩
   ·exact lK r2 y hy
theorem Ga{pins:List (Addr×Obj)}{σ:St}{H:Hp}{s:Shared}{i:Int}{ys:List D}{ns:List Int}{u v:V}{w z:Value}(I:Inv X pins σ H s)(A:Around)(hu:u=.int i)(hv:Rep X.K H (.tup ys) v)(hn:fU ys=some ns)(ru:RelV u w)(rv:RelV v z) :
  (∀ (Q:Value->Shared->Prop) (E:Value->Shared->Prop),Q (.bool (ns.any (· ==i))) s->wpAny (model X.prog X.w) A (compareOp .In w z) Q E s)/\(∀ (Q:Value->Shared->Prop) (E:Value->Shared->Prop),Q (.bool (!ns.any (· ==i))) s->wpAny (model X.prog X.w) A (compareOp .NotIn w z) Q E s):=by
 subst hu;obtain⟨t,e⟩:=(show ∃ t,w=Value.int i t from ru);subst e;obtain⟨a,vs,rfl,h1,h2⟩:=bw hv;cases (show z=Value.ref a from rv);have e:=cB hn h2;subst e;obtain⟨its,r,p⟩:=isT I h1
 have he:∀ y,y∈its.toArray->EqAt A.in1 s y (.int i t) (match y with | .int j _=>j==i | _=>false):=fun y hy=>by
  obtain⟨j,t',rfl⟩:=lK r y (by simpa using hy);exact fun P w Q E q=>wpAny_eqBool_int q
 have ea:its.toArray.any (fun y=>match y with | .int j _=>j==i | _=>false)=ns.any (· ==i):=by
  rw[List.any_toArray];exact any_ints i r
 refine⟨fun Q E q=>in_tupleAt _ p he (by rw[ea];exact q),fun Q E q=>notIn_tupleAt _ p he (by rw[ea];exact q)⟩
theorem mJ{K:PySem.W.Frag}{H:Hp}:∀ {ds:List D} {ns:List Str} {vs:List V},oU ds=some ns->aJ K H ds vs->vs=ns.map V.str
 | [],ns,vs,h,r=>by
  simp only[oU,Option.some.injEq] at h;subst h
  simpa[aJ] using r
 | .str i::ds,ns,vs,h,r=>by
  simp only[oU] at h;obtain⟨ms,h1,rfl⟩:=Option.map_eq_some_iff.mp h;simp only[aJ] at r;obtain⟨v,rr,rfl,h2,h3⟩:=r
  have e:v=.str i:=by simpa[Rep] using h2
  rw[mJ h1 h3,e];rfl
 | .non::ds,ns,vs,h,r=>by simp[oU] at h
 | .bl _::ds,ns,vs,h,r=>by simp[oU] at h
 | .int _::ds,ns,vs,h,r=>by simp[oU] at h
 | .tup _::ds,ns,vs,h,r=>by simp[oU] at h
 | .lst _::ds,ns,vs,h,r=>by simp[oU] at h
 | .exc _::ds,ns,vs,h,r=>by simp[oU] at h
 | .dic _ _::ds,ns,vs,h,r=>by simp[oU] at h
def eS(x:D):Value->Bool
 | .str t _=>deq (.str t) x
 | _=>false
theorem rH(x:D):∀ {ns:List Str} {us:List Value},Vals (ns.map V.str) us->us.any (eS x)=ns.any fun t=>deq (.str t) x
 | [],us,r=>by rw[List.map_nil] at r;cases r;rfl
 | n::ns,us,r=>by
  rw[List.map_cons] at r
  cases r with
  | cons r1 r2 =>
   obtain⟨t,e⟩:=(show ∃ t,_=Value.str n t from r1);subst e;simp only[List.any_cons,rH x r2,eS]
theorem qL:∀ {ns:List Str} {us:List Value},Vals (ns.map V.str) us->∀ y∈us,∃ j t,y=Value.str j t
 | [],us,r,y,hy=>by rw[List.map_nil] at r;cases r;simp at hy
 | n::ns,us,r,y,hy=>by
  rw[List.map_cons] at r
  cases r with
  | cons r1 r2 =>
   obtain⟨t,e⟩:=(show ∃ t,_=Value.str n t from r1);subst e;rcases List.mem_cons.mp hy with rfl | hy
   ·exact⟨n,t,rfl⟩
   ·exact qL r2 y hy
theorem FZ{pins:List (Addr×Obj)}{σ:St}{H:Hp}{s:Shared}{x:D}{ys:List D}{ns:List Str}{u v:V}{w z:Value}(I:Inv X pins σ H s)(A:Around)(hA:A.units+2<cLine)(hx:Rep X.K H x u)(hd:dep x<=50)(hv:Rep X.K H (.tup ys) v)(hn:oU ys=some ns)(ru:RelV u w)(rv:RelV v z) :
  (∀ (Q:Value->Shared->Prop) (E:Value->Shared->Prop),Q (.bool (ns.any fun t=>deq (.str t) x)) s->wpAny (model X.prog X.w) A (compareOp .In w z) Q E s)/\(∀ (Q:Value->Shared->Prop) (E:Value->Shared->Prop),Q (.bool (!ns.any fun t=>deq (.str t) x)) s->wpAny (model X.prog X.w) A (compareOp .NotIn w z) Q E s):=by
 obtain⟨a,vs,rfl,h1,h2⟩:=bw hv;cases (show z=Value.ref a from rv);have e:=mJ hn h2;subst e;obtain⟨its,r,p⟩:=isT I h1
 have he:∀ y,y∈its.toArray->EqAt A.in1 s y w (eS x y):=fun y hy=>by
  obtain⟨j,t',rfl⟩:=qL r y (by simpa using hy);exact wD I (.str j) x (.str j) u (.str j t') w A.in1 (by simp[Rep]) hx ⟨t',rfl⟩ ru (by rw[iI];simp only[dep];omega) (by simp[dep]) (by omega)
 have ea:its.toArray.any (eS x)=ns.any fun t=>deq (.str t) x:=by
  rw[List.any_toArray];exact rH x r
 refine⟨fun Q E q=>in_tupleAt _ p he (by rw[ea];exact q),fun Q E q=>notIn_tupleAt _ p he (by rw[ea];exact q)⟩
theorem J1{x:D}{ys:List D}{b:Bool}(h:inT x ys=some b):(∃ i ns,x=.int i/\fU ys=some ns/\b=ns.any (· ==i))\/∃ ss,oU ys=some ss/\dep x<=50/\b=ss.any fun t=>deq (.str t) x:=by
 have hS:∀ {b},inS x ys=some b->∃ ss,oU ys=some ss/\dep x<=50/\b=ss.any fun t=>deq (.str t) x:=fun {b} h=>by
  unfold inS at h;obtain⟨ss,h1,h2⟩:=Option.bind_eq_some_iff.mp h;split at h2
  ·rename_i hd
   cases h2;exact⟨ss,h1,by simpa using hd,rfl⟩
  ·cases h2
 unfold inT at h;split at h
 ·rename_i i ns e1 e2
  cases x<;>simp[asI] at e1
  cases h;subst e1;exact .inl ⟨_,ns,rfl,e2,rfl⟩
 ·exact .inr (hS h)
theorem BP{pins:List (Addr×Obj)}{σ:St}{H:Hp}{s:Shared}{x:D}{ys:List D}{b:Bool}{u v:V}{w z:Value}(I:Inv X pins σ H s)(A:Around)(hA:A.units+2<cLine)(hx:Rep X.K H x u)(hv:Rep X.K H (.tup ys) v)(h:inT x ys=some b)(ru:RelV u w)(rv:RelV v z) :
  (∀ (Q:Value->Shared->Prop) (E:Value->Shared->Prop),Q (.bool b) s->wpAny (model X.prog X.w) A (compareOp .In w z) Q E s)/\(∀ (Q:Value->Shared->Prop) (E:Value->Shared->Prop),Q (.bool (!b)) s->wpAny (model X.prog X.w) A (compareOp .NotIn w z) Q E s):=by
 rcases J1 h with⟨i,ns,rfl,e1,rfl⟩ | ⟨ss,e1,e2,rfl⟩
 ·exact Ga I A (aA hx) hv e1 ru rv
 ·exact FZ I A hA hx e2 hv e1 ru rv
theorem pH{pins:List (Addr×Obj)}{σ:St}{H:Hp}{s:Shared}{i:Int}{ys:List D}{ns:List Int}{u v:V}{w z:Value}(I:Inv X pins σ H s)(A:Around)(hu:u=.int i)(hv:Rep X.K H (.lst ys) v)(hn:fU ys=some ns)(ru:RelV u w)(rv:RelV v z) :
  ∀ (Q:Value->Shared->Prop) (E:Value->Shared->Prop),Q (.bool (!ns.any (· ==i))) s->wpAny (model X.prog X.w) A (compareOp .NotIn w z) Q E s:=by
 subst hu;obtain⟨t,e⟩:=(show ∃ t,w=Value.int i t from ru);subst e;obtain⟨a,vs,rfl,h1,h2⟩:=aU hv;cases (show z=Value.ref a from rv);have e:=cB hn h2;subst e;obtain⟨its,r,p,_⟩:=I.list h1
 have he:∀ y,y∈its.toArray->EqAt A.in1 s y (.int i t) (match y with | .int j _=>j==i | _=>false):=fun y hy=>by
  obtain⟨j,t',rfl⟩:=lK r y (by simpa using hy);exact fun P w Q E q=>wpAny_eqBool_int q
 have ea:its.toArray.any (fun y=>match y with | .int j _=>j==i | _=>false)=ns.any (· ==i):=by
  rw[List.any_toArray];exact any_ints i r
 exact fun Q E q=>notIn_listAt _ p.isList he (by rw[ea];exact q)
theorem Jr:OpR X (compareOp .Is) (fun x y H Q=>∃ a b,x=.bl a/\y=.bl b/\Q (.bl (a==b)) H):=by
 intro pins s σ H x y v u Q I rx ry h;obtain⟨a,b,rfl,rfl,q⟩:=h;cases (show v=Value.bool a from rx);cases (show u=Value.bool b from ry)
 cases a<;>cases b<;>exact wpAny_pure ⟨.bl _,H,I,rfl,q⟩
theorem En:OpR X (compareOp .IsNot) (fun x y H Q=>∃ a b,x=.bl a/\y=.bl b/\Q (.bl (!(a==b))) H):=by
 intro pins s σ H x y v u Q I rx ry h;obtain⟨a,b,rfl,rfl,q⟩:=h;cases (show v=Value.bool a from rx);cases (show u=Value.bool b from ry)
 cases a<;>cases b<;>exact wpAny_pure ⟨.bl _,H,I,rfl,q⟩
theorem jT(hr:Room k X.A)(op:CmpOp):OpR X (compareOp op) (LK X op):=by
 intro pins s σ H u v w z Q I ru rv h;obtain⟨Hs,x,y,d,hs,rx,ry,hc,b,rfl,q⟩:=h;have rx':=Rep.same hs x u rx;have ry':=Rep.same hs y v ry;unfold cmpop at hc;split at hc
 ·split at hc
  ·rename_i hd
   rw[Bool.and_eq_true,decide_eq_true_eq,decide_eq_true_eq] at hd;cases hc;exact(rB I X.A rx' ry' ru rv (by have:=hr.un;omega) (by omega) (by omega)).1 _ _ _ _ ⟨.bl _,H,I,rfl,q⟩
  ·cases hc
 ·split at hc
  ·rename_i hd
   rw[Bool.and_eq_true,decide_eq_true_eq,decide_eq_true_eq] at hd;cases hc;exact(rB I X.A rx' ry' ru rv (by have:=hr.un;omega) (by omega) (by omega)).2 _ _ _ _ ⟨.bl _,H,I,rfl,q⟩
  ·cases hc
 ·cases hc;exact Mi pins s σ H u v w z Q I ru rv ⟨_,_,aA rx,aA ry,q⟩
 ·cases hc;exact Mj pins s σ H u v w z Q I ru rv ⟨_,_,aA rx,aA ry,q⟩
 ·cases hc;exact Ml pins s σ H u v w z Q I ru rv ⟨_,_,aA rx,aA ry,q⟩
 ·cases hc;exact Mp pins s σ H u v w z Q I ru rv ⟨_,_,aA rx,aA ry,q⟩
 ·cases hc;rw[qO rx] at q;exact Jq pins s σ H u v w z Q I ru rv ⟨kZ ry,q⟩
 ·cases hc;rw[qO rx] at q;exact Em pins s σ H u v w z Q I ru rv ⟨kZ ry,q⟩
 ·cases hc;exact Jr pins s σ H u v w z Q I ru rv ⟨_,_,cH rx,cH ry,q⟩
 ·cases hc;exact En pins s σ H u v w z Q I ru rv ⟨_,_,cH rx,cH ry,q⟩
 ·obtain⟨ns,hn,he⟩:=Option.map_eq_some_iff.mp hc
  cases he;exact(BP I X.A (by have:=hr.un;omega) rx' ry' hn ru rv).1 _ _ ⟨.bl _,H,I,rfl,q⟩
 ·obtain⟨ns,hn,he⟩:=Option.map_eq_some_iff.mp hc
  cases he;exact(BP I X.A (by have:=hr.un;omega) rx' ry' hn ru rv).2 _ _ ⟨.bl _,H,I,rfl,q⟩
 ·obtain⟨ns,hn,he⟩:=Option.map_eq_some_iff.mp hc
  cases he;exact pH I X.A (aA rx') ry' hn ru rv _ _ ⟨.bl _,H,I,rfl,q⟩
 ·cases hc
theorem Ci{op:CmpOp}{x y d:D}(h:cmpop op x y=some d):∃ b,d=.bl b:=by
 unfold cmpop at h
 split at h<;>first | (cases h;exact⟨_,rfl⟩) | (obtain⟨_,_,rfl⟩:=Option.map_eq_some_iff.mp h;exact⟨_,rfl⟩) | (split at h<;>first | (cases h;exact⟨_,rfl⟩) | cases h) | cases h
theorem Gv{a b:Expr}{op:CmpOp}{x y d:D}{pos:Pos}(hr:Room k X.A)(ha:Ev X ρ a x)(hb:Ev X ρ b y)(hm:aD b=true)(h:cmpop op x y=some d):Ev X ρ (.Compare a [op] [b] pos) d/\∀ c,d=.bl c->EvT X ρ (.Compare a [op] [b] pos) c:=by
 obtain⟨c,rfl⟩:=Ci h;refine⟨dW ha hb (Eh (jT hr op) ak ak (gD hm)) fun u v H Hs Q hs r1 r2 hq=>⟨Hs,x,y,_,hs,r1,r2,h,c,rfl,hq _ H Hs (.refl hs) (by simp[Rep])⟩,fun c' hc' σ H Hs Q hs hst hq=>?_⟩;cases hc';refine(Dz (jT hr op) ak ak (gD hm)).sem (ha σ H Hs _ hs hst fun u H1 Hs1 E1 r1=>hb σ H1 Hs1 _ E1.sub (hst.same E1.vis) fun v H2 Hs2 E2 r2=>?_);exact⟨Hs2,x,y,_,E2.sub,Rep.same E2.vis x u r1,r2,h,c,rfl,c,rfl,hq H2 Hs2 (E1.trans E2)⟩
theorem vM{op op':CmpOp}{b c:Expr}(h:aD c=true):lastMarks [op,op'] [b,c]=false:=gD h
theorem wA{a b e:Expr}{op op':CmpOp}{x y d:D}{c:Bool}{pos:Pos}(hr:Room k X.A)(ha:Ev X ρ a x)(hb:Ev X ρ b y)(hm:aD e=true)(h:cmpop op x y=some (.bl c))(hd:(c=true->∃ z,Ev X ρ e z/\cmpop op' y z=some d)/\(c=false->d=.bl false)) :
  Ev X ρ (.Compare a [op,op'] [b,e] pos) d/\∀ c,d=.bl c->EvT X ρ (.Compare a [op,op'] [b,e] pos) c:=by
 have core:∀ σ H Hs Q,Same Hs H->cC X.K Hs ρ σ->(∀ v H' Hs',Ext Hs H Hs' H'->Rep X.K Hs' d v->Q v H')->uz (LK X op) (LK X op') (oN X a) (oN X b) (oN X e) σ H Q:=by
  intro σ H Hs Q hs hst hq;refine ha σ H Hs _ hs hst fun u H1 Hs1 E1 r1=>hb σ H1 Hs1 _ E1.sub (hst.same E1.vis) fun v H2 Hs2 E2 r2=>?_;refine⟨Hs2,x,y,_,E2.sub,Rep.same E2.vis x u r1,r2,h,c,rfl,c,rfl,?_⟩
  cases c with
  | false=>rw[hd.2 rfl] at hq;exact vW (hq _ H2 Hs2 (E1.trans E2) (by simp[Rep]))
  | true =>
   obtain⟨z,hz,hc⟩:=hd.1 rfl;obtain⟨c',rfl⟩:=Ci hc;refine tV (hz σ H2 Hs2 _ E2.sub ((hst.same E1.vis).same E2.vis) fun w H3 Hs3 E3 r3=>?_);exact⟨Hs3,y,z,_,E3.sub,Rep.same E3.vis y v r2,r3,hc,c',rfl,hq _ H3 Hs3 (E1.trans (E2.trans E3)) (by simp[Rep])⟩
 refine⟨fun σ H Hs Q hs hst hq=>(yV (jT hr op) (jT hr op') ak ak ak (vM hm)).sem (core σ H Hs Q hs hst hq),fun c' hc' σ H Hs Q hs hst hq=>?_⟩;subst hc';exact(yM (jT hr op) (jT hr op') ak ak ak (vM hm)).sem (core σ H Hs _ hs hst fun v H' Hs' E1 r1=>⟨c',cH r1,hq H' Hs' E1⟩)
theorem J9{c a b:Expr}{t:Bool}{d:D}{pos:Pos}(hc:EvT X ρ c t)(ha:t=true->Ev X ρ a d)(hb:t=false->Ev X ρ b d):Ev X ρ (.IfExp c a b pos) d:=fun σ H Hs Q hs hst hq =>
 (lB dO ak ak).sem (hc σ H Hs _ hs hst fun H1 Hs1 E1=>by
  cases t with
  | true=>exact tV (ha rfl σ H1 Hs1 Q E1.sub (hst.same E1.vis) fun v H' Hs' E2 r=>hq v H' Hs' (E1.trans E2) r)
  | false=>exact vW (hb rfl σ H1 Hs1 Q E1.sub (hst.same E1.vis) fun v H' Hs' E2 r=>hq v H' Hs' (E1.trans E2) r))
theorem Ca{c a b:Expr}{t r:Bool}{pos:Pos}(hc:EvT X ρ c t)(ha:t=true->EvT X ρ a r)(hb:t=false->EvT X ρ b r):EvT X ρ (.IfExp c a b pos) r:=by
 intro σ H Hs Q hs hst hq pins s I;refine isTrue_IfExp (thn (hc σ H Hs (fun b' H'=>b'=t/\∃ Hs',Ext Hs H Hs' H') hs hst (fun H1 Hs1 E1=>⟨rfl,Hs1,E1⟩) pins s I) fun b' s2 ⟨H2,I2,e2,Hs2,E2⟩=>?_);subst e2
 cases b' with
 | true=>exact tV (ha rfl σ H2 Hs2 Q E2.sub (hst.same E2.vis) (fun H' Hs' E3=>hq H' Hs' (E2.trans E3)) pins s2 I2)
 | false=>exact vW (hb rfl σ H2 Hs2 Q E2.sub (hst.same E2.vis) (fun H' Hs' E3=>hq H' Hs' (E2.trans E3)) pins s2 I2)
theorem eU{f:Expr->Option D}:∀ {es:List Expr} {ds:List D},(∀ e∈es,∀ d,f e=some d->Ev X ρ e d/\aD e=true)->jO f es=some ds->EvA X ρ es ds/\(∀ e∈es,aD e=true)
 | [],ds,_,h=>by
  simp only[jO,Option.some.injEq] at h;subst h;exact⟨fun σ H Hs Q hs hst hq=>bO.sem (hq [] H Hs (.refl hs) .nil),fun e he=>absurd he (by simp)⟩
 | e::es,ds,hf,h=>by
  simp only[jO,bind,Option.bind] at h
  cases he:f e with
  | none=>rw[he] at h;cases h
  | some d =>
   rw[he] at h;simp only at h
   cases hr:jO f es with
   | none=>rw[hr] at h;cases h
   | some dr =>
    rw[hr] at h;simp only[Option.some.injEq] at h;subst h;obtain⟨h1,hp⟩:=hf e (by simp) d he;obtain⟨h2,hps⟩:=eU (fun a ha=>hf a (List.mem_cons_of_mem _ ha)) hr;refine⟨fun σ H Hs Q hs hst hq=>(aV ak gY (aj hp)).sem (h1 σ H Hs _ hs hst fun v H1 Hs1 E1 r1=>h2 σ H1 Hs1 _ E1.sub (hst.same E1.vis) fun vs H2 Hs2 E2 r2=>?_),fun a ha=>?_⟩
    ·exact hq _ H2 Hs2 (E1.trans E2) (.cons (Rep.same E2.vis d v r1) r2)
    ·rcases List.mem_cons.mp ha with rfl | ha
     ·exact hp
     ·exact hps a ha
theorem zX{es:List Expr}{ds:List D}{j:Nat}{pos:Pos}(h:EvA X ρ es ds)(hz:szl ds.length=true):Ev X ρ (.Tuple es j pos) (.tup ds):=fun σ H Hs Q hs hst hq =>
 (Jh gY).sem (h σ H Hs _ hs hst fun vs H1 Hs1 E1 r1=>⟨by rw[<- r1.length];exact eE hz,fun p hp=>jm E1.sub r1 hp fun w H' Hs' E2 r2=>hq w H' Hs' (E1.trans E2) r2⟩)
theorem Gn{es:List Expr}{ds:List D}{pos:Pos}(h:EvA X ρ es ds)(hz:szl ds.length=true):Ev X ρ (.List es pos) (.lst ds):=fun σ H Hs Q hs hst hq =>
 (Br gY).sem (h σ H Hs _ hs hst fun vs H1 Hs1 E1 r1=>⟨by rw[<- r1.length];exact eE hz,fun p hp=>dG E1.sub r1 hp fun w H' Hs' E2 r2=>hq w H' Hs' (E1.trans E2) r2⟩)
theorem nJ(n:Nat)(i:Int):ixD n i=ixN n i:=rfl
theorem xO{K:PySem.W.Frag}{H:Hp}{ds:List D}{vs:List V}{i:Int}{d:D}(h:aJ K H ds vs)(e:atD ds i=some d):∃ v,atI vs i=some v/\Rep K H d v:=by
 unfold atD at e;rw[nJ,h.length] at e
 cases q:ixN vs.length i with
 | none=>rw[q] at e;cases e
 | some j =>
  rw[q] at e;obtain⟨v,h1,h2⟩:=h.get (i:=j) (d:=d) e;exact⟨v,by unfold atI;rw[q];exact h1,h2⟩
theorem Dt{K:PySem.W.Frag}{H:Hp}{ks:List (Sum Int Str)}{ds:List D}{v:V}(h:Rep K H (.dic ks ds) v):∃ (a:Addr) (kvs:List (Key×V)),v=.ref a/\DAt K H a kvs/\kvs.map (·.1)=ks/\aJ K H ds (kvs.map (·.2)):=by simpa[Rep] using h
theorem uf{K:PySem.W.Frag}{H:Hp}{k:Key}{d:D}:∀ {kvs:List (Key×V)} {ds:List D},aJ K H ds (kvs.map (·.2))->Hf (kvs.map (·.1)) ds k=some d->∃ v,xW kvs k=some v/\Rep K H d v
 | [],ds,r,h=>by simp[Hf] at h
 | (k',v')::kvs,ds,r,h=>by
  cases ds with
  | nil=>simp[Hf] at h
  | cons d' ds =>
   simp only[List.map_cons,aJ] at r;obtain⟨v,rr,e,h2,h3⟩:=r;cases e;unfold Hf at h;simp only[List.map_cons,List.zip_cons_cons,List.find?_cons] at h;unfold xW;rw[List.find?_cons]
   by_cases q:k'=k
   ·simp only[q,decide_true] at h ⊢
    simp only[Option.map_some,Option.some.injEq] at h ⊢;subst h;exact⟨v',rfl,h2⟩
   ·simp only[q,decide_false] at h ⊢
    exact uf h3 h
theorem FQ{K:PySem.W.Frag}{H:Hp}{d:D}{v:V}{k:Key}(h:KR d=some k)(r:Rep K H d v):v=kV k:=by
 cases d<;>simp[KR] at h
 ·subst h;exact aA r
 ·subst h
  rename_i x
  have e:v=.str x:=by simpa[Rep] using r
  exact e
theorem Gs{a b:Expr}{ks:List (Sum Int Str)}{ds:List D}{y d:D}{k':Key}{pos:Pos}(kw:KnW X.K X.w)(ha:Ev X ρ a (.dic ks ds))(hb:Ev X ρ b y)(hp:aD b=true)(hk:KR y=some k')(hd:Hf ks ds k'=some d):Ev X ρ (.Subscript a b pos) d:=by
 intro σ H Hs Q hs hst hq;refine PE.sem (Ed kw ak ak fun ov iv=>iK hp ov iv) (ha σ H Hs _ hs hst fun v H1 Hs1 E1 r1=>hb σ H1 Hs1 _ E1.sub (hst.same E1.vis) fun u H2 Hs2 E2 r2=>?_);have rdE:∀ {H1 H2:Hp} {a:Addr} {u:List (Key×V)},Same H1 H2->DAt X.K H1 a u->DAt X.K H2 a u:=fun e r=>r.elim (fun r=>.inl (r.elim (fun q=>.inl (e _ _ q)) fun⟨o,q⟩=>.inr ⟨o,e _ _ q⟩)) .inr;obtain⟨p,kvs,rfl,h1,rfl,h3⟩:=Dt (Rep.same E2.vis _ v r1);obtain⟨w,h4,h5⟩:=uf h3 hd;exact⟨p,w,kvs,k',rfl,rdE E2.sub h1,FQ hk r2,h4.symm,hq w H2 Hs2 (E1.trans E2) h5⟩
theorem rm{a b:Expr}{x d:D}{i:Int}{xs:List D}{pos:Pos}(ha:Ev X ρ a x)(hb:Ev X ρ b (.int i))(hp:aD b=true)(hx:items x=some xs)(hd:atD xs i=some d):Ev X ρ (.Subscript a b pos) d:=by
 cases x with
 | tup ys =>
  simp only[items,Option.some.injEq] at hx;subst hx;refine dW ha hb (Ef JV ak ak (iK hp)) fun u v H Hs Q hs r1 r2 hq=>?_;obtain⟨p,vs,rfl,h1,h2⟩:=bw r1;obtain⟨w,h3,h4⟩:=xO h2 hd;exact⟨p,vs,i,w,rfl,aA r2,hs.tup h1,h3,hq w H Hs (.refl hs) h4⟩
 | lst ys =>
  simp only[items,Option.some.injEq] at hx;subst hx;refine dW ha hb (Ef vU ak ak (iK hp)) fun u v H Hs Q hs r1 r2 hq=>?_;obtain⟨p,vs,rfl,h1,h2⟩:=aU r1;obtain⟨w,h3,h4⟩:=xO h2 hd;exact⟨p,vs,i,w,rfl,aA r2,hs.seq h1,h3,hq w H Hs (.refl hs) h4⟩
 | _=>simp[items] at hx
theorem gB(n d:Nat)(o:Option Int):kY n d o=HT.sIx n d o:=by cases o<;>rfl
theorem wN{K:PySem.W.Frag}{H:Hp}{ds:List D}{vs:List V}(lo hi:Option Int)(h:aJ K H ds vs):aJ K H (oR ds lo hi) (Ce vs lo hi):=by
 unfold oR Ce;rw[gB,gB,h.length];exact(h.drop _).take _
def EvO(X:Cx)(ρ:Rho)(e:Option Expr)(o:Option Int):Prop:=∃ t:TO,PO X e t/\∀ σ H Hs Q,Same Hs H->cC X.K Hs ρ σ->(∀ H' Hs',Ext Hs H Hs' H'->Q o H')->t σ H Q
theorem Ad:EvO X ρ none none:=⟨_,DQ,fun σ H Hs Q hs hst hq=>hq H Hs (.refl hs)⟩
theorem Ac{e:Expr}{i:Int}(h:Ev X ρ e (.int i)):EvO X ρ (some e) (some i):=⟨_,DP ak,fun σ H Hs Q hs hst hq=>h σ H Hs _ hs hst fun v H' Hs' E1 r1=>⟨i,aA r1,hq H' Hs' E1⟩⟩
theorem zZ{a:Expr}{lo hi:Option Expr}{l u:Option Int}{xs:List D}{p2 pos:Pos}(ha:Ev X ρ a (.tup xs))(hl:EvO X ρ lo l)(hu:EvO X ρ hi u)(hw:¬ (kY xs.length 0 l=0/\kY xs.length xs.length u=xs.length)) :
  Ev X ρ (.Subscript a (.Slice lo hi none p2) pos) (.tup (oR xs l u)):=by
 obtain⟨tl,pl,ql⟩:=hl;obtain⟨tu,pu,qu⟩:=hu;intro σ H Hs Q hs hst hq;refine(lA Ie ak pl pu).sem (ha σ H Hs _ hs hst fun v H1 Hs1 E1 r1=>ql σ H1 Hs1 _ E1.sub (hst.same E1.vis) fun H2 Hs2 E2=>qu σ H2 Hs2 _ E2.sub ((hst.same E1.vis).same E2.vis) fun H3 Hs3 E3=>?_);obtain⟨p,vs,rfl,h1,h2⟩:=bw (Rep.same (E2.trans E3).vis _ _ r1);refine⟨p,vs,rfl,E3.sub.tup h1,?_,fun q hq'=>jm E3.sub (wN l u h2) hq' fun w H' Hs' E4 r4=>hq w H' Hs' (E1.trans (E2.trans (E3.trans E4))) r4⟩;rw[gB,gB,h2.length] at hw;exact hw
theorem wu{a:Expr}{lo hi:Option Expr}{l u:Option Int}{xs:List D}{p2 pos:Pos}(ha:Ev X ρ a (.tup xs))(hl:EvO X ρ lo l)(hu:EvO X ρ hi u)(hw:kY xs.length 0 l=0/\kY xs.length xs.length u=xs.length) :
  Ev X ρ (.Subscript a (.Slice lo hi none p2) pos) (.tup xs):=by
 obtain⟨tl,pl,ql⟩:=hl;obtain⟨tu,pu,qu⟩:=hu;intro σ H Hs Q hs hst hq;refine(lA Dg ak pl pu).sem (ha σ H Hs _ hs hst fun v H1 Hs1 E1 r1=>ql σ H1 Hs1 _ E1.sub (hst.same E1.vis) fun H2 Hs2 E2=>qu σ H2 Hs2 _ E2.sub ((hst.same E1.vis).same E2.vis) fun H3 Hs3 E3=>?_);have r3:=Rep.same (E2.trans E3).vis _ _ r1;obtain⟨p,vs,rfl,h1,h2⟩:=bw r3;refine⟨p,vs,rfl,E3.sub.tup h1,?_,hq _ H3 Hs3 (E1.trans (E2.trans E3)) r3⟩;rw[gB,gB,h2.length] at hw;exact hw
theorem Ds{x d:D}{lo hi:Option Expr}{oi:Option Int}(h:Kz x lo hi oi=some d):lo=none/\hi=none/\oi=some (-1)/\∃ us,(x=.lst us/\d=.lst us.reverse)\/(x=.tup us/\d=.tup us.reverse):=by
 unfold Kz at h;split at h
 ·split at h
  ·rename_i i q
   cases h
   have e:i=(-1:Int):=by simpa using q
   subst e;exact⟨rfl,rfl,rfl,_,.inl ⟨rfl,rfl⟩⟩
  ·cases h
 ·split at h
  ·rename_i i q
   cases h
   have e:i=(-1:Int):=by simpa using q
   subst e;exact⟨rfl,rfl,rfl,_,.inr ⟨rfl,rfl⟩⟩
  ·cases h
 ·cases h
theorem aJ.rev{K:PySem.W.Frag}{H:Hp}:∀ {ds:List D} {vs:List V},aJ K H ds vs->aJ K H ds.reverse vs.reverse
 | [],vs,h=>by
  have:vs=[]:=by simpa[aJ] using h
  subst this;simpa[aJ] using h
 | d::ds,vs,h=>by
  simp only[aJ] at h;obtain⟨w,r,rfl,h1,h2⟩:=h;rw[List.reverse_cons,List.reverse_cons];exact(aJ.rev h2).append (.cons h1 .nil)
theorem Gk{a c:Expr}{us:List D}{p2 pos:Pos}(ha:Ev X ρ a (.lst us))(hc:Ev X ρ c (.int (-1))):Ev X ρ (.Subscript a (.Slice none none (some c) p2) pos) (.lst us.reverse):=by
 intro σ H Hs Q hs hst hq;refine(Ec ak ak).sem (ha σ H Hs _ hs hst fun u H1 Hs1 E1 r1=>hc σ H1 Hs1 _ E1.sub (hst.same E1.vis) fun v H2 Hs2 E2 r2=>?_);obtain⟨p,ws,rfl,g1,g2⟩:=aU (Rep.same E2.vis _ _ r1);exact⟨p,ws,rfl,aA r2,E2.sub.seq g1,fun q hq'=>dG E2.sub g2.rev hq' fun w H' Hs' E r=>hq w H' Hs' ((E1.trans E2).trans E) r⟩
theorem Gj{a c:Expr}{us:List D}{p2 pos:Pos}(ha:Ev X ρ a (.tup us))(hc:Ev X ρ c (.int (-1))):Ev X ρ (.Subscript a (.Slice none none (some c) p2) pos) (.tup us.reverse):=by
 intro σ H Hs Q hs hst hq;refine(Eb ak ak).sem (ha σ H Hs _ hs hst fun u H1 Hs1 E1 r1=>hc σ H1 Hs1 _ E1.sub (hst.same E1.vis) fun v H2 Hs2 E2 r2=>?_);obtain⟨p,ws,rfl,g1,g2⟩:=bw (Rep.same E2.vis _ _ r1);exact⟨p,ws,rfl,aA r2,E2.sub.tup g1,fun q hq'=>jm E2.sub g2.rev hq' fun w H' Hs' E r=>hq w H' Hs' ((E1.trans E2).trans E) r⟩
theorem wz{a:Expr}{lo hi:Option Expr}{l u:Option Int}{xs:List D}{p2 pos:Pos}(ha:Ev X ρ a (.lst xs))(hl:EvO X ρ lo l)(hu:EvO X ρ hi u) :
  Ev X ρ (.Subscript a (.Slice lo hi none p2) pos) (.lst (oR xs l u)):=by
 obtain⟨tl,pl,ql⟩:=hl;obtain⟨tu,pu,qu⟩:=hu;intro σ H Hs Q hs hst hq;refine(lA Dh ak pl pu).sem (ha σ H Hs _ hs hst fun v H1 Hs1 E1 r1=>ql σ H1 Hs1 _ E1.sub (hst.same E1.vis) fun H2 Hs2 E2=>qu σ H2 Hs2 _ E2.sub ((hst.same E1.vis).same E2.vis) fun H3 Hs3 E3=>?_);obtain⟨p,vs,rfl,h1,h2⟩:=aU (Rep.same (E2.trans E3).vis _ _ r1);exact⟨p,vs,rfl,E3.sub.seq h1,fun q hq'=>dG E3.sub (wN l u h2) hq' fun w H' Hs' E4 r4=>hq w H' Hs' (E1.trans (E2.trans (E3.trans E4))) r4⟩
theorem Gw{f:Str}{es:List Expr}{ds:List D}{d:D}{p pos:Pos}(G:Good cx k X sc)(hg:Gl X f)(hf:cx.fns.contains f=true)(hne:es≠[])(h:EvA X ρ es ds)(hp:∀ e∈es,aD e=true)(hc:cx.call f ds=some d) :
  Ev X ρ (.Call (.Name f p) es [] pos) d:=by
 obtain⟨hdb,a,fd,ps,har,_,hm,hk,hb,F⟩:=G.fns f hf
 cases es with
 | nil=>exact absurd rfl hne
 | cons e es =>
  intro σ H Hs Q hs hst hq;refine(Ei F G.room hg hm hk hb .nil Mh gY hdb (aj (hp e (by simp))) (eG fun e' he=>hp e' (List.mem_cons_of_mem _ he))).sem (h σ H Hs _ hs hst fun vs H1 Hs1 E1 r1=>?_);refine⟨?_,Hs1,ds,E1.sub,?_,.inl ⟨d,hc,fun v H' Hs' E2 r2=>hq v H' Hs' (E1.trans E2) r2⟩⟩
  ·rw[List.append_nil,<- r1.length,har ds d hc]
  ·rw[List.append_nil];exact r1
def KC(X:Cx)(f:Value):List V->Hp->VK->Prop:=fun vs H Q=>∀ pins s σ us,Inv X pins σ H s->Vals vs us->wpAny (model X.prog X.w) X.A (call f us) (EP X pins σ Q) X.xe s
theorem rD{f:Value}:bH X f (KC X f):=fun pins s σ H xs us Q I r h=>h pins s σ us I r
theorem bH.sem{f:Value}{r:List V->Hp->VK->Prop}{vs:List V}{H:Hp}{Q:VK}(h:bH X f r)(q:r vs H Q):KC X f vs H Q:=fun pins s σ us I rv=>h pins s σ H vs us Q I rv q
def EvC(X:Cx)(f:Value)(ds:List D)(d:D):Prop:=∀ vs H Hs Q,Same Hs H->aJ X.K Hs ds vs->(∀ v H' Hs',Ext Hs H Hs' H'->Rep X.K Hs' d v->Q v H')->KC X f vs H Q
theorem fL{K:PySem.W.Frag}{H:Hp}{d:D}{vs:List V}(h:aJ K H [d] vs):∃ v,vs=[v]/\Rep K H d v:=by
 simp only[aJ] at h;obtain⟨v,r,rfl,h1,h2⟩:=h;subst h2;exact⟨v,rfl,h1⟩
theorem Du{K:PySem.W.Frag}{H:Hp}{d e:D}{vs:List V}(h:aJ K H [d,e] vs):∃ v w,vs=[v,w]/\Rep K H d v/\Rep K H e w:=by
 simp only[aJ] at h;obtain⟨v,r,rfl,h1,w,r2,rfl,h2,h3⟩:=h;subst h3;exact⟨v,w,rfl,h1,h2⟩
theorem jd{K:PySem.W.Frag}{H:Hp}{d:D}{l:List D}{v:V}(h:Rep K H d v)(e:items d=some l):∃ a vs,v=.ref a/\(SqL K H a vs\/SqT K H a vs)/\aJ K H l vs:=by
 cases d with
 | tup xs=>simp only[items,Option.some.injEq] at e;subst e;obtain⟨a,vs,e1,e2,e3⟩:=bw h;exact⟨a,vs,e1,.inr e2,e3⟩
 | lst xs=>simp only[items,Option.some.injEq] at e;subst e;obtain⟨a,vs,e1,e2,e3⟩:=aU h;exact⟨a,vs,e1,.inl e2,e3⟩
 | _=>simp[items] at e
theorem gA{K:PySem.W.Frag}{H:Hp}:∀ {ds:List D} {bs:List Bool} {vs:List V},oK ds=some bs->aJ K H ds vs->vs=bs.map V.bl
 | [],ns,vs,h,r=>by
  simp only[oK,Option.some.injEq] at h;subst h
  simpa[aJ] using r
 | .bl i::ds,ns,vs,h,r=>by
  simp only[oK,Option.map_eq_some_iff] at h;obtain⟨ms,h1,rfl⟩:=h;simp only[aJ] at r;obtain⟨v,r',rfl,h2,h3⟩:=r;rw[cH h2,gA h1 h3];rfl
 | .non::ds,ns,vs,h,r=>by simp[oK] at h
 | .int _::ds,ns,vs,h,r=>by simp[oK] at h
 | .str _::ds,ns,vs,h,r=>by simp[oK] at h
 | .tup _::ds,ns,vs,h,r=>by simp[oK] at h
 | .lst _::ds,ns,vs,h,r=>by simp[oK] at h
 | .exc _::ds,ns,vs,h,r=>by simp[oK] at h
 | .dic _ _::ds,ns,vs,h,r=>by simp[oK] at h
theorem fQ:∀ {bs:List Bool} {us:List Value},Vals (bs.map V.bl) us->LSm.BoolsAre us bs
 | [],us,r=>by rw[List.map_nil] at r;cases r;exact .nil
 | b::bs,us,r=>by
  rw[List.map_cons] at r
  cases r with
  | cons r1 r2 =>
   cases (show _=Value.bool b from r1);exact .cons b (fQ r2)
theorem wW(hc:X.calm=true):bH X (.builtin "sum") (fun xs H Q=>∃ (p:Addr) (ns:List Int),xs=[.ref p]/\SqL X.K H p (ns.map V.int)/\Q (.int ns.sum) H):=by
 intro pins s σ H xs us Q I r h;obtain⟨p,ns,rfl,hq,q⟩:=h;obtain⟨u,rfl,rx⟩:=vals1 r;cases (show u=Value.ref p from rx);obtain⟨its,r',pl,hz⟩:=I.list hq;have hi:=intsAre_of r';obtain⟨zs,hx⟩:=hi.allInts.items;have hl':s.heap.IsList p (intItems zs):=hx▸pl.isList;refine sum_intListG (I.ok.hd hc) hl' fun h' tk t' hk=>⟨.int ns.sum,H,I.kept hk,⟨t',?_⟩,q⟩
 have e1:ns=zs.toList.map (·.1):=by
  rw[<- nums_intItems,<- hx];exact(show numsOf its.toArray.toList=ns from hi.numsOf).symm
 rw[preSum_eq,List.take_of_length_le (by simp),e1]
theorem xG(hc:X.calm=true):bH X (.builtin "all") (fun xs H Q=>∃ (p:Addr) (bs:List Bool),xs=[.ref p]/\SqL X.K H p (bs.map V.bl)/\Q (.bl (bs.all id)) H):=by
 intro pins s σ H xs us Q I r h;obtain⟨p,bs,rfl,hq,q⟩:=h;obtain⟨u,rfl,rx⟩:=vals1 r;cases (show u=Value.ref p from rx);obtain⟨its,r',pl,hz⟩:=I.list hq;have hb:=fQ r';have hl:=pl.isList
 have hlt:p<s.heap.objs.size:=by obtain⟨_,e,_⟩:=hl;exact Heap.lt_size e
 refine call_all_walk (wpAny_pyIter_list hl ⟨s.heap.objs.size,[s.heap.objs.size,p],[s.heap.objs.size],its.toArray.size,_,_,fun i=>(bs[i]?).getD true,rfl,Walks.list (A:=X.A.in1) (I.ok.hd hc) _ p (Nat.ne_of_lt hlt) its.toArray,⟨⟨_,Heap.get?_push_size _ rfl,rfl,rfl⟩,hl.push _⟩,fun i v s' Q' E' hP hQ=>?_,fun h' tk hk=>?_⟩)
 ·obtain⟨b,e,rfl⟩:=hb.get i v (by simpa using hP)
  simp only[e,Option.getD_some] at hQ;exact wpAny_truthy_bool hQ
 ·have e:((List.range its.toArray.size).all fun i=>(bs[i]?).getD true)=bs.all id:=by rw[List.size_toArray,hb.length];exact LSm.range_all bs
  rw[e];exact⟨.bl _,H,I.kept (LSm.kept_iter hk),rfl,q⟩
theorem rZ(bs:List Bool):((List.range bs.length).any fun i=>(bs[i]?).getD false)=bs.any id:=by
 rw[Bool.eq_iff_iff,List.any_eq_true,List.any_eq_true];constructor
 ·rintro⟨i,hi,h⟩
  have hi':=List.mem_range.mp hi;rw[List.getElem?_eq_getElem hi'] at h;exact⟨_,List.getElem_mem hi',h⟩
 ·rintro⟨b,hb,h⟩
  obtain⟨i,hi,rfl⟩:=List.mem_iff_getElem.mp hb;exact⟨i,List.mem_range.mpr hi,by rw[List.getElem?_eq_getElem hi];exact h⟩
theorem xu(hc:X.calm=true):bH X (.builtin "any") (fun xs H Q=>∃ (p:Addr) (bs:List Bool),xs=[.ref p]/\SqL X.K H p (bs.map V.bl)/\Q (.bl (bs.any id)) H):=by
 intro pins s σ H xs us Q I r h;obtain⟨p,bs,rfl,hq,q⟩:=h;obtain⟨u,rfl,rx⟩:=vals1 r;cases (show u=Value.ref p from rx);obtain⟨its,r',pl,hz⟩:=I.list hq;have hb:=fQ r';have hl:=pl.isList
 have hlt:p<s.heap.objs.size:=by obtain⟨_,e,_⟩:=hl;exact Heap.lt_size e
 refine call_any_walk (wpAny_pyIter_list hl ⟨s.heap.objs.size,[s.heap.objs.size,p],[s.heap.objs.size],its.toArray.size,_,_,fun i=>(bs[i]?).getD false,rfl,Walks.list (A:=X.A.in1) (I.ok.hd hc) _ p (Nat.ne_of_lt hlt) its.toArray,⟨⟨_,Heap.get?_push_size _ rfl,rfl,rfl⟩,hl.push _⟩,fun i v s' Q' E' hP hQ=>?_,fun h' tk hk=>?_⟩)
 ·obtain⟨b,e,rfl⟩:=hb.get i v (by simpa using hP)
  simp only[e,Option.getD_some] at hQ;exact wpAny_truthy_bool hQ
 ·have e:((List.range its.toArray.size).any fun i=>(bs[i]?).getD false)=bs.any id:=by rw[List.size_toArray,hb.length];exact rZ bs
  rw[e];exact⟨.bl _,H,I.kept (LSm.kept_iter hk),rfl,q⟩
theorem wV(hc:X.calm=true):bH X (.builtin "sum") (fun xs H Q=>∃ (p:Addr) (ns:List Int),xs=[.ref p]/\SqT X.K H p (ns.map V.int)/\Q (.int ns.sum) H):=by
 intro pins s σ H xs us Q I r h;obtain⟨p,ns,rfl,hq,q⟩:=h;obtain⟨u,rfl,rx⟩:=vals1 r;cases (show u=Value.ref p from rx);obtain⟨its,r',pl,hz⟩:=I.tuple hq;have hi:=intsAre_of r';obtain⟨zs,hx⟩:=hi.allInts.items;have hl':s.heap.IsTuple p (intItems zs):=hx▸pl;have lt:p<s.heap.objs.size:=pl.lt;refine call_sum_walkG (wpAny_pyIter_tuple hl' ⟨_,_,_,_,_,_,numAt zs,rfl,Walks.tuple (A:=X.A.in1) (I.ok.hd hc) _ p (Nat.ne_of_lt lt) (intItems zs),⟨⟨_,Heap.get?_push_size _ rfl,rfl,rfl⟩,by obtain⟨o,e,rr⟩:=hl';exact⟨o,Heap.get?_push_of_some _ e,rr⟩⟩,?_,(fun _ _=>intItems_at),fun h' tk t' hk=>?_⟩)
 ·intro b hb
  show b<(s.heap.push _).objs.size;rw[Heap.size_push];simp at hb;rcases hb with rfl | rfl
  ·exact Nat.lt_succ_self _
  ·exact Nat.lt_succ_of_lt lt
 ·have kp:∀ b o,s.heap.get? b=some o->h'.get? b=some o:=fun b o e=>hk b o (by simp;exact Nat.ne_of_lt (Heap.lt_size e)) (Heap.get?_push_of_some _ e)
  refine⟨.int ns.sum,H,I.kept kp,⟨t',?_⟩,q⟩
  have e1:ns=zs.toList.map (·.1):=by
   rw[<- nums_intItems,<- hx];exact(show numsOf its.toArray.toList=ns from hi.numsOf).symm
  have e2:(intItems zs).size=zs.size:=by simp[intItems]
  rw[e2,preSum_eq,List.take_of_length_le (by simp),e1]
theorem Gh{d0:D}{l:List D}(hl:items d0=some l):EvC X (.type "tuple") [d0] (.tup l):=by
 intro vs H Hs Q hs hr hq;obtain⟨v,rfl,r1⟩:=fL hr;refine bH.sem mG ?_
 cases d0 with
 | tup xs =>
  simp only[items,Option.some.injEq] at hl;subst hl
  obtain⟨a,us,rfl,h1,h2⟩:=bw r1;exact⟨a,us,rfl,.inr ⟨hs.tup h1,hq _ H Hs (.refl hs) r1⟩⟩
 | lst xs =>
  simp only[items,Option.some.injEq] at hl;subst hl
  obtain⟨a,us,rfl,h1,h2⟩:=aU r1;exact⟨a,us,rfl,.inl ⟨hs.seq h1,fun p hp=>jm hs h2 hp hq⟩⟩
 | _=>simp[items] at hl
theorem Cp:∀ {l:List Int},Kh l=true->l.Pairwise (· <= ·)
 | [],_=>.nil
 | [x],_=>by simp
 | x::y::r,h=>by
  simp only[Kh,Bool.and_eq_true,decide_eq_true_eq] at h;have ih:=Cp h.2;refine .cons (fun z hz=>?_) ih;rcases List.mem_cons.mp hz with rfl | hz
  ·exact h.1
  ·exact Int.le_trans h.1 (List.rel_of_pairwise_cons ih hz)
theorem pW:bH X (.builtin "sorted") (fun xs H Q=>∃ (p:Addr) (ns:List Int),xs=[.ref p]/\SqL X.K H p (ns.map V.int)/\Kh ns=true/\ns.length<64/\∀ l,H l=none->Q (.ref l) (upd H l (.lst (ns.map V.int)))):=by
 intro pins s σ H xs us Q I r h;obtain⟨p,ns,rfl,hq,ha,hn,q⟩:=h;obtain⟨u,rfl,rx⟩:=vals1 r;cases (show u=Value.ref p from rx);obtain⟨its,r',pl,hz⟩:=I.list hq;have hi:=intsAre_of r';have hl:=r'.length;rw[List.length_map] at hl;refine sorted_ints pl.isList hi (by omega) fun out ns' h1 h2 h3=>?_;have e:=PySem.W.lks_uniq h2 h3 (Cp ha);subst e;obtain⟨c,hc⟩:=sortedAll_at s.heap its out;exact⟨.ref (s.heap.objs.size+1),_,I.laid (t':=s.toks) (fun _ _=>sortedAll_old) (Nat.le_succ _) (show cV X.prog X.w _ _ _ (.lst (ns'.map V.int)) from⟨hz,out.toList,c,iV h1,hc⟩),rfl,q _ (I.hok.fresh (Nat.le_succ _))⟩
def RJ:String->Value
 | "tuple"=>.type "tuple"
 | "list"=>.type "list"
 | "int"=>.type "int"
 | b=>.builtin b
theorem vC:∀ (n:Nat) (xs:List Int) (x:Int) (r:List Int),xs=x::r->r.length=n->xs.getD (argBest (fun i j=>decide (xs.getD i 0>xs.getD j 0)) n) 0=mxL r x:=by
 have key:∀ (n:Nat) (x:Int) (r q:List Int),n=r.length->(x::r++q).getD (argBest (fun i j=>decide ((x::r++q).getD i 0>(x::r++q).getD j 0)) n) 0=mxL r x:=by
  intro n
  induction n with
  | zero =>
   intro x r q h;have:r=[]:=List.length_eq_zero_iff.mp h.symm;subst this;rfl
  | succ n ih =>
   intro x r q h;obtain⟨r',y,rfl⟩:∃ r' y,r=r'++[y]:=⟨r.dropLast,r.getLast (by intro e;rw[e] at h;simp at h),(List.dropLast_concat_getLast _).symm⟩
   have hl:n=r'.length:=by simp at h;omega
   have e:=ih x r' (y::q) hl
   have e0:x::(r'++[y])++q=x::r'++y::q:=by simp
   rw[e0]
   have ml:∀ (r':List Int) (x:Int),mxL (r'++[y]) x=if y>mxL r' x then y else mxL r' x:=by
    intro r'
    induction r' with
    | nil=>intro x;rfl
    | cons a r' ih2=>intro x;exact ih2 _
   have gy:(x::r'++y::q).getD (n+1) 0=y:=by
    rw[List.getD_eq_getElem?_getD,List.cons_append,List.getElem?_cons_succ,List.getElem?_append_right (by omega),hl,Nat.sub_self];rfl
   rw[ml,argBest];simp only[gy,e,decide_eq_true_eq]
   by_cases c:y>mxL r' x
   ·simp only[c,if_true,gy]
   ·simp only[c,if_false,e]
 intro n xs x r h1 h2;subst h1;have:=key n x r [] h2.symm;simpa using this
theorem xg(hc:X.calm=true):bH X (.builtin "max") (fun xs H Q=>∃ (p:Addr) (x:Int) (r:List Int),xs=[.ref p]/\SqL X.K H p ((x::r).map V.int)/\Q (.int (mxL r x)) H):=by
 intro pins s σ H xs us Q I r h;obtain⟨p,x,ns,rfl,hq,q⟩:=h;obtain⟨u,rfl,rx⟩:=vals1 r;cases (show u=Value.ref p from rx);obtain⟨its,r',pl,hz⟩:=I.list hq;have hi:=intsAre_of r';obtain⟨zs,hx⟩:=hi.allInts.items;have hl':s.heap.IsList p (intItems zs):=hx▸pl.isList
 have e1:x::ns=zs.toList.map (·.1):=by
  rw[<- nums_intItems,<- hx];exact(show numsOf its.toArray.toList=x::ns from hi.numsOf).symm
 have n1:zs.size=ns.length+1:=by simpa using(congrArg List.length e1).symm
 have at1:∀ m,numAt zs m=(x::ns).getD m 0:=fun m=>by
  unfold numAt;rw[e1,List.getD_eq_getElem?_getD,List.getElem?_map,Array.getElem?_toList]
 refine max_intList (I.ok.hd hc) hl' (by omega) fun v h' tk hv kp=>⟨.int _,H,I.kept kp,?_,q⟩;obtain⟨t,rfl⟩:=intItems_at hv;refine⟨t,?_⟩;congr 1;rw[n1,at1];simp only[at1,Nat.add_one_sub_one];exact vC ns.length (x::ns) x ns rfl rfl
theorem vH:∀ (n:Nat) (xs:List Int) (x:Int) (r:List Int),xs=x::r->r.length=n->xs.getD (argBest (fun i j=>decide (xs.getD i 0<xs.getD j 0)) n) 0=mnL r x:=by
 have key:∀ (n:Nat) (x:Int) (r q:List Int),n=r.length->(x::r++q).getD (argBest (fun i j=>decide ((x::r++q).getD i 0<(x::r++q).getD j 0)) n) 0=mnL r x:=by
  intro n
  induction n with
  | zero =>
   intro x r q h;have:r=[]:=List.length_eq_zero_iff.mp h.symm;subst this;rfl
  | succ n ih =>
   intro x r q h;obtain⟨r',y,rfl⟩:∃ r' y,r=r'++[y]:=⟨r.dropLast,r.getLast (by intro e;rw[e] at h;simp at h),(List.dropLast_concat_getLast _).symm⟩
   have hl:n=r'.length:=by simp at h;omega
   have e:=ih x r' (y::q) hl
   have e0:x::(r'++[y])++q=x::r'++y::q:=by simp
   rw[e0]
   have ml:∀ (r':List Int) (x:Int),mnL (r'++[y]) x=if y<mnL r' x then y else mnL r' x:=by
    intro r'
    induction r' with
    | nil=>intro x;rfl
    | cons a r' ih2=>intro x;exact ih2 _
   have gy:(x::r'++y::q).getD (n+1) 0=y:=by
    rw[List.getD_eq_getElem?_getD,List.cons_append,List.getElem?_cons_succ,List.getElem?_append_right (by omega),hl,Nat.sub_self];rfl
   rw[ml,argBest];simp only[gy,e,decide_eq_true_eq]
   by_cases c:y<mnL r' x
   ·simp only[c,if_true,gy]
   ·simp only[c,if_false,e]
 intro n xs x r h1 h2;subst h1;have:=key n x r [] h2.symm;simpa using this
theorem wY(hc:X.calm=true):bH X (.builtin "min") (fun xs H Q=>∃ (p:Addr) (x:Int) (r:List Int),xs=[.ref p]/\SqL X.K H p ((x::r).map V.int)/\Q (.int (mnL r x)) H):=by
 intro pins s σ H xs us Q I r h;obtain⟨p,x,ns,rfl,hq,q⟩:=h;obtain⟨u,rfl,rx⟩:=vals1 r;cases (show u=Value.ref p from rx);obtain⟨its,r',pl,hz⟩:=I.list hq;have hi:=intsAre_of r';obtain⟨zs,hx⟩:=hi.allInts.items;have hl':s.heap.IsList p (intItems zs):=hx▸pl.isList
 have e1:x::ns=zs.toList.map (·.1):=by
  rw[<- nums_intItems,<- hx];exact(show numsOf its.toArray.toList=x::ns from hi.numsOf).symm
 have n1:zs.size=ns.length+1:=by simpa using(congrArg List.length e1).symm
 have at1:∀ m,numAt zs m=(x::ns).getD m 0:=fun m=>by
  unfold numAt;rw[e1,List.getD_eq_getElem?_getD,List.getElem?_map,Array.getElem?_toList]
 refine min_intList (I.ok.hd hc) hl' (by omega) fun v h' tk hv kp=>⟨.int _,H,I.kept kp,?_,q⟩;obtain⟨t,rfl⟩:=intItems_at hv;refine⟨t,?_⟩;congr 1;rw[n1,at1];simp only[at1,Nat.add_one_sub_one];exact vH ns.length (x::ns) x ns rfl rfl
theorem wX(hc:X.calm=true):bH X (.builtin "min") (fun xs H Q=>∃ (p:Addr) (x:Int) (r:List Int),xs=[.ref p]/\SqT X.K H p ((x::r).map V.int)/\Q (.int (mnL r x)) H):=by
 intro pins s σ H xs us Q I r h;obtain⟨p,x,ns,rfl,hq,q⟩:=h;obtain⟨u,rfl,rx⟩:=vals1 r;cases (show u=Value.ref p from rx);obtain⟨its,r',pl,hz⟩:=I.tuple hq;have hi:=intsAre_of r';obtain⟨zs,hx⟩:=hi.allInts.items;have hl':s.heap.IsTuple p (intItems zs):=hx▸pl;have lt:p<s.heap.objs.size:=pl.lt
 have e1:x::ns=zs.toList.map (·.1):=by
  rw[<- nums_intItems,<- hx];exact(show numsOf its.toArray.toList=x::ns from hi.numsOf).symm
 have n1:zs.size=ns.length+1:=by simpa using(congrArg List.length e1).symm
 have at1:∀ m,numAt zs m=(x::ns).getD m 0:=fun m=>by
  unfold numAt;rw[e1,List.getD_eq_getElem?_getD,List.getElem?_map,Array.getElem?_toList]
 refine call_min_walk (wpAny_pyIter_tuple hl' ⟨_,_,_,_,_,_,_,rfl,Walks.tuple (A:=X.A.in1) (I.ok.hd hc) _ p (Nat.ne_of_lt lt) (intItems zs),⟨⟨_,Heap.get?_push_size _ rfl,rfl,rfl⟩,by obtain⟨o,e,rr⟩:=hl';exact⟨o,Heap.get?_push_of_some _ e,rr⟩⟩,?_,by simp[intItems];omega,CmpOf.ints_lt (numAt zs) (fun _ _=>intItems_at),fun v h' tk hv hk=>?_⟩)
 ·intro b hb
  show b<(s.heap.push _).objs.size;rw[Heap.size_push];simp at hb;rcases hb with rfl | rfl
  ·exact Nat.lt_succ_self _
  ·exact Nat.lt_succ_of_lt lt
 ·have kp:∀ b o,s.heap.get? b=some o->h'.get? b=some o:=fun b o e=>hk b o (by simp;exact Nat.ne_of_lt (Heap.lt_size e)) (Heap.get?_push_of_some _ e)
  refine⟨.int (mnL ns x),H,I.kept kp,?_,q⟩;obtain⟨t,rfl⟩:=intItems_at hv;refine⟨t,?_⟩;congr 1
  have e2:(intItems zs).size=ns.length+1:=by simp[intItems,n1]
  rw[e2,at1];simp only[at1,Nat.add_one_sub_one];exact vH ns.length (x::ns) x ns rfl rfl
theorem BJ{xs:List D}{d:D}(h:mnT xs=some d):∃ x r,fU xs=some (x::r)/\d=.int (mnL r x):=by
 unfold mnT at h;obtain⟨is,h1,h2⟩:=Option.bind_eq_some_iff.mp h
 cases is with
 | nil=>cases h2
 | cons x r=>cases h2;exact⟨x,r,h1,rfl⟩
theorem w6(hc:X.calm=true):bH X (.builtin "max") (fun xs H Q=>∃ (p:Addr) (x:Int) (r:List Int),xs=[.ref p]/\SqT X.K H p ((x::r).map V.int)/\Q (.int (mxL r x)) H):=by
 intro pins s σ H xs us Q I r h;obtain⟨p,x,ns,rfl,hq,q⟩:=h;obtain⟨u,rfl,rx⟩:=vals1 r;cases (show u=Value.ref p from rx);obtain⟨its,r',pl,hz⟩:=I.tuple hq;have hi:=intsAre_of r';obtain⟨zs,hx⟩:=hi.allInts.items;have hl':s.heap.IsTuple p (intItems zs):=hx▸pl;have lt:p<s.heap.objs.size:=pl.lt
 have e1:x::ns=zs.toList.map (·.1):=by
  rw[<- nums_intItems,<- hx];exact(show numsOf its.toArray.toList=x::ns from hi.numsOf).symm
 have n1:zs.size=ns.length+1:=by simpa using(congrArg List.length e1).symm
 have at1:∀ m,numAt zs m=(x::ns).getD m 0:=fun m=>by
  unfold numAt;rw[e1,List.getD_eq_getElem?_getD,List.getElem?_map,Array.getElem?_toList]
 refine call_max_walk (wpAny_pyIter_tuple hl' ⟨_,_,_,_,_,_,_,rfl,Walks.tuple (A:=X.A.in1) (I.ok.hd hc) _ p (Nat.ne_of_lt lt) (intItems zs),⟨⟨_,Heap.get?_push_size _ rfl,rfl,rfl⟩,by obtain⟨o,e,rr⟩:=hl';exact⟨o,Heap.get?_push_of_some _ e,rr⟩⟩,?_,by simp[intItems];omega,CmpOf.ints_gt (numAt zs) (fun _ _=>intItems_at),fun v h' tk hv hk=>?_⟩)
 ·intro b hb
  show b<(s.heap.push _).objs.size;rw[Heap.size_push];simp at hb;rcases hb with rfl | rfl
  ·exact Nat.lt_succ_self _
  ·exact Nat.lt_succ_of_lt lt
 ·have kp:∀ b o,s.heap.get? b=some o->h'.get? b=some o:=fun b o e=>hk b o (by simp;exact Nat.ne_of_lt (Heap.lt_size e)) (Heap.get?_push_of_some _ e)
  refine⟨.int (mxL ns x),H,I.kept kp,?_,q⟩;obtain⟨t,rfl⟩:=intItems_at hv;refine⟨t,?_⟩;congr 1
  have e2:(intItems zs).size=ns.length+1:=by simp[intItems,n1]
  rw[e2,at1];simp only[at1,Nat.add_one_sub_one];exact vC ns.length (x::ns) x ns rfl rfl
theorem Bw{xs:List D}{d:D}(h:mxN xs=some d):∃ x r,fU xs=some (x::r)/\d=.int (mxL r x):=by
 unfold mxN at h;obtain⟨is,h1,h2⟩:=Option.bind_eq_some_iff.mp h
 cases is with
 | nil=>cases h2
 | cons x r=>cases h2;exact⟨x,r,h1,rfl⟩
theorem Kd{b:String}{ds:List D}{d:D}(hc:X.calm=true)(h:DE.blt b ds=some d):EvC X (RJ b) ds d:=by
 intro vs H Hs Q hs hr hq;unfold DE.blt at h;split at h
 ·simp only[bind,Option.bind] at h
  split at h
  ·cases h
  ·rename_i l hl
   cases h;obtain⟨v,rfl,r1⟩:=fL hr;obtain⟨a,us,rfl,h1,h2⟩:=jd r1 hl;refine bH.sem n6 ⟨a,us,rfl,h1.imp hs.seq hs.tup,?_⟩;rw[<- h2.length];exact hq _ H Hs (.refl hs) (by simp[Rep])
 ·simp only[bind,Option.bind] at h
  split at h
  ·cases h
  ·rename_i l hl
   cases h;obtain⟨v,rfl,r1⟩:=fL hr;obtain⟨a,us,rfl,h1,h2⟩:=aU r1;have e:=gA hl h2;subst e;exact bH.sem (xG hc) ⟨a,_,rfl,hs.seq h1,hq _ H Hs (.refl hs) (by simp[Rep])⟩
 ·simp only[bind,Option.bind] at h
  split at h
  ·cases h
  ·rename_i l hl
   cases h;obtain⟨v,rfl,r1⟩:=fL hr;obtain⟨a,us,rfl,h1,h2⟩:=aU r1;have e:=cB hl h2;subst e;exact bH.sem (wW hc) ⟨a,_,rfl,hs.seq h1,hq _ H Hs (.refl hs) (by simp[Rep])⟩
 ·simp only[bind,Option.bind] at h
  split at h
  ·cases h
  ·rename_i l hl
   cases h;obtain⟨v,rfl,r1⟩:=fL hr;obtain⟨a,us,rfl,h1,h2⟩:=bw r1;have e:=cB hl h2;subst e;exact bH.sem (wV hc) ⟨a,_,rfl,hs.tup h1,hq _ H Hs (.refl hs) (by simp[Rep])⟩
 ·simp only[bind,Option.bind] at h
  split at h
  ·cases h
  ·rename_i l hl
   cases h;exact Gh hl vs H Hs Q hs hr hq
 ·simp only[bind,Option.bind] at h
  split at h
  ·cases h
  ·rename_i l hl
   cases h;obtain⟨v,rfl,r1⟩:=fL hr;obtain⟨a,us,rfl,h1,h2⟩:=jd r1 hl;exact bH.sem iu ⟨a,us,rfl,h1.imp hs.seq hs.tup,fun p hp=>dG hs h2 hp hq⟩
 ·simp only[bind,Option.bind] at h
  split at h
  ·cases h
  ·rename_i l hl
   cases h;obtain⟨v,rfl,r1⟩:=fL hr;obtain⟨a,us,rfl,h1,h2⟩:=aU r1;have e:=gA hl h2;subst e;exact bH.sem (xu hc) ⟨a,_,rfl,hs.seq h1,hq _ H Hs (.refl hs) (by simp[Rep])⟩
 ·obtain⟨l,hl,h⟩:=Option.bind_eq_some_iff.mp h
  split at h
  ·rename_i hh
   cases h;simp only[Bool.and_eq_true,decide_eq_true_eq] at hh;obtain⟨v,rfl,r1⟩:=fL hr;obtain⟨a,us,rfl,h1,h2⟩:=aU r1;have e:=cB hl h2;subst e;exact bH.sem pW ⟨a,_,rfl,hs.seq h1,hh.1,hh.2,fun p hp=>dG hs h2 hp hq⟩
  ·cases h
 ·obtain⟨x,r,hx,rfl⟩:=BJ h
  obtain⟨v,rfl,r1⟩:=fL hr;obtain⟨a,us,rfl,h1,h2⟩:=bw r1;have e:=cB hx h2;subst e;exact bH.sem (wX hc) ⟨a,x,r,rfl,hs.tup h1,hq _ H Hs (.refl hs) (by simp[Rep])⟩
 ·obtain⟨x,r,hx,rfl⟩:=BJ h
  obtain⟨v,rfl,r1⟩:=fL hr;obtain⟨a,us,rfl,h1,h2⟩:=aU r1;have e:=cB hx h2;subst e;exact bH.sem (wY hc) ⟨a,x,r,rfl,hs.seq h1,hq _ H Hs (.refl hs) (by simp[Rep])⟩
 ·obtain⟨x,r,hx,rfl⟩:=Bw h
  obtain⟨v,rfl,r1⟩:=fL hr;obtain⟨a,us,rfl,h1,h2⟩:=aU r1;have e:=cB hx h2;subst e;exact bH.sem (xg hc) ⟨a,x,r,rfl,hs.seq h1,hq _ H Hs (.refl hs) (by simp[Rep])⟩
 ·obtain⟨x,r,hx,rfl⟩:=Bw h
  obtain⟨v,rfl,r1⟩:=fL hr;obtain⟨a,us,rfl,h1,h2⟩:=bw r1;have e:=cB hx h2;subst e;exact bH.sem (w6 hc) ⟨a,x,r,rfl,hs.tup h1,hq _ H Hs (.refl hs) (by simp[Rep])⟩
 ·cases h
  obtain⟨v,w,rfl,r1,r2⟩:=Du hr;exact bH.sem (wZ hc) ⟨_,_,by rw[aA r1,aA r2],hq _ H Hs (.refl hs) (by simp[Rep])⟩
 ·cases h
  obtain⟨v,w,rfl,r1,r2⟩:=Du hr;exact bH.sem (xq hc) ⟨_,_,by rw[aA r1,aA r2],hq _ H Hs (.refl hs) (by simp[Rep])⟩
 ·cases h
  obtain⟨v,rfl,r1⟩:=fL hr;exact bH.sem Ar ⟨_,by rw[aA r1],hq _ H Hs (.refl hs) (by simp[Rep])⟩
 ·cases h
  obtain⟨v,rfl,r1⟩:=fL hr;exact bH.sem n8 (.inr ⟨_,by rw[cH r1],hq _ H Hs (.refl hs) (by simp[Rep,DE.b2i])⟩)
 ·cases h
  obtain⟨v,rfl,r1⟩:=fL hr;exact bH.sem n8 (.inl ⟨_,by rw[aA r1],hq _ H Hs (.refl hs) (by simp[Rep])⟩)
 ·cases h
end
end L2
namespace L2
open PySem PySem.Spec PyProof.Rows DE PySem.SeqAt
section
variable {X:Cx} {ρ:Rho} {cx:Cxt} {k:Nat} {sc:Scope}
theorem bh{x:Str}{b:String}(G:Good cx k X sc)(h:aZ cx sc x=some b):Gl X x/\X.mg x=none/\x=Str.ofString b:=by
 unfold aZ lQ at h;split at h
 ·rename_i hg
  have e:sc.names.lookup x=some .globalImplicit:=by simpa using hg
  refine⟨?_,G.blt x b h⟩;show X.env.scope.names.lookup x=_;rw[G.sce,e]
 ·cases h
theorem xH{b:String}{ds:List D}{d:D}(h:DE.blt b ds=some d):b="len"\/b="all"\/b="sum"\/b="tuple"\/b="list"\/b="min"\/b="max"\/b="abs"\/b="int"\/b="any"\/b="sorted":=by
 unfold DE.blt at h
 split at h<;>first | (simp;done) | cases h
theorem Ab{x:Str}{b:String}{e:Expr}{es:List Expr}{ds:List D}{d:D}{p pos:Pos}(G:Good cx k X sc)(hx:aZ cx sc x=some b)(h:EvA X ρ (e::es) ds)(hp:∀ a∈e::es,aD a=true)(hd:DE.blt b ds=some d) :
  Ev X ρ (.Call (.Name x p) (e::es) [] pos) d:=by
 obtain⟨hg,hm,rfl⟩:=bh G hx;have c:=Kd (X:=X) G.calm hd;have s1:=aj (env:=X.env) (es:=es) (hp e (by simp));have s2:=eG (env:=X.env) (pos:=pos) fun a ha=>hp a (List.mem_cons_of_mem _ ha)
 have fin:∀ f:Value,RJ b=f->PE X (.Call (.Name (Str.ofString b) p) (e::es) [] pos) (tCB (KC X f) (uy X (e::es)))->Ev X ρ (.Call (.Name (Str.ofString b) p) (e::es) [] pos) d:=by
  intro f hf hpe σ H Hs Q hs hst hq;rw[hf] at c;refine hpe.sem (h σ H Hs _ hs hst fun vs H1 Hs1 E1 r1=>?_);exact c vs H1 Hs1 Q E1.sub r1 fun v H' Hs' E2 r2=>hq v H' Hs' (E1.trans E2) r2
 rcases xH hd with rfl | rfl | rfl | rfl | rfl | rfl | rfl | rfl | rfl | rfl | rfl
 all_goals first
  | exact fin (.builtin _) rfl (lD rD hg hm (by decide +kernel) gY (by decide) (by decide) s1 s2)
  | exact fin (.type _) rfl (nq rD hg hm (by decide +kernel) gY (by decide) (by decide) s1 s2)
def Sw(K:PySem.W.Frag)(T:String):List V->Hp->VK->Prop:=fun xs H Q=>∃ x d,xs=[x,.ty T]/\Rep K H d x/\isExc d=false/\Q (.bl (jY T d)) H
theorem qe{T:String}(h:fJ T=true):T="int"\/T="bool"\/T="tuple"\/T="list"\/T="str":=by
 unfold fJ at h
 split at h<;>first | (simp;done) | cases h
theorem jK{x:V}{vs:List V}{us:List Value}(r:Vals (x::vs) us):∃ u w,us=u::w/\RelV x u/\Vals vs w:=by
 cases r with
 | cons r rr=>exact⟨_,_,rfl,r,rr⟩
theorem Aq{T:String}(hk:fJ T=true):bH X (.builtin "isinstance") (Sw X.K T):=by
 intro pins s σ H xs us Q I r h;obtain⟨x,d,rfl,rd,hne,q⟩:=h;obtain⟨u,w1,rfl,rx,rr⟩:=jK r;obtain⟨c,w2,rfl,rc,rr2⟩:=jK rr;cases rr2;cases (show c=Value.type T from rc);have fin:∀ b,b=jY T d->∀ tk,EP X pins σ Q (.bool b) { s with toks:=tk }:=fun b hb tk=>⟨.bl _,H,I.tok _,by rw[hb];rfl,q⟩;have ks:=qe hk
 cases d with
 | exc c=>exact absurd hne (by simp[isExc])
 | dic _ _=>exact absurd hne (by simp[isExc])
 | non =>
  cases kZ rd;cases (show u=Value.none from rx)
  rcases ks with rfl | rfl | rfl | rfl | rfl<;>exact PySem.W.kia_one (b:=false) PySem.W.kitx_none I.kIn True.intro rfl (fun z=>nomatch z) (fin _ rfl)
 | bl y =>
  cases cH rd;cases (show u=Value.bool y from rx)
  rcases ks with rfl | rfl | rfl | rfl | rfl<;>exact PySem.W.kia_one PySem.W.kitx_bool I.kIn True.intro rfl (fun z=>nomatch z) (fin _ rfl)
 | int y =>
  cases aA rd;obtain⟨t,e⟩:=(show ∃ t,u=Value.int y t from rx);cases e
  rcases ks with rfl | rfl | rfl | rfl | rfl<;>exact PySem.W.kia_one PySem.W.kitx_int I.kIn True.intro rfl (fun z=>nomatch z) (fin _ rfl)
 | str y =>
  have ev:x=.str y:=by simpa[Rep] using rd
  subst ev;obtain⟨t,e⟩:=(show ∃ t,u=Value.str y t from rx);cases e
  rcases ks with rfl | rfl | rfl | rfl | rfl<;>exact PySem.W.kia_one PySem.W.kitx_str I.kIn True.intro rfl (fun z=>nomatch z) (fin _ rfl)
 | tup ds =>
  obtain⟨a,vs,rfl,h1,h2⟩:=bw rd;cases (show u=Value.ref a from rx);obtain⟨its,_,o,g1,g2,_⟩:=isT I h1
  rcases ks with rfl | rfl | rfl | rfl | rfl<;>exact PySem.W.kia_one PySem.W.kitx_tuple I.kIn ⟨o,g1,g2⟩ rfl (fun z=>nomatch z) (fin _ rfl)
 | lst ds =>
  obtain⟨a,vs,rfl,h1,h2⟩:=aU rd;cases (show u=Value.ref a from rx);obtain⟨its,_,o,g1,g2,_⟩:=isL I h1
  rcases ks with rfl | rfl | rfl | rfl | rfl<;>exact PySem.W.kia_one PySem.W.kitx_list I.kIn ⟨o,g1,g2⟩ rfl (fun z=>nomatch z) (fin _ rfl)
theorem J8{x t:Str}{T:String}{a:Expr}{d:D}{p pt pos:Pos}(G:Good cx k X sc)(hx:aZ cx sc x=some "isinstance")(ht:aZ cx sc t=some T)(hk:fJ T=true)(ha:Ev X ρ a d)(hp:aD a=true)(hne:isExc d=false) :
  Ev X ρ (.Call (.Name x p) [a,.Name t pt] [] pos) (.bl (jY T d)):=by
 obtain⟨hg,hm,rfl⟩:=bh G hx;obtain⟨hg2,hm2,rfl⟩:=bh G ht
 have htv:PE X (.Name (Str.ofString T) pt) (tC (.ty T)):=by
  rcases qe hk with rfl | rfl | rfl | rfl | rfl<;>exact vg hg2 hm2 (by decide +kernel) rfl
 intro σ H Hs Q hs hst hq;refine(lD (Aq (X:=X) hk) hg hm (by decide +kernel) (aV ak (aV htv bO (aj rfl)) (aj hp)) (by decide) (by decide) (aj hp) rfl).sem ?_;exact ha σ H Hs _ hs hst fun v H1 Hs1 E1 r1=>⟨v,d,rfl,Rep.same E1.sub d v r1,hne,hq _ H1 Hs1 E1 (by simp[Rep])⟩
def Ly(K:PySem.W.Frag)(cv:V)(C:Addr)(b:Bool):List V->Hp->VK->Prop:=fun xs H Q=>∃ a,xs=[.ref a,cv]/\H a=some (.ext (isX a (.ref C)))/\Q (.bl b) H
theorem xr{cv:V}{c:Value}{C:Addr}{b:Bool}(hA:kh X.K C=true)(hc:∀ u,RelV cv u->u=c)(e:PySem.W.kitOne X.K (.ref C) c=some b):bH X (.builtin "isinstance") (Ly X.K cv C b):=by
 intro pins s σ H xs us Q I r h;obtain⟨a,rfl,ha,q⟩:=h;obtain⟨u,w1,rfl,rx,rr⟩:=jK r;obtain⟨u2,w2,rfl,rc,rr2⟩:=jK rr;cases rr2;cases (show u=Value.ref a from rx);cases hc u2 rc;exact PySem.W.kia_one (zH hA) I.kIn (I.hok _ _ ha).1 e (fun z=>nomatch z) fun tk=>⟨.bl _,H,I.tok _,rfl,q⟩
theorem pQ{x c:Str}{t a:Expr}{tv:TE}{cv:V}{cw:Value}{b:Bool}{p pos:Pos}(G:Good cx k X sc)(hx:aZ cx sc x=some "isinstance")(hc:cx.exs.contains c=true)(ht:PE X t (tC cv))(hpt:aD t=true)(hcv:∀ u,RelV cv u->u=cw)
  (hk:∀ C,PySem.W.nsIn X.K mainGlobals c=some (some (.ref C))->PySem.W.kitOne X.K (.ref C) cw=some b) (ha:Ev X ρ a (.exc c)) (hp:aD a=true):Ev X ρ (.Call (.Name x p) [a,t] [] pos) (.bl b):=by
 obtain⟨hg,hm,rfl⟩:=bh G hx;obtain⟨C,M,e1,_,_,e2,_⟩:=G.exs.cls c hc;intro σ H Hs Q hs hst hq;refine(lD (xr (X:=X) (cv:=cv) e2 hcv (hk C e1)) hg hm (by decide +kernel) (aV ak (aV ht bO (aj hpt)) (aj hp)) (by decide) (by decide) (aj hp) (by rw[aj hpt];rfl)).sem ?_;refine ha σ H Hs _ hs hst fun v H1 Hs1 E1 r1=>?_;have r2:=Rep.same E1.sub _ v r1;simp only[Rep] at r2;obtain⟨a0,C0,rfl,f1,f2⟩:=r2;rw[e1] at f1;cases f1;exact⟨a0,rfl,f2,hq _ H1 Hs1 E1 (by simp[Rep])⟩
theorem Gq{x t c:Str}{a:Expr}{p pt pos:Pos}(G:Good cx k X sc)(hx:aZ cx sc x=some "isinstance")(ht:aZ cx sc t=some "ValueError")(hc:cx.exs.contains c=true)(ha:Ev X ρ a (.exc c))(hp:aD a=true):Ev X ρ (.Call (.Name x p) [a,.Name t pt] [] pos) (.bl true):=by
 obtain⟨hg2,hm2,rfl⟩:=bh G ht;refine pQ (tv:=tC (.ty "ValueError")) (cv:=.ty "ValueError") (cw:=.type "ValueError") G hx hc (vg hg2 hm2 (by decide +kernel) rfl) rfl (fun u r=>r) (fun C e=>?_) ha hp;obtain⟨C',M,e1,_,_,_,_,_,e2⟩:=G.exs.cls c hc;rw[e] at e1;cases e1;exact e2
theorem Ht{t:Expr}{c':Str}(h:xOf cx sc t=some c'):∃ pt,t=.Name c' pt/\lQ cx sc c'=true/\(cx.exs.contains c'=true\/c'=cx.top)/\(c'==("__debug__":Str))=false:=by
 unfold xOf at h;split at h
 ·rename_i y pt
  split at h
  ·rename_i q
   cases h;rw[Bool.and_eq_true,Bool.and_eq_true,Bool.or_eq_true] at q;have q2:=q.2;unfold aq at q2;rw[Bool.and_eq_true,bne_iff_ne] at q2;exact⟨pt,rfl,q.1.1,q.1.2.imp id (fun z=>by simpa using z),by simpa using q2.1⟩
  ·cases h
 ·cases h
theorem Gp{x c c':Str}{t a:Expr}{p pos:Pos}(G:Good cx k X sc)(hx:aZ cx sc x=some "isinstance")(ht:xOf cx sc t=some c')(hc:cx.exs.contains c=true)(ha:Ev X ρ a (.exc c))(hp:aD a=true):Ev X ρ (.Call (.Name x p) [a,t] [] pos) (.bl (G8 cx.top c c')):=by
 obtain⟨pt,rfl,hgl,hin,hd⟩:=Ht ht
 have hg:Gl X c':=by
  have e:sc.names.lookup c'=some .globalImplicit:=by unfold lQ at hgl;simpa using hgl
  show X.env.scope.names.lookup c'=_;rw[G.sce,e]
 by_cases htop:c'=cx.top
 ·subst htop
  obtain⟨C,M,e1,e2,_,_,_,e3,_⟩:=G.exs.cls c hc
  have:G8 cx.top c cx.top=true:=by unfold G8;simp
  rw[this];refine pQ (tv:=tC (.ref M)) (cv:=.ref M) (cw:=.ref M) G hx hc (pD hg (G.exs.glob _ _ e2) rfl hd) rfl (fun u r=>r) (fun C' e=>?_) ha hp;rw[e] at e1;cases e1;exact e3
 ·have hin':cx.exs.contains c'=true:=hin.resolve_right htop
  obtain⟨C,C',e1,e2,e3⟩:=G.exs.sub c c' hc hin'
  have:G8 cx.top c c'=(c==c'):=by
   unfold G8
   have:(c'==cx.top)=false:=by simpa using htop
   rw[this,Bool.or_false]
  rw[this];refine pQ (tv:=tC (.ref C')) (cv:=.ref C') (cw:=.ref C') G hx hc (pD hg (G.exs.glob _ _ e2) rfl hd) rfl (fun u r=>r) (fun C'' e=>?_) ha hp;rw[e] at e1;cases e1;exact e3
end
end L2
namespace L2
open PySem PySem.Spec PyProof.Rows DE PySem.SeqAt
section
variable {X:Cx} {ρ:Rho} {cx:Cxt} {k:Nat} {sc:Scope}
theorem ud:∀ {vs:List V} {us:List Value},vs.length=us.length->(∀ (i:Nat) (v:V) (u:Value),vs[i]?=some v->us[i]?=some u->RelV v u)->Vals vs us
 | [],[],_,_=>.nil
 | [],u::us,h,_=>by simp at h
 | v::vs,[],h,_=>by simp at h
 | v::vs,u::us,h,hr=>.cons (hr 0 v u rfl rfl) (ud (by simpa using h) fun i a b e1 e2=>hr (i+1) a b (by simpa using e1) (by simpa using e2))
def je(lo hi:Int):List V:=(List.range (hi-lo).toNat).map fun(k:Nat)=>V.int (lo+(k:Int))
theorem lg{α:Type}{K:PySem.W.Frag}{H:Hp}{f:α->D}{g:α->V}(h:∀ x,Rep K H (f x) (g x)):∀ l:List α,aJ K H (l.map f) (l.map g)
 | []=>.nil
 | x::r=>.cons (h x) (lg h r)
theorem m8{K:PySem.W.Frag}{H:Hp}{lo hi:Int}:aJ K H (bR lo hi) (je lo hi):=lg (fun x=>by simp[Rep]) _
theorem dJ{i:Int}(h:bZ i=true):-(2^62)<=i/\i<2^62:=by
 unfold bZ at h;rw[Bool.and_eq_true,decide_eq_true_eq,decide_eq_true_eq] at h;exact h
theorem f9{pins:List (Addr×Obj)}{σ:St}{H:Hp}{s:Shared}{Q:VK}{E:Value->Shared->Prop}{lo hi:Int}{t u v:Tok}{tk:Nat}(hc:X.calm=true)(I:Inv X pins σ H s)(h1:-(2^62)<=lo/\lo<2^62)(h3:-(2^62)<=hi/\hi<2^62)
  (hz:szl (hi-lo).toNat=true) (q:∀ p,H p=none->Q (.ref p) (upd H p (.lst (je lo hi)))) :
  wpAny (model X.prog X.w) X.A (call (.type "list") [.ref s.heap.objs.size]) (EP X pins σ Q) E { s with heap:=s.heap.push { cls:=.type "range",data:=.fields #[.int lo t,.int hi u,.int 1 v] },toks:=tk }:=by
 have hz':(hi-lo).toNat<=100000:=by unfold szl at hz;simpa using hz
 refine call_list_range (n:=(hi-lo).toNat) (I.ok.hd hc) (IsRange.new ..) (small_one h1.1 h1.2 h3.1 h3.2) (by rw[rangeSize_one];split<;>omega) (by omega) fun h' tk' acc' c' kp e its=>?_
 have I1:Inv X pins σ H { s with heap:=s.heap.push { cls:=.type "range",data:=.fields #[.int lo t,.int hi u,.int 1 v] },toks:=tk }:=I.kept fun b o e=>Heap.get?_push_of_some _ e
 have hl:(je lo hi).length=(hi-lo).toNat:=by simp[je]
 have hv:Vals (je lo hi) acc'.toList:=by
  refine ud (by rw[hl,Array.length_toList,its.1]) fun i v u e1 e2=>?_;obtain⟨t,rfl⟩:=its.2 i u (by simpa using e2);unfold je at e1;rw[List.getElem?_map] at e1;obtain⟨j,e3,rfl⟩:=Option.map_eq_some_iff.mp e1;rw[List.getElem?_eq_some_iff] at e3;obtain⟨_,e3⟩:=e3;rw[List.getElem_range] at e3;subst e3;exact⟨t,by rw[Int.mul_one]⟩
 refine⟨.ref _,_,I1.laid (t':=tk') kp (Nat.le_refl _) (show cV X.prog X.w _ h' _ (.lst (je lo hi)) from⟨by rw[hl];exact eE hz,acc'.toList,c',hv,e⟩),rfl,q _ (I1.hok.fresh (Nat.le_refl _))⟩
theorem tD{x y:Str}{a:Expr}{j:Int}{p q q' pos:Pos}(G:Good cx k X sc)(hx:aZ cx sc x=some "list")(hy:aZ cx sc y=some "range")(ha:Ev X ρ a (.int j))(hp:aD a=true)(hj:bZ j=true)(hz:szl j.toNat=true) :
  Ev X ρ (.Call (.Name x p) [.Call (.Name y q) [a] [] q'] [] pos) (.lst (bR 0 j)):=by
 obtain⟨hg,hm,rfl⟩:=bh G hx;obtain⟨hg2,hm2,rfl⟩:=bh G hy;intro σ H Hs Q hs hst hq pins s I;refine Call_ (cQ I hg hm (show bootBuiltins "list"=some (.type "list") by decide +kernel) (PyProof.Rows.callWith_type1 ?_ rfl rfl));show wpAny _ _ (spliced [(false,eval (.Call (.Name _ q) [a] [] q') X.env)]) _ _ _;refine Calls.spliced_cons ?_;refine Call_ (cQ I hg2 hm2 boot_range (PyProof.Rows.callWith_type1 ?_ (aj hp) rfl));refine thn ((aV ak bO (aj hp)) q' pins s σ H (fun vs H1=>∃ Hs1,vs=[.int j]/\Ext Hs H Hs1 H1) I (ha σ H Hs _ hs hst fun v H1 Hs1 E1 r1=>⟨Hs1,by rw[aA r1],E1⟩)) fun us s1 ⟨vs,H1,I1,r1,Hs1,e1,E1⟩=>?_;subst e1;obtain⟨u,w1,rfl,rx,rr⟩:=jK r1;cases rr;obtain⟨t,rfl⟩:=(show ∃ t,u=Value.int j t from rx);refine call_range_1 (Calls.spliced_nil ?_);exact f9 G.calm I1 (by decide) (dJ hj) (by simpa using hz) fun p hp=>dG E1.sub m8 hp fun w H' Hs' E2 r2=>hq w H' Hs' (E1.trans E2) r2
theorem sZ{x y:Str}{a b:Expr}{i j:Int}{p q q' pos:Pos}(G:Good cx k X sc)(hx:aZ cx sc x=some "list")(hy:aZ cx sc y=some "range")(ha:Ev X ρ a (.int i))(hp:aD a=true)(hb:Ev X ρ b (.int j))(hpb:aD b=true)(hi:bZ i=true)(hj:bZ j=true)(hz:szl (j-i).toNat=true) :
  Ev X ρ (.Call (.Name x p) [.Call (.Name y q) [a,b] [] q'] [] pos) (.lst (bR i j)):=by
 obtain⟨hg,hm,rfl⟩:=bh G hx;obtain⟨hg2,hm2,rfl⟩:=bh G hy;intro σ H Hs Q hs hst hq pins s I;refine Call_ (cQ I hg hm (show bootBuiltins "list"=some (.type "list") by decide +kernel) (PyProof.Rows.callWith_type1 ?_ rfl rfl));show wpAny _ _ (spliced [(false,eval (.Call (.Name _ q) [a,b] [] q') X.env)]) _ _ _;refine Calls.spliced_cons ?_;refine Call_ (cQ I hg2 hm2 boot_range (PyProof.Rows.callWith_type1 ?_ (aj hp) (eG fun e he=>by rw[List.mem_singleton.mp he];exact hpb)));refine thn ((aV ak (aV ak bO (aj hpb)) (aj hp)) q' pins s σ H (fun vs H1=>∃ Hs1,vs=[.int i,.int j]/\Ext Hs H Hs1 H1) I (ha σ H Hs _ hs hst fun v H1 Hs1 E1 r1=>hb σ H1 Hs1 _ E1.sub (hst.same E1.vis) fun v' H2 Hs2 E2 r2=>⟨Hs2,by rw[aA r1,aA r2],E1.trans E2⟩)) fun us s1 ⟨vs,H1,I1,r1,Hs1,e1,E1⟩=>?_;subst e1;obtain⟨u,w1,rfl,rx,rr⟩:=jK r1;obtain⟨u2,w2,rfl,rx2,rr2⟩:=jK rr;cases rr2;obtain⟨t,rfl⟩:=(show ∃ t,u=Value.int i t from rx);obtain⟨t2,rfl⟩:=(show ∃ t,u2=Value.int j t from rx2);refine call_range_2 (Calls.spliced_nil ?_);exact f9 G.calm I1 (dJ hi) (dJ hj) hz fun p hp=>dG E1.sub m8 hp fun w H' Hs' E2 r2=>hq w H' Hs' (E1.trans E2) r2
variable {tg iter a b:Expr}
theorem GD{d:D}{l:List D}(h:Ev X ρ iter d)(hl:items d=some l):EvI X ρ tg iter l:=by
 intro σ H Hs R hs hst hq
 cases d with
 | lst xs =>
  simp only[items,Option.some.injEq] at hl;subst hl
  refine(DW (tg:=tg) ak).sem (h σ H Hs _ hs hst fun v H1 Hs1 E1 r1=>?_);obtain⟨p,vs,rfl,h1,h2⟩:=aU r1;refine⟨p,rfl,⟨vs,E1.sub.seq h1⟩,hq _ H1 Hs1 E1 fun Hs' H' e1 e2=>⟨⟨vs,e2.seq (e1.seq h1),by rw[h2.length];exact Nat.le_refl _⟩,fun i d hd=>?_⟩⟩;obtain⟨v,g1,g2⟩:=h2.get hd;refine⟨⟨vs,v,e2.seq (e1.seq h1),g1⟩,fun x H2 y=>?_⟩;obtain⟨rfl,y⟩:=y;have:=y vs (e2.seq (e1.seq h1));rw[g1] at this;cases this;exact⟨Hs',.refl e2,Rep.same e1 d v g2⟩
 | tup xs =>
  simp only[items,Option.some.injEq] at hl;subst hl
  refine(Jf (tg:=tg) ak).sem (h σ H Hs _ hs hst fun v H1 Hs1 E1 r1=>?_);obtain⟨p,vs,rfl,h1,h2⟩:=bw r1;refine⟨p,rfl,⟨vs,E1.sub.tup h1⟩,hq _ H1 Hs1 E1 fun Hs' H' e1 e2=>⟨⟨vs,e2.tup (e1.tup h1),by rw[h2.length];exact Nat.le_refl _⟩,fun i d hd=>?_⟩⟩;obtain⟨v,g1,g2⟩:=h2.get hd;refine⟨⟨vs,v,e2.tup (e1.tup h1),g1⟩,fun x H2 y=>?_⟩;obtain⟨rfl,y⟩:=y;have:=y vs (e2.tup (e1.tup h1));rw[g1] at this;cases this;exact⟨Hs',.refl e2,Rep.same e1 d v g2⟩
 | _=>simp[items] at hl
theorem jr{K:PySem.W.Frag}{Hs0:Hp}{lo hi:Int}{n:Nat}(hn:n=(hi-lo).toNat):G7 K (Itr lo n) Hs0 (bR lo hi):=by
 have hl:(bR lo hi).length=n:=by rw[hn];simp[bR]
 intro Hs H e1 e2;refine⟨by show n<=_;rw[hl];exact Nat.le_refl _,fun i d hd=>?_⟩
 have hi:i<n:=by have:=(List.getElem?_eq_some_iff.mp hd).1;rw[hl] at this;exact this
 refine⟨hi,fun x H' y=>?_⟩;obtain⟨rfl,rfl⟩:=y;refine⟨Hs,.refl e2,?_⟩;unfold bR at hd;rw[List.getElem?_map] at hd;obtain⟨j,e3,rfl⟩:=Option.map_eq_some_iff.mp hd;rw[List.getElem?_eq_some_iff] at e3;obtain⟨_,e3⟩:=e3;rw[List.getElem_range] at e3;subst e3;simp[Rep]
theorem tH{x:Str}{j:Int}{p pos:Pos}(G:Good cx k X sc)(hx:aZ cx sc x=some "range")(ha:Ev X ρ a (.int j))(hp:aD a=true)(hj:bZ j=true):EvI X ρ tg (.Call (.Name x p) [a] [] pos) (bR 0 j):=by
 obtain⟨hg,hm,rfl⟩:=bh G hx;intro σ H Hs R hs hst hq;have q:=vd (tg:=tg) (p:=p) (pos:=pos) hg hm (aV (ak (X:=X) (e:=a)) bO (aj hp)) (aj hp);refine PI.sem q (ha σ H Hs _ hs hst fun v H1 Hs1 E1 r1=>?_);exact⟨j,by rw[aA r1],(dJ hj).1,(dJ hj).2,hq _ H1 Hs1 E1 (jr (by simp))⟩
theorem tG{x:Str}{i j:Int}{p pos:Pos}(G:Good cx k X sc)(hx:aZ cx sc x=some "range")(ha:Ev X ρ a (.int i))(hp:aD a=true)(hb:Ev X ρ b (.int j))(hpb:aD b=true)(hi:bZ i=true)(hj:bZ j=true):EvI X ρ tg (.Call (.Name x p) [a,b] [] pos) (bR i j):=by
 obtain⟨hg,hm,rfl⟩:=bh G hx;intro σ H Hs R hs hst hq;have q:=u9 (tg:=tg) (p:=p) (pos:=pos) hg hm (aV (ak (X:=X) (e:=a)) (aV (ak (X:=X) (e:=b)) bO (aj hpb)) (aj hp)) (by rw[aj hp,aj hpb];rfl) (aj hpb);refine PI.sem q (ha σ H Hs _ hs hst fun v H1 Hs1 E1 r1=>hb σ H1 Hs1 _ E1.sub (hst.same E1.vis) fun v' H2 Hs2 E2 r2=>?_);exact⟨i,j,by rw[aA r1,aA r2],⟨(dJ hi).1,(dJ hi).2,(dJ hj).1,(dJ hj).2⟩,hq _ H2 Hs2 (E1.trans E2) (jr rfl)⟩
theorem nM{K:PySem.W.Frag}{Hs0:Hp}{hi lo:Int}{n:Nat}(hn:n=(hi-lo).toNat):G7 K (K1 hi n) Hs0 (dnD hi lo):=by
 have hl:(dnD hi lo).length=n:=by rw[hn];simp[dnD]
 intro Hs H e1 e2;refine⟨by show n<=_;rw[hl];exact Nat.le_refl _,fun i d hd=>?_⟩
 have hi':i<n:=by have:=(List.getElem?_eq_some_iff.mp hd).1;rw[hl] at this;exact this
 refine⟨hi',fun x H' y=>?_⟩;obtain⟨rfl,rfl⟩:=y;refine⟨Hs,.refl e2,?_⟩;unfold dnD at hd;rw[List.getElem?_map,List.getElem?_range (by omega)] at hd;cases hd;simp[Rep]
theorem tE{x:Str}{i j:Int}{c:Expr}{p pos:Pos}(G:Good cx k X sc)(hx:aZ cx sc x=some "range")(ha:Ev X ρ a (.int i))(hp:aD a=true)(hb:Ev X ρ b (.int j))(hpb:aD b=true)(hc:Ev X ρ c (.int (-1)))(hpc:aD c=true)(hi:bZ i=true)(hj:bZ j=true):EvI X ρ tg (.Call (.Name x p) [a,b,c] [] pos) (dnD i j):=by
 obtain⟨hg,hm,rfl⟩:=bh G hx;intro σ H Hs R hs hst hq;have q:=u6 (tg:=tg) (p:=p) (pos:=pos) hg hm (aV (ak (X:=X) (e:=a)) (aV (ak (X:=X) (e:=b)) (aV (ak (X:=X) (e:=c)) bO (aj hpc)) (aj hpb)) (aj hp)) (by rw[aj hp,aj hpb,aj hpc];rfl) (by rw[aj hpb,aj hpc];rfl);refine PI.sem q (ha σ H Hs _ hs hst fun v H1 Hs1 E1 r1=>hb σ H1 Hs1 _ E1.sub (hst.same E1.vis) fun v' H2 Hs2 E2 r2=>hc σ H2 Hs2 _ E2.sub ((hst.same E1.vis).same E2.vis) fun v'' H3 Hs3 E3 r3=>?_);exact⟨i,j,by rw[aA r1,aA r2,aA r3],⟨(dJ hi).1,(dJ hi).2,(dJ hj).1,(dJ hj).2⟩,hq _ H3 Hs3 ((E1.trans E2).trans E3) (nM rfl)⟩
theorem wB{x:Str}{xs:List D}{p pos:Pos}(G:Good cx k X sc)(hx:aZ cx sc x=some "reversed")(ha:Ev X ρ a (.lst xs))(hp:aD a=true):EvI X ρ tg (.Call (.Name x p) [a] [] pos) xs.reverse:=by
 obtain⟨hg,hm,rfl⟩:=bh G hx;intro σ H Hs R hs hst hq;have q:=yR (tg:=tg) (p:=p) (pos:=pos) hg hm (aV (ak (X:=X) (e:=a)) bO (aj hp)) (aj hp);refine PI.sem q (ha σ H Hs _ hs hst fun v H1 Hs1 E1 r1=>?_);obtain⟨b,vs,rfl,h1,h2⟩:=aU r1;have hl:=h2.length;refine⟨b,vs,rfl,E1.sub.seq h1,hq _ H1 Hs1 E1 fun Hs' H' e1 e2=>⟨by show _=_;rw[List.length_reverse,hl],fun i d hd=>?_⟩⟩
 have hi:i<xs.length:=by have:=(List.getElem?_eq_some_iff.mp hd).1;simpa using this
 rw[List.getElem?_reverse hi] at hd;obtain⟨v,g1,g2⟩:=h2.get hd;rw[hl] at g1;refine⟨⟨vs,e2.seq (e1.seq h1),rfl,by rw[<- hl];exact hi⟩,fun x H2 y=>?_⟩;obtain⟨rfl,y⟩:=y;have:=y vs (e2.seq (e1.seq h1));rw[g1] at this;cases this;exact⟨Hs',.refl e2,Rep.same e1 d v g2⟩
theorem Gz{x:Str}{xs ys:List D}{p pos pt:Pos}{es:List Expr}{kt:Nat}(G:Good cx k X sc)(hx:aZ cx sc x=some "zip")(ha:Ev X ρ a (.tup xs))(hp:aD a=true)(hb:Ev X ρ b (.tup ys))(hpb:aD b=true) :
  EvI X ρ (.Tuple es kt pt) (.Call (.Name x p) [a,b] [] pos) ((xs.zip ys).map fun q=>.tup [q.1,q.2]):=by
 obtain⟨hg,hm,rfl⟩:=bh G hx;intro σ H Hs R hs hst hq;have q:=Je (es:=es) (kt:=kt) (pt:=pt) (p:=p) (pos:=pos) hg hm (aV (ak (X:=X) (e:=a)) (aV (ak (X:=X) (e:=b)) bO (aj hpb)) (aj hp)) (by rw[aj hp,aj hpb];rfl) (aj hpb);refine PI.sem q (ha σ H Hs _ hs hst fun v H1 Hs1 E1 r1=>hb σ H1 Hs1 _ E1.sub (hst.same E1.vis) fun v' H2 Hs2 E2 r2=>?_);obtain⟨c,vs,rfl,h1,h2⟩:=bw (Rep.same E2.vis _ _ r1);obtain⟨d,us,rfl,h3,h4⟩:=bw r2;have l1:=h2.length;have l2:=h4.length;refine⟨c,d,rfl,⟨vs,E2.sub.tup h1⟩,⟨us,E2.sub.tup h3⟩,hq _ H2 Hs2 (E1.trans E2) fun Hs' H' e1 e2=>⟨⟨vs,us,e2.tup (e1.tup h1),e2.tup (e1.tup h3),?_⟩,fun i z hz=>?_⟩⟩
 ·rw[List.length_map,List.length_zip]
  omega
 ·rw[List.getElem?_map] at hz
  obtain⟨⟨x1,y1⟩,e3,rfl⟩:=Option.map_eq_some_iff.mp hz;rw[List.getElem?_zip_eq_some] at e3;obtain⟨v1,g1,g2⟩:=h2.get e3.1;obtain⟨v2,g3,g4⟩:=h4.get e3.2;refine⟨⟨vs,us,v1,v2,e2.tup (e1.tup h1),e2.tup (e1.tup h3),g1,g3⟩,fun w H3 y=>?_⟩;obtain⟨p,hp',rfl,y⟩:=y;rw[y vs us v1 v2 (e2.tup (e1.tup h1)) (e2.tup (e1.tup h3)) g1 g3];refine⟨_,Ext.new e2 (.tup [v1,v2]) hp',?_⟩;have sm:=(Ext.new e2 (.tup [v1,v2]) hp').vis;simp only[Rep];exact⟨p,[v1,v2],rfl,.of aR,.cons (Rep.same sm _ _ (Rep.same e1 _ _ g2)) (.cons (Rep.same sm _ _ (Rep.same e1 _ _ g4)) .nil)⟩
theorem Ae{x:Str}{xs ys:List D}{p pos pt:Pos}{es:List Expr}{kt:Nat}(G:Good cx k X sc)(hx:aZ cx sc x=some "zip")(ha:Ev X ρ a (.lst xs))(hp:aD a=true)(hb:Ev X ρ b (.lst ys))(hpb:aD b=true) :
  EvI X ρ (.Tuple es kt pt) (.Call (.Name x p) [a,b] [] pos) ((xs.zip ys).map fun q=>.tup [q.1,q.2]):=by
 obtain⟨hg,hm,rfl⟩:=bh G hx;intro σ H Hs R hs hst hq;have q:=DR (es:=es) (kt:=kt) (pt:=pt) (p:=p) (pos:=pos) hg hm (aV (ak (X:=X) (e:=a)) (aV (ak (X:=X) (e:=b)) bO (aj hpb)) (aj hp)) (by rw[aj hp,aj hpb];rfl) (aj hpb);refine PI.sem q (ha σ H Hs _ hs hst fun v H1 Hs1 E1 r1=>hb σ H1 Hs1 _ E1.sub (hst.same E1.vis) fun v' H2 Hs2 E2 r2=>?_);obtain⟨c,vs,rfl,h1,h2⟩:=aU (Rep.same E2.vis _ _ r1);obtain⟨d,us,rfl,h3,h4⟩:=aU r2;have l1:=h2.length;have l2:=h4.length;refine⟨c,d,rfl,⟨vs,E2.sub.seq h1⟩,⟨us,E2.sub.seq h3⟩,hq _ H2 Hs2 (E1.trans E2) fun Hs' H' e1 e2=>⟨⟨vs,us,e2.seq (e1.seq h1),e2.seq (e1.seq h3),?_⟩,fun i z hz=>?_⟩⟩
 ·rw[List.length_map,List.length_zip]
  omega
 ·rw[List.getElem?_map] at hz
  obtain⟨⟨x1,y1⟩,e3,rfl⟩:=Option.map_eq_some_iff.mp hz;rw[List.getElem?_zip_eq_some] at e3;obtain⟨v1,g1,g2⟩:=h2.get e3.1;obtain⟨v2,g3,g4⟩:=h4.get e3.2;refine⟨⟨vs,us,v1,v2,e2.seq (e1.seq h1),e2.seq (e1.seq h3),g1,g3⟩,fun w H3 y=>?_⟩;obtain⟨p,hp',rfl,y⟩:=y;rw[y vs us v1 v2 (e2.seq (e1.seq h1)) (e2.seq (e1.seq h3)) g1 g3];refine⟨_,Ext.new e2 (.tup [v1,v2]) hp',?_⟩;have sm:=(Ext.new e2 (.tup [v1,v2]) hp').vis;simp only[Rep];exact⟨p,[v1,v2],rfl,.of aR,.cons (Rep.same sm _ _ (Rep.same e1 _ _ g2)) (.cons (Rep.same sm _ _ (Rep.same e1 _ _ g4)) .nil)⟩
theorem qP:∀ {ns:List Int} {us:List Value},Vals (ns.map V.int) us->PyProof.Rows.IntsAre us ns
 | [],us,r=>by rw[List.map_nil] at r;cases r;exact .nil
 | n::ns,us,r=>by
  rw[List.map_cons] at r
  cases r with
  | cons r1 r2 =>
   obtain⟨t,e⟩:=(show ∃ t,_=Value.int n t from r1);subst e;exact .cons n t (qP r2)
theorem ur{H Hs:Hp}{pins:List (Addr×Obj)}{σ:St}{s:Shared}(I:Inv X pins σ H s)(sm:Same Hs H):∀ {xs:List D} {ks:List (List Int)} {ws:List V} {its:List Value},Ay xs=some ks->aJ X.K Hs xs ws->Vals ws its ->
  ∃ as:List Addr,its=as.map Value.ref/\as.length=ks.length/\∀ (i:Nat) (a:Addr) (k:List Int),as[i]?=some a->ks[i]?=some k->k≠[]/\Kst.TK s.heap k a
 | [],ks,ws,its,h,r,v=>by
  cases h
  have:ws=[]:=by simpa[aJ] using r
  subst this;cases v;exact⟨[],rfl,rfl,fun i a k e=>by cases e⟩
 | .tup ds::xs,ks,ws,its,h,r,v=>by
  unfold Ay at h;split at h
  case h_2=>cases h
  rename_i k0 kr l e1 e2;cases h;simp only[aJ] at r;obtain⟨w,wr,rfl,r1,r2⟩:=r;obtain⟨a,vs,rfl,t1,t2⟩:=bw r1
  cases v with
  | cons v1 v2 =>
   obtain⟨as,rfl,h1,h2⟩:=ur I sm e2 r2 v2;cases v1;obtain⟨ia,va,ta,_⟩:=I.tuple (sm.tup t1);have q:=cB e1 t2;subst q;obtain⟨o,ho,hc,m,hd⟩:=ta;refine⟨a::as,rfl,by simp[h1],fun i b k hb hk=>?_⟩
   cases i with
   | zero =>
    cases hb;cases hk;exact⟨nofun,o,_,m,ho,hc,hd,qP va⟩
   | succ i=>exact h2 i b k (by simpa using hb) (by simpa using hk)
 | .non::_,_,_,_,h,_,_=>by cases h
 | .bl _::_,_,_,_,h,_,_=>by cases h
 | .int _::_,_,_,_,h,_,_=>by cases h
 | .str _::_,_,_,_,h,_,_=>by cases h
 | .lst _::_,_,_,_,h,_,_=>by cases h
 | .exc _::_,_,_,_,h,_,_=>by cases h
 | .dic _ _::_,_,_,_,h,_,_=>by cases h
theorem zj{P:Program}{w:World}{H:Hp}{h:Heap}{a:Addr}{o:HO}(x:cV P w H h a o):∃ u,h.get? a=some u:=by
 cases o with
 | lst xs=>obtain⟨_,_,_,_,e⟩:=x;exact⟨_,e⟩
 | tup xs=>obtain⟨_,_,_,p⟩:=x;obtain⟨o,e,_⟩:=p;exact⟨_,e⟩
 | dK kvs=>obtain⟨_,_,_,_,o,_,_,e,_⟩:=x;exact⟨_,e⟩
 | dT kvs=>obtain⟨_,_,_,_,o,_,_,e,_⟩:=x;exact⟨_,e⟩
 | set S n=>obtain⟨o,_,_,_,e,_⟩:=x;exact⟨_,e⟩
 | ins C dx fs=>obtain⟨_,_,_,e,_⟩:=x;exact⟨_,e⟩
 | own y=>obtain⟨_,e⟩:=x;exact⟨_,e⟩
 | xd fs=>obtain⟨_,⟨_,_,_,e,_⟩,_⟩:=x;exact⟨_,e⟩
 | rng lo hi=>obtain⟨_,_,_,e⟩:=x;exact⟨_,e⟩
 | frz ob u=>obtain⟨e,_⟩:=x;exact⟨_,e⟩
 | tbl ps=>exact⟨_,x⟩
 | met f y=>exact⟨_,x⟩
 | ext φ=>obtain⟨_,⟨_,e⟩,_⟩:=x;exact⟨_,e⟩
theorem Inv.laidAt{pins:List (Addr×Obj)}{σ:St}{H:Hp}{s:Shared}{h':Heap}{a:Addr}{o:HO}{t':Nat}(I:Inv X pins σ H s)(k:∀ b u,s.heap.get? b=some u->h'.get? b=some u)(hn:s.heap.get? a=none)(new:cV X.prog X.w (upd H a o) h' a o) :
  H a=none/\Inv X pins σ (upd H a o) { s with heap:=h',toks:=t' }:=by
 have hH:H a=none:=by
  cases q:H a with
  | none=>rfl
  | some u =>
   obtain⟨z,e⟩:=zj (I.hok a u q);rw[hn] at e;cases e
 refine⟨hH,I.un ⟨fun b u q _ _ _=>k b u q,fun b u q _ _ _=>⟨u.slots,k b u q⟩,fun b u q n _=>?_,fun b u q _=>⟨u,k b u q⟩,fun b xs q=>by rw[aH (aF q hH)];exact q,fun b u xs q=>by rw[aH (aF q hH)];exact q,fun b ps q=>⟨#[],by rw[aH (aF q hH),q];simp⟩⟩ fun b u e=>?_⟩
 ·rw[aH (fun z=>by rw[z,hn] at q;cases q)];exact n
 ·by_cases hb:b=a
  ·subst hb;rw[aR] at e;cases e;exact new
  ·rw[aH hb] at e
   exact(I.hok b u e).stay (fun c v _ q=>k c v q) (fun c q=>by rw[aH (aF q hH)];exact q) fun c xs q=>by rw[aH (aF q hH)];exact q
theorem sY{x y:Str}{a:Expr}{xs:List D}{ks:List (List Int)}{p q q' pos:Pos}(G:Good cx k X sc)(hx:aZ cx sc x=some "sorted")(hy:aZ cx sc y=some "set")(ha:Ev X ρ a (.lst xs))(hp:aD a=true)(hn:Ay xs=some ks)(hz:Kst.Hg ks=true) :
  Ev X ρ (.Call (.Name x p) [.Call (.Name y q) [a] [] q'] [] pos) (.lst xs):=by
 obtain⟨hg,hm,rfl⟩:=bh G hx;obtain⟨hg2,hm2,rfl⟩:=bh G hy;intro σ H Hs Q hs hst hq pins s I;refine Call_ (cQ I hg hm (show bootBuiltins "sorted"=some (.builtin "sorted") by decide +kernel) (PyProof.Rows.callWith_builtin1 ?_ rfl rfl));show wpAny _ _ (spliced [(false,eval (.Call (.Name _ q) [a] [] q') X.env)]) _ _ _;refine Calls.spliced_cons ?_;refine Call_ (cQ I hg2 hm2 (show bootBuiltins "set"=some (.type "set") by decide +kernel) (PyProof.Rows.callWith_type1 ?_ (aj hp) rfl))
 refine thn ((aV ak bO (aj hp)) q' pins s σ H (fun vs H1=>∃ Hs1 b ws,vs=[.ref b]/\SqL X.K Hs1 b ws/\aJ X.K Hs1 xs ws/\Ext Hs H Hs1 H1) I (ha σ H Hs _ hs hst fun v H1 Hs1 E1 r1=>by
  obtain⟨b,ws,rfl,h1,h2⟩:=aU r1
  exact⟨Hs1,b,ws,rfl,h1,h2,E1⟩)) fun us s1 ⟨vs,H1,I1,r1,Hs1,b,ws,e1,t1,r2,E1⟩=>?_
 subst e1;obtain⟨u,w1,rfl,rx,rr⟩:=jK r1;cases rr;cases (show u=Value.ref b from rx);obtain⟨its,rv,pt,hz'⟩:=I1.list (E1.sub.seq t1);obtain⟨as,rfl,hl,ht⟩:=ur I1 E1.sub hn r2 rv;simp only[Kst.Hg,Bool.and_eq_true,decide_eq_true_eq] at hz;obtain⟨⟨⟨z1,z2⟩,z3⟩,z4⟩:=hz;have un:=G.room.units
 have asD:∀ i (hi:i<as.length),as.getD i 0=as[i]:=fun i hi=>by rw[List.getD_eq_getElem?_getD,List.getElem?_eq_getElem hi];rfl
 have kD:∀ i (hi:i<ks.length),ks.getD i []=ks[i]:=fun i hi=>by rw[List.getD_eq_getElem?_getD,List.getElem?_eq_getElem hi];rfl
 have hm':(List.range ks.length).map (fun i=>Value.ref (as.getD i 0))=as.map Value.ref:=by
  refine List.ext_getElem (by simp[hl]) fun i q1 q2=>?_
  have hi:i<as.length:=by simpa using q2
  rw[List.getElem_map,List.getElem_map,List.getElem_range,asD i hi]
 obtain⟨es,t,hf,hpm,W⟩:=Kst.yH (w:=X.w) (f:=fun i=>Value.ref (as.getD i 0)) z4
 have sz:(as.map Value.ref).toArray.size=ks.length:=by simp[hl]
 refine Kst.Ao (vs:=fun i=>as.getD i 0) (ks:=fun i=>ks.getD i []) (esF:=es) (tF:=t) (I1.ok.hd G.calm) (by show X.A.units+1+1+1<cLine;omega) pt.isList (fun i v hi hv=>?_) (fun i hi=>?_) (by rw[sz];exact hf) fun h' tk ep hS kp=>Calls.spliced_nil ?_
 ·rw[sz] at hi
  rw[List.getElem?_toArray,List.getElem?_map,List.getElem?_eq_getElem (by omega)] at hv;cases hv;rw[asD i (by omega)]
 ·rw[sz] at hi
  rw[asD i (by omega),kD i hi];exact(ht i _ _ (List.getElem?_eq_getElem (by omega)) (List.getElem?_eq_getElem hi)).2
 have I2:Inv X pins σ H1 { s1 with heap:=h',toks:=tk }:=I1.kept (t':=tk) fun c o e=>kp c o (Heap.lt_size e) e
 have tp:Kas.dj h' ((List.range ks.length).map fun i=>Value.ref (as.getD i 0)) ks:=by
  refine⟨by simp,fun i v k e1 e2=>?_⟩;rw[hm',List.getElem?_map] at e1;obtain⟨c,e3,rfl⟩:=Option.map_eq_some_iff.mp e1;obtain⟨k1,o,its',n',a1,a2,a3,a4⟩:=ht i c k e3 e2;exact⟨k1,c,o,its',n',rfl,kp c o (Heap.lt_size a1) a1,a2,a3,a4⟩
 refine Kst.jF (s:={ s1 with heap:=h',toks:=tk }) (show X.A.in1.handled=none from I1.ok.hd G.calm) W hS z1 z2 hpm tp (Kst.Dq z3) fun h2 tk2 l e hk2 hn2 hl2=>?_;rw[hm'] at hl2;obtain⟨hH,J⟩:=I2.laidAt (a:=l) (o:=.lst ws) (t':=tk2) (h':=h2) hk2 hn2 ⟨hz',as.map Value.ref,e,rv,hl2⟩;exact⟨.ref l,_,J,rfl,dG E1.sub r2 hH fun w H' Hs' E' R'=>hq w H' Hs' (E1.trans E') R'⟩
theorem GF{xs:List D}:(enD xs).length=xs.length:=by simp[enD]
theorem GJ{xs:List D}{i:Nat}{d:D}(h:(enD xs)[i]?=some d):∃ x,xs[i]?=some x/\d=.tup [.int (i:Int),x]:=by
 unfold enD at h;rw[List.getElem?_map] at h;obtain⟨⟨x,j⟩,e1,e2⟩:=Option.map_eq_some_iff.mp h;rw[List.getElem?_zipIdx] at e1;obtain⟨y,e3,e4⟩:=Option.map_eq_some_iff.mp e1;simp at e4;obtain⟨rfl,rfl⟩:=e4;exact⟨y,e3,e2.symm⟩
theorem Af{x:Str}{xs:List D}{p pos pt:Pos}{es:List Expr}{kt:Nat}(G:Good cx k X sc)(hx:aZ cx sc x=some "enumerate")(ha:Ev X ρ a (.tup xs))(hp:aD a=true) :
  EvI X ρ (.Tuple es kt pt) (.Call (.Name x p) [a] [] pos) (enD xs):=by
 obtain⟨hg,hm,rfl⟩:=bh G hx;intro σ H Hs R hs hst hq;have q:=DX (es:=es) (kt:=kt) (pt:=pt) (p:=p) (pos:=pos) hg hm (aV (ak (X:=X) (e:=a)) bO (aj hp)) (aj hp);refine PI.sem q (ha σ H Hs _ hs hst fun v H1 Hs1 E1 r1=>?_);obtain⟨c,vs,rfl,h1,h2⟩:=bw r1;refine⟨c,rfl,⟨vs,E1.sub.tup h1⟩,hq _ H1 Hs1 E1 fun Hs' H' e1 e2=>⟨⟨vs,e2.tup (e1.tup h1),by rw[GF,h2.length]⟩,fun i d hd=>?_⟩⟩;obtain⟨y,e3,rfl⟩:=GJ hd;obtain⟨w,g1,g2⟩:=h2.get e3;refine⟨⟨vs,w,e2.tup (e1.tup h1),g1⟩,fun u H2 yl=>?_⟩;obtain⟨p,hp',rfl,yl⟩:=yl;rw[yl vs w (e2.tup (e1.tup h1)) g1];refine⟨_,Ext.new e2 (.tup [.int (i:Int),w]) hp',?_⟩;have sm:=(Ext.new e2 (.tup [.int (i:Int),w]) hp').vis;simp only[Rep];exact⟨p,[.int (i:Int),w],rfl,.of aR,.cons (by simp[Rep]) (.cons (Rep.same sm _ _ (Rep.same e1 _ _ g2)) .nil)⟩
end
end L2
namespace L2
open PySem PySem.Spec PyProof.Rows DE PySem.SeqAt
theorem aK{α β:Type}{x:Option α}{f:α->Option β}{y:β}(h:(x >>=f)=some y):∃ a,x=some a/\f a=some y:=by
 cases x with
 | none=>cases h
 | some a=>exact⟨a,rfl,h⟩
def zR(X:Cx)(tg:Expr):TG:=fun v σ H Q=>∀ pins s u,Inv X pins σ H s->RelV v u->wpAny (model X.prog X.w) X.A (assign tg X.env u) (fun _ s'=>∃ σ' H',Inv X pins σ' H' s'/\Q σ' H') X.xe s
def Gd(X:Cx)(es:List Expr):TGs:=fun vs σ H Q=>∀ pins s us,Inv X pins σ H s->Vals vs us->wpAny (model X.prog X.w) X.A (assignInOrder ((assignEach es X.env).map (·.2)) us) (fun _ s'=>∃ σ' H',Inv X pins σ' H' s'/\Q σ' H') X.xe s
section
variable {X:Cx} {tg:Expr} {es:List Expr}
theorem fX:PG X tg (zR X tg):=fun pins s σ H v u Q I r h=>h pins s u I r
theorem PG.sem{t:TG}{v:V}{σ:St}{H:Hp}{Q:St->Hp->Prop}(h:PG X tg t)(q:t v σ H Q):zR X tg v σ H Q:=fun pins s u I r=>h pins s σ H v u Q I r q
theorem lu:PGs X es (Gd X es):=fun pins s σ H v u Q I r h=>h pins s u I r
theorem PGs.sem{t:TGs}{v:List V}{σ:St}{H:Hp}{Q:St->Hp->Prop}(h:PGs X es t)(q:t v σ H Q):Gd X es v σ H Q:=fun pins s u I r=>h pins s σ H v u Q I r q
end
theorem aB:∀ (ρ:Rho) (x:Str) (v:Sl),(bW ρ x v).map (·.1)=ρ.map (·.1)
 | [],_,_=>rfl
 | (y,s)::r,x,v=>by
  unfold bW;split
  ·rfl
  ·simp[aB r x v]
theorem aL:∀ {ρ:Rho} {x:Str} {v:Sl} {i:Nat},(ρ.map (·.1)).Nodup->(ρ.map (·.1))[i]?=some x->∀ j:Nat,(bW ρ x v)[j]?=if j=i then some (x,v) else ρ[j]?
 | [],x,v,i,_,h,_=>by simp at h
 | (y,s)::r,x,v,0,hn,h,j=>by
  simp at h;subst h
  cases j with
  | zero=>simp[bW]
  | succ j=>simp[bW]
 | (y,s)::r,x,v,i+1,hn,h,j=>by
  rw[List.map_cons,List.nodup_cons] at hn
  have h':(r.map (·.1))[i]?=some x:=by simpa using h
  have hne:(x==y)=false:=by
   rw[beq_eq_false_iff_ne];intro e;subst e;exact hn.1 (List.mem_of_getElem? h')
  simp only[bW,hne,Bool.false_eq_true,if_false]
  cases j with
  | zero=>simp
  | succ j =>
   have:=aL (v:=v) hn.2 h' j;simp only[List.getElem?_cons_succ,this,Nat.add_right_cancel_iff]
theorem bJ{l:List Str}{x:Str}(h:l.contains x=true):∃ i:Nat,l[i]?=some x:=by
 have:=List.mem_of_elem_eq_true h;exact List.mem_iff_getElem?.mp this
structure Owns (X:Cx) (scope:Scope):Prop where
 own:∀ x,ownIn scope x=true->Loc X.env.scope x/\(X.fn x=true\/X.env.scope.names.lookup x=some .local)
def j7(K:PySem.W.Frag)(Hs:Hp)(scope:Scope)(P:Rho->St->Prop):Prop:=∀ ρ σ (i:Nat) x d v,(ρ.map (·.1)).Nodup->(ρ.map (·.1))[i]?=some x->ownIn scope x=true->P ρ σ->Rep K Hs d v->P (bW ρ x (.sh d)) (σ.set i (some v))
section
variable {X:Cx} {scope:Scope} {Hs H:Hp} {P:Rho->St->Prop} {Q:St->Hp->Prop}
theorem oA{x:Str}{pos:Pos}{ρ ρ':Rho}{σ:St}{d:D}{v:V}(hO:Owns X scope)(hnd:X.N.Nodup)(hN:X.N=ρ.map (·.1))(KE:j7 X.K Hs scope P)(hb:(if ownIn scope x&&(ρ.map (·.1)).contains x then some (bW ρ x (.sh d)) else none)=some ρ')(hp:P ρ σ)(rd:Rep X.K Hs d v)
  (hq:∀ σ',X.N=ρ'.map (·.1)->P ρ' σ'->Q σ' H):zR X (.Name x pos) v σ H Q:=by
 split at hb
 ·rename_i hc
  cases hb;rw[Bool.and_eq_true] at hc;obtain⟨i,hi⟩:=bJ hc.2;obtain⟨h1,h2⟩:=hO.own x hc.1;exact PG.sem (Ea (i:=i) hnd (by rw[hN];exact hi) h1 h2) (hq _ (by rw[aB];exact hN) (KE ρ σ i x d v (by rw[<- hN];exact hnd) hi hc.1 hp rd))
 ·cases hb
theorem eY{env:Env}:∀ {es:List Expr} {ds:List D} {ρ ρ':Rho},bindNames scope es ds ρ=some ρ'->(assignEach es env).length=es.length/\(assignEach es env).findIdx? (·.1)=none/\es.length=ds.length
 | [],[],_,_,_=>⟨rfl,rfl,rfl⟩
 | [],d::ds,ρ,ρ',h=>by simp[bindNames] at h
 | e::es,[],ρ,ρ',h=>by cases e<;>simp[bindNames] at h
 | e::es,d::ds,ρ,ρ',h=>by
  cases e<;>try (simp[bindNames] at h;done)
  rename_i x pos;simp only[bindNames] at h;split at h
  ·obtain⟨h1,h2,h3⟩:=eY (env:=env) h
   refine⟨by show(assignEach es env).length+1=_;rw[h1];rfl,?_,by simp[h3]⟩
   show((false,assign (.Name x pos) env)::assignEach es env).findIdx? (·.1)=none;rw[List.findIdx?_cons];simp only[Bool.false_eq_true,if_false,h2];rfl
  ·cases h
theorem fj(hO:Owns X scope)(hnd:X.N.Nodup)(KE:j7 X.K Hs scope P):∀ {es:List Expr} {ds:List D} {vs:List V} {ρ ρ':Rho} {σ:St},X.N=ρ.map (·.1)->bindNames scope es ds ρ=some ρ'->P ρ σ->aJ X.K Hs ds vs->(∀ σ',X.N=ρ'.map (·.1)->P ρ' σ'->Q σ' H)->Gd X es vs σ H Q
 | [],[],vs,ρ,ρ',σ,hN,h,hp,rd,hq=>by
  simp only[bindNames,Option.some.injEq] at h;subst h;simp only[aJ] at rd;exact PGs.sem DY ⟨rd,hq _ hN hp⟩
 | [],d::ds,vs,ρ,ρ',σ,hN,h,hp,rd,hq=>by simp[bindNames] at h
 | e::es,[],vs,ρ,ρ',σ,hN,h,hp,rd,hq=>by cases e<;>simp[bindNames] at h
 | e::es,d::ds,vs,ρ,ρ',σ,hN,h,hp,rd,hq=>by
  cases e<;>try (simp[bindNames] at h;done)
  rename_i x pos;simp only[bindNames] at h;split at h
  ·rename_i hc
   simp only[aJ] at rd;obtain⟨v,r,rfl,r1,r2⟩:=rd;refine PGs.sem (yS fX lu) ⟨v,r,rfl,?_⟩;exact oA hO hnd hN KE (ρ':=bW ρ x (.sh d)) (by rw[if_pos hc]) hp r1 fun σ' hN' hp'=>fj hO hnd KE hN' h hp' r2 hq
  ·cases h
theorem pY{tg:Expr}{ρ ρ':Rho}{σ:St}{d:D}{v:V}(hc:X.calm=true)(hO:Owns X scope)(hnd:X.N.Nodup)(hs:Same Hs H)(hN:X.N=ρ.map (·.1))(KE:j7 X.K Hs scope P)(hb:fG scope tg d ρ=some ρ')(hp:P ρ σ)(rd:Rep X.K Hs d v)
  (hq:∀ σ',X.N=ρ'.map (·.1)->P ρ' σ'->Q σ' H):zR X tg v σ H Q:=by
 unfold fG at hb;split at hb
 ·exact oA hO hnd hN KE hb hp rd hq
 ·rename_i es k pos ds
  obtain⟨a,vs,rfl,h1,h2⟩:=bw rd;obtain⟨e1,e2,e3⟩:=eY (env:=X.env) hb;exact PG.sem (Bp hc lu e1 e2) ⟨a,vs,rfl,hs.tup h1,by rw[<- h2.length,e3],fj hO hnd KE hN hb hp h2 hq⟩
 ·cases hb
end
section
variable {X Xc:Cx} {scope sc:Scope} {cx:Cxt} {k:Nat} {ρ:Rho}
theorem jk:∀ {l:List Str},nF l=true->l.Nodup
 | [],_=>.nil
 | x::r,h=>by
  unfold nF at h;rw[Bool.and_eq_true] at h;refine List.nodup_cons.mpr ⟨fun hm=>?_,jk h.2⟩
  have:r.contains x=true:=by simpa using hm
  rw[this] at h;exact absurd h.1 (by decide)
theorem cL(G:Good cx k X sc)(h:gq sc scope=true):scope.kind=.function/\(scope.names.map (·.1)).Nodup/\∀ x,(x,NameKind.free)∈scope.names->X.env.kindOf x=some .cell\/X.env.kindOf x=some .free:=by
 unfold gq at h;rw[Bool.and_eq_true,Bool.and_eq_true] at h;refine⟨by simpa using h.1.1,jk h.1.2,fun x hx=>?_⟩;have:=List.all_eq_true.mp h.2 _ hx;show X.env.scope.names.lookup x=_\/X.env.scope.names.lookup x=_;rw[G.sce];simpa using this
theorem Iw(G:Good cx k X sc):relabel scope X.env=jJ scope sc:=by
 unfold relabel jJ Env.kindOf;rw[G.sce]
theorem Good.comp(G:Good cx k X sc)(C:CompOf X scope Xc)(h:gq sc scope=true):Good cx k Xc (jJ scope sc) where
 calm:=C.calm
 room:=by rw[C.A];exact G.room
 sce:=by rw[C.sc,Iw G]
 kind:=(cL G h).1
 nd:=by rw[C.N];exact(cL G h).2.1
 cst:=by rw[C.mg,C.K];exact G.cst
 blt:=by rw[C.mg];exact G.blt
 exs:=by rw[C.mg,C.K];exact G.exs
 fns:=by rw[C.mg,C.prog,C.w,C.K,C.base];exact G.fns
 kw:=by rw[C.K,C.w];exact G.kw
theorem Owns.comp(G:Good cx k X sc)(C:CompOf X scope Xc):Owns Xc scope where
 own:=fun x hx=>by
  unfold ownIn at hx;rw[Bool.or_eq_true] at hx
  have look:∀ kd,scope.names.lookup x=some kd->kd≠.free->Xc.env.scope.names.lookup x=some kd:=fun kd e hne=>by
   rw[C.sc];show(scope.names.map _).lookup x=_;rw[dD,e];simp[hne]
  rcases hx with hx | hx
  ·have e:scope.names.lookup x=some .local:=by simpa using hx
   have e2:=look _ e (by decide);exact⟨.inl e2,.inr e2⟩
  ·have e:scope.names.lookup x=some .cell:=by simpa using hx
   have e2:=look _ e (by decide);refine⟨.inr e2,.inl ?_⟩;rw[C.fn];show(scope.names.lookup x==some .cell)=true;rw[e];rfl
theorem cU:(bD scope ρ).map (·.1)=scope.names.map (·.1):=by
 unfold bD;rw[List.map_map];rfl
theorem jB{K:PySem.W.Frag}{Hs:Hp}{σ:St}{N:List Str}(hN:N=ρ.map (·.1))(h:cC K Hs ρ σ):cC K Hs (bD scope ρ) (pJ N scope.names σ):=by
 intro i x d e;unfold bD at e;rw[List.getElem?_map] at e;obtain⟨p,e1,e2⟩:=Option.map_eq_some_iff.mp e
 cases hk:p.2==NameKind.free with
 | false=>rw[hk] at e2;simp at e2
 | true =>
  rw[hk] at e2;simp only[if_true,Prod.mk.injEq] at e2;obtain⟨rfl,e2⟩:=e2
  have e3:ρ.lookup p.1=some (.sh d):=by
   cases q:ρ.lookup p.1 with
   | none=>rw[q] at e2;simp[Ln] at e2
   | some sl =>
    rw[q] at e2
    cases sl<;>simp[Ln] at e2
    rw[e2]
  obtain⟨j,g1,g2⟩:=bT e3;obtain⟨v,g3,g4⟩:=h j _ d g1;refine⟨v,?_,g4⟩;unfold pJ;rw[List.getElem?_map,e1];simp only[Option.map_some,hk,if_true];unfold qx;rw[hN,g2];simp[g3]
def CSt(K:PySem.W.Frag)(Hs:Hp)(n:Nat)(ρ0:Rho):Rho->St->Prop:=fun ρ σ=>σ.length=n/\cC K Hs ρ σ/\cC K Hs ρ0 σ
theorem m7{K:PySem.W.Frag}{Hs:Hp}{ρ:Rho}{σ:St}{i:Nat}{x:Str}{d:D}{v:V}(hn:(ρ.map (·.1)).Nodup)(hi:(ρ.map (·.1))[i]?=some x)(hl:i<σ.length)(h:cC K Hs ρ σ)(r:Rep K Hs d v):cC K Hs (bW ρ x (.sh d)) (σ.set i (some v)):=by
 intro j y d' e;rw[aL hn hi j] at e;split at e
 ·rename_i hj
  subst hj;cases e;exact⟨v,by rw[List.getElem?_set_self hl],r⟩
 ·rename_i hj
  obtain⟨w,h1,h2⟩:=h j y d' e;exact⟨w,by rw[List.getElem?_set_ne (fun z=>hj z.symm)];exact h1,h2⟩
theorem jX{K:PySem.W.Frag}{Hs:Hp}{n:Nat}(hnd:(scope.names.map (·.1)).Nodup)(hn:n=scope.names.length):j7 K Hs scope (fun ρ1 σ=>ρ1.map (·.1)=scope.names.map (·.1)/\CSt K Hs n (bD scope ρ) ρ1 σ):=by
 intro ρ1 σ i x d v h1 h2 h3 ⟨h4,h5,h6,h7⟩ r;refine⟨by rw[aB];exact h4,by rw[List.length_set];exact h5,?_,?_⟩
 ·have hi:i<σ.length:=by
   rw[h5,hn];have:=(List.getElem?_eq_some_iff.mp h2).1;rw[h4] at this;simpa using this
  exact m7 h1 h2 hi h6 r
 ·intro j y d' e
  obtain⟨w,g1,g2⟩:=h7 j y d' e;refine⟨w,?_,g2⟩
  have hj:i≠j:=by
   intro z;subst z;rw[h4] at h2;unfold bD at e;rw[List.getElem?_map] at e;rw[List.getElem?_map] at h2;obtain⟨p,e1,e2⟩:=Option.map_eq_some_iff.mp e;rw[e1] at h2
   have ex:p.1=x:=by simpa using h2
   cases hk:p.2==NameKind.free with
   | false=>rw[hk] at e2;simp at e2
   | true =>
    have ek:p.2=.free:=by simpa using hk
    have hm:=List.mem_of_getElem? e1;have:=bM (c:=p.2) hnd (by rw[show p=(x,p.2) from by rw[<- ex]] at hm;exact hm);unfold ownIn at h3;rw[this,ek] at h3;exact absurd h3 (by decide)
  rw[List.getElem?_set_ne hj];exact g1
def pN(X:Cx)(ifs:List Expr):TT:=fun σ H Q=>∀ pins s,Inv X pins σ H s->wpAny (model X.prog X.w) X.A (forIn ifs true fun c r=>if r=true then do let ok <- isTrue c X.env (eval c X.env);pure (ForInStep.yield ok) else pure (ForInStep.yield r)) (TP X pins σ Q) X.xe s
theorem eX{ifs:List Expr}:xZ X ifs (pN X ifs):=fun pins s σ H Q I h=>h pins s I
theorem xZ.sem{ifs:List Expr}{t:TT}{σ:St}{H:Hp}{Q:Bool->Hp->Prop}(h:xZ X ifs t)(q:t σ H Q):pN X ifs σ H Q:=fun pins s I=>h pins s σ H Q I q
theorem BZ{f:Expr->Option D}{ifs:List Expr}{b:Bool}(hf:∀ e d,f e=some d->Ev X ρ e d/\∀ b,d=.bl b->EvT X ρ e b)(h:lR f ifs=some b){σ:St}{H Hs:Hp}{Q:Bool->Hp->Prop}(hs:Same Hs H)(hst:cC X.K Hs ρ σ)(hq:∀ H' Hs',Ext Hs H Hs' H'->Q b H'):pN X ifs σ H Q:=by
 unfold lR at h;split at h
 ·cases h
  exact xZ.sem yO (hq H Hs (.refl hs))
 ·rename_i c
  cases hc:f c with
  | none=>rw[hc] at h;cases h
  | some d =>
   rw[hc] at h
   cases d<;>simp[asB] at h
   subst h;exact xZ.sem (yN dO) ((hf c _ hc).2 _ rfl σ H Hs Q hs hst hq)
 ·cases h
theorem Ext.acc{Hs H Hs' H':Hp}{acc:Addr}{o:HO}(E:Ext Hs H Hs' H')(h:H acc=none)(h':Hs' acc=none):Ext Hs H Hs' (upd H' acc o) where
 vis:=E.vis
 all:=fun b u e=>by rw[aH (aF e h)];exact E.all b u e
 sub:=fun b u e=>by rw[aH (aF e h')];exact E.sub b u e
 hid:=E.hid
theorem jD{f:D->Option (Option D)}{d:D}{r out:List D}(h:bB f (d::r)=some out):(∃ v o',f d=some (some v)/\bB f r=some o'/\out=v::o')\/(f d=some none/\bB f r=some out):=by
 simp only[bB,bind,Option.bind] at h
 cases hf:f d with
 | none=>rw[hf] at h;cases h
 | some o =>
  rw[hf] at h
  cases o with
  | none=>exact .inr ⟨rfl,h⟩
  | some v =>
   simp only[Option.map_eq_some_iff] at h;obtain⟨o',h1,rfl⟩:=h;exact .inl ⟨v,o',rfl,h1,rfl⟩
def nZ(cx:Cxt)(n:Nat)(sc scope:Scope)(ρ:Rho)(tg elt:Expr)(ifs:List Expr):D->Option (Option D):=fun d=>do
 let ρ1 <- fG scope tg d (bD scope ρ)
 let b <- lR (ev cx n (jJ scope sc) ρ1) ifs
 if b then(ev cx n (jJ scope sc) ρ1 elt).map some else some none
theorem jz{tg iter elt:Expr}{ifs:List Expr}{l out:List D}{n:Nat}(G:Good cx k X sc)(hN:X.N=ρ.map (·.1))(hok:gq sc scope=true)(hI:EvI X ρ tg iter l)(hz:szl l.length=true)(hgo:bB (nZ cx n sc scope ρ tg elt ifs) l=some out)
  (hE:∀ Xc,CompOf X scope Xc->∀ ρ1:Rho,Xc.N=ρ1.map (·.1)->∀ e d,ev cx n (jJ scope sc) ρ1 e=some d->Ev Xc ρ1 e d/\∀ b,d=.bl b->EvT Xc ρ1 e b)
  {σ:St} {H Hs:Hp} {Q:VK} (hs:Same Hs H) (hst:cC X.K Hs ρ σ) (hq:∀ acc vs Hs' H',Ext Hs H Hs' H'->H acc=none->Hs' acc=none->H' acc=some (.lst vs)->aJ X.K Hs' out vs->Q (.ref acc) H') :
  o8 X scope (oZ X tg iter) (pJ X.N scope.names) (fun Xc=>zR Xc tg) (fun Xc=>pN Xc ifs) (fun Xc=>oN Xc elt) σ H Q:=by
 obtain⟨ok1,ok2,ok3⟩:=cL G hok;refine hI σ H Hs _ hs hst fun J H1 Hs1 E1 hJ acc hacc Xc C=>?_;have GC:=G.comp C hok;have OC:=Owns.comp (scope:=scope) G C
 have hNc:∀ ρ1:Rho,ρ1.map (·.1)=scope.names.map (·.1)->Xc.N=ρ1.map (·.1):=fun ρ1 h=>by rw[C.N,h]
 have a1:Hs1 acc=none:=E1.sub.free hacc;have a0:H acc=none:=E1.all.free hacc
 let W:Nat->Nat->St->Hp->Prop:=fun i m σc H=>m=l.length-i/\i<=l.length/\∃ Hs3 ys pre rest,Ext Hs1 H1 Hs3 H/\Hs3 acc=none/\H acc=some (.lst ys)/\aJ X.K Hs3 pre ys/\bB (nZ cx n sc scope ρ tg elt ifs) (l.drop i)=some rest/\pre++rest=out/\pre.length<=i/\σc.length=scope.names.length/\cC X.K Hs3 (bD scope ρ) σc
 refine⟨W,⟨l.length,rfl,Nat.zero_le _,Hs1,[],[],out,Ext.acc (.refl E1.sub) hacc a1,a1,aR,.nil,by simpa using hgo,rfl,Nat.le_refl _,by simp[pJ],jB hN (hst.same E1.vis)⟩,?_⟩;rintro i m σc H3 ⟨rfl,hi,Hs3,ys,pre,rest,E3,b3,c3,r3,g3,p3,q3,l3,s3⟩;obtain⟨st3,go3⟩:=hJ Hs3 H3 E3.vis E3.sub
 by_cases hlt:i<l.length
 ·have hd:l[i]?=some l[i]:=List.getElem?_eq_getElem hlt
  obtain⟨gi,yi⟩:=go3 i l[i] hd;refine .inr ⟨gi,fun σ' H'=>W (i+1) (l.length-(i+1)) σ' H',fun σ' H' w=>⟨_,by omega,w⟩,fun x H4 y4=>?_⟩;obtain⟨Hs4,E4,rx⟩:=yi x H4 y4;have b4:Hs4 acc=none:=E4.hid acc _ c3 b3;have c4:H4 acc=some (.lst ys):=E4.all _ _ c3;rw[List.drop_eq_getElem_cons hlt] at g3
  have key:∃ ρ1,fG scope tg l[i] (bD scope ρ)=some ρ1/\∃ b,lR (ev cx n (jJ scope sc) ρ1) ifs=some b/\((b=true/\∃ v o',ev cx n (jJ scope sc) ρ1 elt=some v/\bB (nZ cx n sc scope ρ tg elt ifs) (l.drop (i+1))=some o'/\rest=v::o')\/(b=false/\bB (nZ cx n sc scope ρ tg elt ifs) (l.drop (i+1))=some rest)):=by
   have inv:∀ o,nZ cx n sc scope ρ tg elt ifs l[i]=some o->∃ ρ1,fG scope tg l[i] (bD scope ρ)=some ρ1/\∃ b,lR (ev cx n (jJ scope sc) ρ1) ifs=some b/\(if b then(ev cx n (jJ scope sc) ρ1 elt).map some else some none)=some o:=by
    intro o h;obtain⟨ρ1,h1,h⟩:=aK h;obtain⟨b,h2,h⟩:=aK h;exact⟨ρ1,h1,b,h2,h⟩
   rcases jD g3 with⟨v,o',f1,f2,f3⟩ | ⟨f1,f2⟩
   ·obtain⟨ρ1,h1,b,h2,h3⟩:=inv _ f1
    refine⟨ρ1,h1,b,h2,?_⟩
    cases b with
    | false=>simp at h3
    | true =>
     simp only[if_true,Option.map_eq_some_iff] at h3;obtain⟨w,h3,h4⟩:=h3;have h5:w=v:=Option.some.inj h4;subst h5;exact .inl ⟨rfl,w,o',h3,f2,f3⟩
   ·obtain⟨ρ1,h1,b,h2,h3⟩:=inv _ f1
    refine⟨ρ1,h1,b,h2,?_⟩
    cases b with
    | true=>simp at h3
    | false=>exact .inr ⟨rfl,f2⟩
  obtain⟨ρ1,k1,b,k2,k3⟩:=key;have s4:cC X.K Hs4 (bD scope ρ) σc:=s3.same E4.vis;have KE:=jX (K:=Xc.K) (Hs:=Hs4) (ρ:=ρ) (n:=scope.names.length) ok2 rfl;refine pY (X:=Xc) (scope:=scope) (Hs:=Hs4) GC.calm OC GC.nd E4.sub (hNc _ cU) KE k1 ⟨cU,l3,by rw[C.K];exact s4,by rw[C.K];exact s4⟩ (by rw[C.K];exact rx) fun σ5 hN5 p5=>?_;obtain⟨_,l5,s5,s5'⟩:=p5;have hev:=hE Xc C ρ1 hN5;refine BZ hev k2 E4.sub s5 fun H6 Hs6 E6=>?_;have b6:Hs6 acc=none:=E6.hid acc _ c4 b4;have c6:H6 acc=some (.lst ys):=E6.all _ _ c4
  have s6:cC X.K Hs6 (bD scope ρ) σ5:=by rw[<- C.K];exact s5'.same E6.vis
  rcases k3 with⟨rfl,v,o',k3,k4,k5⟩ | ⟨rfl,k3⟩
  ·refine tV ((hev elt v k3).1 σ5 H6 Hs6 _ E6.sub (s5.same E6.vis) fun w H7 Hs7 E7 r7=>?_)
   have b7:Hs7 acc=none:=E7.hid acc _ c6 b6;have c7:H7 acc=some (.lst ys):=E7.all _ _ c6;refine⟨ys,c7,?_,rfl,hlt,Hs7,ys++[w],pre++[v],o',Ext.acc (E3.trans (E4.trans (E6.trans E7))) hacc b7,b7,aR,?_,k4,?_,by simp;omega,l5,s6.same E7.vis⟩
   ·have:=r3.length
    have:=qg hz;omega
   ·rw[<- C.K]
    refine aJ.append ?_ (.cons r7 .nil);rw[C.K];exact aJ.same (E4.trans (E6.trans E7)).vis pre ys r3
   ·rw[<- p3,k5];simp
  ·refine vW ?_
   exact⟨rfl,hlt,Hs6,ys,pre,rest,E3.trans (E4.trans E6),b6,c6,aJ.same (E4.trans E6).vis pre ys r3,k3,p3,by omega,l5,s6⟩
 ·have hi':i=l.length:=by omega
  subst hi';refine .inl ⟨st3,?_⟩;rw[List.drop_length] at g3;simp only[bB,Option.some.injEq] at g3;subst g3;rw[List.append_nil] at p3;subst p3;exact hq acc ys Hs3 H3 (E1.trans E3) a0 b3 c3 r3
end
end L2
namespace L2
open PySem PySem.Spec PyProof.Rows DE PySem.SeqAt
def bIs(b:Bool):Value->Bool
 | .bool y=>y==b
 | _=>false
theorem oX:∀ {bs:List Bool} {its:List Value},Vals (bs.map V.bl) its->its=bs.map Value.bool
 | [],its,r=>by cases r;rfl
 | b::bs,its,r=>by
  obtain⟨u,w,rfl,r1,r2⟩:=jK r;cases (show u=Value.bool b from r1);rw[oX r2];rfl
theorem Cg(b:Bool):∀ bs:List Bool,(bs.map Value.bool).countP (bIs b)=cntB b bs
 | []=>rfl
 | c::bs=>by
  rw[List.map_cons,List.countP_cons,Cg b bs];unfold cntB;rw[List.filter_cons];show _+(if(c==b)=true then 1 else 0)=_
  cases c==b<;>simp
theorem Rw{b:Bool}:∀ (bs:List Bool) (m:Nat) (h:m<bs.length),m<bs.idxOf b->(bs[m]==b)=false
 | [],m,h,_=>absurd h (by simp)
 | c::bs,m,h,hl=>by
  rw[List.idxOf_cons] at hl
  cases hc:c==b with
  | true=>rw[hc] at hl;simp at hl
  | false =>
   cases m with
   | zero=>simpa using hc
   | succ m =>
    rw[hc] at hl;simp only[cond_false] at hl;simpa using Rw bs m (by simpa using h) (by omega)
section
variable {X:Cx} {ρ:Rho} {cx:Cxt} {k:Nat} {sc scope:Scope}
def IV(K:PySem.W.Frag):V->List V->Hp->VK->Prop:=fun x vs H Q=>∃ (l:Addr) (bs:List Bool) (b:Bool),x=.ref l/\vs=[.bl b]/\SqL K H l (bs.map V.bl)/\Q (.int (cntB b bs:Nat)) H
theorem zA:MtM X "list.count" (IV X.K):=by
 intro pins s σ H x vs v us Q I rx rv h;obtain⟨l,bs,b,rfl,rfl,hB,q⟩:=h;cases (show v=Value.ref l from rx);obtain⟨u,rfl,ru⟩:=rv.one;cases (show u=Value.bool b from ru);obtain⟨its2,r2,pl,hz2⟩:=I.list hB;have ei:=oX r2;subst ei;obtain⟨⟨c2,dd2,data2,sl2⟩,n2,e2,hc2,hd2,hs2⟩:=pl;simp only at hc2 hs2;obtain⟨h3,h4⟩:=(show dd2=none/\data2=.seq (bs.map Value.bool).toArray n2 from⟨hd2,hs2⟩);subst hc2 h4;refine call_meets F.slot_list_count ⟨_,e2,rfl⟩ F.entry_list_count (F.args_list_count_2 _ _) (list_countAt l (bs.map Value.bool).toArray n2 dd2 sl2 (.bool b) (bIs b)) ⟨e2,fun y hy=>?_,?_⟩
 ·have hy':y∈bs.map Value.bool:=by simpa using hy
  obtain⟨c,_,rfl⟩:=List.mem_map.mp hy';exact EqAt.bool_bool c b
 ·rw[show(bs.map Value.bool).toArray.toList=bs.map Value.bool from rfl,Cg]
  exact⟨.int _,H,I.tok _,⟨_,rfl⟩,q⟩
def IK(K:PySem.W.Frag):V->List V->Hp->VK->Prop:=fun x vs H Q=>∃ (l:Addr) (bs:List Bool) (b:Bool),x=.ref l/\vs=[.bl b]/\SqL K H l (bs.map V.bl)/\bs.contains b=true/\Q (.int (bs.idxOf b:Nat)) H
theorem zy:MtM X "list.index" (IK X.K):=by
 intro pins s σ H x vs v us Q I rx rv h;obtain⟨l,bs,b,rfl,rfl,hB,hin,q⟩:=h;cases (show v=Value.ref l from rx);obtain⟨u,rfl,ru⟩:=rv.one;cases (show u=Value.bool b from ru);obtain⟨its2,r2,pl,hz2⟩:=I.list hB;have ei:=oX r2;subst ei;obtain⟨⟨c2,dd2,data2,sl2⟩,n2,e2,hc2,hd2,hs2⟩:=pl;simp only at hc2 hs2;obtain⟨h3,h4⟩:=(show dd2=none/\data2=.seq (bs.map Value.bool).toArray n2 from⟨hd2,hs2⟩);subst hc2 h4;have hj:bs.idxOf b<bs.length:=List.idxOf_lt_length_iff.mpr (by simpa using hin);have hn:=jW
 have hz3:bs.length<=sizeLine:=by simpa using hz2
 refine call_meets F.slot_list_index ⟨_,e2,rfl⟩ F.entry_list_index (F.args_list_index_2 _ _) (list_indexAt l (bs.map Value.bool).toArray n2 dd2 sl2 (.bool b) (bIs b) (bs.idxOf b) (by simpa using hj) (by omega) ?_ ?_) ⟨e2,fun y hy=>?_,?_⟩
 ·simp only[List.getElem_toArray,List.getElem_map,bIs]
  simpa using List.getElem_idxOf hj
 ·intro m hm hlt
  simp only[List.getElem_toArray,List.getElem_map,bIs];exact Rw bs m (by simpa using hm) hlt
 ·have hy':y∈bs.map Value.bool:=by simpa using hy
  obtain⟨c,_,rfl⟩:=List.mem_map.mp hy';exact EqAt.bool_bool c b
 ·exact⟨.int _,H,I.tok _,⟨_,rfl⟩,q⟩
def sIs(c:Str):Value->Bool
 | .str y _=>y==c
 | _=>false
theorem qm:∀ {ss:List Str} {its:List Value},Vals (ss.map V.str) its->∀ (i:Nat) (h:i<its.length) (h':i<ss.length),∃ t,its[i]=Value.str ss[i] t
 | [],its,r,i,h,h'=>absurd h' (by simp)
 | c::ss,its,r,i,h,h'=>by
  rw[List.map_cons] at r;obtain⟨u,w,rfl,r1,r2⟩:=jK r
  cases i with
  | zero=>exact r1
  | succ i=>exact qm r2 i (by simpa using h) (by simpa using h')
def Dv(K:PySem.W.Frag):V->List V->Hp->VK->Prop:=fun x vs H Q=>∃ (l:Addr) (ss:List Str) (c:Str),x=.ref l/\vs=[.str c]/\SqL K H l (ss.map V.str)/\ss.contains c=true/\Q (.int (ss.idxOf c:Nat)) H
theorem vD:MtM X "list.index" (Dv X.K):=by
 intro pins s σ H x vs v us Q I rx rv h;obtain⟨l,ss,c,rfl,rfl,hB,hin,q⟩:=h;cases (show v=Value.ref l from rx);obtain⟨u,rfl,ru⟩:=rv.one;obtain⟨tu,eu⟩:=(show ∃ t,u=Value.str c t from ru);subst eu;obtain⟨its2,r2,pl,hz2⟩:=I.list hB;have hl:=r2.length;rw[List.length_map] at hl;obtain⟨⟨c2,dd2,data2,sl2⟩,n2,e2,hc2,hd2,hs2⟩:=pl;simp only at hc2 hs2;obtain⟨h3,h4⟩:=(show dd2=none/\data2=.seq its2.toArray n2 from⟨hd2,hs2⟩);subst hc2 h4;have hj:ss.idxOf c<ss.length:=List.idxOf_lt_length_iff.mpr (by simpa using hin);have hn:=jW
 have hz3:ss.length<=sizeLine:=by simpa using hz2
 refine call_meets F.slot_list_index ⟨_,e2,rfl⟩ F.entry_list_index (F.args_list_index_2 _ _) (list_indexAt l its2.toArray n2 dd2 sl2 (.str c tu) (sIs c) (ss.idxOf c) (by simpa[<- hl] using hj) (by omega) ?_ ?_) ⟨e2,fun y hy=>?_,?_⟩
 ·obtain⟨t,e⟩:=qm r2 (ss.idxOf c) (by omega) hj
  simp only[List.getElem_toArray,e,sIs];simpa using List.getElem_idxOf hj
 ·intro m hm hlt
  obtain⟨t,e⟩:=qm r2 m (by omega) (by omega);simp only[List.getElem_toArray,e,sIs];have:=List.not_of_lt_findIdx hlt;simpa using this
 ·obtain⟨i,hi,rfl⟩:=List.mem_iff_getElem.mp (show y∈its2 by simpa using hy)
  obtain⟨t,e⟩:=qm r2 i hi (by omega);rw[e];exact EqAt.str_str _ t c tu
 ·exact⟨.int _,H,I.tok _,⟨_,rfl⟩,q⟩
theorem qZ{o:Expr}{m:Str}{e:Expr}{x z d:D}{ap cp:Pos}(hB0:attributeBase o m X.env (eval o X.env)=eval o X.env)(ha:Ev X ρ o x)(he:Ev X ρ e z)(hp:aD e=true)(hline:(ap.endLine==cp.line)=true)(h:lM m x z=some d):Ev X ρ (.Call (.Attribute o m ap) [e] [] cp) d:=by
 unfold lM at h;split at h
 ·rename_i xs b
  obtain⟨bs,hb,h2⟩:=aK h;clear h;intro σ H Hs Q hs hst hq;split at h2
  ·rename_i hm
   have em:m="count":=by simpa using hm
   subst em;cases h2;refine(pF PySem.F.plainAttrs_list PySem.F.slot_list_count PySem.F.type_list_count zA ak (aV ak bO (aj hp)) hB0 (by rw[aj hp];rfl) hline (aj hp) rfl).sem ?_;refine ha σ H Hs _ hs hst fun v H1 Hs1 E1 r1=>?_;obtain⟨l,vs,rfl,g1,g2⟩:=aU r1;have ev:=gA hb g2;subst ev;refine⟨.inl ⟨rfl,_,E1.sub.seq g1⟩,?_⟩;refine he σ H1 Hs1 _ E1.sub (hst.same E1.vis) fun v2 H2 Hs2 E2 r2=>?_;rw[cH r2];exact⟨l,bs,b,rfl,rfl,E2.sub.seq (E2.vis.seq g1),hq _ H2 Hs2 (E1.trans E2) (by simp[Rep])⟩
  ·split at h2
   ·rename_i hm
    rw[Bool.and_eq_true] at hm
    have em:m="index":=by simpa using hm.1
    subst em;cases h2;refine(pF PySem.F.plainAttrs_list PySem.F.slot_list_index PySem.F.type_list_index zy ak (aV ak bO (aj hp)) hB0 (by rw[aj hp];rfl) hline (aj hp) rfl).sem ?_;refine ha σ H Hs _ hs hst fun v H1 Hs1 E1 r1=>?_;obtain⟨l,vs,rfl,g1,g2⟩:=aU r1;have ev:=gA hb g2;subst ev;refine⟨.inl ⟨rfl,_,E1.sub.seq g1⟩,?_⟩;refine he σ H1 Hs1 _ E1.sub (hst.same E1.vis) fun v2 H2 Hs2 E2 r2=>?_;rw[cH r2];exact⟨l,bs,b,rfl,rfl,E2.sub.seq (E2.vis.seq g1),hm.2,hq _ H2 Hs2 (E1.trans E2) (by simp[Rep])⟩
   ·cases h2
 ·rename_i xs c
  obtain⟨ss,hss,h2⟩:=aK h;clear h;intro σ H Hs Q hs hst hq;split at h2
  ·rename_i hm
   rw[Bool.and_eq_true] at hm
   have em:m="index":=by simpa using hm.1
   subst em;cases h2;refine(pF PySem.F.plainAttrs_list PySem.F.slot_list_index PySem.F.type_list_index vD ak (aV ak bO (aj hp)) hB0 (by rw[aj hp];rfl) hline (aj hp) rfl).sem ?_;refine ha σ H Hs _ hs hst fun v H1 Hs1 E1 r1=>?_;obtain⟨l,vs,rfl,g1,g2⟩:=aU r1;have ev:=mJ hss g2;subst ev;refine⟨.inl ⟨rfl,_,E1.sub.seq g1⟩,?_⟩;refine he σ H1 Hs1 _ E1.sub (hst.same E1.vis) fun v2 H2 Hs2 E2 r2=>?_;rw[show v2=.str c by simpa[Rep] using r2];exact⟨l,ss,c,rfl,rfl,E2.sub.seq (E2.vis.seq g1),hm.2,hq _ H2 Hs2 (E1.trans E2) (by simp[Rep])⟩
  ·cases h2
 ·cases h
end
end L2
namespace L2
open PySem PySem.Spec PyProof.Rows DE PySem.SeqAt
theorem Ext.shown{Hs H Hs' H':Hp}{acc:Addr}{o:HO}(E:Ext Hs H Hs' H')(h:H acc=none)(h1:Hs' acc=none)(h2:H' acc=some o):Ext Hs H (upd Hs' acc o) H' where
 vis:=fun b u e=>by rw[aH (aF (E.vis b u e) h1)];exact E.vis b u e
 all:=E.all
 sub:=fun b u e=>by
  by_cases hb:b=acc
  ·subst hb;rw[aR] at e;rw[h2];exact e
  ·rw[aH hb] at e;exact E.sub b u e
 hid:=fun b u e n=>by rw[aH (aF e h)];exact E.hid b u e n
section
variable {X:Cx} {ρ:Rho} {cx:Cxt} {k:Nat} {sc scope:Scope}
theorem Gu{tg iter elt:Expr}{ifs:List Expr}{l out:List D}{n:Nat}{pos:Pos}(G:Good cx k X sc)(hN:X.N=ρ.map (·.1))(hok:gq sc scope=true)(hI:EvI X ρ tg iter l)(hp:aD iter=true)(hz:szl l.length=true)(hgo:bB (nZ cx n sc scope ρ tg elt ifs) l=some out)
  (hE:∀ Xc,CompOf X scope Xc->∀ ρ1:Rho,Xc.N=ρ1.map (·.1)->∀ e d,ev cx n (jJ scope sc) ρ1 e=some d->Ev Xc ρ1 e d/\∀ b,d=.bl b->EvT Xc ρ1 e b) :
  Ev X ρ (.ListComp elt [⟨tg,iter,ifs,0⟩] scope pos) (.lst out):=by
 obtain⟨ok1,ok2,ok3⟩:=cL G hok;intro σ H Hs Q hs hst hq;refine PE.sem (lC G.calm ok1 ok2 ok3 jh (fun Xc C=>⟨fX,eX,ak⟩) (cW hp)) (jz G hN hok hI hz hgo hE hs hst fun acc vs Hs' H' E1 h1 h2 h3 r=>?_);have E2:=E1.shown h1 h2 h3;refine hq _ H' _ E2 ?_;simp only[Rep];refine⟨acc,vs,rfl,.of aR,aJ.same (fun b u e=>?_) out vs r⟩;rw[aH (aF e h2)];exact e
def WkP (cx : Cxt) (sc : Scope) (e : Expr) : Wk -> Prop
    | .r1 a=>∃ x p pos,e=.Call (.Name x p) [a] [] pos/\aZ cx sc x=some "range"
    | .r2 a b=>∃ x p pos,e=.Call (.Name x p) [a,b] [] pos/\aZ cx sc x=some "range"
    | .r3 a b c=>∃ x p pos,e=.Call (.Name x p) [a,b,c] [] pos/\aZ cx sc x=some "range"
    | .zp a b=>∃ x p pos,e=.Call (.Name x p) [a,b] [] pos/\aZ cx sc x=some "zip"
    | .rv a=>∃ x p pos,e=.Call (.Name x p) [a] [] pos/\aZ cx sc x=some "reversed"
    | .en a=>∃ x p pos,e=.Call (.Name x p) [a] [] pos/\aZ cx sc x=some "enumerate"
    | .sq=>True
theorem Hw{e:Expr}:WkP cx sc e (oW cx sc e):=by
 unfold oW;split
 ·rename_i x p args pos
  split
  ·rename_i h
   split
   ·exact⟨x,p,pos,rfl,h⟩
   ·exact⟨x,p,pos,rfl,h⟩
   ·exact⟨x,p,pos,rfl,h⟩
   ·trivial
  ·rename_i h
   split
   ·exact⟨x,p,pos,rfl,h⟩
   ·trivial
  ·rename_i h
   split
   ·exact⟨x,p,pos,rfl,h⟩
   ·trivial
  ·rename_i h
   split
   ·exact⟨x,p,pos,rfl,h⟩
   ·trivial
  ·trivial
 ·trivial
theorem bK{x:Option D}{i:Int}(h:x.bind asI=some i):x=some (.int i):=by
 obtain⟨d,h1,h2⟩:=aK (show(x >>=asI)=some i from h)
 cases d<;>simp[asI] at h2
 subst h2;exact h1
theorem fu{x:Option D}{i:Bool}(h:x.bind asB=some i):x=some (.bl i):=by
 obtain⟨d,h1,h2⟩:=aK (show(x >>=asB)=some i from h)
 cases d<;>simp[asB] at h2
 subst h2;exact h1
theorem nH{x:Option D}{i:List D}(h:x.bind zB=some i):x=some (.lst i):=by
 obtain⟨d,h1,h2⟩:=aK (show(x >>=zB)=some i from h)
 cases d<;>simp[zB] at h2
 subst h2;exact h1
theorem wC{f:Expr->Option D}{tg e:Expr}{l:List D}(G:Good cx k X sc)(hf:∀ e d,f e=some d->Ev X ρ e d/\aD e=true)(h:evI cx (eH tg) f sc e=some l):EvI X ρ tg e l/\aD e=true:=by
 unfold evI at h;have w:=Hw (cx:=cx) (sc:=sc) (e:=e);split at h
 ·rename_i a hw
  rw[hw] at w;obtain⟨x,p,pos,rfl,hx⟩:=w;obtain⟨j,h1,h⟩:=aK h;split at h
  ·rename_i hj
   cases h;obtain⟨ha,hp⟩:=hf _ _ (bK h1);exact⟨tH G hx ha hp hj,rfl⟩
  ·cases h
 ·rename_i a b hw
  rw[hw] at w;obtain⟨x,p,pos,rfl,hx⟩:=w;obtain⟨i,h1,h⟩:=aK h;obtain⟨j,h2,h⟩:=aK h;split at h
  ·rename_i hj
   cases h;rw[Bool.and_eq_true] at hj;obtain⟨ha,hp⟩:=hf _ _ (bK h1);obtain⟨hb,hpb⟩:=hf _ _ (bK h2);exact⟨tG G hx ha hp hb hpb hj.1 hj.2,rfl⟩
  ·cases h
 ·rename_i a b c hw
  rw[hw] at w;obtain⟨x,p,pos,rfl,hx⟩:=w;obtain⟨i,h1,h⟩:=aK h;obtain⟨j,h2,h⟩:=aK h;obtain⟨s,h3,h⟩:=aK h;split at h
  ·rename_i hj
   simp only[Bool.and_eq_true,decide_eq_true_eq] at hj;obtain⟨⟨rfl,hj1⟩,hj2⟩:=hj;cases h;obtain⟨ha,hp⟩:=hf _ _ (bK h1);obtain⟨hb,hpb⟩:=hf _ _ (bK h2);obtain⟨hc,hpc⟩:=hf _ _ (bK h3);exact⟨tE G hx ha hp hb hpb hc hpc hj1 hj2,rfl⟩
  ·cases h
 ·rename_i a b hw
  rw[hw] at w;obtain⟨x,p,pos,rfl,hx⟩:=w;obtain⟨d1,h1,h⟩:=aK h;obtain⟨d2,h2,h⟩:=aK (show(f b >>=fun y=>if eH tg=true then Kr d1 y else none)=some l from h);have h':(if eH tg=true then Kr d1 d2 else none)=some l:=h;clear h;split at h'
  ·rename_i ht
   obtain⟨ha,hp⟩:=hf _ _ h1;obtain⟨hb,hpb⟩:=hf _ _ h2
   cases tg<;>simp[eH] at ht
   unfold Kr at h';split at h'
   ·cases h';exact⟨Gz G hx ha hp hb hpb,rfl⟩
   ·cases h';exact⟨Ae G hx ha hp hb hpb,rfl⟩
   ·simp at h'
   ·simp at h'
   ·cases h'
  ·cases h'
 ·rename_i a hw
  rw[hw] at w;obtain⟨x,p,pos,rfl,hx⟩:=w;obtain⟨xs,h1,h⟩:=aK h;cases h;obtain⟨ha,hp⟩:=hf _ _ (nH h1);exact⟨wB G hx ha hp,rfl⟩
 ·rename_i a hw
  rw[hw] at w;obtain⟨x,p,pos,rfl,hx⟩:=w;obtain⟨d1,h1,h⟩:=aK h;split at h
  ·rename_i ht
   obtain⟨us,hu,rfl⟩:=Option.map_eq_some_iff.mp h;obtain⟨ha,hp⟩:=hf _ _ h1
   cases tg<;>simp[eH] at ht
   cases d1<;>simp[tupI] at hu
   subst hu;exact⟨Af G hx ha hp,rfl⟩
  ·cases h
 ·obtain⟨d,h1,h2⟩:=aK (show(f e >>=items)=some l from h)
  obtain⟨ha,hp⟩:=hf _ _ h1;exact⟨GD ha h2,hp⟩
theorem CK{t:Expr}{T:String}(h:tyOf cx sc t=some T):∃ x p,t=.Name x p/\aZ cx sc x=some T:=by
 unfold tyOf at h;split at h
 ·exact⟨_,_,rfl,h⟩
 ·cases h
def WcP (cx : Cxt) (sc : Scope) (b : String) (args : List Expr) : Wc -> Prop
    | .lr1 a=>∃ x p pos,args=[.Call (.Name x p) [a] [] pos]/\aZ cx sc x=some "range"/\b="list"
    | .lr2 a a'=>∃ x p pos,args=[.Call (.Name x p) [a,a'] [] pos]/\aZ cx sc x=some "range"/\b="list"
    | .tv a=>∃ x p pos,args=[.Call (.Name x p) [a] [] pos]/\aZ cx sc x=some "reversed"/\b="tuple"
    | .tr1 a=>∃ x p pos,args=[.Call (.Name x p) [a] [] pos]/\aZ cx sc x=some "range"/\b="tuple"
    | .ls a=>∃ x p pos,args=[.Call (.Name x p) [a] [] pos]/\aZ cx sc x=some "set"/\b="sorted"
    | .al=>True
theorem K8{b:String}{args:List Expr}:WcP cx sc b args (yj cx sc b args):=by
 unfold yj;split
 ·rename_i e
  have w:=Hw (cx:=cx) (sc:=sc) (e:=e);split
  ·rename_i hw
   rw[hw] at w;obtain⟨x,p,pos,rfl,hx⟩:=w;exact⟨x,p,pos,rfl,hx,rfl⟩
  ·rename_i hw
   rw[hw] at w;obtain⟨x,p,pos,rfl,hx⟩:=w;exact⟨x,p,pos,rfl,hx,rfl⟩
  ·rename_i hw
   rw[hw] at w;obtain⟨x,p,pos,rfl,hx⟩:=w;exact⟨x,p,pos,rfl,hx,rfl⟩
  ·rename_i hw
   rw[hw] at w;obtain⟨x,p,pos,rfl,hx⟩:=w;exact⟨x,p,pos,rfl,hx,rfl⟩
  ·split
   ·rename_i a ha
    unfold Qs at ha;split at ha
    ·rename_i y q a' q' _
     split at ha
     ·rename_i hb
      cases ha;exact⟨y,q,q',rfl,by simpa using hb,rfl⟩
     ·cases ha
    ·cases ha
   ·trivial
  ·trivial
 ·trivial
end
theorem cG(cx:Cxt):∀ (n:Nat) {k:Nat} {X:Cx} {sc:Scope} {ρ:Rho} {e:Expr} {d:D},Good cx k X sc->X.N=ρ.map (·.1)->ev cx n sc ρ e=some d->Ev X ρ e d/\∀ b,d=.bl b->EvT X ρ e b
 | 0,k,X,sc,ρ,e,d,_,_,h=>by exact nomatch (show(Option.none:Option D)=some d from h)
 | n+1,k,X,sc,ρ,e,d,G,hN,h=>by
  have ih:∀ e d,ev cx n sc ρ e=some d->Ev X ρ e d/\∀ b,d=.bl b->EvT X ρ e b:=fun e d h=>cG cx n G hN h;have ihp:∀ e d,ev cx n sc ρ e=some d->Ev X ρ e d/\aD e=true:=fun e d h=>⟨(ih e d h).1,aM h⟩;have val:∀ {e d},(∀ whole,isTrue e X.env whole=(do let v <- whole;standAt e.pos;holding [v] (truthy v)))->Ev X ρ e d->Ev X ρ e d/\∀ b,d=.bl b->EvT X ρ e b:=fun he h1=>⟨h1,fun b hb=>by subst hb;exact Gx h1 he⟩
  cases e with
  | Name x pos =>
   simp only[ev] at h;split at h
   ·rename_i hp
    refine val (fun _=>rfl) ?_
    have fin:∀ kd,sc.names.lookup x=some kd->(kd=.local\/kd=.cell\/kd=.free)->(match ρ.lookup x with | some (.sh d)=>some d | _=>none)=some d->Ev X ρ (.Name x pos) d:=by
     intro kd hk hkd hm;split at hm
     ·rename_i d' hl
      cases hm;refine Gm hN ?_ hp hl;unfold Vis;rw[G.sce,hk];rcases hkd with rfl | rfl | rfl
      ·exact .inl rfl
      ·exact .inr (.inl rfl)
      ·exact .inr (.inr rfl)
     ·cases hm
    split at h
    ·rename_i hk;exact fin _ hk (.inl rfl) h
    ·rename_i hk;exact fin _ hk (.inr (.inl rfl)) h
    ·rename_i hk;exact fin _ hk (.inr (.inr rfl)) h
    ·rename_i hk
     obtain⟨v,u,h0,h1,h2⟩:=G.cst x d h;exact Kc (show X.env.scope.names.lookup x=_ by rw[G.sce];exact hk) h0 h1 h2 hp
    ·cases h
   ·cases h
  | Constant c j pos =>
   simp only[ev] at h;exact val (fun _=>rfl) (z6 h)
  | BinOp a op b pos =>
   simp only[ev] at h;obtain⟨x,h1,h⟩:=aK h;obtain⟨y,h2,h⟩:=aK h;exact val (fun _=>rfl) (Aa (ih _ _ h1).1 (ih _ _ h2).1 h)
  | UnaryOp op a pos =>
   simp only[ev] at h;obtain⟨x,h1,h⟩:=aK h
   cases op<;>simp only[Option.map_eq_some_iff] at h<;>try (cases h;done)
   ·obtain⟨b,h2,rfl⟩:=h
    cases x<;>simp[asB] at h2
    subst h2;refine⟨J6 (ih _ _ h1).1,fun c hc=>?_⟩;cases hc;exact Gy ((ih _ _ h1).2 _ rfl)
   ·obtain⟨i,h2,rfl⟩:=h
    cases x<;>simp[asI] at h2
    subst h2;exact val (fun _=>rfl) (J7 (ih _ _ h1).1)
  | BoolOp op es pos =>
   simp only[ev] at h;obtain⟨h1,h2⟩:=nR (pos:=pos) (fun e _ d hd=>ih e d hd) h;exact⟨h1,fun b hb=>(h2 b hb).t⟩
  | Compare a ops bs pos =>
   simp only[ev] at h;split at h
   ·obtain⟨x,h1,h⟩:=aK h
    obtain⟨y,h2,h⟩:=aK h;exact Gv G.room (ih _ _ h1).1 (ih _ _ h2).1 (aM h2) h
   ·split at h
    ·cases h
    rename_i e3 hpl
    have hpl':aD e3=true:=by simpa using hpl
    obtain⟨x,h1,h⟩:=aK h;obtain⟨y,h2,h⟩:=aK h;obtain⟨c,h3,h⟩:=aK h;have h3':=fu h3
    cases c with
    | false =>
     simp only[Bool.false_eq_true,if_false,Option.some.injEq] at h;subst h;exact wA G.room (ih _ _ h1).1 (ih _ _ h2).1 hpl' h3' ⟨fun q=>(nomatch q),fun _=>rfl⟩
    | true =>
     simp only[if_true] at h;obtain⟨z,h4,h⟩:=aK h;exact wA G.room (ih _ _ h1).1 (ih _ _ h2).1 (aM h4) h3' ⟨fun _=>⟨z,(ih _ _ h4).1,h⟩,fun q=>nomatch q⟩
   ·cases h
  | IfExp c a b pos =>
   simp only[ev] at h;obtain⟨t,h1,h⟩:=aK h;have h1':=(ih _ _ (fu h1)).2 _ rfl
   cases t with
   | true =>
    simp only[if_true] at h;refine⟨J9 h1' (fun _=>(ih _ _ h).1) (fun q=>nomatch q),fun r hr=>Ca h1' (fun _=>(ih _ _ h).2 r hr) (fun q=>nomatch q)⟩
   | false =>
    simp only[Bool.false_eq_true,if_false] at h;refine⟨J9 h1' (fun q=>nomatch q) (fun _=>(ih _ _ h).1),fun r hr=>Ca h1' (fun q=>nomatch q) (fun _=>(ih _ _ h).2 r hr)⟩
  | Tuple es j pos =>
   simp only[ev] at h;obtain⟨ds,h1,h⟩:=aK h;split at h
   ·rename_i hz
    cases h;exact val (fun _=>rfl) (zX (eU (fun e _ d hd=>ihp e d hd) h1).1 hz)
   ·cases h
  | List es pos =>
   simp only[ev] at h;obtain⟨ds,h1,h⟩:=aK h;split at h
   ·rename_i hz
    cases h;exact val (fun _=>rfl) (Gn (eU (fun e _ d hd=>ihp e d hd) h1).1 hz)
   ·cases h
  | Subscript a b pos =>
   simp only[ev] at h;obtain⟨x,h1,h⟩:=aK h;split at h
   ·split at h
    ·obtain⟨l,h2,h⟩:=aK h
     obtain⟨u,h3,h⟩:=aK h
     have hl:∀ {o:Option Expr} {l:Option Int},(match o with | none=>some none | some e=>(ev cx n sc ρ e).bind fun d=>(asI d).map some)=some l->EvO X ρ o l:=by
      intro o l h2
      cases o with
      | none=>cases h2;exact Ad
      | some e =>
       simp only at h2;obtain⟨d',g1,g2⟩:=Option.bind_eq_some_iff.mp h2;obtain⟨i,g3,rfl⟩:=Option.map_eq_some_iff.mp g2
       cases d'<;>simp[asI] at g3
       subst g3;exact Ac (ih _ _ g1).1
     split at h
     ·rename_i xs
      split at h
      ·rename_i hw
       cases h;rw[Bool.and_eq_true] at hw;exact val (fun _=>rfl) (wu (ih _ _ h1).1 (hl h2) (hl h3) ⟨by simpa using hw.1,by simpa using hw.2⟩)
      ·rename_i hw
       cases h;refine val (fun _=>rfl) (zZ (ih _ _ h1).1 (hl h2) (hl h3) fun q=>hw ?_);rw[q.1,q.2];simp
     ·cases h
      exact val (fun _=>rfl) (wz (ih _ _ h1).1 (hl h2) (hl h3))
     ·cases h
    ·obtain⟨rfl,rfl,hc,us,⟨rfl,rfl⟩ | ⟨rfl,rfl⟩⟩:=Ds h
     ·exact val (fun _=>rfl) (Gk (ih _ _ h1).1 (ih _ _ (bK hc)).1)
     ·exact val (fun _=>rfl) (Gj (ih _ _ h1).1 (ih _ _ (bK hc)).1)
   ·obtain⟨y,h2,h⟩:=aK h
    have hp2:=aM h2;have hr:=G.room;unfold Kw at h;split at h
    ·exact val (fun _=>rfl) (rm (ih _ _ h1).1 (ih _ _ h2).1 hp2 rfl h)
    ·exact val (fun _=>rfl) (rm (ih _ _ h1).1 (ih _ _ h2).1 hp2 rfl h)
    ·obtain⟨k',h3,h4⟩:=Option.bind_eq_some_iff.mp h
     exact val (fun _=>rfl) (Gs G.kw (ih _ _ h1).1 (ih _ _ h2).1 hp2 h3 h4)
    ·cases h
  | Call f args kws pos =>
   refine val (fun _=>rfl) ?_;simp only[ev] at h;split at h
   ·rename_i x p
    split at h
    ·rename_i hg
     have hb:∀ {b},cx.blt.lookup x=some b->aZ cx sc x=some b:=fun q=>by unfold aZ;rw[if_pos hg];exact q
     split at h
     ·rename_i hx
      split at h
      ·obtain⟨d',h1,h⟩:=aK h
       split at h
       ·rename_i c' hxo
        split at h
        ·rename_i c
         split at h
         ·rename_i hin
          cases h;exact Gp G (hb hx) hxo hin (ih _ _ h1).1 (aM h1)
         ·cases h
        ·cases h
       ·obtain⟨T,h2,h5⟩:=aK h
        clear h;obtain⟨t,pt,rfl,ht⟩:=CK h2;split at h5
        ·rename_i c
         split at h5
         ·rename_i hc
          rw[Bool.and_eq_true] at hc
          have eT:T="ValueError":=by simpa using hc.2
          subst eT;cases h5;exact Gq G (hb hx) ht hc.1 (ih _ _ h1).1 (aM h1)
         ·cases h5
        ·cases h5
        ·rename_i hne hne2
         split at h5
         ·rename_i hk
          cases h5;refine J8 G (hb hx) ht hk (ih _ _ h1).1 (aM h1) ?_
          cases d'<;>first | rfl | exact absurd rfl (hne _) | exact absurd rfl (hne2 _ _)
         ·cases h5
      ·cases h
     ·rename_i b _ hx
      have wc:=K8 (cx:=cx) (sc:=sc) (b:=b) (args:=args);split at h
      ·rename_i a hw
       rw[hw] at wc;obtain⟨y,q,q',rfl,hy,rfl⟩:=wc;obtain⟨j,h1,h⟩:=aK h;split at h
       ·rename_i hz
        rw[Bool.and_eq_true] at hz;cases h;have h1':=bK h1;exact tD G (hb hx) hy (ih _ _ h1').1 (aM h1') hz.1 hz.2
       ·cases h
      ·rename_i a a' hw
       rw[hw] at wc;obtain⟨y,q,q',rfl,hy,rfl⟩:=wc;obtain⟨i,h1,h⟩:=aK h;obtain⟨j,h2,h⟩:=aK h;split at h
       ·rename_i hz
        rw[Bool.and_eq_true,Bool.and_eq_true] at hz;cases h;have h1':=bK h1;have h2':=bK h2;exact sZ G (hb hx) hy (ih _ _ h1').1 (aM h1') (ih _ _ h2').1 (aM h2') hz.1.1 hz.1.2 hz.2
       ·cases h
      ·rename_i a hw
       rw[hw] at wc;obtain⟨y,q,q',rfl,hy,rfl⟩:=wc;simp at h
      ·rename_i a hw
       rw[hw] at wc;obtain⟨y,q,q',rfl,hy,rfl⟩:=wc;simp at h
      ·rename_i a hw
       rw[hw] at wc;obtain⟨y,q,q',rfl,hy,rfl⟩:=wc;obtain⟨xs,h1,h⟩:=aK h;obtain⟨ns,h2,h⟩:=aK h;split at h
       ·rename_i hz
        cases h;have h1':=nH h1;exact sY G (hb hx) hy (ih _ _ h1').1 (aM h1') h2 hz
       ·cases h
      ·split at h
       ·cases h
       ·rename_i hne
        obtain⟨ds,h1,h2⟩:=aK h;obtain⟨ha,hp⟩:=eU (fun e _ d hd=>ihp e d hd) h1
        cases args with
        | nil=>exact absurd rfl hne
        | cons e es=>exact Ab G (hb hx) ha hp h2
     ·split at h
      ·rename_i hf
       rw[Bool.and_eq_true] at hf;obtain⟨ds,h1,h⟩:=aK h;obtain⟨ha,hp⟩:=eU (fun e _ d hd=>ihp e d hd) h1
       have hgl:Gl X x:=by
        have e:sc.names.lookup x=some .globalImplicit:=by unfold lQ at hg;simpa using hg
        show X.env.scope.names.lookup x=_;rw[G.sce,e]
       refine Gw G hgl hf.1 (fun q=>?_) ha hp h;rw[q] at hf;exact absurd hf.2 (by decide)
      ·cases h
    ·cases h
   ·split at h
    ·split at h
     ·cases h
     ·cases h
    ·cases h
   ·split at h
    ·split at h
     ·rename_i hl
      obtain⟨x,h1,h⟩:=aK h;obtain⟨z,h2,h⟩:=aK h;exact qZ rfl (ih _ _ h1).1 (ih _ _ h2).1 (aM h2) hl h
     ·cases h
    ·cases h
   ·split at h
    ·split at h
     ·rename_i hl
      obtain⟨x,h1,h⟩:=aK h;obtain⟨z,h2,h⟩:=aK h;exact qZ rfl (ih _ _ h1).1 (ih _ _ h2).1 (aM h2) hl h
     ·cases h
    ·cases h
   ·simp at h
   ·simp at h
   ·cases h
  | ListComp elt gens scope pos =>
   refine val (fun _=>rfl) ?_;simp only[ev] at h;split at h
   ·rename_i tg iter ifs a
    split at h
    ·rename_i hok
     rw[Bool.and_eq_true] at hok
     have ea:a=0:=by simpa using hok.1
     subst ea;obtain⟨l,h1,h⟩:=aK h;split at h
     ·rename_i hz
      obtain⟨out,h2,h⟩:=aK h;cases h;obtain⟨hI,hp⟩:=wC (tg:=tg) G ihp h1;exact Gu G hN hok.2 hI hp hz h2 fun Xc C ρ1 hN1 e d he=>cG cx n (G.comp C hok.2) hN1 he
     ·cases h
    ·cases h
   ·cases h
  | _=>exact nomatch (show(Option.none:Option D)=some d from h)
end L2
namespace L2
open PySem PySem.Spec PyProof.Rows DE PySem.SeqAt
section
variable {prog:Program} {w:World} {A:Around} {E:Value->Shared->Prop}
theorem j4{it t:Addr}{xs:List Value}(apart:t≠it):∀ (more i:Nat) (s:Shared) (Q:List Value->Shared->Prop),s.heap.IsListIter it t i->s.heap.IsList t xs.toArray->i+more<=xs.length ->
  (∀ h',h'.IsListIter it t (i+more)->Heap.SameBut it s.heap h'->Q ((xs.drop i).take more) { s with heap:=h' })->wpAny (model prog w) A (draw (.ref it) more) Q E s
 | 0,i,s,Q,it0,_,_,q=>by
  show wpAny _ _ (pure []) _ _ _;exact wpAny_pure (by simpa using q s.heap it0 (Heap.SameBut.refl ..))
 | more+1,i,s,Q,it0,hl,hle,q=>by
  have lt:i<xs.length:=by omega
  show wpAny _ _ (pyNext (.ref it) >>=_) _ _ _;refine wpAny_bind (wpAny_pyNext_list_item it0 hl (x:=xs[i]) (by simp[lt]) fun h1 st1 sb1=>?_)
  have hl1:h1.IsList t xs.toArray:=by
   obtain⟨o,e,r⟩:=hl;exact⟨o,(sb1.2 t apart).trans e,r⟩
  refine wpAny_bind (wpAny_holding (j4 apart more (i+1) _ _ st1 hl1 (by omega) fun h2 st2 sb2=>wpAny_pure ?_));have z:=q h2 (by rw[show i+(more+1)=i+1+more by omega];exact st2) (sb1.trans sb2);rw[List.drop_eq_getElem_cons lt,List.take_succ_cons] at z;exact z
theorem kj{s:Shared}{t:Addr}{xs:List Value}{Q:List Value->Shared->Prop}(hh:A.handled=none)(hl:s.heap.IsList t xs.toArray)(q:∀ h',(∀ b o,s.heap.get? b=some o->h'.get? b=some o)->Q xs { s with heap:=h' }) :
  wpAny (model prog w) A (unpackItems (.ref t) xs.length none) Q E s:=by
 have apart:t≠s.heap.objs.size:=by obtain⟨o,e,_⟩:=hl;exact Nat.ne_of_lt (Heap.lt_size e)
 have keep:∀ {h':Heap},(∀ b o,b≠s.heap.objs.size->s.heap.get? b=some o->h'.get? b=some o)->∀ b o,s.heap.get? b=some o->h'.get? b=some o:=fun k b o e=>k b o (Nat.ne_of_lt (Heap.lt_size e)) e
 have pushed:∀ (n:Obj),(s.heap.push n).IsList t xs.toArray:=fun n=>by
  obtain⟨o,e,r⟩:=hl;exact⟨o,Heap.get?_push_of_some _ e,r⟩
 simp only[unpackItems,notIterableAtAll];refine wpAny_bind (wpAny_bind (wpAny_specialOf hl.typeIs PySem.slot_list_iter.lookup (wpAny_pure ?_)));simp only[Bool.false_eq_true,if_false,Option.isNone_some,Bool.not_true,Bool.false_and];refine wpAny_bind (wpAny_holding (wpAny_pyIter_list hl ?_));refine wpAny_bind (wpAny_holding (j4 apart xs.length 0 _ _ ⟨_,Heap.get?_push_size _ rfl,rfl,rfl⟩ (pushed _) (by omega) fun h1 st1 sb1=>?_))
 have all:List.take xs.length (List.drop 0 xs)=xs:=by simp
 rw[all,if_neg (by simp)]
 have hl1:h1.IsList t xs.toArray:=by
  obtain⟨o,e,r⟩:=pushed { cls:=.type "list_iterator",data:=.fields #[.ref t,.int 0 0] };exact⟨o,(sb1.2 t apart).trans e,r⟩
 refine wpAny_bind (wpAny_holding (wpAny_pyNext_list_end hh st1 hl1 (by simp) fun h2 eb=>?_));simp only[Option.isSome_none,Bool.false_eq_true,if_false];exact wpAny_pure (q h2 (keep fun b o hb e=>eb b o hb ((sb1.2 b hb).trans (Heap.get?_push_of_some _ e))))
end
section
variable {X:Cx} {es:List Expr} {k:Nat} {t:TGs} {n:Nat} {pos:Pos}
def TV(K:PySem.W.Frag)(n:Nat)(t:TGs):TG:=fun v σ H Q=>∃ a xs,v=.ref a/\SqL K H a xs/\xs.length=n/\t xs σ H Q
theorem Jg(hc:X.calm=true)(h:PGs X es t)(hn:(assignEach es X.env).length=n)(hst:(assignEach es X.env).findIdx? (·.1)=none):PG X (.Tuple es k pos) (TV X.K n t):=by
 intro pins s σ H v u Q I r hw;obtain⟨a,xs,rfl,hq,hl,hw⟩:=hw;cases (show u=Value.ref a from r);obtain⟨its,rv,pl,hz⟩:=I.list hq
 have e:(assignEach es X.env).length=its.length:=by rw[hn,<- hl,rv.length]
 rw[assign_Tuple];refine wpAny_bind (wpAny_standAt ?_);unfold unpack;rw[hst,e];refine wpAny_bind (wpAny_holding (kj (I.ok.hd hc) pl.isList fun h' kp=>?_));exact h pins _ σ H xs _ Q (I.kept (t':=s.toks) kp) rv hw
end
def OO(K:PySem.W.Frag)(H0 Hs H:Hp)(a:Addr)(bs:List Addr)(dss:List (List D)):Prop :=
  H a = some (.lst (bs.map V.ref)) /\ Hs a = none /\ H0 a = none /\ bs.Nodup /\ a ∉ bs /\ bs.length = dss.length /\
    ∀ (j:Nat) b,bs[j]?=some b->Hs b=none/\H0 b=none/\∃ ds us,dss[j]?=some ds/\H b=some (.lst us)/\aJ K Hs ds us
structure Hd (K:PySem.W.Frag) (Hs0 H0 Hs H:Hp) (ρ:Rho) (σ:St):Prop where
 ext:Ext Hs0 H0 Hs H
 len:σ.length=ρ.length
 sh:cC K Hs ρ σ
 ow:∀ (i:Nat) (x:Str) (ds:List D),ρ[i]?=some (x,.ow ds)->∃ a vs,σ[i]?=some (some (.ref a))/\H a=some (.lst vs)/\aJ K Hs ds vs/\Hs a=none/\H0 a=none
 dis:∀ (i j:Nat) (x y:Str) (ds es:List D) (a:Addr),i≠j->ρ[i]?=some (x,.ow ds)->ρ[j]?=some (y,.ow es)->σ[i]?=some (some (.ref a))->σ[j]?=some (some (.ref a))->False
 oo:∀ (i:Nat) (x:Str) (dss:List (List D)),ρ[i]?=some (x,.oo dss)->(∃ a bs,σ[i]?=some (some (.ref a))/\OO K H0 Hs H a bs dss)/\∀ (j:Nat) y s,j≠i->ρ[j]?=some (y,s)->wR s=true
section
variable {K:PySem.W.Frag} {Hs0 H0 Hs H Hs' H':Hp} {ρ:Rho} {σ:St}
theorem OO.step{a:Addr}{bs:List Addr}{dss:List (List D)}(h:OO K H0 Hs H a bs dss)(E:Ext Hs H Hs' H'):OO K H0 Hs' H' a bs dss:=by
 obtain⟨h1,h2,h3,h4,h5,h6,h7⟩:=h;refine⟨E.all _ _ h1,E.hid a _ h1 h2,h3,h4,h5,h6,fun j b e=>?_⟩;obtain⟨k1,k2,ds,us,k3,k4,k5⟩:=h7 j b e;exact⟨E.hid b _ k4 k1,k2,ds,us,k3,E.all _ _ k4,aJ.same E.vis ds us k5⟩
theorem Hd.step(h:Hd K Hs0 H0 Hs H ρ σ)(E:Ext Hs H Hs' H'):Hd K Hs0 H0 Hs' H' ρ σ where
 ext:=h.ext.trans E
 len:=h.len
 sh:=h.sh.same E.vis
 ow:=fun i x ds e=>by
  obtain⟨a,vs,h1,h2,h3,h4,h5⟩:=h.ow i x ds e;exact⟨a,vs,h1,E.all _ _ h2,aJ.same E.vis ds vs h3,E.hid a _ h2 h4,h5⟩
 dis:=h.dis
 oo:=fun i x dss e=>by
  obtain⟨⟨a,bs,h1,h2⟩,h3⟩:=h.oo i x dss e;exact⟨⟨a,bs,h1,h2.step E⟩,h3⟩
theorem gH{n:Nat}{e:Expr}{i:Nat}{x:Str}{s:Sl}(h:(frz n e ρ)[i]?=some (x,s)):(ρ[i]?=some (x,s)/\(wR s=false->dR n x e=false))\/(∃ ds,s=.sh (.lst ds)/\ρ[i]?=some (x,.ow ds)/\dR n x e=true)\/∃ dss,s=.sh (.lst (dss.map .lst))/\ρ[i]?=some (x,.oo dss)/\dR n x e=true:=by
 unfold frz at h;rw[List.getElem?_map] at h;obtain⟨⟨y,t⟩,h1,h2⟩:=Option.map_eq_some_iff.mp h
 cases t with
 | no=>simp at h2;obtain⟨rfl,rfl⟩:=h2;exact .inl ⟨h1,fun z=>nomatch z⟩
 | sh d=>simp at h2;obtain⟨rfl,rfl⟩:=h2;exact .inl ⟨h1,fun z=>nomatch z⟩
 | ow ds =>
  simp only at h2
  cases hm:dR n y e with
  | true =>
   rw[hm,if_pos rfl] at h2;cases h2;exact .inr (.inl ⟨ds,rfl,h1,hm⟩)
  | false =>
   rw[hm] at h2;simp at h2;obtain⟨rfl,rfl⟩:=h2;exact .inl ⟨h1,fun _=>hm⟩
 | oo dss =>
  simp only at h2
  cases hm:dR n y e with
  | true =>
   rw[hm,if_pos rfl] at h2;cases h2;exact .inr (.inr ⟨dss,rfl,h1,hm⟩)
  | false =>
   rw[hm] at h2;simp at h2;obtain⟨rfl,rfl⟩:=h2;exact .inl ⟨h1,fun _=>hm⟩
theorem aG(n:Nat)(e:Expr):(frz n e ρ).map (·.1)=ρ.map (·.1):=by
 unfold frz;rw[List.map_map];apply List.map_congr_left;intro p _;obtain⟨x,s⟩:=p
 cases s<;>simp<;>(split<;>rfl)
theorem aJ.get_of{K:PySem.W.Frag}{H:Hp}:∀ {ds:List D} {vs:List V},ds.length=vs.length->(∀ (j:Nat) d v,ds[j]?=some d->vs[j]?=some v->Rep K H d v)->aJ K H ds vs
 | [],[],_,_=>.nil
 | [],_::_,h,_=>by simp at h
 | _::_,[],h,_=>by simp at h
 | d::ds,v::vs,h,q=>.cons (q 0 d v rfl rfl) (aJ.get_of (by simpa using h) fun j d' v' e1 e2=>q (j+1) d' v' (by simpa using e1) (by simpa using e2))
theorem OO.mem{a b:Addr}{bs:List Addr}{dss:List (List D)}(h:OO K H0 Hs H a bs dss)(hb:b∈bs):Hs b=none/\H0 b=none:=by
 obtain⟨j,e⟩:=List.mem_iff_getElem?.mp hb;obtain⟨k1,k2,_⟩:=h.2.2.2.2.2.2 j b e;exact⟨k1,k2⟩
open Classical in
theorem Hd.frozen2(n:Nat)(e:Expr)(h:Hd K Hs0 H0 Hs H ρ σ):∃ Hs1,Same Hs Hs1/\(∀ b o,Hs1 b=some o->Hs b=some o\/∃ vs,o=.lst vs)/\Hd K Hs0 H0 Hs1 H (frz n e ρ) σ:=by
 let Fo:Addr->Prop:=fun b=>∃ (i:Nat) (x:Str) (ds:List D),ρ[i]?=some (x,Sl.ow ds)/\dR n x e=true/\σ[i]?=some (some (V.ref b))
 let Fb:Addr->Prop:=fun b=>∃ (i:Nat) (x:Str) (dss:List (List D)) (a:Addr) (bs:List Addr),ρ[i]?=some (x,Sl.oo dss)/\dR n x e=true/\σ[i]?=some (some (V.ref a))/\OO K H0 Hs H a bs dss/\(b=a\/b∈bs)
 let Hs1:Hp:=fun b=>if Fo b\/Fb b then H b else Hs b
 have vis:Same Hs Hs1:=fun b o q=>by
  show(if Fo b\/Fb b then H b else Hs b)=some o;split
  ·exact h.ext.sub b o q
  ·exact q
 have sub:Same Hs1 H:=fun b o q=>by
  have q':(if Fo b\/Fb b then H b else Hs b)=some o:=q;split at q'
  ·exact q'
  ·exact h.ext.sub b o q'
 have fz0:∀ b,Fo b\/Fb b->H0 b=none/\Hs b=none:=fun b hb=>by
  rcases hb with⟨i,x,ds,g1,_,g3⟩ | ⟨i,x,dss,a,bs,g1,_,g3,g4,g5⟩
  ·obtain⟨a,vs,k1,k2,k3,k4,k5⟩:=h.ow i x ds g1
   rw[k1] at g3;cases g3;exact⟨k5,k4⟩
  ·rcases g5 with rfl | g5
   ·exact⟨g4.2.2.1,g4.2.1⟩
   ·exact⟨(g4.mem g5).2,(g4.mem g5).1⟩
 have shp:∀ b o,Hs1 b=some o->Hs b=some o\/∃ vs,o=.lst vs:=fun b o q=>by
  have q':(if Fo b\/Fb b then H b else Hs b)=some o:=q;split at q'
  ·rename_i f
   rcases f with⟨i,x,ds,g1,_,g3⟩ | ⟨i,x,dss,a,bs,g1,_,g3,g4,g5⟩
   ·obtain⟨a,vs,k1,k2,k3,k4,k5⟩:=h.ow i x ds g1
    rw[k1] at g3;cases g3;rw[k2] at q';cases q';exact .inr ⟨vs,rfl⟩
   ·rcases g5 with rfl | g5
    ·rw[g4.1] at q'
     cases q';exact .inr ⟨_,rfl⟩
    ·obtain⟨j,ej⟩:=List.mem_iff_getElem?.mp g5
     obtain⟨_,_,_,us,_,m4,_⟩:=g4.2.2.2.2.2.2 j b ej;rw[m4] at q';cases q';exact .inr ⟨us,rfl⟩
  ·exact .inl q'
 refine⟨Hs1,vis,shp,⟨h.ext.vis.trans vis,h.ext.all,sub,fun b o q z=>?_⟩,by rw[h.len];simp[frz],fun i x d q=>?_,fun i x ds q=>?_,fun i j x y ds es a hij q1 q2=>?_,fun i x dss q=>?_⟩
 ·show(if Fo b\/Fb b then H b else Hs b)=none
  rw[if_neg fun f=>by rw[(fz0 b f).1] at q;cases q]
  exact h.ext.hid b o q z
 ·rcases gH q with⟨q,_⟩ | ⟨ds,e1,q2,hm⟩ | ⟨dss,e1,q2,hm⟩
  ·obtain⟨v,k1,k2⟩:=h.sh i x d q
   exact⟨v,k1,Rep.same vis d v k2⟩
  ·cases e1
   obtain⟨a,vs,k1,k2,k3,k4,k5⟩:=h.ow i x ds q2;refine⟨_,k1,?_⟩;simp only[Rep];refine⟨a,vs,rfl,.of ?_,aJ.same vis ds vs k3⟩;show(if Fo a\/Fb a then H a else Hs a)=_;rw[if_pos (.inl ⟨i,x,ds,q2,hm,k1⟩)];exact k2
  ·cases e1
   obtain⟨⟨a,bs,k1,k2⟩,_⟩:=h.oo i x dss q2;refine⟨_,k1,?_⟩;simp only[Rep];refine⟨a,bs.map V.ref,rfl,.of ?_,?_⟩
   ·show(if Fo a\/Fb a then H a else Hs a)=_
    rw[if_pos (.inr ⟨i,x,dss,a,bs,q2,hm,k1,k2,.inl rfl⟩)];exact k2.1
   ·refine aJ.get_of (by rw[List.length_map,List.length_map,k2.2.2.2.2.2.1]) fun j d v g1 g2=>?_
    rw[List.getElem?_map] at g1 g2;obtain⟨es,g3,rfl⟩:=Option.map_eq_some_iff.mp g1;obtain⟨b,g4,rfl⟩:=Option.map_eq_some_iff.mp g2;obtain⟨_,_,ds,us,m3,m4,m5⟩:=k2.2.2.2.2.2.2 j b g4;rw[g3] at m3;cases m3;simp only[Rep];refine⟨b,us,rfl,.of ?_,aJ.same vis es us m5⟩;show(if Fo b\/Fb b then H b else Hs b)=_;rw[if_pos (.inr ⟨i,x,dss,a,bs,q2,hm,k1,k2,.inr (List.mem_of_getElem? g4)⟩)];exact m4
 ·rcases gH q with⟨q,hm⟩ | ⟨ds',e1,q,hm⟩ | ⟨ds',e1,q,hm⟩
  ·obtain⟨a,vs,k1,k2,k3,k4,k5⟩:=h.ow i x ds q
   refine⟨a,vs,k1,k2,aJ.same vis ds vs k3,?_,k5⟩;show(if Fo a\/Fb a then H a else Hs a)=none;rw[if_neg]
   ·exact k4
   ·rintro(⟨j,y,es,g1,g2,g3⟩ | ⟨j,y,dss,_,_,g1,_⟩)
    ·by_cases hij:i=j
     ·subst hij
      rw[q] at g1;cases g1;rw[hm rfl] at g2;cases g2
     ·exact h.dis i j x y ds es a hij q g1 k1 g3
    ·by_cases hij:i=j
     ·subst hij
      rw[q] at g1;cases g1
     ·exact nomatch (h.oo j y dss g1).2 i x _ hij q
  ·cases e1
  ·cases e1
 ·rcases gH q1 with⟨q1,_⟩ | ⟨ds',e1,_⟩ | ⟨ds',e1,_⟩
  ·rcases gH q2 with⟨q2,_⟩ | ⟨ds',e1,_⟩ | ⟨ds',e1,_⟩
   ·exact h.dis i j x y ds es a hij q1 q2
   ·cases e1
   ·cases e1
  ·cases e1
  ·cases e1
 ·rcases gH q with⟨q,hm⟩ | ⟨ds',e1,_⟩ | ⟨ds',e1,_⟩
  ·obtain⟨⟨a,bs,k1,k2⟩,k3⟩:=h.oo i x dss q
   have nf:∀ b,¬ (Fo b\/Fb b):=by
    rintro b (⟨j,y,es,g1,_⟩ | ⟨j,y,dss',_,_,g1,g2,_⟩)
    ·by_cases hij:j=i
     ·subst hij
      rw[q] at g1;cases g1
     ·exact nomatch k3 j y _ hij g1
    ·by_cases hij:j=i
     ·subst hij
      rw[q] at g1;cases g1;rw[hm rfl] at g2;cases g2
     ·exact nomatch k3 j y _ hij g1
   have sm:∀ b,Hs1 b=Hs b:=fun b=>by
    show(if Fo b\/Fb b then H b else Hs b)=_;rw[if_neg (nf b)]
   refine⟨⟨a,bs,k1,k2.1,by rw[sm];exact k2.2.1,k2.2.2.1,k2.2.2.2.1,k2.2.2.2.2.1,k2.2.2.2.2.2.1,fun j b g=>?_⟩,fun j y s hj g=>?_⟩
   ·obtain⟨m1,m2,ds,us,m3,m4,m5⟩:=k2.2.2.2.2.2.2 j b g
    exact⟨by rw[sm];exact m1,m2,ds,us,m3,m4,aJ.same vis ds us m5⟩
   ·rcases gH g with⟨g,_⟩ | ⟨_,e1,_⟩ | ⟨_,e1,_⟩
    ·exact k3 j y s hj g
    ·rw[e1];rfl
    ·rw[e1];rfl
  ·cases e1
  ·cases e1
theorem Hd.frozen(n:Nat)(e:Expr)(h:Hd K Hs0 H0 Hs H ρ σ):∃ Hs1,Same Hs Hs1/\Hd K Hs0 H0 Hs1 H (frz n e ρ) σ :=
 let ⟨Hs1,a,_,b⟩:=h.frozen2 n e
 ⟨Hs1,a,b⟩
def flH(Hs H Hs':Hp):Hp:=fun b=>match Hs b with
 | some o=>some o
 | none=>match H b with
  | some _=>none
  | none=>match Hs' b with
   | some (.tup vs)=>some (.tup vs)
   | some (.frz o (.tup vs))=>some (.frz o (.tup vs))
   | _=>none
mutual
theorem qW{Hs H Hs1 Hs' H':Hp}(vis:Same Hs Hs1)(shp:∀ b o,Hs1 b=some o->Hs b=some o\/∃ vs,o=.lst vs)(E:Ext Hs1 H Hs' H'):∀ (d:D) (v:V),fO d=true->Rep K Hs' d v->Rep K (flH Hs H Hs') d v
 | .non,v,_,r=>by simpa[Rep] using r
 | .bl b,v,_,r=>by simpa[Rep] using r
 | .int i,v,_,r=>by simpa[Rep] using r
 | .str x,v,_,r=>by simpa[Rep] using r
 | .lst _,v,h,_=>by simp[fO] at h
 | .exc _,v,h,_=>by simp[fO] at h
 | .dic _ _,v,h,_=>by simp[fO] at h
 | .tup ds,v,h,r=>by
  simp only[fO] at h;simp only[Rep] at r ⊢;obtain⟨p,ws,rfl,h1,h2⟩:=r;refine⟨p,ws,rfl,?_,nQ vis shp E ds ws h h2⟩
  have fin:∀ u:HO,Hs' p=some u->(∀ vs,u≠.lst vs)->Hs p=some u\/(Hs p=none/\H p=none):=fun u hu hnl=>by
   cases hp:Hs p with
   | some u' =>
    have:=E.vis _ _ (vis _ _ hp);rw[hu] at this;exact .inl this.symm
   | none =>
    have h1n:Hs1 p=none:=by
     cases q:Hs1 p with
     | none=>rfl
     | some o =>
      rcases shp p o q with z | ⟨vs,rfl⟩
      ·rw[hp] at z;cases z
      ·have:=E.vis _ _ q
       rw[hu] at this;cases this;exact absurd rfl (hnl vs)
    refine .inr ⟨rfl,?_⟩
    cases q:H p with
    | none=>rfl
    | some o=>have:=E.hid p o q h1n;rw[hu] at this;cases this
  rcases h1 with(h1 | ⟨o,h1⟩) | h1
  ·refine .inl (.inl ?_)
   rcases fin _ h1 (fun vs z=>nomatch z) with z | ⟨z1,z2⟩
   ·simp only[flH,z]
   ·simp only[flH,z1,z2,h1]
  ·refine .inl (.inr ⟨o,?_⟩)
   rcases fin _ h1 (fun vs z=>nomatch z) with z | ⟨z1,z2⟩
   ·simp only[flH,z]
   ·simp only[flH,z1,z2,h1]
  ·exact .inr h1
theorem nQ{Hs H Hs1 Hs' H':Hp}(vis:Same Hs Hs1)(shp:∀ b o,Hs1 b=some o->Hs b=some o\/∃ vs,o=.lst vs)(E:Ext Hs1 H Hs' H'):∀ (ds:List D) (vs:List V),qX ds=true->aJ K Hs' ds vs->aJ K (flH Hs H Hs') ds vs
 | [],vs,_,r=>by simpa[aJ] using r
 | d::ds,vs,h,r=>by
  simp only[qX,Bool.and_eq_true] at h;simp only[aJ] at r ⊢;obtain⟨w,r',rfl,h1,h2⟩:=r;exact⟨w,r',rfl,qW vis shp E d w h.1 h1,nQ vis shp E ds r' h.2 h2⟩
end
theorem eO{Hs1 Hs' H':Hp}{d:D}{v:V}(hs:Same Hs H)(vis:Same Hs Hs1)(shp:∀ b o,Hs1 b=some o->Hs b=some o\/∃ vs,o=.lst vs)(E:Ext Hs1 H Hs' H')(hd:fO d=true)(r:Rep K Hs' d v):∃ Hs3,Ext Hs H Hs3 H'/\Rep K Hs3 d v:=by
 refine⟨flH Hs H Hs',⟨fun b o q=>by simp only[flH,q],E.all,fun b o q=>?_,fun b o q z=>by simp only[flH,z,q]⟩,qW vis shp E d v hd r⟩;unfold flH at q;split at q
 ·rename_i o' e;cases q;exact E.all _ _ (hs _ _ e)
 ·split at q
  ·cases q
  ·split at q
   ·rename_i e;cases q;exact E.sub _ _ e
   ·rename_i e;cases q;exact E.sub _ _ e
   ·cases q
theorem Hd.set{x:Str}{i:Nat}{d:D}{v:V}(h:Hd K Hs0 H0 Hs H ρ σ)(hn:(ρ.map (·.1)).Nodup)(hi:(ρ.map (·.1))[i]?=some x)(r:Rep K Hs d v):Hd K Hs0 H0 Hs H (bW ρ x (.sh d)) (σ.set i (some v)):=by
 have hl:i<σ.length:=by have:=(List.getElem?_eq_some_iff.mp hi).1;rw[h.len];simpa using this
 refine⟨h.ext,by rw[List.length_set,h.len];have:=congrArg List.length (aB ρ x (.sh d));simpa using this.symm,m7 hn hi hl h.sh r,fun j y ds e=>?_,fun j j' y y' ds es a hjj e1 e2 e3 e4=>?_,fun j y dss e=>?_⟩
 ·rw[aL hn hi j] at e
  split at e
  ·cases e
  ·rename_i hj
   obtain⟨a,vs,k1,k⟩:=h.ow j y ds e;exact⟨a,vs,by rw[List.getElem?_set_ne (fun z=>hj z.symm)];exact k1,k⟩
 ·rw[aL hn hi] at e1 e2
  split at e1
  ·cases e1
  ·rename_i hj
   split at e2
   ·cases e2
   ·rename_i hj'
    rw[List.getElem?_set_ne (fun z=>hj z.symm)] at e3;rw[List.getElem?_set_ne (fun z=>hj' z.symm)] at e4;exact h.dis j j' y y' ds es a hjj e1 e2 e3 e4
 ·rw[aL hn hi j] at e
  split at e
  ·cases e
  ·rename_i hj
   obtain⟨⟨a,bs,k1,k2⟩,k3⟩:=h.oo j y dss e;refine⟨⟨a,bs,by rw[List.getElem?_set_ne (fun z=>hj z.symm)];exact k1,k2⟩,fun l z s hl' g=>?_⟩;rw[aL hn hi l] at g;split at g
   ·cases g;rfl
   ·exact k3 l z s hl' g
theorem Hd.own{x:Str}{i:Nat}{ds:List D}{vs:List V}{acc:Addr}(h:Hd K Hs0 H0 Hs H ρ σ)(hn:(ρ.map (·.1)).Nodup)(hi:(ρ.map (·.1))[i]?=some x)(h1:H acc=some (.lst vs))(r:aJ K Hs ds vs)(h2:Hs acc=none)(h3:H0 acc=none)
  (no:∀ (j:Nat) y dss,j≠i->ρ[j]?=some (y,.oo dss)->False) (ap:∀ (j:Nat) y es,j≠i->ρ[j]?=some (y,.ow es)->σ[j]?=some (some (.ref acc))->False):Hd K Hs0 H0 Hs H (bW ρ x (.ow ds)) (σ.set i (some (.ref acc))):=by
 have hl:i<σ.length:=by have:=(List.getElem?_eq_some_iff.mp hi).1;rw[h.len];simpa using this
 refine⟨h.ext,by rw[List.length_set,h.len];have:=congrArg List.length (aB ρ x (.ow ds));simpa using this.symm,fun j y d e=>?_,fun j y es e=>?_,fun j j' y y' ds' es a hjj e1 e2 e3 e4=>?_,fun j y dss e=>?_⟩
 ·rw[aL hn hi j] at e
  split at e
  ·cases e
  ·rename_i hj
   obtain⟨v,k1,k2⟩:=h.sh j y d e;exact⟨v,by rw[List.getElem?_set_ne (fun z=>hj z.symm)];exact k1,k2⟩
 ·rw[aL hn hi j] at e
  split at e
  ·rename_i hj
   subst hj;cases e;exact⟨acc,vs,by rw[List.getElem?_set_self hl],h1,r,h2,h3⟩
  ·rename_i hj
   obtain⟨a,vs',k1,k⟩:=h.ow j y es e;exact⟨a,vs',by rw[List.getElem?_set_ne (fun z=>hj z.symm)];exact k1,k⟩
 ·rw[aL hn hi] at e1 e2
  split at e1
  ·rename_i hj
   split at e2
   ·rename_i hj'
    exact hjj (hj.trans hj'.symm)
   ·rename_i hj'
    subst hj;rw[List.getElem?_set_self hl] at e3;cases e3;rw[List.getElem?_set_ne (fun z=>hj' z.symm)] at e4;exact ap j' y' es hj' e2 e4
  ·rename_i hj
   split at e2
   ·rename_i hj'
    subst hj';rw[List.getElem?_set_self hl] at e4;cases e4;rw[List.getElem?_set_ne (fun z=>hj z.symm)] at e3;exact ap j y ds' hj e1 e3
   ·rename_i hj'
    rw[List.getElem?_set_ne (fun z=>hj z.symm)] at e3;rw[List.getElem?_set_ne (fun z=>hj' z.symm)] at e4;exact h.dis j j' y y' ds' es a hjj e1 e2 e3 e4
 ·rw[aL hn hi j] at e
  split at e
  ·cases e
  ·rename_i hj
   exact(no j y dss hj e).elim
theorem Hd.app{x:Str}{i:Nat}{ds es:List D}{vs:List V}{a:Addr}(h:Hd K Hs0 H0 Hs H ρ σ)(hn:(ρ.map (·.1)).Nodup)(hi:ρ[i]?=some (x,.ow ds))(hσ:σ[i]?=some (some (.ref a)))(r:aJ K Hs es vs):Hd K Hs0 H0 Hs (upd H a (.lst vs)) (bW ρ x (.ow es)) σ:=by
 obtain⟨a',vs',k1,k2,k3,k4,k5⟩:=h.ow i x ds hi;rw[hσ] at k1;cases k1
 have hi':(ρ.map (·.1))[i]?=some x:=by rw[List.getElem?_map,hi];rfl
 refine⟨Ext.acc h.ext k5 k4,by rw[h.len];have:=congrArg List.length (aB ρ x (.ow es));simpa using this.symm,fun j y d e=>?_,fun j y es' e=>?_,fun j j' y y' ds' es' b hjj e1 e2 e3 e4=>?_,fun j y dss e=>?_⟩
 ·rw[aL hn hi' j] at e
  split at e
  ·cases e
  ·exact h.sh j y d e
 ·rw[aL hn hi' j] at e
  split at e
  ·rename_i hj
   subst hj;cases e;exact⟨a,vs,hσ,aR,r,k4,k5⟩
  ·rename_i hj
   obtain⟨b,us,g1,g2,g⟩:=h.ow j y es' e;refine⟨b,us,g1,?_,g⟩;rw[aH]
   ·exact g2
   ·rintro rfl
    exact h.dis j i y x es' ds b hj e hi g1 hσ
 ·rw[aL hn hi'] at e1 e2
  split at e1
  ·rename_i hj
   split at e2
   ·rename_i hj'
    exact hjj (hj.trans hj'.symm)
   ·subst hj
    exact h.dis j j' x y' ds es' b hjj hi e2 e3 e4
  ·split at e2
   ·rename_i hj'
    subst hj';exact h.dis j j' y x ds' ds b hjj e1 hi e3 e4
   ·exact h.dis j j' y y' ds' es' b hjj e1 e2 e3 e4
 ·rw[aL hn hi' j] at e
  split at e
  ·cases e
  ·rename_i hj
   exact nomatch (h.oo j y dss e).2 i x _ (fun w=>hj w.symm) hi
theorem yZ{x:Str}{i:Nat}(hn:(ρ.map (·.1)).Nodup)(hi:(ρ.map (·.1))[i]?=some x)(h:sO ρ x=true):∀ (j:Nat) y s,j≠i->ρ[j]?=some (y,s)->wR s=true:=fun j y s hj e=>by
 have:=List.all_eq_true.mp h _ (List.mem_of_getElem? e);rw[Bool.or_eq_true] at this;rcases this with q | q
 ·exfalso
  have ey:y=x:=by simpa using q
  have e':(ρ.map (·.1))[j]?=some x:=by rw[List.getElem?_map,e,<- ey];rfl
  exact hj ((List.getElem?_inj (List.getElem?_eq_some_iff.mp e').1 hn).mp (e'.trans hi.symm))
 ·exact q
theorem Fe{x:Str}{i:Nat}(hn:(ρ.map (·.1)).Nodup)(hi:(ρ.map (·.1))[i]?=some x)(h:jU ρ x=true):∀ (j:Nat) y dss,j≠i->ρ[j]?=some (y,.oo dss)->False:=fun j y dss hj e=>by
 have:=List.all_eq_true.mp h _ (List.mem_of_getElem? e);rw[Bool.or_eq_true] at this;rcases this with q | q
 ·have ey:y=x:=by simpa using q
  have e':(ρ.map (·.1))[j]?=some x:=by rw[List.getElem?_map,e,<- ey];rfl
  exact hj ((List.getElem?_inj (List.getElem?_eq_some_iff.mp e').1 hn).mp (e'.trans hi.symm))
 ·exact nomatch q
theorem Hd.own2{x:Str}{i:Nat}{dss:List (List D)}{a:Addr}{bs:List Addr}(h:Hd K Hs0 H0 Hs H ρ σ)(hn:(ρ.map (·.1)).Nodup)(hi:(ρ.map (·.1))[i]?=some x)(o:OO K H0 Hs H a bs dss)(no:∀ (j:Nat) y s,j≠i->ρ[j]?=some (y,s)->wR s=true):Hd K Hs0 H0 Hs H (bW ρ x (.oo dss)) (σ.set i (some (.ref a))):=by
 have hl:i<σ.length:=by have:=(List.getElem?_eq_some_iff.mp hi).1;rw[h.len];simpa using this
 refine⟨h.ext,by rw[List.length_set,h.len];have:=congrArg List.length (aB ρ x (.oo dss));simpa using this.symm,fun j y d e=>?_,fun j y es e=>?_,fun j j' y y' ds' es a hjj e1 e2 e3 e4=>?_,fun j y dss' e=>?_⟩
 ·rw[aL hn hi j] at e
  split at e
  ·cases e
  ·rename_i hj
   obtain⟨v,k1,k2⟩:=h.sh j y d e;exact⟨v,by rw[List.getElem?_set_ne (fun z=>hj z.symm)];exact k1,k2⟩
 ·rw[aL hn hi j] at e
  split at e
  ·cases e
  ·rename_i hj
   exact nomatch no j y _ hj e
 ·rw[aL hn hi] at e1
  split at e1
  ·cases e1
  ·rename_i hj
   exact nomatch no j y _ hj e1
 ·rw[aL hn hi j] at e
  split at e
  ·rename_i hj
   subst hj;cases e;refine⟨⟨a,bs,by rw[List.getElem?_set_self hl],o⟩,fun l z s hl' g=>?_⟩;rw[aL hn hi l,if_neg hl'] at g;exact no l z s hl' g
  ·rename_i hj
   exact nomatch no j y _ hj e
theorem Hd.app2{x:Str}{i:Nat}{dss dss':List (List D)}{a c:Addr}{bs':List Addr}{vs:List V}(h:Hd K Hs0 H0 Hs H ρ σ)(hn:(ρ.map (·.1)).Nodup)(hi:ρ[i]?=some (x,.oo dss))(hσ:σ[i]?=some (some (.ref a)))(c1:Hs c=none)(c2:H0 c=none)(o:OO K H0 Hs (upd H c (.lst vs)) a bs' dss'):Hd K Hs0 H0 Hs (upd H c (.lst vs)) (bW ρ x (.oo dss')) σ:=by
 have hi':(ρ.map (·.1))[i]?=some x:=by rw[List.getElem?_map,hi];rfl
 obtain⟨_,no⟩:=h.oo i x dss hi;refine⟨Ext.acc h.ext c2 c1,by rw[h.len];have:=congrArg List.length (aB ρ x (.oo dss'));simpa using this.symm,fun j y d e=>?_,fun j y es e=>?_,fun j j' y y' ds' es a hjj e1 e2 e3 e4=>?_,fun j y dss'' e=>?_⟩
 ·rw[aL hn hi' j] at e
  split at e
  ·cases e
  ·exact h.sh j y d e
 ·rw[aL hn hi' j] at e
  split at e
  ·cases e
  ·rename_i hj
   exact nomatch no j y _ hj e
 ·rw[aL hn hi'] at e1
  split at e1
  ·cases e1
  ·rename_i hj
   exact nomatch no j y _ hj e1
 ·rw[aL hn hi' j] at e
  split at e
  ·rename_i hj
   subst hj;cases e;refine⟨⟨a,bs',hσ,o⟩,fun l z s hl' g=>?_⟩;rw[aL hn hi' l,if_neg hl'] at g;exact no l z s hl' g
  ·rename_i hj
   exact nomatch no j y _ hj e
theorem qN{scope:Scope}:j7 K Hs scope (fun ρ σ=>Hd K Hs0 H0 Hs H ρ σ):=fun ρ σ i x d v hn hi _ h r=>h.set hn hi r
end
end L2
namespace L2
open PySem PySem.Spec PyProof.Rows PySem.SeqAt
open DE hiding st
def gR(X:Cx)(s:Stmt):TS:=fun D σ H=>∀ pins s0,Inv X pins σ H s0->wpAny (model X.prog X.w) X.A (exec s X.env) (SP X pins D) X.xe s0
def iz(X:Cx)(s:List Stmt):TS:=fun D σ H=>∀ pins s0,Inv X pins σ H s0->wpAny (model X.prog X.w) X.A (execs s X.env) (SP X pins D) X.xe s0
section
variable {X:Cx} {s:Stmt} {ss:List Stmt} {t:TS} {D:Ends} {σ:St} {H:Hp}
theorem Bo:PS X s (gR X s):=fun pins s σ H D I h=>h pins s I
theorem PS.sem(h:PS X s t)(q:t D σ H):gR X s D σ H:=fun pins s I=>h pins s σ H D I q
theorem dF:PSs X ss (iz X ss):=fun pins s σ H D I h=>h pins s I
theorem PSs.sem(h:PSs X ss t)(q:t D σ H):iz X ss D σ H:=fun pins s I=>h pins s σ H D I q
end
def Runs(X:Cx)(Hs0 H0:Hp)(ρ:Rho)(fl:Fl)(t:TS):Prop:=∀ σ H Hs D,Hd X.K Hs0 H0 Hs H ρ σ->X.N=ρ.map (·.1)->(∀ ρ' σ' Hs' H',fl=.nxt ρ'->Same Hs Hs'->X.N=ρ'.map (·.1)->Hd X.K Hs0 H0 Hs' H' ρ' σ'->D.nx σ' H') ->
 (∀ d v Hs' H',fl=.ret d->Ext Hs0 H0 Hs' H'->Rep X.K Hs' d v->D.rt v H')->t D σ H
structure GoodS (cx:Cxt) (k:Nat) (X:Cx) (sc:Scope):Prop where
 good:Good cx k X sc
 own:Owns X sc
 pass:PassesOwn (model X.prog X.w) X.A X.env X.xe
 stk:X.stack=X.env::X.outer/\X.env.frame=some X.env.locals
section
variable {X:Cx} {ρ:Rho} {cx:Cxt} {k F:Nat} {sc scope:Scope} {Hs0 H0:Hp} {e:Expr} {d:D}
theorem zY(G:GoodS cx k X sc)(hN:X.N=ρ.map (·.1))(he:ev cx F sc (frz F e ρ) e=some d){σ:St}{H Hs:Hp}{Q:VK}(h:Hd X.K Hs0 H0 Hs H ρ σ)(q:∀ v Hs' H',Same Hs Hs'->Hd X.K Hs0 H0 Hs' H' (frz F e ρ) σ->Rep X.K Hs' d v->Q v H'):oN X e σ H Q:=by
 obtain⟨Hs1,sm1,h1⟩:=h.frozen F e;exact(cG cx F G.good (by rw[aG];exact hN) he).1 σ H Hs1 Q h1.ext.sub h1.sh fun v H' Hs' E r=>q v Hs' H' (sm1.trans E.vis) (h1.step E) r
theorem Gi(G:GoodS cx k X sc)(hN:X.N=ρ.map (·.1)){b:Bool}(he:ev cx F sc (frz F e ρ) e=some (.bl b)){σ:St}{H Hs:Hp}{Q:Bool->Hp->Prop}(h:Hd X.K Hs0 H0 Hs H ρ σ)(q:∀ Hs' H',Same Hs Hs'->Hd X.K Hs0 H0 Hs' H' ρ σ->Q b H'):yu X e σ H Q:=by
 obtain⟨Hs1,sm1,shp,h1⟩:=h.frozen2 F e;refine(cG cx F G.good (by rw[aG];exact hN) he).2 b rfl σ H Hs1 Q h1.ext.sub h1.sh fun H' Hs' E=>?_;obtain⟨Hs3,E3,_⟩:=eO (K:=X.K) (d:=.bl b) (v:=.bl b) h.ext.sub sm1 shp E rfl (by simp[Rep]);exact q Hs3 H' E3.vis (h.step E3)
theorem dI{t:Option Expr}{l:Nat}{env:Env}(he:ev cx F sc ρ e=some d)(hc:∀ a b c p,e≠.ListComp a b c p):swapsWith e t l env=pure false:=by
 cases F with
 | zero=>simp[ev] at he
 | succ F =>
  cases e<;>first | rfl | (exact nomatch (show(Option.none:Option D)=some d from he)) | (exact absurd rfl (hc _ _ _ _))
theorem yG(h:aQ e=false):jM e d=.sh d:=by
 unfold jM;split
 ·rw[h];rfl
 ·rfl
def KZ(X:Cx)(ρ:Rho)(e:Expr)(ds:List D):Prop:=∀ σ H Hs Q,Same Hs H->cC X.K Hs ρ σ->(∀ acc vs Hs' H',Ext Hs H Hs' H'->H acc=none->Hs' acc=none->H' acc=some (.lst vs)->aJ X.K Hs' ds vs->Q (.ref acc) H')->oN X e σ H Q
theorem yW{es:List Expr}{ds:List D}{pos:Pos}(h:EvA X ρ es ds)(hz:szl ds.length=true):KZ X ρ (.List es pos) ds:=fun σ H Hs Q hs hst hq =>
 (Br gY).sem (h σ H Hs _ hs hst fun vs H1 Hs1 E1 r1=>⟨by rw[<- r1.length];exact eE hz,fun p hp =>
  hq p vs Hs1 _ (Ext.acc E1 (E1.all.free hp) (E1.sub.free hp)) (E1.all.free hp) (E1.sub.free hp) aR r1⟩)
theorem jA{elt:Expr}{gens:List Comprehension}{pos:Pos}{n:Nat}(G:Good cx k X sc)(hN:X.N=ρ.map (·.1))(he:ev cx (n+1) sc ρ (.ListComp elt gens scope pos)=some d) :
    ∃ tg iter ifs l out, gens = [⟨tg, iter, ifs, 0⟩] /\ gq sc scope = true /\ EvI X ρ tg iter l /\ aD iter = true /\ szl l.length = true /\ bB (nZ cx n sc scope ρ tg elt ifs) l = some out /\ d = .lst out /\
      (∀ Xc,CompOf X scope Xc->∀ ρ1:Rho,Xc.N=ρ1.map (·.1)->∀ e d,ev cx n (jJ scope sc) ρ1 e=some d->Ev Xc ρ1 e d/\∀ b,d=.bl b->EvT Xc ρ1 e b):=by
  simp only[ev] at he
  split at he
  · rename_i tg iter ifs a
    split at he
    · rename_i hok
      rw[Bool.and_eq_true] at hok
      have ea:a=0:=by simpa using hok.1
      subst ea
      obtain⟨l,h1,he⟩:=aK he
      split at he
      · rename_i hz
        obtain⟨out,h2,he⟩:=aK he
        cases he
        obtain⟨hI,hp⟩:=wC (tg:=tg) G (fun e d h=>⟨(cG cx n G hN h).1,aM h⟩) h1
        exact⟨tg,iter,ifs,l,out,rfl,hok.2,hI,hp,hz,h2,rfl,fun Xc C ρ1 hN1 e d he=>cG cx n (G.comp C hok.2) hN1 he⟩
      · cases he
    · cases he
  · cases he
theorem Ek{a b:Expr}{ds:List D}{j:Int}{pos:Pos}(ha:Ev X ρ a (.lst ds))(hb:Ev X ρ b (.int j))(h1:j<=1000)(h2:-1000<=j)(hz:szl (ds.length*j.toNat)=true):KZ X ρ (.BinOp a .Mult b pos) (List.replicate j.toNat ds).flatten:=fun σ H Hs Q hs hst hq=>by
 refine(iD vm ak ak).sem (ha σ H Hs _ hs hst fun u H1 Hs1 E1 r1=>hb σ H1 Hs1 _ E1.sub (hst.same E1.vis) fun v H2 Hs2 E2 r2=>?_);obtain⟨p,us,rfl,g1,g2⟩:=aU (Rep.same E2.vis _ _ r1);have l1:=g2.length;have E:=E1.trans E2;exact⟨p,_,us,rfl,aA r2,E2.sub.seq g1,by omega,by omega,by have:=eE hz;rw[<- l1];exact this,fun q hq'=>hq q _ Hs2 _ (Ext.acc E (E.all.free hq') (E.sub.free hq')) (E.all.free hq') (E.sub.free hq') aR (g2.rep _)⟩
theorem qp{x:Str}{ds:List D}{px pos:Pos}(G:GoodS cx k X sc)(hN:X.N=ρ.map (·.1))(hx:ownIn sc x=true)(hc:(ρ.map (·.1)).contains x=true)(hno:jU (frz F e ρ) x=true)
  (hrun:∀ (i:Nat),X.N[i]?=some x->∀ σ H Hs D,Same Hs H->cC X.K Hs (frz F e ρ) σ->(∀ acc vs Hs' H',Ext Hs H Hs' H'->H acc=none->Hs' acc=none->H' acc=some (.lst vs)->aJ X.K Hs' ds vs->D.nx (σ.set i (some (.ref acc))) H')->gR X (.Assign [.Name x px] e pos) D σ H) :
  Runs X Hs0 H0 ρ (.nxt (bW (frz F e ρ) x (.ow ds))) (gR X (.Assign [.Name x px] e pos)):=by
 intro σ H Hs D h _ hn hr;obtain⟨i,hi⟩:=bJ hc;obtain⟨Hs1,sm1,h1⟩:=h.frozen F e
 have hnd:((frz F e ρ).map (·.1)).Nodup:=by rw[aG,<- hN];exact G.good.nd
 refine hrun i (by rw[hN];exact hi) σ H Hs1 D h1.ext.sub h1.sh fun acc vs Hs' H' E a1 a2 a3 r=>?_
 refine hn _ _ Hs' H' rfl (sm1.trans E.vis) (by rw[aB,aG];exact hN) ((h1.step E).own hnd (by rw[aG];exact hi) a3 r a2 (h1.ext.all.free a1) (Fe hnd (by rw[aG];exact hi) hno) fun j y es hj q1 q2=>?_)
 obtain⟨b,us,k1,k2,_⟩:=h1.ow j y es q1;rw[k1] at q2;cases q2;rw[a1] at k2;cases k2
theorem uH{x:Str}{px pos:Pos}(G:GoodS cx k X sc)(hN:X.N=ρ.map (·.1))(hx:ownIn sc x=true)(hc:(ρ.map (·.1)).contains x=true)(hno:aQ e=true->jU (frz F e ρ) x=true)(he:ev cx F sc (frz F e ρ) e=some d) :
  Runs X Hs0 H0 ρ (.nxt (bW (frz F e ρ) x (jM e d))) (gR X (.Assign [.Name x px] e pos)):=by
 obtain⟨ox,of⟩:=G.own.own x hx
 have hN':X.N=(frz F e ρ).map (·.1):=by rw[aG];exact hN
 by_cases hfr:aQ e=true
 ·cases F with
  | zero=>simp[ev] at he
  | succ F =>
   cases e with
   | List es p2 =>
    simp only[ev] at he;obtain⟨ds,h1,he⟩:=aK he;split at he
    ·rename_i hz
     cases he;have hA:=(eU (fun e _ d hd=>⟨(cG cx F G.good hN' hd).1,aM hd⟩) h1).1;refine qp G hN hx hc (hno rfl) fun i hi σ H Hs D hs hst hq=>?_;refine PS.sem (gW G.good.nd hi ox ak rfl of) (yW hA hz σ H Hs _ hs hst fun acc vs Hs' H' E a1 a2 a3 r=>hq acc vs Hs' H' E a1 a2 a3 r)
    ·cases he
   | ListComp elt gens scope p2 =>
    obtain⟨tg,iter,ifs,l,out,rfl,hok,hI,hp,hz,hgo,rfl,hE⟩:=jA G.good hN' he;obtain⟨ok1,ok2,ok3⟩:=cL G.good hok;refine qp G hN hx hc (hno rfl) fun i hi σ H Hs D hs hst hq=>?_
    have rd:o8 X scope (oZ X tg iter) (pJ X.N scope.names) (fun Xc=>zR Xc tg) (fun Xc=>pN Xc ifs) (fun Xc=>oN Xc elt) σ H (fun v H1=>D.nx (σ.set i (some v)) H1) :=
     jz G.good hN' hok hI hz hgo hE hs hst fun acc vs Hs' H' E a1 a2 a3 r=>hq acc vs Hs' H' E a1 a2 a3 r
    cases hsw:(X.env.blockKind==.function&&X.env.kindOf x==some .local&&px.line==p2.line && !(scope.names.any fun(n,k)=>n==x&&(k==.local||k==.cell))) with
    | true =>
     have e1:swapsWith (.ListComp elt [⟨tg,iter,ifs,0⟩] scope p2) (some (.Name x px)) pos.line X.env=pure true:=by rw[<- hsw];rfl
     rw[Bool.and_eq_true,Bool.and_eq_true,Bool.and_eq_true] at hsw
     have hl:X.env.scope.names.lookup x=some .local:=by simpa[Env.kindOf] using hsw.1.1.2
     exact PS.sem (uY G.good.nd hi hl G.good.calm ok1 ok2 ok3 jh (fun Xc C=>⟨fX,eX,ak⟩) (cW hp) e1) rd
    | false =>
     have e1:swapsWith (.ListComp elt [⟨tg,iter,ifs,0⟩] scope p2) (some (.Name x px)) pos.line X.env=pure false:=by rw[<- hsw];rfl
     exact PS.sem (gW G.good.nd hi ox (lC G.good.calm ok1 ok2 ok3 jh (fun Xc C=>⟨fX,eX,ak⟩) (cW hp)) e1 of) rd
   | BinOp a op b p2 =>
    have hno':=hno hfr;simp only[aQ,Bool.and_eq_true] at hfr;obtain⟨q1,q2⟩:=hfr
    cases op<;>simp[Ry] at q2
    cases a with
    | List es p3 =>
     simp only[ev] at he;obtain⟨dx,h1,he⟩:=aK he;obtain⟨dy,h2,he⟩:=aK he
     have hl:∃ ds0,dx=.lst ds0:=by
      cases F with
      | zero=>simp[ev] at h1
      | succ F =>
       simp only[ev] at h1;obtain⟨ds0,_,h1⟩:=aK h1;split at h1
       ·cases h1;exact⟨_,rfl⟩
       ·cases h1
     obtain⟨ds0,rfl⟩:=hl
     cases dy with
     | int j =>
      simp only[binop] at he;split at he
      ·rename_i hz
       cases he;rw[Bool.and_eq_true,Bool.and_eq_true,decide_eq_true_eq,decide_eq_true_eq] at hz;have e1:=(cG cx F G.good hN' h1).1;have e2:=(cG cx F G.good hN' h2).1;refine qp G hN hx hc hno' fun i hi σ H Hs D hs hst hq=>?_;refine PS.sem (gW G.good.nd hi ox ak rfl of) (Ek e1 e2 hz.1.1 hz.1.2 hz.2 σ H Hs _ hs hst fun acc vs Hs' H' E a1 a2 a3 r=>hq acc vs Hs' H' E a1 a2 a3 r)
      ·cases he
     | _=>simp[binop] at he
    | _=>exact absurd (show false=true from q1) Bool.false_ne_true
   | _=>simp[aQ] at hfr
 ·have hfr':aQ e=false:=by simpa using hfr
  rw[yG hfr'];intro σ H Hs D h _ hn hr;obtain⟨i,hi⟩:=bJ hc
  have hsw:=dI (t:=some (.Name x px)) (l:=pos.line) (env:=X.env) he fun a b c p q=>by rw[q] at hfr';cases hfr'
  refine PS.sem (gW (i:=i) G.good.nd (by rw[hN];exact hi) ox ak hsw of) (zY G hN he h fun v Hs' H' sm h' r=>?_)
  exact hn _ _ Hs' H' rfl sm (by rw[aB];exact hN') (h'.set (by rw[<- hN'];exact G.good.nd) (by rw[aG];exact hi) r)
theorem tM{es:List Expr}{l:List D}{ρ':Rho}{σ:St}{v:V}{Hs H:Hp}{P:Rho->St->Prop}{Q:St->Hp->Prop}{kt:Nat}{pos:Pos}(G:GoodS cx k X sc)(hs:Same Hs H)(hN:X.N=ρ.map (·.1))(KE:j7 X.K Hs sc P)(hl:items d=some l)(hb:bindNames sc es l ρ=some ρ')(hp:P ρ σ)(rd:Rep X.K Hs d v)
  (hq:∀ σ',X.N=ρ'.map (·.1)->P ρ' σ'->Q σ' H):zR X (.Tuple es kt pos) v σ H Q:=by
 obtain⟨e1,e2,e3⟩:=eY (env:=X.env) hb
 cases d with
 | tup xs =>
  simp only[items,Option.some.injEq] at hl;subst hl
  obtain⟨a,vs,rfl,h1,h2⟩:=bw rd;exact PG.sem (Bp G.good.calm lu e1 e2) ⟨a,vs,rfl,hs.tup h1,by rw[<- h2.length,e3],fj G.own G.good.nd KE hN hb hp h2 hq⟩
 | lst xs =>
  simp only[items,Option.some.injEq] at hl;subst hl
  obtain⟨a,vs,rfl,h1,h2⟩:=aU rd;exact PG.sem (Jg G.good.calm lu e1 e2) ⟨a,vs,rfl,hs.seq h1,by rw[<- h2.length,e3],fj G.own G.good.nd KE hN hb hp h2 hq⟩
 | _=>simp[items] at hl
theorem qK{n:Nat}(h:nc0 e=true):foldedForSure n e=false/\constantsAlone n e=false:=by
 cases e<;>simp[nc0] at h<;>(constructor<;>simp[foldedForSure,constantsAlone,h])
theorem Ju{n:Nat}(h:nc1 e=true):constantsAlone (n+1) e=false:=by
 unfold nc1 at h;split at h
 ·simp[constantsAlone,(qK (n:=n) h).2]
 ·exact(qK h).2
theorem zx(h:nc e=true):foldedForSure 8 e=false/\constantsAlone 8 e=false:=by
 unfold nc at h;split at h
 ·rw[Bool.or_eq_true] at h
  refine⟨by simp[foldedForSure],?_⟩
  rcases h with h | h<;>simp[constantsAlone,(qK (n:=7) h).2]
 ·rw[Bool.or_eq_true] at h
  refine⟨by simp[foldedForSure],?_⟩
  rcases h with h | h<;>simp[constantsAlone,(Ju (n:=6) h)]
 ·exact qK h
theorem mH(G:Good cx k X sc):X.env.blockKind=.function:=by
 unfold Env.blockKind;rw[G.sce,G.kind];rfl
theorem HJ{es:List Expr}{kt:Nat}{pt:Pos}(G:Good cx k X sc)(h:swp sc es e=some false):swappedStores [.Tuple es kt pt] e X.env=pure none:=by
 cases e with
 | Tuple vs k2 p2 =>
  simp only[swp] at h;split at h
  ·rename_i x px y py a b
   split at h
   ·split at h
    ·cases h
    ·split at h
     ·rename_i hcs
      rw[Bool.and_eq_true] at hcs
      have f1:foldedForSure 8 a=true:=by cases a<;>first | rfl | (simp[zK] at hcs)
      have f2:foldedForSure 8 b=true:=by cases b<;>first | rfl | (simp[zK] at hcs)
      have al1:[a,b].all (foldedForSure 8)=true:=by simp[f1,f2]
      unfold swappedStores;simp only[al1,if_true]
      repeat' split
      all_goals rfl
     ·cases h
   ·rename_i hl
    have hl':¬ ((X.env.kindOf x==some .local)=true/\(X.env.kindOf y==some .local)=true):=by
     intro q;apply hl;rw[Bool.and_eq_true];unfold Env.kindOf at q;rw[G.sce] at q;exact q
    unfold swappedStores
    cases h1:X.env.kindOf x==some .local<;>cases h2:X.env.kindOf y==some .local
    all_goals simp only[h1,h2] at hl'
    all_goals simp[h1,h2,mH G]
    ·intro _ _ hlen
     exfalso
     have n1:¬ X.env.kindOf x=some .local:=by simpa using h1
     have n2:¬ X.env.kindOf y=some .local:=by simpa using h2
     simp[List.filterMap_cons,n1,n2] at hlen
    ·intro _ _ hlen
     exfalso
     have n1:¬ X.env.kindOf x=some .local:=by simpa using h1
     simp only[List.filterMap_cons,List.filterMap_nil,n1,false_and,if_false] at hlen
     split at hlen<;>simp at hlen
    ·intro _ _ hlen
     exfalso
     have n1:¬ X.env.kindOf y=some .local:=by simpa using h2
     simp only[List.filterMap_cons,List.filterMap_nil,n1,false_and,if_false] at hlen
     split at hlen<;>simp at hlen
    ·exact absurd ⟨trivial,trivial⟩ hl'
  ·rename_i x px y py z pz a b c
   split at h
   ·rename_i hl
    simp only[Bool.and_eq_true] at hl;obtain⟨⟨l1,l2⟩,l3⟩:=hl
    have kd:∀ {v:Str},(sc.names.lookup v==some NameKind.cell)=true->¬ X.env.kindOf v=some .local:=fun {v} hv q=>by
     unfold Env.kindOf at q;rw[G.sce,eq_of_beq hv] at q;cases q
    have n1:=kd l1;have n2:=kd l2;have n3:=kd l3;unfold swappedStores
    have b1:(X.env.kindOf x==some NameKind.local)=false:=by simpa using n1
    have b2:(X.env.kindOf y==some NameKind.local)=false:=by simpa using n2
    have b3:(X.env.kindOf z==some NameKind.local)=false:=by simpa using n3
    simp[mH G,List.filterMap_cons,b1,b2,b3,n1,n2,n3]
   ·cases h
  ·cases h
 | _=>rfl
theorem CT{es:List Expr}{kt:Nat}{pt:Pos}(G:Good cx k X sc)(h:swp sc es e=some true):∃ x px y py a b k2 p2,es=[.Name x px,.Name y py]/\e=.Tuple [a,b] k2 p2/\X.env.scope.names.lookup x=some .local/\X.env.scope.names.lookup y=some .local/\x≠y/\aD a=true/\aD b=true /\
    swappedStores [.Tuple es kt pt] e X.env=pure (some [x,y]):=by
  cases e with
  | Tuple vs k2 p2 =>
    simp only[swp] at h
    split at h
    · rename_i x px y py a b
      split at h
      · rename_i hl
        split at h
        · rename_i hq
          rw[Bool.and_eq_true] at hl
          rw[Bool.and_eq_true,Bool.and_eq_true,Bool.and_eq_true,Bool.and_eq_true,Bool.or_eq_true] at hq
          obtain⟨⟨⟨⟨q1,q2⟩,q3⟩,q4⟩,q5⟩:=hq
          have l1:X.env.kindOf x=some .local:=by unfold Env.kindOf;rw[G.sce];simpa using hl.1
          have l2:X.env.kindOf y=some .local:=by unfold Env.kindOf;rw[G.sce];simpa using hl.2
          have hxy:x≠y:=by simpa using q2
          have hpl : py.line = px.line := by have : px.line = py.line := by simpa using q1
                                             exact this.symm
          have f1:(foldedForSure 8 a&&foldedForSure 8 b)=false:=by
            rcases q3 with q | q
            · rw[(zx q).1];rfl
            · rw[(zx q).1,Bool.and_false]
          have f2:(constantsAlone 8 a&&constantsAlone 8 b)=false:=by
            rcases q3 with q | q
            · rw[(zx q).2];rfl
            · rw[(zx q).2,Bool.and_false]
          refine⟨x,px,y,py,a,b,k2,p2,rfl,rfl,l1,l2,hxy,q4,q5,?_⟩
          unfold swappedStores
          have ed:([x,y]:List Str).eraseDups.length=2:=by
            have:(y==x)=false:=by simpa using hxy.symm
            simp[List.eraseDups_cons,this]
          have al1:[a,b].all (foldedForSure 8)=false:=by simpa using f1
          have al2:[a,b].all (constantsAlone 8)=false:=by simpa using f2
          simp only[al1,al2,mH G]
          generalize hst:[a,b].any _=sb
          have hsb:sb=false:=by
            rw[<- hst,List.any_cons,List.any_cons,List.any_nil,Bool.or_false,Bool.or_eq_false_iff]
            clear hst f1 f2 al1 al2 q3
            refine⟨?_,?_⟩
            · cases a<;>first | rfl | (simp[aD] at q4)
            · cases b<;>first | rfl | (simp[aD] at q5)
          generalize hf:List.filterMap _ [Expr.Name x px,Expr.Name y py]=nm
          have hnm:nm=[x,y]:=by
            rw[<- hf]
            simp[List.filterMap_cons,l1,l2,hpl,Expr.pos]
          rw[hsb,hnm]
          simp only[ed]
          rfl
        · split at h<;>cases h
      · cases h
    · split at h<;>cases h
    · cases h
  | _=>simp[swp] at h
end
end L2
namespace L2
open PySem PySem.Spec PyProof.Rows PySem.SeqAt
open DE hiding st
def XOk(X:Cx)(σ:St)(E:XK):Prop:=∀ pins H s e s',Inv X pins σ H s->CX1 X.prog X.w X.stack H s E e s'->X.xe e s'
def xT(X:Cx)(σ:St)(E:XK):Prop:=∀ pins H s (C e:Addr) h' args,Inv X pins σ H s->Heap.MadeExcOf s.heap h' e (.ref C) args->E (.ref C) none H->X.xe (.ref e) { s with heap:=h' }
def EX(X:Cx)(c:Str)(Hs H:Hp)(E:XK):Prop:=∀ C H' Hs',PySem.W.nsIn X.K mainGlobals c=some (some (.ref C))->Ext Hs H Hs' H'->E (.ref C) none H'
theorem EX.step{X:Cx}{c:Str}{Hs H Hs1 H1:Hp}{E:XK}(h:EX X c Hs H E)(e:Ext Hs H Hs1 H1):EX X c Hs1 H1 E:=fun C H' Hs' hn e'=>h C H' Hs' hn (e.trans e')
def EvX(X:Cx)(ρ:Rho)(e:Expr)(c:Str):Prop:=∀ σ H Hs E,Same Hs H->cC X.K Hs ρ σ->EX X c Hs H E->XOk X σ E->∀ Q,oN X e σ H Q
def Ug(X:Cx)(ρ:Rho)(es:List Expr)(c:Str):Prop:=∀ σ H Hs E,Same Hs H->cC X.K Hs ρ σ->EX X c Hs H E->XOk X σ E->∀ Q,uy X es σ H Q
section
variable {X:Cx} {ρ:Rho} {cx:Cxt} {k:Nat} {sc scope:Scope}
theorem Dp{f:Addr}{fd:FuncData}{ps:List Str}{sp:Sp}{E:XK}{pins:List (Addr×Obj)}{σ:St}{H:Hp}{s:Shared}{Q:VK}{us:List Value}{vs:List V}(F:FnOk X.prog X.w X.K X.mg X.base (CX1 X.prog X.w) k f fd ps sp)(hr:Room k X.A)(hb:Binds X.K fd ps [])(hx:XOk X σ E)
  (I:Inv X pins σ H s) (r:Vals vs us) (h:sp vs H Q E):wpAny (model X.prog X.w) X.A (call (.ref f) us) (EP X pins σ Q) X.xe s:=by
 have hl:(us++([]:List Value)).length=ps.length:=by rw[List.append_nil,<- r.length];exact F.len _ _ _ _ h
 have hb':=hb s us I.kIn hl;rw[List.append_nil] at hb';refine wpAny_call (codeAny_mono (F.run X.A X.stack s H ⟨us,[]⟩ us vs Q E hr I.env0 hb' r h) fun r s' hq=>?_)
 cases r with
 | error e=>exact hx pins H s e s' I hq
 | ok fl =>
  cases fl with
  | ret u=>exact I.after hq
  | next=>exact False.elim hq
  | brk=>exact False.elim hq
  | cont=>exact False.elim hq
theorem z7{f:Str}{es:List Expr}{c:Str}{p pos:Pos}(G:Good cx k X sc)(hg:Gl X f)(hf:cx.fns.contains f=true)(hne:es≠[])(hp:∀ e∈es,aD e=true)(h:Ug X ρ es c\/∃ ds,EvA X ρ es ds/\cx.callx f ds=some c) :
  EvX X ρ (.Call (.Name f p) es [] pos) c:=by
 obtain⟨hdb,a,fd,ps,_,har,hm,hk,hb,F⟩:=G.fns f hf
 cases es with
 | nil=>exact absurd rfl hne
 | cons e es =>
  intro σ H Hs E hs hst hE hx Q pins s I;refine wpAny_Call_Name_kw (jq I hg hm ?_ hdb);refine PySem.W.callWith_K (h₀:=X.base) I.ok.mod.kin hk ?_ (aj (hp e (by simp))) (eG fun e' he=>hp e' (List.mem_cons_of_mem _ he));rcases h with h | ⟨ds,hA,hc⟩
  ·exact thn (h σ H Hs E hs hst hE hx (fun _ _=>False) pos pins s I) fun us s1 ⟨vs,H1,I1,r,q⟩=>q.elim
  ·refine thn (hA σ H Hs (fun vs H1=>∃ Hs1,Ext Hs H Hs1 H1/\aJ X.K Hs1 ds vs) hs hst (fun vs H1 Hs1 E1 r1=>⟨Hs1,E1,r1⟩) pos pins s I) fun us s1 ⟨vs,H1,I1,r,Hs1,E1,r1⟩=>⟨I1.kIn,?_⟩
   exact Dp F G.room hb hx I1 r ⟨by rw[<- r1.length,har ds c hc],Hs1,ds,E1.sub,r1,.inr ⟨c,hc,hE.step E1⟩⟩
theorem qY(cx:Cxt):∀ (n:Nat) {k:Nat} {X:Cx} {sc:Scope} {ρ:Rho} {e:Expr} {c:Str},Good cx k X sc->X.N=ρ.map (·.1)->evx cx n sc ρ e=some c->EvX X ρ e c
 | 0,k,X,sc,ρ,e,c,_,_,h=>by exact nomatch (show(Option.none:Option Str)=some c from h)
 | n+1,k,X,sc,ρ,e,c,G,hN,h=>by
  have ih:∀ e d,ev cx n sc ρ e=some d->Ev X ρ e d/\∀ b,d=.bl b->EvT X ρ e b:=fun e d h=>cG cx n G hN h;simp only[evx] at h;split at h
  ·rename_i x p args pos
   split at h
   ·rename_i hc
    simp only[Bool.and_eq_true] at hc;obtain⟨⟨⟨hgl,hne⟩,hpl⟩,hfn⟩:=hc
    have hg:Gl X x:=by
     have e:sc.names.lookup x=some .globalImplicit:=by unfold lQ at hgl;simpa using hgl
     show X.env.scope.names.lookup x=_;rw[G.sce,e]
    have hp:∀ e∈args,aD e=true:=fun e he=>List.all_eq_true.mp hpl e he;refine z7 G hg hfn (fun q=>by rw[q] at hne;exact absurd hne (by decide)) hp ?_;split at h
    ·rename_i ds hds
     exact .inr ⟨ds,(eU (fun e _ d hd=>⟨(ih e d hd).1,aM hd⟩) hds).1,h⟩
    ·cases h
   ·cases h
  ·rename_i cc a b pos
   split at h
   ·rename_i hc
    have hc':=(ih _ _ (fu hc)).2 _ rfl;have ha:=qY cx n G hN h;intro σ H Hs E hs hst hE hx Q;exact(lB dO ak ak).sem (hc' σ H Hs _ hs hst fun H1 Hs1 E1=>tV (ha σ H1 Hs1 E E1.sub (hst.same E1.vis) (hE.step E1) hx Q))
   ·rename_i hc
    have hc':=(ih _ _ (fu hc)).2 _ rfl;have ha:=qY cx n G hN h;intro σ H Hs E hs hst hE hx Q;exact(lB dO ak ak).sem (hc' σ H Hs _ hs hst fun H1 Hs1 E1=>vW (ha σ H1 Hs1 E E1.sub (hst.same E1.vis) (hE.step E1) hx Q))
   ·cases h
  ·cases h
end
end L2
namespace L2
open PySem PySem.Spec PyProof.Rows PySem.SeqAt
open DE hiding st
section
variable {X:Cx} {ρ:Rho} {cx:Cxt} {k F:Nat} {sc scope:Scope} {Hs0 H0:Hp} {e:Expr} {d:D}
theorem FP{y:Expr}(h:KQ cx sc y=true):yj cx sc "list" [y]=.al/\aD y=true:=by
 unfold KQ at h;split at h
 ·exact⟨rfl,rfl⟩
 ·rename_i f p1 as p2
  rw[Bool.and_eq_true] at h
  have hb:aZ cx sc f=none:=by
   unfold aZ;rw[if_pos h.1]
   cases q:cx.blt.lookup f with
   | none=>rfl
   | some z=>rw[q] at h;exact absurd h.2 (by simp)
  refine⟨?_,rfl⟩;simp only[yj,oW,hb];rfl
 ·cases h
theorem vI{n:Nat}{lnm:Str}{y:Expr}{p1 p3:Pos}{v:D}(h:ev cx n sc ρ (.Call (.Name lnm p1) [y] [] p3)=some v)(hb:aZ cx sc lnm=some "list")(hw:yj cx sc "list" [y]=.al):∃ m d es,ev cx m sc ρ y=some d/\items d=some es/\v=.lst es:=by
 cases n with
 | zero=>exact nomatch (show(Option.none:Option D)=some v from h)
 | succ n =>
  unfold aZ at hb;split at hb
  ·rename_i hg
   have h':(match yj cx sc "list" [y] with
    | .lr1 a=>do let j <- (ev cx n sc ρ a).bind asI;if bZ j&&szl j.toNat then some (.lst (bR 0 j)) else none
    | .lr2 a a'=>do let i <- (ev cx n sc ρ a).bind asI;let j <- (ev cx n sc ρ a').bind asI;if bZ i&&bZ j&&szl (j-i).toNat then some (.lst (bR i j)) else none
    | .tr1 a=>if true then none else none
    | .tv a=>if true then none else none
    | .ls a=>do let xs <- (ev cx n sc ρ a).bind zB;let ks <- Ay xs;if Kst.Hg ks then some (.lst xs) else none
    | .al=>do let ds <- jO (ev cx n sc ρ) [y];DE.blt "list" ds)=some v:=by
    rw[<- h];simp only[ev,hg,if_true,hb];rfl
   rw[hw] at h';obtain⟨ds,h1,h2⟩:=aK h';simp only[jO] at h1;obtain⟨d',g1,g2⟩:=aK h1;obtain⟨_,g3,g4⟩:=aK g2;cases g3;cases g4;obtain⟨es,g5,g6⟩:=aK (show(items d' >>=fun l=>some (D.lst l))=some v from h2);cases g6;exact⟨n,d',es,g1,g5,rfl⟩
  ·cases hb
theorem Bt{n:Nat}{es:List D}(G:Good cx k X sc)(hN:X.N=ρ.map (·.1))(ho:KD cx sc e=true)(he:ev cx n sc ρ e=some (.lst es)):KZ X ρ e es:=by
 unfold KD at ho;split at ho
 ·rename_i lnm p1 y p3
  simp only[Bool.and_eq_true] at ho;obtain⟨q2,q3⟩:=ho
  have hb:aZ cx sc lnm=some "list":=by simpa using q2
  obtain⟨hw,hpl⟩:=FP q3;obtain⟨m,d',es',g1,g2,g3⟩:=vI he hb hw;cases g3;obtain⟨hg,hm,rfl⟩:=bh G hb;intro σ H Hs Q hs hst hq;refine(nq (iu (X:=X)) hg hm (by decide +kernel) (aV ak bO (aj hpl)) (by decide) (by decide) (aj hpl) rfl).sem ?_;refine(cG cx m G hN g1).1 σ H Hs _ hs hst fun v H7 Hs7 E7 r7=>?_;obtain⟨q,us,rfl,k1,k2⟩:=jd r7 g2;exact⟨q,us,rfl,k1.imp E7.sub.seq E7.sub.tup,fun b hb7=>hq b us Hs7 _ (Ext.acc E7 (E7.all.free hb7) (E7.sub.free hb7)) (E7.all.free hb7) (E7.sub.free hb7) aR k2⟩
 ·cases n with
  | zero=>exact nomatch (show(Option.none:Option D)=some _ from he)
  | succ n =>
   obtain⟨tg,iter,ifs,l,out,rfl,hok,hI,hp,hz,hgo,e1,hE⟩:=jA G hN he;cases e1;obtain⟨ok1,ok2,ok3⟩:=cL G hok;intro σ H Hs Q hs hst hq;exact(lC G.calm ok1 ok2 ok3 jh (fun Xc C=>⟨fX,eX,ak⟩) (cW hp)).sem (jz G hN hok hI hz hgo hE hs hst hq)
 ·rename_i a op b p0
  cases n with
  | zero=>exact nomatch (show(Option.none:Option D)=some _ from he)
  | succ n =>
   simp only[Bool.and_eq_true] at ho
   cases op<;>first | (simp[Rz] at ho;done) | skip
   obtain⟨x,h1,he⟩:=aK (show(ev cx n sc ρ a >>=fun x=>ev cx n sc ρ b >>=fun y=>binop .Add x y)=some (D.lst es) from he);obtain⟨y,h2,he⟩:=aK he
   have key:∀ x y:D,binop .Add x y=some (D.lst es)->∃ xs ys,x=.lst xs/\y=.lst ys/\szl (xs.length+ys.length)=true/\xs++ys=es:=fun x y h=>by
    cases x<;>cases y<;>simp[binop] at h
    exact⟨_,_,rfl,rfl,h.1,h.2⟩
   obtain⟨xs,ys,rfl,rfl,hz,rfl⟩:=key x y he;intro σ H Hs Q hs hst hq;refine(iD vo ak ak).sem ((cG cx n G hN h1).1 σ H Hs _ hs hst fun u H1 Hs1 E1 r1=>(cG cx n G hN h2).1 σ H1 Hs1 _ E1.sub (hst.same E1.vis) fun v H2 Hs2 E2 r2=>?_);obtain⟨p,us,rfl,g1,g2⟩:=aU (Rep.same E2.vis _ u r1);obtain⟨q,ws,rfl,g3,g4⟩:=aU r2;have E:=E1.trans E2;have l1:=g2.length;have l2:=g4.length;exact⟨p,q,us,ws,rfl,rfl,E2.sub.seq g1,E2.sub.seq g3,by have:=eE hz;omega,fun l hl=>hq l (us++ws) Hs2 _ (Ext.acc E (E.all.free hl) (E.sub.free hl)) (E.all.free hl) (E.sub.free hl) aR (g2.append g4)⟩
 ·cases ho
theorem GP{tg iter elt:Expr}{l:List D}{dss:List (List D)}(G:Good cx k X sc)(hN:X.N=ρ.map (·.1))(hok:gq sc scope=true)(hI:EvI X ρ tg iter l)(hz:szl l.length=true)(hlen:dss.length=l.length)
  (hs1:∀ Xc,CompOf X scope Xc->∀ (i:Nat) d,l[i]?=some d->∃ ρ1 es,fG scope tg d (bD scope ρ)=some ρ1/\dss[i]?=some es/\(Xc.N=ρ1.map (·.1)->KZ Xc ρ1 elt es))
  {σ:St} {H Hs:Hp} {Q:VK} (hs:Same Hs H) (hst:cC X.K Hs ρ σ) (hq:∀ a bs Hs' H',Ext Hs H Hs' H'->OO X.K H Hs' H' a bs dss->Q (.ref a) H') :
  o8 X scope (oZ X tg iter) (pJ X.N scope.names) (fun Xc=>zR Xc tg) (fun Xc=>pN Xc []) (fun Xc=>oN Xc elt) σ H Q:=by
 obtain⟨ok1,ok2,ok3⟩:=cL G hok;refine hI σ H Hs _ hs hst fun J H1 Hs1 E1 hJ acc hacc Xc C=>?_;have GC:=G.comp C hok;have OC:=Owns.comp (scope:=scope) G C
 have hNc:∀ ρ1:Rho,ρ1.map (·.1)=scope.names.map (·.1)->Xc.N=ρ1.map (·.1):=fun ρ1 h=>by rw[C.N,h]
 have a1:Hs1 acc=none:=E1.sub.free hacc;have a0:H acc=none:=E1.all.free hacc
 let W:Nat->Nat->St->Hp->Prop:=fun i m σc H3=>m=l.length-i/\i<=l.length/\∃ Hs3 bs,Ext Hs1 H1 Hs3 H3/\OO X.K H Hs3 H3 acc bs (dss.take i)/\σc.length=scope.names.length/\cC X.K Hs3 (bD scope ρ) σc
 refine⟨W,⟨l.length,rfl,Nat.zero_le _,Hs1,[],Ext.acc (.refl E1.sub) hacc a1,⟨aR,a1,a0,.nil,by simp,by simp,fun j b e=>by simp at e⟩,by simp[pJ],jB hN (hst.same E1.vis)⟩,?_⟩;rintro i m σc H3 ⟨rfl,hi,Hs3,bs,E3,o3,l3,s3⟩;obtain⟨st3,go3⟩:=hJ Hs3 H3 E3.vis E3.sub
 by_cases hlt:i<l.length
 ·have hd:l[i]?=some l[i]:=List.getElem?_eq_getElem hlt
  obtain⟨gi,yi⟩:=go3 i l[i] hd;refine .inr ⟨gi,fun σ' H'=>W (i+1) (l.length-(i+1)) σ' H',fun σ' H' w=>⟨_,by omega,w⟩,fun x H4 y4=>?_⟩;obtain⟨Hs4,E4,rx⟩:=yi x H4 y4;obtain⟨ρ1,es,k1,k4,kO⟩:=hs1 Xc C i l[i] hd;have s4:cC X.K Hs4 (bD scope ρ) σc:=s3.same E4.vis;have KE:=jX (K:=Xc.K) (Hs:=Hs4) (ρ:=ρ) (n:=scope.names.length) ok2 rfl;refine pY (X:=Xc) (scope:=scope) (Hs:=Hs4) GC.calm OC GC.nd E4.sub (hNc _ cU) KE k1 ⟨cU,l3,by rw[C.K];exact s4,by rw[C.K];exact s4⟩ (by rw[C.K];exact rx) fun σ5 hN5 p5=>?_;obtain⟨_,l5,s5,s5'⟩:=p5;refine BZ (f:=fun _=>none) (ifs:=[]) (b:=true) (fun _ _ h=>nomatch h) rfl E4.sub s5 fun H6 Hs6 E6=>tV ?_;have E46:=E4.trans E6;have o6:=o3.step E46;have E16:Ext Hs1 H1 Hs6 H6:=E3.trans E46;refine kO hN5 σ5 H6 Hs6 _ E6.sub (s5.same E6.vis) fun b us Hs7 H7 E7 hb6 hbs hb7 g2=>?_;have o7:=o6.step E7;have E17:Ext Hs1 H1 Hs7 H7:=E16.trans E7
  have ne:acc≠b:=fun w=>by have:=o6.1;rw[w,hb6] at this;cases this
  refine⟨bs.map V.ref,o7.1,?_,rfl,hlt,Hs7,bs++[b],?_,?_,l5,?_⟩
  ·have:=qg hz
   have:=o7.2.2.2.2.2.1;rw[List.length_map,this,List.length_take];omega
  ·exact Ext.acc E17 hacc o7.2.1
  ·have b0:H b=none:=E1.all.free (E16.all.free hb6)
   have ln:=o7.2.2.2.2.2.1
   have old:∀ (j:Nat) b',bs[j]?=some b'->b'≠b/\b'≠acc:=fun j b' e=>by
    obtain⟨_,_,_,_,_,m4,_⟩:=o6.2.2.2.2.2.2 j b' e;refine⟨fun w=>?_,fun w=>o6.2.2.2.2.1 (by rw[<- w];exact List.mem_of_getElem? e)⟩;rw[w,hb6] at m4;cases m4
   refine⟨by rw[aR,List.map_append];rfl,o7.2.1,o7.2.2.1,?_,?_,?_,fun j b' e=>?_⟩
   ·rw[List.nodup_append]
    refine⟨o7.2.2.2.1,by simp,fun x' hx' y' hy'=>?_⟩;obtain⟨j,e⟩:=List.mem_iff_getElem?.mp hx';rw[List.mem_singleton.mp hy'];exact(old j x' e).1
   ·rw[List.mem_append,not_or]
    exact⟨o7.2.2.2.2.1,by simpa using ne⟩
   ·rw[List.length_append,ln,List.length_take,List.length_take,List.length_singleton]
    omega
   ·by_cases hj:j<bs.length
    ·rw[List.getElem?_append_left hj] at e
     obtain⟨m1,m2,ds,ws,m3,m4,m5⟩:=o7.2.2.2.2.2.2 j b' e;obtain⟨n1,n2⟩:=old j b' e;refine⟨m1,m2,ds,ws,?_,by rw[aH n2];exact m4,m5⟩;rw[ln,List.length_take] at hj;rw[List.getElem?_take] at m3 ⊢;rw[if_pos (by omega)] at m3 ⊢;exact m3
    ·rw[List.getElem?_append_right (by omega)] at e
     have ej:j-bs.length=0:=by
      rcases Nat.eq_zero_or_pos (j-bs.length) with z | z
      ·exact z
      ·rw[List.getElem?_eq_none (by simp;omega)] at e;cases e
     rw[ej] at e
     have eb:b=b':=by simpa using e
     subst eb
     have jl:j=i:=by
      rw[ln,List.length_take] at hj ej;omega
     subst jl;refine⟨hbs,b0,es,us,?_,by rw[aH (Ne.symm ne)];exact hb7,by rw[<- C.K];exact g2⟩;rw[List.getElem?_take,if_pos (by omega)];exact k4
  ·rw[<- C.K]
   exact s5'.same (E6.trans E7).vis
 ·have hi':i=l.length:=by omega
  subst hi';refine .inl ⟨st3,hq acc bs Hs3 H3 (E1.trans E3) ?_⟩;rw[<- hlen,List.take_length] at o3;exact o3
theorem OO.low{K:PySem.W.Frag}{H0 H1 Hs H:Hp}{a:Addr}{bs:List Addr}{dss:List (List D)}(h:OO K H1 Hs H a bs dss)(q:∀ b,H1 b=none->H0 b=none):OO K H0 Hs H a bs dss:=by
 obtain⟨h1,h2,h3,h4,h5,h6,h7⟩:=h;refine⟨h1,h2,q _ h3,h4,h5,h6,fun j b e=>?_⟩;obtain⟨k1,k2,k3⟩:=h7 j b e;exact⟨k1,q _ k2,k3⟩
theorem qM:∀ {ds:List D} {dss:List (List D)},Hl ds=some dss->dss.length=ds.length/\∀ (i:Nat) d,ds[i]?=some d->∃ es,d=.lst es/\dss[i]?=some es
 | [],dss,h=>by cases h;exact⟨rfl,fun i d e=>by simp at e⟩
 | d::ds,dss,h=>by
  cases d with
  | lst es =>
   simp only[Hl,Option.map_eq_some_iff] at h;obtain⟨r,h1,rfl⟩:=h;obtain⟨g1,g2⟩:=qM h1;refine⟨by simp[g1],fun i d e=>?_⟩
   cases i with
   | zero=>simp at e;subst e;exact⟨es,rfl,rfl⟩
   | succ i=>exact g2 i d (by simpa using e)
  | _=>simp[Hl] at h
theorem j5{f:D->Option (Option D)}:∀ {l out:List D},(∀ d∈l,f d≠some none)->bB f l=some out->out.length=l.length/\∀ (i:Nat) d,l[i]?=some d->∃ v,f d=some (some v)/\out[i]?=some v
 | [],out,_,h=>by cases h;exact⟨rfl,fun i d e=>by simp at e⟩
 | d::l,out,hn,h=>by
  rcases jD h with⟨v,o',f1,f2,rfl⟩ | ⟨f1,_⟩
  ·obtain⟨g1,g2⟩:=j5 (fun d hd=>hn d (List.mem_cons_of_mem _ hd)) f2
   refine⟨by simp[g1],fun i d e=>?_⟩
   cases i with
   | zero=>simp at e;subst e;exact⟨v,f1,rfl⟩
   | succ i=>exact g2 i d (by simpa using e)
  ·exact absurd f1 (hn d List.mem_cons_self)
theorem Lj{x:Str}{px pos:Pos}{dss:List (List D)}(G:GoodS cx k X sc)(hN:X.N=ρ.map (·.1))(hx:ownIn sc x=true)(hc:(ρ.map (·.1)).contains x=true)(hoo:ooE cx sc e=true)(hon:sO (frz F e ρ) x=true)(he:ev cx F sc (frz F e ρ) e=some d)(hd:JF d=some dss) :
  Runs X Hs0 H0 ρ (.nxt (bW (frz F e ρ) x (.oo dss))) (gR X (.Assign [.Name x px] e pos)):=by
 obtain⟨ox,of⟩:=G.own.own x hx
 have hN':X.N=(frz F e ρ).map (·.1):=by rw[aG];exact hN
 unfold ooE at hoo;split at hoo
 ·rename_i elt y' pt iter a0 scope p4
  cases F with
  | zero=>exact nomatch (show(Option.none:Option D)=some d from he)
  | succ F =>
   obtain⟨tg,iter',ifs,l,out,hg,hok,hI,hp,hz,hgo,rfl,hE⟩:=jA G.good hN' he;cases hg;obtain⟨ok1,ok2,ok3⟩:=cL G.good hok;intro σ H Hs D h _ hn hr;obtain⟨i,hi⟩:=bJ hc;obtain⟨Hs1,sm1,h1⟩:=h.frozen (F+1) (.ListComp elt [⟨.Name y' pt,iter,[],0⟩] scope p4);generalize hρ:frz (F+1) (.ListComp elt [⟨.Name y' pt,iter,[],0⟩] scope p4) ρ=ρ' at *
   have nm:ρ'.map (·.1)=ρ.map (·.1):=by rw[<- hρ,aG]
   have hf:∀ d o,nZ cx F sc scope ρ' (.Name y' pt) elt [] d=some o->∃ ρ1 v,fG scope (.Name y' pt) d (bD scope ρ')=some ρ1/\ev cx F (jJ scope sc) ρ1 elt=some v/\o=some v:=fun d o h=>by
    obtain⟨ρ1,h1,h⟩:=aK h;obtain⟨b,h2,h⟩:=aK h;cases h2;simp only[if_true,Option.map_eq_some_iff] at h;obtain⟨v,h3,h4⟩:=h;exact⟨ρ1,v,h1,h3,h4.symm⟩
   obtain⟨n1,n2⟩:=j5 (fun d _ h=>by obtain⟨_,_,_,_,h⟩:=hf d _ h;cases h) hgo
   obtain⟨m1,m2⟩:=qM (show Hl out=some dss from hd)
   have hnd:(ρ'.map (·.1)).Nodup:=by rw[nm,<- hN];exact G.good.nd
   have hi':X.N[i]?=some x:=by rw[hN];exact hi
   have rd:o8 X scope (oZ X (.Name y' pt) iter) (pJ X.N scope.names) (fun Xc=>zR Xc (.Name y' pt)) (fun Xc=>pN Xc []) (fun Xc=>oN Xc elt) σ H (fun v H1=>D.nx (σ.set i (some v)) H1):=by
    refine GP (dss:=dss) G.good hN' hok hI hz (by rw[m1,n1]) (fun Xc C j dd hj=>?_) h1.ext.sub h1.sh fun a bs Hs' H' E o=>?_
    ·obtain⟨v,f1,f2⟩:=n2 j dd hj
     obtain⟨ρ1,v',b1,b2,b3⟩:=hf dd _ f1;cases b3;obtain⟨es',g3,g4⟩:=m2 j v f2;subst g3;exact⟨ρ1,es',b1,g4,fun hN1=>Bt (G.good.comp C hok) hN1 hoo b2⟩
    ·exact hn _ _ Hs' H' rfl (sm1.trans E.vis) (by rw[aB,nm];exact hN) ((h1.step E).own2 hnd (by rw[nm];exact hi) (o.low fun b q=>h1.ext.all.free q) (yZ hnd (by rw[nm];exact hi) hon))
   cases hsw:(X.env.blockKind==.function&&X.env.kindOf x==some .local&&px.line==p4.line && !(scope.names.any fun(n,k)=>n==x&&(k==.local||k==.cell))) with
   | true =>
    have e1:swapsWith (.ListComp elt [⟨.Name y' pt,iter,[],0⟩] scope p4) (some (.Name x px)) pos.line X.env=pure true:=by rw[<- hsw];rfl
    rw[Bool.and_eq_true,Bool.and_eq_true,Bool.and_eq_true] at hsw
    have hl:X.env.scope.names.lookup x=some .local:=by simpa[Env.kindOf] using hsw.1.1.2
    exact PS.sem (uY G.good.nd hi' hl G.good.calm ok1 ok2 ok3 jh (fun Xc C=>⟨fX,eX,ak⟩) (cW hp) e1) rd
   | false =>
    have e1:swapsWith (.ListComp elt [⟨.Name y' pt,iter,[],0⟩] scope p4) (some (.Name x px)) pos.line X.env=pure false:=by rw[<- hsw];rfl
    exact PS.sem (gW G.good.nd hi' ox (lC G.good.calm ok1 ok2 ok3 jh (fun Xc C=>⟨fX,eX,ak⟩) (cW hp)) e1 of) rd
 ·cases hoo
theorem jg{o i:Expr}{pos:Pos}{env:Env}(h:aD i=true):∀ v,assign (.Subscript o i pos) env v=(do
   let ov <- holding [v] (eval o env)
   let iv <- holding [v,ov] (eval i env)
   standAt pos
   holding [v,ov,iv] (setItem ov iv v)
   release [v,ov,iv] []):=by
 intro v
 cases i<;>first | rfl | (exact absurd h (by simp[aD]))
theorem aJ.set{K:PySem.W.Frag}{H:Hp}{d:D}{v:V}(hv:Rep K H d v):∀ {ds:List D} {vs:List V} (n:Nat),aJ K H ds vs->aJ K H (ds.set n d) (vs.set n v)
 | [],vs,n,h=>by
  have:vs=[]:=by simpa[aJ] using h
  subst this;simpa[aJ] using h
 | e::ds,vs,n,h=>by
  simp only[aJ] at h;obtain⟨w,r,rfl,h1,h2⟩:=h
  cases n with
  | zero=>exact .cons hv h2
  | succ n=>exact .cons h1 (aJ.set hv n h2)
theorem pq{tg:Expr}{l:Nat}{env:Env}(he:ev cx F sc ρ e=some d)(hc:aQ e=false):swapsWithSole [tg] e l env=pure false:=by
 show swapsWith e (some tg) l env=pure false
 exact dI he fun a b c p q=>by rw[q] at hc;cases hc
theorem iY{o i:Expr}{pos:Pos}{env:Env}:swappedStores [.Subscript o i pos] e env=pure none:=by
 cases e<;>rfl
theorem CZ{x:Str}{i1 i2:Expr}{dss:List (List D)}{ds:List D}{j1 j2:Int}{n1 n2:Nat}{px tp tp2 pos:Pos}(G:GoodS cx k X sc)(hN:X.N=ρ.map (·.1))(hx:ρ.lookup x=some (.oo dss))(ho:ownIn sc x=true)(hp:aq x=true)(hfr:aQ e=false)
  (q1:ev cx F sc (frz F e ρ) e=some d) (q2:ev cx F sc (frz F i1 ρ) i1=some (.int j1)) (q3:ixD dss.length j1=some n1) (q4:dss[n1]?=some ds) (q5:ev cx F sc (frz F i2 ρ) i2=some (.int j2)) (q6:ixD ds.length j2=some n2) (q7:fO d=true) :
  Runs X Hs0 H0 ρ (.nxt (bW ρ x (.oo (dss.set n1 (ds.set n2 d))))) (gR X (.Assign [.Subscript (.Subscript (.Name x px) i1 tp) i2 tp2] e pos)):=by
 have hNf:∀ e,X.N=(frz F e ρ).map (·.1):=fun e=>by rw[aG];exact hN
 obtain⟨i,hi,_⟩:=bT hx
 have nd:(ρ.map (·.1)).Nodup:=by rw[<- hN];exact G.good.nd
 intro σ H Hs D h _ hn hr;obtain⟨⟨ad,bs,k1,k2⟩,_⟩:=h.oo i x dss hi;unfold aq at hp;rw[Bool.and_eq_true,bne_iff_ne,bne_iff_ne] at hp;have vis:Vis X.env.scope x:=(G.own.own x ho).1.elim .inl fun q=>.inr (.inl q)
 have hNi:X.N[i]?=some x:=by rw[hN,List.getElem?_map,hi];rfl
 have pv:∀ {pp:Pos},PE X (.Name x pp) (HB i):=fun {pp}=>fY hNi vis (by simpa using hp.1) (by simpa using hp.2);have ll:=k2.2.2.2.2.2.1
 have nlt:n1<bs.length:=by
  rw[ll];exact(List.getElem?_eq_some_iff.mp q4).1
 obtain⟨b,hb⟩:∃ b,bs[n1]?=some b:=⟨_,List.getElem?_eq_getElem nlt⟩;refine PS.sem (qF ak (vf (Ef vU pv ak (iK (aM q2))) ak set_list (jg (aM q5))) (pq q1 hfr) iY rfl) ?_;obtain⟨Hs1,sm1,shp,h1⟩:=h.frozen2 F e;refine(cG cx F G.good (hNf e) q1).1 σ H Hs1 _ h1.ext.sub h1.sh fun v1 H1 Hs4 E1 r1=>?_;obtain⟨Hs7,B1,r1'⟩:=eO h.ext.sub sm1 shp E1 q7 r1;have hB1:=h.step B1;obtain⟨Hs2,sm2,h2⟩:=hB1.frozen F i1;refine⟨.ref ad,k1,(cG cx F G.good (hNf i1) q2).1 σ H1 Hs2 _ h2.ext.sub h2.sh fun v2 H2 Hs5 E2 r2=>?_⟩;have B2:Ext Hs7 H1 Hs7 H2:=⟨.refl _,E2.all,hB1.ext.sub.trans E2.all,fun _ _ _ h=>h⟩;have hB2:=hB1.step B2;have o2:=(k2.step B1).step B2;refine⟨ad,bs.map V.ref,j1,.ref b,rfl,aA r2,.of o2.1,?_,?_⟩
 ·unfold atI
  rw[List.length_map,ll,<- nJ,q3];show(bs.map V.ref)[n1]?=_;rw[List.getElem?_map,hb];rfl
 obtain⟨Hs3,sm3,h3⟩:=hB2.frozen F i2;refine(cG cx F G.good (hNf i2) q5).1 σ H2 Hs3 _ h3.ext.sub h3.sh fun v3 H3 Hs6 E3 r3=>?_;have B3:Ext Hs7 H2 Hs7 H3:=⟨.refl _,E3.all,hB2.ext.sub.trans E3.all,fun _ _ _ h=>h⟩;have o3:=o2.step B3;obtain⟨m1,m2,ds',us,m3,m4,m5⟩:=o3.2.2.2.2.2.2 n1 b hb;rw[q4] at m3;cases m3;have nab:ad≠b:=fun w=>o3.2.2.2.2.1 (by rw[w];exact List.mem_of_getElem? hb);refine⟨b,us,j2,n2,rfl,aA r3,m4,by rw[<- m5.length,<- nJ];exact q6,?_⟩;refine hn _ _ Hs7 _ rfl B1.vis (by rw[aB];exact hN) ((hB2.step B3).app2 nd hi k1 m1 m2 (bs':=bs) ⟨by rw[aH nab];exact o3.1,o3.2.1,o3.2.2.1,o3.2.2.2.1,o3.2.2.2.2.1,by rw[List.length_set];exact o3.2.2.2.2.2.1,fun jj b' e=>?_⟩)
 by_cases hjj:n1=jj
 ·subst hjj
  rw[hb] at e;cases e;refine⟨m1,m2,ds.set n2 d,us.set n2 v1,?_,aR,aJ.set r1' n2 m5⟩;rw[List.getElem?_set,if_pos rfl,if_pos (by rw[<- ll];exact nlt)]
 ·obtain⟨m1',m2',ds',us',m3',m4',m5'⟩:=o3.2.2.2.2.2.2 jj b' e
  refine⟨m1',m2',ds',us',?_,?_,m5'⟩
  ·rw[List.getElem?_set,if_neg hjj];exact m3'
  ·rw[aH]
   ·exact m4'
   ·intro w
    rw[w] at e;exact hjj ((List.getElem?_inj nlt o3.2.2.2.1).mp (hb.trans e.symm))
end
end L2
namespace L2
open PySem PySem.Spec PyProof.Rows PySem.SeqAt
open DE hiding st
section
variable {X:Cx} {pos:Pos}
end
section
variable {X:Cx} {ρ:Rho} {cx:Cxt} {k F:Nat} {sc scope:Scope} {Hs0 H0:Hp} {e:Expr} {d:D}
theorem HN{es:List Expr}{l:List D}{ρ':Rho}{kt:Nat}{pt pos:Pos}(G:GoodS cx k X sc)(hN:X.N=ρ.map (·.1))(hs:(swp sc es e).isSome=true)(he:ev cx F sc (frz F e ρ) e=some d)(hl:items d=some l)(hb:bindNames sc es l (frz F e ρ)=some ρ') :
  Runs X Hs0 H0 ρ (.nxt ρ') (gR X (.Assign [.Tuple es kt pt] e pos)):=by
 have hN':X.N=(frz F e ρ).map (·.1):=by rw[aG];exact hN
 obtain⟨b,hb'⟩:=Option.isSome_iff_exists.mp hs
 cases b with
 | false =>
  have hw:=HJ (kt:=kt) (pt:=pt) G.good hb'
  have hso:swapsWithSole [.Tuple es kt pt] e pos.line X.env=pure false:=by
   show swapsWith e (some (.Tuple es kt pt)) pos.line X.env=pure false
   by_cases hc:∃ a b c p,e=.ListComp a b c p
   ·obtain⟨a,b,c,p,rfl⟩:=hc
    rfl
   ·exact dI he fun a b c p q=>hc ⟨a,b,c,p,q⟩
  intro σ H Hs D h _ hn hr;exact PS.sem (qF ak fX hso hw rfl) (zY G hN he h fun v Hs' H' sm h' r=>tM G h'.ext.sub hN' qN hl hb h' r fun σ' hN2 p=>hn ρ' σ' Hs' H' rfl sm hN2 p)
 | true =>
  obtain⟨x,px,y,py,a,b,k2,p2,rfl,rfl,lx,ly,hxy,pa,pb,hw⟩:=CT (kt:=kt) (pt:=pt) G.good hb'
  cases F with
  | zero=>simp[ev] at he
  | succ F =>
   simp only[ev] at he;obtain⟨ds,h1,he⟩:=aK he;split at he
   ·cases he
    simp only[items,Option.some.injEq] at hl;subst hl;have hA:=(eU (fun e _ d hd=>⟨(cG cx F G.good hN' hd).1,aM hd⟩) h1).1
    have hlen:ds.length=2:=by have:=(eY (env:=X.env) hb).2.2;simpa using this.symm
    obtain⟨d1,d2,rfl⟩:∃ d1 d2,ds=[d1,d2]:=by
     match ds,hlen with
     | [d1,d2],_=>exact⟨d1,d2,rfl⟩
    simp only[bindNames] at hb;split at hb
    ·rename_i c1
     split at hb
     ·rename_i c2
      cases hb;rw[Bool.and_eq_true] at c1 c2;rw[aB] at c2;obtain⟨i,hi⟩:=bJ c1.2;obtain⟨j,hj⟩:=bJ c2.2
      have hij:i≠j:=fun z=>by rw[z,hj] at hi;cases hi;exact hxy rfl
      intro σ H Hs D h _ hn hr;obtain⟨Hs1,sm1,h1'⟩:=h.frozen (F+1) (.Tuple [a,b] k2 p2);refine PS.sem (Jc G.good.calm G.good.nd (by rw[hN'];exact hi) (by rw[hN'];exact hj) hij lx ly gY hw rfl) (hA σ H Hs1 _ h1'.ext.sub h1'.sh fun vs H' Hs' E r=>?_);obtain⟨v,w,rfl,r1,r2⟩:=Du r
      have nd:((frz (F+1) (.Tuple [a,b] k2 p2) ρ).map (·.1)).Nodup:=by rw[<- hN'];exact G.good.nd
      have g1:=(h1'.step E).set nd hi r1;have g2:=g1.set (by rw[aB];exact nd) (by rw[aB];exact hj) r2;exact⟨v,w,rfl,hn _ _ Hs' H' rfl (sm1.trans E.vis) (by rw[aB,aB];exact hN') g2⟩
     ·cases hb
    ·cases hb
   ·cases he
theorem Runs.frz0{fl:Fl}{t:TS}{e:Expr}(h:Runs X Hs0 H0 (frz 0 e ρ) fl t):Runs X Hs0 H0 ρ fl t:=by
 intro σ H Hs D hd hN hn hr;obtain⟨Hs1,sm1,h1⟩:=hd.frozen 0 e;exact h σ H Hs1 D h1 (by rw[aG];exact hN) (fun ρ' σ' Hs' H' q sm hN' h'=>hn ρ' σ' Hs' H' q (sm1.trans sm) hN' h') hr
theorem uJ{x:Str}{ds:List D}{px ap cp pos:Pos}(G:GoodS cx k X sc)(hN:X.N=ρ.map (·.1))(hx:(frz F e ρ).lookup x=some (.ow ds))(ho:ownIn sc x=true)(hp:aq x=true)(hline:(ap.endLine==cp.line)=true)(hz:szl (ds.length+1)=true)(he:ev cx F sc (frz F e ρ) e=some d) :
  Runs X Hs0 H0 ρ (.nxt (bW (frz F e ρ) x (.ow (ds++[d])))) (gR X (.Expr (.Call (.Attribute (.Name x px) "append" ap) [e] [] cp) pos)):=by
 have hN':X.N=(frz F e ρ).map (·.1):=by rw[aG];exact hN
 obtain⟨i,hi,_⟩:=bT hx
 have nd:((frz F e ρ).map (·.1)).Nodup:=by rw[<- hN'];exact G.good.nd
 have hpl:=aM he;intro σ H Hs D h _ hn hr;obtain⟨Hs1,sm1,h1⟩:=h.frozen F e;obtain⟨a,vs,k1,k2,k3,k4,k5⟩:=h1.ow i x ds hi;unfold aq at hp;rw[Bool.and_eq_true,bne_iff_ne,bne_iff_ne] at hp;have vis:Vis X.env.scope x:=(G.own.own x ho).1.elim .inl fun q=>.inr (.inl q);refine PS.sem (gC (pF PySem.F.plainAttrs_list PySem.F.slot_list_append PySem.F.type_list_append jo (fY (i:=i) (by rw[hN',List.getElem?_map,hi];rfl) vis (by simpa using hp.1) (by simpa using hp.2)) (aV ak bO (aj hpl)) rfl (by rw[aj hpl];rfl) hline (aj hpl) rfl) rfl) ?_;refine⟨_,k1,.inl ⟨rfl,vs,.of k2⟩,?_⟩;refine(cG cx F G.good hN' he).1 σ H Hs1 _ h1.ext.sub h1.sh fun v H' Hs' E r=>?_;have h2:=h1.step E;refine⟨a,vs,v,rfl,rfl,E.all _ _ k2,by have:=k3.length;have:=qg hz;omega,?_⟩;exact hn _ _ Hs' _ rfl (sm1.trans E.vis) (by rw[aB];exact hN') (h2.app nd hi k1 (aJ.append (aJ.same E.vis ds vs k3) (.cons r .nil)))
theorem rW{x:Str}{ds:List D}{px ap cp pos:Pos}(G:GoodS cx k X sc)(hN:X.N=ρ.map (·.1))(hx:ρ.lookup x=some (.ow ds))(ho:ownIn sc x=true)(hp:aq x=true)(hline:(ap.endLine==cp.line)=true)(hz:szl (ds.length+1)=true)(he:ev cx F sc (frz F e ρ) e=some d)(hfl:fO d=true) :
  Runs X Hs0 H0 ρ (.nxt (bW ρ x (.ow (ds++[d])))) (gR X (.Expr (.Call (.Attribute (.Name x px) "append" ap) [e] [] cp) pos)):=by
 have hN':X.N=(frz F e ρ).map (·.1):=by rw[aG];exact hN
 obtain⟨i,hi,_⟩:=bT hx
 have nd:(ρ.map (·.1)).Nodup:=by rw[<- hN];exact G.good.nd
 have hpl:=aM he;intro σ H Hs D h _ hn hr;obtain⟨Hs1,sm1,shp,h1⟩:=h.frozen2 F e;obtain⟨a,vs,k1,k2,k3,k4,k5⟩:=h.ow i x ds hi;unfold aq at hp;rw[Bool.and_eq_true,bne_iff_ne,bne_iff_ne] at hp;have vis:Vis X.env.scope x:=(G.own.own x ho).1.elim .inl fun q=>.inr (.inl q);refine PS.sem (gC (pF PySem.F.plainAttrs_list PySem.F.slot_list_append PySem.F.type_list_append jo (fY (i:=i) (by rw[hN,List.getElem?_map,hi];rfl) vis (by simpa using hp.1) (by simpa using hp.2)) (aV ak bO (aj hpl)) rfl (by rw[aj hpl];rfl) hline (aj hpl) rfl) rfl) ?_;refine⟨_,k1,.inl ⟨rfl,vs,.of k2⟩,?_⟩;refine(cG cx F G.good hN' he).1 σ H Hs1 _ h1.ext.sub h1.sh fun v H' Hs' E r=>?_;obtain⟨Hs3,E3,r3⟩:=eO h.ext.sub sm1 shp E hfl r;have h2:=h.step E3;refine⟨a,vs,v,rfl,rfl,E3.all _ _ k2,by have:=k3.length;have:=qg hz;omega,?_⟩;exact hn _ _ Hs3 _ rfl E3.vis (by rw[aB];exact hN) (h2.app nd hi k1 (aJ.append (aJ.same E3.vis ds vs k3) (.cons r3 .nil)))
theorem Dc{x:Str}{ie:Expr}{ds:List D}{j:Int}{n:Nat}{px tp pos:Pos}(G:GoodS cx k X sc)(hN:X.N=ρ.map (·.1))(hx:(frz F ie (frz F e ρ)).lookup x=some (.ow ds))(ho:ownIn sc x=true)(hp:aq x=true)(hfr:aQ e=false)
  (q1:ev cx F sc (frz F ie (frz F e ρ)) e=some d) (q4:ev cx F sc (frz F ie (frz F e ρ)) ie=some (.int j)) (q5:ixD ds.length j=some n) :
  Runs X Hs0 H0 ρ (.nxt (bW (frz F ie (frz F e ρ)) x (.ow (ds.set n d)))) (gR X (.Assign [.Subscript (.Name x px) ie tp] e pos)):=by
 have hN':X.N=(frz F ie (frz F e ρ)).map (·.1):=by rw[aG,aG];exact hN
 obtain⟨i,hi,_⟩:=bT hx
 have nd:((frz F ie (frz F e ρ)).map (·.1)).Nodup:=by rw[<- hN'];exact G.good.nd
 intro σ H Hs D h _ hn hr;obtain⟨Hs1,sm1,h1⟩:=h.frozen F e;obtain⟨Hs3,sm3,h3⟩:=h1.frozen F ie;obtain⟨ad,vs,k1,k2,k3,k4,k5⟩:=h3.ow i x ds hi;unfold aq at hp;rw[Bool.and_eq_true,bne_iff_ne,bne_iff_ne] at hp;have vis:Vis X.env.scope x:=(G.own.own x ho).1.elim .inl fun q=>.inr (.inl q)
 have hNi:X.N[i]?=some x:=by rw[hN',List.getElem?_map,hi];rfl
 have pv:∀ {pp:Pos},PE X (.Name x pp) (HB i):=fun {pp}=>fY hNi vis (by simpa using hp.1) (by simpa using hp.2);refine PS.sem (qF ak (vf pv ak set_list (jg (aM q4))) (pq q1 hfr) iY rfl) ?_;refine(cG cx F G.good hN' q1).1 σ H Hs3 _ h3.ext.sub h3.sh fun v1 H1 Hs4 E1 r1=>?_;refine⟨.ref ad,k1,(cG cx F G.good hN' q4).1 σ H1 Hs4 _ E1.sub (h3.sh.same E1.vis) fun v3 H3 Hs6 E3 r3=>?_⟩;have E:=E1.trans E3;refine⟨ad,vs,j,n,rfl,aA r3,E.all _ _ k2,by rw[<- k3.length,<- nJ];exact q5,?_⟩;exact hn _ _ Hs6 _ rfl (sm1.trans (sm3.trans E.vis)) (by rw[aB];exact hN') ((h3.step E).app nd hi k1 (aJ.set (Rep.same E3.vis _ _ r1) n (aJ.same E.vis ds vs k3)))
theorem yx{x:Str}{ie:Expr}{ds:List D}{j:Int}{n:Nat}{px tp pos:Pos}(G:GoodS cx k X sc)(hN:X.N=ρ.map (·.1))(hx:ρ.lookup x=some (.ow ds))(ho:ownIn sc x=true)(hp:aq x=true)(hfr:aQ e=false)
  (q1:ev cx F sc (frz F e ρ) e=some d) (q4:ev cx F sc (frz F e ρ) ie=some (.int j)) (q5:ixD ds.length j=some n) (hfl:fO d=true) :
  Runs X Hs0 H0 ρ (.nxt (bW ρ x (.ow (ds.set n d)))) (gR X (.Assign [.Subscript (.Name x px) ie tp] e pos)):=by
 have hN':X.N=(frz F e ρ).map (·.1):=by rw[aG];exact hN
 obtain⟨i,hi,_⟩:=bT hx
 have nd:(ρ.map (·.1)).Nodup:=by rw[<- hN];exact G.good.nd
 intro σ H Hs D h _ hn hr;obtain⟨Hs1,sm1,shp,h1⟩:=h.frozen2 F e;obtain⟨ad,vs,k1,k2,k3,k4,k5⟩:=h.ow i x ds hi;unfold aq at hp;rw[Bool.and_eq_true,bne_iff_ne,bne_iff_ne] at hp;have vis:Vis X.env.scope x:=(G.own.own x ho).1.elim .inl fun q=>.inr (.inl q)
 have hNi:X.N[i]?=some x:=by rw[hN,List.getElem?_map,hi];rfl
 have pv:∀ {pp:Pos},PE X (.Name x pp) (HB i):=fun {pp}=>fY hNi vis (by simpa using hp.1) (by simpa using hp.2);refine PS.sem (qF ak (vf pv ak set_list (jg (aM q4))) (pq q1 hfr) iY rfl) ?_;refine(cG cx F G.good hN' q1).1 σ H Hs1 _ h1.ext.sub h1.sh fun v1 H1 Hs4 E1 r1=>?_;refine⟨.ref ad,k1,(cG cx F G.good hN' q4).1 σ H1 Hs4 _ E1.sub (h1.sh.same E1.vis) fun v3 H3 Hs6 E3 r3=>?_⟩;have E:=E1.trans E3;obtain⟨Hs7,E7,r7⟩:=eO h.ext.sub sm1 shp E hfl (Rep.same E3.vis _ _ r1);refine⟨ad,vs,j,n,rfl,aA r3,E.all _ _ k2,by rw[<- k3.length,<- nJ];exact q5,?_⟩;exact hn _ _ Hs7 _ rfl E7.vis (by rw[aB];exact hN) ((h.step E7).app nd hi k1 (aJ.set r7 n (aJ.same E7.vis ds vs k3)))
theorem yC{x:Str}{px pos:Pos}(G:GoodS cx k X sc)(hN:X.N=ρ.map (·.1))(hx:ownIn sc x=true)(hc:(ρ.map (·.1)).contains x=true)(hrd:rdA e=true)(he:ev cx F sc (frz F e ρ) e=some d)(hfl:fO d=true) :
  Runs X Hs0 H0 ρ (.nxt (bW ρ x (.sh d))) (gR X (.Assign [.Name x px] e pos)):=by
 obtain⟨ox,of⟩:=G.own.own x hx
 have hN':X.N=(frz F e ρ).map (·.1):=by rw[aG];exact hN
 obtain⟨i,hi⟩:=bJ hc
 have nd:(ρ.map (·.1)).Nodup:=by rw[<- hN];exact G.good.nd
 intro σ H Hs D h _ hn hr;obtain⟨Hs1,sm1,shp,h1⟩:=h.frozen2 F e
 have hsw:=dI (t:=some (.Name x px)) (l:=pos.line) (env:=X.env) he fun a b c p q=>by rw[q] at hrd;cases hrd
 refine PS.sem (gW (i:=i) G.good.nd (by rw[hN];exact hi) ox ak hsw of) ?_
 refine(cG cx F G.good hN' he).1 σ H Hs1 _ h1.ext.sub h1.sh fun v H' Hs' E r=>?_;obtain⟨Hs3,E3,r3⟩:=eO h.ext.sub sm1 shp E hfl r;exact hn _ _ Hs3 _ rfl E3.vis (by rw[aB];exact hN) ((h.step E3).set nd hi r3)
theorem HX{x:Str}{ds:List D}{px pos:Pos}(G:GoodS cx k X sc)(hN:X.N=ρ.map (·.1))(hx:ownIn sc x=true)(hc:(ρ.map (·.1)).contains x=true)(hno:jU (frz F e ρ) x=true)(hl:zE cx sc e=true)(he:ev cx F sc (frz F e ρ) e=some (.lst ds)) :
  Runs X Hs0 H0 ρ (.nxt (bW (frz F e ρ) x (.ow ds))) (gR X (.Assign [.Name x px] e pos)):=by
 have hN':X.N=(frz F e ρ).map (·.1):=by rw[aG];exact hN
 obtain⟨ox,of⟩:=G.own.own x hx
 have hfr:aQ e=false:=by cases e<;>first | rfl | (simp[zE] at hl;done)
 have hown:KD cx sc e=true:=by
  unfold zE at hl;split at hl
  ·exact hl
  ·cases hl
 refine qp G hN hx hc hno fun i hi σ H Hs D hs hst hq=>?_
 have hsw:=dI (t:=some (.Name x px)) (l:=pos.line) (env:=X.env) he fun a b c p q=>by rw[q] at hfr;cases hfr
 exact PS.sem (gW (i:=i) G.good.nd hi ox ak hsw of) (Bt G.good hN' hown he σ H Hs _ hs hst fun acc vs Hs' H' E a1 a2 a3 r=>hq acc vs Hs' H' E a1 a2 a3 r)
theorem wk(l:Addr)(xs:Array Value)(n:Nat)(b:Addr)(ys:Array Value)(m:Nat)(dd:Option Addr)(sl:Array (Option Value))(c0:¬(!xs.isEmpty&&Builtin.List.listTooLong (xs.size+ys.size))=true)(c1:xs.size<=sizeLine)(c2:xs.size+ys.size<=sizeLine+1) :
  Meets (Builtin.«list.extend» ⟨[.ref l,.ref b],[]⟩) (fun _ R s=>s.heap.get? l=some { cls:=.type "list",data:=.seq xs n }/\s.heap.get? b=some { cls:=.type "list",dict:=dd,data:=.seq ys m,slots:=sl } /\
   R (.ok (.ret Value.none)) { s with heap:=s.heap.update l (Obj.mapSeq fun x=>x++ys),toks:=s.toks }) :=
 .of_wp fun prog w A R s h=>by
  obtain⟨hp,g,d,tk,os⟩:=s;obtain⟨hl,hb,h⟩:=h;have f1:=sub_list_list;have f2:=AutoSeq1.sub_tuple_list;have f3:=AutoSeq1.sub_list_tuple
  have z:(xs++ys).size<=sizeLine+1:=by rw[Array.size_append];exact c2
  wp_walk using(wpAny_updateSeq hl rfl (hz:=c1) (_hz':=z)),AutoSeq1.wpAny_loadPart' hl,AutoSeq1.wpAny_loadPart' hb;exact⟨_,rfl,h⟩
def LC(K:PySem.W.Frag):V->List V->Hp->VK->Prop:=fun x vs H Q=>∃ l b xs zs,x=.ref l/\vs=[.ref b]/\H l=some (.lst xs)/\SqL K H b zs/\xs.length+zs.length<=sizeLine/\Q .non (upd H l (.lst (xs++zs)))
theorem Fq:MtM X "list.extend" (LC X.K):=by
 intro pins s σ H x vs v us Q I rx rv h;obtain⟨l,b,xs,zs,rfl,rfl,hH,hB,hz,q⟩:=h;cases (show v=Value.ref l from rx);obtain⟨u,rfl,ru⟩:=rv.one;cases (show u=Value.ref b from ru);obtain⟨z,its,n,r,hl,e⟩:=I.lstM hH;obtain⟨its2,r2,pl,hz2⟩:=I.list hB;have hl2:=r2.length;obtain⟨⟨c2,dd2,data2,sl2⟩,n2,e2,hc2,hd2,hs2⟩:=pl;simp only at hc2 hs2
 have hsz:its.toArray.size+its2.toArray.size<=sizeLine:=by rw[List.size_toArray,List.size_toArray];omega
 have lng:¬ (!its.toArray.isEmpty&&Builtin.List.listTooLong (its.toArray.size+its2.toArray.size))=true:=fun w=>by
  rw[lH hsz,Bool.and_false] at w;cases w
 obtain⟨h3,h4⟩:=(show dd2=none/\data2=.seq its2.toArray n2 from⟨hd2,hs2⟩);subst hc2 h4;refine call_meets F.slot_list_extend ⟨_,e,rfl⟩ F.entry_list_extend (F.args_list_extend_2 _ _) (wk l its.toArray n b its2.toArray n2 dd2 sl2 lng (by rw[List.size_toArray];omega) (by omega)) ⟨e,e2,?_⟩;exact⟨.non,_,I.lset (its':=its++its2) hH e (by simp) (r.append r2) (by rw[List.length_append];omega),rfl,q⟩
theorem sX(l:Addr)(xs:Array Value)(n:Nat)(b:Addr)(ys:Array Value)(m:Nat)(dd:Option Addr)(sl:Array (Option Value))(c0:¬(!xs.isEmpty&&Builtin.List.listTooLong (xs.size+ys.size))=true)(c1:xs.size<=sizeLine)(c2:xs.size+ys.size<=sizeLine+1) :
  Meets (Builtin.«list.extend» ⟨[.ref l,.ref b],[]⟩) (fun _ R s=>s.heap.get? l=some { cls:=.type "list",data:=.seq xs n }/\s.heap.get? b=some { cls:=.type "tuple",dict:=dd,data:=.seq ys m,slots:=sl } /\
   R (.ok (.ret Value.none)) { s with heap:=s.heap.update l (Obj.mapSeq fun x=>x++ys),toks:=s.toks }) :=
 .of_wp fun prog w A R s h=>by
  obtain⟨hp,g,d,tk,os⟩:=s;obtain⟨hl,hb,h⟩:=h;have f1:=sub_list_list;have f2:=AutoSeq1.sub_tuple_list;have f3:=AutoSeq1.sub_list_tuple;have f4:=isSubtype_tuple_tuple
  have z:(xs++ys).size<=sizeLine+1:=by rw[Array.size_append];exact c2
  wp_walk using(wpAny_updateSeq hl rfl (hz:=c1) (_hz':=z)),AutoSeq1.wpAny_loadPart' hl,AutoSeq1.wpAny_loadPart' hb;exact⟨_,rfl,h⟩
def Lz(K:PySem.W.Frag):V->List V->Hp->VK->Prop:=fun x vs H Q=>∃ l b xs zs,x=.ref l/\vs=[.ref b]/\H l=some (.lst xs)/\SqT K H b zs/\xs.length+zs.length<=sizeLine/\Q .non (upd H l (.lst (xs++zs)))
theorem Fp:MtM X "list.extend" (Lz X.K):=by
 intro pins s σ H x vs v us Q I rx rv h;obtain⟨l,b,xs,zs,rfl,rfl,hH,hB,hz,q⟩:=h;cases (show v=Value.ref l from rx);obtain⟨u,rfl,ru⟩:=rv.one;cases (show u=Value.ref b from ru);obtain⟨z,its,n,r,hl,e⟩:=I.lstM hH;obtain⟨its2,r2,pl,hz2⟩:=I.tuple hB;have hl2:=r2.length;obtain⟨⟨c2,dd2,data2,sl2⟩,e2,hc2,n2,hs2⟩:=pl;simp only at hc2 hs2
 have hsz:its.toArray.size+its2.toArray.size<=sizeLine:=by rw[List.size_toArray,List.size_toArray];omega
 have lng:¬ (!its.toArray.isEmpty&&Builtin.List.listTooLong (its.toArray.size+its2.toArray.size))=true:=fun w=>by
  rw[lH hsz,Bool.and_false] at w;cases w
 subst hc2 hs2;refine call_meets F.slot_list_extend ⟨_,e,rfl⟩ F.entry_list_extend (F.args_list_extend_2 _ _) (sX l its.toArray n b its2.toArray n2 dd2 sl2 lng (by rw[List.size_toArray];omega) (by omega)) ⟨e,e2,?_⟩;exact⟨.non,_,I.lset (its':=its++its2) hH e (by simp) (r.append r2) (by rw[List.length_append];omega),rfl,q⟩
theorem uI{x:Str}{ds zs:List D}{px ap cp pos:Pos}(G:GoodS cx k X sc)(hN:X.N=ρ.map (·.1))(hx:(frz F e ρ).lookup x=some (.ow ds))(ho:ownIn sc x=true)(hp:aq x=true)(hline:(ap.endLine==cp.line)=true)(hz:szl (ds.length+zs.length)=true)(he:ev cx F sc (frz F e ρ) e=some (.lst zs)) :
  Runs X Hs0 H0 ρ (.nxt (bW (frz F e ρ) x (.ow (ds++zs)))) (gR X (.Expr (.Call (.Attribute (.Name x px) "extend" ap) [e] [] cp) pos)):=by
 have hN':X.N=(frz F e ρ).map (·.1):=by rw[aG];exact hN
 obtain⟨i,hi,_⟩:=bT hx
 have nd:((frz F e ρ).map (·.1)).Nodup:=by rw[<- hN'];exact G.good.nd
 have hpl:=aM he;intro σ H Hs D h _ hn hr;obtain⟨Hs1,sm1,h1⟩:=h.frozen F e;obtain⟨a,vs,k1,k2,k3,k4,k5⟩:=h1.ow i x ds hi;unfold aq at hp;rw[Bool.and_eq_true,bne_iff_ne,bne_iff_ne] at hp;have vis:Vis X.env.scope x:=(G.own.own x ho).1.elim .inl fun q=>.inr (.inl q);refine PS.sem (gC (pF PySem.F.plainAttrs_list PySem.F.slot_list_extend PySem.F.type_list_extend Fq (fY (i:=i) (by rw[hN',List.getElem?_map,hi];rfl) vis (by simpa using hp.1) (by simpa using hp.2)) (aV ak bO (aj hpl)) rfl (by rw[aj hpl];rfl) hline (aj hpl) rfl) rfl) ?_;refine⟨_,k1,.inl ⟨rfl,vs,.of k2⟩,?_⟩;refine(cG cx F G.good hN' he).1 σ H Hs1 _ h1.ext.sub h1.sh fun v H' Hs' E r=>?_;have h2:=h1.step E;obtain⟨b,us,rfl,g1,g2⟩:=aU r;refine⟨a,b,vs,us,rfl,rfl,E.all _ _ k2,E.sub.seq g1,by have:=k3.length;have:=g2.length;have:=eE hz;omega,?_⟩;exact hn _ _ Hs' _ rfl (sm1.trans E.vis) (by rw[aB];exact hN') (h2.app nd hi k1 (aJ.append (aJ.same E.vis ds vs k3) g2))
theorem rT{x:Str}{ds zs:List D}{px ap cp pos:Pos}(G:GoodS cx k X sc)(hN:X.N=ρ.map (·.1))(hx:(frz F e ρ).lookup x=some (.ow ds))(ho:ownIn sc x=true)(hp:aq x=true)(hline:(ap.endLine==cp.line)=true)(hz:szl (ds.length+zs.length)=true)(he:ev cx F sc (frz F e ρ) e=some (.tup zs)) :
  Runs X Hs0 H0 ρ (.nxt (bW (frz F e ρ) x (.ow (ds++zs)))) (gR X (.Expr (.Call (.Attribute (.Name x px) "extend" ap) [e] [] cp) pos)):=by
 have hN':X.N=(frz F e ρ).map (·.1):=by rw[aG];exact hN
 obtain⟨i,hi,_⟩:=bT hx
 have nd:((frz F e ρ).map (·.1)).Nodup:=by rw[<- hN'];exact G.good.nd
 have hpl:=aM he;intro σ H Hs D h _ hn hr;obtain⟨Hs1,sm1,h1⟩:=h.frozen F e;obtain⟨a,vs,k1,k2,k3,k4,k5⟩:=h1.ow i x ds hi;unfold aq at hp;rw[Bool.and_eq_true,bne_iff_ne,bne_iff_ne] at hp;have vis:Vis X.env.scope x:=(G.own.own x ho).1.elim .inl fun q=>.inr (.inl q);refine PS.sem (gC (pF PySem.F.plainAttrs_list PySem.F.slot_list_extend PySem.F.type_list_extend Fp (fY (i:=i) (by rw[hN',List.getElem?_map,hi];rfl) vis (by simpa using hp.1) (by simpa using hp.2)) (aV ak bO (aj hpl)) rfl (by rw[aj hpl];rfl) hline (aj hpl) rfl) rfl) ?_;refine⟨_,k1,.inl ⟨rfl,vs,.of k2⟩,?_⟩;refine(cG cx F G.good hN' he).1 σ H Hs1 _ h1.ext.sub h1.sh fun v H' Hs' E r=>?_;have h2:=h1.step E;obtain⟨b,us,rfl,g1,g2⟩:=bw r;refine⟨a,b,vs,us,rfl,rfl,E.all _ _ k2,E.sub.tup g1,by have:=k3.length;have:=g2.length;have:=eE hz;omega,?_⟩;exact hn _ _ Hs' _ rfl (sm1.trans E.vis) (by rw[aB];exact hN') (h2.app nd hi k1 (aJ.append (aJ.same E.vis ds vs k3) g2))
theorem Dd{pos:Pos}(G:GoodS cx k X sc)(hN:X.N=ρ.map (·.1))(he:ev cx F sc (frz F e ρ) e=some d)(hc:∀ a b c p,e≠.ListComp a b c p):Runs X Hs0 H0 ρ (.nxt (frz F e ρ)) (gR X (.Expr e pos)):=by
 intro σ H Hs D h _ hn hr;exact PS.sem (gC ak (dI he hc)) (zY G hN he h fun v Hs' H' sm h' r=>hn _ _ Hs' H' rfl sm (by rw[aG];exact hN) h')
theorem zP{f:Rho->Stmt->Option Fl}(hf:∀ ρ s fl,X.N=ρ.map (·.1)->f ρ s=some fl->Runs X Hs0 H0 ρ fl (gR X s)):∀ (l:List Stmt) (ρ:Rho) (fl:Fl),X.N=ρ.map (·.1)->iZ f l ρ=some fl->Runs X Hs0 H0 ρ fl (iz X l)
 | [],ρ,fl,hN,h=>by
  simp only[iZ,Option.some.injEq] at h;subst h;intro σ H Hs D h _ hn hr;exact PSs.sem uX (hn _ _ Hs H rfl (.refl _) hN h)
 | s::r,ρ,fl,hN,h=>by
  simp only[iZ] at h;obtain⟨fl1,h1,h2⟩:=aK h;intro σ H Hs D hd _ hn hr;refine PSs.sem (lq Bo dF) (hf ρ s fl1 hN h1 σ H Hs _ hd hN (fun ρ' σ' Hs' H' q sm hN' hd'=>?_) fun d v Hs' H' q E rr=>?_)
  ·subst q
   exact zP hf r ρ' fl hN' h2 σ' H' Hs' D hd' hN' (fun ρ2 σ2 Hs2 H2 q2 sm2=>hn ρ2 σ2 Hs2 H2 q2 (sm.trans sm2)) hr
  ·subst q
   cases h2;exact hr d v Hs' H' rfl E rr
theorem HY{tg iter:Expr}{body:List Stmt}{l:List D}{fl:Fl}{pos:Pos}{f:D->Rho->Option Fl}(G:GoodS cx k X sc)(hN:X.N=ρ.map (·.1))(hI:evI cx (eH tg) (ev cx F sc (frz F iter ρ)) sc iter=some l)
  (hf:∀ d ρ1 fl,f d ρ1=some fl->X.N=ρ1.map (·.1)->∃ ρ2,fG sc tg d ρ1=some ρ2/\(X.N=ρ2.map (·.1)->Runs X Hs0 H0 ρ2 fl (iz X body))) (h:bG f l (frz F iter ρ)=some fl):Runs X Hs0 H0 ρ fl (gR X (.For tg iter body [] pos)):=by
 have hN':X.N=(frz F iter ρ).map (·.1):=by rw[aG];exact hN
 obtain⟨hI',hp⟩:=wC (tg:=tg) (ρ:=frz F iter ρ) G.good (fun e d h=>⟨(cG cx F G.good hN' h).1,aM h⟩) hI;intro σ H Hs D hd _ hn hr;obtain⟨Hs1,sm1,h1⟩:=hd.frozen F iter;refine PS.sem (Jd G.pass G.good.calm jh fX dF (cW hp)) (hI' σ H Hs1 _ h1.ext.sub h1.sh fun J H2 Hs2 E2 hJ=>?_)
 let W:Nat->Nat->St->Hp->Prop:=fun i m σ H=>m=l.length-i/\i<=l.length/\∃ ρi Hsi,Same Hs2 Hsi/\Hd X.K Hs0 H0 Hsi H ρi σ/\X.N=ρi.map (·.1)/\bG f (l.drop i) ρi=some fl
 refine⟨W,⟨l.length,rfl,Nat.zero_le _,_,Hs2,.refl _,h1.step E2,hN',by simpa using h⟩,?_⟩;rintro i m σi Hi ⟨rfl,hi,ρi,Hsi,sm,hdi,hNi,gi⟩;obtain⟨stp,go⟩:=hJ Hsi Hi sm hdi.ext.sub
 by_cases hlt:i<l.length
 ·obtain⟨g1,g2⟩:=go i l[i] (List.getElem?_eq_getElem hlt)
  refine .inr ⟨g1,fun σ' H'=>W (i+1) (l.length-(i+1)) σ' H',fun σ' H' w=>⟨_,by omega,w⟩,fun x H' y=>?_⟩;obtain⟨Hs3,E3,rx⟩:=g2 x H' y;rw[List.drop_eq_getElem_cons hlt] at gi;simp only[bG] at gi;obtain⟨fl1,b1,b2⟩:=aK gi;obtain⟨ρ2,c1,c2⟩:=hf _ _ _ b1 hNi;have hd3:=hdi.step E3;refine pY G.good.calm G.own G.good.nd hd3.ext.sub hNi (qN (Hs0:=Hs0) (H0:=H0) (H:=H')) c1 hd3 rx fun σ' hN2 p=>?_;refine c2 hN2 σ' H' Hs3 _ p hN2 (fun ρ' σ'' Hs' H'' q sm4 hN3 hd4=>?_) fun d v Hs' H'' q E rr=>?_
  ·subst q
   exact⟨rfl,hlt,ρ',Hs',sm.trans (E3.vis.trans sm4),hd4,hN3,b2⟩
  ·subst q
   cases b2;exact hr d v Hs' H'' rfl E rr
 ·have hi':i=l.length:=by omega
  subst hi';refine .inl ⟨stp,?_⟩;rw[List.drop_length] at gi;simp only[bG,Option.some.injEq] at gi;exact hn ρi σi Hsi Hi gi.symm (sm1.trans (E2.vis.trans sm)) hNi hdi
end
section
variable {X:Cx} {ρ:Rho} {cx:Cxt} {k F:Nat} {sc scope:Scope} {Hs0 H0:Hp} {e:Expr} {d:D}
theorem La{s:Stmt}{D:Ends}{σ:St}{H:Hp}(h:gR X.nox s D σ H):gR X s D σ H:=fun pins s0 I=>wpAny_mono (h pins s0 (I.wish _)) (fun _ _ q=>q.unwish) fun _ _ z=>False.elim z
abbrev Cx.pinned(X:Cx)(pn:List (Addr×Obj))(xe:Value->Shared->Prop):Cx:={ X with pn:=pn,xe:=xe }
theorem Inv.repin{pn pn' pins pins':List (Addr×Obj)}{xe xe':Value->Shared->Prop}{σ:St}{H:Hp}{s:Shared}(I:Inv (X.pinned pn xe) pins σ H s)(h:∀ p∈pn'++pins',p∈pn++pins):Inv (X.pinned pn' xe') pins' σ H s :=
 ⟨⟨I.ok.mod,I.ok.kind,I.ok.glob,I.ok.blt,I.ok.above,I.ok.inj,I.ok.has,I.ok.cab,I.ok.hd,I.ok.frames,I.ok.stk,I.ok.exf,I.ok.bs,I.ok.bsz,I.ok.noex,I.ok.exfs,I.ok.funs,I.ok.frf⟩,I.os,I.bare,I.base,I.loc,I.cell,I.free,I.freeC,fun p hp=>I.pin p (h p hp),I.hok,I.len⟩
theorem Good.wish(G:Good cx k X sc)(E:Value->Shared->Prop):Good cx k (X.wish E) sc:=⟨G.calm,G.room,G.sce,G.kind,G.nd,G.cst,G.blt,G.exs,G.fns,G.kw⟩
theorem GoodS.nox(G:GoodS cx k X sc):GoodS cx k X.nox sc:=⟨G.good.wish _,⟨G.own.own⟩,PassesOwn.never,G.stk⟩
theorem GoodS.pin_nox(G:GoodS cx k X sc)(pn:List (Addr×Obj))(E:Value->Shared->Prop):GoodS cx k (X.pinned pn E).nox sc:=⟨⟨G.good.calm,G.good.room,G.good.sce,G.good.kind,G.good.nd,G.good.cst,G.good.blt,G.good.exs,G.good.fns,G.good.kw⟩,⟨G.own.own⟩,PassesOwn.never,G.stk⟩
theorem GoodS.calm'(G:GoodS cx k X sc)(b:Bool):GoodS { cx with rs:=b } k X sc:=⟨⟨G.good.calm,G.good.room,G.good.sce,G.good.kind,G.good.nd,G.good.cst,G.good.blt,G.good.exs,G.good.fns,G.good.kw⟩,G.own,G.pass,G.stk⟩
def xQ(rs:Bool)(X:Cx)(Hs0 H0:Hp)(ρ:Rho)(c:Str)(ρ':Rho)(t:TS):Prop:=∀ σ H Hs D,Hd X.K Hs0 H0 Hs H ρ σ->X.N=ρ.map (·.1) ->
 (∀ σ' Hs' H',Same Hs Hs'->X.N=ρ'.map (·.1)->Hd X.K Hs0 H0 Hs' H' ρ' σ'->∃ E,EX X c Hs' H' E/\XOk X σ' E/\(rs=true->xT X σ' E))->t D σ H
theorem qR{rs:Bool}{f:Rho->Stmt->Option Fl}{g:Rho->Stmt->Option (Str×Rho)}{c:Str}{ρ':Rho}(hf:∀ ρ s fl,X.N=ρ.map (·.1)->f ρ s=some fl->Runs X.nox Hs0 H0 ρ fl (gR X.nox s))(hg:∀ ρ s c ρ',X.N=ρ.map (·.1)->g ρ s=some (c,ρ')->xQ rs X Hs0 H0 ρ c ρ' (gR X s)) :
  ∀ (l:List Stmt) (ρ:Rho),X.N=ρ.map (·.1)->fV f g l ρ=some (c,ρ')->xQ rs X Hs0 H0 ρ c ρ' (iz X l)
 | [],ρ,hN,h=>by simp[fV] at h
 | s::r,ρ,hN,h=>by
  simp only[fV] at h;intro σ H Hs D hd _ hx;refine PSs.sem (lq Bo dF) ?_;split at h
  ·rename_i ρ1 h1
   refine La (hf ρ s _ hN h1 σ H Hs _ hd hN (fun ρ2 σ2 Hs2 H2 q sm hN2 hd2=>?_) fun d v Hs2 H2 q _ _=>nomatch q);cases q;exact qR hf hg r ρ1 hN2 h σ2 H2 Hs2 D hd2 hN2 fun σ3 Hs3 H3 sm3=>hx σ3 Hs3 H3 (sm.trans sm3)
  ·cases h
  ·exact hg ρ s c ρ' hN h σ H Hs _ hd hN hx
theorem BX{c:Str}(G:Good cx k X sc)(hN:X.N=ρ.map (·.1))(he:evx cx F sc (frz F e ρ) e=some c){σ:St}{H Hs:Hp}{rs:Bool}{Q:VK}(h:Hd X.K Hs0 H0 Hs H ρ σ)
  (hx:∀ σ' Hs' H',Same Hs Hs'->X.N=(frz F e ρ).map (·.1)->Hd X.K Hs0 H0 Hs' H' (frz F e ρ) σ'->∃ E,EX X c Hs' H' E/\XOk X σ' E/\(rs=true->xT X σ' E)):oN X e σ H Q:=by
 obtain⟨Hs1,sm1,h1⟩:=h.frozen F e
 have hN':X.N=(frz F e ρ).map (·.1):=by rw[aG];exact hN
 obtain⟨E,e1,e2,_⟩:=hx σ Hs1 H sm1 hN' h1;exact qY cx F G hN' he σ H Hs1 E h1.ext.sub h1.sh e1 e2 Q
theorem Bd{t:Option Expr}{l:Nat}{env:Env}{c:Str}(he:evx cx F sc ρ e=some c)(hc:aQ e=false):swapsWith e t l env=pure false:=by
 cases F with
 | zero=>exact nomatch (show(Option.none:Option Str)=some c from he)
 | succ F =>
  cases e<;>first | rfl | (exact nomatch (show(Option.none:Option Str)=some c from he)) | (exact absurd hc (by simp[aQ]))
theorem Hd.drop{K:PySem.W.Frag}{Hs0 H0 Hs H:Hp}{ρ:Rho}{σ:St}{x:Str}{i:Nat}(h:Hd K Hs0 H0 Hs H ρ σ)(hn:(ρ.map (·.1)).Nodup)(hi:(ρ.map (·.1))[i]?=some x):Hd K Hs0 H0 Hs H (bW ρ x .no) (σ.set i none):=by
 have hl:i<σ.length:=by have:=(List.getElem?_eq_some_iff.mp hi).1;rw[h.len];simpa using this
 refine⟨h.ext,by rw[List.length_set,h.len];have:=congrArg List.length (aB ρ x .no);simpa using this.symm,fun j y d e=>?_,fun j y ds e=>?_,fun j j' y y' ds es a hjj e1 e2 e3 e4=>?_,fun j y dss e=>?_⟩
 ·rw[aL hn hi j] at e
  split at e
  ·cases e
  ·rename_i hj
   obtain⟨v,q1,q2⟩:=h.sh j y d e;exact⟨v,by rw[List.getElem?_set_ne (fun z=>hj z.symm)];exact q1,q2⟩
 ·rw[aL hn hi j] at e
  split at e
  ·cases e
  ·rename_i hj
   obtain⟨a,vs,q1,q2⟩:=h.ow j y ds e;exact⟨a,vs,by rw[List.getElem?_set_ne (fun z=>hj z.symm)];exact q1,q2⟩
 ·rw[aL hn hi j] at e1
  rw[aL hn hi j'] at e2;split at e1
  ·cases e1
  ·rename_i hj
   split at e2
   ·cases e2
   ·rename_i hj'
    rw[List.getElem?_set_ne (fun z=>hj z.symm)] at e3;rw[List.getElem?_set_ne (fun z=>hj' z.symm)] at e4;exact h.dis j j' y y' ds es a hjj e1 e2 e3 e4
 ·rw[aL hn hi j] at e
  split at e
  ·cases e
  ·rename_i hj
   obtain⟨⟨a,bs,k1,k2⟩,k3⟩:=h.oo j y dss e;refine⟨⟨a,bs,by rw[List.getElem?_set_ne (fun z=>hj z.symm)];exact k1,k2⟩,fun l z s hl' g=>?_⟩;rw[aL hn hi l] at g;split at g
   ·cases g;rfl
   ·exact k3 l z s hl' g
theorem yt{hs:List ExceptHandler}{o f:List Stmt}{c n kn:Str}(h:rP hs o f=some (c,n,kn)):∃ np p1 p2 p3 hp,hs=[.ExceptHandler (some (.Name c np)) (some n) [.Assign [.Name kn p1] (.Name n p2) p3] hp]/\o=[]/\f=[]:=by
 unfold rP at h;split at h
 ·split at h
  ·rename_i hq
   cases h;have e:=beq_iff_eq.mp hq;subst e;exact⟨_,_,_,_,_,rfl,rfl,rfl⟩
  ·cases h
 ·cases h
theorem HW{body:List Stmt}{c c' n kn:Str}{ρ':Rho}{np p1 p2 p3 hp pos:Pos}(G:GoodS cx k X sc)(hN:X.N=ρ.map (·.1))
  (hb:∀ pn xe,xQ false (X.pinned pn xe) Hs0 H0 ρ c' ρ' (iz (X.pinned pn xe) body)) (hgl:lQ cx sc c=true) (ht:c=cx.top) (hin:cx.exs.contains c'=true) (hne:n≠kn) (hpn:aq n=true) (ln:sc.names.lookup n=some .local) (lk:sc.names.lookup kn=some .local) (cn:(ρ.map (·.1)).contains n=true) (ck:(ρ.map (·.1)).contains kn=true) (hpc:aq c=true) :
  Runs X Hs0 H0 ρ (.nxt (bW (bW ρ' kn (.sh (.exc c'))) n .no)) (gR X (.Try body [.ExceptHandler (some (.Name c np)) (some n) [.Assign [.Name kn p1] (.Name n p2) p3] hp] [] [] pos)):=by
 intro σ H Hs D hd _ hn hr pins s I;obtain⟨C,M,e1,e2,_,_,e3,_⟩:=G.good.exs.cls c' hin
 have hg:Gl X c:=by
  have e:sc.names.lookup c=some .globalImplicit:=by unfold lQ at hgl;simpa using hgl
  show X.env.scope.names.lookup c=_;rw[G.good.sce,e]
 have hm:X.mg c=some (.ref M):=by rw[ht];exact G.good.exs.glob _ _ e2
 unfold aq at hpn hpc;rw[Bool.and_eq_true,bne_iff_ne,bne_iff_ne] at hpn hpc;obtain⟨i,hi⟩:=bJ cn;obtain⟨j,hj⟩:=bJ ck
 have hij:i≠j:=fun z=>by subst z;rw[hi] at hj;cases hj;exact hne rfl
 rw[arm_exec_Try];refine wpAny_bind (wpAny_standAt (wpAny_tryStmt_except ?_))
 let xe:Value->Shared->Prop:=fun e s₁=>wpAny (model X.prog X.w) X.A (noteFrame e X.env) (fun _ s₂=>wpAny (model X.prog X.w) X.A (setFlight e none) (fun _ s₃=>wpAny (model X.prog X.w) X.A (handleBy e X.env [.ExceptHandler (some (.Name c np)) (some n) [.Assign [.Name kn p1] (.Name n p2) p3] hp]) (SP X pins D) X.xe s₃) X.xe s₂) X.xe s₁
 have run:=hb (X.pn++pins) xe σ H Hs { nx:=fun _ _=>False,rt:=fun _ _=>False } hd hN ?_ [] s (Inv.repin (X:=X) (pn:=X.pn) (pins:=pins) I fun p hp=>by simpa using hp)
 ·refine wpAny_mono run (fun f s1 q=>?_) fun e s1 q=>q
  cases f with
  | next=>obtain⟨_,_,_,z⟩:=q;exact z.elim
  | brk=>obtain⟨_,_,_,z⟩:=q;exact z.elim
  | cont=>obtain⟨_,_,_,z⟩:=q;exact z.elim
  | ret u=>obtain⟨_,_,_,_,_,z⟩:=q;exact z.elim
 ·intro σ1 Hs1 H1 sm1 hN1 hd1
  refine⟨fun cls _ H2=>cls=.ref C/\∃ Hs2,Ext Hs1 H1 Hs2 H2,fun C2 H2 Hs2 q E=>⟨?_,Hs2,E⟩,?_,fun z=>nomatch z⟩
  ·have q':PySem.W.nsIn X.K mainGlobals c'=some (some (.ref C2)):=q
   rw[e1] at q';cases q';rfl
  ·intro pins2 H2 s2 e s3 I2 hcx
   obtain⟨ea,cls,H3,rfl,Fl,hn3,rfl,Hs3,E3⟩:=hcx;have I2':Inv (X.pinned (X.pn++pins) X.xe) pins2 σ1 H2 s2:=Inv.repin (X:=X) I2 fun p hp=>hp
   have nd1:(ρ'.map (·.1)).Nodup:=by rw[<- hN1];exact G.good.nd
   have hi1:(ρ'.map (·.1))[i]?=some n:=by rw[<- hN1];show X.N[i]?=_;rw[hN];exact hi
   have hj1:(ρ'.map (·.1))[j]?=some kn:=by rw[<- hN1];show X.N[j]?=_;rw[hN];exact hj
   refine caught (X:=X.pinned (X.pn++pins) X.xe) (Mc:=M) I2' Fl hn3 G.stk hg hm (by simpa using hpc.1) e3 G.good.nd (i:=i) (j:=j) (by show X.N[i]?=_;rw[hN];exact hi) (by show X.N[j]?=_;rw[hN];exact hj) hij
    (by show X.env.scope.names.lookup n=_;rw[G.good.sce];exact ln) (by show X.env.scope.names.lookup kn=_;rw[G.good.sce];exact lk) (by simpa using hpn.1) (by simpa using hpn.2) fun s4 I4=>?_
   have I5:Inv X pins ((σ1.set j (some (.ref ea))).set i none) (upd H3 ea (.ext (isX ea (.ref C)))) s4:=Inv.repin (X:=X) (pn':=X.pn) I4 fun p hp=>List.mem_append_left _ hp;have E4:Ext Hs3 H3 (upd Hs3 ea (.ext (isX ea (.ref C)))) (upd H3 ea (.ext (isX ea (.ref C)))):=Ext.new E3.sub _ hn3
   have hd4:Hd X.K Hs0 H0 (upd Hs3 ea (.ext (isX ea (.ref C)))) (upd H3 ea (.ext (isX ea (.ref C)))) (bW ρ' kn (.sh (.exc c'))) (σ1.set j (some (.ref ea))):=((Hd.step hd1 E3).step E4).set nd1 hj1 (by
    simp only[Rep]
    exact⟨ea,C,rfl,e1,aR⟩)
   have hd5:=hd4.drop (by rw[aB];exact nd1) (i:=i) (x:=n) (by rw[aB];exact hi1)
   exact⟨_,_,I5,hn _ _ _ _ rfl (sm1.trans (E3.vis.trans E4.vis)) (by rw[aB,aB];exact hN1) hd5⟩
end
mutual
theorem rR(cx:Cxt)(F:Nat):∀ (n:Nat) {k:Nat} {X:Cx} {sc:Scope} {ρ:Rho} {s:Stmt} {fl:Fl} {Hs0 H0:Hp},GoodS cx k X sc->X.N=ρ.map (·.1)->DE.st cx F n sc ρ s=some fl->Runs X Hs0 H0 ρ fl (gR X s)
 | 0,k,X,sc,ρ,s,fl,Hs0,H0,_,_,h=>by simp[DE.st] at h
 | n+1,k,X,sc,ρ,s,fl,Hs0,H0,G,hN,h=>by
  have block:∀ (l:List Stmt) (ρ:Rho) (fl:Fl),X.N=ρ.map (·.1)->iZ (fun ρ s=>DE.st cx F n sc ρ s) l ρ=some fl->Runs X Hs0 H0 ρ fl (iz X l):=zP fun ρ s fl hN h=>rR cx F n G hN h
  cases s with
  | Pass pos =>
   simp only[DE.st,Option.some.injEq] at h;subst h;intro σ H Hs D hd _ hn hr;exact PS.sem DK (hn _ _ Hs H rfl (.refl _) hN hd)
  | Return v pos =>
   simp only[DE.st] at h
   cases v with
   | none =>
    simp only[Option.some.injEq] at h;subst h;intro σ H Hs D hd _ hn hr;exact PS.sem DG (hr .non .non Hs H rfl hd.ext (by simp[Rep]))
   | some e =>
    simp only[Option.map_eq_some_iff] at h;obtain⟨d,he,rfl⟩:=h;intro σ H Hs D hd _ hn hr;exact PS.sem (Jb ak) (zY G hN he hd fun v Hs' H' sm h' r=>hr d v Hs' H' rfl h'.ext r)
  | Assign tgs e pos =>
   simp only[DE.st] at h;split at h
   ·split at h
    ·rename_i hc
     rw[Bool.and_eq_true] at hc;split at h
     ·rename_i hoo
      rw[Bool.and_eq_true] at hoo;obtain⟨d,he,h⟩:=Option.bind_eq_some_iff.mp h;obtain⟨dss,hd,rfl⟩:=Option.map_eq_some_iff.mp h;exact Lj G hN hc.1 hc.2 hoo.1 hoo.2 he hd
     ·split at h
      ·rename_i hle
       rw[Bool.and_eq_true] at hle;obtain⟨d,he,h⟩:=Option.bind_eq_some_iff.mp h;obtain⟨ds,hd,rfl⟩:=Option.map_eq_some_iff.mp h
       cases d<;>simp[zB] at hd
       subst hd;exact HX G hN hc.1 hc.2 hle.2 hle.1 he
      ·split at h
       ·split at h
        ·rename_i hno
         simp only[Option.map_eq_some_iff] at h;obtain⟨d,he,rfl⟩:=h;exact Runs.frz0 (e:=e) (uH G (by rw[aG];exact hN) hc.1 (by rw[aG];exact hc.2) (fun _=>hno) he)
        ·cases h
       ·rename_i hno
        split at h
        ·rename_i hrd
         obtain⟨d,he,h⟩:=Option.bind_eq_some_iff.mp h;split at h
         ·rename_i hfl
          cases h;exact yC G hN hc.1 hc.2 hrd he hfl
         ·cases h
        ·simp only[Option.map_eq_some_iff] at h
         obtain⟨d,he,rfl⟩:=h;refine uH G hN hc.1 hc.2 (fun hf=>?_) he;rw[hf,Bool.true_and] at hno;simpa using hno
    ·cases h
   ·split at h
    ·rename_i hs
     obtain⟨d,he,h⟩:=aK h;obtain⟨l,hl,h⟩:=aK h;simp only[Option.map_eq_some_iff] at h;obtain⟨ρ',hb,rfl⟩:=h;rcases Bool.or_eq_true _ _ |>.mp hs with hs | hs
     ·exact HN G hN hs he hl hb
     ·cases hs
    ·cases h
   ·split at h
    ·rename_i x px
     split at h
     ·simp at h
     ·split at h
      ·rename_i ds hx
       split at h
       ·rename_i hc
        simp only[Bool.and_eq_true,Bool.not_eq_true'] at hc;obtain⟨d,h1,h⟩:=aK h;obtain⟨j,h4,h⟩:=aK h;obtain⟨n,h5,h⟩:=aK h;cases h;exact Dc G hN hx hc.1.1 hc.1.2 hc.2 h1 (bK h4) h5
       ·cases h
      ·split at h
       ·rename_i ds hx'
        split at h
        ·rename_i hc
         simp only[Bool.and_eq_true,Bool.not_eq_true'] at hc;obtain⟨d,h1,h⟩:=aK h;obtain⟨j,h4,h⟩:=aK h;obtain⟨n,h5,h⟩:=aK h;split at h
         ·rename_i hfl
          cases h;exact yx G hN hx' hc.1.1 hc.1.2 hc.2 h1 (bK h4) h5 hfl
         ·cases h
        ·cases h
       ·cases h
      ·cases h
    ·split at h
     ·rename_i dss hx
      split at h
      ·rename_i hc
       rw[Bool.and_eq_true,Bool.and_eq_true] at hc;obtain⟨d,h1,h⟩:=aK h;obtain⟨j1,h2,h⟩:=aK h;obtain⟨n1,h3,h⟩:=aK h;obtain⟨ds,h4,h⟩:=aK h;obtain⟨j2,h5,h⟩:=aK h;obtain⟨n2,h6,h⟩:=aK h;split at h
       ·rename_i h7
        cases h;exact CZ G hN hx hc.1.1 hc.1.2 (by simpa using hc.2) h1 (bK h2) h3 h4 (bK h5) h6 h7
       ·cases h
      ·cases h
     ·cases h
    ·cases h
   ·cases h
  | Expr v pos =>
   simp only[DE.st] at h;split at h
   ·rename_i x px m ap e cp
    split at h
    ·rename_i ds hx
     split at h
     ·rename_i hc
      rw[Bool.and_eq_true,Bool.and_eq_true] at hc;obtain⟨⟨c1,c2⟩,c4⟩:=hc;split at h
      ·rename_i hc2
       rw[Bool.and_eq_true] at hc2;simp only[Option.map_eq_some_iff] at h;obtain⟨d,he,rfl⟩:=h
       have em:m="append":=by simpa using hc2.1
       subst em;exact uJ G hN hx c1 c2 c4 hc2.2 he
      ·split at h
       ·rename_i hc3
        obtain⟨d,he,h⟩:=aK h
        have em:m="extend":=by simpa using hc3
        subst em;split at h
        ·split at h
         ·rename_i hz
          cases h;exact uI G hN hx c1 c2 c4 hz he
         ·cases h
        ·split at h
         ·rename_i hz
          cases h;exact rT G hN hx c1 c2 c4 hz he
         ·cases h
        ·cases h
       ·cases h
     ·cases h
    ·split at h
     ·rename_i ds hx
      split at h
      ·rename_i hc
       rw[Bool.and_eq_true,Bool.and_eq_true,Bool.and_eq_true,Bool.and_eq_true] at hc;obtain⟨⟨⟨c1,c2⟩,c4⟩,c5,c6⟩:=hc;obtain⟨d,he,h⟩:=aK h
       have em:m="append":=by simpa using c5
       subst em;split at h
       ·rename_i hfl
        cases h;exact rW G hN hx c1 c2 c4 c6 he hfl
       ·cases h
      ·cases h
     ·cases h
    ·cases h
   ·cases h
   ·cases h
   ·rename_i h1 h3 h4
    simp only[Option.map_eq_some_iff] at h;obtain⟨d,he,rfl⟩:=h;exact Dd G hN he fun a b c p q=>h3 a b c p q
  | If c a b pos =>
   simp only[DE.st] at h;obtain⟨t,h1,h⟩:=aK h;have he:=fu h1;intro σ H Hs D hd _ hn hr;refine PS.sem (DN dO dF dF) (Gi G hN he hd fun Hs' H' sm h'=>?_)
   cases t with
   | true =>
    simp only[if_true] at h;exact tV (block a _ fl hN h σ H' Hs' D h' hN (fun ρ2 σ2 Hs2 H2 q2 sm2=>hn ρ2 σ2 Hs2 H2 q2 (sm.trans sm2)) hr)
   | false =>
    simp only[Bool.false_eq_true,if_false] at h;exact vW (block b _ fl hN h σ H' Hs' D h' hN (fun ρ2 σ2 Hs2 H2 q2 sm2=>hn ρ2 σ2 Hs2 H2 q2 (sm.trans sm2)) hr)
  | For tg iter body orelse pos =>
   simp only[DE.st] at h;split at h
   ·obtain⟨l,hI,h⟩:=aK h
    refine HY G hN hI (fun d ρ1 fl hf hN1=>?_) h;obtain⟨ρ2,g1,g2⟩:=aK hf;exact⟨ρ2,g1,fun hN2=>block body ρ2 fl hN2 g2⟩
   ·cases h
  | While c body orelse pos =>
   simp only[DE.st] at h;split at h
   ·simp at h
   ·cases h
  | Try body handlers orelse final pos =>
   simp only[DE.st] at h;split at h
   ·rename_i c n' kn hto
    obtain⟨np,p1,p2,p3,hp,rfl,rfl,rfl⟩:=yt hto;split at h
    ·rename_i fl' hfl
     cases h;have hb:Runs X.nox Hs0 H0 ρ fl (iz X.nox body):=zP (fun ρ s fl hN h=>rR cx F n G.nox hN h) body ρ fl hN hfl;intro σ H Hs D hd _ hn hr pins s I;rw[arm_exec_Try];refine wpAny_bind (wpAny_standAt (wpAny_tryStmt_except ?_));refine wpAny_mono (hb σ H Hs D hd hN hn hr pins s (I.wish _)) (fun f s1 q=>?_) fun _ _ z=>z.elim;have q':=q.unwish
     cases f with
     | next=>exact wpAny_execs_nil q'
     | brk=>exact q'
     | cont=>exact q'
     | ret u=>exact q'
    ·split at h
     ·rename_i c' ρ1 hx
      split at h
      ·rename_i hc
       cases h;simp only[Bool.and_eq_true] at hc;obtain⟨⟨⟨⟨⟨⟨⟨⟨⟨h1,h2⟩,h3⟩,h4⟩,h5⟩,h6⟩,h7⟩,h8⟩,h9⟩,h10⟩:=hc;refine HW G hN (fun pn xe=>?_) h1 (by simpa using h2) h3 (by simpa using h4) h5 (by simpa using h6) (by simpa using h7) h8 h9 h10;exact qR (X:=X.pinned pn xe) (fun ρ s fl hN h=>rR cx F n (G.pin_nox pn xe) hN h) (fun ρ s c ρ' hN h=>uF { cx with rs:=false } F n ((G.pin_nox pn xe).calm' false) hN h) body ρ hN hx
      ·cases h
     ·cases h
   ·cases h
  | _=>exact nomatch (show(Option.none:Option Fl)=some fl from h)
theorem uF(cx:Cxt)(F:Nat):∀ (n:Nat) {k:Nat} {X:Cx} {sc:Scope} {ρ:Rho} {s:Stmt} {c:Str} {ρ':Rho} {Hs0 H0:Hp},GoodS cx k X.nox sc->X.N=ρ.map (·.1)->DE.stx cx F n sc ρ s=some (c,ρ')->xQ cx.rs X Hs0 H0 ρ c ρ' (gR X s)
 | 0,k,X,sc,ρ,s,c,ρ',Hs0,H0,_,_,h=>by simp[DE.stx] at h
 | n+1,k,X,sc,ρ,s,c,ρ',Hs0,H0,G,hN,h=>by
  have GX:Good cx k X sc:=⟨G.good.calm,G.good.room,G.good.sce,G.good.kind,G.good.nd,G.good.cst,G.good.blt,G.good.exs,G.good.fns,G.good.kw⟩
  have block:∀ (l:List Stmt) (ρ:Rho) (c:Str) (ρ':Rho),X.N=ρ.map (·.1)->fV (fun ρ s=>DE.st cx F n sc ρ s) (fun ρ s=>DE.stx cx F n sc ρ s) l ρ=some (c,ρ')->xQ cx.rs X Hs0 H0 ρ c ρ' (iz X l):=fun l ρ c ρ' hN h =>
   qR (fun ρ s fl hN h=>rR cx F n G hN h) (fun ρ s c ρ' hN h=>uF cx F n G hN h) l ρ hN h
  simp only[DE.stx] at h;split at h
  ·rename_i cc np txt j p1 cpos pos
   split at h
   ·rename_i hc
    cases h;simp only[Bool.and_eq_true] at hc;obtain⟨⟨⟨h1,h2⟩,h3⟩,h4⟩:=hc;obtain⟨C,M,e1,_,e2,_⟩:=GX.exs.cls c h3
    have hg:Gl X c:=by
     have e:sc.names.lookup c=some .globalImplicit:=by unfold lQ at h2;simpa using h2
     show X.env.scope.names.lookup c=_;rw[GX.sce,e]
    unfold aq at h4;rw[Bool.and_eq_true,bne_iff_ne] at h4;intro σ H Hs D hd _ hx pins s I;obtain⟨E,x1,x2,x3⟩:=hx σ Hs H (.refl _) hN hd;exact yL I GX.room.hd hg (GX.exs.glob _ _ e1) (by simpa using h4.1) e2 fun s2 h' e args I2 hm=>x3 h1 pins H s2 C e h' args I2 hm (x1 C H Hs e1 (.refl hd.ext.sub))
   ·cases h
  ·rename_i e pos
   split at h
   ·cases h
   ·rename_i hfr
    obtain⟨c1,h1,h2⟩:=Option.map_eq_some_iff.mp h;cases h2;intro σ H Hs D hd _ hx;exact PS.sem (gC ak (Bd h1 (by simpa using hfr))) (BX GX hN h1 hd hx)
  ·rename_i x px e pos
   split at h
   ·cases h
   ·rename_i hfr
    obtain⟨c1,h1,h2⟩:=Option.map_eq_some_iff.mp h;cases h2;intro σ H Hs D hd _ hx pins s I;exact wpAny_Assign_Name (thn (BX (Q:=fun _ _=>False) GX hN h1 hd hx pins s I) fun v s1 ⟨_,_,_,_,q⟩=>q.elim) (Bd h1 (by simpa using hfr))
  ·rename_i cc a b pos
   split at h
   ·rename_i kk hk
    have he:=fu hk
    have hN':X.N=(frz F cc ρ).map (·.1):=by rw[aG];exact hN
    intro σ H Hs D hd _ hx;obtain⟨Hs1,sm1,h1⟩:=hd.frozen F cc;refine PS.sem (DN dO dF dF) ((cG cx F GX hN' he).2 kk rfl σ H Hs1 _ h1.ext.sub h1.sh fun H' Hs' E=>?_);have h2:=h1.step E
    cases kk with
    | true=>exact tV (block a _ c ρ' hN' h σ H' Hs' D h2 hN' fun σ3 Hs3 H3 sm3=>hx σ3 Hs3 H3 ((sm1.trans E.vis).trans sm3))
    | false=>exact vW (block b _ c ρ' hN' h σ H' Hs' D h2 hN' fun σ3 Hs3 H3 sm3=>hx σ3 Hs3 H3 ((sm1.trans E.vis).trans sm3))
   ·rename_i hk
    split at h
    ·rename_i e hn
     obtain⟨c1,h1,h2⟩:=Option.map_eq_some_iff.mp h;cases h2;unfold vB at hn;split at hn
     ·rename_i f as ks p1 p2
      cases hn
      have hN':X.N=(frz F (.UnaryOp .Not (.Call f as ks p1) p2) ρ).map (·.1):=by rw[aG];exact hN
      intro σ H Hs D hd _ hx;obtain⟨Hs1,sm1,hd1⟩:=hd.frozen F (.UnaryOp .Not (.Call f as ks p1) p2);obtain⟨E,e1,e2,_⟩:=hx σ Hs1 H sm1 hN' hd1;exact PS.sem (DN (Bm (Bl ak)) dF dF) (qY cx F GX hN' h1 σ H Hs1 E hd1.ext.sub hd1.sh e1 e2 _)
     ·cases hn
    ·cases h
  ·cases h
end
end L2
namespace L2
open PySem PySem.Spec PyProof.Rows PySem.SeqAt
open DE hiding st
structure FunAt (K:PySem.W.Frag) (mg:Str->Option Value) (f:Str) (fd:Fd):Prop where
 ex:∃ (nm:Str) (t:Stmt) (a:Addr) (g:FuncData),mg f=some (.ref a)/\Fun K nm nm t a g/\Binds K g fd.ps []/\fd.body=bN t/\fd.sc=aX t
 fs:FnScope fd.N fd.ps fd.sc
 nd:(f==("__debug__":Str))=false
structure Text (w:World) (K:PySem.W.Frag) (mg:Str->Option Value) (P:Pg):Prop where
 cst:∀ x d,P.cst.lookup x=some d->∃ v u,(∀ H,Rep K H d v)/\mg x=some u/\RelV v u
 blt:∀ x b,P.blt.lookup x=some b->mg x=none/\x=Str.ofString b
 fns:∀ f fd,P.defs.lookup f=some fd->FunAt K mg f fd
 exs:XText K mg P.exs P.top
 kw:KnW K w
def RD(ps:List (Str×Str)):D:=.dic (ps.map fun p=>.inr p.1) (ps.map fun p=>.str p.2)
def dEs(o:Obj):Array DictEntry:=match o.data with | .dict es _=>es | _ => #[]
def dN(o:Obj):Nat:=match o.data with | .dict _ n=>n | _=>0
def isS(x:Str):Value->Bool
 | .str y _=>x==y
 | _=>false
theorem BL{x:Str}{v:Value}(h:isS x v=true):∃ t,v=.str x t:=by
 unfold isS at h;split at h
 ·rename_i y t
  have e:x=y:=by simpa using h
  subst e;exact⟨t,rfl⟩
 ·cases h
def chk:List (Str×Str)->List DictEntry->Bool
 | [],[]=>true
 | p::r,e::es=>isS p.1 e.key&&isS p.2 e.val&&chk r es
 | _,_=>false
theorem Cj{K:PySem.W.Frag}{H:Hp}:∀ {ps:List (Str×Str)} {es:List DictEntry},chk ps es=true->∃ kvs:List (Key×V),kvs.map (·.1)=ps.map (fun p=>Sum.inr p.1)/\aJ K H (ps.map fun p=>D.str p.2) (kvs.map (·.2))/\Paired (fun(p:Key×V) (e:DictEntry)=>(∃ x t,p.1=.inr x/\e.key=.str x t)/\RelV p.2 e.val) kvs es
 | [],[],_=>⟨[],rfl,.nil,.nil⟩
 | p::r,e::es,h=>by
  simp only[chk,Bool.and_eq_true] at h;obtain⟨⟨h1,h2⟩,h3⟩:=h;obtain⟨kvs,g1,g2,g3⟩:=Cj (K:=K) (H:=H) h3;obtain⟨t,e1⟩:=BL h1;obtain⟨t',e2⟩:=BL h2;exact⟨(.inr p.1,.str p.2)::kvs,by simp[g1],.cons (by simp[Rep]) g2,.cons ⟨⟨p.1,t,rfl,e1⟩,⟨t',e2⟩⟩ g3⟩
 | [],_::_,h=>by simp[chk] at h
 | _::_,[],h=>by simp[chk] at h
theorem Kf{K:PySem.W.Frag}{H H':Hp}{ps:List (Str×Str)}{kvs:List (Key×V)}(h:aJ K H (ps.map fun p=>D.str p.2) (kvs.map (·.2))):aJ K H' (ps.map fun p=>D.str p.2) (kvs.map (·.2)):=by
 generalize kvs.map (·.2)=vs at h ⊢
 induction ps generalizing vs with
 | nil=>simpa[aJ] using h
 | cons p r ih =>
  simp only[List.map_cons,aJ] at h ⊢;obtain⟨v,q,h1,h2,h3⟩:=h;exact⟨v,q,h1,by simpa[Rep] using h2,ih _ h3⟩
theorem cD{K:PySem.W.Frag}{h:Heap}{mg:Str->Option Value}{x:Str}{ps:List (Str×Str)}(X:K.In h)(G:h.Ns mainGlobals mg)(a:Addr)(o:Obj)(e:PySem.W.nsIn K mainGlobals x=some (some (.ref a)))(l:K.lookup a=some o)(ex:o.ExactDict)(hd:o.data=.dict (dEs o) (dN o))(hc:(chk ps (dEs o).toList&&nF (ps.map (·.1)))=true)(hs:(a==sysModules)=false) :
  ∃ v u,(∀ H,Rep K H (RD ps) v)/\mg x=some u/\RelV v u:=by
 rw[Bool.and_eq_true] at hc;obtain⟨kvs,g1,g2,g3⟩:=Cj (K:=K) (H:=fun _=>none) hc.1
 have nd:(kvs.map (·.1)).Nodup:=by
  rw[g1];have n:=jk hc.2
  have q:(ps.map fun p=>(Sum.inr p.1:Key))=(ps.map (·.1)).map Sum.inr:=by simp
  rw[q];exact List.Pairwise.map _ (fun a b hab z=>hab (Sum.inr.inj z)) n
 refine⟨.ref a,_,fun H=>?_,PySem.W.mg_of X G e,rfl⟩;unfold RD;simp only[Rep];exact⟨a,kvs,rfl,.inr ⟨o,dEs o,dN o,l,ex,hd,hs,nd,g3⟩,g1,Kf g2⟩
theorem jV{α:Type}:∀ {l:List (Str×α)} {x:Str},(l.map (·.1)).contains x=true->∃ a,l.lookup x=some a
 | [],x,h=>by simp at h
 | (y,a)::r,x,h=>by
  rw[List.lookup_cons]
  cases hb:x==y with
  | true=>exact⟨a,rfl⟩
  | false =>
   refine jV ?_;rw[List.map_cons,List.contains_cons,hb,Bool.false_or] at h;exact h
theorem uG{K:PySem.W.Frag}{H:Hp}{fd:Fd}{ds:List D}{vs:List V}(S:FnScope fd.N fd.ps fd.sc)(hl:ds.length=fd.ps.length)(r:aJ K H ds vs) :
  fd.N=(bY fd ds).map (·.1)/\(start fd.N vs).length=(bY fd ds).length/\∀ (i:Nat) (x:Str) (s:Sl),(bY fd ds)[i]?=some (x,s)->(s=.no\/∃ d v,s=.sh d/\(start fd.N vs)[i]?=some (some v)/\Rep K H d v):=by
 have lv:=r.length
 have lz:(fd.ps.zip (ds.map Sl.sh)).length=fd.ps.length:=by rw[List.length_zip,List.length_map];omega
 have hpl:fd.ps.length<=fd.N.length:=by have:=congrArg List.length S.pre;rw[List.length_take] at this;omega
 refine⟨?_,?_,fun i x s e=>?_⟩
 ·unfold bY
  rw[List.map_append,List.map_map,List.map_fst_zip (by rw[List.length_map];omega)]
  have:(fd.N.drop fd.ps.length).map ((fun p:Str×Sl=>p.1)∘fun x=>(x,Sl.no))=fd.N.drop fd.ps.length:=by
   rw[show((fun p:Str×Sl=>p.1)∘fun x=>(x,Sl.no))=id from rfl,List.map_id]
  rw[this]
  conv=>lhs;rw[<- List.take_append_drop fd.ps.length fd.N,S.pre]
 ·unfold start bY
  rw[List.length_append,List.length_append,lz];simp;omega
 ·unfold bY at e
  by_cases hi:i<fd.ps.length
  ·rw[List.getElem?_append_left (by rw[lz];exact hi),List.getElem?_zip_eq_some] at e
   obtain⟨_,e2⟩:=e;rw[List.getElem?_map] at e2;obtain⟨d,e3,rfl⟩:=Option.map_eq_some_iff.mp e2;obtain⟨v,g1,g2⟩:=r.get e3;refine .inr ⟨d,v,rfl,?_,g2⟩;unfold start;rw[List.getElem?_append_left (by rw[List.length_map];omega),List.getElem?_map,g1];rfl
  ·rw[List.getElem?_append_right (by rw[lz];omega),List.getElem?_map] at e
   obtain⟨y,_,e3⟩:=Option.map_eq_some_iff.mp e;cases e3;exact .inl rfl
section
variable {P:Program} {w:World} {K:PySem.W.Frag} {mg:Str->Option Value} {base:Heap} {T:Pg} {F:Nat}
abbrev vR(c:Str->List D->Option Rs):Str->List D->Option D:=fun f ds=>Rs.val? (c f ds)
abbrev xR(c:Str->List D->Option Rs):Str->List D->Option Str:=fun f ds=>Rs.exc? (c f ds)
theorem iH{o:Option Rs}{d:D}(h:Rs.val? o=some d):o=some (.val d):=by
 unfold Rs.val? at h;split at h
 ·cases h;rfl
 ·cases h
theorem iQ{o:Option Rs}{c:Str}(h:Rs.exc? o=some c):o=some (.exc c):=by
 unfold Rs.exc? at h;split at h
 ·cases h;rfl
 ·cases h
theorem iR{k:Nat}{f:Str}{fd:Fd}(hf:T.defs.lookup f=some fd):∀ ds r,d9 T F k f ds=some r->ds.length=fd.ps.length:=by
 intro ds d h
 cases k with
 | zero=>simp[pX] at h
 | succ k =>
  simp only[jG,hf] at h;split at h
  ·rename_i hl;simpa using hl
  ·cases h
theorem Fun.okX{x qual:Str}{st:Stmt}{f:Addr}{fd:FuncData}{N ps:List Str}{k:Nat}{sp:Sp}(F:Fun K x qual st f fd)(S:FnScope N ps (aX st))(len:∀ vs H Q E,sp vs H Q E->vs.length=ps.length)
  (hbody : ∀ (cdv : Value) (A : Around) (outer : List Env) (s : Shared) (H : Hp) (vs : List V) (Q : VK) (E : XK), Room k (A.deeper (envOfC qual (aX st) s.heap.objs.size f cdv)) -> sp vs H Q E ->
   ∃ t,PSs (gK (CX1 P w) P w K mg base N qual (aX st) f cdv A outer s H E) (bN st) t/\t { nx:=fun _ H'=>Q .non H',rt:=Q } (start N vs) H):FnOk P w K mg base (CX1 P w) (k+1) f fd ps sp:=by
 obtain⟨oc,od,kV,doc,pm,an,cdv,ct,osl,rfl,lk,hcd⟩:=F.ex;exact Qf lk hcd S len fun A outer s H vs Q E hr hsp=>hbody cdv A outer s H vs Q E hr hsp
theorem Cq(X:Text w K mg T):∀ (k:Nat) (nm f:Str) (fd:Fd) (t:Stmt) (a:Addr) (g:FuncData),T.defs.lookup f=some fd->Fun K nm nm t a g->fd.body=bN t->fd.sc=aX t->FnScope fd.N fd.ps fd.sc->FnOk P w K mg base (CX1 P w) k a g fd.ps (spX K (vR (d9 T F k)) (xR (d9 T F k)) f fd.ps)
  | 0,nm,f,fd,t,a,g,hf,Fn,hb,hs,S=>by
    refine⟨fun vs H Q E h=>h.1,fun A outer s H args us vs Q E _ _ _ _ h=>?_⟩
    obtain⟨_,Hs,ds,_,_,⟨d,hc,_⟩ | ⟨c,hc,_⟩⟩:=h
    · have:=iH hc;simp[pX] at this
    · have:=iQ hc;simp[pX] at this
  | k+1,nm,f,fd,t,a,g,hf,Fn,hb,hs,S=>by
    refine Fun.okX (N:=fd.N) Fn (by rw[<- hs];exact S) (fun vs H Q E h=>h.1) fun cdv A outer s H vs Q E hr h=>?_
    obtain⟨hlv,Hs,ds,hsm,rl,hcase⟩:=h
    have hld:ds.length=fd.ps.length:=by
      rcases hcase with⟨d,hc,_⟩ | ⟨c,hc,_⟩
      · exact iR hf ds _ (iH hc)
      · exact iR hf ds _ (iQ hc)
    have unf:d9 T F (k+1) f ds=ou (T.cx (d9 T F k)) F fd.sc fd.body (bY fd ds):=by
      simp only[jG,hf]
      rw[if_pos (by simpa using hld)]
    obtain⟨s1,s2,s3⟩:=uG S hld rl
    refine⟨iz _ (bN t),dF,?_⟩
    have G:GoodS (T.cx (d9 T F k)) k (gK (CX1 P w) P w K mg base fd.N nm (aX t) a cdv A outer s H E).nox fd.sc :=
      { good := { calm := rfl, room := hr, sce := hs.symm, kind := S.kind, nd := S.nd, cst := X.cst, blt := X.blt, exs := X.exs, kw := X.kw
                  fns:=fun f' hf'=>by
                    obtain⟨fd',hl'⟩:=jV (l:=T.defs) hf'
                    have FA:=X.fns f' fd' hl'
                    obtain⟨nm',t',a',g',m1,m2,m3,m4,m5⟩:=FA.ex
                    exact⟨FA.nd,a',g',fd'.ps,fun ds d h=>iR hl' ds _ (iH h),fun ds c h=>iR hl' ds _ (iQ h),m1,m2.kp,m3,Cq X k nm' f' fd' t' a' g' hl' m2 m4 m5 FA.fs⟩ }
        own:=⟨fun x hx=>⟨by
          unfold ownIn at hx
          rw[Bool.or_eq_true] at hx
          show(aX t).names.lookup x=_\/(aX t).names.lookup x=_
          rw[<- hs]
          exact hx.imp (fun q=>by simpa using q) (fun q=>by simpa using q),.inl rfl⟩⟩
        pass:=PassesOwn.never
        stk:=⟨rfl,rfl⟩ }
    have noow:∀ (i:Nat) (x:Str) (ds':List D),(bY fd ds)[i]?=some (x,.ow ds')->False:=fun i x ds' e=>by
      rcases s3 i x _ e with q | ⟨d',v,q,q1,q2⟩
      · cases q
      · cases q
    have hd:Hd K Hs H Hs H (bY fd ds) (start fd.N vs):=by
      refine⟨.refl hsm,s2,fun i x d e=>?_,fun i x ds' e=>(noow i x ds' e).elim,fun i j x y ds' es a' _ e=>(noow i x ds' e).elim,fun i x dss e=>by
        rcases s3 i x _ e with q | ⟨d',v,q,q1,q2⟩
        · cases q
        · cases q⟩
      rcases s3 i x _ e with q | ⟨d',v,q,q1,q2⟩
      · cases q
      · cases q
        exact⟨v,q1,q2⟩
    rcases hcase with⟨d,hc,hq⟩ | ⟨c,hc,hq⟩
    · have hc':=iH hc
      rw[unf] at hc'
      unfold ou at hc'
      intro pins s0 I
      have fin:∀ fl,iZ (fun ρ s=>DE.st (T.cx (d9 T F k)) F F fd.sc ρ s) fd.body (bY fd ds)=some fl->(match fl with | .ret d'=>d'=d | .nxt _=>d=.non)->iz (gK (CX1 P w) P w K mg base fd.N nm (aX t) a cdv A outer s H E).nox (bN t) { nx:=fun _ H'=>Q .non H',rt:=Q } (start fd.N vs) H:=by
        intro fl hg hfl
        rw[hb] at hg
        refine zP (fun ρ s fl hN h=>rR _ F F G hN h) (bN t) (bY fd ds) fl s1 hg (start fd.N vs) H Hs _ hd s1 (fun ρ' σ' Hs' H' q _ _ hd'=>?_) fun d' v Hs' H' q E' r=>?_
        · subst q
          have e:d=.non:=hfl
          subst e
          exact hq .non H' Hs' hd'.ext (by simp[Rep])
        · subst q
          have e:d'=d:=hfl
          subst e
          exact hq v H' Hs' E' r
      have key:iz (gK (CX1 P w) P w K mg base fd.N nm (aX t) a cdv A outer s H E).nox (bN t) { nx:=fun _ H'=>Q .non H',rt:=Q } (start fd.N vs) H:=by
        split at hc'
        · rename_i d' hg;cases hc';exact fin _ hg rfl
        · rename_i ρ' hg;cases hc';exact fin _ hg rfl
        · split at hc'<;>cases hc'
      exact wpAny_mono (key pins s0 (I.wish _)) (fun _ _ q=>q.unwish) fun _ _ z=>False.elim z
    · have hc':=iQ hc
      rw[unf] at hc'
      unfold ou at hc'
      split at hc'
      · cases hc'
      · cases hc'
      · split at hc'
        · rename_i c' ρ' hg
          cases hc'
          rw[hb] at hg
          refine qR (rs:=true) (X:=gK (CX1 P w) P w K mg base fd.N nm (aX t) a cdv A outer s H E) (fun ρ s fl hN h=>rR _ F F G hN h) (fun ρ s c ρ' hN h=>uF _ F F G hN h) (bN t) (bY fd ds) s1 hg (start fd.N vs) H Hs _ hd s1 fun σ1 Hs1 H1 _ _ hd1=>?_
          refine⟨E,fun C H2 Hs2 q E2=>hq C H2 Hs2 q (hd1.ext.trans E2),fun pins H2 s2 e s3 I2 hcx=>vh pins σ1 H2 s2 e s3 I2 hcx,fun _ pins H2 s2 C e h' args I2 hm hE=>su I2 hm hE⟩
        · cases hc'
theorem FnOk.calm{k:Nat}{f:Addr}{fd:FuncData}{ps:List Str}{sp:Sp}(F:FnOk P w K mg base (CX1 P w) k f fd ps sp)(h:∀ vs H Q E,sp vs H Q E->sp vs H Q E0):FnOk P w K mg base CX0 k f fd ps sp :=
 ⟨F.len,fun A outer s H args us vs Q E hr he hb hv hs=>codeAny_mono (F.run A outer s H args us vs Q E0 hr he hb hv (h _ _ _ _ hs)) fun r s' q=>by
  cases r with
  | error e=>obtain⟨_,_,_,_,_,_,z⟩:=(show CX1 P w outer H s E0 e s' from q);exact z.elim
  | ok fl=>cases fl<;>exact q⟩
def qt(K:PySem.W.Frag):Sp:=fun vs H Q _=>∃ (a:Addr) (ns:List Int),vs=[.ref a]/\SqL K H a (ns.map V.int)/\ns.length<=63/\∀ H',Q (.bl true) H'
theorem JL{k:Nat}{f:Str}{fd:Fd}{t:Stmt}{a:Addr}{g:FuncData}(X:Text w K mg T)(hf:T.defs.lookup f=some fd)(Fn:Fun K f f t a g)(hb:fd.body=bN t)(hs:fd.sc=aX t)(S:FnScope fd.N fd.ps fd.sc)(h1:fd.ps.length=1)
  (hlaw:∀ ns:List Int,ns.length<=63->aY T F k f [.lst (ns.map D.int)]=some (.bl true)):FnOk P w K mg base CX0 k a g fd.ps (qt K):=by
 refine FnOk.calm ((Cq (F:=F) X k f f fd t a g hf Fn hb hs S).imp fun vs H Q E h=>?_) fun _ _ _ _ h=>h;obtain⟨p,ns,rfl,hS,hl,q⟩:=h;refine⟨by rw[h1];rfl,H,[.lst (ns.map D.int)],.refl _,.cons ?_ .nil,.inl ⟨.bl true,by have:=hlaw ns hl;rw[gw] at this;exact this,fun v H' Hs' _ r=>by rw[cH r];exact q H'⟩⟩;simp only[Rep];exact⟨p,ns.map V.int,rfl,hS,lg (fun x=>by simp[Rep]) ns⟩
end
end L2
namespace DE
open PySem
def Ls{α:Type}(m:Nat)(h:Nat->α):List α:=(List.range m).map h
theorem bF{α:Type}{m:Nat}{h:Nat->α}:(Ls m h).length=m:=by simp[Ls]
theorem fH{α:Type}{m i:Nat}{h:Nat->α}(hi:i<m):(Ls m h)[i]?=some (h i):=by simp[Ls,hi]
theorem Az{α:Type}{m:Nat}{h g:Nat->α}(e:∀ i,i<m->h i=g i):Ls m h=Ls m g:=by
 unfold Ls;exact List.map_congr_left fun i hi=>e i (List.mem_range.mp hi)
theorem j6{α β:Type}{m:Nat}{h:Nat->α}{f:α->β}:(Ls m h).map f=Ls m fun i=>f (h i):=by
 unfold Ls;rw[List.map_map];rfl
theorem Kp{α β:Type}{m:Nat}{h:Nat->α}{g:Nat->β}:(Ls m h).zip (Ls m g)=Ls m fun i=>(h i,g i):=by
 apply List.ext_getElem?;intro i
 by_cases hi:i<m
 ·rw[fH hi,List.getElem?_zip_eq_some]
  exact⟨fH hi,fH hi⟩
 ·rw[List.getElem?_eq_none (by rw[List.length_zip,bF,bF];omega),List.getElem?_eq_none (by rw[bF];omega)]
theorem jH{α:Type}{m:Nat}{h:Nat->α}:Ls (m+1) h=Ls m h++[h m]:=by
 unfold Ls;rw[List.range_succ,List.map_append];rfl
theorem oJ{m:Nat}{h:Nat->D}{j:Nat}(hj:j<m):atD (Ls m h) (j:Int)=some (h j):=by
 unfold atD ixD;rw[bF,if_pos (by omega),if_pos (by omega)];simp[fH hj]
theorem gP{l:List D}{j:Nat}{d:D}(h:l[j]?=some d):atD l (j:Int)=some d:=by
 have hj:=(List.getElem?_eq_some_iff.mp h).1;unfold atD ixD;rw[if_pos (by omega),if_pos (by omega)];simpa using h
theorem uU{lo hi:Int}:bR lo hi=Ls (hi-lo).toNat fun k=>.int (lo+(k:Int)):=rfl
theorem uV{n:Nat}:bR 0 (n:Int)=Ls n fun k=>.int (k:Int):=by
 unfold bR Ls;simp
def Tp(cx:Cxt)(sc:Scope)(ρ:Rho)(x:Str):Option D:=if aq x then(match sc.names.lookup x with
    | some .local=>(match ρ.lookup x with | some (.sh d)=>some d | _=>none)
    | some .cell=>(match ρ.lookup x with | some (.sh d)=>some d | _=>none)
    | some .free=>(match ρ.lookup x with | some (.sh d)=>some d | _=>none)
    | some .globalImplicit=>cx.cst.lookup x
    | _=>none) else none
def Ua(c:Const):Option D:=(match c with
    | .none=>some .non
    | .bool b=>some (.bl b)
    | .int i=>some (.int i)
    | .str x=>some (.str x)
    | _=>none)
section
variable {cx:Cxt} {n:Nat} {sc scope:Scope} {ρ:Rho} {a b c e:Expr} {es:List Expr} {p q:Pos} {x y z d:D} {ds:List D} {nm:Str} {op op':CmpOp}
theorem xName(h:Tp cx sc ρ nm=some d):ev cx (n+1) sc ρ (.Name nm p)=some d:=h
theorem au{k:Const}{j:Nat}(h:Ua k=some d):ev cx (n+1) sc ρ (.Constant k j p)=some d:=h
theorem cP{o:Operator}(h1:ev cx n sc ρ a=some x)(h2:ev cx n sc ρ b=some y)(h:binop o x y=some d):ev cx (n+1) sc ρ (.BinOp a o b p)=some d:=by
 simp only[ev,h1,h2];exact h
theorem Ks{t:Bool}(h1:ev cx n sc ρ a=some (.bl t)):ev cx (n+1) sc ρ (.UnaryOp .Not a p)=some (.bl (!t)):=by
 simp only[ev,h1];rfl
theorem iU(h1:ev cx n sc ρ a=some (.bl true)):ev cx (n+1) sc ρ (.UnaryOp .Not a p)=some (.bl false):=Ks h1
theorem j9(h1:ev cx n sc ρ a=some (.bl false)):ev cx (n+1) sc ρ (.UnaryOp .Not a p)=some (.bl true):=Ks h1
theorem Bb{i:Int}(h1:ev cx n sc ρ a=some (.int i)):ev cx (n+1) sc ρ (.UnaryOp .USub a p)=some (.int (-i)):=by
 simp only[ev,h1];rfl
theorem Hv(h1:ev cx n sc ρ a=some (.bl true))(h2:bV .And (ev cx n sc ρ) (b::es)=some d):bV .And (ev cx n sc ρ) (a::b::es)=some d:=by
 simp only[bV,h1];exact h2
theorem CG(h1:ev cx n sc ρ a=some (.bl false)):bV .And (ev cx n sc ρ) (a::b::es)=some (.bl false):=by
 simp only[bV,h1];rfl
theorem rK(h1:ev cx n sc ρ a=some (.bl false))(h2:bV .Or (ev cx n sc ρ) (b::es)=some d):bV .Or (ev cx n sc ρ) (a::b::es)=some d:=by
 simp only[bV,h1];exact h2
theorem Cw(h1:ev cx n sc ρ a=some (.bl true)):bV .Or (ev cx n sc ρ) (a::b::es)=some (.bl true):=by
 simp only[bV,h1];rfl
theorem rM{o:BoolOp}(h1:ev cx n sc ρ a=some d):bV o (ev cx n sc ρ) [a]=some d:=h1
theorem dw{o:BoolOp}(h:bV o (ev cx n sc ρ) es=some d):ev cx (n+1) sc ρ (.BoolOp o es p)=some d:=h
theorem d7(h1:ev cx n sc ρ a=some x)(h2:ev cx n sc ρ b=some y)(h:cmpop op x y=some d):ev cx (n+1) sc ρ (.Compare a [op] [b] p)=some d:=by
 simp only[ev,h1,h2];exact h
theorem uc(h1:ev cx n sc ρ a=some x)(h2:ev cx n sc ρ b=some y)(h:cmpop op x y=some (.bl true))(h3:ev cx n sc ρ c=some z)(h4:cmpop op' y z=some d)(hp:aD c=true:=by rfl):ev cx (n+1) sc ρ (.Compare a [op,op'] [b,c] p)=some d:=by
 simp only[ev,h1,h2,h3,hp];show((cmpop op x y).bind asB).bind _=_;rw[h];exact h4
theorem RT(h1:ev cx n sc ρ c=some (.bl true))(h2:ev cx n sc ρ a=some d):ev cx (n+1) sc ρ (.IfExp c a b p)=some d:=by
 simp only[ev,h1];exact h2
theorem RV(h1:ev cx n sc ρ c=some (.bl false))(h2:ev cx n sc ρ b=some d):ev cx (n+1) sc ρ (.IfExp c a b p)=some d:=by
 simp only[ev,h1];exact h2
theorem bx{f:Expr->Option D}:jO f []=some []:=rfl
theorem ao{f:Expr->Option D}(h1:f a=some x)(h2:jO f es=some ds):jO f (a::es)=some (x::ds):=by
 simp only[jO,h1,h2];rfl
theorem tY{j:Nat}(h1:jO (ev cx n sc ρ) es=some ds)(hz:szl ds.length=true):ev cx (n+1) sc ρ (.Tuple es j p)=some (.tup ds):=by
 simp only[ev,h1];show(if szl ds.length=true then _ else _)=_;rw[if_pos hz]
theorem Cy(h1:jO (ev cx n sc ρ) es=some ds)(hz:szl ds.length=true):ev cx (n+1) sc ρ (.List es p)=some (.lst ds):=by
 simp only[ev,h1];show(if szl ds.length=true then _ else _)=_;rw[if_pos hz]
theorem CW{x:D}{i:Int}{xs:List D}(h:items x=some xs):Kw x (.int i)=atD xs i:=by cases x<;>simp[items] at h<;>subst h<;>rfl
theorem xIx{i:Int}{xs:List D}(h1:ev cx n sc ρ a=some x)(h2:ev cx n sc ρ b=some (.int i))(h3:items x=some xs)(h4:atD xs i=some d)(hs:aD b=true:=by rfl):ev cx (n+1) sc ρ (.Subscript a b p)=some d:=by
 simp only[ev,h1];show Option.bind _ _=_
 cases b<;>first | (simp[aD] at hs;done) | (simp only[h2];show Kw x (.int i)=some d;rw[CW h3];exact h4)
def oI(cx:Cxt)(n:Nat)(sc:Scope)(ρ:Rho):Option Expr->Option (Option Int)
 | none=>some none
 | some e=>(ev cx n sc ρ e).bind fun d=>(asI d).map some
theorem xSl{xs:List D}{lo hi:Option Expr}{l u:Option Int}(h1:ev cx n sc ρ a=some (.tup xs))(h2:oI cx n sc ρ lo=some l)(h3:oI cx n sc ρ hi=some u)(h4:(kY xs.length 0 l==0&&kY xs.length xs.length u==xs.length)=false) :
  ev cx (n+1) sc ρ (.Subscript a (.Slice lo hi none q) p)=some (.tup (oR xs l u)):=by
 unfold oI at h2 h3;simp only[ev,h1,bind,Option.bind_some]
 have e:∀ (A B:Option (Option Int)),A=some l->B=some u->(A.bind fun l=>B.bind fun h=>if(kY xs.length 0 l==0&&kY xs.length xs.length h==xs.length)=true then some (D.tup xs) else some (D.tup (oR xs l h)))=some (.tup (oR xs l u)):=by
  intro A B ha hb;subst ha hb;simp only[Option.bind_some,h4,Bool.false_eq_true,if_false]
 exact e _ _ h2 h3
theorem RQ{us:List D}{lo hi:Option Expr}{l u:Option Int}(h1:ev cx n sc ρ a=some (.lst us))(h2:oI cx n sc ρ lo=some l)(h3:oI cx n sc ρ hi=some u) :
  ev cx (n+1) sc ρ (.Subscript a (.Slice lo hi none q) p)=some (.lst (oR us l u)):=by
 unfold oI at h2 h3;simp only[ev,h1,bind,Option.bind_some]
 have e:∀ (A B:Option (Option Int)),A=some l->B=some u->(A.bind fun l=>B.bind fun h=>some (D.lst (oR us l h)))=some (.lst (oR us l u)):=by
  intro A B ha hb;subst ha hb;rfl
 exact e _ _ h2 h3
theorem Ey:oI cx n sc ρ none=some none:=rfl
theorem Ew{i:Int}(h:ev cx n sc ρ e=some (.int i)):oI cx n sc ρ (some e)=some (some i):=by
 simp only[oI,h];rfl
theorem oV{t:Expr}{T:String}(hg:aZ cx sc nm=some "isinstance")(ht:tyOf cx sc t=some T)(hk:fJ T=true)(h1:ev cx n sc ρ a=some x)(h:jY T x=c')(hxo:xOf cx sc t=none:=by rfl)(hne:isExc x=false:=by rfl):ev cx (n+1) sc ρ (.Call (.Name nm q) [a,t] [] p)=some (.bl c'):=by
 unfold aZ at hg;split at hg
 ·rename_i hgl
  subst h;simp only[ev,hgl,hg,h1,ht,if_true,hxo,bind,Option.bind_some]
  cases x<;>first | (show(if fJ T=true then _ else _)=_;rw[if_pos hk]) | exact absurd hne (by simp[isExc])
 ·cases hg
theorem cT{B:String}(hg:aZ cx sc nm=some B)(hw:yj cx sc B es=.al)(hn:(B=="isinstance"||es.isEmpty)=false)(h1:jO (ev cx n sc ρ) es=some ds)(h:blt B ds=some d):ev cx (n+1) sc ρ (.Call (.Name nm q) es [] p)=some d:=by
 rw[Bool.or_eq_false_iff] at hn;unfold aZ at hg;split at hg
 ·rename_i hgl
  simp only[ev,hgl,hg,if_true];split
  ·rename_i he;cases he;simp at hn
  ·rename_i he;cases he
   simp only[hw,hn.2,h1,Bool.false_eq_true,if_false];exact h
  ·rename_i he;cases he
 ·cases hg
theorem xSs{xs:List D}{ks:List (List Int)}(hg:aZ cx sc nm=some "sorted")(hw:yj cx sc "sorted" es=.ls a)(h1:ev cx n sc ρ a=some (.lst xs))(h2:Ay xs=some ks)(hz:Kst.Hg ks=true):ev cx (n+1) sc ρ (.Call (.Name nm q) es [] p)=some (.lst xs):=by
 unfold aZ at hg;split at hg
 ·rename_i hgl
  simp only[ev,hgl,hg,if_true];split
  ·rename_i he;exact absurd he (by decide)
  ·rename_i he;cases he
   simp only[hw,h1,Option.bind_some,zB,bind,h2,hz,if_true]
  ·rename_i he;cases he
 ·cases hg
def isFn(cx:Cxt)(sc:Scope)(nm:Str)(es:List Expr):Bool:=lQ cx sc nm&&(cx.blt.lookup nm).isNone&&cx.fns.contains nm && !es.isEmpty
theorem aW(hf:isFn cx sc nm es=true)(h1:jO (ev cx n sc ρ) es=some ds)(h:cx.call nm ds=some d):ev cx (n+1) sc ρ (.Call (.Name nm q) es [] p)=some d:=by
 unfold isFn at hf;rw[Bool.and_eq_true,Bool.and_eq_true,Bool.and_eq_true] at hf;obtain⟨⟨⟨h2,h3⟩,h4⟩,h5⟩:=hf
 have h3':cx.blt.lookup nm=none:=by simpa using h3
 simp only[ev,h2,h3',h4,h5,Bool.and_self,if_true,h1];exact h
theorem wR1{tup:Bool}{j:Int}(hw:oW cx sc e=.r1 a)(h1:ev cx n sc ρ a=some (.int j))(hz:bZ j=true):evI cx tup (ev cx n sc ρ) sc e=some (bR 0 j):=by
 unfold evI;rw[hw];simp only[h1,Option.bind_some,asI];show(if bZ j=true then _ else _)=_;rw[if_pos hz]
theorem wR2{tup:Bool}{i j:Int}(hw:oW cx sc e=.r2 a b)(h1:ev cx n sc ρ a=some (.int i))(h2:ev cx n sc ρ b=some (.int j))(hz:(bZ i&&bZ j)=true):evI cx tup (ev cx n sc ρ) sc e=some (bR i j):=by
 unfold evI;rw[hw];simp only[h1,h2,Option.bind_some,asI];show(if(bZ i&&bZ j)=true then _ else _)=_;rw[if_pos hz]
theorem wZp{xs ys:List D}(hw:oW cx sc e=.zp a b)(h1:ev cx n sc ρ a=some (.tup xs))(h2:ev cx n sc ρ b=some (.tup ys)):evI cx true (ev cx n sc ρ) sc e=some ((xs.zip ys).map fun q=>.tup [q.1,q.2]):=by
 unfold evI;rw[hw];simp only[h1,h2,bind,Option.bind_some];rfl
theorem K9{xs ys:List D}(hw:oW cx sc e=.zp a b)(h1:ev cx n sc ρ a=some (.lst xs))(h2:ev cx n sc ρ b=some (.lst ys)):evI cx true (ev cx n sc ρ) sc e=some ((xs.zip ys).map fun q=>.tup [q.1,q.2]):=by
 unfold evI;rw[hw];simp only[h1,h2,bind,Option.bind_some];rfl
theorem wEn{xs:List D}(hw:oW cx sc e=.en a)(h1:ev cx n sc ρ a=some (.tup xs)):evI cx true (ev cx n sc ρ) sc e=some (enD xs):=by
 unfold evI;rw[hw];simp only[h1,bind,Option.bind_some];rfl
theorem wSq{tup:Bool}{xs:List D}(hw:oW cx sc e=.sq)(h1:ev cx n sc ρ e=some x)(h2:items x=some xs):evI cx tup (ev cx n sc ρ) sc e=some xs:=by
 unfold evI;rw[hw];simp only[h1,Option.bind_some];exact h2
theorem cu{f:D->Option (Option D)}{h g:Nat->D}:∀ {m:Nat},(∀ i,i<m->f (h i)=some (some (g i)))->bB f (Ls m h)=some (Ls m g):=by
 have key:∀ (l:List Nat),(∀ i∈l,f (h i)=some (some (g i)))->bB f (l.map h)=some (l.map g):=by
  intro l
  induction l with
  | nil=>intro _;rfl
  | cons i r ih =>
   intro hi;simp only[List.map_cons,bB,hi i List.mem_cons_self,ih fun j hj=>hi j (List.mem_cons_of_mem _ hj)];rfl
 intro m hm;exact key _ fun i hi=>hm i (List.mem_range.mp hi)
theorem jC{f:D->Option (Option D)}{t:D->Bool}{g:D->D}:∀ {l:List D},(∀ x∈l,f x=some (if t x then some (g x) else none))->bB f l=some ((l.filter t).map g)
 | [],_=>rfl
 | x::r,h=>by
  have h1:=h x List.mem_cons_self;have h2:=jC (l:=r) fun y hy=>h y (List.mem_cons_of_mem _ hy);simp only[bB,h1]
  cases ht:t x with
  | true=>simp only[if_true,List.filter_cons,ht,List.map_cons,h2];rfl
  | false=>simp only[Bool.false_eq_true,if_false,List.filter_cons,ht];exact h2
def cF(cx:Cxt)(n:Nat)(sc scope:Scope)(ρ:Rho)(tg elt:Expr)(ifs:List Expr):D->Option (Option D):=fun d=>do
 let ρ1 <- fG scope tg d (bD scope ρ)
 let b <- lR (ev cx n (jJ scope sc) ρ1) ifs
 if b then(ev cx n (jJ scope sc) ρ1 elt).map some else some none
theorem dZ{tg elt:Expr}{ρ1:Rho}(h1:fG scope tg x (bD scope ρ)=some ρ1)(h2:ev cx n (jJ scope sc) ρ1 elt=some d):cF cx n sc scope ρ tg elt [] x=some (some d):=by
 simp only[cF,h1,lR];show Option.map some (ev cx n (jJ scope sc) ρ1 elt)=_;rw[h2];rfl
theorem fP{tg elt:Expr}{ρ1:Rho}{t:Bool}(h1:fG scope tg x (bD scope ρ)=some ρ1)(h3:ev cx n (jJ scope sc) ρ1 c=some (.bl t))(h2:ev cx n (jJ scope sc) ρ1 elt=some d):cF cx n sc scope ρ tg elt [c] x=some (if t then some d else none):=by
 simp only[cF,h1,lR,h3,h2,bind,Option.bind_some,asB]
 cases t<;>rfl
theorem cR{tg elt iter:Expr}{ifs:List Expr}{l out:List D}(hok:gq sc scope=true)(hI:evI cx (eH tg) (ev cx n sc ρ) sc iter=some l)(hz:szl l.length=true)(hgo:bB (cF cx n sc scope ρ tg elt ifs) l=some out) :
  ev cx (n+1) sc ρ (.ListComp elt [⟨tg,iter,ifs,0⟩] scope p)=some (.lst out):=by
 simp only[ev,hok,hI];show(if szl l.length=true then(bB (cF cx n sc scope ρ tg elt ifs) l).bind (fun out=>some (D.lst out)) else none)=some (D.lst out);rw[if_pos hz,hgo];rfl
variable {F:Nat} {f:Rho->Stmt->Option Fl} {r:List Stmt} {fl:Fl} {m:Nat}
abbrev blk(cx:Cxt)(F m:Nat)(sc:Scope):List Stmt->Rho->Option Fl:=iZ (fun ρ s=>st cx F m sc ρ s)
theorem nO:blk cx F m sc [] ρ=some (.nxt ρ):=rfl
def uw(cx:Cxt)(F m:Nat)(sc:Scope)(r:List Stmt):Fl->Option Fl
 | .ret d=>some (.ret d)
 | .nxt ρ'=>blk cx F m sc r ρ'
theorem gSt{s:Stmt}{fl1:Fl}(h:st cx F m sc ρ s=some fl1)(k:uw cx F m sc r fl1=some fl):blk cx F m sc (s::r) ρ=some fl:=by
 show(st cx F m sc ρ s).bind _=_;rw[h]
 cases fl1<;>exact k
theorem dU(h:ev cx F sc (frz F e ρ) e=some d):blk cx F (m+1) sc (.Return (some e) p::r) ρ=some (.ret d):=by
 refine gSt (fl1:=.ret d) ?_ rfl;simp only[st,h];rfl
theorem gj{px:Pos}(ho:(ownIn sc nm&&(ρ.map (·.1)).contains nm)=true)(h:ev cx F sc (frz F e ρ) e=some d)(k:blk cx F (m+1) sc r (bW (frz F e ρ) nm (jM e d))=some fl)(hoo:(ooE cx sc e&&sO (frz F e ρ) nm)=false:=by rfl)(hno:(aQ e && !jU (frz F e ρ) nm)=false:=by rfl)(hle:zE cx sc e=false:=by rfl)(hrd:rdA e=false:=by rfl):blk cx F (m+1) sc (.Assign [.Name nm px] e p::r) ρ=some fl:=by
 refine gSt (fl1:=.nxt _) ?_ k;simp only[st,h,if_pos ho,hoo,hno,hle,hrd,Bool.false_and,Bool.false_eq_true,if_false];rfl
theorem gTup{es:List Expr}{j:Nat}{ρ':Rho}{l:List D}(hs:(swp sc es e).isSome=true)(h:ev cx F sc (frz F e ρ) e=some d)(hl:items d=some l)(hb:bindNames sc es l (frz F e ρ)=some ρ')(k:blk cx F (m+1) sc r ρ'=some fl):blk cx F (m+1) sc (.Assign [.Tuple es j q] e p::r) ρ=some fl:=by
 refine gSt (fl1:=.nxt _) ?_ k;simp only[st,h,hs,Bool.true_or,if_true,hl,bind,Option.bind_some,hb,Option.map_some]
def mR:Expr->Bool
 | .Call (.Name ..) _ _ _=>true
 | _=>false
theorem TF(hx:mR e=true)(h:ev cx F sc (frz F e ρ) e=some d)(k:blk cx F (m+1) sc r (frz F e ρ)=some fl):blk cx F (m+1) sc (.Expr e p::r) ρ=some fl:=by
 unfold mR at hx;split at hx
 ·refine gSt (fl1:=.nxt _) ?_ k
  simp only[st,h,Option.map_some]
 ·cases hx
theorem RB{px ap cp:Pos}{M:Str}{ds:List D}(hx:(frz F e ρ).lookup nm=some (.ow ds))(ho:(ownIn sc nm&&aq nm&&ap.endLine==cp.line)=true)(hM:(M=="append")=true)(hz:szl (ds.length+1)=true)(h:ev cx F sc (frz F e ρ) e=some d)(k:blk cx F (m+1) sc r (bW (frz F e ρ) nm (.ow (ds++[d])))=some fl) :
  blk cx F (m+1) sc (.Expr (.Call (.Attribute (.Name nm px) M ap) [e] [] cp) p::r) ρ=some fl:=by
 refine gSt (fl1:=.nxt _) ?_ k;simp only[st,hx,ho,hM,hz,Bool.and_self,if_true,h,Option.map_some]
theorem Qd{px ap cp:Pos}{M:Str}{ds zs:List D}(hx:(frz F e ρ).lookup nm=some (.ow ds))(ho:(ownIn sc nm&&aq nm&&ap.endLine==cp.line)=true)(hM:(M=="append")=false)(hM2:(M=="extend")=true)(hz:szl (ds.length+zs.length)=true)(h:ev cx F sc (frz F e ρ) e=some (.lst zs))(k:blk cx F (m+1) sc r (bW (frz F e ρ) nm (.ow (ds++zs)))=some fl) :
  blk cx F (m+1) sc (.Expr (.Call (.Attribute (.Name nm px) M ap) [e] [] cp) p::r) ρ=some fl:=by
 refine gSt (fl1:=.nxt _) ?_ k;simp only[st,hx,ho,hM,hM2,Bool.false_and,Bool.false_eq_true,if_false,if_true,h,bind,Option.bind_some,hz]
theorem mL{A B:List Stmt}{fl1:Fl}(h:ev cx F sc (frz F c ρ) c=some (.bl true))(k:blk cx F m sc A ρ=some fl1)(k2:uw cx F (m+1) sc r fl1=some fl):blk cx F (m+1) sc (.If c A B p::r) ρ=some fl:=by
 refine gSt ?_ k2;have k':iZ (fun ρ s=>st cx F m sc ρ s) A ρ=some fl1:=k;simp only[st,h,bind,Option.bind_some,asB,if_true,k']
theorem TY{A B:List Stmt}{fl1:Fl}(h:ev cx F sc (frz F c ρ) c=some (.bl false))(k:blk cx F m sc B ρ=some fl1)(k2:uw cx F (m+1) sc r fl1=some fl):blk cx F (m+1) sc (.If c A B p::r) ρ=some fl:=by
 refine gSt ?_ k2;have k':iZ (fun ρ s=>st cx F m sc ρ s) B ρ=some fl1:=k;simp only[st,h,bind,Option.bind_some,asB,Bool.false_eq_true,if_false,k']
theorem qT{A:List Stmt}(h:ev cx F sc (frz F c ρ) c=some (.bl false))(k:blk cx F (m+1) sc r ρ=some fl):blk cx F (m+1) sc (.If c A [] p::r) ρ=some fl :=
 TY h nO k
theorem lW{f:D->Rho->Option Fl}{h:Nat->D}{R:Nat->Rho}{N:Nat}(hs:∀ i,i<N->f (h i) (R i)=some (.nxt (R (i+1)))):bG f (Ls N h) (R 0)=some (.nxt (R N)):=by
  have key:∀ (j i:Nat),i+j=N->bG f ((List.range' i j).map h) (R i)=some (.nxt (R N)):=by
    intro j
    induction j with
    | zero => intro i hi; have : i = N := by omega
              subst this;rfl
    | succ j ih =>
      intro i hi
      rw[List.range'_succ,List.map_cons]
      simp only[bG,hs i (by omega)]
      exact ih (i+1) (by omega)
  have:=key N 0 (by omega)
  rw[<- List.range_eq_range'] at this
  exact this
def fF(cx:Cxt)(F m:Nat)(sc:Scope)(tg:Expr)(body:List Stmt):D->Rho->Option Fl:=fun d ρ=>do let ρ1 <- fG sc tg d ρ;iZ (fun ρ s=>st cx F m sc ρ s) body ρ1
theorem dz{tg:Expr}{body:List Stmt}{ρ1:Rho}(h1:fG sc tg d ρ=some ρ1)(h2:blk cx F m sc body ρ1=some fl):fF cx F m sc tg body d ρ=some fl:=by
 have h2':iZ (fun ρ s=>st cx F m sc ρ s) body ρ1=some fl:=h2;simp only[fF,h1];exact h2'
theorem sW{tg iter:Expr}{body:List Stmt}{l:List D}{fl1:Fl}(hI:evI cx (eH tg) (ev cx F sc (frz F iter ρ)) sc iter=some l)(hgo:bG (fF cx F m sc tg body) l (frz F iter ρ)=some fl1)(k2:uw cx F (m+1) sc r fl1=some fl):blk cx F (m+1) sc (.For tg iter body [] p::r) ρ=some fl:=by
 refine gSt ?_ k2;have hgo':bG (fun d ρ=>(fG sc tg d ρ).bind fun ρ1=>iZ (fun ρ s=>st cx F m sc ρ s) body ρ1) l (frz F iter ρ)=some fl1:=hgo;simp only[st,hI,bind,Option.bind_some,hgo']
abbrev cxN(P:Pg)(F k:Nat):Cxt:=⟨P.cst,P.blt,P.defs.map (·.1),P.exs,P.top,true,aY P F k,oh P F k⟩
theorem GK{P:Pg}{k:Nat}:P.cx (d9 P F k)=cxN P F k:=by
 have e1:aY P F k=fun f ds=>Rs.val? (d9 P F k f ds):=by funext f ds;exact gw
 have e2:oh P F k=fun f ds=>Rs.exc? (d9 P F k f ds):=by funext f ds;exact rE
 unfold cxN;rw[e1,e2];rfl
theorem fB{P:Pg}{k:Nat}{f:Str}{fd:Fd}(hf:P.defs.lookup f=some fd)(hl:(ds.length==fd.ps.length)=true)(h:blk (cxN P F k) F F fd.sc fd.body (bY fd ds)=some (.ret d)):aY P F (k+1) f ds=some d:=by
 have h':iZ (fun ρ s=>st (cxN P F k) F F fd.sc ρ s) fd.body (bY fd ds)=some (.ret d):=h;rw[gw];simp only[jG,hf,hl,if_true,ou,GK,h',Rs.val?]
theorem K3{P:Pg}{k:Nat}{f:Str}{fd:Fd}{ρ':Rho}(hf:P.defs.lookup f=some fd)(hl:(ds.length==fd.ps.length)=true)(h:blk (cxN P F k) F F fd.sc fd.body (bY fd ds)=some (.nxt ρ')):aY P F (k+1) f ds=some .non:=by
 have h':iZ (fun ρ s=>st (cxN P F k) F F fd.sc ρ s) fd.body (bY fd ds)=some (.nxt ρ'):=h;rw[gw];simp only[jG,hf,hl,if_true,ou,GK,h',Rs.val?]
def Aw(cx:Cxt)(F m:Nat)(sc:Scope)(l:List Stmt)(ρ:Rho)(c:Str):Prop:=iZ (fun ρ s=>st cx F m sc ρ s) l ρ=none/\∃ ρ',fV (fun ρ s=>st cx F m sc ρ s) (fun ρ s=>stx cx F m sc ρ s) l ρ=some (c,ρ')
theorem Cv{P:Pg}{k:Nat}{f:Str}{fd:Fd}{c:Str}(hf:P.defs.lookup f=some fd)(hl:(ds.length==fd.ps.length)=true)(h:Aw (cxN P F k) F F fd.sc fd.body (bY fd ds) c):oh P F (k+1) f ds=some c/\aY P F (k+1) f ds=none:=by
 obtain⟨h1,ρ',h2⟩:=h;rw[rE,gw];simp only[jG,hf,hl,if_true,ou,GK,h1,h2,Rs.exc?,Rs.val?];trivial
theorem Av{s:Stmt}{ρ1:Rho}{c:Str}(h1:st cx F m sc ρ s=some (.nxt ρ1))(h2:Aw cx F m sc r ρ1 c):Aw cx F m sc (s::r) ρ c:=by
 obtain⟨h3,ρ',h4⟩:=h2;refine⟨?_,ρ',?_⟩
 ·show(st cx F m sc ρ s).bind _=_
  rw[h1];exact h3
 ·simp only[fV,h1];exact h4
theorem rF{s:Stmt}{ρ1:Rho}{c:Str}(h1:st cx F m sc ρ s=none)(h2:stx cx F m sc ρ s=some (c,ρ1)):Aw cx F m sc (s::r) ρ c:=by
 refine⟨?_,ρ1,?_⟩
 ·show(st cx F m sc ρ s).bind _=_
  rw[h1];rfl
 ·simp only[fV,h1];exact h2
theorem qd{A B:List Stmt}{cn:Str}{np p1 cpos rp:Pos}{txt:Str}{j:Nat}(h:ev cx F sc (frz F c ρ) c=some (.bl true))(hr:(cx.rs&&lQ cx sc cn&&cx.exs.contains cn&&aq cn)=true) :
  Aw cx F (m+2) sc (.If c (.Raise (some (.Call (.Name cn np) [.Constant (.str txt) j p1] [] cpos)) none rp::A) B p::r) ρ cn:=by
 refine rF (ρ1:=frz F c ρ) ?_ ?_
 ·simp only[st,h,bind,Option.bind_some,asB,if_true]
  rfl
 ·simp only[stx,h,Option.bind_some,asB,if_true,fV]
  simp only[st,if_pos hr]
theorem K4{cn:Str}(hx:mR e=true)(h:ev cx F sc (frz F e ρ) e=none)(h2:evx cx F sc (frz F e ρ) e=some cn):Aw cx F (m+1) sc (.Expr e p::r) ρ cn:=by
 refine rF (ρ1:=frz F e ρ) ?_ ?_
 ·unfold mR at hx
  split at hx
  ·simp only[st,h,Option.map_none]
  ·cases hx
 ·unfold mR at hx
  split at hx
  ·simp only[stx,aQ,Bool.false_eq_true,if_false,h2,Option.map_some]
  ·cases hx
theorem mW{c:Str}(hf:(isFn cx sc nm es&&es.all aD)=true)(h1:jO (ev cx n sc ρ) es=some ds)(h:cx.callx nm ds=some c)(h0:cx.call nm ds=none):evx cx (n+1) sc ρ (.Call (.Name nm q) es [] p)=some c/\ev cx (n+1) sc ρ (.Call (.Name nm q) es [] p)=none:=by
 unfold isFn at hf;simp only[Bool.and_eq_true] at hf;obtain⟨⟨⟨⟨h2,h3⟩,h4⟩,h5⟩,h6⟩:=hf
 have h3':cx.blt.lookup nm=none:=by simpa using h3
 constructor
 ·simp only[evx,h2,h5,h6,h4,Bool.and_self,if_true,h1,h]
 ·simp only[ev,h2,h3',if_true,h4,h5,Bool.and_self,h1,bind,Option.bind_some,h0]
end
end DE
namespace DE
open PySem
abbrev row(n:Nat)(f:Nat->Int):D:=.tup (Ls n fun j=>.int (f j))
abbrev tbl(m n:Nat)(f:Nat->Nat->Int):D:=.tup (Ls m fun i=>.tup (Ls n fun j=>.int (f i j)))
def uE:Nat->(Nat->Int)->Int
 | 0,_=>0
 | n+1,f=>uE n f+f n
theorem G4{f:Nat->Int}:∀ {n:Nat},fU (Ls n fun i=>D.int (f i))=some (Ls n f):=by
 have key:∀ l:List Nat,fU (l.map fun i=>D.int (f i))=some (l.map f):=by
  intro l
  induction l with
  | nil=>rfl
  | cons a r ih=>simp only[List.map_cons,fU,ih];rfl
 intro n;exact key _
theorem Bf{f:Nat->Int}:∀ {n:Nat},(Ls n f).sum=uE n f
 | 0=>rfl
 | n+1=>by rw[jH,List.sum_append,Bf];simp[uE]
theorem G3{n:Nat}{h:Nat->D}:blt "len" [.tup (Ls n h)]=some (.int (n:Int)):=by
 show some (D.int ((Ls n h).length:Int))=_;rw[bF]
theorem RK{n:Nat}{f:Nat->Int}:blt "sum" [.lst (Ls n fun i=>.int (f i))]=some (.int (uE n f)):=by
 show(fU (Ls n fun i=>D.int (f i))).bind (fun is=>some (D.int is.sum))=_;rw[G4,Option.bind_some,Bf]
theorem xY{l:List D}:blt "tuple" [.lst l]=some (.tup l):=rfl
theorem jL{n:Nat}(h:n<=100000):szl n=true:=by unfold szl;exact decide_eq_true h
theorem kE{α:Type}{n:Nat}{h:Nat->α}(hn:n<=100000):szl (Ls n h).length=true:=by rw[bF];exact jL hn
theorem Qu{n:Nat}(h:n<=100000):bZ (n:Int)=true:=by
 unfold bZ;rw[decide_eq_true (by omega),decide_eq_true (by omega)];rfl
theorem oLe{i j:Int}(h:i<=j):cmpop .LtE (.int i) (.int j)=some (.bl true):=by
 show some (D.bl (decide (i<=j)))=_;rw[decide_eq_true h]
theorem oLt{i j:Int}(h:i<j):cmpop .Lt (.int i) (.int j)=some (.bl true):=by
 show some (D.bl (decide (i<j)))=_;rw[decide_eq_true h]
theorem Qx{i j:Int}(h:¬ i<j):cmpop .Lt (.int i) (.int j)=some (.bl false):=by
 show some (D.bl (decide (i<j)))=_;rw[decide_eq_false h]
theorem SN{i j:Int}(h:i=j):cmpop .Eq (.int i) (.int j)=some (.bl true):=by
 subst h;show some (D.bl (i==i))=_;rw[beq_self_eq_true]
theorem Qz{i j:Int}(h:i≠j):cmpop .Eq (.int i) (.int j)=some (.bl false):=by
 show some (D.bl (i==j))=_;rw[beq_eq_false_iff_ne.mpr h]
theorem Hh{i j:Int}(h:i=j):cmpop .NotEq (.int i) (.int j)=some (.bl false):=by
 subst h;show some (D.bl (!(i==i)))=_;rw[beq_self_eq_true];rfl
theorem xJ{i j:Int}(h:small i=true\/small j=true):binop .Mult (.int i) (.int j)=some (.int (i*j)):=by
 show(if(small i||small j||(mid i&&mid j))=true then _ else _)=_;rw[if_pos (by rw[Bool.or_eq_true,Bool.or_eq_true];exact .inl h)]
theorem Ho{i j:Int}(h:0<j):binop .Mod (.int i) (.int j)=some (.int (i%j)):=by
 show(if decide (0<j)=true then _ else _)=_;rw[if_pos (decide_eq_true h)]
theorem Uc{i j:Int}(h:0<j)(h':j<1073741824):binop .FloorDiv (.int i) (.int j)=some (.int (i / j)):=by
 show(if(decide (0<j)&&decide (j<1073741824))=true then _ else _)=_;rw[if_pos (by rw[decide_eq_true h,decide_eq_true h'];rfl)]
mutual
theorem wI:∀ d:D,dep d<1000->deq d d=true
 | .non,_=>rfl
 | .bl b,_=>by simp[deq]
 | .int i,_=>by simp[deq]
 | .str x,_=>by simp[deq]
 | .tup xs,h=>by simp only[deq];exact mj xs (by simp only[dep] at h;omega)
 | .lst xs,h=>by simp only[deq];exact mj xs (by simp only[dep] at h;omega)
 | .exc c,h=>absurd h (by simp[dep])
 | .dic _ _,h=>absurd h (by simp[dep])
theorem mj:∀ ds:List D,deps ds<1000->nT ds ds=true
 | [],_=>rfl
 | d::ds,h=>by
  simp only[deps] at h;simp only[nT,wI d (by omega),mj ds (by omega),Bool.and_self]
end
theorem oEq{x y:D}(h1:dep x<=50)(h2:dep y<=50):cmpop .Eq x y=some (.bl (deq x y)):=by
 show(if(decide (dep x<=50)&&decide (dep y<=50))=true then some (D.bl (deq x y)) else none)=_;rw[decide_eq_true h1,decide_eq_true h2];rfl
theorem oNe{x y:D}(h1:dep x<=50)(h2:dep y<=50):cmpop .NotEq x y=some (.bl (!deq x y)):=by
 show(if(decide (dep x<=50)&&decide (dep y<=50))=true then some (D.bl (!deq x y)) else none)=_;rw[decide_eq_true h1,decide_eq_true h2];rfl
theorem cZ{b:Nat}:∀ {l:List D},(∀ d∈l,dep d<=b)->deps l<=b
 | [],_=>Nat.zero_le _
 | d::r,h=>by
  simp only[deps];exact Nat.max_le.mpr ⟨h d List.mem_cons_self,cZ fun e he=>h e (List.mem_cons_of_mem _ he)⟩
theorem dep_row{n:Nat}{f:Nat->Int}:dep (row n f)<=1:=by
 simp only[dep]
 have:=cZ (b:=0) (l:=Ls n fun j=>D.int (f j)) fun d hd=>by
  unfold Ls at hd;obtain⟨i,_,rfl⟩:=List.mem_map.mp hd;simp[dep]
 omega
theorem wK{m n:Nat}{f:Nat->Nat->Int}:dep (tbl m n f)<=2:=by
 simp only[dep]
 have:=cZ (b:=1) (l:=Ls m fun i=>D.tup (Ls n fun j=>D.int (f i j))) fun d hd=>by
  unfold Ls at hd;obtain⟨i,_,rfl⟩:=List.mem_map.mp hd;exact dep_row (f:=f i)
 omega
section
variable {cx:Cxt} {n:Nat} {sc scope:Scope} {ρ:Rho} {a b c e:Expr} {es:List Expr} {p q:Pos} {x y z d:D} {ds:List D} {nm:Str}
theorem Hx{tup:Bool}{j:Nat}(hw:oW cx sc e=.r1 a)(h1:ev cx n sc ρ a=some (.int (j:Int)))(hz:j<=100000):evI cx tup (ev cx n sc ρ) sc e=some (Ls j fun k=>.int (k:Int)):=by
 rw[wR1 hw h1 (Qu hz),uV]
theorem RW{m:Nat}{h g:Nat->D}(hw:oW cx sc e=.zp a b)(h1:ev cx n sc ρ a=some (.tup (Ls m h)))(h2:ev cx n sc ρ b=some (.tup (Ls m g))):evI cx true (ev cx n sc ρ) sc e=some (Ls m fun i=>.tup [h i,g i]):=by
 rw[wZp hw h1 h2,Kp,j6]
theorem xV{tup:Bool}{xs:List D}(hw:oW cx sc e=.sq)(h1:ev cx n sc ρ e=some (.tup xs)):evI cx tup (ev cx n sc ρ) sc e=some xs:=wSq hw h1 rfl
theorem G9{m j:Nat}{h:Nat->D}(h1:ev cx n sc ρ a=some (.tup (Ls m h)))(h2:ev cx n sc ρ b=some (.int (j:Int)))(hj:j<m)(hs:aD b=true)(hd:h j=d):ev cx (n+1) sc ρ (.Subscript a b p)=some d:=hd▸xIx h1 h2 rfl (oJ hj) hs
theorem Ku{m:Nat}{h:Nat->D}(h1:ev cx n sc ρ a=some (.tup (Ls m h)))(h2:ev cx n sc ρ b=some (.int 0))(hj:0<m)(hs:aD b=true)(hd:h 0=d):ev cx (n+1) sc ρ (.Subscript a b p)=some d:=hd▸xIx h1 h2 rfl (oJ (j:=0) hj) hs
end
section
variable {cx:Cxt} {n:Nat} {sc scope:Scope} {ρ:Rho} {a b c e:Expr} {es:List Expr} {p q:Pos} {x y z d:D} {ds:List D} {nm:Str}
end
theorem Ke{m:Nat}{h:Nat->D}:enD (Ls m h)=Ls m fun i=>.tup [.int (i:Int),h i]:=by
 apply List.ext_getElem?;intro i;unfold enD;rw[List.getElem?_map,List.getElem?_zipIdx]
 by_cases hi:i<m
 ·rw[fH hi,fH hi];simp
 ·rw[List.getElem?_eq_none (by rw[bF];omega),List.getElem?_eq_none (by rw[bF];omega)];rfl
theorem Qo{cx:Cxt}{n:Nat}{sc:Scope}{ρ:Rho}{a e:Expr}{m:Nat}{h:Nat->D}(hw:oW cx sc e=.en a)(h1:ev cx n sc ρ a=some (.tup (Ls m h))):evI cx true (ev cx n sc ρ) sc e=some (Ls m fun i=>.tup [.int (i:Int),h i]):=by
 rw[wEn hw h1,Ke]
end DE
namespace DE
open PySem
theorem Hj{i j:Int}(h:¬ i<=j):cmpop .LtE (.int i) (.int j)=some (.bl false):=by
 show some (D.bl (decide (i<=j)))=_;rw[decide_eq_false h]
theorem Qy{i j:Int}:cmpop .Lt (.int i) (.int j)=some (.bl (decide (i<j))):=rfl
theorem SM{i j:Int}:cmpop .LtE (.int i) (.int j)=some (.bl (decide (i<=j))):=rfl
section
variable {cx:Cxt} {n:Nat} {sc scope:Scope} {ρ:Rho} {a b c e:Expr} {es:List Expr} {p q:Pos} {x y z d:D} {ds:List D} {nm:Str} {F m:Nat} {r:List Stmt} {fl:Fl} {op op':CmpOp}
theorem Cz(h1:ev cx n sc ρ a=some x)(h2:ev cx n sc ρ b=some y)(h:cmpop op x y=some (.bl false))(hp:aD c=true:=by rfl):ev cx (n+1) sc ρ (.Compare a [op,op'] [b,c] p)=some (.bl false):=by
 simp only[ev,hp,Bool.not_true,Bool.false_eq_true,if_false,h1,h2,bind,Option.bind_some,h,asB]
theorem Qc{px ap cp:Pos}{M:Str}{ds zs:List D}(hx:(frz F e ρ).lookup nm=some (.ow ds))(ho:(ownIn sc nm&&aq nm&&ap.endLine==cp.line)=true)(hM:(M=="append")=false)(hM2:(M=="extend")=true)(hz:szl (ds.length+zs.length)=true)(h:ev cx F sc (frz F e ρ) e=some (.tup zs))(k:blk cx F (m+1) sc r (bW (frz F e ρ) nm (.ow (ds++zs)))=some fl) :
  blk cx F (m+1) sc (.Expr (.Call (.Attribute (.Name nm px) M ap) [e] [] cp) p::r) ρ=some fl:=by
 refine gSt (fl1:=.nxt _) ?_ k;simp only[st,hx,ho,hM,hM2,Bool.false_and,Bool.false_eq_true,if_false,if_true,h,bind,Option.bind_some,hz]
end
section
variable {cx:Cxt} {n:Nat} {sc scope:Scope} {ρ:Rho} {a b c e:Expr} {es:List Expr} {p q:Pos} {x y z d:D} {ds:List D} {nm:Str} {F m:Nat} {r:List Stmt} {fl:Fl}
theorem PX{body o f:List Stmt}{hs:List ExceptHandler}{t:Str×Str×Str}{fl1:Fl}(ht:rP hs o f=some t)(h:blk cx F m sc body ρ=some fl1)(k:uw cx F (m+1) sc r fl1=some fl):blk cx F (m+1) sc (.Try body hs o f p::r) ρ=some fl:=by
 obtain⟨t1,t2,t3⟩:=t;refine gSt ?_ k;have h':iZ (fun ρ s=>st cx F m sc ρ s) body ρ=some fl1:=h;simp only[st,ht,h']
theorem PN{body o f:List Stmt}{hs:List ExceptHandler}{t e1 kn c':Str}{ρ':Rho}(ht:rP hs o f=some (t,e1,kn))(h1:iZ (fun ρ s=>st cx F m sc ρ s) body ρ=none)(h2:fV (fun ρ s=>st cx F m sc ρ s) (fun ρ s=>stx { cx with rs:=false } F m sc ρ s) body ρ=some (c',ρ'))
  (hc:(lQ cx sc t&&t==cx.top&&cx.exs.contains c'&&e1 !=kn&&aq e1&&sc.names.lookup e1==some .local&&sc.names.lookup kn==some .local&&(ρ.map (·.1)).contains e1&&(ρ.map (·.1)).contains kn&&aq t)=true)
  (k:blk cx F (m+1) sc r (bW (bW ρ' kn (.sh (.exc c'))) e1 .no)=some fl):blk cx F (m+1) sc (.Try body hs o f p::r) ρ=some fl:=by
 refine gSt (fl1:=.nxt _) ?_ k;simp only[st,ht,h1,h2,if_pos hc]
end
section
variable {cx:Cxt} {n:Nat} {sc scope:Scope} {ρ:Rho} {a b c e:Expr} {p q:Pos}
theorem K7{us:List D}{i:Nat}(h1:ev cx n sc ρ a=some (.tup us))(h2:ev cx n sc ρ b=some (.int (i:Int)))(hi:i<us.length):ev cx (n+1) sc ρ (.Subscript a (.Slice none (some b) none q) p)=some (.tup (us.take i)):=by
 have e1:kY us.length us.length (some (i:Int))=i:=by unfold kY;simp only;rw[if_neg (by omega)];omega
 rw[xSl h1 Ey (Ew h2)]
 ·unfold oR
  rw[e1];show some (D.tup ((us.drop 0).take (i-0)))=_;rw[List.drop_zero,Nat.sub_zero]
 ·rw[e1]
  have:(i==us.length)=false:=by rw[beq_eq_false_iff_ne];omega
  rw[this,Bool.and_false]
theorem j8{us:List D}{i:Nat}(h1:ev cx n sc ρ a=some (.tup us))(h2:ev cx n sc ρ b=some (.int (i:Int)))(h0:0<i)(hi:i<=us.length):ev cx (n+1) sc ρ (.Subscript a (.Slice (some b) none none q) p)=some (.tup (us.drop i)):=by
 have e1:kY us.length 0 (some (i:Int))=i:=by unfold kY;simp only;rw[if_neg (by omega)];omega
 rw[xSl h1 (Ew h2) Ey]
 ·unfold oR
  rw[e1];show some (D.tup ((us.drop i).take (us.length-i)))=_;rw[List.take_of_length_le (by rw[List.length_drop];omega)]
 ·rw[e1]
  have:(i==0)=false:=by rw[beq_eq_false_iff_ne];omega
  rw[this,Bool.false_and]
end
theorem gJ{x:D}:∀ {l:List D},x∈l->dep x<=deps l
 | y::l,h=>by
  simp only[deps];rcases List.mem_cons.mp h with rfl | h
  ·omega
  ·have:=gJ h;omega
theorem xK{us vs:List D}(h:us.length+vs.length<=100000):binop .Add (.tup us) (.tup vs)=some (.tup (us++vs)):=by
 show(if szl (us.length+vs.length)=true then _ else _)=_;rw[if_pos (jL h)]
theorem wM{us vs:List D}{b:Nat}(h1:deps us<=b)(h2:deps vs<=b):deps (us++vs)<=b:=by
 induction us with
 | nil=>exact h2
 | cons x r ih =>
  simp only[deps] at h1;simp only[List.cons_append,deps];have:=ih (by omega);omega
theorem Ah{us:List D}{b i:Nat}(h:deps us<=b):deps (us.take i)<=b:=cZ fun d hd=>Nat.le_trans (gJ (List.mem_of_mem_take hd)) h
theorem Ai{us:List D}{b i:Nat}(h:deps us<=b):deps (us.drop i)<=b:=cZ fun d hd=>Nat.le_trans (gJ (List.mem_of_mem_drop hd)) h
theorem cI{f:D->Option (Option D)}{g:D->D}:∀ {l:List D},(∀ x∈l,f x=some (some (g x)))->bB f l=some (l.map g)
 | [],_=>rfl
 | x::l,h=>by
  simp only[bB,h x List.mem_cons_self,bind,Option.bind_some,cI (l:=l) fun y hy=>h y (List.mem_cons_of_mem _ hy),Option.map_some,List.map_cons]
theorem Ax{l:List D}{t:D->Bool}:blt "all" [.lst (l.map fun x=>.bl (t x))]=some (.bl (l.all t)):=by
 have key:∀ l:List D,oK (l.map fun x=>.bl (t x))=some (l.map t):=by
  intro l
  induction l with
  | nil=>rfl
  | cons a r ih=>simp only[List.map_cons,oK,ih];rfl
 show(oK (l.map fun x=>.bl (t x))).bind (fun bs=>some (D.bl (bs.all id)))=_;rw[key,Option.bind_some,List.all_map];rfl
theorem ju{f:D->Rho->Option Fl}{ok:D->Bool}{P:Rho->Prop}{r:D}:∀ {l:List D} {ρ:Rho},P ρ->(∀ x∈l,∀ ρ,P ρ->(ok x=true->∃ ρ',P ρ'/\f x ρ=some (.nxt ρ'))/\(ok x=false->f x ρ=some (.ret r))) ->
  (l.all ok=true->∃ ρ',P ρ'/\bG f l ρ=some (.nxt ρ'))/\(l.all ok=false->bG f l ρ=some (.ret r))
 | [],ρ,hP,_=>⟨fun _=>⟨ρ,hP,rfl⟩,fun h=>absurd h (by simp)⟩
 | x::l,ρ,hP,h=>by
  obtain⟨h1,h2⟩:=h x List.mem_cons_self ρ hP
  cases ho:ok x with
  | true =>
   obtain⟨ρ',hP',e⟩:=h1 ho;obtain⟨i1,i2⟩:=ju (l:=l) hP' fun y hy=>h y (List.mem_cons_of_mem _ hy);simp only[List.all_cons,ho,Bool.true_and];refine⟨fun q=>?_,fun q=>?_⟩
   ·obtain⟨ρ2,h3,h4⟩:=i1 q
    exact⟨ρ2,h3,by simp only[bG,e];exact h4⟩
   ·simp only[bG,e];exact i2 q
  | false =>
   simp only[List.all_cons,ho,Bool.false_and];refine⟨fun q=>absurd q (by decide),fun _=>?_⟩;simp only[bG,h2 ho];rfl
theorem nP{f:D->Rho->Option Fl}{R:List D->Rho}{whole:List D}(h:∀ pre x post,pre++x::post=whole->f x (R pre)=some (.nxt (R (pre++[x])))):∀ {l pre:List D},pre++l=whole->bG f l (R pre)=some (.nxt (R whole))
 | [],pre,e=>by rw[List.append_nil] at e;rw[e];rfl
 | x::l,pre,e=>by
  simp only[bG,h pre x l e];exact nP h (l:=l) (pre:=pre++[x]) (by rw[List.append_assoc];exact e)
def FN:List D->Sl
 | []=>.no
 | x::r=>.sh (r.getLastD x)
theorem sU:∀ (l:List D) (x:D),FN (l++[x])=.sh x
 | [],x=>rfl
 | y::l,x=>by
  show Sl.sh ((l++[x]).getLastD y)=_;simp
theorem KJ{x:D}(h:dep x<1000):isExc x=false:=by cases x<;>first | rfl | exact absurd h (by simp[dep])
def nOw:Sl->Bool
 | .ow _=>false
 | .oo _=>false
 | _=>true
def jE(ρ:Rho):Bool:=ρ.all fun p=>nOw p.2
theorem gZ{F:Nat}{e:Expr}{ρ:Rho}(h:jE ρ=true):frz F e ρ=ρ:=by
 unfold frz
 conv=>rhs;rw[<- List.map_id ρ]
 apply List.map_congr_left;intro p hp;have:=List.all_eq_true.mp h p hp;obtain⟨x,s⟩:=p
 cases s<;>first | rfl | simp[nOw] at this
theorem wQ{ρ:Rho}{x:Str}(h:jE ρ=true):jU ρ x=true:=by
 unfold jU;rw[List.all_eq_true];intro p hp;have:=List.all_eq_true.mp h p hp;obtain⟨y,s⟩:=p
 cases s<;>first | (simp[nOw] at this;done) | simp[KY]
section
variable {cx:Cxt} {sc:Scope} {ρ:Rho} {c e:Expr} {p:Pos} {d:D} {nm:Str} {F m:Nat} {r:List Stmt} {fl:Fl}
theorem Ub{px:Pos}(hc:jE ρ=true)(ho:(ownIn sc nm&&(ρ.map (·.1)).contains nm)=true)(h:ev cx F sc ρ e=some d)(k:blk cx F (m+1) sc r (bW ρ nm (jM e d))=some fl)(hoo:(ooE cx sc e&&sO ρ nm)=false:=by rfl)(hle:zE cx sc e=false:=by rfl)(hrd:rdA e=false:=by rfl):blk cx F (m+1) sc (.Assign [.Name nm px] e p::r) ρ=some fl:=by
 refine gj ho (by rw[gZ hc];exact h) ?_ (by rw[gZ hc];exact hoo) (by rw[gZ hc,wQ hc];simp) hle hrd
 rw[gZ hc];exact k
theorem nA(h:aQ e=false):ooE cx sc e=false:=by
 cases e<;>first | rfl | exact absurd h (by simp[aQ])
theorem mZ(h:aQ e=false):jM e d=.sh d:=by
 unfold jM;split
 ·rw[h];rfl
 ·rfl
theorem iG{px:Pos}{ρ':Rho}(hf:frz F e ρ=ρ')(ho:(ownIn sc nm&&(ρ.map (·.1)).contains nm)=true)(hfr:aQ e=false)(h:ev cx F sc ρ' e=some d)(k:blk cx F (m+1) sc r (bW ρ' nm (.sh d))=some fl)(hle:zE cx sc e=false:=by rfl)(hrd:rdA e=false:=by rfl):blk cx F (m+1) sc (.Assign [.Name nm px] e p::r) ρ=some fl:=by
 refine gj ho (by rw[hf];exact h) ?_ (by rw[nA hfr];rfl) (by rw[hfr];rfl) hle hrd
 rw[hf,mZ hfr];exact k
theorem zU{y:Str}{s:Sl}{ρ:Rho}:frz F e ((y,s)::ρ)=(match s with | .ow ds=>if dR F y e then(y,.sh (.lst ds)) else(y,.ow ds) | .oo dss=>if dR F y e then(y,.sh (.lst (dss.map .lst))) else(y,.oo dss) | s=>(y,s))::frz F e ρ:=by
 cases s<;>rfl
theorem zV{y:Str}{s:Sl}{ρ:Rho}(h:nOw s=true):frz F e ((y,s)::ρ)=(y,s)::frz F e ρ:=by
 cases s<;>first | rfl | simp[nOw] at h
theorem Gf{y:Str}{ds:List D}{ρ:Rho}(h:dR F y e=true):frz F e ((y,.ow ds)::ρ)=(y,.sh (.lst ds))::frz F e ρ:=by
 show(if dR F y e=true then _ else _)::_=_;rw[if_pos h];rfl
theorem Kg{px:Pos}(hc:jE ρ=true)(ho:(ownIn sc nm&&(ρ.map (·.1)).contains nm)=true)(hfr:aQ e=false)(h:ev cx F sc ρ e=some d)(k:blk cx F (m+1) sc r (bW ρ nm (.sh d))=some fl)(hle:zE cx sc e=false:=by rfl)(hrd:rdA e=false:=by rfl):blk cx F (m+1) sc (.Assign [.Name nm px] e p::r) ρ=some fl:=Ub hc ho h (by rw[mZ hfr];exact k) (by rw[nA hfr];rfl) hle hrd
theorem RG(hc:jE ρ=true)(h:ev cx F sc ρ e=some d):blk cx F (m+1) sc (.Return (some e) p::r) ρ=some (.ret d):=dU (by rw[gZ hc];exact h)
end
end DE
namespace DE
open PySem
theorem K5{cx:Cxt}{F m:Nat}{sc:Scope}{ρ:Rho}{e:Expr}{p:Pos}{r:List Stmt}{d:D}{cn:Str}(hx:mR e=true)(h:ev cx F sc (frz F e ρ) e=some d)(h2:Aw cx F (m+1) sc r (frz F e ρ) cn):Aw cx F (m+1) sc (.Expr e p::r) ρ cn:=by
 refine Av ?_ h2;unfold mR at hx;split at hx
 ·simp only[st,h,Option.map_some]
 ·cases hx
theorem K6{cx:Cxt}{F m:Nat}{sc:Scope}{ρ:Rho}{e:Expr}{p:Pos}{r:List Stmt}{cn:Str}(hx:mR e=true)(h:evx cx F sc (frz F e ρ) e=some cn/\ev cx F sc (frz F e ρ) e=none):Aw cx F (m+1) sc (.Expr e p::r) ρ cn:=K4 hx h.2 h.1
theorem Sx{a b:Nat}:cmpop .NotEq (.int (a:Int)) (.int (b:Int))=some (.bl (decide (a≠b))):=by
 rw[oNe (by simp[dep]) (by simp[dep])]
 by_cases h:a=b
 ·subst h;simp[deq]
 ·simp[deq,h];omega
def RXs(cx:Cxt)(F m:Nat)(sc:Scope)(s:Stmt)(ρ:Rho)(c:Str)(ρ':Rho):Prop:=st cx F m sc ρ s=none/\st { cx with rs:=false } F m sc ρ s=none/\stx { cx with rs:=false } F m sc ρ s=some (c,ρ')
theorem Bh{cx:Cxt}{F m:Nat}{sc:Scope}{ρ:Rho}{e:Expr}{p px:Pos}{nm c:Str}(hc:jE ρ=true)(hfr:aQ e=false)(h:ev cx F sc ρ e=none)(h2:evx { cx with rs:=false } F sc ρ e=some c/\ev { cx with rs:=false } F sc ρ e=none):RXs cx F (m+1) sc (.Assign [.Name nm px] e p) ρ c ρ:=by
 refine⟨?_,?_,?_⟩
 ·simp only[st,gZ hc,h,Option.map_none,Option.bind_none,ite_self]
 ·simp only[st,gZ hc,h2.2,Option.map_none,Option.bind_none,ite_self]
 ·simp only[stx,gZ hc,hfr,Bool.false_eq_true,if_false,h2.1,Option.map_some]
theorem J3{cx:Cxt}{F m:Nat}{sc:Scope}{ρ ρ':Rho}{p:Pos}{s:Stmt}{r o f:List Stmt}{hs:List ExceptHandler}{t e1 kn c':Str}{fl:Fl}(ht:rP hs o f=some (t,e1,kn))(h:RXs cx F m sc s ρ c' ρ')
  (hc:(lQ cx sc t&&t==cx.top&&cx.exs.contains c'&&e1 !=kn&&aq e1&&sc.names.lookup e1==some .local&&sc.names.lookup kn==some .local&&(ρ.map (·.1)).contains e1&&(ρ.map (·.1)).contains kn&&aq t)=true)
  (k:blk cx F (m+1) sc r (bW (bW ρ' kn (.sh (.exc c'))) e1 .no)=some fl):blk cx F (m+1) sc (.Try [s] hs o f p::r) ρ=some fl:=by
 obtain⟨k1,k2,k3⟩:=h;refine PN ht ?_ ?_ hc k
 ·simp only[iZ,k1,bind,Option.bind_none]
 ·simp only[fV,k1,k3]
theorem Qw{d:D}(h:dep d<=50):cmpop .NotEq d d=some (.bl false):=by
 rw[oNe h h,wI d (by omega)];rfl
theorem BR{cx:Cxt}{sc:Scope}{ρ ρ':Rho}{p:Pos}{F m:Nat}{r A:List Stmt}{c:Expr}{fl:Fl}(hf:frz F c ρ=ρ')(h:ev cx F sc ρ' c=some (.bl false))(k:blk cx F (m+1) sc r ρ=some fl):blk cx F (m+1) sc (.If c A [] p::r) ρ=some fl:=qT (hf▸h) k
theorem Qa{cx:Cxt}{sc:Scope}{ρ ρ' ρ2:Rho}{p:Pos}{F m:Nat}{r A B:List Stmt}{c:Expr}{fl:Fl}(hf:frz F c ρ=ρ')(h:ev cx F sc ρ' c=some (.bl true))(k:blk cx F m sc A ρ=some (.nxt ρ2))(k2:blk cx F (m+1) sc r ρ2=some fl):blk cx F (m+1) sc (.If c A B p::r) ρ=some fl:=mL (fl1:=.nxt ρ2) (hf▸h) k k2
def asV:Stmt->Expr
 | .Assign _ e _=>e
 | _=>.Name "" ⟨0,0,0,0⟩
def ifX:Stmt->Expr
 | .If c _ _ _=>c
 | _=>.Name "" ⟨0,0,0,0⟩
theorem nY{α:Type}{f:D->Option (Option D)}{h g:α->D}:∀ {l:List α},(∀ x∈l,f (h x)=some (some (g x)))->bB f (l.map h)=some (l.map g)
 | [],_=>rfl
 | x::l,q=>by
  simp only[List.map_cons,bB,q x List.mem_cons_self,bind,Option.bind_some,nY (l:=l) fun y hy=>q y (List.mem_cons_of_mem _ hy),Option.map_some]
def upd(f:Nat->Nat->Int)(a b:Nat)(v:Int):Nat->Nat->Int:=fun i j=>if i=a then(if j=b then v else f i j) else f i j
end DE
namespace DE
open PySem
end DE
namespace DE
open PySem
end DE
namespace DE
open PySem
section
variable {cx:Cxt} {sc:Scope} {ρ ρ' ρ2:Rho} {e:Expr} {p:Pos} {d:D} {nm:Str} {F m:Nat} {r:List Stmt} {fl:Fl} {ds:List D}
theorem dh{y:Str}{s:Sl}(h:nOw s=true)(r:jE ρ=true):jE ((y,s)::ρ)=true:=by
 unfold jE at r ⊢;rw[List.all_cons,h,r];rfl
theorem pO{tg iter:Expr}{body:List Stmt}{l:List D}(hf:frz F iter ρ=ρ')(hI:evI cx (eH tg) (ev cx F sc ρ') sc iter=some l)(hgo:bG (fF cx F m sc tg body) l ρ'=some (.nxt ρ2))(k2:blk cx F (m+1) sc r ρ2=some fl):blk cx F (m+1) sc (.For tg iter body [] p::r) ρ=some fl:=by
 subst hf;exact sW hI hgo k2
theorem zQ{px:Pos}(hf:frz F e ρ=ρ')(ho:(ownIn sc nm&&(ρ.map (·.1)).contains nm)=true)(h:ev cx F sc ρ' e=some d)(k:blk cx F (m+1) sc r (bW ρ' nm (jM e d))=some fl)(hoo:(ooE cx sc e&&sO ρ' nm)=false:=by rfl)(hno:(aQ e && !jU ρ' nm)=false:=by rfl)(hle:zE cx sc e=false:=by rfl)(hrd:rdA e=false:=by rfl):blk cx F (m+1) sc (.Assign [.Name nm px] e p::r) ρ=some fl:=by
 subst hf;exact gj ho h k hoo hno hle hrd
theorem Ge{px ap cp:Pos}{M:Str}(hf:frz F e ρ=ρ')(hx:ρ'.lookup nm=some (.ow ds))(ho:(ownIn sc nm&&aq nm&&ap.endLine==cp.line)=true)(hM:(M=="append")=true)(hz:szl (ds.length+1)=true)(h:ev cx F sc ρ' e=some d)(k:blk cx F (m+1) sc r (bW ρ' nm (.ow (ds++[d])))=some fl) :
  blk cx F (m+1) sc (.Expr (.Call (.Attribute (.Name nm px) M ap) [e] [] cp) p::r) ρ=some fl:=by
 subst hf;exact RB hx ho hM hz h k
theorem mQ{y:Str}(h:dR F y e=false)(q:frz F e ρ=ρ'):frz F e ((y,.ow ds)::ρ)=(y,.ow ds)::ρ':=by
 rw[zU,q];simp only[h,Bool.false_eq_true,if_false]
theorem J4{y:Str}(h:dR F y e=true)(q:frz F e ρ=ρ'):frz F e ((y,.ow ds)::ρ)=(y,.sh (.lst ds))::ρ':=by rw[Gf h,q]
end
end DE
namespace M60
open PySem L2 DE
def top(i:Nat):Stmt:=PySem.Challenge.pw_minortables_k60_whole_signs.main.body.getD i (.Pass ⟨0,0,0,0⟩)
def bf(t:Stmt):Fd:=⟨(dH t).args.map (·.arg),(dH t).args.map (·.arg)++(((aX t).names.filter fun p=>(p.2==.local||p.2==.cell) && !((dH t).args.map (·.arg)).contains p.1).map (·.1)),aX t,bN t⟩
def cs:List (Str×D):=[("MOST_LINES",.int 4)]
noncomputable def bl:List (Str×String):=[("len","len"),("all","all"),("sum","sum"),("tuple","tuple"),("list","list"),("min","min"),("max","max"),("abs","abs"),("int","int"),("bool","bool"),("isinstance","isinstance"),("range","range"),("zip","zip"),("enumerate","enumerate"),("set","set"),("sorted","sorted"),("ValueError","ValueError")]
def df:List (Str×Fd):=[(("is_whole":Str),bf (top 10)),(("is_short_tuple":Str),bf (top 11)),(("has_lines":Str),bf (top 12)),(("numbers_of":Str),bf (top 13)),(("has_table_form":Str),bf (top 14)),(("need_table":Str),bf (top 15)),(("row_by_column":Str),bf (top 17)),(("rows_out_of":Str),bf (top 18)),(("least_changes":Str),bf (top 20)),(("changes_behind":Str),bf (top 21)),(("most_changes":Str),bf (top 22)),(("led":Str),bf (top 23)),(("all_rows":Str),bf (top 24)),(("_law_cell":Str),bf (top 26)),(("_law_pick":Str),bf (top 27)),(("_law_table":Str),bf (top 28)),(("_law_times":Str),bf (top 30)),(("_law_places":Str),bf (top 35)),(("_law_put":Str),bf (top 36)),(("_law_spoilt_thing":Str),bf (top 37)),(("_law_is_table":Str),bf (top 38)),(("_law_word":Str),bf (top 39)),(("_law_led":Str),bf (top 40)),(("_law_signed":Str),bf (top 41)),(("law":Str),bf (top 42))]
noncomputable def xs:List Str:=["NoTable","NoFit","NoPlace","NoStep","NoSteps","NoText"]
def T:Pg:=⟨cs,bl,df,xs,"MinorError"⟩
def BnO(nm:Str)(t:Stmt):Prop:=∀ (kV doc pm:Value) (an:Option Addr) (cdv ct:Value) (us:List Value),us.length=(bf t).ps.length->bindArgs (PySem.W.fnOf nm nm (dH t) (bN t) (aX t) .none kV doc pm an cdv ct) ⟨us,[]⟩=pure ((bf t).ps.zip us)
def fsB(fd:Fd):Bool:=decide (fd.sc.kind=.function) && !fd.sc.isCoroutine && !fd.sc.isGenerator&&decide fd.N.Nodup&&decide (fd.N.take fd.ps.length=fd.ps)&&fd.ps.all (fun x=>decide (fd.sc.names.lookup x=some .local)||decide (fd.sc.names.lookup x=some .cell))&&fd.sc.names.all fun y=>decide (y.2≠.free)
theorem J5{fd:Fd}(h:fsB fd=true):FnScope fd.N fd.ps fd.sc:=by
 unfold fsB at h;simp only[Bool.and_eq_true,decide_eq_true_eq,Bool.not_eq_true',List.all_eq_true,Bool.or_eq_true] at h;obtain⟨⟨⟨⟨⟨⟨h1,h2⟩,h3⟩,h4⟩,h5⟩,h6⟩,h7⟩:=h;exact⟨h1,h2,h3,h4,h5,h6,h7⟩
theorem bL{K:PySem.W.Frag}{h:Heap}{mg:Str->Option Value}{x nm:Str}{t:Stmt}(X:K.In h)(G:h.Ns mainGlobals mg)(f:Addr)(dc pm cd:Value)(hb:BnO nm t)(a:PySem.W.nsIn K mainGlobals x=some (some (.ref f)))
  (l:K.lookup f=some ⟨.type "function",none,.func (PySem.W.fnOf nm nm (dH t) (bN t) (aX t) .none .none dc pm none cd .none),#[]⟩) (c:(PySem.W.codeIn K cd nm&&PySem.W.keepIn K (.ref f)&&fsB (bf t) && !(x==("__debug__":Str)))=true):FunAt K mg x (bf t):=by
 simp only[Bool.and_eq_true,Bool.not_eq_true'] at c;obtain⟨⟨⟨c,k⟩,hs⟩,hd⟩:=c;exact⟨⟨nm,t,f,_,PySem.W.mg_of X G a,wg l c k,(wg l c k).binds hb,rfl,rfl⟩,J5 hs,hd⟩
theorem len1{us:List Value}(h:us.length=1):∃ a,us=[a]:=List.length_eq_one_iff.mp h
theorem len2{us:List Value}(h:us.length=2):∃ a b,us=[a,b]:=by cases us with | nil=>cases h | cons a r=>obtain⟨b,e⟩:=len1 (us:=r) (Nat.succ.inj h);exact⟨a,b,congrArg (List.cons a) e⟩
theorem KN{us:List Value}(h:us.length=3):∃ a b c,us=[a,b,c]:=by cases us with | nil=>cases h | cons a r=>obtain⟨b,c,e⟩:=len2 (us:=r) (Nat.succ.inj h);exact⟨a,b,c,congrArg (List.cons a) e⟩
theorem Tq{us:List Value}(h:us.length=4):∃ a b c d,us=[a,b,c,d]:=by cases us with | nil=>cases h | cons a r=>obtain⟨b,c,d,e⟩:=KN (us:=r) (Nat.succ.inj h);exact⟨a,b,c,d,congrArg (List.cons a) e⟩
theorem b10:BnO "is_whole" (top 10):=fun _ _ _ _ _ _ _ h=>by obtain⟨_,rfl⟩:=len1 h;rfl
theorem b11:BnO "is_short_tuple" (top 11):=fun _ _ _ _ _ _ _ h=>by obtain⟨_,rfl⟩:=len1 h;rfl
theorem b12:BnO "has_lines" (top 12):=fun _ _ _ _ _ _ _ h=>by obtain⟨_,rfl⟩:=len1 h;rfl
theorem b13:BnO "numbers_of" (top 13):=fun _ _ _ _ _ _ _ h=>by obtain⟨_,rfl⟩:=len1 h;rfl
theorem b14:BnO "has_table_form" (top 14):=fun _ _ _ _ _ _ _ h=>by obtain⟨_,rfl⟩:=len1 h;rfl
theorem b15:BnO "need_table" (top 15):=fun _ _ _ _ _ _ _ h=>by obtain⟨_,rfl⟩:=len1 h;rfl
theorem b17:BnO "row_by_column" (top 17):=fun _ _ _ _ _ _ _ h=>by obtain⟨_,_,rfl⟩:=len2 h;rfl
theorem b18:BnO "rows_out_of" (top 18):=fun _ _ _ _ _ _ _ h=>by obtain⟨_,_,rfl⟩:=len2 h;rfl
theorem b20:BnO "least_changes" (top 20):=fun _ _ _ _ _ _ _ h=>by obtain⟨_,rfl⟩:=len1 h;rfl
theorem b21:BnO "changes_behind" (top 21):=fun _ _ _ _ _ _ _ h=>by obtain⟨_,_,rfl⟩:=len2 h;rfl
theorem b22:BnO "most_changes" (top 22):=fun _ _ _ _ _ _ _ h=>by obtain⟨_,rfl⟩:=len1 h;rfl
theorem b23:BnO "led" (top 23):=fun _ _ _ _ _ _ _ h=>by obtain⟨_,_,rfl⟩:=len2 h;rfl
theorem b24:BnO "all_rows" (top 24):=fun _ _ _ _ _ _ _ h=>by obtain⟨_,_,rfl⟩:=len2 h;rfl
theorem b26:BnO "_law_cell" (top 26):=fun _ _ _ _ _ _ _ h=>by obtain⟨_,_,rfl⟩:=len2 h;rfl
theorem b27:BnO "_law_pick" (top 27):=fun _ _ _ _ _ _ _ h=>by obtain⟨_,_,_,rfl⟩:=KN h;rfl
theorem b28:BnO "_law_table" (top 28):=fun _ _ _ _ _ _ _ h=>by obtain⟨_,_,_,_,rfl⟩:=Tq h;rfl
theorem b30:BnO "_law_times" (top 30):=fun _ _ _ _ _ _ _ h=>by obtain⟨_,_,rfl⟩:=len2 h;rfl
theorem b35:BnO "_law_places" (top 35):=fun _ _ _ _ _ _ _ h=>by obtain⟨_,rfl⟩:=len1 h;rfl
theorem b36:BnO "_law_put" (top 36):=fun _ _ _ _ _ _ _ h=>by obtain⟨_,_,_,rfl⟩:=KN h;rfl
theorem b37:BnO "_law_spoilt_thing" (top 37):=fun _ _ _ _ _ _ _ h=>by obtain⟨_,_,_,rfl⟩:=KN h;rfl
theorem b38:BnO "_law_is_table" (top 38):=fun _ _ _ _ _ _ _ h=>by obtain⟨_,_,rfl⟩:=len2 h;rfl
theorem b39:BnO "_law_word" (top 39):=fun _ _ _ _ _ _ _ h=>by obtain⟨_,rfl⟩:=len1 h;rfl
theorem b40:BnO "_law_led" (top 40):=fun _ _ _ _ _ _ _ h=>by obtain⟨_,_,rfl⟩:=len2 h;rfl
theorem b41:BnO "_law_signed" (top 41):=fun _ _ _ _ _ _ _ h=>by obtain⟨_,rfl⟩:=len1 h;rfl
theorem b42:BnO "law" (top 42):=fun _ _ _ _ _ _ _ h=>by obtain⟨_,rfl⟩:=len1 h;rfl
theorem in_of{α:Type}{Q:Str->α->Prop}:∀ {l:List (Str×α)},(∀ p∈l,Q p.1 p.2)->∀ f fd,l.lookup f=some fd->Q f fd
 | (y,e)::r,hp,f,fd,h=>by
  rw[List.lookup_cons] at h
  cases hb:f==y with
  | true =>
   rw[hb] at h
   have e1:f=y:=by simpa using hb
   cases h;subst e1;exact hp _ List.mem_cons_self
  | false =>
   rw[hb] at h;exact in_of (fun p hm=>hp p (List.mem_cons_of_mem _ hm)) f fd h
theorem aC{α:Type}{Q:α->Prop}{a:α}{l:List α}(h:Q a)(t:∀ p∈l,Q p):∀ p∈a::l,Q p:=List.forall_mem_cons.mpr ⟨h,t⟩
theorem aN{α:Type}{Q:α->Prop}:∀ p∈([]:List α),Q p:=List.forall_mem_nil _
theorem cA{K:PySem.W.Frag}{h:Heap}{mg:Str->Option Value}{x:Str}{i:Int}(X:K.In h)(G:h.Ns mainGlobals mg)(tk:Tok)(e:PySem.W.nsIn K mainGlobals x=some (some (.int i tk))):∃ v u,(∀ H,Rep K H (D.int i) v)/\mg x=some u/\RelV v u:=⟨.int i,_,fun _=>by simp[Rep],PySem.W.mg_of X G e,⟨_,rfl⟩⟩
theorem bA{K:PySem.W.Frag}{h:Heap}{mg:Str->Option Value}{x:Str}{b:String}(X:K.In h)(G:h.Ns mainGlobals mg)(e:PySem.W.nsIn K mainGlobals x=some none)(q:x=Str.ofString b):mg x=none/\x=Str.ofString b:=⟨PySem.W.mg_none_of X G e,q⟩
theorem Pq:T.defs.lookup ("law":Str)=some (bf (top 42)):=by kernel_rfl
theorem fin{l:PySem.W.OpenLaw}{w:World}{K:PySem.W.Frag}{h:Heap}{mg:Str->Option Value}{fa:Addr}(hlaw:∀ ns:List Int,ns.length<=63->aY T 60 40 "law" [.lst (ns.map D.int)]=some (.bl true))(TX:Text w K mg T)(X:K.In h)(G:h.Ns mainGlobals mg)(hfa:mg "law"=some (.ref fa))(f:Addr)(dc pm cd:Value)(a:PySem.W.nsIn K mainGlobals "law"=some (some (.ref f)))
  (lk:K.lookup f=some ⟨.type "function",none,.func (PySem.W.fnOf "law" "law" (dH (top 42)) (bN (top 42)) (aX (top 42)) .none .none dc pm none cd .none),#[]⟩) (c:PySem.W.codeIn K cd "law"=true) (kp:PySem.W.keepIn K (.ref f)=true) :
  ∃ fd:FuncData,(∀ (s:Shared) (v:Value),BindsTo s fd ⟨[v],[]⟩ [("_law_script",v)])/\∀ base:Heap,K.In base->base.Ns mainGlobals mg->FnOk l.prog w K mg base CX0 40 fa fd ["_law_script"] (qt K):=by
 have e:=hfa.symm.trans (PySem.W.mg_of X G a);cases e;refine⟨_,fun s v=>.of_eq (b42 .none dc pm none cd .none [v] rfl),fun base _ _=>?_⟩;exact JL (fd:=bf (top 42)) (t:=top 42) (f:="law") TX Pq (wg lk c kp) rfl rfl (J5 (by decide +kernel)) rfl hlaw
theorem walk{l:PySem.W.OpenLaw}{q:Program}{loose:List Str}{XP:(Str->Option Value)->Heap->Prop}{YP:World->Heap->Prop}{d:DefRec}{K:Params->PySem.W.Frag}(hn:l.most=some 63)(hdf:d.params.defaults=[])
  (hY:∀ (w:World) (h:Heap),YP w h->(K w.params).In h)
  (F : ∀ (w : World) (mg : Str -> Option Value) (fa : Addr) (h : Heap), (K w.params).In h -> h.Ns mainGlobals mg -> mg d.name = some (.ref fa) ->
   ∃ fd:FuncData,(∀ (s:Shared) (u:Value),BindsTo s fd ⟨[u],[]⟩ [("_law_script",u)])/\∀ base:Heap,(K w.params).In base->base.Ns mainGlobals mg->FnOk l.prog w (K w.params) mg base CX0 40 fa fd ["_law_script"] (qt (K w.params))) :
  PySem.W.WalkO q loose XP YP l.row.toRowW d [] (fun f vs=>PySem.call f vs) :=
 L2.CJ (n:=63) (k:=40) (x:="_law_script") (CX:=fun _=>CX0) (sp:=fun w=>qt (K w.params)) hn (by decide) hdf ⟨rfl,by decide,by decide⟩ hY F (fun _ _ a ns hl _ hS=>⟨a,ns,rfl,hS,hl,fun _=>rfl⟩) fun _ _ _ _ _ z=>z
end M60
local macro_rules | `(tactic| walk_at "xs") => `(tactic| first | exact DE.G3 | exact DE.bLenL | exact DE.RK | rfl | assumption | omega)
local macro_rules | `(tactic| walk_at "xm") => `(tactic| first | exact DE.bx | (refine' DE.ao ?hA ?hB; (case hA => walk_at "xv"); (case hB => walk_at "xm")))
local macro_rules | `(tactic| walk_at "xi") => `(tactic| first
 | (refine' DE.xV ?hA ?hB; (case hA => rfl); (case hB => walk_at "xv"))
 | (refine' DE.wSq ?hA ?hB ?hC; (case hA => rfl); (case hB => walk_at "xv"); (case hC => rfl))
 | (refine' DE.Hx ?hA ?hB ?hC; (case hA => rfl); (case hB => walk_at "xv"); (case hC => omega))
 | (refine' DE.wR2 ?hA ?hB ?hC ?hD; (case hA => rfl); (case hB => walk_at "xv"); (case hC => walk_at "xv"); (case hD => walk_at "xs"))
 | (refine' DE.RW ?hA ?hB ?hC; (case hA => rfl); (case hB => walk_at "xv"); (case hC => walk_at "xv"))
 | (refine' DE.wRvLL ?hA ?hB; (case hA => rfl); (case hB => walk_at "xv"))
 | (refine' DE.Qo ?hA ?hB; (case hA => rfl); (case hB => walk_at "xv")))
local macro_rules | `(tactic| walk_at "xl") => `(tactic| (refine' DE.cR ?hA ?hB ?hC (DE.cu ?hD); (case hA => rfl); (case hB => walk_at "xi"); (case hC => (exact DE.kE (by omega))); (case hD => (intro i hi; refine' DE.dZ ?hE ?hF; (case hE => rfl); (case hF => walk_at "xv")))))
local macro_rules | `(tactic| walk_at "xv") => `(tactic| first
 | exact DE.xName rfl
 | exact DE.au rfl
 | (refine' DE.cP ?hA ?hB ?hC; (case hA => walk_at "xv"); (case hB => walk_at "xv"); (case hC => walk_at "xs"))
 | (refine' DE.d7 ?hA ?hB ?hC; (case hA => walk_at "xv"); (case hB => walk_at "xv"); (case hC => walk_at "xs"))
 | (refine' DE.Ku ?hA ?hB ?hC ?hD ?hE; (case hA => walk_at "xv"); (case hB => walk_at "xv"); (case hC => omega); (case hD => rfl); (case hE => rfl))
 | (refine' DE.G9 ?hA ?hB ?hC ?hD ?hE; (case hA => walk_at "xv"); (case hB => walk_at "xv"); (case hC => omega); (case hD => rfl); (case hE => rfl))
 | (refine' DE.xIxLl ?hA ?hB ?hC ?hD ?hE; (case hA => walk_at "xv"); (case hB => walk_at "xv"); (case hC => omega); (case hD => rfl); (case hE => rfl))
 | (refine' DE.oV ?hA ?hB ?hC ?hD ?hE ?hF ?hG; (case hA => rfl); (case hB => rfl); (case hC => rfl); (case hD => walk_at "xv"); (case hE => rfl); (case hF => rfl); (case hG => rfl))
 | (refine' DE.cT ?hA ?hB ?hC ?hD ?hE; (case hA => rfl); (case hB => rfl); (case hC => rfl); (case hD => walk_at "xm"); (case hE => walk_at "xs"))
 | (refine' DE.aW ?hA ?hB ?hC; (case hA => rfl); (case hB => walk_at "xm"); (case hC => walk_at "xc"))
 | (refine' DE.xLr1n ?hA ?hB ?hC ?hD; (case hA => rfl); (case hB => rfl); (case hC => walk_at "xv"); (case hD => omega))
 | (refine' DE.tY ?hA ?hB; (case hA => walk_at "xm"); (case hB => rfl))
 | (refine' DE.Cy ?hA ?hB; (case hA => walk_at "xm"); (case hB => rfl))
 | walk_at "xl"
 | (refine' DE.Bb ?hA; (case hA => walk_at "xv"))
 | (refine' DE.Ks ?hA; (case hA => walk_at "xv")))
namespace M60
open PySem DE
def whole:D->Bool
 | .int _=>true
 | _=>false
theorem is_whole(k:Nat){d:D}(h:dep d<1000):aY T 60 (k+1) "is_whole" [d]=some (.bl (whole d)):=by
 cases d with
 | exc c=>exact absurd h (by simp[dep])
 | dic _ _=>exact absurd h (by simp[dep])
 | _=>kernel_rfl
def within(l m:Int):D->Bool
 | .int i=>decide (l<=i)&&decide (i<=m)
 | _=>false
def aO:D->Bool
 | .tup us=>decide (1<=us.length)&&decide (us.length<=4)
 | _=>false
theorem gO{us:List D}:blt "len" [.tup us]=some (.int (us.length:Int)):=rfl
theorem gb(k:Nat){d:D}(h:dep d<1000):aY T 60 (k+1) "is_short_tuple" [d]=some (.bl (aO d)):=by
 cases ht:jY "tuple" d with
 | false =>
  have e:aO d=false:=by cases d<;>first | rfl | simp[jY] at ht
  rw[e];exact fB (fd:=bf (top 11)) rfl rfl (dU (dw (CG (oV rfl rfl rfl (by walk_at "xv") ht rfl (KJ h)))))
 | true =>
  cases d<;>simp[jY] at ht
  rename_i us;refine fB (fd:=bf (top 11)) rfl rfl (dU (dw (Hv (oV rfl rfl rfl (by walk_at "xv") rfl) (rM ?_))))
  by_cases h1:1<=us.length
  ·have e:aO (.tup us)=decide ((us.length:Int)<=4):=by
    simp only[aO,h1,decide_true,Bool.true_and];exact decide_eq_decide.mpr (by omega)
   rw[e];refine uc (by walk_at "xv") (y:=.int (us.length:Int)) ?_ (oLe (by omega)) (by walk_at "xv") SM;refine' cT ?L60a_1a ?L60a_1b ?L60a_1c ?L60a_1d ?L60a_1e;(case L60a_1a=>rfl);(case L60a_1b=>rfl);(case L60a_1c=>rfl);(case L60a_1d=>walk_at "xm");(case L60a_1e=>exact gO)
  ·have e:aO (.tup us)=false:=by simp only[aO];rw[decide_eq_false h1];rfl
   rw[e];refine Cz (by walk_at "xv") (y:=.int (us.length:Int)) ?_ (Hj (by omega));refine' cT ?L60a_2a ?L60a_2b ?L60a_2c ?L60a_2d ?L60a_2e;(case L60a_2a=>rfl);(case L60a_2b=>rfl);(case L60a_2c=>rfl);(case L60a_2d=>walk_at "xm");(case L60a_2e=>exact gO)
theorem at0{z:D}{zs:List D}:atD (z::zs) 0=some z:=gP (j:=0) rfl
def tU:D->Nat
 | .tup us=>us.length
 | _=>0
def lens(us:List D):Bool:=us.all fun r=>tU r==tU (us.headD .non)
def bQ:D->Bool
 | .tup us=>aO (.tup us)&&us.all aO&&lens us
 | _=>false
theorem cJ{d:D}(h:aO d=true):∃ us,d=.tup us/\1<=us.length/\us.length<=4:=by
 cases d<;>simp[aO] at h
 rename_i us;exact⟨us,rfl,by omega,by omega⟩
theorem mC{us:List D}(h:dep (.tup us)<1000):∀ x∈us,dep x<1000:=fun x hx=>by
 have:=gJ hx;simp only[dep] at h;omega
theorem has_lines(k:Nat){d:D}(h:dep d<1000):aY T 60 (k+2) "has_lines" [d]=some (.bl (bQ d)):=by
 cases hs:aO d with
 | false =>
  have e:bQ d=false:=by cases d<;>first | rfl | (simp only[bQ,hs];rfl)
  rw[e];refine fB (fd:=bf (top 12)) rfl rfl (mL (fl1:=.ret (.bl false)) (dw (Cw (j9 ?_))) (dU (by walk_at "xv")) rfl);refine' aW ?L60a_3a ?L60a_3b ?L60a_3c;(case L60a_3a=>rfl);(case L60a_3b=>walk_at "xm");(case L60a_3c=>exact hs▸gb k h)
 | true =>
  obtain⟨us,rfl,g1,g4⟩:=cJ hs;have hd:=mC h
  cases ha:us.all aO with
  | false =>
   have e:bQ (.tup us)=false:=by simp only[bQ,ha,Bool.and_false,Bool.false_and]
   rw[e];refine fB (fd:=bf (top 12)) rfl rfl (mL (fl1:=.ret (.bl false)) (dw (rK (iU ?_) (rM (j9 ?_)))) (dU (by walk_at "xv")) rfl)
   ·refine' aW ?L60a_4a ?L60a_4b ?L60a_4c;(case L60a_4a=>rfl);(case L60a_4b=>walk_at "xm");(case L60a_4c=>exact hs▸gb k h)
   ·refine cT rfl rfl rfl (ao (cR (l:=us) rfl (wSq rfl (by walk_at "xv") rfl) (jL (by omega)) (cI (g:=fun x=>.bl (aO x)) fun x hx=>dZ rfl ?_)) bx) (by rw[Ax,ha])
    refine' aW ?L60a_5a ?L60a_5b ?L60a_5c;(case L60a_5a=>rfl);(case L60a_5b=>walk_at "xm");(case L60a_5c=>exact gb k (hd x hx))
  | true =>
   have e:bQ (.tup us)=lens us:=by simp only[bQ,ha,hs,Bool.true_and]
   rw[e];refine fB (fd:=bf (top 12)) rfl rfl (qT (dw (rK (iU ?_) (rM (iU ?_)))) (dU ?_))
   ·refine' aW ?L60a_6a ?L60a_6b ?L60a_6c;(case L60a_6a=>rfl);(case L60a_6b=>walk_at "xm");(case L60a_6c=>exact hs▸gb k h)
   ·refine cT rfl rfl rfl (ao (cR (l:=us) rfl (wSq rfl (by walk_at "xv") rfl) (jL (by omega)) (cI (g:=fun x=>.bl (aO x)) fun x hx=>dZ rfl ?_)) bx) (by rw[Ax,ha])
    refine' aW ?L60a_7a ?L60a_7b ?L60a_7c;(case L60a_7a=>rfl);(case L60a_7b=>walk_at "xm");(case L60a_7c=>exact gb k (hd x hx))
   ·refine cT rfl rfl rfl (ao (cR (l:=us) rfl (wSq rfl (by walk_at "xv") rfl) (jL (by omega)) (cI (g:=fun x=>.bl (tU x==tU (us.headD .non))) fun x hx=>dZ rfl ?_)) bx) Ax
    obtain⟨ys,rfl,y1,y4⟩:=cJ (List.all_eq_true.mp ha x hx)
    cases us with
    | nil=>simp at g1
    | cons z zs =>
     obtain⟨ws,rfl,w1,w4⟩:=cJ (List.all_eq_true.mp ha z (by simp));refine d7 (x:=.int (ys.length:Int)) (y:=.int (ws.length:Int)) ?_ ?_ ?_
     ·refine' cT ?L60a_8a ?L60a_8b ?L60a_8c ?L60a_8d ?L60a_8e;(case L60a_8a=>rfl);(case L60a_8b=>rfl);(case L60a_8c=>rfl);(case L60a_8d=>walk_at "xm");(case L60a_8e=>exact gO)
     ·refine cT rfl rfl rfl (ao ?_ bx) gO
      exact xIx (by walk_at "xv") (by walk_at "xv") rfl at0
     ·show some (D.bl ((ys.length:Int)==(ws.length:Int)))=_
      congr 2;show _=(ys.length==ws.length);rw[Bool.eq_iff_iff];simp only[beq_iff_eq];omega
def cj:D->List D
 | .tup us=>us
 | _=>[]
def nums:List D->List D
 | []=>[]
 | r::rs=>cj r++nums rs
theorem nD:∀ (a:List D) (r:D),nums (a++[r])=nums a++cj r
 | [],r=>by simp[nums]
 | x::a,r=>by simp[nums,nD a r]
theorem iM:∀ {us:List D},us.all aO=true->(nums us).length<=4*us.length
 | [],_=>by simp[nums]
 | r::us,h=>by
  rw[List.all_cons,Bool.and_eq_true] at h;obtain⟨ys,rfl,y1,y4⟩:=cJ h.1;have:=iM h.2;simp only[nums,cj,List.length_append,List.length_cons];omega
theorem numbers_of(k:Nat){us:List D}(h4:us.length<=4)(ha:us.all aO=true):aY T 60 (k+1) "numbers_of" [.tup us]=some (.lst (nums us)):=by
 have hl:=iM ha
 have key:∀ (s:Sl),(s=.no\/∃ d,s=.sh d)->blk (cxN T 60 k) 60 60 (bf (top 13)).sc ((bf (top 13)).body.drop 2) [("table",.sh (.tup us)),("told",.ow (nums us)),("row",s)]=some (.ret (.lst (nums us))):=by
  intro s hs;rcases hs with rfl | ⟨d,rfl⟩
  ·exact dU (by walk_at "xv")
  ·exact dU (by walk_at "xv")
 refine fB (fd:=bf (top 13)) rfl rfl (gj rfl (d:=.lst []) (by walk_at "xv") (sW (l:=us) (fl1:=.nxt [("table",.sh (.tup us)),("told",.ow (nums us)),("row",FN us)]) (wSq rfl (by walk_at "xv") rfl) ?_ (key _ ?_)))
 ·refine nP (R:=fun pre=>[("table",.sh (.tup us)),("told",.ow (nums pre)),("row",FN pre)]) (whole:=us) (fun pre x post e=>?_) (pre:=[]) rfl
  have hx:aO x=true:=List.all_eq_true.mp ha x (by rw[<- e];simp)
  have hp:pre.all aO=true:=by rw[<- e,List.all_append,Bool.and_eq_true] at ha;exact ha.1
  have hl2:=iM hp
  have hl3:pre.length<=us.length:=by rw[<- e];simp
  obtain⟨ys,rfl,y1,y4⟩:=cJ hx;rw[nD,sU,show cj (.tup ys)=ys from rfl];exact dz rfl (Qc rfl rfl rfl rfl (jL (by omega)) (by walk_at "xv") nO)
 ·cases us with
  | nil=>exact .inl rfl
  | cons x r=>exact .inr ⟨_,rfl⟩
def eN(d:D):Bool:=bQ d&&(nums (cj d)).all whole
theorem vJ{d:D}(h:bQ d=true):∃ us,d=.tup us/\1<=us.length/\us.length<=4/\us.all aO=true/\lens us=true:=by
 cases d<;>simp only[bQ,Bool.and_eq_true] at h<;>try (cases h;done)
 rename_i us;obtain⟨us',e,h1,h4⟩:=cJ h.1.1;cases e;exact⟨us,rfl,h1,h4,h.1.2,h.2⟩
theorem lG{x:D}:∀ {us:List D},x∈nums us->∃ r∈us,x∈cj r
 | r::us,h=>by
  simp only[nums,List.mem_append] at h;rcases h with h | h
  ·exact⟨r,by simp,h⟩
  ·obtain⟨r',h1,h2⟩:=lG h
   exact⟨r',List.mem_cons_of_mem _ h1,h2⟩
theorem zq{us:List D}(h:dep (.tup us)<1000):∀ x∈nums us,dep x<1000:=fun x hx=>by
 obtain⟨r,h1,h2⟩:=lG hx;have h3:=mC h r h1
 cases r<;>simp only[cj] at h2<;>try (cases h2;done)
 exact mC h3 x h2
theorem qQ(k:Nat){d:D}(h:dep d<1000):aY T 60 (k+3) "has_table_form" [d]=some (.bl (eN d)):=by
 cases hl:bQ d with
 | false =>
  have e:eN d=false:=by simp only[eN,hl,Bool.false_and]
  rw[e];refine fB (fd:=bf (top 14)) rfl rfl (dU (dw (CG ?_)));refine' aW ?L60a_9a ?L60a_9b ?L60a_9c;(case L60a_9a=>rfl);(case L60a_9b=>walk_at "xm");(case L60a_9c=>exact hl▸has_lines k h)
 | true =>
  obtain⟨us,rfl,g1,g4,ga,_⟩:=vJ hl
  have e:eN (.tup us)=(nums us).all whole:=by simp only[eN,hl,Bool.true_and,cj]
  have hn:=iM ga;have hd:=zq h;rw[e];refine fB (fd:=bf (top 14)) rfl rfl (dU (dw (Hv ?_ (rM ?_))))
  ·refine' aW ?L60a_10a ?L60a_10b ?L60a_10c;(case L60a_10a=>rfl);(case L60a_10b=>walk_at "xm");(case L60a_10c=>exact hl▸has_lines k h)
  ·refine cT rfl rfl rfl (ao (cR (l:=nums us) rfl (wSq rfl (aW rfl (by walk_at "xm") (numbers_of (k+1) g4 ga)) rfl) (jL (by omega)) (cI (g:=fun x=>.bl (whole x)) fun x hx=>dZ rfl ?_)) bx) Ax
   refine' aW ?L60a_11a ?L60a_11b ?L60a_11c;(case L60a_11a=>rfl);(case L60a_11b=>walk_at "xm");(case L60a_11c=>exact is_whole (k+1) (hd x hx))
theorem Fi(k:Nat){d:D}(h:dep d<1000)(hf:eN d=true):aY T 60 (k+4) "need_table" [d]=some .non:=by
 refine K3 (fd:=bf (top 15)) rfl rfl (qT (iU ?_) nO);refine' aW ?L60a_12a ?L60a_12b ?L60a_12c;(case L60a_12a=>rfl);(case L60a_12b=>walk_at "xm");(case L60a_12c=>exact hf▸qQ k h)
theorem Fj(k:Nat){d:D}(h:dep d<1000)(hf:eN d=false):oh T 60 (k+4) "need_table" [d]=some "NoTable"/\aY T 60 (k+4) "need_table" [d]=none:=by
 refine Cv (fd:=bf (top 15)) rfl rfl (qd (j9 ?_) rfl);refine' aW ?L60a_13a ?L60a_13b ?L60a_13c;(case L60a_13a=>rfl);(case L60a_13b=>walk_at "xm");(case L60a_13c=>exact hf▸qQ k h)
theorem iJ{m:Nat}{h:Nat->D}:aO (.tup (Ls m h))=(decide (1<=m)&&decide (m<=4)):=by simp only[aO,bF]
theorem nG{m:Nat}{h:Nat->D}{x:D}(hx:x∈Ls m h):∃ i,i<m/\x=h i:=by
 unfold Ls at hx;obtain⟨i,hi,rfl⟩:=List.mem_map.mp hx;exact⟨i,List.mem_range.mp hi,rfl⟩
theorem Gb{m:Nat}{h:Nat->D}(hm:1<=m):(Ls m h).headD .non=h 0:=by
 obtain⟨m',rfl⟩:∃ m',m=m'+1:=⟨m-1,by omega⟩;unfold Ls;rw[List.range_succ_eq_map];rfl
theorem zW{m n:Nat}{f:Nat->Nat->Int}(h1:1<=m)(h2:1<=n):eN (tbl m n f)=(decide (m<5)&&decide (n<5)):=by
 by_cases hm:m<=4
 ·by_cases hn:n<=4
  ·have e1:bQ (tbl m n f)=true:=by
    show(aO (tbl m n f)&&(Ls m fun i=>row n (f i)).all aO&&lens (Ls m fun i=>row n (f i)))=true;rw[iJ,decide_eq_true h1,decide_eq_true hm]
    have a1:(Ls m fun i=>row n (f i)).all aO=true:=by
     rw[List.all_eq_true];intro x hx;obtain⟨i,_,rfl⟩:=nG hx;rw[iJ,decide_eq_true h2,decide_eq_true hn];rfl
    have a2:lens (Ls m fun i=>row n (f i))=true:=by
     unfold lens;rw[List.all_eq_true,Gb h1];intro x hx;obtain⟨i,_,rfl⟩:=nG hx;simp[tU,bF]
    rw[a1,a2];rfl
   have e2:(nums (cj (tbl m n f))).all whole=true:=by
    rw[List.all_eq_true];intro x hx;obtain⟨r,hr,hx⟩:=lG hx;obtain⟨i,_,rfl⟩:=nG (show r∈Ls m fun i=>row n (f i) from hr);obtain⟨j,_,rfl⟩:=nG (show x∈Ls n fun j=>D.int (f i j) from hx);rfl
   unfold eN;rw[e1,e2,decide_eq_true (show m<5 by omega),decide_eq_true (show n<5 by omega)]
  ·have e1:bQ (tbl m n f)=false:=by
    show(aO (tbl m n f)&&(Ls m fun i=>row n (f i)).all aO&&lens (Ls m fun i=>row n (f i)))=false
    have a1:(Ls m fun i=>row n (f i)).all aO=false:=by
     rw[List.all_eq_false];refine⟨row n (f 0),?_,?_⟩
     ·unfold Ls;exact List.mem_map.mpr ⟨0,List.mem_range.mpr (by omega),rfl⟩
     ·rw[iJ,decide_eq_false hn];simp
    rw[a1,Bool.and_false,Bool.false_and]
   unfold eN;rw[e1,decide_eq_false (show ¬ n<5 by omega),Bool.and_false,Bool.false_and]
 ·have e1:bQ (tbl m n f)=false:=by
   show(aO (tbl m n f)&&(Ls m fun i=>row n (f i)).all aO&&lens (Ls m fun i=>row n (f i)))=false;rw[iJ,decide_eq_false hm,Bool.and_false,Bool.false_and,Bool.false_and]
  unfold eN;rw[e1,decide_eq_false (show ¬ m<5 by omega),Bool.false_and,Bool.false_and]
theorem Gg{m n:Nat}{f:Nat->Nat->Int}(h1:1<=m)(h2:m<=4)(h3:1<=n)(h4:n<=4):eN (tbl m n f)=true:=by rw[zW h1 h3,decide_eq_true (by omega),decide_eq_true (by omega)];rfl
theorem need_table(k:Nat){m n:Nat}{f:Nat->Nat->Int}(h1:1<=m)(h2:m<=4)(h3:1<=n)(h4:n<=4):aY T 60 (k+4) "need_table" [tbl m n f]=some .non :=
 Fi k (Nat.lt_of_le_of_lt wK (by decide)) (Gg h1 h2 h3 h4)
def Sm(m n:Nat)(f:Nat->Nat->Int):Prop:=∀ i j,i<m->j<n->small (f i j)=true
noncomputable def tK(ns:List Int)(k:Nat):Int:=if k<ns.length then ns.getD k 0 else if ns=[] then 0 else ns.getD (k%ns.length) 0*31+k
def dB(ns:List Int)(k:Nat):Int:=(tK ns k+6151*((k:Int)+1))*40692%2147483399
def pickN(ns:List Int)(k many:Nat):Nat:=((dB ns k*dB ns k+dB ns k / 31)%2147483629%(many:Int)).toNat
theorem cg{ns:List Int}{k many:Nat}(h:0<many):pickN ns k many<many:=by
 unfold pickN;have h1:=Int.emod_nonneg ((dB ns k*dB ns k+dB ns k / 31)%2147483629) (show(many:Int)≠0 by omega);have h2:=Int.emod_lt_of_pos ((dB ns k*dB ns k+dB ns k / 31)%2147483629) (show(0:Int)<many by omega);omega
abbrev scr(ns:List Int):D:=.lst (ns.map D.int)
theorem kW{ns:List Int}:blt "len" [scr ns]=some (.int (ns.length:Int)):=by
 show some (D.int ((ns.map D.int).length:Int))=_;rw[List.length_map]
theorem qz{ns:List Int}{k:Nat}(h:k<ns.length):atD (ns.map D.int) (k:Int)=some (.int (ns.getD k 0)):=by
 refine gP ?_;rw[List.getElem?_map,List.getElem?_eq_getElem h,List.getD_eq_getElem?_getD,List.getElem?_eq_getElem h];rfl
theorem Dn{ns:List Int}:dep (scr ns)<=50:=by
 simp only[dep]
 have:=cZ (b:=0) (l:=ns.map D.int) fun d hd=>by
  obtain⟨i,_,rfl⟩:=List.mem_map.mp hd;simp[dep]
 omega
theorem cell(k:Nat)(ns:List Int)(kk:Nat):aY T 60 (k+1) "_law_cell" [scr ns,.int (kk:Int)]=some (.int (tK ns kk)):=by
 unfold tK
 by_cases h:kk<ns.length
 ·rw[if_pos h]
  refine fB (fd:=bf (top 26)) rfl rfl (mL (fl1:=.ret (.int (ns.getD kk 0))) (d7 (by walk_at "xv") (cT rfl rfl rfl (by walk_at "xm") kW) (oLt (by omega))) (dU ?_) rfl);exact xIx (by walk_at "xv") (by walk_at "xv") rfl (qz h)
 ·rw[if_neg h]
  by_cases e:ns=[]
  ·subst e
   rw[if_pos rfl];refine fB (fd:=bf (top 26)) rfl rfl (qT (d7 (by walk_at "xv") (cT rfl rfl rfl (by walk_at "xm") (kW (ns:=[]))) (Qx (by simp))) (mL (fl1:=.ret (.int 0)) (d7 (by walk_at "xv") (by walk_at "xv") rfl) (dU (by walk_at "xv")) rfl))
  ·rw[if_neg e]
   have hl:0<ns.length:=List.length_pos_iff.mpr e;refine fB (fd:=bf (top 26)) rfl rfl (qT (d7 (by walk_at "xv") (cT rfl rfl rfl (by walk_at "xm") kW) (Qx (by omega))) (qT (d7 (y:=.lst []) (by walk_at "xv") (by walk_at "xv") ?_) (dU ?_)))
   ·rw[oEq Dn (by simp[dep,deps])]
    cases ns with
    | nil=>exact absurd rfl e
    | cons a r=>rfl
   ·refine cP (cP (x:=.int (ns.getD (kk%ns.length) 0)) (xIx (i:=((kk%ns.length:Nat):Int)) (by walk_at "xv") ?_ rfl (qz (Nat.mod_lt _ hl))) (by walk_at "xv") (xJ (.inr (by decide)))) (by walk_at "xv") rfl
    refine cP (by walk_at "xv") (cT rfl rfl rfl (by walk_at "xm") kW) ?_;rw[Ho (by omega)];rfl
theorem pick(k:Nat)(ns:List Int)(kk:Nat){many:Nat}(h:0<many):aY T 60 (k+2) "_law_pick" [scr ns,.int (kk:Int),.int (many:Int)]=some (.int ((pickN ns kk many:Nat):Int)):=by
 have d0:=Int.emod_nonneg ((tK ns kk+6151*((kk:Int)+1))*40692) (show(2147483399:Int)≠0 by decide);have d1:=Int.emod_lt_of_pos ((tK ns kk+6151*((kk:Int)+1))*40692) (show(0:Int)<2147483399 by decide)
 have e:((pickN ns kk many:Nat):Int)=(dB ns kk*dB ns kk+dB ns kk / 31)%2147483629%(many:Int):=by
  unfold pickN;exact Int.toNat_of_nonneg (Int.emod_nonneg _ (by omega))
 rw[e];refine fB (fd:=bf (top 27)) rfl rfl (gj rfl (d:=.int (dB ns kk)) ?_ (dU ?_))
 ·refine cP (cP (cP (x:=.int (tK ns kk)) (y:=.int (6151*((kk:Int)+1))) ?_ ?_ rfl) (by walk_at "xv") (xJ (.inr (by decide)))) (by walk_at "xv") (Ho (by decide))
  ·refine' aW ?L60a_14a ?L60a_14b ?L60a_14c;(case L60a_14a=>rfl);(case L60a_14b=>walk_at "xm");(case L60a_14c=>exact cell _ ns kk)
  ·exact cP (by walk_at "xv") (cP (by walk_at "xv") (by walk_at "xv") rfl) (xJ (.inl (by decide)))
 ·refine cP (cP (cP (cP (by walk_at "xv") (by walk_at "xv") (xJ (.inl ?_))) (cP (by walk_at "xv") (by walk_at "xv") (Uc (by decide) (by decide))) rfl) (by walk_at "xv") (Ho (by decide))) (by walk_at "xv") (Ho (by omega))
  unfold small;unfold dB;rw[decide_eq_true (by omega),decide_eq_true (by omega)];rfl
theorem tZ{cx:Cxt}{n:Nat}{sc:Scope}{ρ:Rho}{e:Expr}{d d':D}(h:ev cx n sc ρ e=some d)(q:d=d'):ev cx n sc ρ e=some d':=q▸h
def tR:Nat->Nat
 | 0=>0
 | 1=>0
 | 2=>1
 | _=>4
theorem Fx(p:Nat):tR p<=4:=by unfold tR;split<;>omega
def ux(ns:List Int)(at':Nat):Nat->Nat->Int:=fun i j=>((pickN ns (at'+1+8*i+j) (6+tR (pickN ns at' 4)):Nat):Int)-((tR (pickN ns at' 4):Nat):Int)
theorem rQ{ns:List Int}{at' m n:Nat}:Sm m n (ux ns at'):=by
 intro i j _ _;unfold ux small;have h1:=cg (ns:=ns) (k:=at'+1+8*i+j) (many:=6+tR (pickN ns at' 4)) (by omega);have h2:=Fx (pickN ns at' 4);rw[decide_eq_true (by omega),decide_eq_true (by omega)];rfl
def Lp:Nat->Sl
 | 0=>.no
 | i+1=>.sh (.int (i:Int))
def Ky(ns:List Int)(a m n low:Nat)(md:List D)(rw:Sl):Rho:=[("_law_script",.sh (scr ns)),("_law_at",.sh (.int (a:Int))),("_law_rows",.sh (.int (m:Int))),("_law_columns",.sh (.int (n:Int))),("_law_low",.sh (.int (low:Int))),("_law_made",.ow md),("_law_row",rw)]
theorem table(k:Nat)(ns:List Int)(a:Nat){m n:Nat}(hm:m<=4)(hn:n<=4):aY T 60 (k+3) "_law_table" [scr ns,.int (a:Int),.int (m:Int),.int (n:Int)]=some (tbl m n (ux ns a)):=by
 have hp:=cg (ns:=ns) (k:=a) (many:=4) (by omega);refine fB (fd:=bf (top 28)) rfl rfl (gj rfl (d:=.int ((tR (pickN ns a 4):Nat):Int)) ?_ (gj rfl (d:=.lst []) (by walk_at "xv") (sW (l:=Ls m fun i=>.int (i:Int)) (fl1:=.nxt (Ky ns a m n (tR (pickN ns a 4)) (Ls m fun i=>row n (ux ns a i)) (Lp m))) ?_ ?_ (dU (cT rfl rfl rfl (by walk_at "xm") xY)))))
 ·refine xIx (x:=.lst [.int 0,.int 0,.int 1,.int 4]) (i:=((pickN ns a 4:Nat):Int)) (by walk_at "xv") ?_ rfl ?_
  ·refine aW rfl (by walk_at "xm") (pick (k+0) ns a (many:=4) (by omega))
  ·generalize pickN ns a 4=p at hp
   match p,hp with
   | 0,_=>rfl
   | 1,_=>rfl
   | 2,_=>rfl
   | 3,_=>rfl
 ·walk_at "xi"
 ·refine lW (R:=fun i=>Ky ns a m n (tR (pickN ns a 4)) (Ls i fun i=>row n (ux ns a i)) (Lp i)) fun i hi=>?_
  refine dz (ρ1:=Ky ns a m n (tR (pickN ns a 4)) (Ls i fun i=>row n (ux ns a i)) (.sh (.int (i:Int)))) rfl ?_;show _=some (Fl.nxt (Ky ns a m n (tR (pickN ns a 4)) (Ls (i+1) fun i=>row n (ux ns a i)) (Lp (i+1))));rw[jH];refine RB (d:=row n (ux ns a i)) rfl rfl rfl (jL (by rw[bF];omega)) ?_ rfl;refine cT rfl rfl rfl (ao ?_ bx) xY;refine' cR ?L60a_15a ?L60a_15b ?L60a_15c (cu ?L60a_15d);(case L60a_15a=>rfl);(case L60a_15b=>walk_at "xi");(case L60a_15c=>exact kE (by omega))
  case L60a_15d =>
   intro j hj;refine' dZ ?L60a_15e ?L60a_15f;(case L60a_15e=>rfl)
   case L60a_15f =>
    refine cP (x:=.int ((pickN ns (a+1+8*i+j) (6+tR (pickN ns a 4)):Nat):Int)) (aW rfl (ao ?_ (ao ?_ (ao ?_ bx))) (pick (k+0) ns (a+1+8*i+j) (many:=6+tR (pickN ns a 4)) (by omega))) (by walk_at "xv") rfl
    ·walk_at "xv"
    ·refine tZ (cP (cP (cP (by walk_at "xv") (by walk_at "xv") rfl) (cP (by walk_at "xv") (by walk_at "xv") (xJ (.inl (by decide)))) rfl) (by walk_at "xv") rfl) (congrArg D.int (by omega))
    ·refine tZ (cP (by walk_at "xv") (by walk_at "xv") rfl) (congrArg D.int (by omega))
theorem row_by_column(k:Nat){n:Nat}{f g:Nat->Int}(h4:n<=4)(hs:∀ j,j<n->small (f j)=true\/small (g j)=true):aY T 60 (k+1) "row_by_column" [row n f,row n g]=some (.int (uE n fun j=>f j*g j)):=by
 refine fB (fd:=bf (top 17)) rfl rfl (dU (cT rfl rfl rfl (ao ?_ bx) RK));refine' cR ?L60a_16a ?L60a_16b ?L60a_16c (cu ?L60a_16d);(case L60a_16a=>rfl);(case L60a_16b=>walk_at "xi");(case L60a_16c=>exact kE (by omega))
 case L60a_16d =>
  intro j hj;refine' dZ ?L60a_16e ?L60a_16f;(case L60a_16e=>rfl)
  case L60a_16f =>
   refine' cP ?a1 ?a2 (xJ (hs j hj));(case a1=>walk_at "xv");(case a2=>walk_at "xv")
def mul(n:Nat)(f g:Nat->Nat->Int):Nat->Nat->Int:=fun i j=>uE n fun l=>f i l*g l j
end M60
namespace M60
open PySem DE
def fK(d:D)(s1 s2:Sl):Rho:=[("_law_thing",.sh d),("_law_most",.sh .non),("_law_row",s1),("_law_one",s2)]
def SlK(s:Sl):Prop:=s=.no\/∃ d,s=.sh d
def bC(i j:Nat):Stmt:=(bf (top i)).body.getD j (.Pass ⟨0,0,0,0⟩)
def cY:Stmt->List Stmt
 | .For _ _ b _ _=>b
 | _=>[]
def jP:Stmt->Expr
 | .For t _ _ _ _=>t
 | _=>.Name "" ⟨0,0,0,0⟩
abbrev s93:Scope:=(bf (top 38)).sc
abbrev f93:Stmt:=bC 38 3
abbrev i93:Stmt:=(cY f93).getD 0 (.Pass ⟨0,0,0,0⟩)
theorem inner(k:Nat){d:D}{s2:Sl}(h2:SlK s2){r x:D}(hx:dep x<1000) :
  (whole x=true->∃ ρ',(∃ s,SlK s/\ρ'=fK d (.sh r) s)/\fF (cxN T 60 k) 60 58 s93 (jP i93) (cY i93) x (fK d (.sh r) s2)=some (.nxt ρ')) /\
  (whole x=false->fF (cxN T 60 k) 60 58 s93 (jP i93) (cY i93) x (fK d (.sh r) s2)=some (.ret (.bl false))):=by
 cases hw:whole x with
 | false =>
  refine⟨fun q=>(nomatch q),fun _=>?_⟩
  cases hb:jY "bool" x with
  | true =>
   cases x<;>simp[jY] at hb
   refine dz rfl (mL (fl1:=.ret (.bl false)) (dw (rK (iU (oV rfl rfl rfl (by walk_at "xv") rfl)) (Cw (oV rfl rfl rfl (by walk_at "xv") rfl)))) (dU (by walk_at "xv")) rfl)
  | false =>
   have hi:jY "int" x=false:=by cases x<;>first | rfl | (simp[whole] at hw;done) | (simp[jY] at hb;done)
   refine dz rfl (mL (fl1:=.ret (.bl false)) (dw (Cw (j9 (oV rfl rfl rfl (by walk_at "xv") hi rfl (KJ hx))))) (dU (by walk_at "xv")) rfl)
 | true =>
  cases x<;>simp[whole] at hw
  rename_i i;refine⟨fun _=>⟨_,⟨.sh (.int i),.inr ⟨_,rfl⟩,rfl⟩,?_⟩,fun q=>nomatch q⟩;exact dz rfl (qT (dw (rK (iU (oV rfl rfl rfl (by walk_at "xv") rfl)) (rK (oV rfl rfl rfl (by walk_at "xv") rfl) (rM (dw (CG (d7 (by walk_at "xv") (by walk_at "xv") rfl))))))) nO)
theorem outer(k:Nat){d:D}{s1 s2:Sl}(h1:SlK s1)(h2:SlK s2){x:D}(hx:dep x<1000)(hs:aO x=true) :
  ((cj x).all (whole)=true->∃ ρ',(∃ s s',SlK s/\SlK s'/\ρ'=fK d s s')/\fF (cxN T 60 k) 60 59 s93 (jP f93) (cY f93) x (fK d s1 s2)=some (.nxt ρ')) /\
  ((cj x).all (whole)=false->fF (cxN T 60 k) 60 59 s93 (jP f93) (cY f93) x (fK d s1 s2)=some (.ret (.bl false))):=by
 obtain⟨ys,rfl,y1,y4⟩:=cJ hs
 have go:=ju (f:=fF (cxN T 60 k) 60 58 s93 (jP i93) (cY i93)) (ok:=whole) (r:=.bl false) (P:=fun ρ=>∃ s,SlK s/\ρ=fK d (.sh (.tup ys)) s) (l:=ys) (ρ:=fK d (.sh (.tup ys)) s2) ⟨s2,h2,rfl⟩ fun x hx' ρ hP=>by
  obtain⟨s,hs,rfl⟩:=hP;exact inner k hs (mC hx x hx')
 have hF:frz 60 (.Name "_law_row" ⟨0,0,0,0⟩) (fK d (.sh (.tup ys)) s2)=fK d (.sh (.tup ys)) s2:=by rcases h2 with rfl | ⟨z,rfl⟩<;>rfl
 refine⟨fun q=>?_,fun q=>?_⟩
 ·obtain⟨ρ',⟨s,hs,rfl⟩,hg⟩:=go.1 q
  refine⟨fK d (.sh (.tup ys)) s,⟨.sh (.tup ys),s,.inr ⟨_,rfl⟩,hs,rfl⟩,?_⟩;rcases h2 with rfl | ⟨z,rfl⟩
  ·exact dz rfl (sW (l:=ys) (wSq rfl (by walk_at "xv") rfl) hg rfl)
  ·exact dz rfl (sW (l:=ys) (wSq rfl (by walk_at "xv") rfl) hg rfl)
 ·have hg:=go.2 q
  rcases h2 with rfl | ⟨z,rfl⟩
  ·exact dz rfl (sW (l:=ys) (wSq rfl (by walk_at "xv") rfl) hg rfl)
  ·exact dz rfl (sW (l:=ys) (wSq rfl (by walk_at "xv") rfl) hg rfl)
def mK(d:D):Bool:=bQ d&&(cj d).all fun r=>(cj r).all (whole)
theorem wJ{l:List D}:deq (.lst l) (.lst [])=l.isEmpty:=by cases l<;>rfl
theorem wL{us:List D}{b:Nat}{t:D->Bool}(h:deps us<=b):dep (.lst ((us.filter t).map id))<=b+1:=by
 simp only[dep]
 have:=cZ (b:=b) (l:=(us.filter t).map id) fun d hd=>by
  rw[List.map_id] at hd;exact Nat.le_trans (gJ (List.mem_filter.mp hd).1) h
 omega
theorem JM(k:Nat){d:D}(h:dep d<=40):aY T 60 (k+1) "_law_is_table" [d,.non]=some (.bl (mK d)):=by
 cases ht:jY "tuple" d with
 | false =>
  have e:mK d=false:=by cases d<;>first | rfl | (simp[jY] at ht;done)
  rw[e];exact fB (fd:=bf (top 38)) rfl rfl (mL (fl1:=.ret (.bl false)) (dw (Cw (j9 (oV rfl rfl rfl (by walk_at "xv") ht rfl (KJ (by omega)))))) (dU (by walk_at "xv")) rfl)
 | true =>
  cases d<;>simp[jY] at ht
  rename_i us
  have hus:deps us<=39:=by simp only[dep] at h;omega
  have hd:∀ x∈us,dep x<1000:=fun x hx=>by have:=gJ hx;omega
  by_cases g1:1<=us.length
  rotate_left
  ·have e:mK (.tup us)=false:=by
    have:aO (.tup us)=false:=by simp only[aO];rw[decide_eq_false g1];rfl
    simp only[mK,bQ,this,Bool.false_and]
   rw[e];exact fB (fd:=bf (top 38)) rfl rfl (mL (fl1:=.ret (.bl false)) (dw (rK (iU (oV rfl rfl rfl (by walk_at "xv") rfl)) (rM (j9 (Cz (by walk_at "xv") (cT rfl rfl rfl (by walk_at "xm") gO) (Hj (by omega))))))) (dU (by walk_at "xv")) rfl)
  by_cases g4:us.length<=4
  rotate_left
  ·have e:mK (.tup us)=false:=by
    have:aO (.tup us)=false:=by simp only[aO];rw[decide_eq_false g4,Bool.and_false]
    simp only[mK,bQ,this,Bool.false_and]
   rw[e];exact fB (fd:=bf (top 38)) rfl rfl (mL (fl1:=.ret (.bl false)) (dw (rK (iU (oV rfl rfl rfl (by walk_at "xv") rfl)) (rM (j9 (uc (by walk_at "xv") (cT rfl rfl rfl (by walk_at "xm") gO) (oLe (by omega)) (by walk_at "xv") (Hj (by omega))))))) (dU (by walk_at "xv")) rfl)
  have hs:aO (.tup us)=true:=by simp only[aO];rw[decide_eq_true g1,decide_eq_true g4];rfl
  refine fB (fd:=bf (top 38)) rfl rfl (qT (dw (rK (iU (oV rfl rfl rfl (by walk_at "xv") rfl)) (rM (iU (uc (by walk_at "xv") (cT rfl rfl rfl (by walk_at "xm") gO) (oLe (by omega)) (by walk_at "xv") (oLe (by omega))))))) ?_)
  have c2:∀ b,(us.filter fun x => !jY "tuple" x).isEmpty=b->ev (cxN T 60 k) 60 s93 (fK (.tup us) .no .no) (match bC 38 1 with | .If c _ _ _=>c | _=>.Name "" ⟨0,0,0,0⟩)=some (.bl (!b)):=by
   intro b hb;have hne:=wL (t:=fun x => !jY "tuple" x) hus;refine d7 (x:=.lst ((us.filter fun x => !jY "tuple" x).map id)) (y:=.lst []) (cR (l:=us) rfl (wSq rfl (by walk_at "xv") rfl) (jL (by omega)) (jC fun x hx=>fP rfl (Ks (oV rfl rfl rfl (by walk_at "xv") rfl rfl (KJ (hd x hx)))) (by walk_at "xv"))) (by walk_at "xv") ?_;rw[oNe (by omega) (by simp[dep,deps]),wJ,List.map_id,hb]
  cases ha:us.all (jY "tuple") with
  | false =>
   have e:mK (.tup us)=false:=by
    have:us.all aO=false:=by
     rw[List.all_eq_false] at ha ⊢;obtain⟨x,hx,hn⟩:=ha;exact⟨x,hx,fun q=>hn (by obtain⟨ys,rfl,_⟩:=cJ q;rfl)⟩
    simp only[mK,bQ,this,Bool.and_false,Bool.false_and]
   rw[e];refine mL (fl1:=.ret (.bl false)) (c2 false ?_) (dU (by walk_at "xv")) rfl;rw[List.all_eq_false] at ha;obtain⟨x,hx,hn⟩:=ha;rw[List.isEmpty_eq_false_iff];exact List.ne_nil_of_mem (List.mem_filter.mpr ⟨hx,by simpa using hn⟩)
  | true =>
   refine qT (c2 true ?_) ?_
   ·rw[List.isEmpty_iff,List.filter_eq_nil_iff]
    intro x hx;simpa using List.all_eq_true.mp ha x hx
   have htup:∀ x∈us,∃ ys,x=.tup ys:=fun x hx=>by
    have:=List.all_eq_true.mp ha x hx
    cases x<;>simp[jY] at this
    exact⟨_,rfl⟩
   obtain⟨z,zs,hz⟩:∃ z zs,us=z::zs:=by
    cases us with
    | nil=>simp at g1
    | cons z zs=>exact⟨z,zs,rfl⟩
   obtain⟨ws,hw⟩:=htup z (by rw[hz];simp)
   have at0':atD us 0=some (.tup ws):=by rw[hz,hw];exact at0
   have hhead:us.headD .non=.tup ws:=by rw[hz,hw];rfl
   by_cases w1:1<=ws.length
   rotate_left
   ·have e:mK (.tup us)=false:=by
     have:us.all aO=false:=by
      rw[List.all_eq_false];exact⟨z,by rw[hz];simp,by rw[hw];simp only[aO];rw[decide_eq_false w1];simp⟩
     simp only[mK,bQ,this,Bool.and_false,Bool.false_and]
    rw[e];exact mL (fl1:=.ret (.bl false)) (dw (Cw (j9 (Cz (by walk_at "xv") (cT rfl rfl rfl (ao (xIx (by walk_at "xv") (by walk_at "xv") rfl at0') bx) gO) (Hj (by omega)))))) (dU (by walk_at "xv")) rfl
   by_cases w4:ws.length<=4
   rotate_left
   ·have e:mK (.tup us)=false:=by
     have:us.all aO=false:=by
      rw[List.all_eq_false];exact⟨z,by rw[hz];simp,by rw[hw];simp only[aO];rw[decide_eq_false w4];simp⟩
     simp only[mK,bQ,this,Bool.and_false,Bool.false_and]
    rw[e];exact mL (fl1:=.ret (.bl false)) (dw (Cw (j9 (uc (by walk_at "xv") (cT rfl rfl rfl (ao (xIx (by walk_at "xv") (by walk_at "xv") rfl at0') bx) gO) (oLe (by omega)) (by walk_at "xv") (Hj (by omega)))))) (dU (by walk_at "xv")) rfl
   have c3:∀ b,(us.filter fun x => !(tU x==ws.length)).isEmpty=b->ev (cxN T 60 k) 60 s93 (fK (.tup us) .no .no) (match bC 38 2 with | .If c _ _ _=>c | _=>.Name "" ⟨0,0,0,0⟩)=some (.bl (!b)):=by
    intro b hb;have hne:=wL (t:=fun x => !(tU x==ws.length)) hus;refine dw (rK (iU (uc (by walk_at "xv") (cT rfl rfl rfl (ao (xIx (by walk_at "xv") (by walk_at "xv") rfl at0') bx) gO) (oLe (by omega)) (by walk_at "xv") (oLe (by omega)))) (rM ?_));refine d7 (x:=.lst ((us.filter fun x => !(tU x==ws.length)).map id)) (y:=.lst []) (cR (l:=us) rfl (wSq rfl (by walk_at "xv") rfl) (jL (by omega)) (jC fun x hx=>?_)) (by walk_at "xv") ?_
    ·obtain⟨ys,rfl⟩:=htup x hx
     refine fP rfl (d7 (x:=.int (ys.length:Int)) (y:=.int (ws.length:Int)) (cT rfl rfl rfl (by walk_at "xm") gO) (cT rfl rfl rfl (ao (xIx (by walk_at "xv") (by walk_at "xv") rfl at0') bx) gO) ?_) (by walk_at "xv");rw[oNe (by simp[dep]) (by simp[dep])];congr 2;show(!((ys.length:Int)==(ws.length:Int))) = !(ys.length==ws.length);congr 1;rw[Bool.eq_iff_iff];simp only[beq_iff_eq];omega
    ·rw[oNe (by omega) (by simp[dep,deps]),wJ,List.map_id,hb]
   cases hl:lens us with
   | false =>
    have e:mK (.tup us)=false:=by simp only[mK,bQ,hl,Bool.and_false,Bool.false_and]
    rw[e];refine mL (fl1:=.ret (.bl false)) (c3 false ?_) (dU (by walk_at "xv")) rfl;unfold lens at hl;rw[hhead,List.all_eq_false] at hl;obtain⟨x,hx,hn⟩:=hl;rw[List.isEmpty_eq_false_iff];exact List.ne_nil_of_mem (List.mem_filter.mpr ⟨hx,by simpa[tU] using hn⟩)
   | true =>
    have hl':∀ x∈us,tU x=ws.length:=fun x hx=>by
     unfold lens at hl;rw[hhead] at hl;simpa[tU] using List.all_eq_true.mp hl x hx
    have hsh:us.all aO=true:=by
     rw[List.all_eq_true];intro x hx;obtain⟨ys,rfl⟩:=htup x hx;have:=hl' _ hx;simp only[tU] at this;simp only[aO,this];rw[decide_eq_true w1,decide_eq_true w4];rfl
    have e:mK (.tup us)=us.all fun r=>(cj r).all (whole):=by simp only[mK,bQ,hs,hsh,hl,Bool.true_and,cj]
    rw[e];refine qT (c3 true ?_) ?_
    ·rw[List.isEmpty_iff,List.filter_eq_nil_iff]
     intro x hx;simp[hl' x hx]
    have go:=ju (f:=fF (cxN T 60 k) 60 59 s93 (jP f93) (cY f93)) (ok:=fun r=>(cj r).all (whole)) (r:=.bl false) (P:=fun ρ=>∃ s s',SlK s/\SlK s'/\ρ=fK (.tup us) s s') (l:=us) (ρ:=fK (.tup us) .no .no) ⟨.no,.no,.inl rfl,.inl rfl,rfl⟩ fun x hx ρ hP=>by
     obtain⟨s,s',q1,q2,rfl⟩:=hP;exact outer k q1 q2 (hd x hx) (List.all_eq_true.mp hsh x hx)
    cases hq:us.all fun r=>(cj r).all (whole) with
    | true =>
     obtain⟨ρ',⟨s,s',q1,q2,rfl⟩,hg⟩:=go.1 hq;refine sW (l:=us) (wSq rfl (by walk_at "xv") rfl) hg ?_
     rcases q1 with rfl | ⟨d1,rfl⟩<;>rcases q2 with rfl | ⟨d2,rfl⟩<;>exact dU (by walk_at "xv")
    | false=>exact sW (l:=us) (wSq rfl (by walk_at "xv") rfl) (go.2 hq) rfl
theorem qJ{t:D->Bool}:∀ us:List D,(nums us).all t=us.all fun r=>(cj r).all t
 | []=>rfl
 | r::us=>by simp only[nums,List.all_append,List.all_cons,qJ us]
theorem FJ(d:D):mK d=eN d:=by
 unfold mK eN;rw[qJ]
theorem JW(k:Nat){d:D}(h:dep d<=40):aY T 60 (k+1) "_law_is_table" [d,.non]=some (.bl (eN d)):=FJ d▸JM k h
theorem sI(k:Nat)(i:Int):aY T 60 (k+1) "_law_places" [.int i]=some (.lst [.tup []]):=by kernel_rfl
def kS:Nat->Sl
 | 0=>.no
 | i+1=>.sh (.int (i:Int))
def pA(d:D)(l:List D)(s:Sl):Rho:=[("_law_thing",.sh d),("_law_made",.ow l),("_law_k",s)]
theorem Iv(k:Nat)(d:D)(l:List D)(i:Nat):blk (cxN T 60 k) 60 60 (bf (top 35)).sc ((bf (top 35)).body.drop 2) (pA d l (kS i))=some (.ret (.lst l)):=by
 cases i with
 | zero=>exact dU (by walk_at "xv")
 | succ i=>exact dU (by walk_at "xv")
theorem sE(k:Nat){n:Nat}{f:Nat->Int}(hn:n<=5):aY T 60 (k+2) "_law_places" [row n f]=some (.lst (.tup []::Ls n fun j=>.tup [.int (j:Int)])):=by
 refine fB (fd:=bf (top 35)) rfl rfl (gj rfl (d:=.lst [.tup []]) (by walk_at "xv") (mL (fl1:=.nxt (pA (row n f) (.tup []::Ls n fun j=>.tup [.int (j:Int)]) (kS n))) (oV rfl rfl rfl (by walk_at "xv") rfl) (sW (l:=Ls n fun j=>.int (j:Int)) (fl1:=.nxt (pA (row n f) (.tup []::Ls n fun j=>.tup [.int (j:Int)]) (kS n))) (Hx rfl (cT rfl rfl rfl (by walk_at "xm") G3) (by omega)) ?_ rfl) (Iv _ _ _ _)));refine lW (R:=fun i=>pA (row n f) (.tup []::Ls i fun j=>.tup [.int (j:Int)]) (kS i)) fun i hi=>?_;rw[jH];refine dz rfl (Qd (zs:=[.tup [.int (i:Int)]]) rfl rfl rfl rfl (jL (by simp[bF];omega)) ?_ rfl);refine cR (l:=[.tup []]) rfl (wSq rfl (aW rfl (ao (G9 (by walk_at "xv") (by walk_at "xv") hi rfl rfl) bx) (sI k (f i))) rfl) rfl ?_
 exact cI (g:=fun _=>.tup [.int (i:Int)]) fun x hx=>by
  have e:x=.tup []:=by simpa using hx
  subst e;exact dZ rfl (cP (by walk_at "xv") (by walk_at "xv") rfl)
def pl2(n:Nat):Nat->List D
 | 0=>[]
 | i+1=>pl2 n i++(.tup [.int (i:Int)]::Ls n fun j=>.tup [.int (i:Int),.int (j:Int)])
theorem pC(n:Nat):∀ i,(pl2 n i).length=i*(n+1)
 | 0=>by simp[pl2]
 | i+1=>by
  simp only[pl2,List.length_append,List.length_cons,bF,pC n i];rw[Nat.add_mul];omega
theorem sy(k:Nat){m n:Nat}{f:Nat->Nat->Int}(hm:m<=5)(hn:n<=5):aY T 60 (k+3) "_law_places" [tbl m n f]=some (.lst (.tup []::pl2 n m)):=by
 refine fB (fd:=bf (top 35)) rfl rfl (gj rfl (d:=.lst [.tup []]) (by walk_at "xv") (mL (fl1:=.nxt (pA (tbl m n f) (.tup []::pl2 n m) (kS m))) (oV rfl rfl rfl (by walk_at "xv") rfl) (sW (l:=Ls m fun j=>.int (j:Int)) (fl1:=.nxt (pA (tbl m n f) (.tup []::pl2 n m) (kS m))) (Hx rfl (cT rfl rfl rfl (by walk_at "xm") G3) (by omega)) ?_ rfl) (Iv _ _ _ _)));refine lW (R:=fun i=>pA (tbl m n f) (.tup []::pl2 n i) (kS i)) fun i hi=>?_;have hlen:=pC n i;have hb:i*(n+1)<=5*6:=Nat.mul_le_mul (by omega) (by omega);refine dz rfl (Qd (zs:=.tup [.int (i:Int)]::Ls n fun j=>.tup [.int (i:Int),.int (j:Int)]) rfl rfl rfl rfl (jL (by simp only[List.length_cons,bF];omega)) ?_ rfl);refine cR (l:=.tup []::Ls n fun j=>.tup [.int (j:Int)]) rfl (wSq rfl (aW rfl (ao (G9 (by walk_at "xv") (by walk_at "xv") hi rfl rfl) bx) (sE k hn)) rfl) (jL (by simp only[List.length_cons,bF];omega)) ?_;rw[cI (g:=fun x=>.tup (.int (i:Int)::cj x)) fun x hx=>?_]
 ·rw[List.map_cons,j6];rfl
 ·have hx':∃ ys,x=.tup ys/\ys.length<=1:=by
   rcases List.mem_cons.mp hx with rfl | hx
   ·exact⟨[],rfl,by simp⟩
   ·unfold Ls at hx
    obtain⟨j,_,rfl⟩:=List.mem_map.mp hx;exact⟨_,rfl,by simp⟩
  obtain⟨ys,rfl,hy⟩:=hx';exact dZ rfl (cP (by walk_at "xv") (by walk_at "xv") (xK (us:=[.int (i:Int)]) (by simp;omega)))
inductive Pl (m n:Nat):D->Prop
 | top:Pl m n (.tup [])
 | row {i:Nat}:i<m->Pl m n (.tup [.int (i:Int)])
 | at {i j:Nat}:i<m->j<n->Pl m n (.tup [.int (i:Int),.int (j:Int)])
theorem u0{m n:Nat}{x:D}:∀ i,i<=m->x∈pl2 n i->Pl m n x
 | 0,_,h=>by simp[pl2] at h
 | i+1,hi,h=>by
  simp only[pl2,List.mem_append,List.mem_cons] at h;rcases h with h | rfl | h
  ·exact u0 i (by omega) h
  ·exact .row (by omega)
  ·unfold Ls at h
   obtain⟨j,hj,rfl⟩:=List.mem_map.mp h;exact .at (by omega) (List.mem_range.mp hj)
theorem pB(k:Nat){d new:D}:aY T 60 (k+1) "_law_put" [d,.tup [],new]=some new:=by
 refine fB (fd:=bf (top 36)) rfl rfl (mL (fl1:=.ret new) (d7 (by walk_at "xv") (by walk_at "xv") rfl) (dU (by walk_at "xv")) rfl)
theorem uW(k:Nat){us ps:List D}{i:Nat}{new v x:D}(hx:us[i]?=some x)(h5:us.length<=100)(hp:ps.length<=3)(hd:deps ps<=3)(h:aY T 60 k "_law_put" [x,.tup ps,new]=some v):aY T 60 (k+1) "_law_put" [.tup us,.tup (.int (i:Int)::ps),new]=some (.tup (us.take i++[v]++us.drop (i+1))):=by
 have hi:i<us.length:=(List.getElem?_eq_some_iff.mp hx).1;refine fB (fd:=bf (top 36)) rfl rfl (qT (d7 (x:=.tup (.int (i:Int)::ps)) (y:=.tup []) (by walk_at "xv") (by walk_at "xv") ?_) (gj rfl (d:=.int (i:Int)) (xIx (by walk_at "xv") (by walk_at "xv") rfl at0) (dU ?_)))
 ·rw[oEq (by simp only[dep,deps];omega) (by simp[dep,deps])];rfl
 ·refine cP (x:=.tup (us.take i++[v])) (y:=.tup (us.drop (i+1))) (cP (x:=.tup (us.take i)) (y:=.tup [v]) (K7 (by walk_at "xv") (by walk_at "xv") hi) (tY (ao ?_ bx) rfl) (xK (by simp;omega))) (j8 (by walk_at "xv") ?_ (by omega) (by omega)) (xK (by simp;omega))
  ·refine aW rfl (ao (xIx (by walk_at "xv") (by walk_at "xv") rfl (gP hx)) (ao (x:=.tup ps) ?_ (ao (by walk_at "xv") bx))) h
   exact j8 (us:=.int (i:Int)::ps) (i:=1) (by walk_at "xv") (by walk_at "xv") (by omega) (by simp)
  ·exact cP (by walk_at "xv") (by walk_at "xv") rfl
theorem GZ{us:List D}:blt "len" [.lst us]=some (.int (us.length:Int)):=rfl
def uM(h:D):List D:=[.int 99,.int (-99),.int 100,.int (-100),.bl true,.non,.str "1",.tup [],.tup [.int 1,.int 2],.tup [.tup [.int 1]],.lst [.int 1,.int 2],.tup [h,h],.int 0,.int (-1)]
theorem yE{h x:D}(hh:dep h<=2)(hx:x∈uM h):dep x<=3:=by
 simp only[uM,List.mem_cons,List.not_mem_nil,or_false] at hx
 rcases hx with rfl | rfl | rfl | rfl | rfl | rfl | rfl | rfl | rfl | rfl | rfl | rfl | rfl | rfl<;>simp[dep,deps]<;>omega
def jN(ns:List Int)(a:Nat)(t:D)(L:List D)(x h:D)(s:Sl):Rho:=[("_law_script",.sh (scr ns)),("_law_at",.sh (.int (a:Int))),("_law_thing",.sh t),("_law_places_here",.sh (.lst L)),("_law_place",.sh x),("_law_here",.sh h),("_law_k",s),("_law_some_here",.no)]
theorem get_some{l:List D}{i:Nat}(h:i<l.length):∃ x,l[i]?=some x/\x∈l:=⟨l[i],List.getElem?_eq_getElem h,List.getElem_mem h⟩
theorem o9(k:Nat){ns:List Int}{a:Nat}{t x h:D}{L:List D}{s:Sl}(hs:nOw s=true)(hh:dep h<=2)(hput:∀ new,dep new<=3->∃ v,dep v<=10/\aY T 60 (k+3) "_law_put" [t,x,new]=some v) :
  ∃ v,dep v<=10/\blk (cxN T 60 (k+3)) 60 60 (bf (top 37)).sc ((bf (top 37)).body.drop 4) (jN ns a t L x h s)=some (.ret v):=by
 have hp:=cg (ns:=ns) (k:=a+1) (many:=14) (by decide);obtain⟨new,g1,g2⟩:=get_some (l:=uM h) (i:=pickN ns (a+1) 14) hp;obtain⟨v,v1,v2⟩:=hput new (yE hh g2);refine⟨v,v1,?_⟩;have hq:aY T 60 (k+3) "_law_pick" [scr ns,.int ((a+1:Nat):Int),.int ((14:Nat):Int)]=some (.int ((pickN ns (a+1) 14:Nat):Int)):=pick (k+1) ns (a+1) (many:=14) (by decide)
 cases s with
 | ow ds=>simp[nOw] at hs
 | oo ds=>simp[nOw] at hs
 | no=>exact gj rfl (d:=.lst (uM h)) (by walk_at "xv") (dU (aW rfl (ao (by walk_at "xv") (ao (by walk_at "xv") (ao (xIx (i:=((pickN ns (a+1) 14:Nat):Int)) (by walk_at "xv") (aW rfl (ao (by walk_at "xv") (ao (cP (by walk_at "xv") (by walk_at "xv") rfl) (ao (by walk_at "xv") bx))) hq) rfl (gP g1)) bx))) v2))
 | sh d=>exact gj rfl (d:=.lst (uM h)) (by walk_at "xv") (dU (aW rfl (ao (by walk_at "xv") (ao (by walk_at "xv") (ao (xIx (i:=((pickN ns (a+1) 14:Nat):Int)) (by walk_at "xv") (aW rfl (ao (by walk_at "xv") (ao (cP (by walk_at "xv") (by walk_at "xv") rfl) (ao (by walk_at "xv") bx))) hq) rfl (gP g1)) bx))) v2))
theorem pR{us:List D}{i:Nat}{v:D}{b:Nat}(h1:deps us<=b)(h2:dep v<=b):dep (.tup (us.take i++[v]++us.drop (i+1)))<=b+1:=by
 simp only[dep];have:=wM (wM (us:=us.take i) (vs:=[v]) (Ah h1) (by simp only[deps];omega)) (Ai (i:=i+1) h1);omega
theorem Ib(k:Nat)(ns:List Int)(a:Nat){m n:Nat}{f:Nat->Nat->Int}(hm1:1<=m)(hm:m<=5)(hn:n<=5):∃ v,dep v<=10/\aY T 60 (k+4) "_law_spoilt_thing" [scr ns,.int (a:Int),tbl m n f]=some v:=by
 have hL:(D.tup []::pl2 n m).length=m*(n+1)+1:=by simp only[List.length_cons,pC]
 have hp:=cg (ns:=ns) (k:=a) (many:=(D.tup []::pl2 n m).length) (by rw[hL];omega)
 obtain⟨x,g1,g2⟩:=get_some hp
 have hpl:Pl m n x:=by
  rcases List.mem_cons.mp g2 with rfl | g2
  ·exact .top
  ·exact u0 m (Nat.le_refl _) g2
 have dt:dep (tbl m n f)<=2:=wK
 have drs:deps (Ls m fun i=>D.tup (Ls n fun j=>D.int (f i j)))<=1:=by simp only[dep] at dt;omega
 have drow:∀ i,deps (Ls n fun j=>D.int (f i j))<=0:=fun i=>by have:=dep_row (n:=n) (f:=f i);simp only[dep] at this;omega
 have head:∀ {s:Sl} {h v:D} {ps:List D},x=.tup ps->bG (fF (cxN T 60 (k+3)) 60 59 (bf (top 37)).sc (jP (bC 37 3)) (cY (bC 37 3))) ps (jN ns a (tbl m n f) (.tup []::pl2 n m) (.tup ps) (tbl m n f) .no)=some (.nxt (jN ns a (tbl m n f) (.tup []::pl2 n m) (.tup ps) h s)) ->
   blk (cxN T 60 (k+3)) 60 60 (bf (top 37)).sc ((bf (top 37)).body.drop 4) (jN ns a (tbl m n f) (.tup []::pl2 n m) (.tup ps) h s)=some (.ret v)->aY T 60 (k+4) "_law_spoilt_thing" [scr ns,.int (a:Int),tbl m n f]=some v:=by
  intro s h v ps hx hgo hret;rw[hx] at g1;refine fB (fd:=bf (top 37)) rfl rfl (gj rfl (d:=.lst (.tup []::pl2 n m)) ?_ (gj rfl (d:=.tup ps) ?_ (gj rfl (d:=tbl m n f) (by walk_at "xv") (sW (l:=ps) (wSq rfl (by walk_at "xv") rfl) hgo hret))))
  ·refine' aW ?L60b_1a ?L60b_1b ?L60b_1c;(case L60b_1a=>rfl);(case L60b_1b=>walk_at "xm");(case L60b_1c=>exact sy k hm hn)
  ·refine xIx (by walk_at "xv") ?_ rfl (gP g1)
   refine aW rfl (ao (by walk_at "xv") (ao (by walk_at "xv") (ao (cT rfl rfl rfl (by walk_at "xm") GZ) bx))) (pick (k+1) ns a ?_);rw[hL];omega
 cases hpl with
 | top =>
  obtain⟨v,v1,v2⟩:=o9 (ns:=ns) (a:=a) (t:=tbl m n f) (x:=.tup []) (h:=tbl m n f) (L:=.tup []::pl2 n m) (s:=.no) k rfl dt fun new hnew=>⟨new,by omega,pB _⟩;exact⟨v,v1,head rfl rfl v2⟩
 | @row i hi =>
  obtain⟨v,v1,v2⟩:=o9 (ns:=ns) (a:=a) (t:=tbl m n f) (x:=.tup [.int (i:Int)]) (h:=row n (f i)) (L:=.tup []::pl2 n m) (s:=.sh (.int (i:Int))) k rfl (by have:=dep_row (n:=n) (f:=f i);omega) fun new hnew =>
   ⟨_,Nat.le_trans (pR (b:=3) (Nat.le_trans drs (by omega)) hnew) (by omega),uW (k+2) (ps:=[]) (fH hi) (by rw[bF];omega) (by simp) (by simp[deps]) (pB _)⟩
  refine⟨v,v1,head rfl ?_ v2⟩
  have:fF (cxN T 60 (k+3)) 60 59 (bf (top 37)).sc (jP (bC 37 3)) (cY (bC 37 3)) (.int (i:Int)) (jN ns a (tbl m n f) (.tup []::pl2 n m) (.tup [.int (i:Int)]) (tbl m n f) .no)=some (.nxt (jN ns a (tbl m n f) (.tup []::pl2 n m) (.tup [.int (i:Int)]) (row n (f i)) (.sh (.int (i:Int))))) :=
   dz rfl (gj rfl (d:=row n (f i)) (xIx (by walk_at "xv") (by walk_at "xv") rfl (oJ hi)) rfl)
  show bG _ [D.int (i:Int)] _=_;simp only[bG,this];rfl
 | @«at» i j hi hj =>
  obtain⟨v,v1,v2⟩:=o9 (ns:=ns) (a:=a) (t:=tbl m n f) (x:=.tup [.int (i:Int),.int (j:Int)]) (h:=.int (f i j)) (L:=.tup []::pl2 n m) (s:=.sh (.int (j:Int))) k rfl (by simp[dep]) fun new hnew =>
   ⟨_,Nat.le_trans (pR (b:=4) (Nat.le_trans drs (by omega)) (pR (b:=3) (Nat.le_trans (drow i) (by omega)) hnew)) (by omega),uW (k+2) (ps:=[.int (j:Int)]) (fH hi) (by rw[bF];omega) (by simp) (by simp[deps,dep]) (uW (k+1) (ps:=[]) (fH hj) (by rw[bF];omega) (by simp) (by simp[deps]) (pB _))⟩
  refine⟨v,v1,head rfl ?_ v2⟩
  have e1:fF (cxN T 60 (k+3)) 60 59 (bf (top 37)).sc (jP (bC 37 3)) (cY (bC 37 3)) (.int (i:Int)) (jN ns a (tbl m n f) (.tup []::pl2 n m) (.tup [.int (i:Int),.int (j:Int)]) (tbl m n f) .no)=some (.nxt (jN ns a (tbl m n f) (.tup []::pl2 n m) (.tup [.int (i:Int),.int (j:Int)]) (row n (f i)) (.sh (.int (i:Int))))) :=
   dz rfl (gj rfl (d:=row n (f i)) (xIx (by walk_at "xv") (by walk_at "xv") rfl (oJ hi)) rfl)
  have e2:fF (cxN T 60 (k+3)) 60 59 (bf (top 37)).sc (jP (bC 37 3)) (cY (bC 37 3)) (.int (j:Int)) (jN ns a (tbl m n f) (.tup []::pl2 n m) (.tup [.int (i:Int),.int (j:Int)]) (row n (f i)) (.sh (.int (i:Int))))=some (.nxt (jN ns a (tbl m n f) (.tup []::pl2 n m) (.tup [.int (i:Int),.int (j:Int)]) (.int (f i j)) (.sh (.int (j:Int))))) :=
   dz rfl (gj rfl (d:=.int (f i j)) (xIx (by walk_at "xv") (by walk_at "xv") rfl (oJ hj)) rfl)
  show bG _ [D.int (i:Int),D.int (j:Int)] _=_;simp only[bG,e1];show(fF _ _ _ _ _ _ _ _ >>=_)=_;rw[e2];rfl
end M60
namespace M60
open PySem DE
section
variable {cx:Cxt} {sc:Scope} {ρ ρ':Rho} {e:Expr} {p:Pos} {d:D} {nm:Str} {F m:Nat} {r:List Stmt} {fl:Fl} {y:Str} {s:Sl} {ds:List D}
theorem mO:frz F e []=[]:=rfl
theorem aP(h:nOw s=true)(q:frz F e ρ=ρ'):frz F e ((y,s)::ρ)=(y,s)::ρ':=by rw[zV h,q]
end
def lX:Stmt->List Stmt
 | .For _ _ b _ _=>b
 | _=>[]
def pP:Stmt->Expr
 | .For t _ _ _ _=>t
 | _=>.Name "" ⟨0,0,0,0⟩
def pss:Stmt:=.Pass ⟨0,0,0,0⟩
theorem Tj{x:Str}:jU [] x=true:=rfl
theorem EY{x y:Str}{s:Sl}{ρ:Rho}(h:nOw s=true)(q:jU ρ x=true):jU ((y,s)::ρ) x=true:=by
 unfold jU at q ⊢;rw[List.all_cons,q,Bool.and_true]
 cases s<;>first | (simp[nOw] at h;done) | simp[KY]
theorem Tn{x y:Str}{ds:List D}{ρ:Rho}(q:jU ρ x=true):jU ((y,.ow ds)::ρ) x=true:=by
 unfold jU at q ⊢;rw[List.all_cons,q,Bool.and_true];simp[KY]
theorem Pj{x:Str}{e:Expr}{ρ:Rho}(q:jU ρ x=true):(aQ e && !jU ρ x)=false:=by rw[q];simp
theorem jw{f:D->Rho->Option Fl}{h:Nat->D}{P:Nat->Rho->Prop}{N:Nat}(hs:∀ i ρ,i<N->P i ρ->∃ ρ',P (i+1) ρ'/\f (h i) ρ=some (.nxt ρ')){ρ:Rho}(h0:P 0 ρ):∃ ρ',P N ρ'/\bG f (Ls N h) ρ=some (.nxt ρ'):=by
 have key:∀ (n a:Nat) (ρ:Rho),a+n<=N->P a ρ->∃ ρ',P (a+n) ρ'/\bG f ((List.range' a n).map h) ρ=some (.nxt ρ'):=by
  intro n
  induction n with
  | zero=>intro a ρ _ hp;exact⟨ρ,hp,rfl⟩
  | succ n ih =>
   intro a ρ ha hp;obtain⟨ρ1,h1,h2⟩:=hs a ρ (by omega) hp;obtain⟨ρ2,h3,h4⟩:=ih (a+1) ρ1 (by omega) h1;refine⟨ρ2,by rw[show a+(n+1)=a+1+n by omega];exact h3,?_⟩;rw[List.range'_succ,List.map_cons];simp only[bG,h2];exact h4
 obtain⟨ρ',h1,h2⟩:=key N 0 ρ (by omega) h0;rw[Nat.zero_add] at h1;refine⟨ρ',h1,?_⟩;unfold Ls;rw[List.range_eq_range'];exact h2
def iC(o p:D)(md ro li co to k:Sl):Rho:=[("_law_one",.sh o),("_law_other",.sh p),("_law_made",md),("_law_row",ro),("_law_line",li),("_law_column",co),("_law_total",to),("_law_k",k)]
def lt1:Stmt:=(bf (top 30)).body.getD 1 pss
def lt2:Stmt:=(lX lt1).getD 1 pss
def lt3:Stmt:=(lX lt2).getD 1 pss
theorem JB(k:Nat){m n p i j:Nat}{f g:Nat->Nat->Int}{md li:List D}{k0:Sl}(hk:nOw k0=true)(hj:j<p)(hs:∀ l,l<n->small (f i l)=true\/small (g l j)=true) :
  ∃ k',nOw k'=true/\bG (fF (cxN T 60 k) 60 57 (bf (top 30)).sc (pP lt3) (lX lt3)) (Ls n fun l=>.int (l:Int)) (iC (tbl m n f) (tbl n p g) (.ow md) (.sh (row n (f i))) (.ow li) (.sh (.int (j:Int))) (.sh (.int 0)) k0)=some (.nxt (iC (tbl m n f) (tbl n p g) (.ow md) (.sh (row n (f i))) (.ow li) (.sh (.int (j:Int))) (.sh (.int (mul n f g i j))) k')):=by
 have st:=jw (f:=fF (cxN T 60 k) 60 57 (bf (top 30)).sc (pP lt3) (lX lt3)) (h:=fun l=>.int (l:Int)) (N:=n) (P:=fun l ρ=>∃ k',nOw k'=true/\ρ=iC (tbl m n f) (tbl n p g) (.ow md) (.sh (row n (f i))) (.ow li) (.sh (.int (j:Int))) (.sh (.int (uE l fun l=>f i l*g l j))) k') (ρ:=iC (tbl m n f) (tbl n p g) (.ow md) (.sh (row n (f i))) (.ow li) (.sh (.int (j:Int))) (.sh (.int 0)) k0) (fun l ρ hl hP=>by
  obtain⟨k1,hk1,e⟩:=hP;subst e;refine⟨_,⟨.sh (.int (l:Int)),rfl,rfl⟩,?_⟩;refine dz (ρ1:=iC (tbl m n f) (tbl n p g) (.ow md) (.sh (row n (f i))) (.ow li) (.sh (.int (j:Int))) (.sh (.int (uE l fun l=>f i l*g l j))) (.sh (.int (l:Int)))) rfl ?_;refine gj rfl (d:=.int (uE (l+1) fun l=>f i l*g l j)) ?_ rfl;refine cP (x:=.int (uE l fun l=>f i l*g l j)) (y:=.int (f i l*g l j)) (by walk_at "xv") (cP (x:=.int (f i l)) (y:=.int (g l j)) (G9 (m:=n) (j:=l) (h:=fun l=>.int (f i l)) ?_ ?_ hl rfl rfl) (G9 (m:=p) (j:=j) (h:=fun j=>.int (g l j)) (G9 (m:=n) (j:=l) (h:=fun l=>row p (g l)) ?_ ?_ hl rfl rfl) ?_ hj rfl rfl) (xJ (hs l hl))) rfl
  ·walk_at "xv"
  ·walk_at "xv"
  ·walk_at "xv"
  ·walk_at "xv"
  ·walk_at "xv") ⟨k0,hk,rfl⟩
 obtain⟨ρ',⟨k',h1,rfl⟩,h2⟩:=st;exact⟨k',h1,h2⟩
theorem JC(k:Nat){m n p i:Nat}{f g:Nat->Nat->Int}{md:List D}{c0 t0 k0:Sl}(hc:nOw c0=true)(ht:nOw t0=true)(hk:nOw k0=true)(n1:1<=n)(n4:n<=4)(p4:p<=4)(hs:∀ l j,l<n->j<p->small (f i l)=true\/small (g l j)=true) :
  ∃ c' t' k',nOw c'=true/\nOw t'=true/\nOw k'=true/\bG (fF (cxN T 60 k) 60 58 (bf (top 30)).sc (pP lt2) (lX lt2)) (Ls p fun l=>.int (l:Int)) (iC (tbl m n f) (tbl n p g) (.ow md) (.sh (row n (f i))) (.ow []) c0 t0 k0)=some (.nxt (iC (tbl m n f) (tbl n p g) (.ow md) (.sh (row n (f i))) (.ow (Ls p fun j=>.int (mul n f g i j))) c' t' k')):=by
 have st:=jw (f:=fF (cxN T 60 k) 60 58 (bf (top 30)).sc (pP lt2) (lX lt2)) (h:=fun l=>.int (l:Int)) (N:=p) (P:=fun j ρ=>∃ c' t' k',nOw c'=true/\nOw t'=true/\nOw k'=true/\ρ=iC (tbl m n f) (tbl n p g) (.ow md) (.sh (row n (f i))) (.ow (Ls j fun j=>.int (mul n f g i j))) c' t' k') (ρ:=iC (tbl m n f) (tbl n p g) (.ow md) (.sh (row n (f i))) (.ow []) c0 t0 k0) (fun j ρ hj hP=>by
  obtain⟨c1,t1,k1,hc1,ht1,hk1,e⟩:=hP;subst e;obtain⟨k2,hk2,go⟩:=JB k (m:=m) (n:=n) (p:=p) (i:=i) (j:=j) (f:=f) (g:=g) (md:=md) (li:=Ls j fun j=>.int (mul n f g i j)) hk1 hj (fun l hl=>hs l j hl hj);refine⟨_,⟨.sh (.int (j:Int)),.sh (.int (mul n f g i j)),k2,rfl,rfl,hk2,rfl⟩,?_⟩;rw[jH];refine dz (ρ1:=iC (tbl m n f) (tbl n p g) (.ow md) (.sh (row n (f i))) (.ow (Ls j fun j=>.int (mul n f g i j))) (.sh (.int (j:Int))) t1 k1) rfl ?_;refine iG (ρ':=iC (tbl m n f) (tbl n p g) (.ow md) (.sh (row n (f i))) (.ow (Ls j fun j=>.int (mul n f g i j))) (.sh (.int (j:Int))) t1 k1) (d:=.int 0) (aP rfl (aP rfl (mQ rfl (aP rfl (mQ rfl (aP rfl (aP ht1 (aP hk1 mO)))))))) rfl rfl (by walk_at "xv") ?_;show blk _ _ _ _ _ (iC (tbl m n f) (tbl n p g) (.ow md) (.sh (row n (f i))) (.ow (Ls j fun j=>.int (mul n f g i j))) (.sh (.int (j:Int))) (.sh (.int 0)) k1)=_;refine pO (ρ':=iC (tbl m n f) (tbl n p g) (.ow md) (.sh (row n (f i))) (.ow (Ls j fun j=>.int (mul n f g i j))) (.sh (.int (j:Int))) (.sh (.int 0)) k1) (l:=Ls n fun l=>.int (l:Int)) (aP rfl (aP rfl (mQ rfl (aP rfl (mQ rfl (aP rfl (aP rfl (aP hk1 mO)))))))) ?_ go ?_
  ·walk_at "xi"
  ·refine Ge (ρ':=iC (tbl m n f) (tbl n p g) (.ow md) (.sh (row n (f i))) (.ow (Ls j fun j=>.int (mul n f g i j))) (.sh (.int (j:Int))) (.sh (.int (mul n f g i j))) k2) (d:=.int (mul n f g i j)) (aP rfl (aP rfl (mQ rfl (aP rfl (mQ rfl (aP rfl (aP rfl (aP hk2 mO)))))))) rfl rfl rfl (jL (by rw[bF];omega)) (by walk_at "xv") rfl) ⟨c0,t0,k0,hc,ht,hk,rfl⟩
 obtain⟨ρ',⟨c',t',k',h1,h2,h3,rfl⟩,h4⟩:=st;exact⟨c',t',k',h1,h2,h3,h4⟩
theorem JD(k:Nat){m n p:Nat}{f g:Nat->Nat->Int}(m4:m<=4)(n1:1<=n)(n4:n<=4)(p4:p<=4)(hs:∀ i l j,i<m->l<n->j<p->small (f i l)=true\/small (g l j)=true) :
  ∃ r' l' c' t' k',nOw r'=true/\nOw l'=true/\nOw c'=true/\nOw t'=true/\nOw k'=true/\bG (fF (cxN T 60 k) 60 59 (bf (top 30)).sc (pP lt1) (lX lt1)) (Ls m fun i=>row n (f i)) (iC (tbl m n f) (tbl n p g) (.ow []) .no .no .no .no .no)=some (.nxt (iC (tbl m n f) (tbl n p g) (.ow (Ls m fun i=>row p (mul n f g i))) r' l' c' t' k')):=by
 have st:=jw (f:=fF (cxN T 60 k) 60 59 (bf (top 30)).sc (pP lt1) (lX lt1)) (h:=fun i=>row n (f i)) (N:=m) (P:=fun i ρ=>∃ r' l' c' t' k',nOw r'=true/\nOw l'=true/\nOw c'=true/\nOw t'=true/\nOw k'=true/\ρ=iC (tbl m n f) (tbl n p g) (.ow (Ls i fun i=>row p (mul n f g i))) r' l' c' t' k') (ρ:=iC (tbl m n f) (tbl n p g) (.ow []) .no .no .no .no .no) (fun i ρ hi hP=>by
  obtain⟨r1,l1,c1,t1,k1,hr1,hl1,hc1,ht1,hk1,e⟩:=hP;subst e;obtain⟨c2,t2,k2,hc2,ht2,hk2,go⟩:=JC k (m:=m) (n:=n) (p:=p) (i:=i) (f:=f) (g:=g) (md:=Ls i fun i=>row p (mul n f g i)) hc1 ht1 hk1 n1 n4 p4 (fun l j hl hj=>hs i l j hi hl hj);refine⟨_,⟨.sh (row n (f i)),.sh (.lst (Ls p fun j=>.int (mul n f g i j))),c2,t2,k2,rfl,rfl,hc2,ht2,hk2,rfl⟩,?_⟩;rw[jH];refine dz (ρ1:=iC (tbl m n f) (tbl n p g) (.ow (Ls i fun i=>row p (mul n f g i))) (.sh (row n (f i))) l1 c1 t1 k1) rfl ?_;refine zQ (ρ':=iC (tbl m n f) (tbl n p g) (.ow (Ls i fun i=>row p (mul n f g i))) (.sh (row n (f i))) l1 c1 t1 k1) (d:=.lst []) (aP rfl (aP rfl (mQ rfl (aP rfl (aP hl1 (aP hc1 (aP ht1 (aP hk1 mO)))))))) rfl (by walk_at "xv") ?_ rfl (Pj (EY rfl (EY rfl (Tn (EY rfl (EY hl1 (EY hc1 (EY ht1 (EY hk1 Tj)))))))));show blk _ _ _ _ _ (iC (tbl m n f) (tbl n p g) (.ow (Ls i fun i=>row p (mul n f g i))) (.sh (row n (f i))) (.ow []) c1 t1 k1)=_;refine pO (ρ':=iC (tbl m n f) (tbl n p g) (.ow (Ls i fun i=>row p (mul n f g i))) (.sh (row n (f i))) (.ow []) c1 t1 k1) (l:=Ls p fun l=>.int (l:Int)) (aP rfl (aP rfl (mQ rfl (aP rfl (mQ rfl (aP hc1 (aP ht1 (aP hk1 mO)))))))) ?_ go ?_
  ·walk_at "xi"
  ·refine Ge (ρ':=iC (tbl m n f) (tbl n p g) (.ow (Ls i fun i=>row p (mul n f g i))) (.sh (row n (f i))) (.sh (.lst (Ls p fun j=>.int (mul n f g i j)))) c2 t2 k2) (d:=row p (mul n f g i)) (aP rfl (aP rfl (mQ rfl (aP rfl (J4 rfl (aP hc2 (aP ht2 (aP hk2 mO)))))))) rfl rfl rfl (jL (by rw[bF];omega)) ?_ rfl
   exact cT rfl rfl rfl (by walk_at "xm") xY) ⟨.no,.no,.no,.no,.no,rfl,rfl,rfl,rfl,rfl,rfl⟩
 obtain⟨ρ',⟨r',l',c',t',k',h1,h2,h3,h4,h5,rfl⟩,h6⟩:=st;exact⟨r',l',c',t',k',h1,h2,h3,h4,h5,h6⟩
theorem zG(k:Nat){m n p:Nat}{f g:Nat->Nat->Int}(m4:m<=4)(n1:1<=n)(n4:n<=4)(p4:p<=4)(hs:Sm m n f\/Sm n p g):aY T 60 (k+1) "_law_times" [tbl m n f,tbl n p g]=some (tbl m p (mul n f g)):=by
 obtain⟨r',l',c',t',k',h1,h2,h3,h4,h5,go⟩:=JD k (f:=f) (g:=g) m4 n1 n4 p4 (fun i l j hi hl hj=>hs.imp (fun q=>q i l hi hl) (fun q=>q l j hl hj));refine fB (fd:=bf (top 30)) rfl rfl (gj rfl (d:=.lst []) (by walk_at "xv") ?_);show blk _ _ _ _ _ (iC (tbl m n f) (tbl n p g) (.ow []) .no .no .no .no .no)=_;refine pO (ρ':=iC (tbl m n f) (tbl n p g) (.ow []) .no .no .no .no .no) (l:=Ls m fun i=>row n (f i)) (aP rfl (aP rfl (mQ rfl (aP rfl (aP rfl (aP rfl (aP rfl (aP rfl mO)))))))) ?_ go ?_
 ·walk_at "xi"
 ·refine dU (cT rfl rfl rfl (ao (x:=.lst (Ls m fun i=>row p (mul n f g i))) ?_ bx) xY)
  walk_at "xv"
section
variable {cx:Cxt} {sc:Scope} {ρ ρ':Rho} {e:Expr} {p:Pos} {d:D} {nm:Str} {F m:Nat} {r:List Stmt} {fl:Fl} {y:Str} {s:Sl} {ds:List D}
end
end M60
namespace M60
open PySem DE
def nz(i:Int):Bool:=decide (i≠0)
def un(q:Int×Int):Bool:=decide (q.1<0) !=decide (q.2<0)
def lc(l:List Int):Nat:=(((l.filter nz).zip ((l.filter nz).drop 1)).filter un).length
def cb(s:Int):List Int->Nat
 | []=>0
 | x::l=>if s*x<=0 then cb (-s) l+1 else cb s l
def mc:List Int->Nat
 | []=>0
 | x::l=>if 0<x then cb 1 l else if x<0 then cb (-1) l else max (cb 1 l) (cb (-1) l)
def sg3(x:Int):Int:=if x<0 then -1 else if x=0 then 0 else 1
theorem Il(x:Int):sg3 x∈[(-1:Int),0,1]:=by unfold sg3;split<;>(try split)<;>simp
theorem Ik(x:Int):nz (sg3 x)=nz x:=by
 unfold sg3 nz
 by_cases h:x<0
 ·simp[h];omega
 ·by_cases e:x=0
  ·simp[e]
  ·simp[h,e]
theorem Bg(x:Int):decide (sg3 x<0)=decide (x<0):=by
 unfold sg3
 by_cases h:x<0
 ·simp[h]
 ·by_cases e:x=0
  ·simp[e]
  ·simp[h,e]
theorem JK(l:List Int):lc (l.map sg3)=lc l:=by
 unfold lc
 have e:(l.map sg3).filter nz=(l.filter nz).map sg3:=by
  rw[List.filter_map];congr 1;exact List.filter_congr fun x _=>Ik x
 rw[e,<- List.map_drop,List.zip_map,List.filter_map,List.length_map];congr 1;refine List.filter_congr fun q _=>?_;show un (sg3 q.1,sg3 q.2)=un q;unfold un;rw[Bg,Bg]
theorem Bx{s x:Int}(hs:s=1\/s=-1):(s*sg3 x<=0)↔(s*x<=0):=by
 unfold sg3;rcases hs with rfl | rfl
 ·split
  ·omega
  ·split<;>omega
 ·split
  ·omega
  ·split<;>omega
theorem Am:∀ (l:List Int) (s:Int),(s=1\/s=-1)->cb s (l.map sg3)=cb s l
 | [],_,_=>rfl
 | x::l,s,hs=>by
  have i1:=Am l s hs;have i2:=Am l (-s) (by omega);simp only[List.map_cons,cb,i1,i2]
  by_cases h:s*x<=0
  ·rw[if_pos h,if_pos ((Bx hs).mpr h)]
  ·rw[if_neg h,if_neg (fun w=>h ((Bx hs).mp w))]
theorem Fw:∀ l:List Int,mc (l.map sg3)=mc l
 | []=>rfl
 | x::l=>by
  simp only[List.map_cons,mc,Am l 1 (.inl rfl),Am l (-1) (.inr rfl)]
  have a:(0<sg3 x)↔0<x:=by unfold sg3;split<;>(try split)<;>omega
  have b:(sg3 x<0)↔x<0:=by unfold sg3;split<;>(try split)<;>omega
  by_cases h1:0<x
  ·rw[if_pos h1,if_pos (a.mpr h1)]
  ·rw[if_neg h1,if_neg (fun w=>h1 (a.mp w))]
   by_cases h2:x<0
   ·rw[if_pos h2,if_pos (b.mpr h2)]
   ·rw[if_neg h2,if_neg (fun w=>h2 (b.mp w))]
def yy(c:Nat)(f:Nat->Nat->Int)(r:Nat->Int)(i:Nat):Int:=uE c fun j=>f i j*r j
abbrev vec(n:Nat)(r:Nat->Int):List Int:=Ls n r
abbrev ti(l:List Int):D:=.tup (l.map D.int)
theorem dX{α:Type}{f:D->Option (Option D)}{h g:α->D}{t:α->Bool}:∀ {l:List α},(∀ x∈l,f (h x)=some (if t x then some (g x) else none))->bB f (l.map h)=some ((l.filter t).map g)
 | [],_=>rfl
 | x::l,q=>by
  have h1:=q x List.mem_cons_self;have h2:=dX (l:=l) fun y hy=>q y (List.mem_cons_of_mem _ hy);simp only[List.map_cons,bB,h1]
  cases ht:t x with
  | true=>simp only[if_true,List.filter_cons,ht,List.map_cons,h2];rfl
  | false=>simp only[Bool.false_eq_true,if_false,List.filter_cons,ht];exact h2
theorem SJ{b:Int}:cmpop .NotEq (.int b) (.int 0)=some (.bl (nz b)):=by
 rw[oNe (by simp[dep]) (by simp[dep])];unfold nz
 by_cases h:b=0
 ·subst h;rfl
 ·simp[deq,h]
theorem Cu(F:List Int):(((F.map D.int).zip ((F.map D.int).drop 1)).map fun q=>D.tup [q.1,q.2])=(F.zip (F.drop 1)).map fun q=>D.tup [.int q.1,.int q.2]:=by
 rw[<- List.map_drop,List.zip_map,List.map_map];rfl
theorem Qg(l:List D):oR l (some 1) none=l.drop 1:=by
 unfold oR kY;simp only;rw[if_neg (by omega)]
 cases l with
 | nil=>simp
 | cons a r=>simp
theorem least(k:Nat){l:List Int}(hl:l.length<=100):aY T 60 (k+1) "least_changes" [ti l]=some (.int ((lc l:Nat):Int)):=by
 have hf:=List.length_filter_le nz l;refine fB (fd:=bf (top 20)) rfl rfl (gj rfl (d:=.lst ((l.filter nz).map D.int)) (cR rfl (xV (xs:=l.map D.int) rfl (xName rfl)) (jL (by rw[List.length_map];omega)) (dX fun x hx=>fP rfl (d7 (x:=.int x) (y:=.int 0) (xName rfl) (au rfl) SJ) (xName rfl))) ?_);show blk _ _ _ _ _ [("numbers",.sh (ti l)),("kept",.ow ((l.filter nz).map D.int))]=_;refine dU ?_;show ev _ _ _ [("numbers",.sh (ti l)),("kept",.sh (.lst ((l.filter nz).map D.int)))] _=_;generalize hF:l.filter nz=F at hf;refine cT (ds:=[.lst (((F.zip (F.drop 1)).filter un).map fun q=>D.int q.1)]) rfl rfl rfl (ao (cR (l:=(F.zip (F.drop 1)).map fun q=>D.tup [.int q.1,.int q.2]) rfl ?_ ?_ (dX fun q hq=>?_)) bx) ?_
 ·rw[<- Cu,<- Qg]
  exact K9 rfl (xName rfl) (RQ (xName rfl) (Ew (au rfl)) Ey)
 ·refine jL ?_
  rw[List.length_map,List.length_zip];omega
 ·exact fP rfl (d7 (x:=.bl (decide (q.1<0))) (y:=.bl (decide (q.2<0))) (d7 (x:=.int q.1) (y:=.int 0) (xName rfl) (au rfl) Qy) (d7 (x:=.int q.2) (y:=.int 0) (xName rfl) (au rfl) Qy) rfl) (xName rfl)
 ·show some (D.int (((((F.zip (F.drop 1)).filter un).map fun q=>D.int q.1).length:Nat):Int))=_
  rw[List.length_map];unfold lc;rw[hF]
def oO(s:Int)(l:D)(c:Int)(n:Sl):Rho:=[("sign",.sh (.int s)),("numbers",.sh l),("changes",.sh (.int c)),("number",n)]
theorem GQ(k:Nat){L:D}:∀ (l:List Int) (s c:Int) (n:Sl),(s=1\/s=-1)->nOw n=true->∃ s' n',nOw n'=true/\bG (fF (cxN T 60 k) 60 59 (bf (top 21)).sc (pP (bC 21 1)) (lX (bC 21 1))) (l.map D.int) (oO s L c n)=some (.nxt (oO s' L (c+(cb s l:Nat)) n'))
 | [],s,c,n,_,hn=>⟨s,n,hn,by rw[show((cb s []:Nat):Int)=0 from rfl,Int.add_zero];rfl⟩
 | x::l,s,c,n,hs,hn=>by
  have sm:small s=true:=by rcases hs with rfl | rfl<;>decide
  by_cases q:s*x<=0
  ·obtain⟨s',n',h1,h2⟩:=GQ k (L:=L) l (-s) (c+1) (.sh (.int x)) (by omega) rfl
   refine⟨s',n',h1,?_⟩
   have st:fF (cxN T 60 k) 60 59 (bf (top 21)).sc (pP (bC 21 1)) (lX (bC 21 1)) (.int x) (oO s L c n)=some (.nxt (oO (-s) L (c+1) (.sh (.int x)))):=by
    refine dz (ρ1:=oO s L c (.sh (.int x))) rfl (Qa (ρ':=oO s L c (.sh (.int x))) (ρ2:=oO (-s) L (c+1) (.sh (.int x))) rfl (d7 (x:=.int (s*x)) (y:=.int 0) (cP (xName rfl) (xName rfl) (xJ (.inl sm))) (au rfl) (oLe q)) ?_ nO);refine iG (ρ':=oO s L c (.sh (.int x))) (d:=.int (-s)) rfl rfl rfl (Bb (xName rfl)) ?_;exact iG (ρ:=oO (-s) L c (.sh (.int x))) (ρ':=oO (-s) L c (.sh (.int x))) (d:=.int (c+1)) rfl rfl rfl (cP (xName rfl) (au rfl) rfl) nO
   simp only[List.map_cons,bG,st];rw[show cb s (x::l)=cb (-s) l+1 by simp only[cb];rw[if_pos q],show c+((cb (-s) l+1:Nat):Int)=c+1+((cb (-s) l:Nat):Int) by omega];exact h2
  ·obtain⟨s',n',h1,h2⟩:=GQ k (L:=L) l s c (.sh (.int x)) hs rfl
   refine⟨s',n',h1,?_⟩
   have st:fF (cxN T 60 k) 60 59 (bf (top 21)).sc (pP (bC 21 1)) (lX (bC 21 1)) (.int x) (oO s L c n)=some (.nxt (oO s L c (.sh (.int x)))) :=
    dz (ρ1:=oO s L c (.sh (.int x))) rfl (BR (ρ':=oO s L c (.sh (.int x))) rfl (d7 (x:=.int (s*x)) (y:=.int 0) (cP (xName rfl) (xName rfl) (xJ (.inl sm))) (au rfl) (Hj q)) nO)
   simp only[List.map_cons,bG,st];rw[show cb s (x::l)=cb s l by simp only[cb];rw[if_neg q]];exact h2
theorem behind(k:Nat){l:List Int}{s:Int}(hs:s=1\/s=-1):aY T 60 (k+1) "changes_behind" [.int s,ti l]=some (.int ((cb s l:Nat):Int)):=by
 obtain⟨s',n',h1,h2⟩:=GQ k (L:=ti l) l s 0 .no hs rfl;rw[Int.zero_add] at h2;refine fB (fd:=bf (top 21)) rfl rfl (iG (ρ':=[("sign",.sh (.int s)),("numbers",.sh (ti l)),("changes",.no),("number",.no)]) (d:=.int 0) rfl rfl rfl (au rfl) ?_);refine DE.sW (ρ:=oO s (ti l) 0 .no) (fl1:=.nxt (oO s' (ti l) (cb s l:Nat) n')) (xV (xs:=l.map D.int) rfl (xName rfl)) h2 ?_;exact RG (dh rfl (dh rfl (dh rfl (dh h1 rfl)))) (xName rfl)
theorem most(k:Nat){x:Int}{l:List Int}:aY T 60 (k+2) "most_changes" [ti (x::l)]=some (.int ((mc (x::l):Nat):Int)):=by
 have c0:ev (cxN T 60 (k+1)) 60 (bf (top 22)).sc [("numbers",.sh (ti (x::l))),("firsts",.no)] (ifX (bC 22 0))=some (.bl false):=d7 (x:=.int (((l.map D.int).length+1:Nat):Int)) (y:=.int 0) (cT rfl rfl rfl (ao (x:=ti (x::l)) (xName rfl) bx) rfl) (au rfl) (Qz (by omega))
 have fs:∀ (fl:List Int),((fl=[1]/\0<x)\/(fl=[-1]/\x<0)\/(fl=[1,-1]/\x=0))->ev (cxN T 60 (k+1)) 60 (bf (top 22)).sc [("numbers",.sh (ti (x::l))),("firsts",.no)] (asV (bC 22 1))=some (.lst (fl.map D.int)):=fun fl hfl=>by
  have go:=dX (f:=cF (cxN T 60 (k+1)) 59 (bf (top 22)).sc (match asV (bC 22 1) with | .ListComp _ _ s _=>s | _=>(bf (top 22)).sc) [("numbers",.sh (ti (x::l))),("firsts",.no)] (match asV (bC 22 1) with | .ListComp _ [⟨t,_,_,_⟩] _ _=>t | e=>e) (match asV (bC 22 1) with | .ListComp e _ _ _=>e | e=>e) (match asV (bC 22 1) with | .ListComp _ [⟨_,_,i,_⟩] _ _=>i | _=>[])) (h:=D.int) (g:=D.int) (t:=fun s=>decide (0<=s*x)) (l:=[1,-1]) fun s hs=>by
   have sm:small s=true:=by
    simp only[List.mem_cons,List.not_mem_nil,or_false] at hs
    rcases hs with rfl | rfl<;>decide
   refine fP rfl (d7 (x:=.int (s*x)) (y:=.int 0) (cP (x:=.int s) (y:=.int x) (xName rfl) (xIx (x:=ti (x::l)) (i:=0) (xName rfl) (au rfl) rfl at0) (xJ (.inl sm))) (au rfl) rfl) (xName rfl)
  have e:([1,-1].filter fun s:Int=>decide (0<=s*x))=fl:=by
   rcases hfl with⟨rfl,h⟩ | ⟨rfl,h⟩ | ⟨rfl,h⟩
   ·rw[List.filter_cons,if_pos (by rw[decide_eq_true_eq];omega),List.filter_cons,if_neg (by rw[decide_eq_true_eq];omega),List.filter_nil]
   ·rw[List.filter_cons,if_neg (by rw[decide_eq_true_eq];omega),List.filter_cons,if_pos (by rw[decide_eq_true_eq];omega),List.filter_nil]
   ·simp[List.filter_cons,h]
  rw[e] at go;exact cR (l:=[.int 1,.int (-1)]) rfl (xV (xs:=[.int 1,.int (-1)]) rfl (tY (ao (au rfl) (ao (Bb (au rfl)) bx)) rfl)) rfl go
 have fin:∀ (fl:List Int),(∀ s∈fl,s=1\/s=-1)->fl.length<=2->∀ w:Int,mxN (fl.map fun s=>.int ((cb s l:Nat):Int))=some (.int w)->((fl=[1]/\0<x)\/(fl=[-1]/\x<0)\/(fl=[1,-1]/\x=0))->aY T 60 (k+2) "most_changes" [ti (x::l)]=some (.int w):=fun fl h1 h2 w hw hfl=>by
  refine fB (fd:=bf (top 22)) rfl rfl (BR (ρ':=[("numbers",.sh (ti (x::l))),("firsts",.no)]) rfl c0 (gj (ρ:=[("numbers",.sh (ti (x::l))),("firsts",.no)]) rfl (fs fl hfl) ?_));show blk _ _ _ _ _ [("numbers",.sh (ti (x::l))),("firsts",.ow (fl.map D.int))]=_;refine dU ?_;show ev _ _ _ [("numbers",.sh (ti (x::l))),("firsts",.sh (.lst (fl.map D.int)))] _=_;refine cT (ds:=[.lst (fl.map fun s=>.int ((cb s l:Nat):Int))]) rfl rfl rfl (ao (cR rfl (wSq (x:=.lst (fl.map D.int)) rfl (xName rfl) rfl) (jL (by rw[List.length_map];omega)) (nY fun s hs=>dZ rfl ?_)) bx) hw;exact aW rfl (ao (x:=.int s) (xName rfl) (ao (x:=ti l) (j8 (us:=(x::l).map D.int) (i:=1) (xName rfl) (au rfl) (by omega) (by simp)) bx)) (behind k (h1 s hs))
 by_cases p:0<x
 ·refine fin [1] (by simp) (by simp) _ ?_ (.inl ⟨rfl,p⟩)
  rw[show mc (x::l)=cb 1 l by simp only[mc];rw[if_pos p]];rfl
 ·by_cases q:x<0
  ·refine fin [-1] (by simp) (by simp) _ ?_ (.inr (.inl ⟨rfl,q⟩))
   rw[show mc (x::l)=cb (-1) l by simp only[mc];rw[if_neg p,if_pos q]];rfl
  ·refine fin [1,-1] (by simp) (by simp) _ ?_ (.inr (.inr ⟨rfl,by omega⟩))
   rw[show mc (x::l)=max (cb 1 l) (cb (-1) l) by simp only[mc];rw[if_neg p,if_neg q]]
   show some (D.int (if((cb (-1) l:Nat):Int)>((cb 1 l:Nat):Int) then((cb (-1) l:Nat):Int) else((cb 1 l:Nat):Int)))=_;congr 2
   split<;>omega
theorem led(k:Nat){m c:Nat}{f:Nat->Nat->Int}{r:Nat->Int}(h1:1<=m)(h2:m<=4)(h3:1<=c)(h4:c<=4)(hr:∀ j,j<c->small (r j)=true):aY T 60 (k+5) "led" [tbl m c f,ti (vec c r)]=some (ti (vec m (yy c f r))):=by
 have e:∀ (n:Nat) (r:Nat->Int),ti (vec n r)=row n r:=fun n r=>by show D.tup _=D.tup _;rw[j6]
 rw[e,e];refine fB (fd:=bf (top 23)) rfl rfl (TF rfl (d:=.non) (aW rfl (ao (xName rfl) bx) (need_table k h1 h2 h3 h4)) (qT (d7 (x:=.int (c:Int)) (y:=.int (c:Int)) (cT rfl rfl rfl (ao (Ku (h:=fun i=>row c (f i)) (xName rfl) (au rfl) (by omega) rfl rfl) bx) G3) (cT rfl rfl rfl (ao (xName rfl) bx) G3) (Hh rfl)) (dU (cT rfl rfl rfl (ao (cR rfl (xV (xs:=Ls m fun i=>row c (f i)) rfl (xName rfl)) (kE (by omega)) (cu (g:=fun i=>.int (yy c f r i)) fun i hi=>dZ rfl ?_)) bx) xY))));exact aW rfl (ao (xName rfl) (ao (xName rfl) bx)) (row_by_column (k+3) h4 fun j hj=>.inr (hr j hj))
def AR(w:Nat):Nat->List (List Int)
 | 0=>[[]]
 | c+1=>(AR w c).flatMap fun l=>((List.range (2*w+1)).map fun(i:Nat)=>l++[(i:Int)-(w:Int)])
end M60
namespace M60
open PySem DE
def sgs(x:Int):List Int:=[1,-1].filter fun s=>decide (x*s>=0)
def stS(M:List (List Int))(x:Int):List (List Int):=M.flatMap fun a=>(sgs x).map fun s=>a++[s]
def sgd(l:List Int):List (List Int):=l.foldl stS [[]]
def ch(s:List Int):Nat:=((List.range (s.length-1)).filter fun k=>decide (s.getD (k+1) 0≠s.getD k 0)).length
def evy(l:List Int):List Int:=(sgd l).map fun s=>((ch s:Nat):Int)
def lea:List Int->Int
 | [] => -1
 | x::r=>mnL r x
def mos:List Int->Int
 | [] => -1
 | x::r=>mxL r x
def alt(l:List Int):List Int:=(List.range l.length).map fun k=>if k%2=0 then l.getD k 0 else 0-l.getD k 0
def good(l:List Int):Bool := !(evy l).isEmpty&&lea (evy l)==(lc l:Int)&&mos (evy l)==(mc l:Int)&&lc l.reverse==lc l&&mc l.reverse==mc l&&lc l+mc (alt l)==l.length-1
def pats:Nat->List (List Int)
 | 0=>[[]]
 | n+1=>(pats n).flatMap fun p=>[-1::p,0::p,1::p]
theorem Ej:∀ n,n<7->(pats (n+1)).all good=true:=by decide +kernel
theorem vY:∀ l:List Int,l.map sg3∈pats l.length
 | []=>List.mem_singleton.mpr rfl
 | x::l=>by
  refine List.mem_flatMap.mpr ⟨l.map sg3,vY l,?_⟩;have:=Il x;simp only[List.mem_cons,List.not_mem_nil,or_false] at this
  rcases this with e | e | e<;>simp[e]
theorem Ii(x:Int):sgs (sg3 x)=sgs x:=by
 unfold sgs;refine List.filter_congr fun s hs=>?_;simp only[List.mem_cons,List.not_mem_nil,or_false] at hs;rw[decide_eq_decide];unfold sg3;rcases hs with rfl | rfl
 ·split
  ·omega
  ·split<;>omega
 ·split
  ·omega
  ·split<;>omega
theorem Ij(l:List Int):sgd (l.map sg3)=sgd l:=by
 unfold sgd;rw[List.foldl_map];congr 1;funext M x;unfold stS;rw[Ii]
theorem Kl(l:List Int):alt (l.map sg3)=(alt l).map sg3:=by
 unfold alt;rw[List.length_map,List.map_map];refine List.map_congr_left fun k hk=>?_;have hk:=List.mem_range.mp hk
 have g:(l.map sg3).getD k 0=sg3 (l.getD k 0):=by simp[List.getD_eq_getElem?_getD,hk]
 have e:∀ x,sg3 (0-x)=0-sg3 x:=fun x=>by
  unfold sg3
  repeat' split
  all_goals omega
 show(if k%2=0 then _ else _)=sg3 (if k%2=0 then _ else _);rw[g];split
 ·rfl
 ·exact(e _).symm
theorem zO(l:List Int)(h1:1<=l.length)(h7:l.length<=7):good l=true:=by
 have h:=List.all_eq_true.mp (Ej (l.length-1) (by omega)) (l.map sg3) (by rw[show l.length-1+1=l.length by omega];exact vY l)
 unfold good evy at h ⊢;rw[Ij,JK,Fw,<- List.map_reverse,JK,Fw,Kl,Fw,List.length_map] at h;exact h
end M60
namespace M60
open PySem DE
def jc(N:D)(md o lo ah:Sl):Rho:=[("_law_numbers",.sh N),("_law_made",md),("_law_one",o),("_law_longer",lo),("_law_ahead",ah)]
abbrev sF:Stmt:=bC 41 1
abbrev sG:Stmt:=(lX sF).getD 1 pss
abbrev sSc:Scope:=(bf (top 41)).sc
theorem JZ(k:Nat){N md:D}{x:Int}:∀ (M A:List (List Int)) (ah:Sl),nOw ah=true->(∀ a∈M,a.length<=100)->A.length+2*M.length<=1000->∃ ah',nOw ah'=true/\bG (fF (cxN T 60 k) 60 58 sSc (pP sG) (lX sG)) (M.map ti) (jc N (.sh md) (.sh (.int x)) (.ow (A.map ti)) ah)=some (.nxt (jc N (.sh md) (.sh (.int x)) (.ow ((A++stS M x).map ti)) ah'))
 | [],A,ah,h,_,_=>⟨ah,h,by simp only[stS,List.flatMap_nil,List.append_nil];rfl⟩
 | a::M,A,ah,h,ha,hz=>by
  have l2:(sgs x).length<=2:=List.length_filter_le _ [1,-1];simp only[List.length_cons] at hz;obtain⟨ah',h1,h2⟩:=JZ k (N:=N) (md:=md) (x:=x) M (A++(sgs x).map fun s=>a++[s]) (.sh (ti a)) rfl (fun b hb=>ha b (List.mem_cons_of_mem _ hb)) (by rw[List.length_append,List.length_map];omega);refine⟨ah',h1,?_⟩;have la:=ha a List.mem_cons_self
  have st:fF (cxN T 60 k) 60 58 sSc (pP sG) (lX sG) (ti a) (jc N (.sh md) (.sh (.int x)) (.ow (A.map ti)) ah)=some (.nxt (jc N (.sh md) (.sh (.int x)) (.ow ((A++(sgs x).map fun s=>a++[s]).map ti)) (.sh (ti a)))):=by
   refine dz (ρ1:=jc N (.sh md) (.sh (.int x)) (.ow (A.map ti)) (.sh (ti a))) rfl ?_;rw[List.map_append];refine Qd (ds:=A.map ti) (zs:=((sgs x).map fun s=>a++[s]).map ti) rfl rfl rfl rfl (jL (by rw[List.length_map,List.length_map,List.length_map];omega)) ?_ rfl;rw[List.map_map];refine cR (l:=[1,-1].map D.int) rfl (xV (xs:=[.int 1,.int (-1)]) rfl (tY (ao (au rfl) (ao (Bb (au rfl)) bx)) rfl)) rfl (dX (t:=fun s=>decide (x*s>=0)) fun s hs=>?_)
   have sm:small s=true:=by
    simp only[List.mem_cons,List.not_mem_nil,or_false] at hs
    rcases hs with rfl | rfl<;>decide
   refine fP rfl (d7 (x:=.int (x*s)) (y:=.int 0) (cP (x:=.int x) (y:=.int s) (xName rfl) (xName rfl) (xJ (.inr sm))) (au rfl) rfl) ?_;refine tZ (cP (x:=ti a) (y:=.tup [.int s]) (xName rfl) (tY (ao (xName rfl) bx) rfl) (xK (by rw[List.length_map];simp;omega))) ?_;show D.tup _=D.tup _;rw[List.map_append];rfl
  simp only[List.map_cons,bG,st];rw[show A++stS (a::M) x=A++(sgs x).map (fun s=>a++[s])++stS M x by simp[stS]];exact h2
theorem uL(M:List (List Int))(x:Int):(stS M x).length<=2*M.length:=by
 induction M with
 | nil=>simp[stS]
 | cons a M ih =>
  have l2:(sgs x).length<=2:=List.length_filter_le _ [1,-1];simp only[stS,List.flatMap_cons,List.length_append,List.length_map,List.length_cons] at ih ⊢;omega
theorem uK{M:List (List Int)}{x:Int}{b:List Int}(h:b∈stS M x):∃ a∈M,b.length=a.length+1:=by
 obtain⟨a,ha,hb⟩:=List.mem_flatMap.mp h;obtain⟨s,_,rfl⟩:=List.mem_map.mp hb;exact⟨a,ha,by simp⟩
def mdS(M:List (List Int))(s:Sl):Prop:=s=.ow (M.map ti)\/s=.sh (.lst (M.map ti))
theorem Bu(k:Nat){N:D}:∀ (l:List Int) (M:List (List Int)) (md o lo ah:Sl),mdS M md->nOw o=true->nOw lo=true->nOw ah=true->(∀ a∈M,a.length+l.length<=100)->M.length*2^l.length<=500->∃ md' o' lo' ah',mdS (l.foldl stS M) md'/\nOw o'=true/\nOw lo'=true/\nOw ah'=true/\bG (fF (cxN T 60 k) 60 59 sSc (pP sF) (lX sF)) (l.map D.int) (jc N md o lo ah)=some (.nxt (jc N md' o' lo' ah'))
 | [],M,md,o,lo,ah,h,h1,h2,h3,_,_=>⟨md,o,lo,ah,h,h1,h2,h3,rfl⟩
 | x::l,M,md,o,lo,ah,h,h1,h2,h3,ha,hz=>by
  have p1:M.length*2^(x::l).length=2*M.length*2^l.length:=by rw[List.length_cons,Nat.pow_succ];ac_rfl
  have p2:1<=2^l.length:=Nat.one_le_two_pow;have p3:2*M.length<=2*M.length*2^l.length:=Nat.le_mul_of_pos_right _ p2;have p4:(stS M x).length*2^l.length<=2*M.length*2^l.length:=Nat.mul_le_mul_right _ (uL M x);obtain⟨ah1,q1,q2⟩:=JZ k (N:=N) (md:=.lst (M.map ti)) (x:=x) M [] ah h3 (fun a m=>by have:=ha a m;omega) (by simp;omega);obtain⟨md',o',lo',ah',r1,r2,r3,r4,r5⟩:=Bu k (N:=N) l (stS M x) (.sh (.lst ((stS M x).map ti))) (.sh (.int x)) (.sh (.lst ((stS M x).map ti))) ah1 (.inr rfl) rfl rfl q1 (fun b hb=>by obtain⟨a,m,e⟩:=uK hb;have:=ha a m;rw[List.length_cons] at this;omega) (by omega);refine⟨md',o',lo',ah',r1,r2,r3,r4,?_⟩
  have st:fF (cxN T 60 k) 60 59 sSc (pP sF) (lX sF) (.int x) (jc N md o lo ah)=some (.nxt (jc N (.sh (.lst ((stS M x).map ti))) (.sh (.int x)) (.sh (.lst ((stS M x).map ti))) ah1)):=by
   refine dz (ρ1:=jc N md (.sh (.int x)) lo ah) rfl ?_
   have s2:blk (cxN T 60 k) 60 59 sSc ((lX sF).drop 2) (jc N (.sh (.lst (M.map ti))) (.sh (.int x)) (.ow ((stS M x).map ti)) ah1)=some (.nxt (jc N (.sh (.lst ((stS M x).map ti))) (.sh (.int x)) (.sh (.lst ((stS M x).map ti))) ah1)) :=
    iG (d:=.lst ((stS M x).map ti)) (ρ':=jc N (.sh (.lst (M.map ti))) (.sh (.int x)) (.sh (.lst ((stS M x).map ti))) ah1) (aP rfl (aP rfl (aP rfl (J4 rfl (aP q1 mO))))) rfl rfl (xName rfl) nO
   have d2:lo=.no\/∃ d,lo=.sh d:=by cases lo<;>first | exact .inl rfl | exact .inr ⟨_,rfl⟩ | cases h2
   have d3:ah=.no\/∃ d,ah=.sh d:=by cases ah<;>first | exact .inl rfl | exact .inr ⟨_,rfl⟩ | cases h3
   rcases h with rfl | rfl
   ·refine zQ (ρ':=jc N (.ow (M.map ti)) (.sh (.int x)) lo ah) (d:=.lst []) (aP rfl (mQ rfl (aP rfl (aP h2 (aP h3 mO))))) rfl (Cy bx rfl) ?_ (hno:=by rcases d2 with rfl | ⟨_,rfl⟩<;>rcases d3 with rfl | ⟨_,rfl⟩<;>rfl)
    exact pO (ρ:=jc N (.ow (M.map ti)) (.sh (.int x)) (.ow []) ah) (ρ':=jc N (.sh (.lst (M.map ti))) (.sh (.int x)) (.ow []) ah) (aP rfl (J4 rfl (aP rfl (mQ rfl (aP h3 mO))))) (wSq (x:=.lst (M.map ti)) rfl (xName rfl) rfl) q2 s2
   ·refine zQ (ρ':=jc N (.sh (.lst (M.map ti))) (.sh (.int x)) lo ah) (d:=.lst []) (aP rfl (aP rfl (aP rfl (aP h2 (aP h3 mO))))) rfl (Cy bx rfl) ?_ (hno:=by rcases d2 with rfl | ⟨_,rfl⟩<;>rcases d3 with rfl | ⟨_,rfl⟩<;>rfl)
    exact pO (ρ:=jc N (.sh (.lst (M.map ti))) (.sh (.int x)) (.ow []) ah) (ρ':=jc N (.sh (.lst (M.map ti))) (.sh (.int x)) (.ow []) ah) (aP rfl (aP rfl (aP rfl (mQ rfl (aP h3 mO))))) (wSq (x:=.lst (M.map ti)) rfl (xName rfl) rfl) q2 s2
  simp only[List.map_cons,bG,st];exact r5
theorem vL(k:Nat){l:List Int}(h7:l.length<=7):aY T 60 (k+1) "_law_signed" [ti l]=some (.lst ((sgd l).map ti)):=by
 have p:2^l.length<=2^7:=Nat.pow_le_pow_right (by omega) h7;obtain⟨md',o',lo',ah',r1,r2,r3,r4,r5⟩:=Bu k (N:=ti l) l [[]] (.ow [.tup []]) .no .no .no (.inl rfl) rfl rfl rfl (fun a h=>by rw[List.mem_singleton.mp h];simp;omega) (by simp;omega);refine fB (fd:=bf (top 41)) rfl rfl (gj rfl (d:=.lst [.tup []]) (Cy (ao (tY bx rfl) bx) rfl) ?_);refine pO (ρ:=jc (ti l) (.ow [.tup []]) .no .no .no) (ρ':=jc (ti l) (.ow [.tup []]) .no .no .no) (aP rfl (mQ rfl (aP rfl (aP rfl (aP rfl mO))))) (xV (xs:=l.map D.int) rfl (xName rfl)) r5 ?_;rcases r1 with rfl | rfl
 ·refine dU ?_
  rw[show frz 60 _ (jc (ti l) (.ow ((l.foldl stS [[]]).map ti)) o' lo' ah')=jc (ti l) (.sh (.lst ((l.foldl stS [[]]).map ti))) o' lo' ah' from aP rfl (J4 rfl (aP r2 (aP r3 (aP r4 mO))))];exact xName rfl
 ·exact RG (dh rfl (dh rfl (dh r2 (dh r3 (dh r4 rfl))))) (xName rfl)
end M60
namespace M60
open PySem DE
theorem JG(k:Nat){d x:D}(h:dep d<1000)(hf:eN d=false):oh T 60 (k+5) "led" [d,x]=some "NoTable"/\aY T 60 (k+5) "led" [d,x]=none:=by
 obtain⟨q1,q2⟩:=Fj k h hf;exact Cv (fd:=bf (top 23)) rfl rfl (K6 rfl (mW rfl (ao (xName rfl) bx) q1 q2))
theorem Fz(k:Nat){m c:Nat}{f:Nat->Nat->Int}{us:List D}(h1:1<=m)(h2:m<=4)(h3:1<=c)(h4:c<=4)(hn:us.length≠c):oh T 60 (k+5) "led" [tbl m c f,.tup us]=some "NoFit"/\aY T 60 (k+5) "led" [tbl m c f,.tup us]=none:=by
 refine Cv (fd:=bf (top 23)) rfl rfl (K5 rfl (d:=.non) (aW rfl (ao (xName rfl) bx) (need_table k h1 h2 h3 h4)) (qd ?_ rfl));refine d7 (x:=.int (c:Int)) (y:=.int (us.length:Int)) (cT rfl rfl rfl (ao (Ku (h:=fun i=>row c (f i)) (xName rfl) (au rfl) (by omega) rfl rfl) bx) G3) (cT rfl rfl rfl (ao (x:=.tup us) (xName rfl) bx) rfl) ?_;have hn':c≠us.length:=fun e=>hn e.symm;rw[Sx,decide_eq_true hn']
theorem yh(k:Nat):aY T 60 (k+1) "_law_word" [.exc "NoFit"]=some (.str "no fit"):=by kernel_rfl
theorem yg(k:Nat):aY T 60 (k+1) "_law_word" [.exc "NoTable"]=some (.str "no table"):=by kernel_rfl
def Dr(b x:D)(kept ans e:Sl):Rho:=[("_law_table_here",.sh b),("_law_numbers",.sh x),("_law_kept",kept),("_law_answer",ans),("e",e)]
theorem Ck{b x:D}:jE (Dr b x (.sh .non) (.sh .non) .no)=true:=rfl
theorem Tr(k:Nat){b x y:D}(h:aY T 60 k "led" [b,x]=some y):aY T 60 (k+1) "_law_led" [b,x]=some y :=
 fB (fd:=bf (top 40)) rfl rfl (gj rfl (d:=.non) (au rfl) (gj rfl (d:=.non) (au rfl) (PX (fl1:=.nxt (Dr b x (.sh .non) (.sh y) .no)) rfl (iG (d:=y) (ρ':=Dr b x (.sh .non) (.sh .non) .no) rfl rfl rfl (aW rfl (ao (x:=b) (xName rfl) (ao (x:=x) (xName rfl) bx)) h) rfl) (mL (fl1:=.ret y) (d7 (x:=.non) (y:=.non) (xName rfl) (au rfl) rfl) (dU (xName rfl)) rfl))))
theorem Rx(k:Nat){b x:D}{cn wd:Str}(hc:cn="NoFit"\/cn="NoTable")(hw:aY T 60 (k+1) "_law_word" [.exc cn]=some (.str wd))(h:oh T 60 (k+1) "led" [b,x]=some cn/\aY T 60 (k+1) "led" [b,x]=none):aY T 60 (k+2) "_law_led" [b,x]=some (.str wd):=by
 rcases hc with rfl | rfl
 ·exact fB (fd:=bf (top 40)) rfl rfl (gj rfl (d:=.non) (au rfl) (gj rfl (d:=.non) (au rfl) (J3 (ρ:=Dr b x (.sh .non) (.sh .non) .no) (ρ':=Dr b x (.sh .non) (.sh .non) .no) (c':="NoFit") rfl (Bh (cx:=cxN T 60 (k+1)) Ck rfl (mW (cx:=cxN T 60 (k+1)) rfl (ao (x:=b) (xName rfl) (ao (x:=x) (xName rfl) bx)) h.1 h.2).2 (mW (cx:={ cxN T 60 (k+1) with rs:=false }) rfl (ao (x:=b) (xName rfl) (ao (x:=x) (xName rfl) bx)) h.1 h.2)) rfl (qT (d7 (x:=.exc "NoFit") (y:=.non) (xName rfl) (au rfl) rfl) (dU (aW rfl (ao (x:=.exc "NoFit") (xName rfl) bx) hw))))))
 ·exact fB (fd:=bf (top 40)) rfl rfl (gj rfl (d:=.non) (au rfl) (gj rfl (d:=.non) (au rfl) (J3 (ρ:=Dr b x (.sh .non) (.sh .non) .no) (ρ':=Dr b x (.sh .non) (.sh .non) .no) (c':="NoTable") rfl (Bh (cx:=cxN T 60 (k+1)) Ck rfl (mW (cx:=cxN T 60 (k+1)) rfl (ao (x:=b) (xName rfl) (ao (x:=x) (xName rfl) bx)) h.1 h.2).2 (mW (cx:={ cxN T 60 (k+1) with rs:=false }) rfl (ao (x:=b) (xName rfl) (ao (x:=x) (xName rfl) bx)) h.1 h.2)) rfl (qT (d7 (x:=.exc "NoTable") (y:=.non) (xName rfl) (au rfl) rfl) (dU (aW rfl (ao (x:=.exc "NoTable") (xName rfl) bx) hw))))))
def fC(ns:List Int)(ma nu ey si ot ro co tb so du sz fa to ba:Sl):Rho:=[("_law_script",.sh (scr ns)),("_law_many",ma),("_law_numbers",nu),("_law_every",ey),("_law_signs",si),("_law_other",ot),("_law_rows",ro),("_law_columns",co),("_law_table_here",tb),("_law_some_here",so),("_law_due",du),("_law_size_here",sz),("_law_far",fa),("_law_told",to),("_law_bad",ba)]
abbrev bdy(i:Nat):List Stmt:=(bf (top 42)).body.drop i
abbrev lSc:Scope:=(bf (top 42)).sc
abbrev nI(n:Nat):Sl:=.sh (.int (n:Int))
theorem Sy{a b:Int}:cmpop .NotEq (.int a) (.int b)=some (.bl (decide (a≠b))):=by
 rw[oNe (by simp[dep]) (by simp[dep])]
 by_cases h:a=b
 ·subst h;simp[deq]
 ·simp[deq,h]
theorem Qt{s:List Int}{i:Int}{j:Nat}(hi:i=(j:Int))(hj:j<s.length):atD (s.map D.int) i=some (.int (s.getD j 0)):=hi▸qz hj
abbrev eF:Stmt:=bC 42 3
section
variable {ns:List Int} {ma nu:D}
theorem Ka:∀ (M:List (List Int)) (A:List Int) (si:Sl),nOw si=true->(∀ a∈M,1<=a.length/\a.length<=100)->A.length+M.length<=1000->∃ si',nOw si'=true/\bG (fF (cxN T 60 39) 60 59 lSc (pP eF) (lX eF)) (M.map ti) (fC ns (.sh ma) (.sh nu) (.ow (A.map D.int)) si .no .no .no .no .no .no .no .no .no .no)=some (.nxt (fC ns (.sh ma) (.sh nu) (.ow ((A++M.map fun s=>((ch s:Nat):Int)).map D.int)) si' .no .no .no .no .no .no .no .no .no .no))
 | [],A,si,h,_,_=>⟨si,h,by simp only[List.map_nil,List.append_nil];rfl⟩
 | s::M,A,si,h,ha,hz=>by
  simp only[List.length_cons] at hz;obtain⟨si',h1,h2⟩:=Ka M (A++[((ch s:Nat):Int)]) (.sh (ti s)) rfl (fun b hb=>ha b (List.mem_cons_of_mem _ hb)) (by rw[List.length_append];simp;omega);refine⟨si',h1,?_⟩;obtain⟨l1,l2⟩:=ha s List.mem_cons_self
  have st:fF (cxN T 60 39) 60 59 lSc (pP eF) (lX eF) (ti s) (fC ns (.sh ma) (.sh nu) (.ow (A.map D.int)) si .no .no .no .no .no .no .no .no .no .no)=some (.nxt (fC ns (.sh ma) (.sh nu) (.ow ((A++[((ch s:Nat):Int)]).map D.int)) (.sh (ti s)) .no .no .no .no .no .no .no .no .no .no)):=by
   refine dz (ρ1:=fC ns (.sh ma) (.sh nu) (.ow (A.map D.int)) (.sh (ti s)) .no .no .no .no .no .no .no .no .no .no) rfl ?_;rw[List.map_append];refine Ge (ds:=A.map D.int) (d:=.int ((ch s:Nat):Int)) (ρ':=fC ns (.sh ma) (.sh nu) (.ow (A.map D.int)) (.sh (ti s)) .no .no .no .no .no .no .no .no .no .no) rfl rfl rfl rfl (jL (by rw[List.length_map];omega)) ?_ rfl
   have e1:((s.length:Int)-1).toNat=s.length-1:=by omega
   refine cT (ds:=[.lst (((List.range (s.length-1)).filter fun k=>decide (s.getD (k+1) 0≠s.getD k 0)).map fun k:Nat=>D.int (1+(k:Int)))]) rfl rfl rfl (ao (cR (l:=(List.range (s.length-1)).map fun k:Nat=>D.int (1+(k:Int))) rfl ?_ (jL (by rw[List.length_map,List.length_range];omega)) (dX fun k hk=>?_)) bx) ?_
   ·rw[show(List.range (s.length-1)).map (fun k:Nat=>D.int (1+(k:Int)))=bR 1 (s.length:Int) by rw[uU,e1];rfl]
    refine wR2 rfl (au rfl) (cT (ds:=[ti s]) rfl rfl rfl (ao (xName rfl) bx) ?_) ?_
    ·rw[gO,List.length_map]
    ·rw[Qu (by omega)];rfl
   ·have hk:=List.mem_range.mp hk
    refine fP rfl (d7 (x:=.int (s.getD (k+1) 0)) (y:=.int (s.getD k 0)) (xIx (x:=ti s) (i:=1+(k:Int)) (xName rfl) (xName rfl) rfl (Qt (by omega) (by omega))) (xIx (x:=ti s) (i:=1+(k:Int)-1) (xName rfl) (cP (xName rfl) (au rfl) rfl) rfl (Qt (by omega) (by omega))) Sy) (xName rfl)
   ·show some (D.int (((_:List D).length:Nat):Int))=_
    rw[List.length_map];rfl
  simp only[List.map_cons,bG,st];rw[show A++(((ch s:Nat):Int)::M.map fun s=>((ch s:Nat):Int))=A++[((ch s:Nat):Int)]++M.map fun s=>((ch s:Nat):Int) by simp];exact h2
end
theorem uO:∀ (l:List Int) (M:List (List Int)),(l.foldl stS M).length<=M.length*2^l.length
 | [],M=>by simp
 | x::l,M=>by
  have h:=uO l (stS M x);have:=uL M x;have p:=Nat.mul_le_mul_right (2^l.length) this;rw[List.length_cons,Nat.pow_succ,show M.length*(2^l.length*2)=2*M.length*2^l.length by ac_rfl];exact Nat.le_trans h p
theorem uN:∀ (l:List Int) (M:List (List Int)) (q:Nat),(∀ a∈M,a.length=q)->∀ a∈l.foldl stS M,a.length=q+l.length
 | [],M,q,h,a,ha=>h a ha
 | x::l,M,q,h,a,ha=>by
  have:=uN l (stS M x) (q+1) (fun b hb=>by obtain⟨c,hc,e⟩:=uK hb;rw[e,h c hc]) a ha
  rw[List.length_cons];omega
theorem iT:∀ l:List Int,fU (l.map D.int)=some l
 | []=>rfl
 | x::l=>by simp only[List.map_cons,fU,iT l,Option.map_some]
theorem JH{l:List Int}(h:l.isEmpty=false):blt "min" [.lst (l.map D.int)]=some (.int (lea l)):=by
 cases l with
 | nil=>cases h
 | cons x r =>
  show mnT _=_;unfold mnT;rw[iT];rfl
theorem Jy{l:List Int}(h:l.isEmpty=false):blt "max" [.lst (l.map D.int)]=some (.int (mos l)):=by
 cases l with
 | nil=>cases h
 | cons x r =>
  show mxN _=_;unfold mxN;rw[iT];rfl
theorem Fv(k:Nat){l:List Int}(h:1<=l.length):aY T 60 (k+2) "most_changes" [ti l]=some (.int ((mc l:Nat):Int)):=by
 cases l with
 | nil=>simp at h
 | cons x r=>exact most k
theorem Qn{cx:Cxt}{N:Nat}{sc:Scope}{ρ:Rho}{a c:Expr}{q p:Pos}{us:List D}(h1:ev cx N sc ρ a=some (.tup us))(h2:ev cx N sc ρ c=some (.int (-1))):ev cx (N+1) sc ρ (.Subscript a (.Slice none none (some c) q) p)=some (.tup us.reverse):=by
 show(ev cx N sc ρ a >>=fun x=>Kz x none none ((ev cx N sc ρ c).bind asI))=_;rw[h1,h2];rfl
theorem Al{f:D->Option (Option D)}{a b c x y z:D}(h1:f a=some (some x))(h2:f b=some (some y))(h3:f c=some (some z)):bB f [a,b,c]=some [x,y,z]:=by
 simp only[bB,h1,h2,h3];rfl
end M60
namespace M60
open PySem DE
theorem Ip(k:Nat){c w:Nat}(h1:1<=c)(h3:c<=3)(hw:w<2):aY T 60 (k+3) "all_rows" [.int (c:Int),.int (w:Int)]=some (.lst ((AR w c).map ti)):=by
 match c,h1,h3,w,hw with
 | 1,_,_,0,_=>kernel_rfl
 | 2,_,_,0,_=>kernel_rfl
 | 3,_,_,0,_=>kernel_rfl
 | 1,_,_,1,_=>kernel_rfl
 | 2,_,_,1,_=>kernel_rfl
 | 3,_,_,1,_=>kernel_rfl
theorem Ia:∀ w,w<2->∀ c,c<3->Kst.Hg (AR w (c+1))=true:=by decide +kernel
theorem xP:∀ L:List (List Int),(∀ l∈L,l≠[])->Ay (L.map ti)=some L
 | [],_=>rfl
 | []::L,h=>absurd rfl (h [] List.mem_cons_self)
 | (x::r)::L,h=>by
  have i:=xP L fun l hl=>h l (List.mem_cons_of_mem _ hl);simp only[List.map_cons,Ay,i];rw[show fU (D.int x::r.map D.int)=some (x::r) from iT (x::r)]
def arN(w c:Nat):Bool:=(AR w c).all (fun l => !l.isEmpty)&&decide ((AR w c).length<=27)
theorem Ud:∀ w,w<2->∀ c,c<3->arN w (c+1)=true:=by decide +kernel
section
variable {ns:List Int} {ma nu ey si ot ro co so du:Sl} {m c:Nat} {f:Nat->Nat->Int}
abbrev S15(ns:List Int)(ma nu ey si ot ro co:Sl)(m c:Nat)(f:Nat->Nat->Int)(so du:Sl)(sz fa:Nat)(to ba:Sl):Rho:=fC ns ma nu ey si ot ro co (.sh (tbl m c f)) so du (nI sz) (nI fa) to ba
theorem c15{sz fa:Nat}(h1:1<=sz)(h3:sz<=3)(hw:fa<2):ev (cxN T 60 39) 60 lSc (S15 ns ma nu ey si ot ro co m c f so du sz fa (.sh (.lst ((AR fa sz).map ti))) .no) (ifX (bC 42 15))=some (.bl false):=by
 have hn:=Ud fa hw (sz-1) (by omega);have hs:=Ia fa hw (sz-1) (by omega);rw[show sz-1+1=sz by omega] at hn hs;simp only[arN,Bool.and_eq_true,List.all_eq_true,decide_eq_true_eq] at hn
 have tt:=xP (AR fa sz) fun l hl e=>by have:=hn.1 l hl;rw[e] at this;cases this
 refine dw (rK (d7 (x:=.lst ((AR fa sz).map ti)) (y:=.lst ((AR fa sz).map ti)) (xName rfl) (xSs rfl rfl (xName rfl) tt hs) (Qw ?_)) (rM ?_))
 ·show deps _+1<=50
  have:=cZ (b:=1) (l:=(AR fa sz).map ti) fun x hx=>by
   obtain⟨l,_,rfl⟩:=List.mem_map.mp hx;show deps _+1<=1
   have:=cZ (b:=0) (l:=l.map D.int) fun y hy=>by
    obtain⟨j,_,rfl⟩:=List.mem_map.mp hy;simp[dep]
   omega
  omega
 ·match sz,h1,h3,fa,hw with
  | 1,_,_,0,_=>kernel_rfl
  | 2,_,_,0,_=>kernel_rfl
  | 3,_,_,0,_=>kernel_rfl
  | 1,_,_,1,_=>kernel_rfl
  | 2,_,_,1,_=>kernel_rfl
  | 3,_,_,1,_=>kernel_rfl
theorem c16{sz fa:Nat}(h1:1<=sz)(h3:sz<=3)(hw:fa<2):ev (cxN T 60 39) 60 lSc (S15 ns ma nu ey si ot ro co m c f so du sz fa (.sh (.lst ((AR fa sz).map ti))) .no) (ifX (bC 42 16))=some (.bl false):=by
 match sz,h1,h3,fa,hw with
 | 1,_,_,0,_=>kernel_rfl
 | 2,_,_,0,_=>kernel_rfl
 | 3,_,_,0,_=>kernel_rfl
 | 1,_,_,1,_=>kernel_rfl
 | 2,_,_,1,_=>kernel_rfl
 | 3,_,_,1,_=>kernel_rfl
end
end M60
namespace M60
open PySem DE
theorem fzL{ns:List Int}{E:List D}{ma nu si ot ro co tb so du sz fa to ba:Sl}(h1:nOw ma=true)(h2:nOw nu=true)(h4:nOw si=true)(h5:nOw ot=true)(h6:nOw ro=true)(h7:nOw co=true)(h8:nOw tb=true)(h9:nOw so=true)(ha:nOw du=true)(hb:nOw sz=true)(hc:nOw fa=true)(hd:nOw to=true)(he:nOw ba=true){e:Expr}(hm:dR 60 "_law_every" e=false):frz 60 e (fC ns ma nu (.ow E) si ot ro co tb so du sz fa to ba)=fC ns ma nu (.ow E) si ot ro co tb so du sz fa to ba :=
 aP rfl (aP h1 (aP h2 (mQ hm (aP h4 (aP h5 (aP h6 (aP h7 (aP h8 (aP h9 (aP ha (aP hb (aP hc (aP hd (aP he mO))))))))))))))
theorem J2{cx:Cxt}{sc:Scope}{ρ ρ':Rho}{e:Expr}{p q:Pos}{d:D}{F m j:Nat}{r:List Stmt}{fl:Fl}{es:List Expr}{l:List D}(hf:frz F e ρ=ρ)(hs:(swp sc es e).isSome=true)(h:ev cx F sc ρ e=some d)(hl:items d=some l)(hb:bindNames sc es l ρ=some ρ')(k:blk cx F (m+1) sc r ρ'=some fl):blk cx F (m+1) sc (.Assign [.Tuple es j q] e p::r) ρ=some fl:=gTup hs (by rw[hf];exact h) hl (by rw[hf];exact hb) k
theorem P0{cx:Cxt}{sc:Scope}{ρ ρ':Rho}{e:Expr}{p:Pos}{d:D}{F m:Nat}{r:List Stmt}(hf:frz F e ρ=ρ')(h:ev cx F sc ρ' e=some d):blk cx F (m+1) sc (.Return (some e) p::r) ρ=some (.ret d):=dU (by rw[hf];exact h)
section
variable {ns:List Int} {E:List D} {ma nu si ot ro co du:Sl} {m c:Nat} {f:Nat->Nat->Int} {r:Nat->Int}
theorem t17{sz fa:Nat}(c1:nOw ma=true)(c2:nOw nu=true)(c4:nOw si=true)(c5:nOw ot=true)(c6:nOw ro=true)(c7:nOw co=true)(c8:nOw du=true)(m1:1<=m)(m4:m<=4)(n4:c<=4){to:D}:blk (cxN T 60 39) 60 60 lSc (bdy 17) (S15 ns ma nu (.ow E) si ot ro co m c f (.sh (row c r)) du sz fa (.sh to) .no)=some (.ret (.bl true)):=by
 obtain⟨v,hv,hq⟩:=Ib 35 ns 90 (m:=m) (n:=c) (f:=f) m1 (by omega) (by omega)
 have hd:dep v<1000:=by omega
 have hb:=JW 38 (d:=v) (by omega);refine iG (d:=v) (fzL c1 c2 c4 c5 c6 c7 rfl rfl c8 rfl rfl rfl rfl rfl) rfl rfl (aW rfl (ao (xName rfl) (ao (au rfl) (ao (xName rfl) bx))) hq) ?_;refine P0 (ρ:=S15 ns ma nu (.ow E) si ot ro co m c f (.sh (row c r)) du sz fa (.sh to) (.sh v)) (fzL c1 c2 c4 c5 c6 c7 rfl rfl c8 rfl rfl rfl rfl rfl) (dw ?_)
 cases hf:eN v with
 | true =>
  rw[hf] at hb;exact Cw (aW rfl (ao (xName rfl) (ao (au rfl) bx)) hb)
 | false =>
  rw[hf] at hb;exact rK (aW rfl (ao (xName rfl) (ao (au rfl) bx)) hb) (rM (d7 (x:=.str "no table") (y:=.str "no table") (aW rfl (ao (xName rfl) (ao (xName rfl) bx)) (Rx 37 (.inr rfl) (yg 37) (JG 33 hd hf))) (au rfl) rfl))
theorem t13(c1:nOw ma=true)(c2:nOw nu=true)(c4:nOw si=true)(c5:nOw ot=true)(c6:nOw ro=true)(c7:nOw co=true)(c8:nOw du=true)(m1:1<=m)(m4:m<=4)(n4:c<=4):blk (cxN T 60 39) 60 60 lSc (bdy 13) (fC ns ma nu (.ow E) si ot ro co (.sh (tbl m c f)) (.sh (row c r)) du .no .no .no .no)=some (.ret (.bl true)):=by
 have h3:=cg (ns:=ns) (k:=3) (many:=3) (by omega);have p3:=pick 37 ns 3 (many:=3) (by omega);generalize pickN ns 3 3=a at h3 p3;have h4:=cg (ns:=ns) (k:=4) (many:=2) (by omega);have p4:=pick 37 ns 4 (many:=2) (by omega);generalize pickN ns 4 2=b at h4 p4;have cm:∀ {sz fa to:Sl} {e:Expr},nOw sz=true->nOw fa=true->nOw to=true->dR 60 "_law_every" e=false->frz 60 e (fC ns ma nu (.ow E) si ot ro co (.sh (tbl m c f)) (.sh (row c r)) du sz fa to .no)=fC ns ma nu (.ow E) si ot ro co (.sh (tbl m c f)) (.sh (row c r)) du sz fa to .no:=fun z1 z2 z3 hm=>fzL c1 c2 c4 c5 c6 c7 rfl rfl c8 z1 z2 z3 rfl hm;refine J2 (ρ':=fC ns ma nu (.ow E) si ot ro co (.sh (tbl m c f)) (.sh (row c r)) du (nI (1+a)) (nI b) .no .no) (d:=.tup [.int ((1+a:Nat):Int),.int (b:Int)]) (cm rfl rfl rfl rfl) rfl ?_ rfl rfl ?_
 ·refine tY (ao (tZ (cP (x:=.int 1) (y:=.int (a:Int)) (au rfl) (aW rfl (ao (x:=scr ns) (xName rfl) (ao (au rfl) (ao (au rfl) bx))) p3) rfl) (congrArg D.int (by omega))) (ao (aW rfl (ao (x:=scr ns) (xName rfl) (ao (au rfl) (ao (au rfl) bx))) p4) bx)) rfl
 refine iG (d:=.lst ((AR b (1+a)).map ti)) (cm rfl rfl rfl rfl) rfl rfl (aW rfl (ao (xName rfl) (ao (xName rfl) bx)) (Ip 36 (by omega) (by omega) h4)) ?_;refine BR (ρ:=S15 ns ma nu (.ow E) si ot ro co m c f (.sh (row c r)) du (1+a) b (.sh (.lst ((AR b (1+a)).map ti))) .no) (cm rfl rfl rfl rfl) (c15 (by omega) (by omega) h4) ?_;refine BR (ρ:=S15 ns ma nu (.ow E) si ot ro co m c f (.sh (row c r)) du (1+a) b (.sh (.lst ((AR b (1+a)).map ti))) .no) (cm rfl rfl rfl rfl) (c16 (by omega) (by omega) h4) ?_;exact t17 c1 c2 c4 c5 c6 c7 c8 m1 m4 n4
end
theorem dep_row{n:Nat}{g:Nat->Int}:dep (row n g)<=1:=by
 show deps _+1<=1
 have:=cZ (b:=0) (l:=Ls n fun j=>D.int (g j)) fun y hy=>by
  obtain⟨j,_,rfl⟩:=nG hy;simp[dep]
 omega
section
variable {ns:List Int} {E:List D} {ma nu si ot:Sl}
theorem t8(c1:nOw ma=true)(c2:nOw nu=true)(c4:nOw si=true)(c5:nOw ot=true):blk (cxN T 60 39) 60 60 lSc (bdy 8) (fC ns ma nu (.ow E) si ot .no .no .no .no .no .no .no .no .no)=some (.ret (.bl true)):=by
 have h1:=cg (ns:=ns) (k:=1) (many:=4) (by omega);have p1:=pick 37 ns 1 (many:=4) (by omega);generalize pickN ns 1 4=a at h1 p1;have h2:=cg (ns:=ns) (k:=2) (many:=4) (by omega);have p2:=pick 37 ns 2 (many:=4) (by omega);generalize pickN ns 2 4=b at h2 p2;have cm:∀ {ro co tb so du:Sl} {e:Expr},nOw ro=true->nOw co=true->nOw tb=true->nOw so=true->nOw du=true->dR 60 "_law_every" e=false->frz 60 e (fC ns ma nu (.ow E) si ot ro co tb so du .no .no .no .no)=fC ns ma nu (.ow E) si ot ro co tb so du .no .no .no .no:=fun z1 z2 z3 z4 z5 hm=>fzL c1 c2 c4 c5 z1 z2 z3 z4 z5 rfl rfl rfl rfl hm;refine J2 (ρ':=fC ns ma nu (.ow E) si ot (nI (1+a)) (nI (1+b)) .no .no .no .no .no .no .no) (d:=.tup [.int ((1+a:Nat):Int),.int ((1+b:Nat):Int)]) (cm rfl rfl rfl rfl rfl rfl) rfl ?_ rfl rfl ?_
 ·refine tY (ao (tZ (cP (x:=.int 1) (y:=.int (a:Int)) (au rfl) (aW rfl (ao (x:=scr ns) (xName rfl) (ao (au rfl) (ao (au rfl) bx))) p1) rfl) (congrArg D.int (by omega))) (ao (tZ (cP (x:=.int 1) (y:=.int (b:Int)) (au rfl) (aW rfl (ao (x:=scr ns) (xName rfl) (ao (au rfl) (ao (au rfl) bx))) p2) rfl) (congrArg D.int (by omega))) bx)) rfl
 have m1:1<=1+a:=by omega
 have m4:1+a<=4:=by omega
 have n1:1<=1+b:=by omega
 have n4:1+b<=4:=by omega
 generalize 1+a=m at m1 m4;generalize 1+b=c at n1 n4;refine iG (d:=tbl m c (ux ns 30)) (cm rfl rfl rfl rfl rfl rfl) rfl rfl (aW rfl (ao (x:=scr ns) (xName rfl) (ao (au rfl) (ao (xName rfl) (ao (xName rfl) bx)))) (table 36 ns 30 m4 n4)) ?_;have hf:Sm m c (ux ns 30):=rQ;generalize ux ns 30=f at hf;have hr:∀ k,pickN ns (70+k) 9<9:=fun k=>cg (by omega);refine iG (ρ:=fC ns ma nu (.ow E) si ot (nI m) (nI c) (.sh (tbl m c f)) .no .no .no .no .no .no) (d:=row c fun k=>(pickN ns (70+k) 9:Int)-4) (cm rfl rfl rfl rfl rfl rfl) rfl rfl (cT rfl rfl rfl (ao (cR rfl (Hx (j:=c) rfl (xName rfl) (by omega)) (kE (by omega)) (cu (g:=fun k=>.int ((pickN ns (70+k) 9:Int)-4)) fun k hk=>dZ rfl ?_)) bx) xY) ?_
 ·exact cP (x:=.int (pickN ns (70+k) 9:Int)) (y:=.int 4) (aW rfl (ao (x:=scr ns) (xName rfl) (ao (x:=.int ((70+k:Nat):Int)) (tZ (cP (x:=.int 70) (y:=.int (k:Int)) (au rfl) (xName rfl) rfl) (congrArg D.int (by omega))) (ao (x:=.int ((9:Nat):Int)) (au rfl) bx))) (pick 37 ns (70+k) (many:=9) (by omega))) (au rfl) rfl
 have hs:∀ j,small ((fun k=>(pickN ns (70+k) 9:Int)-4) j)=true:=fun j=>by
  have:=hr j;show small ((pickN ns (70+j) 9:Int)-4)=true;unfold small;rw[decide_eq_true (by omega),decide_eq_true (by omega)];rfl
 generalize (fun k=>(pickN ns (70+k) 9:Int)-4)=r at hs
 have e:∀ (n:Nat) (r:Nat->Int),ti (vec n r)=row n r:=fun n r=>by show D.tup _=D.tup _;rw[j6]
 have L1:aY T 60 39 "_law_led" [tbl m c f,row c r]=some (row m (yy c f r)):=by
  have q:=led 33 (f:=f) (r:=r) m1 m4 n1 n4 fun j _=>hs j;rw[e,e] at q;exact Tr 38 q
 have L2:∀ us:List D,us.length≠c->aY T 60 39 "_law_led" [tbl m c f,.tup us]=some (.str "no fit"):=fun us h=>Rx 37 (.inl rfl) (yh 37) (Fz 33 m1 m4 n1 n4 h);have tm:=zG 38 (f:=f) (g:=fun l _=>r l) m4 n1 n4 (p:=1) (by omega) (.inl hf);refine iG (ρ:=fC ns ma nu (.ow E) si ot (nI m) (nI c) (.sh (tbl m c f)) (.sh (row c r)) .no .no .no .no .no) (d:=row m (yy c f r)) (cm rfl rfl rfl rfl rfl rfl) rfl rfl ?_ ?_
 ·refine cT rfl rfl rfl (ao (cR rfl (xV (xs:=Ls m fun i=>row 1 (mul c f (fun l _=>r l) i)) rfl (aW rfl (ao (x:=tbl m c f) (xName rfl) (ao (x:=tbl c 1 fun l _=>r l) ?_ bx)) tm)) (kE (by omega)) (cu (g:=fun i=>.int (yy c f r i)) fun i hi=>dZ rfl (Ku (h:=fun j=>.int (mul c f (fun l _=>r l) i j)) (xName rfl) (au rfl) (by omega) rfl rfl))) bx) xY
  exact cT rfl rfl rfl (ao (cR rfl (xV (xs:=Ls c fun j=>.int (r j)) rfl (xName rfl)) (kE (by omega)) (cu (g:=fun i=>row 1 fun _=>r i) fun i hi=>dZ rfl (tY (ds:=[.int (r i)]) (ao (xName rfl) bx) rfl))) bx) xY
 refine BR (ρ:=fC ns ma nu (.ow E) si ot (nI m) (nI c) (.sh (tbl m c f)) (.sh (row c r)) (.sh (row m (yy c f r))) .no .no .no .no) (cm rfl rfl rfl rfl rfl rfl) ?_ (t13 c1 c2 c4 c5 rfl rfl rfl m1 m4 n4);refine d7 (x:=.lst [row m (yy c f r),.str "no fit",.str "no fit"]) (y:=.lst [row m (yy c f r),.str "no fit",.str "no fit"]) ?_ (Cy (ao (xName rfl) (ao (au rfl) (ao (au rfl) bx))) rfl) (Qw ?_)
 ·refine cR (l:=[row c r,.tup ((Ls c fun j=>.int (r j))++[.int 1]),.tup ((Ls c fun j=>.int (r j)).drop 1)]) rfl (xV rfl (tY (ao (xName rfl) (ao (cP (x:=row c r) (y:=.tup [.int 1]) (xName rfl) (tY (ao (au rfl) bx) rfl) (xK (by rw[bF];simp;omega))) (ao (j8 (us:=Ls c fun j=>.int (r j)) (i:=1) (xName rfl) (au rfl) (by omega) (by rw[bF];omega)) bx))) rfl)) rfl (Al (dZ rfl (aW rfl (ao (xName rfl) (ao (xName rfl) bx)) L1)) (dZ rfl (aW rfl (ao (xName rfl) (ao (xName rfl) bx)) (L2 _ ?_))) (dZ rfl (aW rfl (ao (xName rfl) (ao (xName rfl) bx)) (L2 _ ?_))))
  ·rw[List.length_append,bF];simp
  ·rw[List.length_drop,bF];omega
 ·have:=dep_row (n:=m) (g:=yy c f r)
  show deps _+1<=50
  have:=cZ (b:=1) (l:=[row m (yy c f r),.str "no fit",.str "no fit"]) fun x hx=>by
   simp only[List.mem_cons,List.not_mem_nil,or_false] at hx;rcases hx with rfl | rfl | rfl
   ·exact this
   ·simp[dep]
   ·simp[dep]
  omega
end
def nuV(p:Nat):Int:=[0,0,1,-1,2,-3].getD p 0
theorem Ph{p:Nat}(h:p<6):atD ([0,0,1,-1,2,-3].map D.int) (p:Int)=some (.int (nuV p)):=qz h
theorem Km{n:Nat}{v:Nat->Int}:alt (Ls n v)=Ls n fun k=>if k%2=0 then v k else 0-v k:=by
 unfold alt;rw[bF];refine Az fun k hk=>?_
 have g:(Ls n v).getD k 0=v k:=by rw[List.getD_eq_getElem?_getD,fH hk];rfl
 rw[g]
theorem law_true(ns:List Int)(_:ns.length<=63):aY T 60 40 "law" [.lst (ns.map D.int)]=some (.bl true):=by
 have hp:=cg (ns:=ns) (k:=0) (many:=7) (by omega);have pk:=pick 37 ns 0 (many:=7) (by omega);generalize pickN ns 0 7=p at hp pk;have cm:∀ {ma nu ey si ot:Sl},nOw ma=true->nOw nu=true->nOw ey=true->nOw si=true->nOw ot=true->jE (fC ns ma nu ey si ot .no .no .no .no .no .no .no .no .no)=true:=fun z1 z2 z3 z4 z5=>dh rfl (dh z1 (dh z2 (dh z3 (dh z4 (dh z5 rfl)))));refine fB (fd:=bf (top 42)) rfl rfl (Kg (ρ:=fC ns .no .no .no .no .no .no .no .no .no .no .no .no .no .no) (d:=.int ((1+p:Nat):Int)) (cm rfl rfl rfl rfl rfl) rfl rfl (tZ (cP (x:=.int 1) (y:=.int (p:Int)) (au rfl) (aW rfl (ao (x:=scr ns) (xName rfl) (ao (au rfl) (ao (au rfl) bx))) pk) rfl) (congrArg D.int (by omega))) ?_)
 have n1:1<=1+p:=by omega
 have n7:1+p<=7:=by omega
 generalize 1+p=n at n1 n7
 have e:∀ (n:Nat) (r:Nat->Int),ti (vec n r)=row n r:=fun n r=>by show D.tup _=D.tup _;rw[j6]
 refine Kg (ρ:=fC ns (nI n) .no .no .no .no .no .no .no .no .no .no .no .no .no) (d:=row n fun k=>nuV (pickN ns (10+k) 6)) (cm rfl rfl rfl rfl rfl) rfl rfl (cT rfl rfl rfl (ao (cR rfl (Hx (j:=n) rfl (xName rfl) (by omega)) (kE (by omega)) (cu (g:=fun k=>.int (nuV (pickN ns (10+k) 6))) fun k hk=>dZ rfl ?_)) bx) xY) ?_
 ·exact xIx (x:=.lst ([0,0,1,-1,2,-3].map D.int)) (i:=(pickN ns (10+k) 6:Int)) (Cy (ao (au rfl) (ao (au rfl) (ao (au rfl) (ao (Bb (au rfl)) (ao (au rfl) (ao (Bb (au rfl)) bx)))))) rfl) (aW rfl (ao (x:=scr ns) (xName rfl) (ao (x:=.int ((10+k:Nat):Int)) (tZ (cP (x:=.int 10) (y:=.int (k:Int)) (au rfl) (xName rfl) rfl) (congrArg D.int (by omega))) (ao (x:=.int ((6:Nat):Int)) (au rfl) bx))) (pick 37 ns (10+k) (many:=6) (by omega))) rfl (Ph (cg (by omega)))
 generalize (fun k=>nuV (pickN ns (10+k) 6))=v;show blk _ _ _ _ _ (fC ns (nI n) (.sh (row n v)) .no .no .no .no .no .no .no .no .no .no .no .no)=_;have lv:(vec n v).length=n:=bF;have G:=zO (vec n v) (by omega) (by omega);simp only[good,Bool.and_eq_true,beq_iff_eq,Bool.not_eq_true'] at G;obtain⟨⟨⟨⟨⟨g0,g1⟩,g2⟩,g3⟩,g4⟩,g5⟩:=G;have alE:alt (vec n v)=vec n fun k=>if k%2=0 then v k else 0-v k:=Km;rw[alE,lv] at g5;have c1:=least 38 (l:=vec n v) (by omega);have c2:=Fv 37 (l:=vec n v) (by omega);have c3:=least 38 (l:=(vec n v).reverse) (by rw[List.length_reverse];omega);have c4:=Fv 37 (l:=(vec n v).reverse) (by rw[List.length_reverse];omega);have c5:=Fv 37 (l:=vec n fun k=>if k%2=0 then v k else 0-v k) (by rw[bF];omega);have sg:=vL 38 (l:=vec n v) (by omega);rw[g3] at c3;rw[g4] at c4;have mn:=JH g0;have mx:=Jy g0;rw[g1] at mn;rw[g2] at mx
 have rv:ti (vec n v).reverse=.tup (Ls n fun j=>D.int (v j)).reverse:=by show D.tup _=D.tup _;rw[List.map_reverse,j6]
 rw[rv] at c3 c4;rw[e] at c1 c2 c5 sg
 have sl:(sgd (vec n v)).length<=128:=by
  have:=uO (vec n v) [[]];have p:2^(vec n v).length<=2^7:=Nat.pow_le_pow_right (by omega) (by omega);unfold sgd;simp at this;omega
 have sm:∀ a∈sgd (vec n v),1<=a.length/\a.length<=100:=fun a ha=>by
  have:=uN (vec n v) [[]] 0 (fun b hb=>by rw[List.mem_singleton.mp hb];rfl) a ha
  omega
 obtain⟨si',s1,go⟩:=Ka (ns:=ns) (ma:=.int (n:Int)) (nu:=row n v) (sgd (vec n v)) [] .no rfl sm (by simp;omega)
 rw[List.nil_append] at go;change bG _ _ _=some (Fl.nxt (fC ns (nI n) (.sh (row n v)) (.ow ((evy (vec n v)).map D.int)) si' .no .no .no .no .no .no .no .no .no .no)) at go;refine zQ (ρ':=fC ns (nI n) (.sh (row n v)) .no .no .no .no .no .no .no .no .no .no .no .no) (d:=.lst []) rfl rfl (Cy bx rfl) ?_;refine pO (ρ:=fC ns (nI n) (.sh (row n v)) (.ow []) .no .no .no .no .no .no .no .no .no .no .no) (ρ':=fC ns (nI n) (.sh (row n v)) (.ow []) .no .no .no .no .no .no .no .no .no .no .no) (aP rfl (aP rfl (aP rfl (mQ rfl (aP rfl (aP rfl (aP rfl (aP rfl (aP rfl (aP rfl (aP rfl (aP rfl (aP rfl (aP rfl (aP rfl mO))))))))))))))) (wSq (x:=.lst ((sgd (vec n v)).map ti)) rfl (aW rfl (ao (xName rfl) bx) sg) rfl) go ?_;have fo:∀ {ot:Sl} {e:Expr},nOw ot=true->dR 60 "_law_every" e=true->frz 60 e (fC ns (nI n) (.sh (row n v)) (.ow ((evy (vec n v)).map D.int)) si' ot .no .no .no .no .no .no .no .no .no)=fC ns (nI n) (.sh (row n v)) (.sh (.lst ((evy (vec n v)).map D.int))) si' ot .no .no .no .no .no .no .no .no .no:=fun z q=>aP rfl (aP rfl (aP rfl (J4 q (aP s1 (aP z (aP rfl (aP rfl (aP rfl (aP rfl (aP rfl (aP rfl (aP rfl (aP rfl (aP rfl mO))))))))))))));have fk:∀ {ot:Sl} {e:Expr},nOw ot=true->dR 60 "_law_every" e=false->frz 60 e (fC ns (nI n) (.sh (row n v)) (.ow ((evy (vec n v)).map D.int)) si' ot .no .no .no .no .no .no .no .no .no)=fC ns (nI n) (.sh (row n v)) (.ow ((evy (vec n v)).map D.int)) si' ot .no .no .no .no .no .no .no .no .no:=fun z q=>aP rfl (aP rfl (aP rfl (mQ q (aP s1 (aP z (aP rfl (aP rfl (aP rfl (aP rfl (aP rfl (aP rfl (aP rfl (aP rfl (aP rfl mO))))))))))))));refine BR (fo rfl rfl) (dw (rK (d7 (aW rfl (ao (xName rfl) bx) c1) (cT rfl rfl rfl (ao (xName rfl) bx) mn) (Hh rfl)) (rM (d7 (aW rfl (ao (xName rfl) bx) c2) (cT rfl rfl rfl (ao (xName rfl) bx) mx) (Hh rfl))))) ?_;refine BR (fo rfl rfl) (dw (rK (d7 (aW rfl (ao (Qn (xName rfl) (Bb (au rfl))) bx) c3) (cT rfl rfl rfl (ao (xName rfl) bx) mn) (Hh rfl)) (rM (d7 (aW rfl (ao (Qn (xName rfl) (Bb (au rfl))) bx) c4) (cT rfl rfl rfl (ao (xName rfl) bx) mx) (Hh rfl))))) ?_;refine iG (fk rfl rfl) rfl rfl (d:=row n fun k=>if k%2=0 then v k else 0-v k) (cT rfl rfl rfl (ao (cR rfl (Qo (h:=fun j=>.int (v j)) rfl (xName rfl)) (kE (by omega)) (cu (g:=fun k=>.int (if k%2=0 then v k else 0-v k)) fun k hk=>dZ rfl ?_)) bx) xY) ?_
 ·by_cases q:k%2=0
  ·rw[if_pos q]
   exact RT (d7 (x:=.int ((k%2:Nat):Int)) (tZ (cP (x:=.int (k:Int)) (y:=.int 2) (xName rfl) (au rfl) (Ho (by decide))) (congrArg D.int (by omega))) (au rfl) (SN (by omega))) (xName rfl)
  ·rw[if_neg q]
   exact RV (d7 (x:=.int ((k%2:Nat):Int)) (tZ (cP (x:=.int (k:Int)) (y:=.int 2) (xName rfl) (au rfl) (Ho (by decide))) (congrArg D.int (by omega))) (au rfl) (Qz (by omega))) (cP (au rfl) (xName rfl) rfl)
 show blk _ _ _ _ _ (fC ns (nI n) (.sh (row n v)) (.ow ((evy (vec n v)).map D.int)) si' (.sh (row n fun k=>if k%2=0 then v k else 0-v k)) .no .no .no .no .no .no .no .no .no)=_;refine BR (fk rfl rfl) (d7 (cP (aW rfl (ao (xName rfl) bx) c1) (aW rfl (ao (xName rfl) bx) c5) rfl) (cP (x:=.int (n:Int)) (y:=.int 1) (cT rfl rfl rfl (ao (xName rfl) bx) G3) (au rfl) rfl) (Hh (by omega))) ?_;exact t8 rfl rfl s1 rfl
end M60
noncomputable section
namespace HS
open PySem PySem.W
theorem goT{p:Program}{w:World}{m:Nat}{a:Option Value}{n:Nat}{x y:Shared}{u:Thread}{c:Code}{o:Pos}{l:List Frame}(h:Fast.tw15667345088766844465 Fast.tw14364793385576792824 p w m a n x u=some (y,⟨Fast.tw11892475500146522536 Fast.tw14364793385576792824 c,c,o,l⟩)):topGo treeTable p w m a n x u=some (y,⟨denote treeTable c,c,o,l⟩):=by
 rw[Fast.te15667345088766844465,Fast.te14364793385576792824,Fast.te11892475500146522536];exact h
theorem Sd{p:Program}{w:World}{m:Nat}{a:Option Value}{k n:Nat}{x:Shared}{u:Thread}{y:Option (Flow×Shared×Code×Pos)}(h:Fast.tw14374325043358763698 Fast.tw14364793385576792824 p w m a k n x u=y):segRun treeTable p w m a k n x u=y:=by
 rw[Fast.te14374325043358763698,Fast.te14364793385576792824];exact h
theorem yJ{p:Program}{w:World}{m:Nat}{a:Option Value}{k n:Nat}{x:SharedT}{u:Thread}{y:Option (Flow×SharedT×Code×Pos)}(h:Fast.tw10110043849684766642 Fast.tw14364793385576792824 p w m a k n x u=y):segRunT treeTable p w m a k n x u=y:=by
 rw[Fast.te10110043849684766642,Fast.te14364793385576792824];exact h
theorem RX{p:Program}{w:World}{m:Nat}{a:Option Value}{n:Nat}{x:Shared}{u:Thread}{y:Option Shared}(h:Fast.tw14082659384304107361 Fast.tw14364793385576792824 p w m a n x u=y):topRun treeTable p w m a n x u=y:=by
 rw[Fast.te14082659384304107361,Fast.te14364793385576792824];exact h
theorem Lq{p:Program}{w:World}{m:Nat}{a:Option Value}{n:Nat}{x:Shared}{b l:List Stmt}{E:Env}{c:Code}{o:Pos}{B:List Frame}{y:Option Shared}(e:b=l)(h:topRun treeTable p w m a n x (restOf l E c o B)=y):topRun treeTable p w m a n x (restOf b E c o B)=y:=by
 rw[e];exact h
end HS
namespace H60
open PySem PySem.W HS
noncomputable abbrev p:Program:=PySem.Challenge.pw_minortables_k60_whole_signs
abbrev q:Program:=PySem.W.view p [1,2,3,4,5,6,7,9,10,11,12,13,14,15,17,18,20,21,22,23,24,26,27,28,29,30,31,32,33,34,35,36,37,38,39,40,41,42]
abbrev N:Nat:=4886
noncomputable abbrev lo:List Str:=[]
abbrev z:Value:=.none
noncomputable abbrev r(a:Nat):Value:=.ref a
noncomputable abbrev i(a:Int)(n:Nat):Value:=.int a n
abbrev s(x:Str)(n:Nat):Value:=.str x n
abbrev t(x:String):Value:=.type x
abbrev b(x:String):Value:=.builtin x
abbrev e(P:Params)(x:Str)(n:Nat)(v:Value):DictEntry:=⟨PyData.keyHash P x,.str x n,v⟩
def d(j:Nat):Stmt:=p.main.body.getD j (.Pass ⟨0,0,0,0⟩)
def m(j k:Nat):Stmt:=match d j with | .ClassDef _ _ _ l .. =>l.getD k (.Pass ⟨0,0,0,0⟩) | x=>x
def f(x:Stmt)(qn:Str)(g:Nat)(dV kV dc pm cd ct:Value):FuncData:=match x with | .FunctionDef n a l _ _ _ sc .. =>⟨n,qn,a,.stmts l,sc,g,[],dV,kV,dc,pm,none,cd,ct,0⟩ | _=>default
def y:Obj:=⟨.type "tuple",none,.seq #[] 0,#[]⟩
noncomputable def x:Obj:=⟨.none,none,.fields #[],#[]⟩
noncomputable def tnV:List Str->Nat->List Value | [],_=>[] | a::l,k=>.str a k::tnV l (k+1)
def tn(l:List Str)(k:Nat):Obj:=⟨.type "tuple",none,.seq (tnV l k).toArray 0,#[]⟩
def g(a:Stmt)(n:Str):Obj:=⟨.none,none,.func (f a n 0 z z z z z z),#[]⟩
def u(a:Stmt)(n:Str)(pm:Value)(c:Nat):Obj:=⟨.type "function",none,.func (f a n 3 z z z pm (r c) z),#[]⟩
def c(n:Str)(k:Nat)(l a fl:Int)(q:Nat)(bb:Bool)(h:Int)(q':Nat)(v w v':Value)(k':Nat):Obj:=⟨.type "code",none,.fields #[s n k,s n (k+1),s "/claim/cut.py" (k+2),i l 0,i a 0,i 0 0,i 0 0,i fl 0,r q,.bool bb,i h 0,r q',z,v,w,v',i k' 0,i l 0,s "/claim/cut.py" (k'+1)],#[]⟩
def I(t:BT):Nat->List Obj->BT | _,[]=>t | n,o::l=>I (t.ins n o) (n+1) l
def es(P:Params):List DictEntry:=[e P "__doc__" 166 z,
 e P "__package__" 167 z,
 e P "__loader__" 168 (b "__main__.__loader__#opaque"),
 e P "__spec__" 169 z,
 e P "__annotations__" 170 (r 6),
 e P "__builtins__" 171 (r 4),
 e P "__file__" 173 (s "/claim/cut.py" 172),
 e P "__cached__" 174 z,
 e P "MinorError" 206 (r 24),
 e P "NoTable" 222 (r 37),
 e P "NoFit" 238 (r 49),
 e P "NoPlace" 254 (r 61),
 e P "NoStep" 270 (r 73),
 e P "NoSteps" 286 (r 85),
 e P "NoText" 302 (r 97),
 e P "MOST_LINES" 306 (i 4 305),
 e P "is_whole" 313 (r 106),
 e P "is_short_tuple" 320 (r 113),
 e P "has_lines" 326 (r 118),
 e P "numbers_of" 335 (r 125),
 e P "has_table_form" 341 (r 130),
 e P "need_table" 348 (r 137),
 e P "row_by_column" 356 (r 142),
 e P "rows_out_of" 362 (r 147),
 e P "least_changes" 370 (r 152),
 e P "changes_behind" 380 (r 159),
 e P "most_changes" 386 (r 164),
 e P "led" 392 (r 169),
 e P "all_rows" 400 (r 176),
 e P "_law_cell" 410 (r 183),
 e P "_law_pick" 420 (r 190),
 e P "_law_table" 426 (r 195),
 e P "_law_size" 434 (r 202),
 e P "_law_times" 448 (r 209),
 e P "_law_worth" 454 (r 214),
 e P "_law_some" 460 (r 219),
 e P "_law_part" 466 (r 224),
 e P "_law_minors" 477 (r 231),
 e P "_law_places" 483 (r 236),
 e P "_law_put" 493 (r 243),
 e P "_law_spoilt_thing" 507 (r 250),
 e P "_law_is_table" 513 (r 255),
 e P "_law_word" 521 (r 262),
 e P "_law_led" 532 (r 269),
 e P "_law_signed" 538 (r 274),
 e P "law" 544 (r 279)]
def og(k n:Nat)(v:Value)(P:Params):Obj:=⟨.type "dict",none,.dict ((e P "__name__" 165 v::es P).take k).toArray n,#[]⟩
def fv:List Value:=[(i 2 0),(i 0 0),(r 20),(i 4 0),(i 0 0),(r 33),(i 6 0),(i 0 0),(r 45),(i 8 0),(i 0 0),(r 57),(i 10 0),(i 0 0),(r 69),(i 12 0),(i 0 0),(r 81),(i 14 0),(i 0 0),(r 93),(i 18 0),(i 0 0),(r 105),(i 20 0),(i 0 0),(r 112),(i 22 0),(i 0 0),(r 117),(i 26 0),(i 0 0),(r 124),(i 31 0),(i 0 0),(r 129),(i 33 0),(i 0 0),(r 136),(i 37 0),(i 0 0),(r 141),(i 39 0),(i 0 0),(r 146),(i 48 0),(i 0 0),(r 151),(i 51 0),(i 0 0),(r 158),(i 58 0),(i 0 0),(r 163),(i 63 0),(i 0 0),(r 168),(i 68 0),(i 0 0),(r 175),(i 71 0),(i 0 0),(r 182),(i 77 0),(i 0 0),(r 189),(i 80 0),(i 0 0),(r 194),(i 86 0),(i 0 0),(r 201),(i 88 0),(i 0 0),(r 208),(i 99 0),(i 0 0),(r 213),(i 109 0),(i 0 0),(r 218),(i 117 0),(i 0 0),(r 223),(i 119 0),(i 0 0),(r 230),(i 126 0),(i 0 0),(r 235),(i 132 0),(i 0 0),(r 242),(i 137 0),(i 0 0),(r 249),(i 145 0),(i 0 0),(r 254),(i 157 0),(i 0 0),(r 261),(i 163 0),(i 0 0),(r 268),(i 173 0),(i 0 0),(r 273),(i 181 0),(i 0 0),(r 278)]
def o12:Obj:=⟨z,none,.fields (fv.take 0).toArray,#[]⟩
def o13:Obj:=c "<module>" 182 1 0 0 11 false 181 12 z z z 185
def o14:Obj:=⟨(t "frame"),none,.plain,#[some (r 13),some (r 3),some (r 3),none,some (s "__main__" 164),none,some (r 0)]⟩
def Ti(P:Params):Obj:=og 10 10 (s "minortables.errors" 187) P
def Oz:Obj:=⟨z,none,.fields (fv.take 3).toArray,#[]⟩
def o15:Obj:=⟨(t "tuple"),none,(.seq #[(t "ValueError")] 0),#[]⟩
def o16:Obj:=⟨(t "builtin_function_or_method"),none,(.fields #[(b "type.__prepare__"),(t "type")]),#[]⟩
def o17(P:Params):Obj:=⟨(t "dict"),none,(.dict #[e P "__module__" 196 (s "minortables.errors" 187),e P "__qualname__" 198 (s "MinorError" 197),e P "__firstlineno__" 200 (i 2 199),e P "__static_attributes__" 201 (r 22)] 4),#[]⟩
def o20:Obj:=c "MinorError" 191 2 0 0 18 false 181 19 z z z 194
def o21:Obj:=⟨(t "frame"),none,.plain,#[some (r 20),some (r 3),some (r 17),none,some (s "minortables.errors" 187),none,some (r 0)]⟩
def o23(P:Params):Obj:=⟨(t "dict"),none,(.dict #[e P "__module__" 196 (s "minortables.errors" 187),e P "__firstlineno__" 200 (i 2 199),e P "__static_attributes__" 201 (r 22),e P "__weakref__" 203 (r 25),e P "__doc__" 204 z] 3),#[]⟩
def o24:Obj:=⟨(t "type"),none,(.cls ⟨"MinorError",[(t "ValueError")],[(r 24),(t "ValueError"),(t "Exception"),(t "BaseException"),(t "object")],23,"MinorError",true,[],[],false,none,false⟩),#[some (r 15),none,some (s "MinorError" 189),some (s "MinorError" 197),some (b "ValueError.__new__"),some (.bool true)]⟩
def o25:Obj:=⟨(t "getset_descriptor"),none,(.fields #[(s "__weakref__" 202),(r 24),(b "ExceptionGroup.__weakref__"),z]),#[]⟩
def o26:Obj:=⟨(t "super"),none,(.fields #[(r 24),(r 24),(r 24)]),#[]⟩
def o27:Obj:=⟨(t "builtin_function_or_method"),none,(.fields #[(b "object.__init_subclass__"),(r 24)]),#[]⟩
def Tg(P:Params):Obj:=og 11 11 (s "minortables.errors" 187) P
def Ox:Obj:=⟨z,none,.fields (fv.take 6).toArray,#[]⟩
def M8:Obj:=⟨(t "type"),none,(.cls ⟨"MinorError",[(t "ValueError")],[(r 24),(t "ValueError"),(t "Exception"),(t "BaseException"),(t "object")],23,"MinorError",true,[],[(r 37)],false,none,false⟩),#[some (r 15),none,some (s "MinorError" 189),some (s "MinorError" 197),some (b "ValueError.__new__"),some (.bool true)]⟩
def o28:Obj:=⟨(t "tuple"),none,(.seq #[(r 24)] 0),#[]⟩
def o29:Obj:=⟨(t "builtin_function_or_method"),none,(.fields #[(b "type.__prepare__"),(t "type")]),#[]⟩
def o30(P:Params):Obj:=⟨(t "dict"),none,(.dict #[e P "__module__" 214 (s "minortables.errors" 187),e P "__qualname__" 216 (s "NoTable" 215),e P "__firstlineno__" 218 (i 4 217),e P "__static_attributes__" 219 (r 35)] 4),#[]⟩
def o33:Obj:=c "NoTable" 209 4 0 0 31 false 181 32 z z z 212
def o34:Obj:=⟨(t "frame"),none,.plain,#[some (r 33),some (r 3),some (r 30),none,some (s "minortables.errors" 187),none,some (r 0)]⟩
def o36(P:Params):Obj:=⟨(t "dict"),none,(.dict #[e P "__module__" 214 (s "minortables.errors" 187),e P "__firstlineno__" 218 (i 4 217),e P "__static_attributes__" 219 (r 35),e P "__doc__" 220 z] 2),#[]⟩
def o37:Obj:=⟨(t "type"),none,(.cls ⟨"NoTable",[(r 24)],[(r 37),(r 24),(t "ValueError"),(t "Exception"),(t "BaseException"),(t "object")],36,"NoTable",true,[],[],false,none,false⟩),#[some (r 28),none,some (s "NoTable" 207),some (s "NoTable" 215),some (b "ValueError.__new__"),some (.bool true)]⟩
def o38:Obj:=⟨(t "super"),none,(.fields #[(r 37),(r 37),(r 37)]),#[]⟩
def o39:Obj:=⟨(t "builtin_function_or_method"),none,(.fields #[(b "object.__init_subclass__"),(r 37)]),#[]⟩
def Tf(P:Params):Obj:=og 12 12 (s "minortables.errors" 187) P
def Ow:Obj:=⟨z,none,.fields (fv.take 9).toArray,#[]⟩
def M7:Obj:=⟨(t "type"),none,(.cls ⟨"MinorError",[(t "ValueError")],[(r 24),(t "ValueError"),(t "Exception"),(t "BaseException"),(t "object")],23,"MinorError",true,[],[(r 37),(r 49)],false,none,false⟩),#[some (r 15),none,some (s "MinorError" 189),some (s "MinorError" 197),some (b "ValueError.__new__"),some (.bool true)]⟩
def o40:Obj:=⟨(t "tuple"),none,(.seq #[(r 24)] 0),#[]⟩
def o41:Obj:=⟨(t "builtin_function_or_method"),none,(.fields #[(b "type.__prepare__"),(t "type")]),#[]⟩
def o42(P:Params):Obj:=⟨(t "dict"),none,(.dict #[e P "__module__" 230 (s "minortables.errors" 187),e P "__qualname__" 232 (s "NoFit" 231),e P "__firstlineno__" 234 (i 6 233),e P "__static_attributes__" 235 (r 47)] 4),#[]⟩
def o45:Obj:=c "NoFit" 225 6 0 0 43 false 181 44 z z z 228
def o46:Obj:=⟨(t "frame"),none,.plain,#[some (r 45),some (r 3),some (r 42),none,some (s "minortables.errors" 187),none,some (r 0)]⟩
def o48(P:Params):Obj:=⟨(t "dict"),none,(.dict #[e P "__module__" 230 (s "minortables.errors" 187),e P "__firstlineno__" 234 (i 6 233),e P "__static_attributes__" 235 (r 47),e P "__doc__" 236 z] 2),#[]⟩
def o49:Obj:=⟨(t "type"),none,(.cls ⟨"NoFit",[(r 24)],[(r 49),(r 24),(t "ValueError"),(t "Exception"),(t "BaseException"),(t "object")],48,"NoFit",true,[],[],false,none,false⟩),#[some (r 40),none,some (s "NoFit" 223),some (s "NoFit" 231),some (b "ValueError.__new__"),some (.bool true)]⟩
def o50:Obj:=⟨(t "super"),none,(.fields #[(r 49),(r 49),(r 49)]),#[]⟩
def o51:Obj:=⟨(t "builtin_function_or_method"),none,(.fields #[(b "object.__init_subclass__"),(r 49)]),#[]⟩
def Te(P:Params):Obj:=og 13 13 (s "minortables.errors" 187) P
def Ov:Obj:=⟨z,none,.fields (fv.take 12).toArray,#[]⟩
def M6:Obj:=⟨(t "type"),none,(.cls ⟨"MinorError",[(t "ValueError")],[(r 24),(t "ValueError"),(t "Exception"),(t "BaseException"),(t "object")],23,"MinorError",true,[],[(r 37),(r 49),(r 61)],false,none,false⟩),#[some (r 15),none,some (s "MinorError" 189),some (s "MinorError" 197),some (b "ValueError.__new__"),some (.bool true)]⟩
def o52:Obj:=⟨(t "tuple"),none,(.seq #[(r 24)] 0),#[]⟩
def o53:Obj:=⟨(t "builtin_function_or_method"),none,(.fields #[(b "type.__prepare__"),(t "type")]),#[]⟩
def o54(P:Params):Obj:=⟨(t "dict"),none,(.dict #[e P "__module__" 246 (s "minortables.errors" 187),e P "__qualname__" 248 (s "NoPlace" 247),e P "__firstlineno__" 250 (i 8 249),e P "__static_attributes__" 251 (r 59)] 4),#[]⟩
def o57:Obj:=c "NoPlace" 241 8 0 0 55 false 181 56 z z z 244
def o58:Obj:=⟨(t "frame"),none,.plain,#[some (r 57),some (r 3),some (r 54),none,some (s "minortables.errors" 187),none,some (r 0)]⟩
def o60(P:Params):Obj:=⟨(t "dict"),none,(.dict #[e P "__module__" 246 (s "minortables.errors" 187),e P "__firstlineno__" 250 (i 8 249),e P "__static_attributes__" 251 (r 59),e P "__doc__" 252 z] 2),#[]⟩
def o61:Obj:=⟨(t "type"),none,(.cls ⟨"NoPlace",[(r 24)],[(r 61),(r 24),(t "ValueError"),(t "Exception"),(t "BaseException"),(t "object")],60,"NoPlace",true,[],[],false,none,false⟩),#[some (r 52),none,some (s "NoPlace" 239),some (s "NoPlace" 247),some (b "ValueError.__new__"),some (.bool true)]⟩
def o62:Obj:=⟨(t "super"),none,(.fields #[(r 61),(r 61),(r 61)]),#[]⟩
def o63:Obj:=⟨(t "builtin_function_or_method"),none,(.fields #[(b "object.__init_subclass__"),(r 61)]),#[]⟩
def Td(P:Params):Obj:=og 14 14 (s "minortables.errors" 187) P
def Ou:Obj:=⟨z,none,.fields (fv.take 15).toArray,#[]⟩
def M5:Obj:=⟨(t "type"),none,(.cls ⟨"MinorError",[(t "ValueError")],[(r 24),(t "ValueError"),(t "Exception"),(t "BaseException"),(t "object")],23,"MinorError",true,[],[(r 37),(r 49),(r 61),(r 73)],false,none,false⟩),#[some (r 15),none,some (s "MinorError" 189),some (s "MinorError" 197),some (b "ValueError.__new__"),some (.bool true)]⟩
def o64:Obj:=⟨(t "tuple"),none,(.seq #[(r 24)] 0),#[]⟩
def o65:Obj:=⟨(t "builtin_function_or_method"),none,(.fields #[(b "type.__prepare__"),(t "type")]),#[]⟩
def o66(P:Params):Obj:=⟨(t "dict"),none,(.dict #[e P "__module__" 262 (s "minortables.errors" 187),e P "__qualname__" 264 (s "NoStep" 263),e P "__firstlineno__" 266 (i 10 265),e P "__static_attributes__" 267 (r 71)] 4),#[]⟩
def o69:Obj:=c "NoStep" 257 10 0 0 67 false 181 68 z z z 260
def o70:Obj:=⟨(t "frame"),none,.plain,#[some (r 69),some (r 3),some (r 66),none,some (s "minortables.errors" 187),none,some (r 0)]⟩
def o72(P:Params):Obj:=⟨(t "dict"),none,(.dict #[e P "__module__" 262 (s "minortables.errors" 187),e P "__firstlineno__" 266 (i 10 265),e P "__static_attributes__" 267 (r 71),e P "__doc__" 268 z] 2),#[]⟩
def o73:Obj:=⟨(t "type"),none,(.cls ⟨"NoStep",[(r 24)],[(r 73),(r 24),(t "ValueError"),(t "Exception"),(t "BaseException"),(t "object")],72,"NoStep",true,[],[],false,none,false⟩),#[some (r 64),none,some (s "NoStep" 255),some (s "NoStep" 263),some (b "ValueError.__new__"),some (.bool true)]⟩
def o74:Obj:=⟨(t "super"),none,(.fields #[(r 73),(r 73),(r 73)]),#[]⟩
def o75:Obj:=⟨(t "builtin_function_or_method"),none,(.fields #[(b "object.__init_subclass__"),(r 73)]),#[]⟩
def Tc(P:Params):Obj:=og 15 15 (s "minortables.errors" 187) P
def Ot:Obj:=⟨z,none,.fields (fv.take 18).toArray,#[]⟩
def M4:Obj:=⟨(t "type"),none,(.cls ⟨"MinorError",[(t "ValueError")],[(r 24),(t "ValueError"),(t "Exception"),(t "BaseException"),(t "object")],23,"MinorError",true,[],[(r 37),(r 49),(r 61),(r 73),(r 85)],false,none,false⟩),#[some (r 15),none,some (s "MinorError" 189),some (s "MinorError" 197),some (b "ValueError.__new__"),some (.bool true)]⟩
def o76:Obj:=⟨(t "tuple"),none,(.seq #[(r 24)] 0),#[]⟩
def o77:Obj:=⟨(t "builtin_function_or_method"),none,(.fields #[(b "type.__prepare__"),(t "type")]),#[]⟩
def o78(P:Params):Obj:=⟨(t "dict"),none,(.dict #[e P "__module__" 278 (s "minortables.errors" 187),e P "__qualname__" 280 (s "NoSteps" 279),e P "__firstlineno__" 282 (i 12 281),e P "__static_attributes__" 283 (r 83)] 4),#[]⟩
def o81:Obj:=c "NoSteps" 273 12 0 0 79 false 181 80 z z z 276
def o82:Obj:=⟨(t "frame"),none,.plain,#[some (r 81),some (r 3),some (r 78),none,some (s "minortables.errors" 187),none,some (r 0)]⟩
def o84(P:Params):Obj:=⟨(t "dict"),none,(.dict #[e P "__module__" 278 (s "minortables.errors" 187),e P "__firstlineno__" 282 (i 12 281),e P "__static_attributes__" 283 (r 83),e P "__doc__" 284 z] 2),#[]⟩
def o85:Obj:=⟨(t "type"),none,(.cls ⟨"NoSteps",[(r 24)],[(r 85),(r 24),(t "ValueError"),(t "Exception"),(t "BaseException"),(t "object")],84,"NoSteps",true,[],[],false,none,false⟩),#[some (r 76),none,some (s "NoSteps" 271),some (s "NoSteps" 279),some (b "ValueError.__new__"),some (.bool true)]⟩
def o86:Obj:=⟨(t "super"),none,(.fields #[(r 85),(r 85),(r 85)]),#[]⟩
def o87:Obj:=⟨(t "builtin_function_or_method"),none,(.fields #[(b "object.__init_subclass__"),(r 85)]),#[]⟩
def SX(P:Params):Obj:=og 22 22 (s "minortables.checks" 303) P
def Oq:Obj:=⟨z,none,.fields (fv.take 36).toArray,#[]⟩
def Ez:Obj:=⟨(t "type"),none,(.cls ⟨"MinorError",[(t "ValueError")],[(r 24),(t "ValueError"),(t "Exception"),(t "BaseException"),(t "object")],23,"MinorError",true,[],[(r 37),(r 49),(r 61),(r 73),(r 85),(r 97)],false,none,false⟩),#[some (r 15),none,some (s "MinorError" 189),some (s "MinorError" 197),some (b "ValueError.__new__"),some (.bool true)]⟩
def o88:Obj:=⟨(t "tuple"),none,(.seq #[(r 24)] 0),#[]⟩
def o89:Obj:=⟨(t "builtin_function_or_method"),none,(.fields #[(b "type.__prepare__"),(t "type")]),#[]⟩
def o90(P:Params):Obj:=⟨(t "dict"),none,(.dict #[e P "__module__" 294 (s "minortables.errors" 187),e P "__qualname__" 296 (s "NoText" 295),e P "__firstlineno__" 298 (i 14 297),e P "__static_attributes__" 299 (r 95)] 4),#[]⟩
def o93:Obj:=c "NoText" 289 14 0 0 91 false 181 92 z z z 292
def o94:Obj:=⟨(t "frame"),none,.plain,#[some (r 93),some (r 3),some (r 90),none,some (s "minortables.errors" 187),none,some (r 0)]⟩
def o96(P:Params):Obj:=⟨(t "dict"),none,(.dict #[e P "__module__" 294 (s "minortables.errors" 187),e P "__firstlineno__" 298 (i 14 297),e P "__static_attributes__" 299 (r 95),e P "__doc__" 300 z] 2),#[]⟩
def o97:Obj:=⟨(t "type"),none,(.cls ⟨"NoText",[(r 24)],[(r 97),(r 24),(t "ValueError"),(t "Exception"),(t "BaseException"),(t "object")],96,"NoText",true,[],[],false,none,false⟩),#[some (r 88),none,some (s "NoText" 287),some (s "NoText" 295),some (b "ValueError.__new__"),some (.bool true)]⟩
def o98:Obj:=⟨(t "super"),none,(.fields #[(r 97),(r 97),(r 97)]),#[]⟩
def o99:Obj:=⟨(t "builtin_function_or_method"),none,(.fields #[(b "object.__init_subclass__"),(r 97)]),#[]⟩
def Pb:Obj:=tn ["thing"] 310
def Rv:Obj:=g (d 10) "is_whole"
def Pa:Obj:=c "is_whole" 307 18 1 3 100 true 181 101 (r 102) (r 103) (r 104) 311
def O9:Obj:=u (d 10) "is_whole" (s "minortables.checks" 303) 105
def O8:Obj:=tn ["thing"] 317
def o111:Obj:=g (d 11) "is_short_tuple"
def O7:Obj:=c "is_short_tuple" 314 20 1 3 107 true 181 108 (r 109) (r 110) (r 111) 318
def O6:Obj:=u (d 11) "is_short_tuple" (s "minortables.checks" 303) 112
def Ru:Obj:=g (d 12) "has_lines"
def O5:Obj:=c "has_lines" 321 22 1 3 114 true 181 115 z z (r 116) 324
def O4:Obj:=u (d 12) "has_lines" (s "minortables.checks" 303) 117
def O2:Obj:=tn ["table","told","row"] 330
def Rt:Obj:=g (d 13) "numbers_of"
def O1:Obj:=c "numbers_of" 327 26 1 3 119 true 181 120 (r 121) (r 122) (r 123) 333
def OJ:Obj:=u (d 13) "numbers_of" (s "minortables.checks" 303) 124
def Rr:Obj:=g (d 14) "has_table_form"
def OD:Obj:=c "has_table_form" 336 31 1 3 126 true 181 127 z z (r 128) 339
def Om:Obj:=u (d 14) "has_table_form" (s "minortables.checks" 303) 129
def SQ(P:Params):Obj:=og 34 34 (s "law_minortables_k60_whole_signs" 401) P
def Oo:Obj:=⟨z,none,.fields (fv.take 72).toArray,#[]⟩
def Ol:Obj:=tn ["thing"] 345
def Rq:Obj:=g (d 15) "need_table"
def Oj:Obj:=c "need_table" 342 33 1 3 131 true 181 132 (r 133) (r 134) (r 135) 346
def Oi:Obj:=u (d 15) "need_table" (s "minortables.checks" 303) 136
def Rp:Obj:=g (d 17) "row_by_column"
def Oh:Obj:=c "row_by_column" 351 37 2 3 138 true 181 139 z z (r 140) 354
def Og:Obj:=u (d 17) "row_by_column" (s "minortables.tables" 349) 141
def Ro:Obj:=g (d 18) "rows_out_of"
def Oe:Obj:=c "rows_out_of" 357 39 2 3 143 true 181 144 z z (r 145) 360
def Od:Obj:=u (d 18) "rows_out_of" (s "minortables.tables" 349) 146
def Rn:Obj:=g (d 20) "least_changes"
def Oc:Obj:=c "least_changes" 365 48 1 3 148 true 181 149 z z (r 150) 368
def Ob:Obj:=u (d 20) "least_changes" (s "minortables.signs" 363) 151
def Oa:Obj:=tn ["sign","numbers","changes","number"] 374
def Rm:Obj:=g (d 21) "changes_behind"
def N8:Obj:=c "changes_behind" 371 51 2 3 153 true 181 154 (r 155) (r 156) (r 157) 378
def N7:Obj:=u (d 21) "changes_behind" (s "minortables.signs" 363) 158
def Rk:Obj:=g (d 22) "most_changes"
def N6:Obj:=c "most_changes" 381 58 1 3 160 true 181 161 z z (r 162) 384
def N5:Obj:=u (d 22) "most_changes" (s "minortables.signs" 363) 163
def Rj:Obj:=g (d 23) "led"
def NZ:Obj:=c "led" 387 63 2 3 165 true 181 166 z z (r 167) 390
def NT:Obj:=u (d 23) "led" (s "minortables.signs" 363) 168
def NQ:Obj:=tn ["many","most"] 396
def Ri:Obj:=g (d 24) "all_rows"
def NP:Obj:=c "all_rows" 393 68 2 3 170 true 181 171 (r 172) (r 173) (r 174) 398
def NK:Obj:=u (d 24) "all_rows" (s "minortables.signs" 363) 175
def Nz:Obj:=tn ["_law_script","_law_k"] 406
def Rh:Obj:=g (d 26) "_law_cell"
def Ny:Obj:=c "_law_cell" 403 71 2 3 177 true 181 178 (r 179) (r 180) (r 181) 408
def Nx:Obj:=u (d 26) "_law_cell" (s "law_minortables_k60_whole_signs" 401) 182
def Nv:Obj:=tn ["_law_script","_law_k","_law_many","_law_drawn"] 414
def Rg:Obj:=g (d 27) "_law_pick"
def Nu:Obj:=c "_law_pick" 411 77 3 3 184 true 181 185 (r 186) (r 187) (r 188) 418
def Nt:Obj:=u (d 27) "_law_pick" (s "law_minortables_k60_whole_signs" 401) 189
def Rf:Obj:=g (d 28) "_law_table"
def Nr:Obj:=c "_law_table" 421 80 4 3 191 true 181 192 z z (r 193) 424
def Nq:Obj:=u (d 28) "_law_table" (s "law_minortables_k60_whole_signs" 401) 194
def Rc:Obj:=tn ["_law_script","_law_at"] 430
def o200:Obj:=g (d 29) "_law_size"
def Rb:Obj:=c "_law_size" 427 86 2 3 196 true 181 197 (r 198) (r 199) (r 200) 432
def Ra:Obj:=u (d 29) "_law_size" (s "law_minortables_k60_whole_signs" 401) 201
def Mq(P:Params):Obj:=og 47 47 (s "law_minortables_k60_whole_signs" 401) P
def Jt:Obj:=⟨z,none,.fields (fv.take 111).toArray,#[]⟩
def Np:Obj:=tn ["_law_one","_law_other","_law_made","_law_row","_law_line","_law_column","_law_total","_law_k"] 438
def Q9:Obj:=g (d 30) "_law_times"
def Nm:Obj:=c "_law_times" 435 88 2 3 203 true 181 204 (r 205) (r 206) (r 207) 446
def Nk:Obj:=u (d 30) "_law_times" (s "law_minortables_k60_whole_signs" 401) 208
def Q8:Obj:=g (d 31) "_law_worth"
def Q7:Obj:=c "_law_worth" 449 99 1 3 210 true 181 211 z z (r 212) 452
def Q6:Obj:=u (d 31) "_law_worth" (s "law_minortables_k60_whole_signs" 401) 213
def Q5:Obj:=g (d 32) "_law_some"
def Q0:Obj:=c "_law_some" 455 109 2 3 215 true 181 216 z z (r 217) 458
def QZ:Obj:=u (d 32) "_law_some" (s "law_minortables_k60_whole_signs" 401) 218
def QX:Obj:=g (d 33) "_law_part"
def QW:Obj:=c "_law_part" 461 117 3 3 220 true 181 221 z z (r 222) 464
def QV:Obj:=u (d 33) "_law_part" (s "law_minortables_k60_whole_signs" 401) 223
def QT:Obj:=tn ["_law_table_here","_law_made","_law_size_here","_law_some_here","_law_others"] 470
def QS:Obj:=g (d 34) "_law_minors"
def QM:Obj:=c "_law_minors" 467 119 1 3 225 true 181 226 (r 227) (r 228) (r 229) 475
def QL:Obj:=u (d 34) "_law_minors" (s "law_minortables_k60_whole_signs" 401) 230
def QK:Obj:=g (d 35) "_law_places"
def Nj:Obj:=c "_law_places" 478 126 1 3 232 true 181 233 z z (r 234) 481
def Ni:Obj:=u (d 35) "_law_places" (s "law_minortables_k60_whole_signs" 401) 235
def Nh:Obj:=tn ["_law_thing","_law_place","_law_new","_law_k"] 487
def QJ:Obj:=g (d 36) "_law_put"
def Ng:Obj:=c "_law_put" 484 132 3 3 237 true 181 238 (r 239) (r 240) (r 241) 491
def Nf:Obj:=u (d 36) "_law_put" (s "law_minortables_k60_whole_signs" 401) 242
def Nb:Obj:=tn ["_law_script","_law_at","_law_thing","_law_places_here","_law_place","_law_here","_law_k","_law_some_here"] 497
def QH:Obj:=g (d 37) "_law_spoilt_thing"
def M9:Obj:=c "_law_spoilt_thing" 494 137 3 3 244 true 181 245 (r 246) (r 247) (r 248) 505
def MP:Obj:=u (d 37) "_law_spoilt_thing" (s "law_minortables_k60_whole_signs" 401) 249
def QG:Obj:=g (d 38) "_law_is_table"
def MN:Obj:=c "_law_is_table" 508 145 2 3 251 true 181 252 z z (r 253) 511
def MK:Obj:=u (d 38) "_law_is_table" (s "law_minortables_k60_whole_signs" 401) 254
def MJ:Obj:=tn ["_law_kept","_law_kinds"] 517
def QF:Obj:=g (d 39) "_law_word"
def MF:Obj:=c "_law_word" 514 157 1 3 256 true 181 257 (r 258) (r 259) (r 260) 519
def Mz:Obj:=u (d 39) "_law_word" (s "law_minortables_k60_whole_signs" 401) 261
def Mx:Obj:=tn ["_law_table_here","_law_numbers","_law_kept","_law_answer","e"] 525
def QD:Obj:=g (d 40) "_law_led"
def Mw:Obj:=c "_law_led" 522 163 2 3 263 true 181 264 (r 265) (r 266) (r 267) 530
def Mv:Obj:=u (d 40) "_law_led" (s "law_minortables_k60_whole_signs" 401) 268
def QC:Obj:=g (d 41) "_law_signed"
def Mu:Obj:=c "_law_signed" 533 173 1 3 270 true 181 271 z z (r 272) 536
def Mt:Obj:=u (d 41) "_law_signed" (s "law_minortables_k60_whole_signs" 401) 273
def QB:Obj:=g (d 42) "law"
def Ms:Obj:=c "law" 539 181 1 3 275 true 181 276 z z (r 277) 542
def Mr:Obj:=u (d 42) "law" (s "law_minortables_k60_whole_signs" 401) 278
def Ha(P:Params):Heap:=⟨⟨[boot_o_0 P,boot_o_1 P,boot_o_2 P,boot_o_3 P,boot_o_4 P,boot_o_5 P,boot_o_6 P,boot_o_7 P,boot_o_8 P,boot_o_9 P,boot_o_10 P,y,o12,o13,o14]⟩,{}⟩
def T0(P:Params):BT:=I .nil 0 [boot_o_0 P,boot_o_1 P,boot_o_2 P,boot_o_3 P,boot_o_4 P,boot_o_5 P,boot_o_6 P,boot_o_7 P,boot_o_8 P,boot_o_9 P,boot_o_10 P,y,o12,o13,o14]
def T1(P:Params):BT:=I (T0 P) 15 [o15,o16,o17 P,y,x,o20,o21,y,o23 P,o24,o25,o26,o27] |>.set 3 (fun _=>Ti P) |>.set 12 (fun _=>Oz)
def T2(P:Params):BT:=I (T1 P) 28 [o28,o29,o30 P,y,x,o33,o34,y,o36 P,o37,o38,o39] |>.set 3 (fun _=>Tg P) |>.set 12 (fun _=>Ox) |>.set 24 (fun _=>M8)
def T3(P:Params):BT:=I (T2 P) 40 [o40,o41,o42 P,y,x,o45,o46,y,o48 P,o49,o50,o51] |>.set 3 (fun _=>Tf P) |>.set 12 (fun _=>Ow) |>.set 24 (fun _=>M7)
def T4(P:Params):BT:=I (T3 P) 52 [o52,o53,o54 P,y,x,o57,o58,y,o60 P,o61,o62,o63] |>.set 3 (fun _=>Te P) |>.set 12 (fun _=>Ov) |>.set 24 (fun _=>M6)
def T5(P:Params):BT:=I (T4 P) 64 [o64,o65,o66 P,y,x,o69,o70,y,o72 P,o73,o74,o75] |>.set 3 (fun _=>Td P) |>.set 12 (fun _=>Ou) |>.set 24 (fun _=>M5)
def T6(P:Params):BT:=I (T5 P) 76 [o76,o77,o78 P,y,x,o81,o82,y,o84 P,o85,o86,o87] |>.set 3 (fun _=>Tc P) |>.set 12 (fun _=>Ot) |>.set 24 (fun _=>M4)
def T7(P:Params):BT:=I (T6 P) 88 [o88,o89,o90 P,y,x,o93,o94,y,o96 P,o97,o98,o99,y,x,Pb,y,Rv,Pa,O9,y,x,O8,y,o111,O7,O6,y,x,Ru,O5,O4,y,x,O2,y,Rt,O1,OJ,y,x,Rr,OD,Om] |>.set 3 (fun _=>SX P) |>.set 12 (fun _=>Oq) |>.set 24 (fun _=>Ez)
def T8(P:Params):BT:=I (T7 P) 131 [y,x,Ol,y,Rq,Oj,Oi,y,x,Rp,Oh,Og,y,x,Ro,Oe,Od,y,x,Rn,Oc,Ob,y,x,Oa,y,Rm,N8,N7,y,x,Rk,N6,N5,y,x,Rj,NZ,NT,y,x,NQ,y,Ri,NP,NK,y,x,Nz,y,Rh,Ny,Nx,y,x,Nv,y,Rg,Nu,Nt,y,x,Rf,Nr,Nq,y,x,Rc,y,o200,Rb,Ra] |>.set 3 (fun _=>SQ P) |>.set 12 (fun _=>Oo)
def T9(P:Params):BT:=I (T8 P) 203 [y,x,Np,y,Q9,Nm,Nk,y,x,Q8,Q7,Q6,y,x,Q5,Q0,QZ,y,x,QX,QW,QV,y,x,QT,y,QS,QM,QL,y,x,QK,Nj,Ni,y,x,Nh,y,QJ,Ng,Nf,y,x,Nb,y,QH,M9,MP,y,x,QG,MN,MK,y,x,MJ,y,QF,MF,Mz,y,x,Mx,y,QD,Mw,Mv,y,x,QC,Mu,Mt,y,x,QB,Ms,Mr] |>.set 3 (fun _=>Mq P) |>.set 12 (fun _=>Jt)
def H1(P:Params):Heap:=⟨⟨[boot_o_0 P,boot_o_1 P,boot_o_2 P,Mq P,boot_o_4 P,boot_o_5 P,boot_o_6 P,boot_o_7 P,boot_o_8 P,boot_o_9 P,boot_o_10 P,y,Jt,o13,o14,o15,o16,o17 P,y,x,o20,o21,y,o23 P,Ez,o25,o26,o27,o28,o29,o30 P,y,x,o33,o34,y,o36 P,o37,o38,o39,o40,o41,o42 P,y,x,o45,o46,y,o48 P,o49,o50,o51,o52,o53,o54 P,y,x,o57,o58,y,o60 P,o61,o62,o63,o64,o65,o66 P,y,x,o69,o70,y,o72 P,o73,o74,o75,o76,o77,o78 P,y,x,o81,o82,y,o84 P,o85,o86,o87,o88,o89,o90 P,y,x,o93,o94,y,o96 P,o97,o98,o99,y,x,Pb,y,Rv,Pa,O9,y,x,O8,y,o111,O7,O6,y,x,Ru,O5,O4,y,x,O2,y,Rt,O1,OJ,y,x,Rr,OD,Om,y,x,Ol,y,Rq,Oj,Oi,y,x,Rp,Oh,Og,y,x,Ro,Oe,Od,y,x,Rn,Oc,Ob,y,x,Oa,y,Rm,N8,N7,y,x,Rk,N6,N5,y,x,Rj,NZ,NT,y,x,NQ,y,Ri,NP,NK,y,x,Nz,y,Rh,Ny,Nx,y,x,Nv,y,Rg,Nu,Nt,y,x,Rf,Nr,Nq,y,x,Rc,y,o200,Rb,Ra,y,x,Np,y,Q9,Nm,Nk,y,x,Q8,Q7,Q6,y,x,Q5,Q0,QZ,y,x,QX,QW,QV,y,x,QT,y,QS,QM,QL,y,x,QK,Nj,Ni,y,x,Nh,y,QJ,Ng,Nf,y,x,Nb,y,QH,M9,MP,y,x,QG,MN,MK,y,x,MJ,y,QF,MF,Mz,y,x,Mx,y,QD,Mw,Mv,y,x,QC,Mu,Mt,y,x,QB,Ms,Mr]⟩,{}⟩
def S0(w:World)(os:OsState):SharedT:=⟨T0 w.params,15,{},⟨[]⟩,{},187,os⟩
def S1(w:World)(os:OsState):SharedT:=⟨T1 w.params,28,{},⟨[]⟩,{},207,os⟩
def S2(w:World)(os:OsState):SharedT:=⟨T2 w.params,40,{},⟨[]⟩,{},223,os⟩
def S3(w:World)(os:OsState):SharedT:=⟨T3 w.params,52,{},⟨[]⟩,{},239,os⟩
def S4(w:World)(os:OsState):SharedT:=⟨T4 w.params,64,{},⟨[]⟩,{},255,os⟩
def S5(w:World)(os:OsState):SharedT:=⟨T5 w.params,76,{},⟨[]⟩,{},271,os⟩
def S6(w:World)(os:OsState):SharedT:=⟨T6 w.params,88,{},⟨[]⟩,{},287,os⟩
def S7(w:World)(os:OsState):SharedT:=⟨T7 w.params,131,{},⟨[]⟩,{},342,os⟩
def S8(w:World)(os:OsState):SharedT:=⟨T8 w.params,203,{},⟨[]⟩,{},435,os⟩
def S9(w:World)(os:OsState):SharedT:=⟨T9 w.params,280,{},⟨[]⟩,{},545,os⟩
def S(w:World)(os:OsState):Shared:=⟨H1 w.params,⟨[]⟩,{},545,os⟩
def E:Env:={ scope:=p.main.scope,locals:=mainNs,globals:=mainNs,cells:=[],code:=(r 13),frame:=some 14 }
abbrev C:Code:=.body (behindTheImports p) E
abbrev B:List Frame:=[topFrame ⟨0,0,0,0⟩]
def l1:List Stmt:=((behindTheImports p).drop 0).take 2
def l2:List Stmt:=((behindTheImports p).drop 2).take 1
def l3:List Stmt:=((behindTheImports p).drop 3).take 1
def l4:List Stmt:=((behindTheImports p).drop 4).take 1
def l5:List Stmt:=((behindTheImports p).drop 5).take 1
def l6:List Stmt:=((behindTheImports p).drop 6).take 1
def l7:List Stmt:=((behindTheImports p).drop 7).take 8
def l8:List Stmt:=((behindTheImports p).drop 15).take 15
def l9:List Stmt:=((behindTheImports p).drop 30).take 13
theorem pre(w:World)(os:OsState):topGo treeTable p w 11 (some (r 6)) 12 ⟨boot_heap w.params,Array.mk [],boot_drawn,boot_toks,os⟩ (topStub p)=some (⟨Ha w.params,⟨[]⟩,{},187,os⟩,⟨denote treeTable C,C,⟨0,0,0,0⟩,B⟩):=goT (by kernel_rfl)
theorem blk(w:World)(os:OsState):segRun treeTable p w 11 (some (r 6)) 1 1 ⟨Ha w.params,⟨[]⟩,{},187,os⟩ (blockOf (behindTheImports p) E C ⟨0,0,0,0⟩ B)=some (.next,(S0 w os).abs,C,⟨0,0,0,0⟩):=Sd (by kernel_rfl)
theorem p1(w:World)(os:OsState):segRun treeTable p w 11 (some (r 6)) 1 196 (S0 w os).abs (piecesOf l1 E C ⟨0,0,0,0⟩ B)=some (.next,(S1 w os).abs,C,⟨2,0,3,8⟩):=segRun_of (yJ (by kernel_rfl))
theorem p2(w:World)(os:OsState):segRun treeTable p w 11 (some (r 6)) 1 214 (S1 w os).abs (piecesOf l2 E C ⟨2,0,3,8⟩ B)=some (.next,(S2 w os).abs,C,⟨4,0,5,8⟩):=segRun_of (yJ (by kernel_rfl))
theorem p3(w:World)(os:OsState):segRun treeTable p w 11 (some (r 6)) 1 214 (S2 w os).abs (piecesOf l3 E C ⟨4,0,5,8⟩ B)=some (.next,(S3 w os).abs,C,⟨6,0,7,8⟩):=segRun_of (yJ (by kernel_rfl))
theorem p4(w:World)(os:OsState):segRun treeTable p w 11 (some (r 6)) 1 214 (S3 w os).abs (piecesOf l4 E C ⟨6,0,7,8⟩ B)=some (.next,(S4 w os).abs,C,⟨8,0,9,8⟩):=segRun_of (yJ (by kernel_rfl))
theorem p5(w:World)(os:OsState):segRun treeTable p w 11 (some (r 6)) 1 214 (S4 w os).abs (piecesOf l5 E C ⟨8,0,9,8⟩ B)=some (.next,(S5 w os).abs,C,⟨10,0,11,8⟩):=segRun_of (yJ (by kernel_rfl))
theorem p6(w:World)(os:OsState):segRun treeTable p w 11 (some (r 6)) 1 214 (S5 w os).abs (piecesOf l6 E C ⟨10,0,11,8⟩ B)=some (.next,(S6 w os).abs,C,⟨12,0,13,8⟩):=segRun_of (yJ (by kernel_rfl))
theorem p7(w:World)(os:OsState):segRun treeTable p w 11 (some (r 6)) 1 373 (S6 w os).abs (piecesOf l7 E C ⟨12,0,13,8⟩ B)=some (.next,(S7 w os).abs,C,⟨31,0,32,87⟩):=segRun_of (yJ (by kernel_rfl))
theorem p8(w:World)(os:OsState):segRun treeTable p w 11 (some (r 6)) 1 367 (S7 w os).abs (piecesOf l8 E C ⟨31,0,32,87⟩ B)=some (.next,(S8 w os).abs,C,⟨86,0,87,62⟩):=segRun_of (yJ (by kernel_rfl))
theorem p9(w:World)(os:OsState):segRun treeTable p w 11 (some (r 6)) 1 383 (S8 w os).abs (piecesOf l9 E C ⟨86,0,87,62⟩ B)=some (.next,(S9 w os).abs,C,⟨181,0,207,92⟩):=segRun_of (yJ (by kernel_rfl))
theorem fin(w:World)(os:OsState):topRun treeTable p w 11 (some (r 6)) 2 (S9 w os).abs ⟨doneF .next,C,⟨181,0,207,92⟩,B⟩=some (S w os):=RX (by kernel_rfl)
abbrev M:Nat:=(12+(1+(196+(214+(214+(214+(214+(214+(373+(367+(383+2)))))))))))
theorem lst:behindTheImports p=(l1++(l2++(l3++(l4++(l5++(l6++(l7++(l8++(l9++[]))))))))):=by kernel_rfl
theorem r9(w:World)(os:OsState):topRun treeTable p w 11 (some (r 6)) 2 (S9 w os).abs (restOf [] E C ⟨181,0,207,92⟩ B)=some (S w os):=fin w os
theorem r8(w:World)(os:OsState):topRun treeTable p w 11 (some (r 6)) (383+2) (S8 w os).abs (restOf (l9++[]) E C ⟨86,0,87,62⟩ B)=some (S w os):=piece_app (p9 w os) (r9 w os)
theorem r7(w:World)(os:OsState):topRun treeTable p w 11 (some (r 6)) (367+(383+2)) (S7 w os).abs (restOf (l8++(l9++[])) E C ⟨31,0,32,87⟩ B)=some (S w os):=piece_app (p8 w os) (r8 w os)
theorem r6(w:World)(os:OsState):topRun treeTable p w 11 (some (r 6)) (373+(367+(383+2))) (S6 w os).abs (restOf (l7++(l8++(l9++[]))) E C ⟨12,0,13,8⟩ B)=some (S w os):=piece_app (p7 w os) (r7 w os)
theorem r5(w:World)(os:OsState):topRun treeTable p w 11 (some (r 6)) (214+(373+(367+(383+2)))) (S5 w os).abs (restOf (l6++(l7++(l8++(l9++[])))) E C ⟨10,0,11,8⟩ B)=some (S w os):=piece_app (p6 w os) (r6 w os)
theorem r4(w:World)(os:OsState):topRun treeTable p w 11 (some (r 6)) (214+(214+(373+(367+(383+2))))) (S4 w os).abs (restOf (l5++(l6++(l7++(l8++(l9++[]))))) E C ⟨8,0,9,8⟩ B)=some (S w os):=piece_app (p5 w os) (r5 w os)
theorem r3(w:World)(os:OsState):topRun treeTable p w 11 (some (r 6)) (214+(214+(214+(373+(367+(383+2)))))) (S3 w os).abs (restOf (l4++(l5++(l6++(l7++(l8++(l9++[])))))) E C ⟨6,0,7,8⟩ B)=some (S w os):=piece_app (p4 w os) (r4 w os)
theorem r2(w:World)(os:OsState):topRun treeTable p w 11 (some (r 6)) (214+(214+(214+(214+(373+(367+(383+2))))))) (S2 w os).abs (restOf (l3++(l4++(l5++(l6++(l7++(l8++(l9++[]))))))) E C ⟨4,0,5,8⟩ B)=some (S w os):=piece_app (p3 w os) (r3 w os)
theorem r1(w:World)(os:OsState):topRun treeTable p w 11 (some (r 6)) (214+(214+(214+(214+(214+(373+(367+(383+2)))))))) (S1 w os).abs (restOf (l2++(l3++(l4++(l5++(l6++(l7++(l8++(l9++[])))))))) E C ⟨2,0,3,8⟩ B)=some (S w os):=piece_app (p2 w os) (r2 w os)
theorem r0(w:World)(os:OsState):topRun treeTable p w 11 (some (r 6)) (196+(214+(214+(214+(214+(214+(373+(367+(383+2))))))))) (S0 w os).abs (restOf (l1++(l2++(l3++(l4++(l5++(l6++(l7++(l8++(l9++[]))))))))) E C ⟨0,0,0,0⟩ B)=some (S w os):=piece_app (p1 w os) (r1 w os)
theorem run(w:World)(os:OsState):topRun treeTable p w 11 (some (r 6)) M ⟨boot_heap w.params,Array.mk [],boot_drawn,boot_toks,os⟩ (topStub p)=some (S w os):=go_top (pre w os) (piece_block (blk w os) (Lq lst (r0 w os)))
def K(P:Params):Frag:=[(2,boot_o_2 P),(3,Mq P),(15,o15),(22,y),(23,o23 P),(24,Ez),(25,o25),(28,o28),(35,y),(36,o36 P),(37,o37),(40,o40),(47,y),(48,o48 P),(49,o49),(52,o52),(59,y),(60,o60 P),(61,o61),(64,o64),(71,y),(72,o72 P),(73,o73),(76,o76),(83,y),(84,o84 P),(85,o85),(88,o88),(95,y),(96,o96 P),(97,o97),(100,y),(102,Pb),(103,y),(105,Pa),(106,O9),(107,y),(109,O8),(110,y),(112,O7),(113,O6),(114,y),(117,O5),(118,O4),(119,y),(121,O2),(122,y),(124,O1),(125,OJ),(126,y),(129,OD),(130,Om),(131,y),(133,Ol),(134,y),(136,Oj),(137,Oi),(138,y),(141,Oh),(142,Og),(143,y),(146,Oe),(147,Od),(148,y),(151,Oc),(152,Ob),(153,y),(155,Oa),(156,y),(158,N8),(159,N7),(160,y),(163,N6),(164,N5),(165,y),(168,NZ),(169,NT),(170,y),(172,NQ),(173,y),(175,NP),(176,NK),(177,y),(179,Nz),(180,y),(182,Ny),(183,Nx),(184,y),(186,Nv),(187,y),(189,Nu),(190,Nt),(191,y),(194,Nr),(195,Nq),(203,y),(205,Np),(206,y),(208,Nm),(209,Nk),(232,y),(235,Nj),(236,Ni),(237,y),(239,Nh),(240,y),(242,Ng),(243,Nf),(244,y),(246,Nb),(247,y),(249,M9),(250,MP),(251,y),(254,MN),(255,MK),(256,y),(258,MJ),(259,y),(261,MF),(262,Mz),(263,y),(265,Mx),(266,y),(268,Mw),(269,Mv),(270,y),(273,Mu),(274,Mt),(275,y),(278,Ms),(279,Mr)]
noncomputable abbrev as:List Addr:=[2,3,15,22,23,24,25,28,35,36,37,40,47,48,49,52,59,60,61,64,71,72,73,76,83,84,85,88,95,96,97,100,102,103,105,106,107,109,110,112,113,114,117,118,119,121,122,124,125,126,129,130,131,133,134,136,137,138,141,142,143,146,147,148,151,152,153,155,156,158,159,160,163,164,165,168,169,170,172,173,175,176,177,179,180,182,183,184,186,187,189,190,191,194,195,203,205,206,208,209,232,235,236,237,239,240,242,243,244,246,247,249,250,251,254,255,256,258,259,261,262,263,265,266,268,269,270,273,274,275,278,279]
abbrev m0:Nat:=11
abbrev tk:Nat:=545
abbrev ann:Option Value:=(some (r 6))
def Xt(s:Shared):Bool:=xlAt q [] s&&recOk PySem.Challenge.rw_minortables_k60_whole_signs.row.toRowW.records s
theorem lk0(w:World)(os:OsState):(staticsOk (importedModules p.main.body) (boot_heap w.params) (H1 w.params)&&namesBound p (H1 w.params)&&gensDone (S w os)&&laidKept (boot_heap w.params) (H1 w.params))=true:=by
 rw[Fast.te5923862056798008813];kernel_rfl
theorem lk1(w:World)(os:OsState):PyProof.Rows.seen ((PyProof.Rows.recsOf q).map (·.name)) (PyProof.Rows.ownsOf q) [] { S w os with gens := #[] }=PyProof.Rows.expectedOf q:=by
 rw[Fast.te5160383126252970620,Fast.te3399658132070893891,Fast.te5991557255702980513];kernel_rfl
theorem lk2(w:World)(os:OsState):(S w os).heap.bltView=bltViewBooted:=by kernel_rfl
theorem lk3(w:World)(os:OsState):((S w os).heap.keysOk (looseW q lo) ((PyProof.Rows.recsOf q).map (·.name)) ((PyProof.Rows.litsOf q).map (·.1)) ((PyProof.Rows.clssOf q (looseW q lo)).map (·.name))&&(S w os).heap.accountedOkI (importedModules p.main.body)&&(S w os).heap.isNs mainGlobals&&(S w os).heap.isNs builtinsNs&&PyProof.Rows.tablesOk q (S w os).heap&&Xt (S w os)&&(if true then(S w os).gens.size==0 else !leftWithCleanup (S w os).gens))=true:=by
 rw[Fast.te10880121769531294198,Fast.te821141287760084731,Fast.te3399658132070893891,Fast.te7409074990110511671,Fast.te13664370479719496447,Fast.te14722251495701143533,Fast.te5923862056798008813];kernel_rfl
theorem lk4(w:World)(os:OsState):PyProof.Rows.tabsOk q (S w os)=true:=by rw[Fast.te479339242167458305];kernel_rfl
theorem lk5(w:World)(os:OsState):pinSeenD q (PyProof.Rows.drecsOf q) (S w os)=pinGoodD (PyProof.Rows.drecsOf q):=by rw[Fast.te16090120013241838585,Fast.te3247288618530077131];kernel_rfl
theorem lk6(w:World)(os:OsState):PyProof.Rows.plainSeenE q (looseW q lo) (S w os)=PyProof.Rows.plainGoodE q (looseW q lo):=by rw[Fast.te2386780881361962483,Fast.te821141287760084731];kernel_rfl
theorem lk7(w:World)(os:OsState):PyProof.Rows.plainSeenD q lo (S w os)=PyProof.Rows.plainGoodD q lo:=by rw[Fast.te11698064438423848299];kernel_rfl
theorem lk8(w:World)(os:OsState):wideSeen q (S w os)=wideGood q:=by rw[Fast.te7317090234206586261];kernel_rfl
theorem lk9(w:World)(os:OsState):clsSeenW q lo (S w os)=clsGoodW q lo:=by rw[Fast.te7369524293546568484];kernel_rfl
theorem asK(P:Params):as=(K P).map (·.1):=by kernel_rfl
abbrev H:Hook:=kHook K as asK
theorem lkY(w:World)(os:OsState):H.obs (S w os)=H.val w:=by kernel_rfl
theorem looks(w:World):(fun os=>((staticsOk (importedModules p.main.body) (boot_heap w.params) (H1 w.params)&&namesBound p (H1 w.params)&&gensDone (S w os)&&laidKept (boot_heap w.params) (H1 w.params)),openSeen q lo (importedModules p.main.body) Xt true (S w os),H.obs (S w os)))=fun _=>(true,openGood q lo,H.val w) :=
 funext fun os=>looks_pair (lk0 w os) (looks_pair (looks_pair (lk1 w os) (looks_pair (lk2 w os) (looks_pair (lk3 w os) (looks_pair (lk4 w os) (looks_pair (lk5 w os) (looks_pair (lk6 w os) (looks_pair (lk7 w os) (looks_pair (lk8 w os) (lk9 w os))))))))) (lkY w os))
theorem size(w:World):((boot_heap w.params).isNs mainGlobals&&(Array.mk ([]:List GenState)).size==0,(boot_heap w.params).objs.size,(boot_heap w.params).nsMap mainGlobals "__annotations__")=(true,m0,ann):=by
 rw[Fast.te8920871248978507458];kernel_rfl
theorem bt(w:World):(fencedOpening treeTable p w N).map (fun s=>(s.heap,s.gens,s.drawn,s.toks))=some (boot_heap w.params,Array.mk [],boot_drawn,boot_toks) :=
 boot_open (p:=p) (N:=N) (by kernel_rfl) (by kernel_rfl) (fun _=>rfl) w
theorem left:LeftO p q lo Xt H.obs H.val N :=
 LeftO.of_pieces (H₀:=boot_heap) (H₁:=H1) (m₀:=m0) (ann:=ann) (M:=M) (gs₀:=Array.mk []) (gs₁:=⟨[]⟩) (d₀:=boot_drawn) (d₁:={}) (k₀:=boot_toks) (k₁:=tk) bt size run (by kernel_rfl) looks
abbrev R:OpenLaw:=PySem.Challenge.rw_minortables_k60_whole_signs
theorem said:R.wellSaid=true:=by rw[Fast.te9446332074065402090];kernel_rfl
def dr:DefRec:=match d 42 with | .FunctionDef n a l _ _ _ sc _ _ o=>⟨n,a,l,sc,o⟩ | _=>⟨"",default,[],default,⟨0,0,0,0⟩⟩
theorem hdef:defOf q R.row.name=some (dr,[]):=by kernel_rfl
theorem hthe:R.row.prog.theDef R.row.name=some (dr.params,dr.body,dr.scope):=by kernel_rfl
theorem hkw:kwWritten? dr.params.kwonlyargs dr.params.kw_defaults=some []:=by kernel_rfl
theorem hok:(chainsOk q&&opensWell R.row.prog&&(frees R.row.toRowW&&R.row.within.isEmpty))=true:=by kernel_rfl
theorem hbare:R.row.prog.bare:=⟨rfl,rfl,rfl,rfl,rfl,by kernel_rfl⟩
theorem Tz:R.row.toRowW.promised:=⟨[.list []],by kernel_rfl,by kernel_rfl⟩
theorem holds(call:WalkO q lo (XL q []) H.says R.row.toRowW dr [] fun f vs=>PySem.call f vs):R.Holds :=
 holds_law said fun k1=>holds_open (r:=R.row) (q:=q) (loose:=lo) (Xt:=Xt) (XP:=XL q []) (Yf:=H.obs) (Ya:=H.val) (YP:=H.says) (N:=N) left H.of H.keeps (fun s e=>xl_of s (Bool.and_eq_true_iff.mp e).1) XL.keeps hdef hthe hkw (fun s e=>recFacts_of (Bool.and_eq_true_iff.mp e).2) rfl k1 hok hbare Tz call
end H60
end
namespace M60
open PySem PySem.W L2 DE
set_option maxHeartbeats 0 in
theorem txt(w:World){mg:Str->Option Value}{h:Heap}(X:(H60.K w.params).In h)(G:h.Ns mainGlobals mg):Text w (H60.K w.params) mg T :=
  ⟨in_of (l:=cs) (Q:=fun(x:Str) (d:D)=>∃ v u,(∀ H',Rep (H60.K w.params) H' d v)/\mg x=some u/\RelV v u) (aC (cA X G 305 (by kernel_rfl)) (aN)),
    in_of (l:=bl) (Q:=fun x b=>mg x=none/\x=Str.ofString b) (aC (bA X G (by kernel_rfl) rfl) (aC (bA X G (by kernel_rfl) rfl) (aC (bA X G (by kernel_rfl) rfl) (aC (bA X G (by kernel_rfl) rfl) (aC (bA X G (by kernel_rfl) rfl) (aC (bA X G (by kernel_rfl) rfl) (aC (bA X G (by kernel_rfl) rfl) (aC (bA X G (by kernel_rfl) rfl) (aC (bA X G (by kernel_rfl) rfl) (aC (bA X G (by kernel_rfl) rfl) (aC (bA X G (by kernel_rfl) rfl) (aC (bA X G (by kernel_rfl) rfl) (aC (bA X G (by kernel_rfl) rfl) (aC (bA X G (by kernel_rfl) rfl) (aC (bA X G (by kernel_rfl) rfl) (aC (bA X G (by kernel_rfl) rfl) (aC (bA X G (by kernel_rfl) rfl) (aN)))))))))))))))))),
    in_of (l:=df) (Q:=fun x fd=>FunAt (H60.K w.params) mg x fd) (
     aC (bL X G 106 .none (.str "minortables.checks" 303) (.ref 105) b10 (by kernel_rfl) (by kernel_rfl) (by kernel_rfl)) (
     aC (bL X G 113 .none (.str "minortables.checks" 303) (.ref 112) b11 (by kernel_rfl) (by kernel_rfl) (by kernel_rfl)) (
     aC (bL X G 118 .none (.str "minortables.checks" 303) (.ref 117) b12 (by kernel_rfl) (by kernel_rfl) (by kernel_rfl)) (
     aC (bL X G 125 .none (.str "minortables.checks" 303) (.ref 124) b13 (by kernel_rfl) (by kernel_rfl) (by kernel_rfl)) (
     aC (bL X G 130 .none (.str "minortables.checks" 303) (.ref 129) b14 (by kernel_rfl) (by kernel_rfl) (by kernel_rfl)) (
     aC (bL X G 137 .none (.str "minortables.checks" 303) (.ref 136) b15 (by kernel_rfl) (by kernel_rfl) (by kernel_rfl)) (
     aC (bL X G 142 .none (.str "minortables.tables" 349) (.ref 141) b17 (by kernel_rfl) (by kernel_rfl) (by kernel_rfl)) (
     aC (bL X G 147 .none (.str "minortables.tables" 349) (.ref 146) b18 (by kernel_rfl) (by kernel_rfl) (by kernel_rfl)) (
     aC (bL X G 152 .none (.str "minortables.signs" 363) (.ref 151) b20 (by kernel_rfl) (by kernel_rfl) (by kernel_rfl)) (
     aC (bL X G 159 .none (.str "minortables.signs" 363) (.ref 158) b21 (by kernel_rfl) (by kernel_rfl) (by kernel_rfl)) (
     aC (bL X G 164 .none (.str "minortables.signs" 363) (.ref 163) b22 (by kernel_rfl) (by kernel_rfl) (by kernel_rfl)) (
     aC (bL X G 169 .none (.str "minortables.signs" 363) (.ref 168) b23 (by kernel_rfl) (by kernel_rfl) (by kernel_rfl)) (
     aC (bL X G 176 .none (.str "minortables.signs" 363) (.ref 175) b24 (by kernel_rfl) (by kernel_rfl) (by kernel_rfl)) (
     aC (bL X G 183 .none (.str "law_minortables_k60_whole_signs" 401) (.ref 182) b26 (by kernel_rfl) (by kernel_rfl) (by kernel_rfl)) (
     aC (bL X G 190 .none (.str "law_minortables_k60_whole_signs" 401) (.ref 189) b27 (by kernel_rfl) (by kernel_rfl) (by kernel_rfl)) (
     aC (bL X G 195 .none (.str "law_minortables_k60_whole_signs" 401) (.ref 194) b28 (by kernel_rfl) (by kernel_rfl) (by kernel_rfl)) (
     aC (bL X G 209 .none (.str "law_minortables_k60_whole_signs" 401) (.ref 208) b30 (by kernel_rfl) (by kernel_rfl) (by kernel_rfl)) (
     aC (bL X G 236 .none (.str "law_minortables_k60_whole_signs" 401) (.ref 235) b35 (by kernel_rfl) (by kernel_rfl) (by kernel_rfl)) (
     aC (bL X G 243 .none (.str "law_minortables_k60_whole_signs" 401) (.ref 242) b36 (by kernel_rfl) (by kernel_rfl) (by kernel_rfl)) (
     aC (bL X G 250 .none (.str "law_minortables_k60_whole_signs" 401) (.ref 249) b37 (by kernel_rfl) (by kernel_rfl) (by kernel_rfl)) (
     aC (bL X G 255 .none (.str "law_minortables_k60_whole_signs" 401) (.ref 254) b38 (by kernel_rfl) (by kernel_rfl) (by kernel_rfl)) (
     aC (bL X G 262 .none (.str "law_minortables_k60_whole_signs" 401) (.ref 261) b39 (by kernel_rfl) (by kernel_rfl) (by kernel_rfl)) (
     aC (bL X G 269 .none (.str "law_minortables_k60_whole_signs" 401) (.ref 268) b40 (by kernel_rfl) (by kernel_rfl) (by kernel_rfl)) (
     aC (bL X G 274 .none (.str "law_minortables_k60_whole_signs" 401) (.ref 273) b41 (by kernel_rfl) (by kernel_rfl) (by kernel_rfl)) (
     aC (bL X G 279 .none (.str "law_minortables_k60_whole_signs" 401) (.ref 278) b42 (by kernel_rfl) (by kernel_rfl) (by kernel_rfl)) (
     aN)))))))))))))))))))))))))),XText.of (fun x v h=>PySem.W.mg_of X G h) (by kernel_rfl),by show List.map _ _=List.map _ _;kernel_rfl⟩
end M60
open PySem PySem.W PyProof.Rows
set_option maxRecDepth 100000 in
set_option maxHeartbeats 0 in
theorem PySem.Challenge.cw_minortables_k60_whole_signs_holds : PySem.Challenge.rw_minortables_k60_whole_signs.Holds :=
 H60.holds (M60.walk (l := PySem.Challenge.rw_minortables_k60_whole_signs) (K := H60.K) rfl (by kernel_rfl) (fun w h Y => PySem.W.kIn_of (e := H60.asK) Y) fun w mg fa h KX G hmg => M60.fin M60.law_true (M60.txt w KX G) KX G hmg 279 .none (.str "law_minortables_k60_whole_signs" 401) (.ref 278) (by kernel_rfl) (by kernel_rfl) (by kernel_rfl) (by kernel_rfl))
#print axioms PySem.Challenge.cw_minortables_k60_whole_signs_holds
