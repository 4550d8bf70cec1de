import PyProof.Rows.All
import Wide.All
import OpenK.AllK
import Wide.FinOn
import Lean
import PyProof.EqAt
import PyProof.EqKinds
import PyProof.TupleCall
import PyProof.ListRange
import PySem.Names
import PyProof.NeKinds
import PySem.Challenge.RW_minortables_k31_whole_steps_good
set_option Elab.async false
set_option linter.all false
set_option maxRecDepth 100000
namespace L2
open PySem PySem.Spec PyProof.Rows
abbrev Key:=Sum Int Str
def sS:Key->Value->Bool
 | .inl k,v=>Value.isInt k v
 | .inr x,v=>Value.isStrOf x v
def Xx(w:World):Key->Int
 | .inl k=>hashInt k
 | .inr x=>hashStr w x
theorem bH:∀ {k:Key} {v:Value},sS k v=true->(∃ i t,k=Sum.inl i/\v=Value.int i t)\/(∃ x t,k=Sum.inr x/\v=Value.str x t)
  | .inl i, v, h => by
    obtain⟨t,e⟩:=Value.isInt_shape (k:=i) (v:=v) h
    exact .inl ⟨i,t,rfl,e⟩
  | .inr x, v, h => by
    obtain⟨t,e⟩:=Value.isStrOf_shape (x:=x) (v:=v) h
    exact .inr ⟨x,t,rfl,e⟩
theorem vD(i:Int)(t:Tok):sS (.inl i) (.int i t)=true:=by simp[sS,Value.isInt]
theorem vC(x:Str)(t:Tok):sS (.inr x) (.str x t)=true:=by simp[sS,Value.isStrOf]
theorem JL(a b:Int):decide ((Sum.inl a:Key)=Sum.inl b)=(a==b):=by
 by_cases e:a=b
 ·subst e;simp
 ·have h:¬ (Sum.inl a:Key)=Sum.inl b:=fun q=>e (Sum.inl.inj q)
  rw[decide_eq_false h]
  exact(beq_eq_false_iff_ne.mpr e).symm
theorem JG(a b:Str):decide ((Sum.inr a:Key)=Sum.inr b)=decide (a=b):=by
 by_cases e:a=b
 ·subst e;simp
 ·have h:¬ (Sum.inr a:Key)=Sum.inr b:=fun q=>e (Sum.inr.inj q)
  rw[decide_eq_false h,decide_eq_false e]
theorem JK(a:Int)(b:Str):decide ((Sum.inl a:Key)=Sum.inr b)=false:=decide_eq_false (fun q=>nomatch q)
theorem JH(a:Str)(b:Int):decide ((Sum.inr a:Key)=Sum.inl b)=false:=decide_eq_false (fun q=>nomatch q)
def bO(prog:Program)(w:World):PySem.KeyKind prog w Key where
 is:=sS
 hash:=Xx w
 inj:=fun v a b ha hb=>by
  rcases bH ha with⟨i,t,rfl,rfl⟩ | ⟨x,t,rfl,rfl⟩
  ·rcases bH hb with⟨j,u,rfl,e⟩ | ⟨y,u,rfl,e⟩
   ·injection e with e1 _;rw[e1]
   ·exact nomatch e
  ·rcases bH hb with⟨j,u,rfl,e⟩ | ⟨y,u,rfl,e⟩
   ·exact nomatch e
   ·injection e with e1 _;rw[e1]
 byValue:=fun k v h=>by
  rcases bH h with⟨i,t,rfl,rfl⟩ | ⟨x,t,rfl,rfl⟩<;>rfl
 pyHash:=fun hv h=>by
  rcases bH hv with⟨i,t,rfl,rfl⟩ | ⟨x,t,rfl,rfl⟩
  ·exact wpAny_pyHash_int h
  ·exact wpAny_pyHash_str h
 eqBool:=fun hu hv h=>by
  rcases bH hu with⟨i,t,rfl,rfl⟩ | ⟨x,t,rfl,rfl⟩
  ·rcases bH hv with⟨j,u,rfl,rfl⟩ | ⟨y,u,rfl,rfl⟩
   ·rw[JL] at h;exact wpAny_eqBool_int h
   ·rw[JK] at h;exact SeqAt.EqAt.int_str i t y u _ _ _ _ h
  ·rcases bH hv with⟨j,u,rfl,rfl⟩ | ⟨y,u,rfl,rfl⟩
   ·rw[JH] at h;exact SeqAt.EqAt.str_int x t j u _ _ _ _ h
   ·rw[JG] at h;exact wpAny_eqBool_str h
 «strs» :=fun k x t v h=>by
  rcases bH h with⟨i,u,rfl,e⟩ | ⟨y,u,rfl,e⟩
  ·exact nomatch e
  ·injection e with e1 _
   subst e1
   cases v<;>rfl
theorem oM(prog:Program)(w:World)(i:Int)(t:Tok):(bO prog w).is (.inl i) (.int i t)=true:=vD i t
theorem oK(prog:Program)(w:World)(x:Str)(t:Tok):(bO prog w).is (.inr x) (.str x t)=true:=vC x t
end L2
namespace L2
open PySem PySem.Spec PyProof.Rows
inductive V where
 | non | bl (b:Bool) | int (i:Int) | str (x:Str) | byt (b:Array UInt8) | flt (b:UInt64) | ref (a:Addr) | ty (n:String)
 deriving DecidableEq
def RelV:V->Value->Prop
 | .non,u=>u=Value.none
 | .bl b,u=>u=Value.bool b
 | .int i,u=>∃ t,u=Value.int i t
 | .str x,u=>∃ t,u=Value.str x t
 | .byt b,u=>∃ t,u=Value.bytes b t
 | .flt b,u=>∃ t,u=Value.float b t
 | .ref a,u=>u=Value.ref a
 | .ty n,u=>u=Value.type n
abbrev Vals:List V->List Value->Prop:=Paired RelV
theorem Vals.length{xs:List V}{us:List Value}(r:Vals xs us):xs.length=us.length:=Paired.length r
theorem Vals.get:∀ {xs:List V} {us:List Value} {i:Nat} {x:V},Vals xs us->xs[i]?=some x->∃ u,us[i]?=some u/\RelV x u
  | _,_,_,_,.nil,e=>by simp at e
  | _,_,0,_,.cons r _,e=>by simp at e;subst e;exact⟨_,rfl,r⟩
  | _, _, i + 1, x, .cons _ t, e => by
    obtain⟨u,h1,h2⟩:=Vals.get (i:=i) (x:=x) t (by simpa using e)
    exact⟨u,by simpa using h1,h2⟩
theorem Vals.set{x:V}{u:Value}(r:RelV x u):∀ {xs:List V} {us:List Value} (i:Nat),Vals xs us->Vals (xs.set i x) (us.set i u)
 | _,_,_,.nil=>.nil
 | _,_,0,.cons _ t=>.cons r t
 | _,_,i+1,.cons q t=>.cons q (Vals.set r i t)
theorem Vals.append:∀ {xs ys:List V} {us ws:List Value},Vals xs us->Vals ys ws->Vals (xs++ys) (us++ws)
 | _,_,_,_,.nil,s=>s
 | _,_,_,_,.cons r t,s=>.cons r (Vals.append t s)
theorem Vals.take:∀ {xs:List V} {us:List Value} (n:Nat),Vals xs us->Vals (xs.take n) (us.take n)
 | _,_,0,_=>.nil
 | _,_,_+1,.nil=>.nil
 | _,_,n+1,.cons r t=>.cons r (Vals.take n t)
theorem Vals.drop:∀ {xs:List V} {us:List Value} (n:Nat),Vals xs us->Vals (xs.drop n) (us.drop n)
 | _,_,0,r=>r
 | _,_,_+1,.nil=>.nil
 | _,_,n+1,.cons _ t=>Vals.drop n t
def xO:Option V->Option Value->Prop
 | some v,some u=>RelV v u
 | none,none=>True
 | _,_=>False
def KV{κ:Type}:List (κ×V)->List (κ×Value)->Prop:=Paired fun(p:κ×V) (q:κ×Value)=>p.1=q.1/\RelV p.2 q.2
def kV:Key->V
 | .inl i=>.int i
 | .inr x=>.str x
inductive HO where
 | lst (xs:List V)
 | tup (xs:List V)
 | dK (kvs:List (Key×V)) | dT (kvs:List (List Key×V))
 | set (S:Int->Bool) (n:Nat)
 | ins (C dx:Addr) (fs:List (Str×V))
 | own (x:Addr)
 | xd (fs:List (Str×V))
 | met (f x:Addr)
 | rng (lo hi:Int)
 | frz (o:Obj) (u:HO)
 | tbl (ps:Array Value)
 | ext (φ:Heap->Prop)
abbrev Hp:=Addr->Option HO
def upd(H:Hp)(a:Addr)(o:HO):Hp:=fun b=>if b=a then some o else H b
theorem aU{H:Hp}{a:Addr}{o:HO}:upd H a o a=some o:=by unfold upd;rw[if_pos rfl]
theorem aL{H:Hp}{a b:Addr}{o:HO}(h:b≠a):upd H a o b=H b:=by unfold upd;rw[if_neg h]
theorem aG{H:Hp}{a b:Addr}{o:HO}(h:H a=some o)(h':H b=none):a≠b:=by
 intro e;subst e;rw[h] at h';cases h'
section
variable (P:Program) (w:World)
def cV(H:Hp)(h:Heap)(a:Addr):HO->Prop
 | .lst xs=>xs.length<=sizeLine/\∃ (its:List Value) (n:Nat),Vals xs its/\h.get? a=some { cls:=.type "list",data:=.seq its.toArray n }
 | .tup xs=>xs.length<=sizeLine/\∃ its:List Value,Vals xs its/\IsTup h a its.toArray
 | .dK kvs=>kvs.length<=sizeLine/\(a==sysModules)=false/\∃ vs,KV kvs vs/\h.DictOf (bO P w) a vs
 | .dT kvs => kvs.length <= sizeLine /\ (a == sysModules) = false /\ ∃ xs : List (List Key × Addr × Value),
   Paired (fun(p:List Key×V) (q:List Key×Addr×Value)=>p.1=q.1/\H q.2.1=some (.tup (p.1.map kV))/\RelV p.2 q.2.2) kvs xs /\
   ∃ o es ep,h.get? a=some o/\o.ExactDict/\o.data=.dict es ep/\es.toList=xs.map (entryOfKey (tupleKind (bO P w)))/\(xs.map (·.1)).Nodup
 | .set S n=>h.SetOf (intKind P w) a S n
 | .ins C dx fs => H dx = some (.own a) /\ fs.length <= 1000 /\ dx ≠ a /\ h.get? a = some (PySem.W.instObj C dx) /\
   ∃ mA,h.Ns1 dx mA/\(∀ f,xO (fs.lookup f) (mA f))/\PySem.Within mA (fs.map (·.1))
 | .own _=>∃ o,h.get? a=some o
 | .xd fs=>∃ mA,h.Ns1 a mA/\∀ f,xO (fs.lookup f) (mA f)
 | .rng lo hi=>∃ t u v,h.get? a=some { cls:=.type "range",data:=.fields #[.int lo t,.int hi u,.int 1 v] }
 | .frz o u=>h.get? a=some o/\cV H h a u
 | .tbl ps=>h.get? a=some { cls:=.none,data:=.fields ps }
 | .met f x=>h.get? a=some (PySem.W.methodObj (.ref f) (.ref x))
 | .ext φ=>φ h/\(∃ o,h.get? a=some o)/\∀ h1 h2:Heap,φ h1->(∀ o,h1.get? a=some o->h2.get? a=some o)->φ h2
def HOk(H:Hp)(h:Heap):Prop:=∀ a o,H a=some o->cV P w H h a o
end
section
variable {P:Program} {w:World} {H H':Hp} {h h':Heap} {a:Addr} {o:HO}
theorem cV.lt(x:cV P w H h a o):a<h.objs.size:=by
 cases o with
 | lst xs=>obtain⟨_,_,_,_,e⟩:=x;exact Heap.lt_size e
 | tup xs=>obtain⟨_,_,_,p⟩:=x;exact p.lt
 | dK kvs=>obtain⟨_,_,_,_,o,_,_,e,_⟩:=x;exact Heap.lt_size e
 | dT kvs=>obtain⟨_,_,_,_,o,_,_,e,_⟩:=x;exact Heap.lt_size e
 | set S n=>obtain⟨o,_,_,_,e,_⟩:=x;exact Heap.lt_size e
 | ins C dx fs=>obtain⟨_,_,_,e,_⟩:=x;exact Heap.lt_size e
 | own y=>obtain⟨_,e⟩:=x;exact Heap.lt_size e
 | xd fs=>obtain⟨_,⟨_,_,_,e,_⟩,_⟩:=x;exact Heap.lt_size e
 | rng lo hi=>obtain⟨_,_,_,e⟩:=x;exact Heap.lt_size e
 | frz ob u=>obtain⟨e,_⟩:=x;exact Heap.lt_size e
 | tbl ps=>exact Heap.lt_size (show h.get? a=some _ from x)
 | met f y=>exact Heap.lt_size (show h.get? a=some _ from x)
 | ext φ=>obtain⟨_,⟨_,e⟩,_⟩:=x;exact Heap.lt_size e
theorem Paired.mapP{α β:Type}{F G:α->β->Prop}:∀ {l₁:List α} {l₂:List β},Paired F l₁ l₂->(∀ a b,F a b->G a b)->Paired G l₁ l₂
 | _,_,.nil,_=>.nil
 | _,_,.cons r t,f=>.cons (f _ _ r) (Paired.mapP t f)
theorem cV.stay(x:cV P w H h a o)(k:∀ b u,(b=a\/H b=some (.own a))->h.get? b=some u->h'.get? b=some u)
    (ho:∀ b,H b=some (.own a)->H' b=some (.own a)) (ht:∀ b xs,H b=some (.tup xs)->H' b=some (.tup xs)):cV P w H' h' a o:=by
  induction o with
  | lst xs=>obtain⟨z,its,n,r,e⟩:=x;exact⟨z,its,n,r,k _ _ (.inl rfl) e⟩
  | tup xs=>obtain⟨z,its,r,ob,e,c⟩:=x;exact⟨z,its,r,ob,k _ _ (.inl rfl) e,c⟩
  | dK kvs=>obtain⟨z,y,vs,r,ob,es,ep,e,c⟩:=x;exact⟨z,y,vs,r,ob,es,ep,k _ _ (.inl rfl) e,c⟩
  | dT kvs =>
    obtain⟨z,y,xs,r,ob,es,ep,e,c⟩:=x
    exact⟨z,y,xs,Paired.mapP r fun p q z=>⟨z.1,ht _ _ z.2.1,z.2.2⟩,ob,es,ep,k _ _ (.inl rfl) e,c⟩
  | set S n=>obtain⟨ob,es,ep,t,e,c⟩:=x;exact⟨ob,es,ep,t,k _ _ (.inl rfl) e,c⟩
  | ins C dx fs =>
    obtain⟨d,z,ne,e,mA,⟨od,es,ep,e2,c⟩,r⟩:=x
    exact⟨ho _ d,z,ne,k _ _ (.inl rfl) e,mA,⟨od,es,ep,k _ _ (.inr d) e2,c⟩,r⟩
  | own y=>obtain⟨ob,e⟩:=x;exact⟨ob,k _ _ (.inl rfl) e⟩
  | xd fs=>obtain⟨mA,⟨od,es,ep,e,c⟩,r⟩:=x;exact⟨mA,⟨od,es,ep,k _ _ (.inl rfl) e,c⟩,r⟩
  | rng lo hi=>obtain⟨t,u,v,e⟩:=x;exact⟨t,u,v,k _ _ (.inl rfl) e⟩
  | frz ob u ih=>obtain⟨e,q⟩:=x;exact⟨k _ _ (.inl rfl) e,ih q⟩
  | tbl ps =>
    have e:h.get? a=some { cls:=.none,data:=.fields ps }:=x
    show h'.get? a=some { cls:=.none,data:=.fields ps }
    exact k a _ (.inl rfl) e
  | met f y =>
    have e:h.get? a=some (PySem.W.methodObj (.ref f) (.ref y)):=x
    show h'.get? a=some (PySem.W.methodObj (.ref f) (.ref y))
    exact k a _ (.inl rfl) e
  | ext φ=>obtain⟨p,⟨o,e⟩,st⟩:=x;exact⟨st _ _ p fun o q=>k _ _ (.inl rfl) q,⟨o,k _ _ (.inl rfl) e⟩,st⟩
theorem HOk.lt(x:HOk P w H h)(e:H a=some o):a<h.objs.size:=(x a o e).lt
theorem HOk.fresh(x:HOk P w H h)(e:h.objs.size<=a):H a=none:=by
 cases q:H a with
 | none=>rfl
 | some u=>exact absurd (Nat.lt_of_lt_of_le (x.lt q) e) (Nat.lt_irrefl _)
theorem HOk.kept(x:HOk P w H h)(k:∀ b u,h.get? b=some u->h'.get? b=some u):HOk P w H h':=fun a o e =>
 (x a o e).stay (fun b u _ q=>k b u q) (fun _ q=>q) fun _ _ q=>q
theorem HOk.laid(x:HOk P w H h)(k:∀ b u,h.get? b=some u->h'.get? b=some u)(hp:h.objs.size<=a)(new:cV P w (upd H a o) h' a o):HOk P w (upd H a o) h':=fun b u e=>by
 have hn:=x.fresh hp
 by_cases hb:b=a
 ·subst hb;rw[aU] at e;cases e;exact new
 ·rw[aL hb] at e
  exact(x b u e).stay (fun c v _ q=>k c v q) (fun c q=>by rw[aL (aG q hn)];exact q) fun c xs q=>by rw[aL (aG q hn)];exact q
end
def Rd(H:Hp)(a:Addr)(u:HO):Prop:=H a=some u\/∃ o,H a=some (.frz o u)
theorem Rd.ok{P:Program}{w:World}{H:Hp}{h:Heap}{a:Addr}{u:HO}(r:Rd H a u)(x:HOk P w H h):cV P w H h a u:=by
 rcases r with r | ⟨o,r⟩
 ·exact x a u r
 ·obtain⟨_,q⟩:=x a _ r
  exact q
def Mut:Option HO->Prop
 | some (.lst _)=>True
 | some (.dK _)=>True
 | some (.dT _)=>True
 | some (.set _ _)=>True
 | some (.ins _ _ _)=>True
 | some (.ext _)=>True
 | _=>False
section
variable {P:Program} {w:World} {H:Hp} {h h':Heap} {x e:Addr} {o':HO}
theorem HOk.write(ok:HOk P w H h)(mu:Mut (H x))(he:e=x\/H e=some (.own x))(k:∀ b u,b≠e->h.get? b=some u->h'.get? b=some u)(heo:∃ u,h'.get? e=some u)
  (new:cV P w (upd H x o') h' x o'):HOk P w (upd H x o') h':=fun b u q=>by
 have nown:∀ c y,H c=some (.own y)->c≠x:=fun c y r z=>by subst z;rw[r] at mu;exact mu
 have ntup:∀ c xs,H c=some (.tup xs)->c≠x:=fun c xs r z=>by subst z;rw[r] at mu;exact mu
 by_cases hb:b=x
 ·subst hb;rw[aU] at q;cases q;exact new
 ·rw[aL hb] at q
  by_cases hbe:b=e
  ·have q':H b=some (.own x):=by
    rcases he with z | z
    ·exact absurd (hbe.trans z) hb
    ·rw[hbe];exact z
   rw[q] at q';cases q'
   obtain⟨v,hv⟩:=heo
   exact⟨v,by rw[hbe];exact hv⟩
  ·refine(ok b u q).stay (fun c v hc r=>k c v ?_ r) (fun c r=>by rw[aL (nown c b r)];exact r) fun c xs r=>by rw[aL (ntup c xs r)];exact r
   rcases hc with rfl | hc
   ·exact hbe
   ·rintro rfl
    rcases he with z | z
    ·exact nown c b hc z
    ·rw[hc] at z;cases z;exact hb rfl
end
structure Un (fs ex:List Addr) (H H':Hp) (h h':Heap):Prop where
 keep:∀ b o,h.get? b=some o->H b=none->b∉fs->b∉ex->h'.get? b=some o
 slot:∀ b o,h.get? b=some o->H b=none->b∈fs->b∉ex->∃ sl,h'.get? b=some { o with slots:=sl }
 free:∀ b o,h.get? b=some o->H b=none->b∉ex->H' b=none
 there:∀ b o,h.get? b=some o->b∉ex->∃ o',h'.get? b=some o'
 tups:∀ b xs,H b=some (.tup xs)->H' b=some (.tup xs)
 frzs:∀ b o u,H b=some (.frz o u)->H' b=some (.frz o u)
 tbls:∀ b ps,H b=some (.tbl ps)->∃ more,H' b=some (.tbl (ps++more))
section
variable {fs fs' ex ex':List Addr} {H H1 H2:Hp} {h h1 h2 h':Heap} {a x e:Addr} {o:HO}
theorem Un.any(u:Un fs ex H H1 h h1){b:Addr}{ob:Obj}(q:h.get? b=some ob)(n:H b=none)(hx:b∉ex):∃ sl,h1.get? b=some { ob with slots:=sl }:=by
 by_cases hb:b∈fs
 ·exact u.slot b ob q n hb hx
 ·exact⟨ob.slots,u.keep b ob q n hb hx⟩
theorem Un.trans(a:Un fs ex H H1 h h1)(b:Un fs ex H1 H2 h1 h2):Un fs ex H H2 h h2 where
 keep:=fun c ob q n hc hx=>b.keep c ob (a.keep c ob q n hc hx) (a.free c ob q n hx) hc hx
 slot:=fun c ob q n hc hx=>by
  obtain⟨sl,e1⟩:=a.slot c ob q n hc hx
  obtain⟨sl',e2⟩:=b.slot c _ e1 (a.free c ob q n hx) hc hx
  exact⟨sl',e2⟩
 free:=fun c ob q n hx=>by
  obtain⟨o',e1⟩:=a.there c ob q hx
  exact b.free c o' e1 (a.free c ob q n hx) hx
 there:=fun c ob q hx=>by
  obtain⟨o',e1⟩:=a.there c ob q hx
  exact b.there c o' e1 hx
 tups:=fun c xs q=>b.tups c xs (a.tups c xs q)
 frzs:=fun c ob xs q=>b.frzs c ob xs (a.frzs c ob xs q)
 tbls:=fun c ps q=>by
  obtain⟨m1,e1⟩:=a.tbls c ps q
  obtain⟨m2,e2⟩:=b.tbls c _ e1
  exact⟨m1++m2,by rw[e2,Array.append_assoc]⟩
theorem Un.kept(k:∀ b u,h.get? b=some u->h'.get? b=some u):Un fs ex H H h h' :=
 ⟨fun b ob q _ _ _=>k b ob q,fun b ob q _ _ _=>⟨ob.slots,k b ob q⟩,fun _ _ _ n _=>n,fun b ob q _=>⟨ob,k b ob q⟩,fun _ _ q=>q,fun _ _ _ q=>q,fun _ ps q=>⟨#[],by rw[q];simp⟩⟩
theorem Un.refl:Un fs ex H H h h:=Un.kept fun _ _ q=>q
theorem Un.laid(k:∀ b u,h.get? b=some u->h'.get? b=some u)(hp:h.objs.size<=a)(hn:H a=none):Un fs ex H (upd H a o) h h' where
 keep:=fun b u q _ _ _=>k b u q
 slot:=fun b u q _ _ _=>⟨u.slots,k b u q⟩
 free:=fun b u q n _=>by rw[aL (Nat.ne_of_lt (Nat.lt_of_lt_of_le (Heap.lt_size q) hp))];exact n
 there:=fun b u q _=>⟨u,k b u q⟩
 tups:=fun b xs q=>by rw[aL (aG q hn)];exact q
 frzs:=fun b u xs q=>by rw[aL (aG q hn)];exact q
 tbls:=fun b ps q=>⟨#[],by rw[aL (aG q hn),q];simp⟩
theorem Un.write(mu:Mut (H x))(he:e=x\/H e=some (.own x))(k:∀ b u,b≠e->h.get? b=some u->h'.get? b=some u)(heo:∃ u,h'.get? e=some u):Un fs ex H (upd H x o) h h':=by
  have hx:∀ b,H b=none->b≠x:=fun b n z=>by subst z;rw[n] at mu;exact mu
  have hb:∀ b,H b=none->b≠e:=fun b n z=>by
    subst z
    rcases he with r | r
    · exact hx b n r
    · rw[n] at r;cases r
  have hm:∀ b u,H b=some u->¬ Mut (some u)->b≠x:=fun b u q nm z=>by subst z;rw[q] at mu;exact nm mu
  refine⟨fun b u q n _ _=>k b u (hb b n) q,fun b u q n _ _=>⟨u.slots,k b u (hb b n) q⟩,fun b u q n _=>by rw[aL (hx b n)];exact n,fun b u q _=>?_,
    fun b xs q=>by rw[aL (hm b _ q fun z=>z)];exact q,fun b u xs q=>by rw[aL (hm b _ q fun z=>z)];exact q,fun b ps q=>⟨#[],by rw[aL (hm b _ q fun z=>z),q];simp⟩⟩
  by_cases hbe:b=e
  · subst hbe;exact heo
  · exact⟨u,k b u hbe q⟩
theorem Un.mono(u:Un fs ex H H1 h h1)(hs:∀ b∈fs,b∈fs')(hx:∀ b∈ex,b∈ex'):Un fs' ex' H H1 h h1 :=
 ⟨fun b ob q n hb he=>u.keep b ob q n (fun z=>hb (hs b z)) fun z=>he (hx b z),fun _ _ q n _ he=>u.any q n fun z=>he (hx _ z),fun b ob q n he=>u.free b ob q n fun z=>he (hx b z),fun b ob q he=>u.there b ob q fun z=>he (hx b z),u.tups,u.frzs,u.tbls⟩
end
def trk(h:Heap)(H:Hp):List Addr:=(List.range h.objs.size).filter fun a=>(H a).isSome
def yW(h:Heap)(H:Hp):Heap:=PySem.W.hideAll h (trk h H)
theorem vK(h:Heap)(H:Hp):(yW h H).objs.size=h.objs.size:=PySem.W.hideAll_size _ _
theorem yV{h:Heap}{H:Hp}{b:Addr}{o:Obj}(e:h.get? b=some o)(n:H b=none):(yW h H).get? b=some o :=
 PySem.W.hideAll_get _ e fun hm=>by
  have q:(H b).isSome=true:=(List.mem_filter.mp hm).2
  rw[n] at q;simp at q
theorem DX{h:Heap}{H:Hp}{b:Addr}{o:Obj}(e:(yW h H).get? b=some o):h.get? b=some o/\H b=none:=by
  have e':h.get? b=some o:=PySem.W.of_hideAll (trk h H) e
  refine⟨e',?_⟩
  cases q:H b with
  | none=>rfl
  | some x =>
    have hm:b∈trk h H:=List.mem_filter.mpr ⟨List.mem_range.mpr (Heap.lt_size e'),by simp[q]⟩
    have z:(yW h H).get? b=none:=PySem.W.hideAll_none (trk h H) hm
    rw[z] at e;cases e
def GD(g h:Heap)(L:Addr):List (Addr×Obj):=(List.range h.objs.size).filterMap fun a=>if a=L\/(g.get? a).isSome=true then none else(h.get? a).map fun o=>(a,o)
def rest(g h:Heap)(L d:Addr):List (Addr×Obj):=(GD g h L).filter fun p=>decide (p.1≠d)
end L2
namespace L2
open PySem PySem.Spec PyProof.Rows
structure Mod (K:PySem.W.Frag) (mg:Str->Option Value) (base:Heap):Prop where
 kin:K.In base
 glob:base.Ns mainGlobals mg
 blt:∃ mb,base.Ns builtinsNs mb/\∀ x:Str,x≠"__name__"->mb x=bootBuiltins x
 nolimit:base.NoLimit
structure Cx where
 prog:Program
 w:World
 K:PySem.W.Frag
 mg:Str->Option Value
 base:Heap
 A:Around
 N:List Str
 s₀:Shared
 H₀:Hp
 env:Env
 outer:List Env
 stack:List Env
 ex:List Addr
 fn:Str->Bool
 calm:Bool
 pn:List (Addr×Obj)
 xe:Value->Shared->Prop
def frs(l:List Env):List Addr:=l.filterMap (·.frame)
abbrev Cx.fs(X:Cx):List Addr:=frs X.outer
def Vis(sc:Scope)(x:Str):Prop:=sc.names.lookup x=some .local\/sc.names.lookup x=some .cell\/sc.names.lookup x=some .free
def Loc(sc:Scope)(x:Str):Prop:=sc.names.lookup x=some .local\/sc.names.lookup x=some .cell
def Look(env:Env)(h:Heap)(m:Str->Option Value)(x:Str)(u:Value):Prop :=
 (env.kindOf x=some .local/\m x=some u)\/((env.kindOf x=some .cell\/env.kindOf x=some .free)/\∃ c,env.cells.lookup x=some c/\h.IsCell c (some u))
structure Cx.Ok (X:Cx):Prop where
 mod:Mod X.K X.mg X.base
 kind:X.env.scope.kind=.function
 glob:X.env.globals=mainGlobals
 blt:X.env.builtins=builtinsNs
 above:X.s₀.heap.objs.size<=X.env.locals
 inj:∀ x y c,X.env.cells.lookup x=some c->X.env.cells.lookup y=some c->x=y
 has:∀ x,(X.env.kindOf x=some .cell\/X.env.kindOf x=some .free)->∃ c,X.env.cells.lookup x=some c
 cab:∀ x c,X.fn x=true->X.env.cells.lookup x=some c->X.s₀.heap.objs.size<=c
 hd:X.calm=true->X.A.handled=none
 frames:X.A.frames=some X.stack
 stk:X.stack=X.outer\/(X.stack=X.env::X.outer/\X.env.frame=some X.env.locals)
 exf:∀ b∈X.ex,b≠X.env.locals/\∀ x c,X.env.cells.lookup x=some c->c≠b
 bs:∀ b o,X.base.get? b=some o->X.s₀.heap.get? b=some o/\X.H₀ b=none
 bsz:X.base.objs.size<=X.s₀.heap.objs.size
 noex:∀ b o,X.base.get? b=some o->b∉X.ex
 exfs:∀ b∈X.ex,b∉X.fs
 funs:X.s₀.heap.FunFrames X.base X.outer
 frf:∀ b∈X.fs,X.H₀ b=none
structure Inv (X:Cx) (pins:List (Addr×Obj)) (σ:List (Option V)) (H:Hp) (s:Shared):Prop where
 ok:X.Ok
 os:s.os=X.s₀.os
 bare:AllBare s.gens
 base:Un X.fs X.ex X.H₀ H X.s₀.heap s.heap
 loc:∃ m,s.heap.Ns X.env.locals m/\∀ (i:Nat) (x:Str) (v:V),X.N[i]?=some x->σ[i]?=some (some v)->Vis X.env.scope x->∃ u,RelV v u/\Look X.env s.heap m x u
 cell:∀ x c,X.env.cells.lookup x=some c->∃ v,s.heap.IsCell c v
 free:H X.env.locals=none
 freeC:∀ x c,X.env.cells.lookup x=some c->H c=none
 pin:∀ p∈X.pn++pins,s.heap.get? p.1=some p.2/\H p.1=none/\p.1≠X.env.locals/\p.1∉X.fs/\∀ v,p.2.data≠.cell v
 hok:HOk X.prog X.w H s.heap
 len:σ.length=X.N.length
section
variable {X:Cx} {pins:List (Addr×Obj)} {σ:List (Option V)} {H H':Hp} {s:Shared} {h':Heap}
theorem Cx.Ok.nofr(ok:X.Ok){b:Addr}{o:Obj}(e:X.base.get? b=some o):b∉X.fs:=fun hb=>by
 have:=(ok.funs.mem hb).1
 rw[e] at this;cases this
theorem Inv.bs(I:Inv X pins σ H s):∀ b o,X.base.get? b=some o->s.heap.get? b=some o/\H b=none:=fun b o e =>
 ⟨I.base.keep b o (I.ok.bs b o e).1 (I.ok.bs b o e).2 (I.ok.nofr e) (I.ok.noex b o e),I.base.free b o (I.ok.bs b o e).1 (I.ok.bs b o e).2 (I.ok.noex b o e)⟩
theorem Inv.bk(I:Inv X pins σ H s):∀ b o,X.base.get? b=some o->s.heap.get? b=some o:=fun b o e=>(I.bs b o e).1
theorem Inv.mod(I:Inv X pins σ H s):Mod X.K X.mg X.base:=I.ok.mod
theorem Inv.kIn(I:Inv X pins σ H s):X.K.In s.heap:=I.ok.mod.kin.keeps I.bk
theorem Inv.lt(I:Inv X pins σ H s):X.env.locals<s.heap.objs.size:=let ⟨_,hn,_⟩:=I.loc;hn.lt
theorem Inv.sz(I:Inv X pins σ H s):X.s₀.heap.objs.size<=s.heap.objs.size:=Nat.le_trans I.ok.above (Nat.le_of_lt I.lt)
theorem Inv.nofs(I:Inv X pins σ H s){a:Addr}(h:s.heap.objs.size<=a):a∉X.fs:=fun hb=>by
 obtain⟨_,o,ho,_⟩:=I.ok.funs.mem hb
 exact absurd (Nat.lt_of_lt_of_le (Heap.lt_size ho) (Nat.le_trans I.sz h)) (Nat.lt_irrefl _)
theorem Inv.cne(I:Inv X pins σ H s):∀ x c,X.env.cells.lookup x=some c->c≠X.env.locals:=fun x c e z=>by
 obtain⟨v,o,ho,hd⟩:=I.cell x c e
 obtain⟨m,⟨o',es,ep,ho',hd',_⟩,_⟩:=I.loc
 rw[z,ho'] at ho;cases ho;rw[hd'] at hd;cases hd
theorem Inv.funs(I:Inv X pins σ H s):s.heap.FunFrames X.base X.outer:=by
  have all:∀ (l:List Env),(∀ b∈frs l,b∈X.fs)->X.s₀.heap.FunFrames X.base l->s.heap.FunFrames X.base l:=by
    intro l
    induction l with
    | nil=>intro _ _;trivial
    | cons env r ih =>
      intro hs hl
      obtain⟨hk,⟨L,o,hf,hn,ho,hd⟩,hr⟩:=hl
      have hL:L∈X.fs:=hs L (by unfold frs;rw[List.filterMap_cons,hf];exact List.mem_cons_self)
      obtain⟨sl,e⟩:=I.base.slot L o ho (I.ok.frf L hL) hL fun z=>I.ok.exfs L z hL
      exact⟨hk,⟨L,_,hf,hn,e,hd⟩,ih (fun b hb=>hs b (by unfold frs;rw[List.filterMap_cons,hf];exact List.mem_cons_of_mem _ hb)) hr⟩
  exact all X.outer (fun _ hb=>hb) I.ok.funs
theorem Inv.stack(I:Inv X pins σ H s):s.heap.FunFrames X.base X.stack:=by
 rcases I.ok.stk with e | ⟨e,hf⟩
 ·rw[e];exact I.funs
 ·rw[e]
  obtain⟨m,hn,_⟩:=I.loc
  refine .cons (by rw[I.ok.kind];decide) hf hn ?_ I.funs
  exact Heap.get?_none_of_le (Nat.le_trans I.ok.bsz I.ok.above)
theorem Inv.stkSub(I:Inv X pins σ H s):∀ b∈frs X.stack,b∈X.env.locals::X.fs:=fun b hb=>by
 rcases I.ok.stk with e | ⟨e,hf⟩
 ·rw[e] at hb;exact List.mem_cons_of_mem _ hb
 ·rw[e] at hb
  unfold frs at hb
  rw[List.filterMap_cons,hf] at hb
  exact hb
theorem Inv.stkFree(I:Inv X pins σ H s):∀ b∈frs X.stack,H b=none:=fun b hb=>by
 rcases List.mem_cons.mp (I.stkSub b hb) with e | hb
 ·rw[e];exact I.free
 ·obtain⟨_,o,ho,_⟩:=I.ok.funs.mem hb
  exact I.base.free b o ho (I.ok.frf b hb) fun z=>I.ok.exfs b z hb
theorem Inv.step{g':Array GenState}{t':Nat}{d':Drawn}{ch:List Addr}(I:Inv X pins σ H s)
  (hch:∀ b∈ch,(b∈X.ex\/X.s₀.heap.objs.size<=b)/\b≠X.env.locals/\(∀ x c,X.env.cells.lookup x=some c->c≠b)/\∀ p∈X.pn++pins,p.1≠b)
  (keep:∀ b o,b≠X.env.locals->b∉X.fs->b∉ch->s.heap.get? b=some o->H b=none->h'.get? b=some o)
  (slot:∀ b o,b≠X.env.locals->b∈X.fs->b∉ch->s.heap.get? b=some o->H b=none->∃ sl,h'.get? b=some { o with slots:=sl }) (free:∀ b o,b∉ch->s.heap.get? b=some o->H b=none->H' b=none)
  (there:∀ b o,b∉ch->s.heap.get? b=some o->∃ o',h'.get? b=some o')
  (tups:∀ b xs,H b=some (.tup xs)->H' b=some (.tup xs)) (frzs:∀ b o u,H b=some (.frz o u)->H' b=some (.frz o u)) (tbls:∀ b ps,H b=some (.tbl ps)->∃ more,H' b=some (.tbl (ps++more)))
  (ns:∀ m,s.heap.Ns X.env.locals m->h'.Ns X.env.locals m) (hok:HOk X.prog X.w H' h') (hg:AllBare g') :
  Inv X pins σ H' { s with heap:=h',gens:=g',drawn:=d',toks:=t' }:=by
 have neL:∀ b o,X.s₀.heap.get? b=some o->b≠X.env.locals:=fun b o e=>Nat.ne_of_lt (Nat.lt_of_lt_of_le (Heap.lt_size e) I.ok.above)
 have neC:∀ b o,X.s₀.heap.get? b=some o->b∉X.ex->b∉ch:=fun b o e hx hb=>by
  rcases(hch b hb).1 with z | z
  ·exact hx z
  ·exact absurd (Nat.lt_of_lt_of_le (Heap.lt_size e) z) (Nat.lt_irrefl _)
 have cellK:∀ x c,X.env.cells.lookup x=some c->∀ v,s.heap.IsCell c v->h'.IsCell c v:=fun x c e v ⟨o,ho,hd⟩=>by
  have nch:c∉ch:=fun z=>(hch c z).2.2.1 x c e rfl
  by_cases hc:c∈X.fs
  ·obtain⟨sl,q⟩:=slot c o (I.cne x c e) hc nch ho (I.freeC x c e)
   exact⟨_,q,hd⟩
  ·exact⟨o,keep c o (I.cne x c e) hc nch ho (I.freeC x c e),hd⟩
 refine⟨I.ok,I.os,hg,⟨fun b o e n hb hx=>?_,fun b o e n hb hx=>?_,fun b o e n hx=>?_,fun b o e hx=>?_,fun b xs e=>tups b xs (I.base.tups b xs e),fun b o xs e=>frzs b o xs (I.base.frzs b o xs e),fun b ps e=>?_⟩,?_,fun x c e=>?_,?_,fun x c e=>?_,fun p hp=>?_,hok,I.len⟩
 ·exact keep b o (neL b o e) hb (neC b o e hx) (I.base.keep b o e n hb hx) (I.base.free b o e n hx)
 ·obtain⟨sl,e1⟩:=I.base.slot b o e n hb hx
  obtain⟨sl',e2⟩:=slot b _ (neL b o e) hb (neC b o e hx) e1 (I.base.free b o e n hx)
  exact⟨sl',e2⟩
 ·obtain⟨o',e1⟩:=I.base.there b o e hx
  exact free b o' (neC b o e hx) e1 (I.base.free b o e n hx)
 ·obtain⟨o',e1⟩:=I.base.there b o e hx
  exact there b o' (neC b o e hx) e1
 ·obtain⟨m1,e1⟩:=I.base.tbls b ps e
  obtain⟨m2,e2⟩:=tbls b _ e1
  exact⟨m1++m2,by rw[e2,Array.append_assoc]⟩
 ·obtain⟨m,hn,hl⟩:=I.loc
  refine⟨m,ns m hn,fun i x v e1 e2 e3=>?_⟩
  obtain⟨u,r,l⟩:=hl i x v e1 e2 e3
  refine⟨u,r,?_⟩
  rcases l with l | ⟨k,c,e,z⟩
  ·exact .inl l
  ·exact .inr ⟨k,c,e,cellK x c e _ z⟩
 ·obtain⟨v,z⟩:=I.cell x c e
  exact⟨v,cellK x c e v z⟩
 ·obtain⟨m,⟨o,_,_,ho,_⟩,_⟩:=I.loc
  exact free _ o (fun z=>(hch _ z).2.1 rfl) ho I.free
 ·obtain⟨v,o,ho,hd⟩:=I.cell x c e
  exact free c o (fun z=>(hch c z).2.2.1 x c e rfl) ho (I.freeC x c e)
 ·obtain⟨e,n,ne,nf,d⟩:=I.pin p hp
  have nch:p.1∉ch:=fun z=>(hch p.1 z).2.2.2 p hp rfl
  exact⟨keep p.1 p.2 ne nf nch e n,free p.1 p.2 nch e n,ne,nf,d⟩
theorem Inv.un{t':Nat}(I:Inv X pins σ H s)(u:Un X.fs [] H H' s.heap h')(hok:HOk X.prog X.w H' h'):Inv X pins σ H' { s with heap:=h',toks:=t' }:=by
  obtain⟨m,⟨o,es,ep,ho,r⟩,_⟩:=id I.loc
  obtain⟨sl,hL⟩:=u.any ho I.free (by simp)
  exact I.step (g':=s.gens) (d':=s.drawn) (ch:=[]) (fun _ z=>nomatch z) (fun b o _ hb _ e n=>u.keep b o e n hb (by simp)) (fun b o _ hb _ e n=>u.slot b o e n hb (by simp)) (fun b o _ e n=>u.free b o e n (by simp)) (fun b o _ e=>u.there b o e (by simp)) u.tups u.frzs u.tbls (fun m' hm=>by
    obtain⟨o',es',ep',ho',r'⟩:=hm
    rw[ho] at ho';cases ho'
    exact⟨_,es',ep',hL,r'⟩) hok I.bare
theorem Inv.call{g':Array GenState}{t':Nat}{d':Drawn}{ch:List Addr}(I:Inv X pins σ H s)(u:Un (frs X.stack) ch H H' s.heap h')(hok:HOk X.prog X.w H' h')(hg:AllBare g')
    (hch:∀ b∈ch,(b∈X.ex\/X.s₀.heap.objs.size<=b)/\b≠X.env.locals/\(∀ x c,X.env.cells.lookup x=some c->c≠b)/\∀ p∈X.pn++pins,p.1≠b) :
    Inv X pins σ H' { s with heap:=h',gens:=g',drawn:=d',toks:=t' }:=by
  obtain⟨m,⟨o,es,ep,ho,r⟩,_⟩:=id I.loc
  obtain⟨sl,hL⟩:=u.any ho I.free fun z=>(hch _ z).2.1 rfl
  exact I.step (ch:=ch) hch (fun b o hL hb hc e n=>u.keep b o e n (fun z=>(List.mem_cons.mp (I.stkSub b z)).elim hL hb) hc) (fun b o _ _ hc e n=>u.any e n hc) (fun b o hc e n=>u.free b o e n hc) (fun b o hc e=>u.there b o e hc) u.tups u.frzs u.tbls (fun m' hm=>by
    obtain⟨o',es',ep',ho',r'⟩:=hm
    rw[ho] at ho';cases ho'
    exact⟨_,es',ep',hL,r'⟩) hok hg
theorem Inv.turned{t':Nat}{it:Addr}(I:Inv X pins σ H s)(k:∀ b o,b≠it->s.heap.get? b=some o->h'.get? b=some o)(hn:H it=none)(hL:it≠X.env.locals)
  (h1:it∈X.ex\/X.s₀.heap.objs.size<=it) (h2:∀ x c,X.env.cells.lookup x=some c->c≠it) (h3:∀ p∈X.pn++pins,p.1≠it):Inv X pins σ H { s with heap:=h',toks:=t' }:=by
 have nit:∀ b u,H b=some u->b≠it:=fun b u e z=>by rw[z,hn] at e;cases e
 refine I.step (g':=s.gens) (d':=s.drawn) (ch:=[it]) (fun b hb=>?_) (fun b o _ _ hc e _=>k b o (fun z=>hc (by simp[z])) e) (fun b o _ _ hc e _=>⟨o.slots,k b o (fun z=>hc (by simp[z])) e⟩) (fun _ _ _ _ n=>n)
  (fun b o hc e=>⟨o,k b o (fun z=>hc (by simp[z])) e⟩) (fun _ _ e=>e) (fun _ _ _ e=>e) (fun b ps e=>⟨#[],by rw[e];simp⟩) (fun m hm=>?_) (fun b u e=>?_) I.bare
 ·have e:b=it:=by simpa using hb
  subst e
  exact⟨h1,hL,h2,h3⟩
 ·obtain⟨o,es,ep,ho,r⟩:=hm
  exact⟨o,es,ep,k _ o (Ne.symm hL) ho,r⟩
 ·refine(I.hok b u e).stay (fun c v hc q=>k c v ?_ q) (fun _ q=>q) fun _ _ q=>q
  rcases hc with z | z
  ·rw[z];exact nit b u e
  ·exact nit c _ z
theorem Inv.tok(I:Inv X pins σ H s)(t:Nat):Inv X pins σ H { s with toks:=t }:=I.un (h':=s.heap) (t':=t) Un.refl I.hok
theorem Inv.kept{t':Nat}(I:Inv X pins σ H s)(k:∀ b u,s.heap.get? b=some u->h'.get? b=some u):Inv X pins σ H { s with heap:=h',toks:=t' }:=I.un (Un.kept k) (I.hok.kept k)
theorem Inv.laid{a:Addr}{o:HO}{t':Nat}(I:Inv X pins σ H s)(k:∀ b u,s.heap.get? b=some u->h'.get? b=some u)(hp:s.heap.objs.size<=a)(new:cV X.prog X.w (upd H a o) h' a o) :
  Inv X pins σ (upd H a o) { s with heap:=h',toks:=t' }:=I.un (Un.laid k hp (I.hok.fresh hp)) (I.hok.laid k hp new)
theorem Inv.write{x e:Addr}{o:HO}{t':Nat}(I:Inv X pins σ H s)(mu:Mut (H x))(he:e=x\/H e=some (.own x))(k:∀ b u,b≠e->s.heap.get? b=some u->h'.get? b=some u)(heo:∃ u,h'.get? e=some u)
  (new:cV X.prog X.w (upd H x o) h' x o):Inv X pins σ (upd H x o) { s with heap:=h',toks:=t' }:=I.un (Un.write mu he k heo) (I.hok.write mu he k heo new)
theorem Inv.pins_of{pins':List (Addr×Obj)}(I:Inv X pins σ H s)(h:∀ p∈pins',s.heap.get? p.1=some p.2/\H p.1=none/\p.1≠X.env.locals/\p.1∉X.fs/\∀ v,p.2.data≠.cell v):Inv X pins' σ H s :=
 ⟨I.ok,I.os,I.bare,I.base,I.loc,I.cell,I.free,I.freeC,fun p hp=>(List.mem_append.mp hp).elim (fun z=>I.pin p (List.mem_append_left _ z)) (h p),I.hok,I.len⟩
theorem lC{N:List Str}(hN:N.Nodup){i j:Nat}{x:Str}(a:N[i]?=some x)(b:N[j]?=some x):i=j:=by
 obtain⟨h1,e1⟩:=List.getElem?_eq_some_iff.mp a
 obtain⟨h2,e2⟩:=List.getElem?_eq_some_iff.mp b
 exact(List.getElem_inj hN).mp (e1.trans e2.symm)
theorem mL{M:Model}{A:Around}{E:Value->Shared->Prop}{i:Nat}{x:Str}{v:V}{u:Value}{Q:Unit->Shared->Prop}(I:Inv X pins σ H s)(hN:X.N.Nodup)(hi:X.N[i]?=some x)(hx:Loc X.env.scope x)(r:RelV v u)
  (h:∀ s',Inv X pins (σ.set i (some v)) H s'->(∃ a,Heap.SameBut a s.heap s'.heap/\(a=X.env.locals\/X.env.cells.lookup x=some a))->Q () s') (hf:X.fn x=true\/X.env.scope.names.lookup x=some .local:=by first | exact .inl rfl | exact .inr rfl | assumption):wpAny M A (storeName X.env x u) Q E s:=by
 obtain⟨m,hn,hl⟩:=id I.loc
 have hcls:(X.env.scope.kind==.class||(X.env.scope.kind==.module&&X.env.locals !=X.env.globals))=false:=by rw[I.ok.kind];rfl
 have hiσ:i<σ.length:=by rw[I.len];exact(List.getElem?_eq_some_iff.mp hi).1
 have cne:=I.cne
 have tracked:∀ {a:Addr} {h':Heap},(∃ o,s.heap.get? a=some o/\H a=none)->Heap.SameBut a s.heap h'->HOk X.prog X.w H h':=fun {a h'} ha hs b ob e=>by
  obtain⟨_,_,hfree⟩:=ha
  refine(I.hok b ob e).stay (fun c w' hc q=>(hs.2 c ?_).trans q) (fun _ q=>q) fun _ _ q=>q
  rintro rfl
  rcases hc with rfl | hc
  ·rw[hfree] at e;cases e
  ·rw[hfree] at hc;cases hc
 rcases hx with hk | hk
 ·refine wpAny_storeName_local hk hn (fun h' hn' hs=>?_) hcls
  obtain⟨oL,_,_,hoL,_⟩:=id hn
  refine h _ ⟨I.ok,I.os,I.bare,⟨fun b o e n hb hx=>?_,fun b o e n hb hx=>?_,I.base.free,fun b o e hx=>?_,I.base.tups,I.base.frzs,I.base.tbls⟩,⟨_,hn',fun j y v' e1 e2 e3=>?_⟩,fun y c e=>?_,I.free,I.freeC,fun p hp=>?_,tracked ⟨oL,hoL,I.free⟩ hs,by simpa using I.len⟩ ⟨_,hs,.inl rfl⟩
  ·exact(hs.2 b (Nat.ne_of_lt (Nat.lt_of_lt_of_le (Heap.lt_size e) I.ok.above))).trans (I.base.keep b o e n hb hx)
  ·obtain⟨sl,e1⟩:=I.base.slot b o e n hb hx
   exact⟨sl,(hs.2 b (Nat.ne_of_lt (Nat.lt_of_lt_of_le (Heap.lt_size e) I.ok.above))).trans e1⟩
  ·obtain⟨o',e1⟩:=I.base.there b o e hx
   exact⟨o',(hs.2 b (Nat.ne_of_lt (Nat.lt_of_lt_of_le (Heap.lt_size e) I.ok.above))).trans e1⟩
  ·by_cases hj:j=i
   ·subst hj
    rw[hi] at e1;cases e1
    rw[List.getElem?_set_self hiσ] at e2
    cases e2
    exact⟨u,r,.inl ⟨hk,by simp⟩⟩
   ·rw[List.getElem?_set_ne (Ne.symm hj)] at e2
    obtain⟨u',r',q⟩:=hl j y v' e1 e2 e3
    refine⟨u',r',?_⟩
    rcases q with⟨k,e⟩ | ⟨k,c,e,z⟩
    ·refine .inl ⟨k,?_⟩
     have:y≠x:=fun e=>hj (lC hN e1 (e▸hi))
     simp[this,e]
    ·exact .inr ⟨k,c,e,z.sameBut hs (cne y c e)⟩
  ·obtain⟨w',z⟩:=I.cell y c e
   exact⟨w',z.sameBut hs (cne y c e)⟩
  ·obtain⟨e,n,ne,nf,d⟩:=I.pin p hp
   exact⟨(hs.2 p.1 ne).trans e,n,ne,nf,d⟩
 ·have hfn:X.fn x=true:=by
   rcases hf with z | z
   ·exact z
   ·rw[z] at hk;cases hk
  obtain⟨c,hc⟩:=I.ok.has x (.inl hk)
  obtain⟨w',z⟩:=I.cell x c hc
  refine wpAny_storeName_cell I.ok.kind hk hc z (fun h' hc' hs=>?_)
  obtain⟨oc,hoc,hocd⟩:=id z
  refine h { s with heap:=h' } ⟨I.ok,I.os,I.bare,⟨fun b o e n hb hx=>?_,fun b o e n hb hx=>?_,I.base.free,fun b o e hx=>?_,I.base.tups,I.base.frzs,I.base.tbls⟩,⟨m,hn.sameBut hs (Ne.symm (cne x c hc)),fun j y v' e1 e2 e3=>?_⟩,fun y c' e=>?_,I.free,I.freeC,fun p hp=>?_,tracked ⟨oc,hoc,I.freeC x c hc⟩ hs,by simpa using I.len⟩ ⟨c,hs,.inr hc⟩
  ·exact(hs.2 b (Nat.ne_of_lt (Nat.lt_of_lt_of_le (Heap.lt_size e) (I.ok.cab x c hfn hc)))).trans (I.base.keep b o e n hb hx)
  ·obtain⟨sl,e1⟩:=I.base.slot b o e n hb hx
   exact⟨sl,(hs.2 b (Nat.ne_of_lt (Nat.lt_of_lt_of_le (Heap.lt_size e) (I.ok.cab x c hfn hc)))).trans e1⟩
  ·obtain⟨o',e1⟩:=I.base.there b o e hx
   exact⟨o',(hs.2 b (Nat.ne_of_lt (Nat.lt_of_lt_of_le (Heap.lt_size e) (I.ok.cab x c hfn hc)))).trans e1⟩
  ·by_cases hj:j=i
   ·subst hj
    rw[hi] at e1;cases e1
    rw[List.getElem?_set_self hiσ] at e2
    cases e2
    exact⟨u,r,.inr ⟨.inl hk,c,hc,hc'⟩⟩
   ·rw[List.getElem?_set_ne (Ne.symm hj)] at e2
    obtain⟨u',r',q⟩:=hl j y v' e1 e2 e3
    refine⟨u',r',?_⟩
    rcases q with q | ⟨k,c',e,z'⟩
    ·exact .inl q
    ·refine .inr ⟨k,c',e,z'.sameBut hs ?_⟩
     rintro rfl
     exact hj (lC hN e1 (I.ok.inj _ _ _ e hc▸hi))
  ·by_cases hcc:c'=c
   ·subst hcc;exact⟨_,hc'⟩
   ·obtain⟨w2,z2⟩:=I.cell y c' e
    exact⟨w2,z2.sameBut hs hcc⟩
  ·obtain⟨e,n,ne,nf,d⟩:=I.pin p hp
   refine⟨(hs.2 p.1 ?_).trans e,n,ne,nf,d⟩
   intro q
   rw[q,hoc] at e
   have q':oc=p.2:=Option.some.inj e
   exact d w' (by rw[<- q'];exact hocd)
theorem dI{M:Model}{A:Around}{E:Value->Shared->Prop}{i:Nat}{x:Str}{v:V}{u:Value}{Q:Unit->Shared->Prop}(I:Inv X pins σ H s)(hN:X.N.Nodup)(hi:X.N[i]?=some x)(hx:Loc X.env.scope x)(r:RelV v u)
  (h:∀ s',Inv X pins (σ.set i (some v)) H s'->Q () s') (hf:X.fn x=true\/X.env.scope.names.lookup x=some .local:=by first | exact .inl rfl | exact .inr rfl | assumption):wpAny M A (storeName X.env x u) Q E s :=
 mL I hN hi hx r (fun s' I' _=>h s' I') hf
theorem Inv.call'{s':Shared}{ch:List Addr}(I:Inv X pins σ H s)(ho:s'.os=s.os)(u:Un (frs X.stack) ch H H' s.heap s'.heap)(hok:HOk X.prog X.w H' s'.heap)(hg:AllBare s'.gens)
  (hch:∀ b∈ch,(b∈X.ex\/X.s₀.heap.objs.size<=b)/\b≠X.env.locals/\(∀ x c,X.env.cells.lookup x=some c->c≠b)/\∀ p∈X.pn++pins,p.1≠b):Inv X pins σ H' s':=by
 obtain⟨h',g',d',t',o'⟩:=s'
 have e:o'=s.os:=ho
 subst e
 exact I.call (g':=g') (t':=t') (d':=d') u hok hg hch
end
abbrev XK:=Value->Option Addr->Hp->Prop
abbrev St:=List (Option V)
abbrev VK:=V->Hp->Prop
abbrev TE:=St->Hp->VK->Prop
abbrev TT:=St->Hp->(Bool->Hp->Prop)->Prop
abbrev TA:=St->Hp->(List V->Hp->Prop)->Prop
structure Ends where
 nx:St->Hp->Prop
 rt:VK
 bk:St->Hp->Prop:=fun _ _=>False
 ct:St->Hp->Prop:=fun _ _=>False
abbrev TS:=Ends->St->Hp->Prop
def EP(X:Cx)(pins:List (Addr×Obj))(σ:St)(Q:VK)(u:Value)(s':Shared):Prop:=∃ v H',Inv X pins σ H' s'/\RelV v u/\Q v H'
def TP(X:Cx)(pins:List (Addr×Obj))(σ:St)(Q:Bool->Hp->Prop)(b:Bool)(s':Shared):Prop:=∃ H',Inv X pins σ H' s'/\Q b H'
def AP(X:Cx)(pins:List (Addr×Obj))(σ:St)(Q:List V->Hp->Prop)(us:List Value)(s':Shared):Prop:=∃ vs H',Inv X pins σ H' s'/\Vals vs us/\Q vs H'
def SP(X:Cx)(pins:List (Addr×Obj))(D:Ends)(f:Flow)(s':Shared):Prop :=
 match f with
 | .next=>∃ σ' H',Inv X pins σ' H' s'/\D.nx σ' H'
 | .brk=>∃ σ' H',Inv X pins σ' H' s'/\D.bk σ' H'
 | .cont=>∃ σ' H',Inv X pins σ' H' s'/\D.ct σ' H'
 | .ret u=>∃ v σ' H',Inv X pins σ' H' s'/\RelV v u/\D.rt v H'
def PE(X:Cx)(e:Expr)(t:TE):Prop :=
 ∀ (pins:List (Addr×Obj)) (s:Shared) (σ:St) (H:Hp) (Q:VK),Inv X pins σ H s->t σ H Q->wpAny (model X.prog X.w) X.A (eval e X.env) (EP X pins σ Q) X.xe s
def PT(X:Cx)(e:Expr)(t:TT):Prop :=
 ∀ (pins:List (Addr×Obj)) (s:Shared) (σ:St) (H:Hp) (Q:Bool->Hp->Prop),Inv X pins σ H s->t σ H Q->wpAny (model X.prog X.w) X.A (isTrue e X.env (eval e X.env)) (TP X pins σ Q) X.xe s
def PW(X:Cx)(e:Expr)(t:TT):Prop :=
 ∀ (whole:Sem Value) (pins:List (Addr×Obj)) (s:Shared) (σ:St) (H:Hp) (Q:Bool->Hp->Prop),Inv X pins σ H s->t σ H Q->wpAny (model X.prog X.w) X.A (isTrue e X.env whole) (TP X pins σ Q) X.xe s
def PA(X:Cx)(es:List Expr)(t:TA):Prop :=
 ∀ (pos:Pos) (pins:List (Addr×Obj)) (s:Shared) (σ:St) (H:Hp) (Q:List V->Hp->Prop),Inv X pins σ H s->t σ H Q->wpAny (model X.prog X.w) X.A (spliced (backTo pos (starEach es X.env))) (AP X pins σ Q) X.xe s
def PS(X:Cx)(st:Stmt)(t:TS):Prop :=
 ∀ (pins:List (Addr×Obj)) (s:Shared) (σ:St) (H:Hp) (D:Ends),Inv X pins σ H s->t D σ H->wpAny (model X.prog X.w) X.A (exec st X.env) (SP X pins D) X.xe s
def PSs(X:Cx)(st:List Stmt)(t:TS):Prop :=
 ∀ (pins:List (Addr×Obj)) (s:Shared) (σ:St) (H:Hp) (D:Ends),Inv X pins σ H s->t D σ H->wpAny (model X.prog X.w) X.A (execs st X.env) (SP X pins D) X.xe s
theorem thn{α:Type}{t:Sem α}{Q Q':α->Shared->Prop}{M:Model}{A:Around}{E:Value->Shared->Prop}{s:Shared}(h:wpAny M A t Q E s)(hQ:∀ a s,Q a s->Q' a s):wpAny M A t Q' E s:=wpAny_mono h hQ fun _ _ x=>x
end L2
namespace L2
open PySem PySem.Spec PyProof.Rows
section
variable {X:Cx}
def HD(i:Nat):TE:=fun σ H Q=>∃ v,σ[i]?=some (some v)/\Q v H
def tC(v:V):TE:=fun _ H Q=>Q v H
theorem gq{i:Nat}{x:Str}{pos:Pos}(hN:X.N[i]?=some x)(hv:Vis X.env.scope x)(hd:(x==("__debug__":Str))=false:=by decide)(hcd:(x==("__classdict__":Str))=false:=by decide):PE X (.Name x pos) (HD i):=by
 intro pins s σ H Q I h
 obtain⟨v,e,h⟩:=h
 obtain⟨m,hn,hl⟩:=I.loc
 obtain⟨u,r,l⟩:=hl i x v hN e hv
 have fin:EP X pins σ Q u s:=⟨v,H,I,r,h⟩
 rcases l with⟨hk,hm⟩ | ⟨hk,c,hc,hcell⟩
 ·exact wpAny_Name (wpAny_loadName_local I.ok.kind hk hn hm fin) hd
 ·rcases hk with hk | hk
  ·exact wpAny_Name (wpAny_loadName_cell I.ok.kind hk hc hcell fin) hd
  ·exact wpAny_Name (wpAny_loadName_free I.ok.kind hk hc hcell fin hcd) hd
theorem Jh{i j pos}:PE X (.Constant (.int i) j pos) (tC (.int i)):=fun _ _ _ H _ I h=>wpAny_Constant_int ⟨.int i,H,I.tok _,⟨_,rfl⟩,h⟩
theorem Mr{b j pos}:PE X (.Constant (.bool b) j pos) (tC (.bl b)):=fun _ _ _ H _ I h=>Constant_bool ⟨.bl b,H,I,rfl,h⟩
theorem Jg{j pos}:PE X (.Constant .none j pos) (tC .non):=fun _ _ _ H _ I h=>Constant_none ⟨.non,H,I,rfl,h⟩
theorem Aq{x j pos}:PE X (.Constant (.str x) j pos) (tC (.str x)):=fun _ _ _ H _ I h=>Calls.Constant_str ⟨.str x,H,I.tok _,⟨_,rfl⟩,h⟩
def Gl(X:Cx)(x:Str):Prop:=X.env.kindOf x=some .globalImplicit
theorem jh{E:Value->Shared->Prop}{pins:List (Addr×Obj)}{s:Shared}{σ:St}{H:Hp}{x:Str}{u:Value}{pos:Pos}{Q:Value->Shared->Prop}(I:Inv X pins σ H s)(hg:Gl X x)(hm:X.mg x=some u)(h:Q u s)
  (hd:(x==("__debug__":Str))=false:=by decide):wpAny (model X.prog X.w) X.A (eval (.Name x pos) X.env) Q E s :=
 Calls.Name_function_global I.ok.kind hg (Calls.loadGlobal_global (by rw[I.ok.glob];exact I.mod.glob.keeps I.bk) hm h) hd
theorem eO{E:Value->Shared->Prop}{pins:List (Addr×Obj)}{s:Shared}{σ:St}{H:Hp}{x:Str}{u:Value}{pos:Pos}{Q:Value->Shared->Prop}(I:Inv X pins σ H s)(hg:Gl X x)(hm:X.mg x=none)(hv:bootBuiltins x=some u)(h:Q u s)
  (hn:x≠"__name__":=by decide) (hd:(x==("__debug__":Str))=false:=by decide):wpAny (model X.prog X.w) X.A (eval (.Name x pos) X.env) Q E s:=by
 obtain⟨mb,h1,h2⟩:=I.mod.blt
 exact Calls.Name_function_global I.ok.kind hg (Calls.loadGlobal_builtin (by rw[I.ok.glob];exact I.mod.glob.keeps I.bk) hm (by rw[I.ok.blt];exact h1.keeps I.bk) ((h2 x hn).trans hv) h) hd
theorem lA{x:Str}{v:V}{u:Value}{pos:Pos}(hg:Gl X x)(hm:X.mg x=some u)(r:RelV v u)(hd:(x==("__debug__":Str))=false:=by decide):PE X (.Name x pos) (tC v) :=
 fun _ _ _ H _ I h=>jh I hg hm ⟨v,H,I,r,h⟩ hd
theorem uX{x:Str}{v:V}{u:Value}{pos:Pos}(hg:Gl X x)(hm:X.mg x=none)(hv:bootBuiltins x=some u)(r:RelV v u)(hn:x≠"__name__":=by decide)(hd:(x==("__debug__":Str))=false:=by decide):PE X (.Name x pos) (tC v) :=
 fun _ _ _ H _ I h=>eO I hg hm hv ⟨v,H,I,r,h⟩ hn hd
variable {a b:Expr} {ta tb:TE} {pos:Pos}
def tB(t:TE):TT:=fun σ H Q=>t σ H fun x H1=>∃ c,x=.bl c/\Q c H1
theorem Ai{e:Expr}{t:TE}(h:PE X e t)(he:∀ whole,isTrue e X.env whole=(do let v <- whole;standAt e.pos;holding [v] (truthy v)):=by intro _;rfl):PT X e (tB t):=by
 intro pins s σ H Q I hw
 refine isTrue_plain (thn (h pins s σ H _ I hw) fun v s1 ⟨x,H1,I1,r1,q1⟩=>?_) (he _)
 obtain⟨d,rfl,q⟩:=q1
 cases r1
 exact wpAny_truthy_bool ⟨H1,I1,q⟩
variable {tA tB':TT} {rest:List Expr}
def W8(t u:TT):TT:=fun σ H Q=>t σ H fun c H1=>if c=true then u σ H1 Q else Q false H1
def tOr(t u:TT):TT:=fun σ H Q=>t σ H fun c H1=>if c=true then Q true H1 else u σ H1 Q
def W4(t:TT):TT:=fun σ H Q=>t σ H fun c H1=>Q (!c) H1
theorem CT(ha:PT X a tA):PW X (.BoolOp .And [a] pos) tA:=by
 intro wh pins s σ H Q I h
 refine isTrue_and (thn (ha pins s σ H Q I h) fun c s1 e=>?_)
 cases c with
 | true=>exact isTrue_and_nil e
 | false=>exact e
theorem Iv(ha:PT X a tA):PW X (.BoolOp .Or [a] pos) tA:=by
 intro wh pins s σ H Q I h
 refine isTrue_or (thn (ha pins s σ H Q I h) fun c s1 e=>?_)
 cases c with
 | false=>exact isTrue_or_nil e
 | true=>exact e
theorem Ah(ha:PT X a tA)(hb:PW X (.BoolOp .And (b::rest) pos) tB'):PW X (.BoolOp .And (a::b::rest) pos) (W8 tA tB'):=by
 intro wh pins s σ H Q I h
 refine isTrue_and (thn (ha pins s σ H _ I h) fun c s1 ⟨H1,I1,q1⟩=>?_)
 cases c with
 | true=>exact hb wh pins s1 σ H1 Q I1 q1
 | false=>exact⟨H1,I1,q1⟩
theorem Iw(ha:PT X a tA)(hb:PW X (.BoolOp .Or (b::rest) pos) tB'):PW X (.BoolOp .Or (a::b::rest) pos) (tOr tA tB'):=by
 intro wh pins s σ H Q I h
 refine isTrue_or (thn (ha pins s σ H _ I h) fun c s1 ⟨H1,I1,q1⟩=>?_)
 cases c with
 | true=>exact⟨H1,I1,q1⟩
 | false=>exact hb wh pins s1 σ H1 Q I1 q1
theorem Aj(ha:PT X a tA):PT X (.UnaryOp .Not a pos) (W4 tA):=by
 intro pins s σ H Q I h
 exact isTrue_not (ha pins s σ H (fun c H1=>Q (!c) H1) I h)
def Lj(ta tb:TE):TE:=fun σ H Q=>ta σ H fun x H1=>∃ c,x=.bl c/\if c=true then tb σ H1 Q else Q (.bl false) H1
def W3(ta tb:TE):TE:=fun σ H Q=>ta σ H fun x H1=>∃ c,x=.bl c/\if c=true then Q (.bl true) H1 else tb σ H1 Q
def Le(ta:TE):TE:=fun σ H Q=>ta σ H fun x H1=>∃ c,x=.bl c/\Q (.bl (!c)) H1
theorem Je{op}{t:TE}(h:PE X a t):PE X (.BoolOp op [a] pos) t:=fun pins s σ H Q I hw=>BoolOp_one (h pins s σ H Q I hw)
theorem Ar(ha:PE X a ta)(hb:PE X (.BoolOp .And (b::rest) pos) tb):PE X (.BoolOp .And (a::b::rest) pos) (Lj ta tb):=by
 intro pins s σ H Q I h
 refine BoolOp_and (thn (ha pins s σ H _ I h) fun v s1 ⟨x,H1,I1,r1,q1⟩=>?_)
 obtain⟨c,rfl,q1⟩:=q1
 cases r1
 refine wpAny_truthy_bool ?_
 cases c with
 | true=>exact hb pins s1 σ H1 Q I1 q1
 | false=>exact⟨.bl false,H1,I1,rfl,q1⟩
theorem Jd(ha:PE X a ta)(hb:PE X (.BoolOp .Or (b::rest) pos) tb):PE X (.BoolOp .Or (a::b::rest) pos) (W3 ta tb):=by
 intro pins s σ H Q I h
 refine BoolOp_or (thn (ha pins s σ H _ I h) fun v s1 ⟨x,H1,I1,r1,q1⟩=>?_)
 obtain⟨c,rfl,q1⟩:=q1
 cases r1
 refine wpAny_truthy_bool ?_
 cases c with
 | false=>exact hb pins s1 σ H1 Q I1 q1
 | true=>exact⟨.bl true,H1,I1,rfl,q1⟩
theorem Jf(ha:PE X a ta):PE X (.UnaryOp .Not a pos) (Le ta):=by
 intro pins s σ H Q I h
 refine UnaryOp_ (thn (ha pins s σ H _ I h) fun v s1 ⟨x,H1,I1,r1,q1⟩=>?_)
 obtain⟨c,rfl,q1⟩:=q1
 cases r1
 exact not_of (wpAny_truthy_bool ⟨.bl (!c),H1,I1,rfl,q1⟩)
def tIf(t:TT)(ta tb:TE):TE:=fun σ H Q=>t σ H fun c H1=>if c=true then ta σ H1 Q else tb σ H1 Q
theorem lu{c:Expr}(hc:PT X c tA)(ha:PE X a ta)(hb:PE X b tb):PE X (.IfExp c a b pos) (tIf tA ta tb):=by
 intro pins s σ H Q I h
 refine wpAny_IfExp (thn (hc pins s σ H _ I h) fun d s1 ⟨H1,I1,q1⟩=>?_)
 cases d with
 | true=>exact ha pins s1 σ H1 Q I1 q1
 | false=>exact hb pins s1 σ H1 Q I1 q1
end
end L2
namespace L2
open PySem PySem.Spec PyProof.Rows
def SqL(K:PySem.W.Frag)(H:Hp)(a:Addr)(xs:List V):Prop :=
 Rd H a (.lst xs) \/
  ∃ (o:Obj) (its:Array Value) (n:Nat),K.lookup a=some o/\o.cls=.type "list"/\o.dict=none/\o.data=.seq its n/\its.size<=sizeLine/\Vals xs its.toList
def SqT(K:PySem.W.Frag)(H:Hp)(a:Addr)(xs:List V):Prop :=
 Rd H a (.tup xs) \/
  ∃ (o:Obj) (its:Array Value) (n:Nat),K.lookup a=some o/\o.cls=.type "tuple"/\o.data=.seq its n/\its.size<=sizeLine/\Vals xs its.toList
def X7:Value->Option V
 | .none=>some .non
 | .bool b=>some (.bl b)
 | .int i _=>some (.int i)
 | .str x _=>some (.str x)
 | .bytes b _=>some (.byt b)
 | .float b _=>some (.flt b)
 | .ref a=>some (.ref a)
 | .type n=>some (.ty n)
 | _=>none
theorem RelV.abs{x:V}{u:Value}(r:RelV x u):X7 u=some x:=by
 cases x with
 | non=>cases r;rfl
 | bl _=>cases r;rfl
 | int _=>obtain⟨t,rfl⟩:=r;rfl
 | str _=>obtain⟨t,rfl⟩:=r;rfl
 | byt _=>obtain⟨t,rfl⟩:=r;rfl
 | flt _=>obtain⟨t,rfl⟩:=r;rfl
 | ref _=>cases r;rfl
 | ty _=>cases r;rfl
theorem RelV.inj{x y:V}{u:Value}(r:RelV x u)(q:RelV y u):x=y:=Option.some.inj (r.abs.symm.trans q.abs)
theorem Vals.inj:∀ {xs ys:List V} {us:List Value},Vals xs us->Vals ys us->xs=ys
 | _,_,_,.nil,.nil=>rfl
 | _,_,_,.cons r t,.cons r' t'=>by rw[r.inj r',Vals.inj t t']
section
variable {X:Cx} {pins:List (Addr×Obj)} {σ:St} {H:Hp} {s:Shared} {a:Addr} {xs ys:List V}
theorem SqL.of{K:PySem.W.Frag}(h:H a=some (.lst xs)):SqL K H a xs:=.inl (.inl h)
theorem SqT.of{K:PySem.W.Frag}(h:H a=some (.tup xs)):SqT K H a xs:=.inl (.inl h)
theorem Inv.list(I:Inv X pins σ H s)(h:SqL X.K H a xs):∃ its:List Value,Vals xs its/\PlainL s.heap a its.toArray/\xs.length<=sizeLine:=by
 rcases h with h | ⟨o,its,n,hk,hc,hd,hs,hz,r⟩
 ·obtain⟨z,its,n,r,e⟩:=h.ok I.hok
  exact⟨its,r,⟨_,n,e,rfl,rfl,rfl⟩,z⟩
 ·refine⟨its.toList,r,⟨o,n,I.kIn a o hk,hc,hd,by simpa using hs⟩,?_⟩
  have e:=r.length
  simp only[Array.length_toList] at e
  omega
theorem Inv.tuple(I:Inv X pins σ H s)(h:SqT X.K H a xs):∃ its:List Value,Vals xs its/\IsTup s.heap a its.toArray/\xs.length<=sizeLine:=by
 rcases h with h | ⟨o,its,n,hk,hc,hs,hz,r⟩
 ·obtain⟨z,its,r,p⟩:=h.ok I.hok
  exact⟨its,r,p,z⟩
 ·refine⟨its.toList,r,⟨o,I.kIn a o hk,hc,n,by simpa using hs⟩,?_⟩
  have e:=r.length
  simp only[Array.length_toList] at e
  omega
theorem Inv.list_inj(I:Inv X pins σ H s)(h:SqL X.K H a xs)(h':SqL X.K H a ys):xs=ys:=by
 obtain⟨its,r,⟨o,n,e,_,_,d⟩,_⟩:=I.list h
 obtain⟨its',r',⟨o',n',e',_,_,d'⟩,_⟩:=I.list h'
 rw[e] at e';cases e'
 rw[d] at d'
 injection d' with d1 _
 have:its=its':=by simpa using congrArg Array.toList d1
 subst this
 exact r.inj r'
theorem Inv.tuple_inj(I:Inv X pins σ H s)(h:SqT X.K H a xs)(h':SqT X.K H a ys):xs=ys:=by
 obtain⟨its,r,⟨o,e,_,n,d⟩,_⟩:=I.tuple h
 obtain⟨its',r',⟨o',e',_,n',d'⟩,_⟩:=I.tuple h'
 rw[e] at e';cases e'
 rw[d] at d'
 injection d' with d1 _
 have:its=its':=by simpa using congrArg Array.toList d1
 subst this
 exact r.inj r'
end
abbrev Cx.wish(X:Cx)(E:Value->Shared->Prop):Cx:={ X with xe:=E }
abbrev Cx.nox(X:Cx):Cx:=X.wish fun _ _=>False
theorem Cx.Ok.wish{X:Cx}(ok:X.Ok)(E:Value->Shared->Prop):(X.wish E).Ok :=
 ⟨ok.mod,ok.kind,ok.glob,ok.blt,ok.above,ok.inj,ok.has,ok.cab,ok.hd,ok.frames,ok.stk,ok.exf,ok.bs,ok.bsz,ok.noex,ok.exfs,ok.funs,ok.frf⟩
theorem Cx.Ok.unwish{X:Cx}{E:Value->Shared->Prop}(ok:(X.wish E).Ok):X.Ok :=
 ⟨ok.mod,ok.kind,ok.glob,ok.blt,ok.above,ok.inj,ok.has,ok.cab,ok.hd,ok.frames,ok.stk,ok.exf,ok.bs,ok.bsz,ok.noex,ok.exfs,ok.funs,ok.frf⟩
section
variable {X:Cx} {pins:List (Addr×Obj)} {σ:St} {H:Hp} {s:Shared} {E:Value->Shared->Prop}
theorem Inv.wish(I:Inv X pins σ H s)(E:Value->Shared->Prop):Inv (X.wish E) pins σ H s:=⟨I.ok.wish E,I.os,I.bare,I.base,I.loc,I.cell,I.free,I.freeC,I.pin,I.hok,I.len⟩
theorem Inv.unwish(I:Inv (X.wish E) pins σ H s):Inv X pins σ H s:=⟨I.ok.unwish,I.os,I.bare,I.base,I.loc,I.cell,I.free,I.freeC,I.pin,I.hok,I.len⟩
theorem SP.unwish{D:Ends}{f:Flow}{s':Shared}(h:SP (X.wish E) pins D f s'):SP X pins D f s':=by
 cases f with
 | next=>obtain⟨σ',H',I,q⟩:=h;exact⟨σ',H',I.unwish,q⟩
 | brk=>obtain⟨σ',H',I,q⟩:=h;exact⟨σ',H',I.unwish,q⟩
 | cont=>obtain⟨σ',H',I,q⟩:=h;exact⟨σ',H',I.unwish,q⟩
 | ret u=>obtain⟨v,σ',H',I,r,q⟩:=h;exact⟨v,σ',H',I.unwish,r,q⟩
end
section
variable {X:Cx} {st:Stmt} {rest:List Stmt} {t u:TS} {e:Expr} {te:TE} {pos:Pos}
def Ck:TS:=fun D σ H=>D.nx σ H
def Tf(t u:TS):TS:=fun D σ H=>t { D with nx:=u D } σ H
theorem uM:PSs X [] Ck:=fun _ _ σ H _ I h=>wpAny_execs_nil ⟨σ,H,I,h⟩
theorem kY(h1:PS X st t)(h2:PSs X rest u):PSs X (st::rest) (Tf t u):=by
  intro pins s σ H D I h
  refine wpAny_execs_cons (thn (h1 pins s σ H { D with nx:=u D } I h) fun f s1 q=>?_)
  cases f with
  | next =>
    obtain⟨σ',H',I',q⟩:=q
    exact h2 pins s1 σ' H' D I' q
  | ret v=>exact q
  | brk=>exact q
  | cont=>exact q
theorem Dc:PS X (.Pass pos) Ck:=fun _ _ σ H _ I h=>wpAny_Pass ⟨σ,H,I,h⟩
theorem Inv.quiet{pins:List (Addr×Obj)}{σ:St}{H:Hp}{s:Shared}(I:Inv X pins σ H s):interactive X.env=false:=by simp[interactive,I.ok.kind]
def Lf(te:TE):TS:=fun D σ H=>te σ H fun _ H1=>D.nx σ H1
theorem gZ(he:PE X e te)(hs:swapsWith e none pos.line X.env=pure false:=by rfl):PS X (.Expr e pos) (Lf te):=by
 intro pins s σ H D I h
 exact wpAny_Expr_any (thn (he pins s σ H _ I h) fun v s1 ⟨x,H1,I1,r1,q1⟩=>⟨σ,H1,I1,q1⟩) I.quiet hs
def W0(te:TE):TS:=fun D σ H=>te σ H D.rt
theorem Al(he:PE X e te):PS X (.Return (some e) pos) (W0 te):=by
 intro pins s σ H D I h
 exact wpAny_Return_some (thn (he pins s σ H _ I h) fun v s1 ⟨x,H1,I1,r1,q1⟩=>⟨x,σ,H1,I1,r1,q1⟩)
def La:TS:=fun D _ H=>D.rt .non H
theorem CZ:PS X (.Return none pos) La:=fun _ _ σ H _ I h=>wpAny_Return_none ⟨.non,σ,H,I,rfl,h⟩
def W6(c:TT)(t u:TS):TS:=fun D σ H=>c σ H fun b H1=>if b=true then t D σ H1 else u D σ H1
theorem Df{c:Expr}{a b:List Stmt}{tc:TT}(hc:PT X c tc)(ha:PSs X a t)(hb:PSs X b u):PS X (.If c a b pos) (W6 tc t u):=by
 intro pins s σ H D I h
 refine wpAny_If (thn (hc pins s σ H _ I h) fun d s1 ⟨H1,I1,q1⟩=>?_)
 cases d with
 | true=>exact ha pins s1 σ H1 D I1 q1
 | false=>exact hb pins s1 σ H1 D I1 q1
end
abbrev TG:=V->St->Hp->(St->Hp->Prop)->Prop
abbrev TGs:=List V->St->Hp->(St->Hp->Prop)->Prop
def PG(X:Cx)(target:Expr)(t:TG):Prop :=
  ∀ (pins : List (Addr × Obj)) (s : Shared) (σ : St) (H : Hp) (v : V) (u : Value) (Q : St -> Hp -> Prop), Inv X pins σ H s -> RelV v u -> t v σ H Q ->
    wpAny (model X.prog X.w) X.A (assign target X.env u) (fun _ s'=>∃ σ' H',Inv X pins σ' H' s'/\Q σ' H') X.xe s
def PGs(X:Cx)(ts:List Expr)(t:TGs):Prop :=
  ∀ (pins : List (Addr × Obj)) (s : Shared) (σ : St) (H : Hp) (vs : List V) (us : List Value) (Q : St -> Hp -> Prop), Inv X pins σ H s -> Vals vs us -> t vs σ H Q ->
    wpAny (model X.prog X.w) X.A (assignInOrder ((assignEach ts X.env).map (·.2)) us) (fun _ s'=>∃ σ' H',Inv X pins σ' H' s'/\Q σ' H') X.xe s
abbrev SM:=V->V->V->Hp->(Hp->Prop)->Prop
def WL(X:Cx)(t:SM):Prop :=
  ∀ (pins : List (Addr × Obj)) (s : Shared) (σ : St) (H : Hp) (o i v : V) (ov iv u : Value) (Q : Hp -> Prop), Inv X pins σ H s -> RelV o ov -> RelV i iv -> RelV v u -> t o i v H Q ->
    wpAny (model X.prog X.w) X.A (setItem ov iv u) (fun _ s'=>∃ H',Inv X pins σ H' s'/\Q H') X.xe s
section
variable {X:Cx} {pos:Pos}
def zx(i:Nat):TG:=fun v σ H Q=>Q (σ.set i (some v)) H
theorem Dm{i:Nat}{x:Str}(hN:X.N.Nodup)(hi:X.N[i]?=some x)(hx:Loc X.env.scope x)(hf:X.fn x=true\/X.env.scope.names.lookup x=some .local:=by first | exact .inl rfl | exact .inr rfl | assumption):PG X (.Name x pos) (zx i):=by
 intro pins s σ H v u Q I r h
 exact wpAny_assign_Name (dI I hN hi hx r (fun s' I'=>⟨_,H,I',h⟩) hf)
def XJ:TGs:=fun vs σ H Q=>vs=[]/\Q σ H
def R7(t:TG)(u:TGs):TGs:=fun vs σ H Q=>∃ v r,vs=v::r/\t v σ H fun σ' H'=>u r σ' H' Q
theorem Dl:PGs X [] XJ:=by
 intro pins s σ H vs us Q I r h
 obtain⟨e,h⟩:=h
 subst e
 cases r
 exact assignInOrder_nil ⟨σ,H,I,h⟩
theorem yC{e:Expr}{es:List Expr}{t:TG}{u:TGs}(h1:PG X e t)(h2:PGs X es u)
    (hs:(assignEach (e::es) X.env).map (·.2)=assign e X.env::(assignEach es X.env).map (·.2):=by rfl):PGs X (e::es) (R7 t u):=by
  intro pins s σ H vs us Q I r h
  obtain⟨v,vr,e1,h⟩:=h
  subst e1
  cases r with
  | cons r rr =>
    rw[hs]
    refine assignInOrder_cons (thn (h1 pins s σ H _ _ _ I r h) fun _ s1 ⟨σ1,H1,I1,q1⟩=>?_)
    exact h2 pins s1 σ1 H1 _ _ Q I1 rr q1
def gTup(K:PySem.W.Frag)(n:Nat)(t:TGs):TG:=fun v σ H Q=>∃ a xs,v=.ref a/\SqT K H a xs/\xs.length=n/\t xs σ H Q
theorem Ao{es:List Expr}{k:Nat}{t:TGs}{n:Nat}(hc:X.calm=true)(h:PGs X es t)
  (hn:(assignEach es X.env).length=n:=by rfl) (hst:(assignEach es X.env).findIdx? (·.1)=none:=by rfl):PG X (.Tuple es k pos) (gTup X.K n t):=by
 intro pins s σ H v u Q I r hw
 obtain⟨a,xs,e1,hq,hl,hw⟩:=hw
 subst e1
 cases r
 obtain⟨its,rv,ht,hz⟩:=I.tuple hq
 refine assign_Tuple_tuple (I.ok.hd hc) ht (by simp[hn,<- hl,rv.length]) hst fun h' hx=>?_
 have I1:Inv X pins σ H { s with heap:=h' }:=I.kept (t':=s.toks) fun b o e=>hx b o (Nat.ne_of_lt (Heap.lt_size e)) e
 exact h pins _ σ H xs _ Q I1 (by simpa using rv) hw
def XH(to ti:TE)(t:SM):TG:=fun v σ H Q=>to σ H fun o H1=>ti σ H1 fun i H2=>t o i v H2 fun H3=>Q σ H3
theorem uU{o i:Expr}{to ti:TE}{t:SM}(ho:PE X o to)(hi:PE X i ti)(hs:WL X t)
    (ha:∀ v,assign (.Subscript o i pos) X.env v=(do
      let ov <- holding [v] (eval o X.env)
      let iv <- holding [v,ov] (eval i X.env)
      standAt pos
      holding [v,ov,iv] (setItem ov iv v)
      release [v,ov,iv] []):=by intro _;rfl):PG X (.Subscript o i pos) (XH to ti t):=by
  intro pins s σ H v u Q I r h
  rw[ha]
  refine wpAny_bind (wpAny_holding (thn (ho pins s σ H _ I h) fun ov s1 ⟨x,H1,I1,r1,q1⟩=>?_))
  refine wpAny_bind (wpAny_holding (thn (hi pins s1 σ H1 _ I1 q1) fun iv s2 ⟨y,H2,I2,r2,q2⟩=>?_))
  refine wpAny_bind (wpAny_standAt (wpAny_bind (wpAny_holding (thn (hs pins s2 σ H2 x y v ov iv u _ I2 r1 r2 r q2) fun _ s3 ⟨H3,I3,q3⟩=>?_))))
  exact wpAny_release ⟨σ,H3,I3,q3⟩
def KC(te:TE)(g:TG):TS:=fun D σ H=>te σ H fun x H1=>g x σ H1 D.nx
theorem qw{tg e:Expr}{te:TE}{g:TG}(he:PE X e te)(hg:PG X tg g)(hs:swapsWithSole [tg] e pos.line X.env=pure false:=by rfl)(hw:swappedStores [tg] e X.env=pure none:=by rfl)
  (h1:(assignEach [tg] X.env).map (·.2)=[assign tg X.env]:=by rfl):PS X (.Assign [tg] e pos) (KC te g):=by
 intro pins s σ H D I h
 refine wpAny_Assign_stores (thn (he pins s σ H _ I h) fun v s1 ⟨x,H1,I1,r1,q1⟩=>?_) hs hw
 rw[h1]
 exact thn (hg pins s1 σ H1 x v _ I1 r1 q1) fun _ s2 q=>q
theorem jc{i:Nat}{x:Str}{e:Expr}{te:TE}{pos':Pos}(hN:X.N.Nodup)(hi:X.N[i]?=some x)(hx:Loc X.env.scope x)(he:PE X e te)(hs:swapsWith e (some (.Name x pos')) pos.line X.env=pure false:=by rfl)(hf:X.fn x=true\/X.env.scope.names.lookup x=some .local:=by first | exact .inl rfl | exact .inr rfl | assumption) :
  PS X (.Assign [.Name x pos'] e pos) (KC te (zx i)):=by
 intro pins s σ H D I h
 refine wpAny_Assign_Name (thn (he pins s σ H _ I h) fun v s1 ⟨y,H1,I1,r1,q1⟩=>?_) hs
 exact dI I1 hN hi hx r1 (fun s2 I2=>⟨_,H1,I2,q1⟩) hf
def W2(i j:Nat)(ta:TA):TS:=fun D σ H=>ta σ H fun vs H1=>∃ v w,vs=[v,w]/\D.nx ((σ.set i (some v)).set j (some w)) H1
theorem Iz{i j:Nat}{x y:Str}{a b:Expr}{ta:TA}{px py pt:Pos}{kt k2 pt2}(hc:X.calm=true)(hN:X.N.Nodup)(hi:X.N[i]?=some x)(hj:X.N[j]?=some y)(hij:i≠j)
    (hx:X.env.scope.names.lookup x=some .local) (hy:X.env.scope.names.lookup y=some .local) (ha:PA X [a,b] ta)
    (hw:swappedStores [.Tuple [.Name x px,.Name y py] kt pt] (.Tuple [a,b] k2 pt2) X.env=pure (some [x,y]))
    (hs:swapsWithSole [.Tuple [.Name x px,.Name y py] kt pt] (.Tuple [a,b] k2 pt2) pos.line X.env=pure false:=by rfl) :
    PS X (.Assign [.Tuple [.Name x px,.Name y py] kt pt] (.Tuple [a,b] k2 pt2) pos) (W2 i j ta):=by
  intro pins s σ H D I h
  rw[exec_Assign_arm]
  refine wpAny_bind (wpAny_standAt ?_)
  rw[hs]
  refine wpAny_bind (wpAny_pure ?_)
  rw[if_neg (by decide)]
  refine wpAny_bind (Tuple_ (thn (ha _ pins s σ H _ I h) fun us s1 ⟨vs,H1,I1,r1,q1⟩=>?_))
  obtain⟨v,w,e1,q1⟩:=q1
  subst e1
  obtain⟨u1,u2,rfl,rv,rw'⟩:∃ u1 u2,us=[u1,u2]/\RelV v u1/\RelV w u2:=by
    cases r1 with
    | cons p q =>
      cases q with
      | cons p' q' =>
        cases q'
        exact⟨_,_,rfl,p,p'⟩
  refine wpAny_newObj_type ?_ (by show 2<=sizeLine;decide)
  have I2:Inv X pins σ H1 { s1 with heap:=s1.heap.push { cls:=.type "tuple",data:=.seq [u1,u2].toArray } }:=I1.kept (t':=s1.toks) fun b o e=>Heap.get?_push_of_some _ e
  rw[hw]
  refine wpAny_bind (wpAny_pure ?_)
  show wpAny (model X.prog X.w) X.A (do rule "assign.swapped-stores";let items <- unpackItems (.ref s1.heap.objs.size) 2 none;assignInOrder [fun v=>bindName X.env y v,fun v=>bindName X.env x v] items.reverse;pure Flow.next) _ _ _
  refine wpAny_bind (wpAny_rule (wpAny_bind (unpackItems_tuple (items := #[u1,u2]) (I.ok.hd hc) (IsTup.new s1.heap _) fun h' hx'=>?_)))
  have I3:=I2.kept (h':=h') (t':=s1.toks) fun b o e=>hx' b o (Nat.ne_of_lt (Heap.lt_size e)) e
  show wpAny _ _ (assignInOrder [fun v=>bindName X.env y v,fun v=>bindName X.env x v] [u2,u1] >>=fun _=>pure Flow.next) _ _ _
  refine wpAny_bind (assignInOrder_cons (wpAny_bindName (dI I3 hN hj (.inl hy) rw' (fun s2 I4=>?_) (.inr hy))))
  refine assignInOrder_cons (wpAny_bindName (dI I4 hN hi (.inl hx) rv (fun s3 I5=>assignInOrder_nil (wpAny_pure ?_)) (.inr hx)))
  rw[List.set_comm _ _ (Ne.symm hij)] at I5
  exact⟨_,H1,I5,q1⟩
end
section
variable {X:Cx} {pos:Pos}
def HB(c:TT)(tb:TS):TS:=fun D σ H=>∃ W:Nat->St->Hp->Prop,(∃ m,W m σ H)/\∀ m σ H,W m σ H ->
 c σ H fun b H1=>if b=true then ∃ N:St->Hp->Prop,(∀ σ' H',N σ' H'->∃ m',m'<m/\W m' σ' H')/\tb { D with nx:=N,ct:=N,bk:=D.nx } σ H1 else D.nx σ H1
theorem yq{c:Expr}{body:List Stmt}{tc:TT}{tb:TS}(hp:PassesOwn (model X.prog X.w) X.A X.env X.xe)(hc:PT X c tc)(hb:PSs X body tb):PS X (.While c body [] pos) (HB tc tb):=by
  intro pins s σ H D I h
  obtain⟨W,⟨m0,w0⟩,turn⟩:=h
  refine wpAny_While (codeAny_whileLoop (fun n s'=>∃ σ' H',Inv X pins σ' H' s'/\W n σ' H') ?_ m0 ⟨σ,H,I,w0⟩)
  rintro n s1 ⟨σ1,H1,I1,w1⟩
  refine wpAny_passesOwn hp (thn (hc pins s1 σ1 H1 _ I1 (turn n σ1 H1 w1)) fun b s2 ⟨H2,I2,q2⟩=>?_)
  cases b with
  | true =>
    obtain⟨N,hN,q2⟩:=q2
    rw[if_pos rfl]
    refine wpAny_passesOwn hp (thn (hb pins s2 σ1 H2 _ I2 q2) fun f s3 q3=>?_)
    cases f with
    | next =>
      obtain⟨σ3,H3,I3,n3⟩:=q3
      obtain⟨m',hm,w3⟩:=hN σ3 H3 n3
      exact⟨m',hm,σ3,H3,I3,w3⟩
    | cont =>
      obtain⟨σ3,H3,I3,n3⟩:=q3
      obtain⟨m',hm,w3⟩:=hN σ3 H3 n3
      exact⟨m',hm,σ3,H3,I3,w3⟩
    | brk=>exact q3
    | ret v=>exact q3
  | false =>
    rw[if_neg Bool.false_ne_true]
    exact wpAny_execs_nil ⟨σ1,H2,I2,q2⟩
end
structure It where
 go:Nat->Hp->Prop
 yld:Nat->Hp->V->Hp->Prop
 stop:Nat->Hp->Prop
def tO(X:Cx)(pins:List (Addr×Obj))(H:Hp)(b:Addr):Prop :=
 H b=none/\b≠X.env.locals/\b∉X.fs/\(b∈X.ex\/X.s₀.heap.objs.size<=b)/\(∀ x c,X.env.cells.lookup x=some c->c≠b)/\∀ p∈X.pn++pins,p.1≠b
theorem Inv.fpOk{X:Cx}{pins:List (Addr×Obj)}{σ:St}{H H':Hp}{s:Shared}{b:Addr}(I:Inv X pins σ H s)(hb:s.heap.objs.size<=b)(hn:H' b=none):tO X pins H' b:=by
 refine⟨hn,Nat.ne_of_gt (Nat.lt_of_lt_of_le I.lt hb),I.nofs hb,.inr (Nat.le_trans I.sz hb),fun x c e z=>?_,fun p hp z=>?_⟩
 ·obtain⟨v,q⟩:=I.cell x c e
  exact absurd (Nat.lt_of_lt_of_le q.lt (by rw[z];exact hb)) (Nat.lt_irrefl _)
 ·exact absurd (Nat.lt_of_lt_of_le (Heap.lt_size (I.pin p hp).1) (by rw[z];exact hb)) (Nat.lt_irrefl _)
structure Turn (P:Program) (w:World) (K:PySem.W.Frag) (tg:Expr) (J:It) (fp:List Addr) (it:Addr) (tn:Nat->Heap->Prop):Prop where
  mem:it∈fp
  obj:∀ i h,tn i h->∀ b∈fp,∃ o,h.get? b=some o/\∀ v,o.data≠.cell v
  keep:∀ i h h',tn i h->(∀ b∈fp,∀ o,h.get? b=some o->h'.get? b=some o)->tn i h'
  item:∀ (X:Cx),X.prog=P->X.w=w->X.K=K->X.calm=true->∀ (i:Nat) (pins:List (Addr×Obj)) (s:Shared) (σ:St) (H:Hp) (E:Value->Shared->Prop),Inv X pins σ H s->(∀ b∈fp,tO X pins H b)->tn i s.heap->J.go i H ->
    wpAny (model P w) X.A (pyNext (.ref it)) (fun r s1=>∃ u,r=some u /\
      wpAny (model P w) X.A (letOwnedTupleGo tg (.ref it) u) (fun _ s2=>∃ x H',Inv X pins σ H' s2/\RelV x u/\J.yld i H x H'/\tn (i+1) s2.heap/\∀ b∈fp,H' b=none) E s1) E s
  done:∀ (X:Cx),X.prog=P->X.w=w->X.K=K->X.calm=true->∀ (i:Nat) (pins:List (Addr×Obj)) (s:Shared) (σ:St) (H:Hp) (E:Value->Shared->Prop),Inv X pins σ H s->(∀ b∈fp,tO X pins H b)->tn i s.heap->J.stop i H ->
    wpAny (model P w) X.A (pyNext (.ref it)) (fun r s1=>r=none/\Inv X pins σ H s1) E s
  self:∀ (A:Around) (i:Nat) (s:Shared) (Q:Value->Shared->Prop) (E:Value->Shared->Prop),tn i s.heap->Q (.ref it) s->wpAny (model P w) A (pyIter (.ref it)) Q E s
abbrev TI:=St->Hp->(It->Hp->Prop)->Prop
def PIE(X:Cx)(pins:List (Addr×Obj))(σ:St)(tg:Expr)(R:It->Hp->Prop)(itv:Value)(s2:Shared):Prop :=
 ∃ (it:Addr) (fp:List Addr) (tn:Nat->Heap->Prop) (J:It) (H':Hp),itv=.ref it/\Inv X pins σ H' s2/\Turn X.prog X.w X.K tg J fp it tn/\tn 0 s2.heap/\(∀ b∈fp,tO X pins H' b)/\R J H'
def PI(X:Cx)(tg iter:Expr)(wi:TI):Prop :=
  ∀ (pins : List (Addr × Obj)) (s : Shared) (σ : St) (H : Hp) (R : It -> Hp -> Prop), Inv X pins σ H s -> wi σ H R ->
    wpAny (model X.prog X.w) X.A (eval iter X.env) (fun v s1=>wpAny (model X.prog X.w) X.A (pyIter v) (PIE X pins σ tg R) X.xe s1) X.xe s
theorem Ey{M:Model}{A:Around}{E:Value->Shared->Prop}{s:Shared}{tg:Expr}{it:Addr}{u:Value}{o:Obj}{n:String}{vs:Array Value}{Q:Unit->Shared->Prop}(ho:s.heap.get? it=some o)(hc:o.cls=.type n)(hd:o.data=.fields vs)
    (hn:["enumerate","zip","dict_itemiterator","dict_reverseitemiterator","odict_iterator","itertools.zip_longest","itertools.pairwise"].contains n=false) (hQ:Q () s):wpAny M A (letOwnedTupleGo tg (.ref it) u) Q E s:=by
  unfold letOwnedTupleGo
  cases tg<;>first
    | exact wpAny_pure hQ
    | (cases u<;>first
        | exact wpAny_pure hQ
        | (refine wpAny_bind (wpAny_load ho ?_)
           rw[hc,hd]
           show wpAny M A (if(["enumerate","zip","dict_itemiterator","dict_reverseitemiterator","odict_iterator","itertools.zip_longest","itertools.pairwise"].contains n&&vs[0]?==some (rawInt _))=true then _ else _) Q E s
           rw[if_neg (by intro h;rw[hn,Bool.false_and] at h;cases h)]
           exact wpAny_pure hQ))
def Itl(K:PySem.W.Frag)(a:Addr):It :=
 ⟨fun i H=>∃ xs x,SqL K H a xs/\xs[i]?=some x,fun i H x H'=>H'=H/\∀ xs,SqL K H a xs->xs[i]?=some x,fun i H=>∃ xs,SqL K H a xs/\xs.length<=i⟩
def Itt(K:PySem.W.Frag)(a:Addr):It :=
 ⟨fun i H=>∃ xs x,SqT K H a xs/\xs[i]?=some x,fun i H x H'=>H'=H/\∀ xs,SqT K H a xs->xs[i]?=some x,fun i H=>∃ xs,SqT K H a xs/\xs.length<=i⟩
def Itr(lo:Int)(n:Nat):It:=⟨fun i _=>i<n,fun i H x H'=>H'=H/\x=.int (lo+i),fun i _=>n<=i⟩
theorem ug{P:Program}{w:World}{K:PySem.W.Frag}{tg:Expr}(a it:Addr):Turn P w K tg (Itl K a) [it] it (fun i h=>h.IsListIter it a i) where
 mem:=by simp
 obj:=fun i h st b hb=>by
  have e:b=it:=by simpa using hb
  subst e
  obtain⟨o,e,c,d⟩:=st
  exact⟨o,e,fun v z=>by rw[d] at z;cases z⟩
 keep:=fun i h h' st k=>st.at fun o e=>k it (by simp) o e
 item:=by
  intro X hP hw hK hc i pins s σ H E I hf st hg
  subst hP hw hK
  obtain⟨xs,x,hq,hx⟩:=hg
  obtain⟨its,rv,p,hz⟩:=I.list hq
  obtain⟨u,hu,ru⟩:=rv.get hx
  obtain⟨f0,f1,f2,f3,f4,f5⟩:=hf it (by simp)
  refine wpAny_pyNext_list_item st p.isList (x:=u) (by simpa using hu) fun h' st' sb=>?_
  have I1:Inv X pins σ H { s with heap:=h' }:=I.turned (t':=s.toks) (fun b o hb e=>(sb.2 b hb).trans e) f0 f1 f3 f4 f5
  obtain⟨o,e,c,d⟩:=id st'
  exact⟨u,rfl,Ey (s:={ s with heap:=h' }) e c d (by decide) ⟨x,H,I1,ru,⟨rfl,fun ys hy=>by rw[I.list_inj hy hq];exact hx⟩,st',fun b hb=>(hf b hb).1⟩⟩
 done:=by
  intro X hP hw hK hc i pins s σ H E I hf st hg
  subst hP hw hK
  obtain⟨xs,hq,hx⟩:=hg
  obtain⟨its,rv,p,hz⟩:=I.list hq
  obtain⟨f0,f1,f2,f3,f4,f5⟩:=hf it (by simp)
  have hl:=rv.length
  exact wpAny_pyNext_list_end (I.ok.hd hc) st p.isList (by simp;omega) fun h' eb=>⟨rfl,I.turned (t':=s.toks) (fun b o hb e=>eb b o hb e) f0 f1 f3 f4 f5⟩
 self:=fun _ _ _ _ _ st h=>wpAny_pyIter_listiter st h
theorem rH{P:Program}{w:World}{K:PySem.W.Frag}{tg:Expr}(a it:Addr):Turn P w K tg (Itt K a) [it] it (fun i h=>h.IsTupleIter it a i) where
 mem:=by simp
 obj:=fun i h st b hb=>by
  have e:b=it:=by simpa using hb
  subst e
  obtain⟨o,e,c,d⟩:=st
  exact⟨o,e,fun v z=>by rw[d] at z;cases z⟩
 keep:=fun i h h' st k=>st.at fun o e=>k it (by simp) o e
 item:=by
  intro X hP hw hK hc i pins s σ H E I hf st hg
  subst hP hw hK
  obtain⟨xs,x,hq,hx⟩:=hg
  obtain⟨its,rv,p,hz⟩:=I.tuple hq
  obtain⟨u,hu,ru⟩:=rv.get hx
  obtain⟨f0,f1,f2,f3,f4,f5⟩:=hf it (by simp)
  refine wpAny_pyNext_tuple_item st (show s.heap.IsTuple a its.toArray from p) (x:=u) (by simpa using hu) fun h' st' sb=>?_
  have I1:Inv X pins σ H { s with heap:=h' }:=I.turned (t':=s.toks) (fun b o hb e=>(sb.2 b hb).trans e) f0 f1 f3 f4 f5
  obtain⟨o,e,c,d⟩:=id st'
  exact⟨u,rfl,Ey (s:={ s with heap:=h' }) e c d (by decide) ⟨x,H,I1,ru,⟨rfl,fun ys hy=>by rw[I.tuple_inj hy hq];exact hx⟩,st',fun b hb=>(hf b hb).1⟩⟩
 done:=by
  intro X hP hw hK hc i pins s σ H E I hf st hg
  subst hP hw hK
  obtain⟨xs,hq,hx⟩:=hg
  obtain⟨its,rv,p,hz⟩:=I.tuple hq
  obtain⟨f0,f1,f2,f3,f4,f5⟩:=hf it (by simp)
  have hl:=rv.length
  exact wpAny_pyNext_tuple_end (I.ok.hd hc) st (show s.heap.IsTuple a its.toArray from p) (by simp;omega) fun h' eb=>⟨rfl,I.turned (t':=s.toks) (fun b o hb e=>eb b o hb e) f0 f1 f3 f4 f5⟩
 self:=fun _ _ _ _ _ st h=>wpAny_pyIter_tupleiter st h
theorem rJ{P:Program}{w:World}{K:PySem.W.Frag}{tg:Expr}(it:Addr)(lo:Int)(n:Nat):Turn P w K tg (Itr lo n) [it] it (fun i h=>IsRangeIter h it (lo+(i:Nat)*1) ((n:Int)-(i:Nat)) 1) where
  mem:=by simp
  obj:=fun i h st b hb=>by
    have e:b=it:=by simpa using hb
    subst e
    exact⟨_,st,fun v z=>by
      have z':Data.fields _=Data.cell v:=z
      cases z'⟩
  keep:=fun i h h' st k=>k it (by simp) _ st
  item:=by
    intro X hP hw hK hc i pins s σ H E I hf st hg
    subst hP hw hK
    obtain⟨f0,f1,f2,f3,f4,f5⟩:=hf it (by simp)
    have W:=Walks.range (prog:=X.prog) (w:=X.w) (I.ok.hd hc) it lo 1 n
    refine W.item i s _ _ hg st fun v h' tk hv st' kk=>?_
    obtain⟨t,rfl⟩:=hv
    have I1:Inv X pins σ H { s with heap:=h',toks:=tk }:=I.turned (fun b o hb e=>kk b o (by simpa using hb) e) f0 f1 f3 f4 f5
    refine⟨_,rfl,Ey (s:={ s with heap:=h',toks:=tk }) (n:="range_iterator") st' rfl rfl (by decide) ⟨.int (lo+i),H,I1,⟨t,?_⟩,⟨rfl,rfl⟩,st',fun b hb=>(hf b hb).1⟩⟩
    rw[Int.mul_one]
  done:=by
    intro X hP hw hK hc i pins s σ H E I hf st hg
    subst hP hw hK
    obtain⟨f0,f1,f2,f3,f4,f5⟩:=hf it (by simp)
    exact wpAny_pyNext_range_end (I.ok.hd hc) st (by have:n<=i:=hg;omega) fun h' eb=>⟨rfl,I.turned (t':=s.toks) (fun b o hb e=>eb b o hb e) f0 f1 f3 f4 f5⟩
  self:=fun _ _ _ _ _ st h=>wpAny_pyIter_rangeiter st h
end L2
namespace L2
open PySem PySem.Spec PyProof.Rows
section
variable {X:Cx} {tg:Expr}
def RV(K:PySem.W.Frag)(tl:TE):TI:=fun σ H R=>tl σ H fun x H1=>∃ a,x=.ref a/\(∃ xs,SqL K H1 a xs)/\R (Itl K a) H1
def XC(K:PySem.W.Frag)(tl:TE):TI:=fun σ H R=>tl σ H fun x H1=>∃ a,x=.ref a/\(∃ xs,SqT K H1 a xs)/\R (Itt K a) H1
theorem Dj{l:Expr}{tl:TE}(hl:PE X l tl):PI X tg l (RV X.K tl):=by
 intro pins s σ H R I h
 refine thn (hl pins s σ H _ I h) fun v s1 ⟨x,H1,I1,r1,q1⟩=>?_
 obtain⟨a,e,⟨xs,hq⟩,q⟩:=q1
 subst e
 cases r1
 obtain⟨its,rv,p,hz⟩:=I1.list hq
 refine wpAny_pyIter_list p.isList ?_
 refine⟨s1.heap.objs.size,[s1.heap.objs.size],_,_,H1,rfl,I1.kept (t':=s1.toks) fun b o e=>Heap.get?_push_of_some _ e,ug a _,⟨_,Heap.get?_push_size _ rfl,rfl,rfl⟩,fun b hb=>?_,q⟩
 have e:b=s1.heap.objs.size:=by simpa using hb
 subst e
 exact I1.fpOk (Nat.le_refl _) (I1.hok.fresh (Nat.le_refl _))
theorem Ja{l:Expr}{tl:TE}(hl:PE X l tl):PI X tg l (XC X.K tl):=by
 intro pins s σ H R I h
 refine thn (hl pins s σ H _ I h) fun v s1 ⟨x,H1,I1,r1,q1⟩=>?_
 obtain⟨a,e,⟨xs,hq⟩,q⟩:=q1
 subst e
 cases r1
 obtain⟨its,rv,p,hz⟩:=I1.tuple hq
 refine wpAny_pyIter_tuple (show s1.heap.IsTuple a its.toArray from p) ?_
 refine⟨s1.heap.objs.size,[s1.heap.objs.size],_,_,H1,rfl,I1.kept (t':=s1.toks) fun b o e=>Heap.get?_push_of_some _ e,rH a _,⟨_,Heap.get?_push_size _ rfl,rfl,rfl⟩,fun b hb=>?_,q⟩
 have e:b=s1.heap.objs.size:=by simpa using hb
 subst e
 exact I1.fpOk (Nat.le_refl _) (I1.hok.fresh (Nat.le_refl _))
theorem qp{pins:List (Addr×Obj)}{σ:St}{H:Hp}{s:Shared}{R:It->Hp->Prop}{E:Value->Shared->Prop}{lo hi:Int}{t u v:Tok}{tk:Nat}(I:Inv X pins σ H s)(h1:-(2^62)<=lo)(h2:lo<2^62)(h3:-(2^62)<=hi)(h4:hi<2^62)
    (q:R (Itr lo (hi-lo).toNat) H):wpAny (model X.prog X.w) X.A (pyIter (.ref s.heap.objs.size)) (PIE X pins σ tg R) E { s with heap:=s.heap.push { cls:=.type "range",data:=.fields #[.int lo t,.int hi u,.int 1 v] },toks:=tk }:=by
  refine wpAny_pyIter_range (IsRange.new ..) (small_one h1 h2 h3 h4) ?_
  have I1:Inv X pins σ H { s with heap:=s.heap.push { cls:=.type "range",data:=.fields #[.int lo t,.int hi u,.int 1 v] },toks:=tk }:=I.kept fun b o e=>Heap.get?_push_of_some _ e
  refine⟨(s.heap.push { cls:=.type "range",data:=.fields #[.int lo t,.int hi u,.int 1 v] }).objs.size,[(s.heap.push { cls:=.type "range",data:=.fields #[.int lo t,.int hi u,.int 1 v] }).objs.size],_,_,H,rfl,
    I1.kept (t':=tk) fun b o e=>Heap.get?_push_of_some _ e,rJ _ lo (hi-lo).toNat,?_,fun b hb=>?_,q⟩
  · have e1:lo+((0:Nat):Int)*1=lo:=by simp
    have e2:(((hi-lo).toNat:Nat):Int)-((0:Nat):Int)=Builtin.Range.rangeSize lo hi 1:=by rw[rangeSize_one];split<;>omega
    show IsRangeIter _ _ (lo+((0:Nat):Int)*1) ((((hi-lo).toNat:Nat):Int)-((0:Nat):Int)) 1
    rw[e1,e2]
    exact Heap.get?_push_size _ rfl
  · have e:b=(s.heap.push { cls:=.type "range",data:=.fields #[.int lo t,.int hi u,.int 1 v] }).objs.size:=by simpa using hb
    subst e
    exact I1.fpOk (Nat.le_refl _) (I1.hok.fresh (Nat.le_refl _))
def RT(ta:TA):TI:=fun σ H R=>ta σ H fun vs H1=>∃ j:Int,vs=[.int j] /\ -(2^62)<=j/\j<2^62/\R (Itr 0 j.toNat) H1
def RQ(ta:TA):TI:=fun σ H R=>ta σ H fun vs H1=>∃ i j:Int,vs=[.int i,.int j]/\(-(2^62)<=i/\i<2^62 /\ -(2^62)<=j/\j<2^62)/\R (Itr i (j-i).toNat) H1
theorem uT{a:Expr}{ta:TA}{p pos:Pos}(hg:Gl X "range")(hm:X.mg "range"=none)(ha:PA X [a] ta)(hs:starEach [a] X.env=[(false,eval a X.env)]:=by rfl):PI X tg (.Call (.Name "range" p) [a] [] pos) (RT ta):=by
  intro pins s σ H R I h
  refine Call_ (eO I hg hm boot_range (PyProof.Rows.callWith_type1 (thn (ha pos pins s σ H _ I h) fun us s1 ⟨vs,H1,I1,r1,q1⟩=>?_) hs rfl))
  obtain⟨j,e,q1,q2,q⟩:=q1
  subst e
  cases r1 with
  | cons r rr =>
    cases rr
    obtain⟨t,rfl⟩:=r
    exact call_range_1 (qp I1 (by omega) (by omega) q1 q2 (by simpa using q))
theorem uR{a b:Expr}{ta:TA}{p pos:Pos}(hg:Gl X "range")(hm:X.mg "range"=none)(ha:PA X [a,b] ta)(hs:starEach [a,b] X.env=[(false,eval a X.env),(false,eval b X.env)]:=by rfl)(hs2:starEach [b] X.env=[(false,eval b X.env)]:=by rfl) :
    PI X tg (.Call (.Name "range" p) [a,b] [] pos) (RQ ta):=by
  intro pins s σ H R I h
  refine Call_ (eO I hg hm boot_range (PyProof.Rows.callWith_type1 (thn (ha pos pins s σ H _ I h) fun us s1 ⟨vs,H1,I1,r1,q1⟩=>?_) (by rw[hs,hs2]) (by rw[hs2];rfl)))
  obtain⟨i,j,e,⟨q1,q2,q3,q4⟩,q⟩:=q1
  subst e
  cases r1 with
  | cons r rr =>
    cases rr with
    | cons r' rr =>
      cases rr
      obtain⟨t,rfl⟩:=r
      obtain⟨t',rfl⟩:=r'
      exact call_range_2 (qp I1 q1 q2 q3 q4 q)
def W7(wi:TI)(g:TG)(tb:TS):TS:=fun D σ H=>wi σ H fun J H1=>∃ W:Nat->Nat->St->Hp->Prop,(∃ m,W 0 m σ H1)/\∀ i m σ H,W i m σ H ->
 (J.stop i H/\D.nx σ H)\/(J.go i H/\∃ N:St->Hp->Prop,(∀ σ' H',N σ' H'->∃ m',m'<m/\W (i+1) m' σ' H')/\∀ x H',J.yld i H x H'->g x σ H' fun σ2 H2=>tb { D with nx:=N,ct:=N,bk:=D.nx } σ2 H2)
def mY(fp:List Addr)(h:Heap):List (Addr×Obj):=fp.filterMap fun b=>(h.get? b).map fun o=>(b,o)
theorem fH{fp:List Addr}{h:Heap}{b:Addr}{o:Obj}(hb:b∈fp)(e:h.get? b=some o):(b,o)∈mY fp h:=List.mem_filterMap.mpr ⟨b,hb,by rw[e];rfl⟩
theorem u5{fp:List Addr}{h:Heap}{p:Addr×Obj}(hp:p∈mY fp h):p.1∈fp/\h.get? p.1=some p.2:=by
  obtain⟨b,hb,e⟩:=List.mem_filterMap.mp hp
  cases q:h.get? b with
  | none=>rw[q] at e;cases e
  | some o =>
    rw[q] at e
    have e':(b,o)=p:=Option.some.inj e
    subst e'
    exact⟨hb,q⟩
theorem Inv.pinned{pins:List (Addr×Obj)}{σ:St}{H:Hp}{s:Shared}{fp:List Addr}(I:Inv X pins σ H s)(hf:∀ b∈fp,tO X pins H b)(ho:∀ b∈fp,∃ o,s.heap.get? b=some o/\∀ v,o.data≠.cell v):Inv X (pins++mY fp s.heap) σ H s :=
 I.pins_of fun p hp=>(List.mem_append.mp hp).elim (fun z=>I.pin p (List.mem_append_right _ z)) fun z=>by
  obtain⟨hb,e⟩:=u5 z
  obtain⟨f0,f1,f2,_⟩:=hf p.1 hb
  obtain⟨o,e',d⟩:=ho p.1 hb
  rw[e] at e';cases e'
  exact⟨e,f0,f1,f2,d⟩
theorem Inv.unpinned{pins pl:List (Addr×Obj)}{σ:St}{H:Hp}{s:Shared}(I:Inv X (pins++pl) σ H s):Inv X pins σ H s:=I.pins_of fun p hp=>I.pin p (List.mem_append_right _ (List.mem_append_left _ hp))
theorem IK{iter:Expr}{body:List Stmt}{wi:TI}{g:TG}{tb:TS}{pos:Pos}(hp:PassesOwn (model X.prog X.w) X.A X.env X.xe)(hc:X.calm=true)(hi:PI X tg iter wi)(hg:PG X tg g)(hb:PSs X body tb)
  (hs:∀ x,foldedSetIterable iter X.env x=pure x:=by intro _;rfl):PS X (.For tg iter body [] pos) (W7 wi g tb):=by
 intro pins s σ H D I h
 refine wpAny_For (thn (hi pins s σ H _ I h) fun v s1 h1=>thn h1 fun itv s2 h2=>?_) hs
 obtain⟨it,fp,tn,J,H2,e,I2,T,st2,f2,W,⟨m0,w0⟩,turn⟩:=h2
 subst e
 have stat:∀ {H':Hp},(∀ b∈fp,H' b=none)->∀ b∈fp,tO X pins H' b:=fun hn b hb=>⟨hn b hb,(f2 b hb).2⟩
 refine codeAny_forLoop_any (fun n s'=>∃ i σ' H',Inv X pins σ' H' s'/\tn i s'.heap/\(∀ b∈fp,H' b=none)/\W i n σ' H') ?_ m0 ⟨0,σ,H2,I2,st2,fun b hb=>(f2 b hb).1,w0⟩
 rintro n s3 ⟨i,σ3,H3,I3,st3,fr3,w3⟩
 rcases turn i n σ3 H3 w3 with⟨stop,qn⟩ | ⟨go,N,hN,step⟩
 ·refine wpAny_passesOwn hp (thn (T.done X rfl rfl rfl hc i pins s3 σ3 H3 X.xe I3 (stat fr3) st3 stop) fun r s4 ⟨hr,I4⟩=>?_)
  subst hr
  exact wpAny_execs_nil ⟨σ3,H3,I4,qn⟩
 ·refine wpAny_passesOwn hp (thn (T.item X rfl rfl rfl hc i pins s3 σ3 H3 X.xe I3 (stat fr3) st3 go) fun r s4 ⟨u,hr,h4⟩=>?_)
  subst hr
  refine wpAny_passesOwn hp (thn h4 fun _ s5 ⟨x,H5,I5,r5,y5,st5,fr5⟩=>?_)
  have I5':=I5.pinned (stat fr5) (T.obj _ _ st5)
  refine wpAny_passesOwn hp (thn (hg _ s5 σ3 H5 x u _ I5' r5 (step x H5 y5)) fun _ s6 ⟨σ6,H6,I6,q6⟩=>?_)
  refine wpAny_passesOwn hp (thn (hb _ s6 σ6 H6 _ I6 q6) fun f s7 q7=>?_)
  have again:∀ {σ7:St} {H7:Hp},Inv X (pins++mY fp s5.heap) σ7 H7 s7->N σ7 H7->∃ m,m<n/\∃ i σ' H',Inv X pins σ' H' s7/\tn i s7.heap/\(∀ b∈fp,H' b=none)/\W i m σ' H':=fun {σ7 H7} I7 n7=>by
   obtain⟨m',hm,w7⟩:=hN σ7 H7 n7
   refine⟨m',hm,i+1,σ7,H7,I7.unpinned,T.keep _ _ _ st5 fun b hb o e=>(I7.pin (b,o) (List.mem_append_right _ (List.mem_append_right _ (fH hb e)))).1,fun b hb=>?_,w7⟩
   obtain⟨o,e,d⟩:=T.obj _ _ st5 b hb
   exact(I7.pin (b,o) (List.mem_append_right _ (List.mem_append_right _ (fH hb e)))).2.1
  cases f with
  | next=>obtain⟨σ7,H7,I7,n7⟩:=q7;exact again I7 n7
  | cont=>obtain⟨σ7,H7,I7,n7⟩:=q7;exact again I7 n7
  | brk=>obtain⟨σ7,H7,I7,q7⟩:=q7;exact⟨σ7,H7,I7.unpinned,q7⟩
  | ret v=>obtain⟨x7,σ7,H7,I7,r7,q7⟩:=q7;exact⟨x7,σ7,H7,I7.unpinned,r7,q7⟩
end
end L2
namespace L2
open PySem PySem.Spec PyProof.Rows
abbrev R2:=V->V->Hp->VK->Prop
def OpR(X:Cx)(f:Value->Value->Sem Value)(r:R2):Prop :=
  ∀ (pins : List (Addr × Obj)) (s : Shared) (σ : St) (H : Hp) (x y : V) (v u : Value) (Q : VK), Inv X pins σ H s -> RelV x v -> RelV y u -> r x y H Q ->
    wpAny (model X.prog X.w) X.A (f v u) (EP X pins σ Q) X.xe s
def UnR(X:Cx)(f:Value->Sem Value)(r:V->Hp->VK->Prop):Prop :=
  ∀ (pins : List (Addr × Obj)) (s : Shared) (σ : St) (H : Hp) (x : V) (v : Value) (Q : VK), Inv X pins σ H s -> RelV x v -> r x H Q ->
    wpAny (model X.prog X.w) X.A (f v) (EP X pins σ Q) X.xe s
def bK(X:Cx)(f:Value)(r:List V->Hp->VK->Prop):Prop :=
  ∀ (pins : List (Addr × Obj)) (s : Shared) (σ : St) (H : Hp) (xs : List V) (us : List Value) (Q : VK), Inv X pins σ H s -> Vals xs us -> r xs H Q ->
    wpAny (model X.prog X.w) X.A (call f us) (EP X pins σ Q) X.xe s
def tOp(r:R2)(ta tb:TE):TE:=fun σ H Q=>ta σ H fun x H1=>tb σ H1 fun y H2=>r x y H2 Q
def tUn(r:V->Hp->VK->Prop)(ta:TE):TE:=fun σ H Q=>ta σ H fun x H1=>r x H1 Q
def rI(C:Int->Int->Prop)(g:Int->Int->V):R2:=fun x y H Q=>∃ i j,x=.int i/\y=.int j/\C i j/\Q (g i j) H
def rI0(g:Int->Int->V):R2:=fun x y H Q=>∃ i j,x=.int i/\y=.int j/\Q (g i j) H
def rU(g:Int->V):V->Hp->VK->Prop:=fun x H Q=>∃ i,x=.int i/\Q (g i) H
section
variable {X:Cx} {a b c:Expr} {ta tb tc:TE} {pos:Pos}
theorem Sv(ha:PE X a ta)(hb:PE X b tb){pins:List (Addr×Obj)}{s:Shared}{σ:St}{H:Hp}{R:V->V->Hp->Prop}(I:Inv X pins σ H s)
  (h:ta σ H fun x H1=>tb σ H1 fun y H2=>R x y H2) {Q:Value->Shared->Prop} {f:Value->Value->Sem Value}
  (hf:∀ v u s2 x y H2,Inv X pins σ H2 s2->RelV x v->RelV y u->R x y H2->wpAny (model X.prog X.w) X.A (f v u) Q X.xe s2) :
  wpAny (model X.prog X.w) X.A (eval a X.env) (fun v s₁=>wpAny (model X.prog X.w) X.A (eval b X.env) (fun u s₂=>wpAny (model X.prog X.w) X.A (f v u) Q X.xe s₂) X.xe s₁) X.xe s:=by
 refine thn (ha pins s σ H _ I h) fun v s1 ⟨x,H1,I1,r1,q1⟩=>?_
 refine thn (hb pins s1 σ H1 _ I1 q1) fun u s2 ⟨y,H2,I2,r2,q2⟩=>?_
 exact hf v u s2 x y H2 I2 r1 r2 q2
theorem ig{op:Operator}{r:R2}(ho:OpR X (binaryOp op) r)(ha:PE X a ta)(hb:PE X b tb):PE X (.BinOp a op b pos) (tOp r ta tb):=by
 intro pins s σ H Q I h
 exact wpAny_BinOp (Sv ha hb I h fun v u s2 x y H2 I2 rx ry q=>ho pins s2 σ H2 x y v u Q I2 rx ry q)
theorem Mq{op:UnaryOp}{r:V->Hp->VK->Prop}(ho:UnR X (unaryOp op) r)(ha:PE X a ta):PE X (.UnaryOp op a pos) (tUn r ta):=by
 intro pins s σ H Q I h
 exact UnaryOp_ (thn (ha pins s σ H _ I h) fun v s1 ⟨x,H1,I1,r1,q1⟩=>ho pins s1 σ H1 x v Q I1 r1 q1)
theorem opI{f:Value->Value->Sem Value}{C:Int->Int->Prop}{g:Int->Int->Int}
  (rule:∀ (i j:Int) (t u:Tok) (s:Shared) (Q:Value->Shared->Prop) (E:Value->Shared->Prop),C i j->Q (.int (g i j) s.toks) { s with toks:=s.toks+1 }->wpAny (model X.prog X.w) X.A (f (.int i t) (.int j u)) Q E s) :
  OpR X f (rI C fun i j=>.int (g i j)):=by
 intro pins s σ H x y v u Q I rx ry h
 obtain⟨i,j,rfl,rfl,hc,q⟩:=h
 obtain⟨t,rfl⟩:=rx
 obtain⟨t',rfl⟩:=ry
 exact rule i j t t' s _ _ hc ⟨.int (g i j),H,I.tok _,⟨_,rfl⟩,q⟩
theorem Tr{f:Value->Value->Sem Value}{g:Int->Int->Int}
  (rule:∀ (i j:Int) (t u:Tok) (s:Shared) (Q:Value->Shared->Prop) (E:Value->Shared->Prop),Q (.int (g i j) s.toks) { s with toks:=s.toks+1 }->wpAny (model X.prog X.w) X.A (f (.int i t) (.int j u)) Q E s) :
  OpR X f (rI0 fun i j=>.int (g i j)):=by
 intro pins s σ H x y v u Q I rx ry h
 obtain⟨i,j,rfl,rfl,q⟩:=h
 obtain⟨t,rfl⟩:=rx
 obtain⟨t',rfl⟩:=ry
 exact rule i j t t' s _ _ ⟨.int (g i j),H,I.tok _,⟨_,rfl⟩,q⟩
theorem KQ{f:Value->Value->Sem Value}{g:Int->Int->Bool}
  (rule:∀ (i j:Int) (t u:Tok) (s:Shared) (Q:Value->Shared->Prop) (E:Value->Shared->Prop),Q (.bool (g i j)) s->wpAny (model X.prog X.w) X.A (f (.int i t) (.int j u)) Q E s) :
  OpR X f (rI0 fun i j=>.bl (g i j)):=by
 intro pins s σ H x y v u Q I rx ry h
 obtain⟨i,j,rfl,rfl,q⟩:=h
 obtain⟨t,rfl⟩:=rx
 obtain⟨t',rfl⟩:=ry
 exact rule i j t t' s _ _ ⟨.bl (g i j),H,I,rfl,q⟩
def X8(i j:Int):Prop:=0<j/\j<1073741824
def SQ(i j:Int):Prop:=(-(2^64)<i/\i<2^64)\/(-(2^64)<j/\j<2^64)
theorem SQ.ok{i j:Int}(h:SQ i j):IntMulOk i j:=by
 rcases h with⟨h1,h2⟩ | ⟨h1,h2⟩
 ·exact .of_left (intBits_le_64 h1 h2)
 ·exact .of_right (intBits_le_64 h1 h2)
theorem Aw:OpR X (binaryOp .Add) (rI0 fun i j=>.int (i+j)):=Tr fun _ _ _ _ _ _ _ q=>add_int q
theorem Jj:OpR X (binaryOp .Sub) (rI0 fun i j=>.int (i-j)):=Tr fun _ _ _ _ _ _ _ q=>sub_int q
theorem DN:OpR X (binaryOp .FloorDiv) (rI X8 fun i j=>.int (i / j)):=opI fun i j _ _ _ _ _ hc q=>by
 have h1:(0:Int)<j:=hc.1
 have h2:j<1073741824:=hc.2
 exact floordiv_int (by omega) (by rw[Int.fdiv_eq_ediv_of_nonneg i (by omega)];exact q) (.inl (PyProof.noPylong_small (by omega)))
theorem Jk:OpR X (binaryOp .Mod) (rI (fun _ j=>0<j) fun i j=>.int (i%j)):=opI fun i j _ _ _ _ _ hc q=>by
 have h1:(0:Int)<j:=hc
 exact mod_int' (by omega) (by rw[Int.fmod_eq_emod_of_nonneg i (by omega)];exact q)
theorem DK:OpR X (binaryOp .Mod) (rI (fun _ j=>j≠0) fun i j=>.int (i.fmod j)):=opI fun _ _ _ _ _ _ _ hc q=>mod_int' hc q
theorem unI{f:Value->Sem Value}{g:Int->Int}
  (rule:∀ (i:Int) (t:Tok) (s:Shared) (Q:Value->Shared->Prop) (E:Value->Shared->Prop),Q (.int (g i) s.toks) { s with toks:=s.toks+1 }->wpAny (model X.prog X.w) X.A (f (.int i t)) Q E s) :
  UnR X f (rU fun i=>.int (g i)):=by
 intro pins s σ H x v Q I rx h
 obtain⟨i,rfl,q⟩:=h
 obtain⟨t,rfl⟩:=rx
 exact rule i t s _ _ ⟨.int (g i),H,I.tok _,⟨_,rfl⟩,q⟩
theorem Hw:UnR X (unaryOp .USub) (rU fun i=>.int (-i)):=unI fun _ _ _ _ _ q=>neg_int q
end
section
variable {X:Cx} {a b c:Expr} {ta tb tc:TE} {pos:Pos}
theorem Bp{pins:List (Addr×Obj)}{σ:St}{H:Hp}{s:Shared}{Q:VK}{k k':Bool}(I:Inv X pins σ H s)(q:Q (.bl k) H)(e:k=k'):EP X pins σ Q (.bool k') s:=by
 subst e
 exact⟨.bl k,H,I,rfl,q⟩
theorem Ms:OpR X (compareOp .Lt) (rI0 fun i j=>.bl (decide (i<j))):=KQ fun _ _ _ _ _ _ _ q=>lt_int q
theorem Mt:OpR X (compareOp .LtE) (rI0 fun i j=>.bl (decide (i<=j))):=KQ fun _ _ _ _ _ _ _ q=>le_int q
theorem Mu:OpR X (compareOp .Gt) (rI0 fun i j=>.bl (decide (j<i))):=KQ fun _ _ _ _ _ _ _ q=>gt_int q
theorem Mv:OpR X (compareOp .GtE) (rI0 fun i j=>.bl (decide (j<=i))):=KQ fun _ _ _ _ _ _ _ q=>ge_int q
theorem Jl:OpR X (compareOp .Is) (fun x y H Q=>y=.non/\Q (.bl (decide (x=.non))) H):=by
 intro pins s σ H x y v u Q I rx ry h
 obtain⟨rfl,q⟩:=h
 cases ry
 refine is_none_gen (Bp I q ?_)
 cases x<;>first
  | (cases rx;rfl)
  | (obtain⟨t,rfl⟩:=rx;rfl)
theorem Dy:OpR X (compareOp .IsNot) (fun x y H Q=>y=.non/\Q (.bl (!decide (x=.non))) H):=by
 intro pins s σ H x y v u Q I rx ry h
 obtain⟨rfl,q⟩:=h
 cases ry
 refine isnot_none_gen (Bp I q ?_)
 cases x<;>first
  | (cases rx;rfl)
  | (obtain⟨t,rfl⟩:=rx;rfl)
theorem Ds{op:CmpOp}{r:R2}(ho:OpR X (compareOp op) r)(ha:PE X a ta)(hb:PE X b tb)(hm:behindInMarks op b=false):PE X (.Compare a [op] [b] pos) (tOp r ta tb):=by
 intro pins s σ H Q I h
 exact wpAny_Compare1 (Sv ha hb I h fun v u s2 x y H2 I2 rx ry q=>ho pins s2 σ H2 x y v u Q I2 rx ry q) hm
def HF(t:TE):TT:=fun σ H Q=>t σ H fun x H'=>∃ k,x=.bl k/\Q k H'
theorem CW{op:CmpOp}{r:R2}(ho:OpR X (compareOp op) r)(ha:PE X a ta)(hb:PE X b tb)(hm:behindInMarks op b=false):PT X (.Compare a [op] [b] pos) (HF (tOp r ta tb)):=by
  intro pins s σ H Q I h
  refine wpAny_isTrue_Compare1 (thn (ha pins s σ H _ I h) fun v s1 ⟨x,H1,I1,r1,q1⟩=>thn (hb pins s1 σ H1 _ I1 q1) fun u s2 ⟨y,H2,I2,r2,q2⟩ =>
    thn (ho pins s2 σ H2 x y v u _ I2 r1 r2 q2) fun c s3 ⟨z,H3,I3,r3,k,e,q3⟩=>?_) hm
  subst e
  cases r3
  exact wpAny_truthy_bool ⟨H3,I3,q3⟩
def uo(r r':R2)(ta tb tc:TE):TE:=fun σ H Q=>ta σ H fun x H1=>tb σ H1 fun y H2=>r x y H2 fun z H3=>∃ k,z=.bl k /\
 (if k=true then tc σ H3 fun w' H4=>r' y w' H4 Q else Q (.bl false) H3)
theorem yE{op op':CmpOp}{r r':R2}(ho:OpR X (compareOp op) r)(ho':OpR X (compareOp op') r')(ha:PE X a ta)(hb:PE X b tb)(hc:PE X c tc)
    (hm:lastMarks [op,op'] [b,c]=false:=by with_unfolding_all rfl):PE X (.Compare a [op,op'] [b,c] pos) (uo r r' ta tb tc):=by
  intro pins s σ H Q I h
  refine Compare_chain (thn (ha pins s σ H _ I h) fun v s1 ⟨x,H1,I1,r1,q1⟩=>chain_link (thn (hb pins s1 σ H1 _ I1 q1) fun u s2 ⟨y,H2,I2,r2,q2⟩ =>
    thn (ho pins s2 σ H2 x y v u _ I2 r1 r2 q2) fun d s3 ⟨z,H3,I3,r3,k,e,q3⟩=>?_)) hm
  subst e
  cases r3
  refine wpAny_truthy_bool ?_
  cases k with
  | false=>exact ite_ff ⟨.bl false,H3,I3,rfl,q3⟩
  | true=>exact ite_tt (chain_last (thn (hc pins s3 σ H3 _ I3 q3) fun w' s4 ⟨z',H4,I4,r4,q4⟩=>ho' pins s4 σ H4 y z' u w' Q I4 r2 r4 q4))
theorem yp{op op':CmpOp}{r r':R2}(ho:OpR X (compareOp op) r)(ho':OpR X (compareOp op') r')(ha:PE X a ta)(hb:PE X b tb)(hc:PE X c tc)
    (hm:lastMarks [op,op'] [b,c]=false:=by with_unfolding_all rfl):PT X (.Compare a [op,op'] [b,c] pos) (HF (uo r r' ta tb tc)):=by
  intro pins s σ H Q I h
  refine isTrue_chain (thn (ha pins s σ H _ I h) fun v s1 ⟨x,H1,I1,r1,q1⟩=>test_link (thn (hb pins s1 σ H1 _ I1 q1) fun u s2 ⟨y,H2,I2,r2,q2⟩ =>
    thn (ho pins s2 σ H2 x y v u _ I2 r1 r2 q2) fun d s3 ⟨z,H3,I3,r3,k,e,q3⟩=>?_)) hm
  subst e
  cases r3
  refine wpAny_truthy_bool ?_
  cases k with
  | false =>
    obtain⟨k',e',q'⟩:=q3
    cases e'
    exact ite_ff ⟨H3,I3,q'⟩
  | true =>
    refine ite_tt (test_last (thn (hc pins s3 σ H3 _ I3 q3) fun w' s4 ⟨z',H4,I4,r4,q4⟩=>thn (ho' pins s4 σ H4 y z' u w' _ I4 r2 r4 q4) fun d' s5 ⟨z2,H5,I5,r5,k2,e2,q5⟩=>?_))
    subst e2
    cases r5
    exact wpAny_truthy_bool ⟨H5,I5,q5⟩
theorem qI:(sizeLine:Nat)<2^63:=by rw[sizeLine_eq];decide
theorem vals1{x:V}{us:List Value}(r:Vals [x] us):∃ u,us=[u]/\RelV x u:=by
 cases r with
 | cons r1 r2=>cases r2;exact⟨_,rfl,r1⟩
theorem vals2{x y:V}{us:List Value}(r:Vals [x,y] us):∃ u w',us=[u,w']/\RelV x u/\RelV y w':=by
  cases r with
  | cons r1 r2 =>
    cases r2 with
    | cons r3 r4=>cases r4;exact⟨_,_,rfl,r1,r3⟩
theorem zX:bK X (.builtin "abs") (fun xs H Q=>∃ i,xs=[.int i]/\Q (.int (if i<0 then -i else i)) H):=by
 intro pins s σ H xs us Q I r h
 obtain⟨i,rfl,q⟩:=h
 obtain⟨u,rfl,t,rfl⟩:=vals1 r
 exact call_abs_int fun u tk=>⟨.int (if i<0 then -i else i),H,I.tok _,⟨_,rfl⟩,q⟩
theorem wM(hc:X.calm=true):bK X (.builtin "max") (fun xs H Q=>∃ i j,xs=[.int i,.int j]/\Q (.int (if j>i then j else i)) H):=by
 intro pins s σ H xs us Q I r h
 obtain⟨i,j,rfl,q⟩:=h
 obtain⟨u,w',rfl,⟨t,rfl⟩,⟨t',rfl⟩⟩:=vals2 r
 refine max_two_ints (I.ok.hd hc) fun h' tk k=>⟨_,H,I.kept k,?_,q⟩
 by_cases hj:j>i
 ·rw[if_pos hj,if_pos hj];exact⟨_,rfl⟩
 ·rw[if_neg hj,if_neg hj];exact⟨_,rfl⟩
theorem wJ(hc:X.calm=true):bK X (.builtin "min") (fun xs H Q=>∃ i j,xs=[.int i,.int j]/\Q (.int (if j<i then j else i)) H):=by
 intro pins s σ H xs us Q I r h
 obtain⟨i,j,rfl,q⟩:=h
 obtain⟨u,w',rfl,⟨t,rfl⟩,⟨t',rfl⟩⟩:=vals2 r
 refine min_two_ints (I.ok.hd hc) fun h' tk k=>⟨_,H,I.kept k,?_,q⟩
 by_cases hj:j<i
 ·rw[if_pos hj,if_pos hj];exact⟨_,rfl⟩
 ·rw[if_neg hj,if_neg hj];exact⟨_,rfl⟩
theorem nR:bK X (.type "int") (fun xs H Q=>(∃ i,xs=[.int i]/\Q (.int i) H)\/∃ k,xs=[.bl k]/\Q (.int (if k then 1 else 0)) H):=by
 intro pins s σ H xs us Q I r h
 rcases h with⟨i,rfl,q⟩ | ⟨k,rfl,q⟩
 ·obtain⟨u,rfl,t,rfl⟩:=vals1 r
  exact call_int_int ⟨.int i,H,I,⟨_,rfl⟩,q⟩
 ·obtain⟨u,rfl,r1⟩:=vals1 r
  cases r1
  exact call_int_bool ⟨.int (if k then 1 else 0),H,I.tok _,⟨_,rfl⟩,q⟩
end
end L2
namespace L2
open PySem PySem.Spec PyProof.Rows
section
variable {prog:Program} {w:World} {A:Around} {E:Value->Shared->Prop} {s:Shared} {K:PySem.W.Frag} {x dx C f:Addr} {mA:Str->Option Value} {name:Str} {v:Value}
end
theorem xO.some_of{v:V}{o:Option Value}(r:xO (some v) o):∃ u,o=some u/\RelV v u:=by
 cases o with
 | none=>exact(show False from r).elim
 | some u=>exact⟨u,rfl,r⟩
section
variable {P:Program} {w:World} {H H':Hp} {h h':Heap} {a C dx:Addr} {fs fs':List (Str×V)}
end
section
variable {X:Cx} {pins:List (Addr×Obj)} {σ:St} {H:Hp} {s:Shared} {a C dx:Addr} {fs:List (Str×V)} {f:Str} {v:V} {A:Around} {E:Value->Shared->Prop}
end
section
variable {X:Cx} {o e value:Expr} {f:Str} {pos pos' tpos:Pos} {ta tv:TE}
end
section
variable {X:Cx} {pins:List (Addr×Obj)} {σ:St} {H:Hp} {s:Shared} {A:Around} {E:Value->Shared->Prop} {Q:Value->Shared->Prop} {c:Value} {b:Bool}
end
end L2
namespace L2
open PySem PySem.Spec PyProof.Rows
structure Room (k:Nat) (A:Around):Prop where
 hd:A.handled=none
 dp:A.depth+3*k+5<recursionLimit
 un:A.units+16*k+200<cLine
theorem Room.deeper{k:Nat}{A:Around}(r:Room (k+1) A)(env:Env):Room k (A.deeper env) :=
 ⟨r.hd,by have:=r.dp;show A.depth+1+3*k+5<_;omega,by have:=r.un;show A.units+3+16*k+200<_;omega⟩
theorem Room.depth{k:Nat}{A:Around}(r:Room k A):A.depth<recursionLimit:=by have:=r.dp;omega
theorem Room.units{k:Nat}{A:Around}(r:Room k A):A.units+64<cLine:=by have:=r.un;omega
def Tg:TA:=fun _ H Q=>Q [] H
def HN(ta:TE)(tr:TA):TA:=fun σ H Q=>ta σ H fun x H1=>tr σ H1 fun xs H2=>Q (x::xs) H2
section
variable {X:Cx} {e:Expr} {es:List Expr} {te:TE} {t:TA} {pos:Pos}
theorem cR:PA X [] Tg:=fun _ _ _ _ H Q I h=>Calls.spliced_nil ⟨[],H,I,.nil,h⟩
theorem bx(ha:PE X e te)(hr:PA X es t)(hs:starEach (e::es) X.env=(false,eval e X.env)::starEach es X.env:=by rfl):PA X (e::es) (HN te t):=by
 intro pos pins s σ H Q I h
 rw[hs]
 show wpAny _ _ (spliced ((false,eval e X.env)::backTo pos (starEach es X.env))) _ _ s
 refine Calls.spliced_cons (thn (ha pins s σ H _ I h) fun u s1 ⟨x,H1,I1,r1,q1⟩=>?_)
 exact thn (hr pos pins s1 σ H1 _ I1 q1) fun us s2 ⟨xs,H2,I2,r2,q2⟩=>⟨x::xs,H2,I2,.cons r1 r2,q2⟩
def WY(t:TA):TE:=fun σ H Q=>t σ H fun xs H1=>xs.length<=sizeLine/\∀ p,H1 p=none->Q (.ref p) (upd H1 p (.tup xs))
def W5(t:TA):TE:=fun σ H Q=>t σ H fun xs H1=>xs.length<=sizeLine/\∀ p,H1 p=none->Q (.ref p) (upd H1 p (.lst xs))
theorem Jc{x1}(h:PA X es t):PE X (.Tuple es x1 pos) (WY t):=by
 intro pins s σ H Q I hq
 refine wpAny_Tuple_spliced (thn (h pos pins s σ H _ I hq) fun us s1 ⟨xs,H1,I1,r,z,q⟩=>⟨by rw[<- r.length];exact z,?_⟩)
 have hf:H1 s1.heap.objs.size=none:=I1.hok.fresh (Nat.le_refl _)
 refine⟨.ref s1.heap.objs.size,upd H1 s1.heap.objs.size (.tup xs),I1.laid (t':=s1.toks) (fun b u e=>Heap.get?_push_of_some _ e) (Nat.le_refl _) ?_,rfl,q _ hf⟩
 exact⟨z,us,r,⟨_,Heap.get?_push_size _ rfl,rfl,_,rfl⟩⟩
theorem uV(h:PA X es t):PE X (.List es pos) (W5 t):=by
 intro pins s σ H Q I hq
 refine wpAny_List_spliced (thn (h pos pins s σ H _ I hq) fun us s1 ⟨xs,H1,I1,r,z,q⟩=>⟨by rw[<- r.length];exact z,?_⟩)
 have hf:H1 s1.heap.objs.size=none:=I1.hok.fresh (Nat.le_refl _)
 refine⟨.ref s1.heap.objs.size,upd H1 s1.heap.objs.size (.lst xs),I1.laid (t':=s1.toks) (fun b u e=>Heap.get?_push_of_some _ e) (Nat.le_refl _) ?_,rfl,q _ hf⟩
 exact⟨z,us,0,r,Heap.get?_push_size _ rfl⟩
end
abbrev Sp:=List V->Hp->VK->XK->Prop
abbrev CXT:=List Env->Hp->Shared->XK->Value->Shared->Prop
structure Env0 (P:Program) (w:World) (K:PySem.W.Frag) (mg:Str->Option Value) (base:Heap) (A:Around) (outer:List Env) (s:Shared) (H:Hp):Prop where
 frames:A.frames=some outer
 mod:Mod K mg base
 bs:∀ b o,base.get? b=some o->s.heap.get? b=some o/\H b=none
 bsz:base.objs.size<=s.heap.objs.size
 funs:s.heap.FunFrames base outer
 frf:∀ b∈frs outer,H b=none
 hok:HOk P w H s.heap
 bare:AllBare s.gens
def CE(outer:List Env)(P:Program)(w:World)(H:Hp)(s:Shared)(Q:VK)(u:Value)(s':Shared):Prop :=
 ∃ v H',s'.os=s.os/\AllBare s'.gens/\Un (frs outer) [] H H' s.heap s'.heap/\HOk P w H' s'.heap/\RelV v u/\Q v H'
def CR(CX:CXT)(outer:List Env)(P:Program)(w:World)(H:Hp)(s:Shared)(Q:VK)(E:XK)(r:Result)(s':Shared):Prop :=
 match r with
 | .ok (.ret u)=>CE outer P w H s Q u s'
 | .ok _=>False
 | .error e=>CX outer H s E e s'
structure FnOk (P:Program) (w:World) (K:PySem.W.Frag) (mg:Str->Option Value) (base:Heap) (CX:CXT) (k:Nat) (f:Addr) (fd:FuncData) (ps:List Str) (sp:Sp):Prop where
 len:∀ vs H Q E,sp vs H Q E->vs.length=ps.length
 run:∀ (A:Around) (outer:List Env) (s:Shared) (H:Hp) (args:Args) (us:List Value) (vs:List V) (Q:VK) (E:XK),Room k A->Env0 P w K mg base A outer s H->BindsTo s fd args (ps.zip us)->Vals vs us->sp vs H Q E ->
  codeAny (model P w) A (.call (.ref f) args) (CR CX outer P w H s Q E) s
theorem FnOk.imp{P:Program}{w:World}{K:PySem.W.Frag}{mg:Str->Option Value}{base:Heap}{CX:CXT}{k:Nat}{f:Addr}{fd:FuncData}{ps:List Str}{sp sp':Sp}(F:FnOk P w K mg base CX k f fd ps sp)
  (h:∀ vs H Q E,sp' vs H Q E->sp vs H Q E):FnOk P w K mg base CX k f fd ps sp' :=
 ⟨fun vs H Q E q=>F.len vs H Q E (h _ _ _ _ q),fun A outer s H args us vs Q E hr he hb hv hs=>F.run A outer s H args us vs Q E hr he hb hv (h _ _ _ _ hs)⟩
section
variable {X:Cx} {pins:List (Addr×Obj)} {σ:St} {H:Hp} {s s':Shared}
theorem Inv.env0(I:Inv X pins σ H s):Env0 X.prog X.w X.K X.mg X.base X.A X.stack s H :=
 ⟨I.ok.frames,I.ok.mod,I.bs,Nat.le_trans I.ok.bsz I.sz,I.stack,I.stkFree,I.hok,I.bare⟩
theorem Inv.after{Q:VK}{u:Value}(I:Inv X pins σ H s)(h:CE X.stack X.prog X.w H s Q u s'):EP X pins σ Q u s':=by
 obtain⟨v,H',os,bare,un,hok,r,q⟩:=h
 obtain⟨hh,g,d,t,os'⟩:=s'
 obtain rfl:os'=s.os:=os
 exact⟨v,H',I.call (h':=hh) (g':=g) (d':=d) (t':=t) (ch:=[]) un hok bare (fun b z=>absurd z (by simp)),r,q⟩
end
def Li(sp:Sp)(dvs:List V)(E:XK)(t:TA):TE:=fun σ H Q=>t σ H fun vs H1=>sp (vs++dvs) H1 Q E
def Binds(K:PySem.W.Frag)(fd:FuncData)(ps:List Str)(ds:List Value):Prop :=
 ∀ (s:Shared) (us:List Value),K.In s.heap->(us++ds).length=ps.length->BindsTo s fd ⟨us,[]⟩ (ps.zip (us++ds))
theorem Binds.all{K:PySem.W.Frag}{fd:FuncData}{ps:List Str}(h:∀ us:List Value,us.length=ps.length->bindArgs fd ⟨us,[]⟩=pure (ps.zip us)):Binds K fd ps []:=fun s us _ hl=>by
 rw[List.append_nil] at hl ⊢
 exact .of_eq (h us hl)
def Passes(CX:CXT)(X:Cx)(E:XK):Prop:=∀ (pins:List (Addr×Obj)) (σ:St) (H:Hp) (s:Shared) (e:Value) (s':Shared),Inv X pins σ H s->CX X.stack H s E e s'->X.xe e s'
section
variable {X:Cx} {CX:CXT} {k:Nat} {f C:Addr} {fd:FuncData} {ps:List Str} {sp:Sp} {dvs:List V} {ds:List Value} {E:XK} {x m:Str} {p pos apos:Pos} {e o:Expr} {es:List Expr} {ta:TE} {t:TA}
theorem Af{pins:List (Addr×Obj)}{σ:St}{H:Hp}{s:Shared}{Q:VK}{us:List Value}{vs:List V}(F:FnOk X.prog X.w X.K X.mg X.base CX k f fd ps sp)(hr:Room k X.A)(hb:Binds X.K fd ps ds)(hd:Vals dvs ds)(hx:Passes CX X E)
    (I:Inv X pins σ H s) (r:Vals vs us) (h:sp (vs++dvs) H Q E):wpAny (model X.prog X.w) X.A (call (.ref f) us) (EP X pins σ Q) X.xe s:=by
  have r2:Vals (vs++dvs) (us++ds):=r.append hd
  have hl:(us++ds).length=ps.length:=by rw[<- r2.length];exact F.len _ _ _ _ h
  refine wpAny_call (codeAny_mono (F.run X.A X.stack s H ⟨us,[]⟩ (us++ds) (vs++dvs) Q E hr I.env0 (hb s us I.kIn hl) r2 h) fun r s' hq=>?_)
  cases r with
  | error e=>exact hx pins σ H s e s' I hq
  | ok fl =>
    cases fl with
    | ret u=>exact I.after hq
    | next=>exact False.elim hq
    | brk=>exact False.elim hq
    | cont=>exact False.elim hq
theorem Dt(F:FnOk X.prog X.w X.K X.mg X.base CX k f fd ps sp)(hr:Room k X.A)(hg:Gl X x)(hm:X.mg x=some (.ref f))(hk:PySem.W.keepIn X.K (.ref f)=true)(hb:Binds X.K fd ps ds)(hd:Vals dvs ds)(hx:Passes CX X E)
  (ha:PA X (e::es) t) (hdb:(x==("__debug__":Str))=false:=by decide) (he:starEach (e::es) X.env=(false,eval e X.env)::starEach es X.env:=by rfl) (hpl:(backTo pos (starEach es X.env)).any (·.1)=false:=by rfl) :
  PE X (.Call (.Name x p) (e::es) [] pos) (Li sp dvs E t):=by
 intro pins s σ H Q I h
 refine wpAny_Call_Name_kw (jh I hg hm ?_ hdb)
 refine PySem.W.callWith_K (h₀:=X.base) I.ok.mod.kin hk (thn (ha pos pins s σ H _ I h) fun us s1 ⟨vs,H1,I1,r,q⟩=>⟨I1.kIn,?_⟩) he hpl
 exact Af F hr hb hd hx I1 r q
end
section
variable {X:Cx} {CX:CXT} {k:Nat} {f C:Addr} {fd:FuncData} {ps ks:List Str} {sp:Sp} {E:XK} {x m:Str} {p pos apos kpos:Pos} {e o:Expr} {es:List Expr} {kws:List Keyword} {te ta:TE} {t tk:TA} {nm:Option Str}
variable {g:List Value->List Value->List Value} {gV:List V->List V->List V}
end
structure FnScope (N P:List Str) (sc:Scope):Prop where
 kind:sc.kind=.function
 co:sc.isCoroutine=false
 gen:sc.isGenerator=false
 nd:N.Nodup
 pre:N.take P.length=P
 par:∀ x∈P,sc.names.lookup x=some .local\/sc.names.lookup x=some .cell
 nofree:∀ y∈sc.names,y.2≠.free
theorem nU{kindOf:Str->Option NameKind}{x:Str}:∀ {binds:List (Str×Value)} {m:Str->Option Value},(∀ v,(x,v)∉binds)->bindL kindOf binds m x=m x
  | [],_,_=>rfl
  | (n, v) :: r, m, h => by
    unfold bindL
    rw[nU fun w hw=>h w (List.mem_cons_of_mem _ hw)]
    split
    · have:x≠n:=by rintro rfl;exact h v List.mem_cons_self
      simp[this]
    · rfl
theorem nY{kindOf:Str->Option NameKind}{x:Str}:∀ {binds:List (Str×Value)} {m:Str->Option Value},(∀ v,(x,v)∉binds)->bindC kindOf binds m x=m x
  | [],_,_=>rfl
  | (n, v) :: r, m, h => by
    unfold bindC
    rw[nY fun w hw=>h w (List.mem_cons_of_mem _ hw)]
    split
    · rfl
    · have:x≠n:=by rintro rfl;exact h v List.mem_cons_self
      simp[this]
theorem nW{kindOf:Str->Option NameKind}{x:Str}{v:Value}:∀ {P:List Str} {vs:List Value} {i:Nat} {m:Str->Option Value},P.Nodup->P[i]?=some x->vs[i]?=some v->kindOf x=some .local ->
    bindL kindOf (P.zip vs) m x=some v
  | [],_,_,_,_,h,_,_=>by simp at h
  | _::_,[],_,_,_,_,h,_=>by simp at h
  | p :: P, w :: vs, 0, m, nd, h1, h2, hk => by
    simp at h1 h2;subst h1;subst h2
    show bindL kindOf ((p,w)::P.zip vs) m p=_
    unfold bindL
    rw[nU fun v hv=>(List.nodup_cons.mp nd).1 (List.of_mem_zip hv).1,if_pos hk]
    simp
  | p :: P, w :: vs, i + 1, m, nd, h1, h2, hk => by
    show bindL kindOf ((p,w)::P.zip vs) m x=_
    unfold bindL
    exact nW (i:=i) (List.nodup_cons.mp nd).2 (by simpa using h1) (by simpa using h2) hk
theorem nZ{kindOf:Str->Option NameKind}{x:Str}{v:Value}:∀ {P:List Str} {vs:List Value} {i:Nat} {m:Str->Option Value},P.Nodup->P[i]?=some x->vs[i]?=some v->kindOf x≠some .local ->
    bindC kindOf (P.zip vs) m x=some v
  | [],_,_,_,_,h,_,_=>by simp at h
  | _::_,[],_,_,_,_,h,_=>by simp at h
  | p :: P, w :: vs, 0, m, nd, h1, h2, hk => by
    simp at h1 h2;subst h1;subst h2
    show bindC kindOf ((p,w)::P.zip vs) m p=_
    unfold bindC
    rw[nY fun v hv=>(List.nodup_cons.mp nd).1 (List.of_mem_zip hv).1,if_neg hk]
    simp
  | p :: P, w :: vs, i + 1, m, nd, h1, h2, hk => by
    show bindC kindOf ((p,w)::P.zip vs) m x=_
    unfold bindC
    exact nZ (i:=i) (List.nodup_cons.mp nd).2 (by simpa using h1) (by simpa using h2) hk
def start(N:List Str)(vs:List V):St:=vs.map some++List.replicate (N.length-vs.length) none
def iB(CX:CXT)(P:Program)(w:World)(K:PySem.W.Frag)(mg:Str->Option Value)(base:Heap)(N:List Str)(qual:Str)(scope:Scope)(f:Addr)(cd:Value)(A:Around)(outer:List Env)(s:Shared)(H:Hp)(E:XK):Cx where
 prog:=P
 w:=w
 K:=K
 mg:=mg
 base:=base
 A:=A.deeper (envOfC qual scope s.heap.objs.size f cd)
 N:=N
 s₀:=s
 H₀:=H
 env:=envOfC qual scope s.heap.objs.size f cd
 outer:=outer
 stack:=envOfC qual scope s.heap.objs.size f cd::outer
 ex:=[]
 calm:=true
 fn:=fun _=>true
 pn:=[]
 xe:=fun e s'=>wpAny (model P w) (A.deeper (envOfC qual scope s.heap.objs.size f cd)) (leaving (envOfC qual scope s.heap.objs.size f cd) e) (fun _ s''=>CX outer H s E e s'') (fun e' s''=>CX outer H s E e' s'') s'
theorem qZ{sc:Scope}{n:Nat}{x:Str}(h:sc.names.lookup x=some .cell):∃ c,(cellsFrom n sc.names []).lookup x=some c:=by
 have q:=PySem.W.cellsFrom_some sc.names n [] (.inl h)
 exact Option.isSome_iff_exists.mp q
theorem vJ{CX:CXT}{P:Program}{w:World}{K:PySem.W.Frag}{mg:Str->Option Value}{base:Heap}{N ps:List Str}{qual:Str}{scope:Scope}{f:Addr}{cd:Value}{A:Around}{outer:List Env}{s s1:Shared}{H:Hp}{E:XK}{us:List Value}{vs:List V}
    (S:FnScope N ps scope) (hd:A.handled=none) (e0:Env0 P w K mg base A outer s H) (hl:vs.length=ps.length) (r:Vals vs us)
    (x:InCallC s s.heap.objs.size (bindL (envOfC qual scope s.heap.objs.size f cd).kindOf (ps.zip us) fun _=>none) (cellsFrom (s.heap.objs.size+1) scope.names []) (bindC (envOfC qual scope s.heap.objs.size f cd).kindOf (ps.zip us) fun _=>none) s1) :
    Inv (iB CX P w K mg base N qual scope f cd A outer s H E) [] (start N vs) H s1:=by
  have hpl:ps.length<=N.length:=by have:=congrArg List.length S.pre;rw[List.length_take] at this;omega
  obtain⟨h1,tk,rfl,hk⟩:=x.done
  have noA:∀ b:Addr,b∉(iB CX P w K mg base N qual scope f cd A outer s H E).ex:=fun b z=>absurd (show b∈([]:List Addr) from z) (by simp)
  refine⟨⟨e0.mod,S.kind,rfl,rfl,Nat.le_refl _,fun y z c h1 h2=>?_,fun y hy=>?_,fun y c _ h=>?_,fun _=>hd,Around.frames_deeper e0.frames,.inr ⟨rfl,rfl⟩,fun b z=>absurd z (noA b),e0.bs,e0.bsz,fun b _ _=>noA b,fun b z=>absurd z (noA b),e0.funs,e0.frf⟩,
    rfl,e0.bare,Un.kept hk,⟨_,x.toInCall.ns,fun i y v h1 h2 h3=>?_⟩,fun y c h=>⟨_,x.cell y c h⟩,e0.hok.fresh (Nat.le_refl _),fun y c h=>?_,fun p hp=>absurd (show p∈([]:List (Addr×Obj)) from hp) (by simp),e0.hok.kept hk,?_⟩
  · exact name_of_addr x.apart (PySem.mem_of_lookup h1) (PySem.mem_of_lookup h2)
  · have hy:scope.names.lookup y=some .cell\/scope.names.lookup y=some .free:=hy
    rcases hy with hy | hy
    · exact qZ hy
    · exact absurd rfl (S.nofree _ (PySem.mem_of_lookup hy))
  · exact Nat.le_of_lt (x.above y c (PySem.mem_of_lookup h))
  · have hi:i<vs.length:=by
      unfold start at h2
      by_cases hi:i<vs.length
      · exact hi
      · rw[List.getElem?_append_right (by simpa using hi)] at h2
        rw[List.getElem?_replicate] at h2
        split at h2<;>cases h2
    have ha:vs[i]?=some v:=by
      unfold start at h2
      rw[List.getElem?_append_left (by simpa using hi),List.getElem?_map] at h2
      cases e:vs[i]? with
      | none=>rw[e] at h2;cases h2
      | some a=>rw[e] at h2;cases h2;rfl
    obtain⟨u,hu,rv⟩:=r.get ha
    have hp:ps[i]?=some y:=by
      rw[<- S.pre,List.getElem?_take_of_lt (by omega)];exact h1
    have ndP:ps.Nodup:=by rw[<- S.pre];exact S.nd.sublist (List.take_sublist _ _)
    refine⟨u,rv,?_⟩
    rcases S.par y (List.mem_of_getElem? hp) with k | k
    · exact .inl ⟨k,nW ndP hp hu k⟩
    · obtain⟨c,e⟩:=qZ (n:=s.heap.objs.size+1) k
      refine .inr ⟨.inl k,c,e,?_⟩
      have q:=x.cell y c e
      rw[nZ ndP hp hu (by show scope.names.lookup y≠_;rw[k];decide)] at q
      exact q
  · exact e0.hok.fresh (Nat.le_of_lt (x.above y c (PySem.mem_of_lookup h)))
  · unfold start
    show _=N.length
    rw[List.length_append,List.length_map,List.length_replicate]
    omega
theorem Sg{CX:CXT}{P:Program}{w:World}{K:PySem.W.Frag}{mg:Str->Option Value}{base:Heap}{k:Nat}{f:Addr}{name qual:Str}{params:Arguments}{body:List Stmt}{scope:Scope}{dV kV doc pm cdv ct oc:Value}{an od:Option Addr}
    {osl:Array (Option Value)} {N ps:List Str} {sp:Sp} (lk:K.lookup f=some ⟨oc,od,.func (PySem.W.fnOf name qual params body scope dV kV doc pm an cdv ct),osl⟩) (hcd:PySem.W.codeIn K cdv qual=true) (S:FnScope N ps scope)
    (len:∀ vs H Q E,sp vs H Q E->vs.length=ps.length)
    (hbody:∀ (A:Around) (outer:List Env) (s:Shared) (H:Hp) (vs:List V) (Q:VK) (E:XK),Room k (A.deeper (envOfC qual scope s.heap.objs.size f cdv))->sp vs H Q E ->
      ∃ t,PSs (iB CX P w K mg base N qual scope f cdv A outer s H E) body t/\t { nx:=fun _ H'=>Q .non H',rt:=Q } (start N vs) H) :
    FnOk P w K mg base CX (k+1) f (PySem.W.fnOf name qual params body scope dV kV doc pm an cdv ct) ps sp:=by
  refine⟨len,fun A outer s H args us vs Q E hr e0 hb r hsp=>?_⟩
  have hl:=len _ _ _ _ hsp
  have KX:K.In s.heap:=e0.mod.kin.keeps fun b o e=>(e0.bs b o e).1
  have lim:s.heap.NoLimit:=e0.mod.nolimit.keeps fun b o e=>(e0.bs b o e).1
  have hkind:∀ y∈ps.zip us,scope.names.lookup y.1=some .local\/(scope.names.lookup y.1=some .cell/\((cellsFrom (s.heap.objs.size+1) scope.names []).lookup y.1).isSome=true):=fun⟨n,v⟩ hy=>by
    rcases S.par n (List.of_mem_zip hy).1 with q | q
    · exact .inl q
    · exact .inr ⟨q,PySem.W.cellsFrom_some _ _ _ (.inl q)⟩
  refine codeAny_call_function hr.depth (KX _ _ lk) rfl S.co S.gen rfl (PySem.W.codeRec_of KX hcd) (hb _ _ _ _ ?_)
  refine wpAny_newFunctionEnv_cells S.kind hkind fun env he s1 x=>?_
  subst he
  refine⟨lim.keeps x.toInCall.keep,codeAny_func ?_⟩
  obtain⟨t,ht,hq⟩:=hbody A outer s H vs Q E (hr.deeper _) hsp
  have I:Inv (iB CX P w K mg base N qual scope f cdv A outer s H E) [] (start N vs) H s1:=vJ S hr.hd e0 hl r x
  refine wpAny_mono (ht [] s1 (start N vs) H _ I hq) (fun fl s' hs=>?_) fun e s' hs=>hs
  have fin:∀ {σ':St} {H':Hp} {v:V} {u:Value},Inv (iB CX P w K mg base N qual scope f cdv A outer s H E) [] σ' H' s'->RelV v u->Q v H'->CE outer P w H s Q u s' :=
    fun {σ' H' v u} J rv q=>⟨v,H',J.os,J.bare,J.base,J.hok,rv,q⟩
  cases fl with
  | ret u =>
    obtain⟨v,σ',H',J,rv,q⟩:=hs
    exact fin J rv q
  | next =>
    obtain⟨σ',H',J,q⟩:=hs
    exact fin (v:=V.non) (u:=Value.none) J rfl q
  | brk =>
    obtain⟨_,_,_,q⟩:=hs
    exact False.elim q
  | cont =>
    obtain⟨_,_,_,q⟩:=hs
    exact False.elim q
end L2
namespace L2
open PySem PySem.Spec PyProof.Rows
section
variable {X:Cx} {x:Str} {p pos:Pos} {e:Expr} {es:List Expr} {t:TA} {id T:String} {r:List V->Hp->VK->Prop}
def tCB(r:List V->Hp->VK->Prop)(t:TA):TE:=fun σ H Q=>t σ H fun vs H1=>r vs H1 Q
theorem cX(hc:bK X (.builtin id) r)(hg:Gl X x)(hm:X.mg x=none)(hv:bootBuiltins x=some (.builtin id))(ha:PA X (e::es) t)(hn:x≠"__name__":=by decide)(hdb:(x==("__debug__":Str))=false:=by decide)
  (he:starEach (e::es) X.env=(false,eval e X.env)::starEach es X.env:=by rfl) (hpl:(backTo pos (starEach es X.env)).any (·.1)=false:=by rfl):PE X (.Call (.Name x p) (e::es) [] pos) (tCB r t):=by
 intro pins s σ H Q I h
 refine wpAny_Call_Name_kw (eO I hg hm hv ?_ hn hdb)
 exact PyProof.Rows.callWith_builtin1 (thn (ha pos pins s σ H _ I h) fun us s1 ⟨vs,H1,I1,r1,q1⟩=>hc pins s1 σ H1 vs us Q I1 r1 q1) he hpl
theorem gw(hc:bK X (.type T) r)(hg:Gl X x)(hm:X.mg x=none)(hv:bootBuiltins x=some (.type T))(ha:PA X (e::es) t)(hn:x≠"__name__":=by decide)(hdb:(x==("__debug__":Str))=false:=by decide)
  (he:starEach (e::es) X.env=(false,eval e X.env)::starEach es X.env:=by rfl) (hpl:(backTo pos (starEach es X.env)).any (·.1)=false:=by rfl):PE X (.Call (.Name x p) (e::es) [] pos) (tCB r t):=by
 intro pins s σ H Q I h
 refine wpAny_Call_Name_kw (eO I hg hm hv ?_ hn hdb)
 exact PyProof.Rows.callWith_type1 (thn (ha pos pins s σ H _ I h) fun us s1 ⟨vs,H1,I1,r1,q1⟩=>hc pins s1 σ H1 vs us Q I1 r1 q1) he hpl
end
end L2
namespace HT
open PySem PyProof.Rows
section
open PySem.SeqAt
open PySem.AutoSeq1 (wpAny_loadPart')
open PySem.MeetsSeq PySem.MeetsSeq2 PySem.MeetsSeq3
end
section
variable {prog:Program} {w:World} {A:Around} {E:Value->Shared->Prop} {s:Shared}
theorem Gs{t b:Addr}{vs ws:List Value}{Q:Value->Shared->Prop}(ht:IsTup s.heap t vs.toArray)(hb:IsTup s.heap b ws.toArray)(hv:vs≠[])
  (h1:ws=[]->Q (.ref t) s) (h2:ws≠[]->Q (.ref s.heap.objs.size) { s with heap:=s.heap.push { cls:=.type "tuple",data:=.seq (vs++ws).toArray } })
  (hsz:vs.length+ws.length<=sizeLine):wpAny (model prog w) A (binaryOp .Add (.ref t) (.ref b)) Q E s:=by
 obtain⟨⟨cls,dd,data,sl⟩,ho,hc,n,hd⟩:=id ht
 obtain⟨⟨cls2,dd2,data2,sl2⟩,ho2,hc2,n2,hd2⟩:=id hb
 simp only at hc hd hc2 hd2
 subst hc hd hc2 hd2
 have e:vs.toArray++ws.toArray=(vs++ws).toArray:=by simp
 by_cases hw:ws=[]
 ·exact concat_meets ⟨_,ho,rfl⟩ ⟨_,ho2,rfl⟩ noFill_tuple_add seq_tuple_add PySem.F.slot_tuple_add PySem.F.entry_tuple_add (PySem.F.args_tuple_add_2 _ _)
   (tuple_addW1 t b vs.toArray ws.toArray n n2 dd dd2 sl sl2 (by simpa using hv) (by simp[hw])) ⟨ho,ho2,h1 hw⟩
 ·refine concat_meets ⟨_,ho,rfl⟩ ⟨_,ho2,rfl⟩ noFill_tuple_add seq_tuple_add PySem.F.slot_tuple_add PySem.F.entry_tuple_add (PySem.F.args_tuple_add_2 _ _)
   (tuple_addW2 t b vs.toArray ws.toArray n n2 dd dd2 sl sl2 (by simpa using hv) (by simpa using hw) (by rw[List.size_toArray,List.size_toArray];exact hsz)) ⟨ho,ho2,?_⟩
  rw[e]
  exact h2 hw
def sIx(n d:Nat):Option Int->Nat
 | none=>d
 | some v=>if v<0 then(v+(n:Int)).toNat else min v.toNat n
theorem Ii(n d:Nat)(hd:d<=n)(o:Option Int):sIx n d o<=n:=by
  cases o with
  | none=>exact hd
  | some v =>
    show(if v<0 then(v+(n:Int)).toNat else min v.toNat n)<=n
    by_cases hv:v<0
    · rw[if_pos hv];omega
    · rw[if_neg hv];exact Nat.min_le_right _ _
theorem wB(v:Int)(n d:Nat):(if v<0 then max (v+(n:Int)) 0 else min v (n:Int))=((sIx n d (some v):Nat):Int):=by
 show(if v<0 then max (v+(n:Int)) 0 else min v (n:Int))=(((if v<0 then(v+(n:Int)).toNat else min v.toNat n):Nat):Int)
 by_cases hv:v<0
 ·simp only[if_pos hv];omega
 ·simp only[if_neg hv];omega
theorem tM(lo hi:Option Int)(n:Nat):Builtin.Slice.sliceAdjust lo hi 1 (n:Int)=(((sIx n 0 lo:Nat):Int),((sIx n n hi:Nat):Int)):=by
 have h1:¬ ((1:Int)<0):=by omega
 unfold Builtin.Slice.sliceAdjust
 simp only[h1,if_false]
 refine Prod.ext ?_ ?_
 ·cases lo with
  | none=>rfl
  | some v=>exact wB v n 0
 ·cases hi with
  | none=>rfl
  | some v=>exact wB v n n
theorem sH(i j:Nat):Builtin.Slice.slicePlaces (i:Int) (j:Int) 1=j-i:=by
 unfold Builtin.Slice.slicePlaces
 have h1:(1:Int)>0:=by omega
 simp only[h1,if_true,Int.ediv_one]
 split<;>omega
theorem jP{v:Value}{o:Option Int}{Q:Option Int->Shared->Prop}(p:IsPart v o)(h:Q o s):wpAny (model prog w) A (Builtin.Slice.slicePartIndex v) Q E s:=by
 cases p with
 | none=>exact slicePart_none h
 | int i t=>exact slicePart_int h
theorem eN{sl:Addr}{vl vu:Value}{lo hi:Option Int}{n:Nat}{Q:Int×Int×Nat->Shared->Prop}(hs:s.heap.IsSliceOf sl vl vu .none)(pl:IsPart vl lo)(pu:IsPart vu hi)
  (h:Q (((sIx n 0 lo:Nat):Int),1,sIx n n hi-sIx n 0 lo) s):wpAny (model prog w) A (Builtin.Slice.sliceApplied (.ref sl) (pure (n:Int))) Q E s:=by
 obtain⟨os,hos,hcs,hds⟩:=id hs
 unfold Builtin.Slice.sliceApplied Builtin.Slice.sliceFields
 refine wpAny_bind (wpAny_bind (wpAny_field hos hds (x:=vl) rfl (wpAny_bind (wpAny_field hos hds (x:=vu) rfl (wpAny_bind (wpAny_field hos hds (x:=.none) rfl (wpAny_pure ?_)))))))
 refine wpAny_bind (slicePart_none ?_)
 show wpAny _ _ (if((1:Int)==0)=true then _ else _) _ _ s
 rw[if_neg (by decide)]
 refine wpAny_bind (jP pl (wpAny_bind (jP pu (wpAny_bind (wpAny_pure ?_)))))
 show wpAny _ _ (match Builtin.Slice.sliceAdjust lo hi 1 (n:Int) with | (lo,hi)=>pure (lo,(1:Int),Builtin.Slice.slicePlaces lo hi 1)) _ _ s
 rw[tM lo hi n]
 show wpAny _ _ (pure (((sIx n 0 lo:Nat):Int),(1:Int),Builtin.Slice.slicePlaces ((sIx n 0 lo:Nat):Int) ((sIx n n hi:Nat):Int) 1)) _ _ s
 rw[sH]
 exact wpAny_pure h
theorem yx(xs:Array Value)(i k:Nat):((List.range k).filterMap fun(m:Nat)=>xs[((i:Int)+(m:Int)*1).toNat]?).toArray=((xs.toList.drop i).take k).toArray:=by
 have e:(fun(m:Nat)=>xs[((i:Int)+(m:Int)*1).toNat]?)=fun m=>xs[i+m]?:=by
  funext m
  have:((i:Int)+(m:Int)*1).toNat=i+m:=by omega
  rw[this]
 rw[e]
 have:=pick_run xs i k
 rw[List.filterMap_map] at this
 have e2:((fun x=>xs[x]?)∘fun x=>i+x)=fun m=>xs[i+m]?:=rfl
 rw[e2] at this
 rw[this]
theorem iy{t sl:Addr}{items:Array Value}{vl vu:Value}{lo hi:Option Int}{Q:Value->Shared->Prop}(ht:IsTup s.heap t items)(hs:s.heap.IsSliceOf sl vl vu .none)(pl:IsPart vl lo)(pu:IsPart vu hi)
    (hw:¬ (sIx items.size 0 lo=0/\sIx items.size items.size hi=items.size))
    (h:Q (.ref s.heap.objs.size) { s with heap:=s.heap.push { cls:=.type "tuple",data:=.seq ((items.toList.drop (sIx items.size 0 lo)).take (sIx items.size items.size hi-sIx items.size 0 lo)).toArray } })
    (hsz:items.size<=sizeLine):wpAny (model prog w) A (getItem (.ref t) (.ref sl)) Q E s:=by
  have htake:sizeOk (.seq ((items.toList.drop (sIx items.size 0 lo)).take (sIx items.size items.size hi-sIx items.size 0 lo)).toArray):=by
    show((items.toList.drop (sIx items.size 0 lo)).take (sIx items.size items.size hi-sIx items.size 0 lo)).toArray.size<=sizeLine
    rw[List.size_toArray,List.length_take,List.length_drop,Array.length_toList]
    omega
  have hj:sIx items.size items.size hi<=items.size:=Ii _ _ (Nat.le_refl _) hi
  obtain⟨os,hos,hcs,hds⟩:=id hs
  have hTs:s.TypeIs (.ref sl) "slice":=⟨os,hos,hcs⟩
  unfold getItem
  try with_reducible refine wpAny_holding ?_
  first | refine wpAny_bind (wpAny_pure ?_) | skip
  refine wpAny_bind (wpAny_sequenceKey ht.typeIs (by decide) ?_)
  refine wpAny_bind (wpAny_callSpecial?_slot (name:=Str.ofString "__getitem__") ht.typeIs PyProof.Rows.slot_tuple_getitem
    (wpAny_call_entry PyProof.Rows.slot_tuple_getitem ht.typeIs entry_tuple_getitem ?_ (args_tuple_getitem _ _)))
  show wpAny _ _ (Builtin.Tuple.tupleItemsOf (.ref t) >>=_) _ _ s
  refine wpAny_bind (tupleItemsOf_ ht ?_)
  refine wpAny_bind (wpAny_typeOf hTs ?_)
  rw[if_pos (by decide)]
  refine wpAny_bind (eN hs pl pu ?_)
  have hno:¬ ((((sIx items.size 0 lo:Nat):Int)==0&&(1:Int)==1&&(sIx items.size items.size hi-sIx items.size 0 lo)==items.size)=true):=by
    intro q
    rw[Bool.and_eq_true,Bool.and_eq_true] at q
    have q1:((sIx items.size 0 lo:Nat):Int)=0:=eq_of_beq q.1.1
    have q2:sIx items.size items.size hi-sIx items.size 0 lo=items.size:=eq_of_beq q.2
    exact hw ⟨by omega,by omega⟩
  show wpAny _ _ (if(((sIx items.size 0 lo:Nat):Int)==0&&(1:Int)==1&&(sIx items.size items.size hi-sIx items.size 0 lo)==items.size)=true then _ else _) _ _ s
  rw[if_neg hno,yx]
  first
    | exact wpAny_bind (m:=Builtin.Tuple.tupleExact _) (wpAny_newObj_type (wpAny_pure ⟨_,rfl,wpAny_pure h⟩) htake)
    | exact wpAny_bind (m:=Builtin.Tuple.tupleExact _) (wpAny_newObj_type (wpAny_bind (wpAny_pure (wpAny_pure ⟨_,rfl,wpAny_pure h⟩))) htake)
    | exact wpAny_bind (wpAny_bind (m:=Builtin.Tuple.tupleExact _) (wpAny_newObj_type (wpAny_pure (wpAny_pure ⟨_,rfl,wpAny_pure h⟩)) htake))
    | exact wpAny_bind (wpAny_bind (m:=Builtin.Tuple.tupleExact _) (wpAny_newObj_type (wpAny_pure ⟨_,rfl,wpAny_pure h⟩) htake))
end
end HT
namespace L2
open PySem PySem.Spec PyProof.Rows
abbrev TO:=St->Hp->(Option Int->Hp->Prop)->Prop
def PO(X:Cx)(e:Option Expr)(t:TO):Prop :=
  ∀ (pins : List (Addr × Obj)) (s : Shared) (σ : St) (H : Hp) (Q : Option Int -> Hp -> Prop), Inv X pins σ H s -> t σ H Q ->
    wpAny (model X.prog X.w) X.A (evalPart e X.env) (fun u s'=>∃ o H',Inv X pins σ H' s'/\IsPart u o/\Q o H') X.xe s
def Cj:TO:=fun _ H Q=>Q none H
def Lb(t:TE):TO:=fun σ H Q=>t σ H fun x H1=>∃ i,x=.int i/\Q (some i) H1
theorem intsAre_of{ns:List Int}:∀ {us:List Value},Vals (ns.map V.int) us->IntsAre us ns:=by
  induction ns with
  | nil=>intro us r;rw[List.map_nil] at r;cases r;exact .nil
  | cons n ns ih =>
    intro us r
    rw[List.map_cons] at r
    cases r with
    | cons r1 r2 =>
      obtain⟨t,e⟩:=r1
      subst e
      exact .cons n t (ih r2)
section
variable {X:Cx} {e:Expr} {te:TE} {lo hi:Option Expr} {tl th:TO} {pos p2:Pos}
theorem Di:PO X none Cj:=by
 intro pins s σ H Q I h
 rw[evalPart_none]
 exact wpAny_pure ⟨none,H,I,.none,h⟩
theorem Dh(h:PE X e te):PO X (some e) (Lb te):=by
 intro pins s σ H Q I hw
 rw[evalPart_some]
 refine thn (h pins s σ H _ I hw) fun u s1 ⟨x,H1,I1,r1,q1⟩=>?_
 obtain⟨i,rfl,q⟩:=q1
 obtain⟨t,rfl⟩:=r1
 exact⟨some i,H1,I1,.int i t,q⟩
def SlR(X:Cx)(r:V->Option Int->Option Int->Hp->VK->Prop):Prop :=
  ∀ (pins : List (Addr × Obj)) (s : Shared) (σ : St) (H : Hp) (x : V) (v vl vu : Value) (lo hi : Option Int) (sl : Addr) (Q : VK), Inv X pins σ H s -> RelV x v -> s.heap.IsSliceOf sl vl vu .none -> IsPart vl lo -> IsPart vu hi -> r x lo hi H Q ->
    ∃ T id,typeLookup (.type T) "__getitem__"=pure (some (.builtin id))/\s.TypeIs v T/\wpAny (model X.prog X.w) X.A (getItem v (.ref sl)) (EP X pins σ Q) X.xe s
def tSl(r:V->Option Int->Option Int->Hp->VK->Prop)(te:TE)(tl th:TO):TE:=fun σ H Q=>te σ H fun x H1=>tl σ H1 fun l H2=>th σ H2 fun u H3=>r x l u H3 Q
theorem lq{r:V->Option Int->Option Int->Hp->VK->Prop}(hr:SlR X r)(he:PE X e te)(hl:PO X lo tl)(hu:PO X hi th):PE X (.Subscript e (.Slice lo hi none p2) pos) (tSl r te tl th):=by
 intro pins s σ H Q I h
 refine Subscript_ (thn (he pins s σ H _ I h) fun v s1 ⟨x,H1,I1,r1,q1⟩=>?_)
 refine wpAny_Slice (thn (hl pins s1 σ H1 _ I1 q1) fun vl s2 ⟨l,H2,I2,pl,q2⟩=>thn (hu pins s2 σ H2 _ I2 q2) fun vu s3 ⟨u,H3,I3,pu,q3⟩=>?_)
 rw[evalPart_none]
 refine wpAny_pure ?_
 have I4:Inv X pins σ H3 { s3 with heap:=s3.heap.push { cls:=.type "slice",data:=.fields #[vl,vu,.none] } }:=I3.kept (t':=s3.toks) fun b ob q=>Heap.get?_push_of_some _ q
 obtain⟨T,id,hT,ht,hg⟩:=hr pins { s3 with heap:=s3.heap.push { cls:=.type "slice",data:=.fields #[vl,vu,.none] } } σ H3 x v vl vu l u s3.heap.objs.size Q I4 r1 (Heap.IsSliceOf.new ..) pl pu q3
 show wpAny (model X.prog X.w) X.A (subscriptTail e (.Slice lo hi none p2) v (.ref s3.heap.objs.size)) (EP X pins σ Q) X.xe { s3 with heap:=s3.heap.push { cls:=.type "slice",data:=.fields #[vl,vu,.none] } }
 exact tail_any (ops:=[.ref s3.heap.objs.size,v]) ht hT hg (by with_unfolding_all rfl)
def Bx(xs:List V)(lo hi:Option Int):List V:=(xs.drop (HT.sIx xs.length 0 lo)).take (HT.sIx xs.length xs.length hi-HT.sIx xs.length 0 lo)
theorem jx(xs:List V)(lo hi:Option Int):(Bx xs lo hi).length<=xs.length:=by
 unfold Bx
 rw[List.length_take,List.length_drop]
 omega
def Xd(K:PySem.W.Frag):V->Option Int->Option Int->Hp->VK->Prop:=fun x lo hi H Q=>∃ a xs,x=.ref a/\SqT K H a xs /\
 ¬ (HT.sIx xs.length 0 lo=0/\HT.sIx xs.length xs.length hi=xs.length)/\∀ p,H p=none->Q (.ref p) (upd H p (.tup (Bx xs lo hi)))
theorem Ig:SlR X (Xd X.K):=by
 intro pins s σ H x v vl vu lo hi sl Q I rx hs pl pu h
 obtain⟨a,xs,rfl,hx,hw,q⟩:=h
 cases rx
 obtain⟨its,r,ht,hz⟩:=I.tuple hx
 have hlen:its.toArray.size=xs.length:=by rw[List.size_toArray];exact r.length.symm
 refine⟨"tuple",_,PyProof.Rows.slot_tuple_getitem.lookup,ht.typeIs,?_⟩
 refine HT.iy ht hs pl pu (by rw[hlen];exact hw) ?_ (by rw[hlen];exact hz)
 rw[hlen]
 refine⟨.ref s.heap.objs.size,_,I.laid (t':=s.toks) (o:=.tup (Bx xs lo hi)) (fun b ob q=>Heap.get?_push_of_some _ q) (Nat.le_refl _) ?_,rfl,q _ (I.hok.fresh (Nat.le_refl _))⟩
 exact⟨Nat.le_trans (jx xs lo hi) hz,_,(r.drop (HT.sIx xs.length 0 lo)).take (HT.sIx xs.length xs.length hi-HT.sIx xs.length 0 lo),IsTup.new _ _⟩
def Mi(K:PySem.W.Frag):R2:=fun x y H Q=>∃ a b xs ys,x=.ref a/\y=.ref b/\SqT K H a xs/\SqT K H b ys/\xs≠[]/\xs.length+ys.length<=sizeLine /\
 (ys=[]->Q (.ref a) H)/\(ys≠[]->∀ p,H p=none->Q (.ref p) (upd H p (.tup (xs++ys))))
theorem Vals.nil_iff{xs:List V}{us:List Value}(r:Vals xs us):us=[]↔xs=[]:=by
 cases r with
 | nil=>simp
 | cons _ _=>simp
theorem DP:OpR X (binaryOp .Add) (Mi X.K):=by
 intro pins s σ H x y v u Q I rx ry h
 obtain⟨a,b,xs,ys,rfl,rfl,ha,hb,hx,hz,q1,q2⟩:=h
 cases rx
 cases ry
 obtain⟨its,r1,p1,_⟩:=I.tuple ha
 obtain⟨its2,r2,p2,_⟩:=I.tuple hb
 refine HT.Gs p1 p2 (fun z=>hx (r1.nil_iff.mp z)) (fun z=>⟨.ref a,H,I,rfl,q1 (r2.nil_iff.mp z)⟩) (fun z=>?_) (by rw[<- r1.length,<- r2.length];exact hz)
 refine⟨.ref s.heap.objs.size,_,I.laid (t':=s.toks) (o:=.tup (xs++ys)) (fun b ob q=>Heap.get?_push_of_some _ q) (Nat.le_refl _) ?_,rfl,q2 (fun w=>z (r2.nil_iff.mpr w)) _ (I.hok.fresh (Nat.le_refl _))⟩
 exact⟨by rw[List.length_append];exact hz,_,r1.append r2,IsTup.new _ _⟩
end
end L2
namespace L2
open PySem PySem.Spec PyProof.Rows
def ixN(n:Nat)(i:Int):Option Nat:=if 0<=i then(if i<n then some i.toNat else none) else if -(n:Int)<=i then some (i+n).toNat else none
def atI{α:Type}(xs:List α)(i:Int):Option α:=(ixN xs.length i).bind fun j=>xs[j]?
theorem vG{n:Nat}{i:Int}{j:Nat}(h:ixN n i=some j):seqIndex? i n=some j/\j<n /\ -(n:Int)<=i/\i<n:=by
 unfold ixN at h
 by_cases h0:0<=i
 ·rw[if_pos h0] at h
  by_cases h1:i<n
  ·rw[if_pos h1] at h
   have e:i.toNat=j:=Option.some.inj h
   exact⟨by rw[seqIndex_of h0 h1,e],by omega,by omega,h1⟩
  ·rw[if_neg h1] at h;cases h
 ·rw[if_neg h0] at h
  by_cases h1:-(n:Int)<=i
  ·rw[if_pos h1] at h
   have e:(i+n).toNat=j:=Option.some.inj h
   exact⟨by rw[seqIndex_neg (by omega) h1,e],by omega,h1,by omega⟩
  ·rw[if_neg h1] at h;cases h
theorem wU{α:Type}{xs:List α}{i:Int}{v:α}(h:atI xs i=some v):∃ j,seqIndex? i xs.length=some j/\xs[j]?=some v/\j<xs.length /\ -(xs.length:Int)<=i/\i<xs.length:=by
  unfold atI at h
  cases e:ixN xs.length i with
  | none=>rw[e] at h;cases h
  | some j =>
    rw[e] at h
    obtain⟨h1,h2,h3,h4⟩:=vG e
    exact⟨j,h1,h,h2,h3,h4⟩
def w6(b:Expr):Prop:=∀ o i,subscripted b false o i=operate [o,i] (getItem o i)
def IxR(X:Cx)(r:R2):Prop :=
  ∀ (value slice : Expr) (pins : List (Addr × Obj)) (s : Shared) (σ : St) (H : Hp) (x y : V) (v u : Value) (Q : VK), Inv X pins σ H s -> RelV x v -> RelV y u -> r x y H Q ->
    subscripted slice false v u=operate [v,u] (getItem v u)->wpAny (model X.prog X.w) X.A (subscriptTail value slice v u) (EP X pins σ Q) X.xe s
def MtR(X:Cx)(id:String)(r:V->List V->Hp->VK->Prop):Prop :=
  ∀ (pins : List (Addr × Obj)) (s : Shared) (σ : St) (H : Hp) (x : V) (xs : List V) (v : Value) (us : List Value) (Q : VK), Inv X pins σ H s -> RelV x v -> Vals xs us -> r x xs H Q ->
    wpAny (model X.prog X.w) X.A (call (.builtin id) (v::us)) (EP X pins σ Q) X.xe s
section
variable {X:Cx} {a b:Expr} {ta tb:TE} {pos:Pos}
theorem uW{r:R2}(hr:IxR X r)(ha:PE X a ta)(hb:PE X b tb)(hs:w6 b):PE X (.Subscript a b pos) (tOp r ta tb):=by
 intro pins s σ H Q I h
 exact Subscript_ (Sv ha hb I h fun v u s2 x y H2 I2 rx ry q=>hr a b pins s2 σ H2 x y v u Q I2 rx ry q (hs _ _))
def Xg(K:PySem.W.Frag):R2:=fun x y H Q=>∃ p xs i v,x=.ref p/\y=.int i/\SqL K H p xs/\atI xs i=some v/\Q v H
def Xf(K:PySem.W.Frag):R2:=fun x y H Q=>∃ p xs i v,x=.ref p/\y=.int i/\SqT K H p xs/\atI xs i=some v/\Q v H
theorem lG:IxR X (Xg X.K):=by
 intro value slice pins s σ H x y v u Q I rx ry h hs
 obtain⟨p,xs,i,z,rfl,rfl,hq,he,q⟩:=h
 cases rx
 obtain⟨t,rfl⟩:=ry
 obtain⟨its,r,pl,hz⟩:=I.list hq
 obtain⟨j,h1,h2,h3,h4,h5⟩:=wU he
 obtain⟨w,ew,rw'⟩:=r.get h2
 have hl:=r.length
 have hn:=qI
 have fin:EP X pins σ Q w s:=⟨z,H,I,rw',q⟩
 by_cases h0:0<=i
 ·have hj:i.toNat=j:=by
   rw[seqIndex_of h0 h5] at h1
   exact Option.some.inj h1
  exact item_listR pl.isList h0 (by omega) (by rw[hj];simpa using ew) fin hs
 ·have hj:(i+(its.toArray.size:Int)).toNat=j:=by
   rw[seqIndex_neg (by omega) h4] at h1
   rw[List.size_toArray,<- hl]
   exact Option.some.inj h1
  exact subscriptTail_builtinR (x:=w) pl.isList.typeIs slot_list_getitem.lookup
   (wpAny_getItem_list_neg (Q:=fun r s'=>r=w/\EP X pins σ Q r s') pl.isList (by omega) (by rw[List.size_toArray]<;>omega) (by omega) (by rw[hj];simpa using ew) ⟨rfl,fin⟩) hs
theorem JM:IxR X (Xf X.K):=by
 intro value slice pins s σ H x y v u Q I rx ry h hs
 obtain⟨p,xs,i,z,rfl,rfl,hq,he,q⟩:=h
 cases rx
 obtain⟨t,rfl⟩:=ry
 obtain⟨its,r,pl,hz⟩:=I.tuple hq
 obtain⟨j,h1,h2,h3,h4,h5⟩:=wU he
 obtain⟨w,ew,rw'⟩:=r.get h2
 have hl:=r.length
 have hn:=qI
 have fin:EP X pins σ Q w s:=⟨z,H,I,rw',q⟩
 exact subscriptTail_builtinR (x:=w) pl.typeIs slot_tuple_getitem.lookup
  (getItem_tuple (j:=j) (Q:=fun r s'=>r=w/\EP X pins σ Q r s') pl (by omega) (by omega) (by rw[List.size_toArray,<- hl];exact h1) (by simpa using ew) ⟨rfl,fin⟩) hs
theorem sJ(its:List Value)(n j:Nat)(u:Value):Obj.mapSeq (·.setIfInBounds j u) { cls:=.type "list",data:=.seq its.toArray n }={ cls:=.type "list",data:=.seq (its.set j u).toArray n }:=by
 simp[Obj.mapSeq]
theorem Inv.lst{pins:List (Addr×Obj)}{σ:St}{H:Hp}{s:Shared}{p:Addr}{xs:List V}(I:Inv X pins σ H s)(h:H p=some (.lst xs)) :
  ∃ (its:List Value) (n:Nat),Vals xs its/\s.heap.get? p=some { cls:=.type "list",data:=.seq its.toArray n }/\xs.length<=sizeLine:=by
 obtain⟨z,its,n,r,e⟩:=I.hok p _ h
 exact⟨its,n,r,e,z⟩
theorem Inv.lstUpd{pins:List (Addr×Obj)}{σ:St}{H:Hp}{s:Shared}{p:Addr}{xs ys:List V}{its its':List Value}{n n':Nat}{f:Obj->Obj}(I:Inv X pins σ H s)(h:H p=some (.lst xs))
  (ho:s.heap.get? p=some { cls:=.type "list",data:=.seq its.toArray n }) (hf:f { cls:=.type "list",data:=.seq its.toArray n }={ cls:=.type "list",data:=.seq its'.toArray n' }) (r:Vals ys its') (hz:ys.length<=sizeLine) (t:Nat) :
  Inv X pins σ (upd H p (.lst ys)) { s with heap:=s.heap.update p f,toks:=t }:=by
 have e:(s.heap.update p f).get? p=some { cls:=.type "list",data:=.seq its'.toArray n' }:=by
  rw[Heap.get?_update_self f ho (by rw[hf]<;>rfl),hf]
 refine I.write (x:=p) (e:=p) (by rw[h];trivial) (.inl rfl) (fun b u hb q=>(Heap.get?_update_other _ _ (Ne.symm hb)).trans q) ⟨_,e⟩ ?_
 exact⟨hz,its',n',r,e⟩
def LK:V->V->V->Hp->(Hp->Prop)->Prop:=fun o i v H Q=>∃ p xs k j,o=.ref p/\i=.int k/\H p=some (.lst xs)/\ixN xs.length k=some j/\Q (upd H p (.lst (xs.set j v)))
theorem set_list:WL X LK:=by
 intro pins s σ H o i v ov iv u Q I ro ri rv h
 obtain⟨p,xs,k,j,rfl,rfl,hp,hj,q⟩:=h
 cases ro
 obtain⟨t,rfl⟩:=ri
 obtain⟨its,n,r,ho,hz⟩:=I.lst hp
 obtain⟨h1,h2,h3,h4⟩:=vG hj
 have hl:=r.length
 have hn:=qI
 have I':Inv X pins σ (upd H p (.lst (xs.set j v))) { s with heap:=s.heap.update p (Obj.mapSeq (·.setIfInBounds j u)) } :=
  I.lstUpd hp ho (sJ its n j u) (r.set rv j) (by rw[List.length_set];exact hz) s.toks
 by_cases h0:0<=k
 ·have hk:k.toNat=j:=by
   rw[seqIndex_of h0 h4] at h1
   exact Option.some.inj h1
  exact PySem.W.ki_setAt ho h0 (by omega) (by rw[List.size_toArray,<- hl];exact h4) (by rw[hk];exact⟨_,I',q⟩)
 ·have hk:(k+(its.toArray.size:Int)).toNat=j:=by
   rw[seqIndex_neg (by omega) h3] at h1
   rw[List.size_toArray,<- hl]
   exact Option.some.inj h1
  exact PySem.W.ki_setBack ho (by omega) (by rw[List.size_toArray,<- hl];exact h3) (by omega) (by rw[hk];exact⟨_,I',q⟩)
theorem mO(lo hi:Option Int)(n:Nat):(sliceBounds lo hi none n).1=((HT.sIx n 0 lo:Nat):Int)/\(sliceBounds lo hi none n).2.1=((HT.sIx n n hi:Nat):Int)/\(sliceBounds lo hi none n).2.2=1:=by
  refine⟨?_,?_,rfl⟩
  · cases lo with
    | none=>simp[sliceBounds,HT.sIx]
    | some i =>
      simp only[sliceBounds,HT.sIx,Option.getD_none,show(1:Int)>0 by decide,if_true]
      by_cases h:i<0
      · simp only[h,if_true]<;>omega
      · simp only[h,if_false]<;>omega
  · cases hi with
    | none=>simp[sliceBounds,HT.sIx]
    | some i =>
      simp only[sliceBounds,HT.sIx,Option.getD_none,show(1:Int)>0 by decide,if_true]
      by_cases h:i<0
      · simp only[h,if_true]<;>omega
      · simp only[h,if_false]<;>omega
theorem kh(its:List Value)(lo hi:Option Int):slicePick its.toArray lo hi none=((its.drop (HT.sIx its.length 0 lo)).take (HT.sIx its.length its.length hi-HT.sIx its.length 0 lo)).toArray:=by
 obtain⟨h1,h2,h3⟩:=mO lo hi its.toArray.size
 unfold slicePick
 rw[h1,h2,h3]
 simp only[sliceRange_one,pick_run,List.size_toArray]<;>rfl
def Xe(K:PySem.W.Frag):V->Option Int->Option Int->Hp->VK->Prop:=fun x lo hi H Q=>∃ a xs,x=.ref a/\SqL K H a xs/\∀ p,H p=none->Q (.ref p) (upd H p (.lst (Bx xs lo hi)))
theorem CG:SlR X (Xe X.K):=by
 intro pins s σ H x v vl vu lo hi sl Q I rx hs pl pu h
 obtain⟨a,xs,rfl,hx,q⟩:=h
 cases rx
 obtain⟨its,r,ht,hz⟩:=I.list hx
 have hlen:=r.length
 refine⟨"list",_,slot_list_getitem.lookup,ht.isList.typeIs,?_⟩
 refine wpAny_getItem_list_slice ht.isList hs pl pu .none (by simp) ?_ (by rw[List.size_toArray]<;>omega)
 rw[kh,<- hlen]
 refine⟨.ref s.heap.objs.size,_,I.laid (t':=s.toks) (o:=.lst (Bx xs lo hi)) (fun b ob q=>Heap.get?_push_of_some _ q) (Nat.le_refl _) ?_,rfl,q _ (I.hok.fresh (Nat.le_refl _))⟩
 exact⟨Nat.le_trans (jx xs lo hi) hz,_,0,(r.drop (HT.sIx xs.length 0 lo)).take (HT.sIx xs.length xs.length hi-HT.sIx xs.length 0 lo),Heap.get?_push_size _ rfl⟩
theorem nQ:bK X (.builtin "len") (fun xs H Q=>∃ p ys,xs=[.ref p]/\(SqL X.K H p ys\/SqT X.K H p ys)/\Q (.int ys.length) H):=by
 intro pins s σ H xs us Q I r h
 obtain⟨p,ys,rfl,hq,q⟩:=h
 obtain⟨u,rfl,rx⟩:=vals1 r
 cases rx
 have hn:=qI
 rcases hq with hq | hq
 ·obtain⟨its,r',pl,hz⟩:=I.list hq
  have hlen:=r'.length
  exact Calls.call_len_list pl.isList (by simp only[List.size_toArray]<;>omega) ⟨.int ys.length,H,I.tok _,⟨s.toks+1,by rw[List.size_toArray,hlen]⟩,q⟩
 ·obtain⟨its,r',pl,hz⟩:=I.tuple hq
  have hlen:=r'.length
  exact len_tuple pl (by simp only[List.size_toArray]<;>omega) ⟨.int ys.length,H,I.tok _,⟨s.toks+1,by rw[List.size_toArray,hlen]⟩,q⟩
theorem iH:bK X (.type "list") (fun xs H Q=>∃ p ys,xs=[.ref p]/\(SqL X.K H p ys\/SqT X.K H p ys)/\∀ l,H l=none->Q (.ref l) (upd H l (.lst ys))):=by
 intro pins s σ H xs us Q I r h
 obtain⟨p,ys,rfl,hq,q⟩:=h
 obtain⟨u,rfl,rx⟩:=vals1 r
 cases rx
 have fin:∀ (its:List Value),Vals ys its->ys.length<=sizeLine->∀ (h':Heap) (c':Nat),(∀ b o',s.heap.get? b=some o'->h'.get? b=some o') ->
   h'.get? s.heap.objs.size=some { cls:=.type "list",dict:=none,data:=.seq its.toArray c',slots := #[] }->EP X pins σ Q (.ref s.heap.objs.size) { s with heap:=h' }:=fun its r' hz h' c' kp e =>
  ⟨.ref s.heap.objs.size,_,I.laid (t':=s.toks) kp (Nat.le_refl _) (show cV X.prog X.w _ h' _ (.lst ys) from⟨hz,its,c',r',e⟩),rfl,q _ (I.hok.fresh (Nat.le_refl _))⟩
 rcases hq with hq | hq
 ·obtain⟨its,r',pl,hz⟩:=I.list hq
  have hlen:=r'.length
  obtain⟨o,ho,hc,n,hd⟩:=pl.isList
  exact call_list_seq p (.inl rfl) ho hc hd (fun h' c' kp e=>fin its r' hz h' c' kp e) (by simp only[List.size_toArray]<;>omega)
 ·obtain⟨its,r',pl,hz⟩:=I.tuple hq
  have hlen:=r'.length
  obtain⟨o,ho,hc,n,hd⟩:=pl
  exact call_list_seq p (.inr rfl) ho hc hd (fun h' c' kp e=>fin its r' hz h' c' kp e) (by simp only[List.size_toArray]<;>omega)
theorem lW:bK X (.type "tuple") (fun xs H Q=>∃ p ys,xs=[.ref p]/\((SqL X.K H p ys/\∀ l,H l=none->Q (.ref l) (upd H l (.tup ys)))\/(SqT X.K H p ys/\Q (.ref p) H))):=by
 intro pins s σ H xs us Q I r h
 obtain⟨p,ys,rfl,h⟩:=h
 obtain⟨u,rfl,rx⟩:=vals1 r
 cases rx
 rcases h with⟨hq,q⟩ | ⟨hq,q⟩
 ·obtain⟨its,r',pl,hz⟩:=I.list hq
  have hlen:=r'.length
  refine call_tuple_list pl.isList (fun h' kp=>?_) (by simp only[List.size_toArray]<;>omega)
  have I1:Inv X pins σ H { s with heap:=h' }:=I.kept (t':=s.toks) kp
  have I2:Inv X pins σ (upd H h'.objs.size (.tup ys)) { s with heap:=h'.push { cls:=.type "tuple",data:=.seq its.toArray } } :=
   I1.laid (t':=s.toks) (fun b o e=>Heap.get?_push_of_some _ e) (Nat.le_refl _) (show cV X.prog X.w _ _ _ (.tup ys) from⟨hz,its,r',IsTup.new _ _⟩)
  exact⟨.ref h'.objs.size,_,I2,rfl,q _ (I1.hok.fresh (Nat.le_refl _))⟩
 ·obtain⟨its,r',pl,hz⟩:=I.tuple hq
  exact call_tuple_same pl ⟨.ref p,H,I,rfl,q⟩
def tyV(K:PySem.W.Frag)(T:String)(x:V)(H:Hp):Prop:=match x with
 | .str _=>T="str"
 | .int _=>T="int"
 | .ref p => (T = "list" /\ ∃ xs, SqL K H p xs) \/ (T = "tuple" /\ ∃ o, K.lookup p = some o /\ o.cls = .type "tuple" /\ o.dict = none) \/
   (T="dict"/\((∃ kvs,H p=some (.dK kvs))\/∃ kvs,H p=some (.dT kvs)))\/(T="set"/\∃ S n,H p=some (.set S n))
 | _=>False
theorem Hy{pins:List (Addr×Obj)}{σ:St}{H:Hp}{s:Shared}{T:String}{x:V}{v:Value}(I:Inv X pins σ H s)(r:RelV x v)(ty:tyV X.K T x H) :
    s.TypeIs v T/\∀ a,v=.ref a->∃ ob,s.heap.get? a=some ob/\ob.dict=none:=by
  cases x with
  | str z =>
    obtain⟨t,rfl⟩:=r
    cases (show T="str" from ty)
    exact⟨typeIs_str s z t,fun _ e=>nomatch e⟩
  | int i =>
    obtain⟨t,rfl⟩:=r
    cases (show T="int" from ty)
    exact⟨typeIs_int s i t,fun _ e=>nomatch e⟩
  | ref p =>
    cases r
    rcases ty with⟨rfl,xs,hq⟩ | ⟨rfl,o,hk,hc,hd⟩ | ⟨rfl,hk⟩ | ⟨rfl,S,n,hk⟩
    · obtain⟨its,_,pl,_⟩:=I.list hq
      refine⟨pl.isList.typeIs,fun a e=>?_⟩
      cases e
      obtain⟨o,n,e,c,hd,_⟩:=pl
      exact⟨o,e,hd⟩
    · refine⟨⟨o,I.kIn p o hk,hc⟩,fun a e=>?_⟩
      cases e
      exact⟨o,I.kIn _ o hk,hd⟩
    · have z:∃ o,s.heap.get? p=some o/\o.ExactDict:=by
        rcases hk with⟨kvs,hk⟩ | ⟨kvs,hk⟩
        · obtain⟨_,_,_,_,o,_,_,e,ex,_⟩:=I.hok p _ hk
          exact⟨o,e,ex⟩
        · obtain⟨_,_,_,_,o,_,_,e,ex,_⟩:=I.hok p _ hk
          exact⟨o,e,ex⟩
      obtain⟨o,e,ex⟩:=z
      refine⟨⟨o,e,ex.1⟩,fun a e2=>?_⟩
      cases e2
      exact⟨o,e,ex.2.1⟩
    · obtain⟨o,_,_,_,e,ex,_⟩:=I.hok p _ hk
      refine⟨⟨o,e,ex.1⟩,fun a e2=>?_⟩
      cases e2
      exact⟨o,e,ex.2.1⟩
  | _=>exact False.elim ty
def tBM(K:PySem.W.Frag)(T:String)(r:V->List V->Hp->VK->Prop)(to:TE)(t:TA):TE:=fun σ H Q=>to σ H fun x H1=>tyV K T x H1/\t σ H1 fun xs H2=>r x xs H2 Q
variable {o e:Expr} {es:List Expr} {to:TE} {t:TA} {name:Str} {apos cpos:Pos} {T id:String} {r:V->List V->Hp->VK->Prop}
theorem yF(pa:PlainAttrs T)(slot:Slot T name id)(hty:typeOf (.builtin id)=pure (.type "method_descriptor"))(hm:MtR X id r)(ho:PE X o to)(ha:PA X (e::es) t)
    (hbase:attributeBase o name X.env (eval o X.env)=eval o X.env:=by rfl)
    (hfew:((backTo cpos (starEach (e::es) X.env)).all (fun x => !x.1)&&(backToKw cpos (keywordEach [] X.env)).all (fun x=>x.1.isSome)
      && decide ((e::es).length+([]:List Keyword).length+(if([]:List Keyword).isEmpty then 0 else 1)<30))=true:=by rfl)
    (hline:(apos.endLine==cpos.line)=true:=by rfl) (hs:starEach (e::es) X.env=(false,eval e X.env)::starEach es X.env:=by rfl) (hplain:(backTo cpos (starEach es X.env)).any (·.1)=false:=by rfl) :
    PE X (.Call (.Attribute o name apos) (e::es) [] cpos) (tBM X.K T r to t):=by
  intro pins s σ H Q I h
  refine wpAny_Call_method_late hbase hfew hline rfl (thn (ho pins s σ H _ I h) fun v s1 ⟨x,H1,I1,r1,ty,q1⟩=>?_)
  obtain⟨h1,h2⟩:=Hy I1 r1 ty
  refine⟨T,id,pa,slot,hty,h1,h2,?_⟩
  have hA:=ha cpos pins s1 σ H1 _ I1 q1
  rw[hs] at hA ⊢
  refine Calls.callWith_builtin (by show(false||(backTo cpos (starEach es X.env)).any (·.1))=false;rw[hplain]<;>rfl) (Calls.evalArgs_plain ?_)
  exact thn hA fun us s2 ⟨vs,H2,I2,r2,q2⟩=>hm pins s2 σ H2 x vs v us Q I2 r1 r2 q2
end
end L2
namespace L2
open PySem PySem.Spec PyProof.Rows
def MtM(X:Cx)(id:String)(r:V->List V->Hp->VK->Prop):Prop :=
  ∀ (pins : List (Addr × Obj)) (s : Shared) (σ : St) (H : Hp) (x : V) (xs : List V) (v : Value) (us : List Value) (Q : VK), Inv X pins σ H s -> RelV x v -> Vals xs us -> r x xs H Q ->
    wpAny (model X.prog X.w) X.A (call (.builtin id) (v::us)) (EP X pins σ Q) X.xe s
theorem Vals.one:∀ {x:V} {us:List Value},Vals [x] us->∃ u,us=[u]/\RelV x u
 | _,_,.cons r .nil=>⟨_,rfl,r⟩
theorem Vals.reverse{xs:List V}{us:List Value}(h:Vals xs us):Vals xs.reverse us.reverse:=by
 induction h with
 | nil=>exact .nil
 | cons r t ih=>rw[List.reverse_cons,List.reverse_cons];exact Vals.append ih (.cons r .nil)
theorem Vals.rep{xs:List V}{us:List Value}(h:Vals xs us):∀ k:Nat,Vals (List.replicate k xs).flatten (List.replicate k us).flatten
  | 0=>.nil
  | k + 1 => by
    rw[List.replicate_succ,List.replicate_succ,List.flatten_cons,List.flatten_cons]
    exact Vals.append h (Vals.rep h k)
theorem foldl_rep(its:List Value):∀ (k:Nat) (acc:List Value),
    List.foldl (fun x1 x2=>x1++x2) acc.toArray (List.replicate k its.toArray)=(acc++(List.replicate k its).flatten).toArray
  | 0,acc=>by simp
  | k + 1, acc => by
    have e:acc.toArray++its.toArray=(acc++its).toArray:=by simp
    have e2:(acc++its)++(List.replicate k its).flatten=acc++(List.replicate (k+1) its).flatten:=by
      rw[List.replicate_succ,List.flatten_cons,List.append_assoc]
    rw[<- e2,<- foldl_rep its k (acc++its),<- e,List.replicate_succ,List.foldl_cons]
section
variable {X:Cx} {pins:List (Addr×Obj)} {σ:St} {H:Hp} {s:Shared} {l b:Addr} {xs ys zs:List V}
theorem Inv.lset{its its':List Value}{n:Nat}{f:Array Value->Array Value}{t':Nat}(I:Inv X pins σ H s)(hH:H l=some (.lst xs))
  (e:s.heap.get? l=some { cls:=.type "list",data:=.seq its.toArray n }) (hf:f its.toArray=its'.toArray) (hv:Vals ys its') (hz:ys.length<=sizeLine) :
  Inv X pins σ (upd H l (.lst ys)) { s with heap:=s.heap.update l (Obj.mapSeq f),toks:=t' }:=by
 have q:=PySem.IsL.update e f
 rw[hf] at q
 refine I.write (x:=l) (e:=l) (by rw[hH];exact trivial) (.inl rfl) (fun b' u hb hu=>(Heap.get?_update_other s.heap (Obj.mapSeq f) (Ne.symm hb)).trans hu) ⟨_,q⟩ ?_
 exact⟨hz,its',_,hv,q⟩
theorem Inv.lnew{its:List Value}{t':Nat}(I:Inv X pins σ H s)(hv:Vals ys its)(hz:ys.length<=sizeLine) :
  Inv X pins σ (upd H s.heap.objs.size (.lst ys)) { s with heap:=s.heap.push { cls:=.type "list",data:=.seq its.toArray },toks:=t' } :=
 I.laid (fun _ _ q=>Heap.get?_push_of_some _ q) (Nat.le_refl _) ⟨hz,its,0,hv,Heap.get?_push_size _ rfl⟩
theorem Inv.fresh(I:Inv X pins σ H s):H s.heap.objs.size=none:=I.hok.fresh (Nat.le_refl _)
theorem Inv.lstM(I:Inv X pins σ H s)(hH:H l=some (.lst xs)):xs.length<=sizeLine/\∃ (its:List Value) (n:Nat),Vals xs its/\xs.length=its.length/\s.heap.get? l=some { cls:=.type "list",data:=.seq its.toArray n }:=by
 obtain⟨z,its,n,r,e⟩:=I.hok l _ hH
 exact⟨z,its,n,r,r.length,e⟩
theorem lB{n:Nat}(h:n<=sizeLine):Builtin.List.listTooLong n=false:=by
 unfold Builtin.List.listTooLong
 exact decide_eq_false (by omega)
end
section
variable {X:Cx}
def CP:V->List V->Hp->VK->Prop:=fun x vs H Q=>∃ l xs y,x=.ref l/\vs=[y]/\H l=some (.lst xs)/\xs.length<sizeLine/\Q .non (upd H l (.lst (xs++[y])))
theorem jg:MtM X "list.append" CP:=by
 intro pins s σ H x vs v us Q I rx rv h
 obtain⟨l,xs,y,rfl,rfl,hH,hz,q⟩:=h
 cases rx
 obtain⟨u,rfl,ru⟩:=rv.one
 obtain⟨z,its,n,r,hl,e⟩:=I.lstM hH
 refine call_meets F.slot_list_append ⟨_,e,rfl⟩ F.entry_list_append (F.args_list_append_2 _ _) (PySem.list_append l its.toArray n u (by rw[List.size_toArray];omega)) ⟨e,?_⟩
 refine⟨.non,_,I.lset (its':=its++[u]) hH e (by simp) (r.append (.cons ru .nil)) ?_,rfl,q⟩
 rw[List.length_append,List.length_singleton]
 omega
theorem len_rep{α:Type}(xs:List α)(k:Nat):(List.replicate k xs).flatten.length=k*xs.length:=by
 induction k with
 | zero=>simp
 | succ k ih=>rw[List.replicate_succ,List.flatten_cons,List.length_append,ih,Nat.succ_mul,Nat.add_comm]
end
section
variable {prog:Program} {w:World} {A:Around} {E:Value->Shared->Prop} {s:Shared}
set_option maxRecDepth 100000 in
end
section
variable {X:Cx}
end
end L2
namespace Att
open PySem PySem.W PySem.Calls PyProof.Rows
theorem jm{P:Params}{h:Heap}:∀ (ns:List Int) (vs:List Value),WellAll P h vs (ns.map WData.int)->IntsAre vs ns:=by
  intro ns
  induction ns with
  | nil =>
    intro vs w
    rw[List.map_nil] at w
    cases w
    exact .nil
  | cons n ns ih =>
    intro vs w
    rw[List.map_cons] at w
    cases w with
    | cons a b =>
      cases a
      exact .cons _ _ (ih _ b)
theorem uG{l:OpenLaw}{n:Nat}(hn:l.most=some n){P:Params}{h:Heap}{args:List WData}{vals:List Value}
    (hpre:l.row.toRowW.claim.pre args=true) (hwl:WellAll P h vals args) :
    ∃ a vs ns,vals=[Value.ref a]/\args=[WData.list (ns.map WData.int)]/\h.get? a=some { cls:=.type "list",data:=.seq vs.toArray }/\IntsAre vs ns/\ns.length<=n:=by
  have hsh:WShape.hasAll [] args [.list .int]=true:=(pre_splitW hpre).1
  have hc:l.pre.holds [] { args:=args }=true:=(pre_splitW hpre).2
  obtain⟨d,r,rfl,h1,h2⟩:=hasAllW_cons hsh
  obtain rfl:=hasAllW_nil h2
  obtain⟨xs,rfl,h3⟩:=hasW_list h1
  obtain⟨ns,rfl⟩:=items_int h3
  have hlen:ns.length<=n:=by
    unfold OpenLaw.pre at hc
    have h4:(WTm.not (.lt (.lit (.int (n:Int))) (.len (.arg 0)))).holds [] { args:=[.list (ns.map .int)] }=true:=by
      have h4:=(holds_andW hc).1
      rw[hn] at h4
      exact h4
    have h5:=condW_of h4 (w_not (w_lt w_lit (w_len_list (w_arg rfl))))
    rw[List.length_map] at h5
    refine Nat.le_of_not_lt fun q=>?_
    have q':(n:Int)<((ns.length:Nat):Int):=by omega
    first
      | (rw[decide_eq_true q'] at h5;exact absurd h5 (by decide))
      | (simp at h5;omega)
  cases hwl with
  | cons w1 w2 =>
    cases w2
    cases w1 with
    | list ho hall=>exact⟨_,_,ns,rfl,rfl,ho,jm ns _ hall,hlen⟩
theorem uP(l:OpenLaw)(args:List WData):l.row.toRowW.claim.post args (.bool true) args=true :=
 postW_of (r:=l.row.toRowW) (X:=(true==true))
  (show WShape.has [] (.bool true) .bool=true by first | rfl | decide | simp[WShape.has,WShape.arms,WShape.armsAll])
  (show(WTm.eq .res (.lit (.bool true))).value [] { args:=args,res:=some (.bool true),after:=args }=some (.bool (true==true)) from w_eq_bool (w_res rfl) w_lit) rfl
theorem pI{l:OpenLaw}{n:Nat}{q:Program}{loose:List Str}{XP:(Str->Option Value)->Heap->Prop}{YP:World->Heap->Prop}{d:DefRec}
    (hn:l.most=some n) (hdf:d.params.defaults=[])
    (call:∀ (w:World) (s₀ s₁:Shared) (mg mb:Str->Option Value) (fa:Addr) (o:Obj) (pm cd doc:Value) (a:Addr) (vs:List Value) (ns:List Int),
      Ground q loose [] XP w s₀ mg mb s₁.heap->YP w s₁.heap ->
      s₁.heap.get? fa=some o->o.data=.func (docDef d.name d.params d.body d.scope pm cd doc)->s₁.heap.CodeRec cd d.name->mg d.name=some (.ref fa) ->
      s₁.heap.get? a=some { cls:=.type "list",data:=.seq vs.toArray }->IntsAre vs ns->ns.length<=n->s₁.gens = #[] ->
      codeAny (model l.prog w) callerA (.call (.ref fa) ⟨[.ref a],[]⟩) (fun r s'=>r=.ok (.ret (.bool true))/\OldK s₁.heap s'.heap/\s'.os=s₁.os/\AllBare s'.gens) s₁) :
    WalkO q loose XP YP l.row.toRowW d [] (fun f vs=>PySem.call f vs):=by
  intro w s₀ s₁ mg mb G Y fa o pm cd doc dV kV ho hd hcd hD hmg hg args vals as hpre hlay hrd hwl hlo
  obtain rfl:dV=.none:=Dflts.none hD hdf
  obtain rfl:kV=.none:=Dflts.noKw hD
  obtain⟨a,vs,ns,rfl,rfl,hobj,hints,hlen⟩:=uG hn hpre hwl
  refine enter_call (codeAny_mono (call w s₀ s₁ mg mb fa o pm cd doc a vs ns G Y ho (fd_plain hd) hcd hmg hobj hints hlen hg) fun r s' hq=>?_)
  obtain⟨rfl,h2,h3,h4⟩:=hq
  exact⟨.inl ⟨.bool true,.bool true,[],rfl,fun _=>rfl,.bool true,uP l _,fun _=>⟨List.Pairwise.nil,fun _ hm=>(nomatch hm)⟩⟩,h2,h3,h4⟩
section
variable {prog:Program} {w:World} {A:Around} {E:Value->Shared->Prop} {s:Shared} {K:Frag}
def ledger(h:Heap)(L d:Addr):List (Addr×Obj):=(List.range h.objs.size).filterMap fun a=>if a=L\/a=d then none else(h.get? a).map fun o=>(a,o)
end
end Att
namespace L2
open PySem PySem.Spec PyProof.Rows
theorem mH:∀ {vs:List Value} {ns:List Int},IntsAre vs ns->Vals (ns.map V.int) vs
 | _,_,.nil=>.nil
 | _,_,.cons n t h=>.cons ⟨t,rfl⟩ (mH h)
def Only(H:Hp):Prop:=∀ b,H b=none\/∃ o xs,H b=some (.frz o (.lst xs))
theorem yP{P:Program}{w:World}{K:PySem.W.Frag}{mg mb:Str->Option Value}{CX:CXT}{k:Nat}{fa a:Addr}{fd:FuncData}{x:Str}{sp:Sp}{s₁:Shared}{vs:List Value}{ns:List Int}
    (KX:K.In s₁.heap) (hns:s₁.heap.Ns mainGlobals mg) (hb:s₁.heap.Ns builtinsNs mb) (hbb:∀ x:Str,x≠"__name__"->mb x=bootBuiltins x) (hlim:s₁.heap.NoLimit) (hg:s₁.gens = #[])
    (ha:s₁.heap.get? a=some { cls:=.type "list",data:=.seq vs.toArray }) (hi:IntsAre vs ns) (hl:ns.length<=sizeLine) (hr:Room k callerA)
    (F:∀ base:Heap,K.In base->base.Ns mainGlobals mg->FnOk P w K mg base CX k fa fd [x] sp) (hbind:∀ (s:Shared) (u:Value),BindsTo s fd ⟨[u],[]⟩ [(x,u)])
    (hsp:∀ H:Hp,Only H->SqL K H a (ns.map V.int)->sp [.ref a] H (fun v _=>v=.bl true) fun _ _ _=>False)
    (hCX:∀ H e s',CX [] H s₁ (fun _ _ _=>False) e s'->False) :
    codeAny (model P w) callerA (.call (.ref fa) ⟨[.ref a],[]⟩) (fun r s'=>r=.ok (.ret (.bool true))/\OldK s₁.heap s'.heap/\s'.os=s₁.os/\AllBare s'.gens) s₁:=by
  have rv:=mH hi
  have lenV:=hi.length
  have core:∀ H:Hp,Only H->SqL K H a (ns.map V.int)->HOk P w H s₁.heap->(∀ b,H b≠none->b=a)->(H a≠none->K.lookup a=none) ->
      codeAny (model P w) callerA (.call (.ref fa) ⟨[.ref a],[]⟩) (fun r s'=>r=.ok (.ret (.bool true))/\OldK s₁.heap s'.heap/\s'.os=s₁.os/\AllBare s'.gens) s₁:=by
    intro H hO hS hok hA hK
    have base_of:∀ {b:Addr} {o:Obj},s₁.heap.get? b=some o->H b=none->(yW s₁.heap H).get? b=some o:=fun e n=>yV e n
    have noA:∀ {b:Addr} {o:Obj} {es:Array DictEntry} {ep:Nat},s₁.heap.get? b=some o->o.data=.dict es ep->H b=none:=fun {b o es ep} e d=>by
      cases q:H b with
      | none=>rfl
      | some u =>
        have e':b=a:=hA b (by rw[q];simp)
        subst e'
        rw[ha] at e;cases e
        have d':Data.seq vs.toArray _=Data.dict es ep:=d
        cases d'
    have nsK:∀ {b:Addr} {m:Str->Option Value},s₁.heap.Ns b m->(yW s₁.heap H).Ns b m:=fun {b m} ⟨o,es,ep,e,d,r⟩=>⟨o,es,ep,base_of e (noA e d),d,r⟩
    have hKb:K.In (yW s₁.heap H):=fun b o e=>base_of (KX b o e) (by
      cases q:H b with
      | none=>rfl
      | some u =>
        have e':b=a:=hA b (by rw[q];simp)
        subst e'
        rw[hK (by rw[q];simp)] at e;cases e)
    have hM:Mod K mg (yW s₁.heap H):=⟨hKb,nsK hns,⟨mb,nsK hb,hbb⟩,let ⟨mc,h1,h2⟩:=hlim;⟨mc,nsK h1,h2⟩⟩
    have e0:Env0 P w K mg (yW s₁.heap H) callerA [] s₁ H:=⟨rfl,hM,fun b o e=>DX e,Nat.le_of_eq (vK _ _),trivial,fun b hb=>absurd (show b∈([]:List Addr) from hb) (by simp),hok,.of_eq hg⟩
    refine codeAny_mono ((F _ hKb (nsK hns)).run callerA [] s₁ H ⟨[.ref a],[]⟩ [.ref a] [.ref a] _ _ hr e0 (hbind s₁ (.ref a)) (.cons rfl .nil) (hsp H hO hS)) fun r s' h=>?_
    cases r with
    | error e=>exact(hCX H e s' h).elim
    | ok fl =>
      cases fl with
      | next=>exact False.elim h
      | brk=>exact False.elim h
      | cont=>exact False.elim h
      | ret u =>
        obtain⟨v,H',os,bare,un,hok',r',q⟩:=h
        have q':v=.bl true:=q
        subst q'
        obtain rfl:u=Value.bool true:=r'
        refine⟨rfl,OldK.of_keep fun b o e=>?_,os,bare⟩
        cases q:H b with
        | none=>exact un.keep b o e q (by intro z;exact absurd (show b∈([]:List Addr) from z) (by simp)) (by simp)
        | some u =>
          rcases hO b with z | ⟨ob,xs,z⟩
          · rw[q] at z;cases z
          · have z2:=un.frzs b ob _ z
            obtain⟨e1,_⟩:=hok b _ z
            obtain⟨e2,_⟩:=hok' b _ z2
            rw[e] at e1;cases e1
            exact e2
  cases hk:K.lookup a with
  | some o =>
    have e:=KX a o hk
    rw[ha] at e
    cases e
    refine core (fun _=>none) (fun _=>.inl rfl) (.inr ⟨_,vs.toArray,_,hk,rfl,rfl,rfl,by rw[List.size_toArray,lenV];exact hl,by simpa using rv⟩) (fun b u z=>by have z':(none:Option HO)=some u:=z;cases z') (fun b z=>absurd rfl z) fun z=>absurd rfl z
  | none =>
    refine core (fun b=>if b=a then some (.frz { cls:=.type "list",data:=.seq vs.toArray } (.lst (ns.map V.int))) else none) (fun b=>?_) (.inl (.inr ⟨{ cls:=.type "list",data:=.seq vs.toArray },if_pos rfl⟩)) (fun b u z=>?_) (fun b z=>?_) fun _=>hk
    · by_cases hb:b=a
      · exact .inr ⟨_,_,if_pos hb⟩
      · exact .inl (if_neg hb)
    · by_cases hb:b=a
      · have z':=(if_pos hb).symm.trans z
        cases z'
        subst hb
        exact⟨ha,by rw[List.length_map];exact hl,vs,_,rv,ha⟩
      · have z':=(if_neg hb).symm.trans z
        cases z'
    · by_cases hb:b=a
      · exact hb
      · exact absurd (if_neg hb) z
end L2
namespace L2
open PySem PySem.Spec PyProof.Rows
theorem Cd{l:PySem.W.OpenLaw}{n k:Nat}{q:Program}{loose:List Str}{XP:(Str->Option Value)->Heap->Prop}{YP:World->Heap->Prop}{d:DefRec}{K:Params->PySem.W.Frag}{CX:World->CXT}{sp:World->Sp}{x:Str}
    (hn:l.most=some n) (hn2:n<=sizeLine) (hdf:d.params.defaults=[]) (hr:Room k callerA)
    (hY:∀ (w:World) (h:Heap),YP w h->(K w.params).In h)
    (F:∀ (w:World) (mg:Str->Option Value) (fa:Addr) (h:Heap),(K w.params).In h->h.Ns mainGlobals mg->mg d.name=some (.ref fa) ->
      ∃ fd : FuncData, (∀ (s : Shared) (u : Value), BindsTo s fd ⟨[u], []⟩ [(x, u)]) /\
        ∀ base:Heap,(K w.params).In base->base.Ns mainGlobals mg->FnOk l.prog w (K w.params) mg base (CX w) k fa fd [x] (sp w))
    (hsp:∀ (w:World) (H:Hp) (a:Addr) (ns:List Int),ns.length<=n->Only H->SqL (K w.params) H a (ns.map V.int)->sp w [.ref a] H (fun v _=>v=.bl true) fun _ _ _=>False)
    (hCX:∀ (w:World) (H:Hp) (s:Shared) (e:Value) (s':Shared),CX w [] H s (fun _ _ _=>False) e s'->False) :
    PySem.W.WalkO q loose XP YP l.row.toRowW d [] (fun f vs=>PySem.call f vs):=by
  refine Att.pI hn hdf fun w s₀ s₁ mg mb fa o pm cd doc a vs ns G Y ho hd hcd hmg hobj hints hlen hg=>?_
  have KX:=hY w _ Y
  obtain⟨fd,hb,hF⟩:=F w mg fa _ KX G.T.g hmg
  exact yP KX G.T.g G.T.b G.T.builtins G.T.nolimit hg hobj hints (Nat.le_trans hlen hn2) hr hF hb (fun H hO hS=>hsp w H a ns hlen hO hS) fun H e s'=>hCX w H s₁ e s'
end L2
namespace L2
open PySem PySem.Spec PyProof.Rows
def dX(s:Stmt):Arguments:=match s with
 | .FunctionDef _ a _ _ _ _ _ _ _ _=>a
 | _=>{ posonlyargs:=[],args:=[],vararg:=none,kwonlyargs:=[],kw_defaults:=[],kwarg:=none,defaults:=[] }
def bM(s:Stmt):List Stmt:=match s with
 | .FunctionDef _ _ b _ _ _ _ _ _ _=>b
 | _=>[]
def aZ(s:Stmt):Scope:=match s with
 | .FunctionDef _ _ _ _ _ _ sc _ _ _=>sc
 | _=>{ kind:=.function,names:=[],isGenerator:=false,isCoroutine:=false }
abbrev CX0:CXT:=fun _ _ _ _ _ _=>False
abbrev E0:XK:=fun _ _ _=>False
structure Fun (K:PySem.W.Frag) (x qual:Str) (st:Stmt) (f:Addr) (fd:FuncData):Prop where
 ex:∃ (oc:Value) (od:Option Addr) (kV doc pm:Value) (an:Option Addr) (cdv ct:Value) (osl:Array (Option Value)),
  fd=PySem.W.fnOf x qual (dX st) (bM st) (aZ st) .none kV doc pm an cdv ct/\K.lookup f=some ⟨oc,od,.func fd,osl⟩/\PySem.W.codeIn K cdv qual=true
 kp:PySem.W.keepIn K (.ref f)=true
section
variable {P:Program} {w:World} {K:PySem.W.Frag} {mg:Str->Option Value} {base:Heap}
theorem Fun.binds{x qual:Str}{st:Stmt}{f:Addr}{fd:FuncData}{ps:List Str}(F:Fun K x qual st f fd)
  (h:∀ (kV doc pm:Value) (an:Option Addr) (cdv ct:Value) (us:List Value),us.length=ps.length->bindArgs (PySem.W.fnOf x qual (dX st) (bM st) (aZ st) .none kV doc pm an cdv ct) ⟨us,[]⟩=pure (ps.zip us)):Binds K fd ps []:=by
 obtain⟨oc,od,kV,doc,pm,an,cdv,ct,osl,rfl,lk,hcd⟩:=F.ex
 exact .all (h kV doc pm an cdv ct)
theorem vO{x qual:Str}{st:Stmt}{f:Addr}{oc:Value}{od an:Option Addr}{osl:Array (Option Value)}{kV doc pm cdv ct:Value}(l:K.lookup f=some ⟨oc,od,.func (PySem.W.fnOf x qual (dX st) (bM st) (aZ st) .none kV doc pm an cdv ct),osl⟩)
  (c:PySem.W.codeIn K cdv qual=true) (k:PySem.W.keepIn K (.ref f)=true):Fun K x qual st f (PySem.W.fnOf x qual (dX st) (bM st) (aZ st) .none kV doc pm an cdv ct):=⟨⟨oc,od,kV,doc,pm,an,cdv,ct,osl,rfl,l,c⟩,k⟩
end
theorem JV{A:Around}{k:Nat}(hr:Room k A):A.units+1<cLine:=Nat.lt_of_le_of_lt (Nat.add_le_add_left (by decide:1<=64) _) hr.units
section
variable {X:Cx}
end
theorem vH{A B:Prop}(h:B):if false=true then A else B:=by
 rw[if_neg Bool.false_ne_true]
 exact h
theorem tQ{A B:Prop}(h:A):if true=true then A else B:=by
 rw[if_pos rfl]
 exact h
def Same(H H':Hp):Prop:=∀ b o,H b=some o->H' b=some o
theorem Same.refl(H:Hp):Same H H:=fun _ _ h=>h
theorem Same.trans{H H1 H2:Hp}(a:Same H H1)(b:Same H1 H2):Same H H2:=fun c o h=>b c o (a c o h)
theorem Same.free{H H':Hp}(e:Same H H'){l:Addr}(h:H' l=Option.none):H l=Option.none:=by
  cases q:H l with
  | none=>rfl
  | some o =>
    rw[e l o q] at h
    cases h
theorem Same.seq{K:PySem.W.Frag}{H H':Hp}{a:Addr}{xs:List V}(e:Same H H')(h:SqL K H a xs):SqL K H' a xs:=by
 rcases h with(h | ⟨o,h⟩) | h
 ·exact .inl (.inl (e _ _ h))
 ·exact .inl (.inr ⟨o,e _ _ h⟩)
 ·exact .inr h
end L2
namespace L2
open PySem PySem.Spec PyProof.Rows
def iG(cells:List (Str×Addr)):List (Str×NameKind)->List (Str×Addr)->List (Str×Addr)
 | [],acc=>acc
 | (x,k)::r,acc=>if k==.free then iG cells r ((x,(cells.lookup x).getD 0)::acc) else iG cells r acc
theorem lM{env:Env}(f:Str×NameKind->List (Str×Addr)->Sem (ForInStep (List (Str×Addr))))
    (hf:∀ name kind cs,f (name,kind) cs=if kind==.free then(do let a <- cellOf env name;pure (.yield ((name,a)::cs))) else pure (.yield cs)) :
    ∀ (l:List (Str×NameKind)) (acc:List (Str×Addr)),(∀ x,(x,NameKind.free)∈l->∃ c,env.cells.lookup x=some c)->(forIn l acc f:Sem (List (Str×Addr)))=pure (iG env.cells l acc)
  | [],acc,_=>by rw[List.forIn_nil];rfl
  | (x, k) :: r, acc, h => by
    rw[List.forIn_cons,hf]
    unfold iG
    cases hk:k==NameKind.free with
    | false =>
      simp only[Bool.false_eq_true,if_false]
      show(forIn r acc f:Sem _)=_
      exact lM f hf r acc fun y hy=>h y (List.mem_cons_of_mem _ hy)
    | true =>
      simp only[if_true]
      have ek:k=.free:=by simpa using hk
      obtain⟨c,hc⟩:=h x (by rw[ek];exact List.mem_cons_self)
      have e1:cellOf env x=pure c:=by unfold cellOf;rw[hc]
      rw[e1,hc]
      show(forIn r ((x,c)::acc) f:Sem _)=_
      exact lM f hf r _ fun y hy=>h y (List.mem_cons_of_mem _ hy)
theorem fB{env:Env}{scope:Scope}(h:∀ x,(x,NameKind.free)∈scope.names->∃ c,env.cells.lookup x=some c):closureFor scope env=pure (iG env.cells scope.names []):=by
 simp only[closureFor]
 rw[lM (env:=env) _ (fun name kind cs=>by cases hk:kind==NameKind.free<;>simp[hk]) scope.names [] h]
 rfl
theorem oH{M:Model}{A:Around}{E:Value->Shared->Prop}{s:Shared}{scope:Scope}{globals:Addr}{closure:List (Str×Addr)}{qual:Str}{outer:Env}{Q:Env->Shared->Prop}
  (hQ:Q (newEnv scope s.heap.objs.size globals (cellsFrom (s.heap.objs.size+1) scope.names closure) qual none .none (some outer) builtinsNs) { s with heap:=pushCells (s.heap.push { cls:=.type "dict",data:=.dict #[] }) scope.names }) :
  wpAny M A (newFunctionEnv scope globals closure [] qual none .none (some outer)) Q E s:=by
 simp only[newFunctionEnv,Option.isSome_some,if_true]
 refine wpAny_bind (wpAny_alloc ?_)
 refine wpAny_bind (wpAny_layCells _ (fun name kind cells=>by cases hkc:kind==NameKind.cell<;>simp[hkc]) _ _ _ _ ?_)
 rw[show({ s with heap:=s.heap.push { cls:=.type "dict",data:=.dict #[] } }:Shared).heap.objs.size=s.heap.objs.size+1 from Heap.size_push ..]
 rw[List.forIn_nil]
 exact wpAny_bind (wpAny_pure (wpAny_pure hQ))
theorem gB{α:Type}:∀ {l:List (Str×α)} {x:Str} {c:α},(x,c)∈l->∃ d,l.lookup x=some d
  | (y, d) :: r, x, c, h => by
    rw[List.lookup_cons]
    cases hb:x==y with
    | true=>exact⟨d,rfl⟩
    | false =>
      rcases List.mem_cons.mp h with e | h
      · cases e;simp at hb
      · exact gB h
theorem bL{α:Type}:∀ {l:List (Str×α)} {x:Str} {c:α},(l.map (·.1)).Nodup->(x,c)∈l->l.lookup x=some c
  | (y, d) :: r, x, c, hn, h => by
    rw[List.map_cons,List.nodup_cons] at hn
    rw[List.lookup_cons]
    rcases List.mem_cons.mp h with e | h'
    · cases e;simp
    · have hne:(x==y)=false:=by
        rw[beq_eq_false_iff_ne]
        intro exy
        exact hn.1 (List.mem_map.mpr ⟨(x,c),h',exy⟩)
      rw[hne]
      exact bL hn.2 h'
theorem cU{x:Str}{c:Addr}:∀ (names:List (Str×NameKind)) (n:Nat) (acc:List (Str×Addr)),(cellsFrom n names acc).lookup x=some c ->
    ((x,NameKind.cell)∈names/\n<=c)\/((x,NameKind.cell)∉names/\acc.lookup x=some c)
  | [],_,_,h=>.inr ⟨by simp,h⟩
  | (y, k) :: r, n, acc, h => by
    unfold cellsFrom at h
    cases hk:k==NameKind.cell with
    | true =>
      have ek:k=.cell:=by simpa using hk
      subst ek
      rw[if_pos (show(NameKind.cell==NameKind.cell)=true from rfl)] at h
      rcases cU r _ _ h with⟨h1,h2⟩ | ⟨h1,h2⟩
      · exact .inl ⟨List.mem_cons_of_mem _ h1,by omega⟩
      · rw[List.lookup_cons] at h2
        cases hb:x==y with
        | true =>
          rw[hb] at h2
          cases h2
          have:x=y:=by simpa using hb
          subst this
          exact .inl ⟨List.mem_cons_self,Nat.le_refl _⟩
        | false =>
          rw[hb] at h2
          refine .inr ⟨fun hm=>?_,h2⟩
          rcases List.mem_cons.mp hm with e | hm
          · cases e;simp at hb
          · exact h1 hm
    | false =>
      rw[hk] at h
      simp only[Bool.false_eq_true,if_false] at h
      rcases cU r _ _ h with⟨h1,h2⟩ | ⟨h1,h2⟩
      · exact .inl ⟨List.mem_cons_of_mem _ h1,h2⟩
      · refine .inr ⟨fun hm=>?_,h2⟩
        rcases List.mem_cons.mp hm with e | hm
        · cases e;simp at hk
        · exact h1 hm
theorem dF:∀ (names:List (Str×NameKind)) (n:Nat) (acc:List (Str×Addr)),(acc.Pairwise fun x y=>x.2≠y.2)->(∀ p∈acc,p.2<n)->(cellsFrom n names acc).Pairwise fun x y=>x.2≠y.2
  | [],_,_,h,_=>h
  | (y, k) :: r, n, acc, h, hl => by
    unfold cellsFrom
    split
    · refine dF r _ _ (List.pairwise_cons.mpr ⟨fun p hp e=>?_,h⟩) fun p hp=>?_
      · have e':n=p.2:=e
        have q:=hl p hp
        rw[<- e'] at q
        exact Nat.lt_irrefl _ q
      · rcases List.mem_cons.mp hp with e | hp
        · subst e;exact Nat.lt_succ_self _
        · exact Nat.lt_succ_of_lt (hl p hp)
    · exact dF r _ _ h hl
theorem pC{cells:List (Str×Addr)}(inj:∀ x y c,cells.lookup x=some c->cells.lookup y=some c->x=y):∀ (names:List (Str×NameKind)) (acc:List (Str×Addr)),(names.map (·.1)).Nodup->(∀ x,(x,NameKind.free)∈names->∃ c,cells.lookup x=some c) ->
    (acc.Pairwise fun x y=>x.2≠y.2)->(∀ p∈acc,cells.lookup p.1=some p.2/\p.1∉names.map (·.1))->((iG cells names acc).Pairwise fun x y=>x.2≠y.2)/\∀ p∈iG cells names acc,cells.lookup p.1=some p.2
  | [],acc,_,_,h1,h2=>⟨h1,fun p hp=>(h2 p hp).1⟩
  | (y, k) :: r, acc, hn, hf, h1, h2 => by
    rw[List.map_cons,List.nodup_cons] at hn
    have hf':∀ x,(x,NameKind.free)∈r->∃ c,cells.lookup x=some c:=fun x hx=>hf x (List.mem_cons_of_mem _ hx)
    unfold iG
    split
    · rename_i hk
      have ek:k=.free:=by simpa using hk
      subst ek
      obtain⟨c,hc⟩:=hf y List.mem_cons_self
      rw[hc]
      refine pC inj r _ hn.2 hf' (List.pairwise_cons.mpr ⟨fun p hp e=>?_,h1⟩) fun p hp=>?_
      · have e':c=p.2:=e
        obtain⟨a1,a2⟩:=h2 p hp
        rw[<- e'] at a1
        have:=inj _ _ _ a1 hc
        exact a2 (by rw[this];simp)
      · rcases List.mem_cons.mp hp with e | hp
        · subst e;exact⟨hc,hn.1⟩
        · exact⟨(h2 p hp).1,fun z=>(h2 p hp).2 (List.mem_cons_of_mem _ z)⟩
    · exact pC inj r _ hn.2 hf' h1 fun p hp=>⟨(h2 p hp).1,fun z=>(h2 p hp).2 (List.mem_cons_of_mem _ z)⟩
theorem lV{cells:List (Str×Addr)}{p:Str×Addr}:∀ (names:List (Str×NameKind)) (acc:List (Str×Addr)),p∈acc->p∈iG cells names acc
  | [],_,h=>h
  | (y, k) :: r, acc, h => by
    unfold iG
    split
    · exact lV r _ (List.mem_cons_of_mem _ h)
    · exact lV r _ h
theorem lU{cells:List (Str×Addr)}{x:Str}:∀ (names:List (Str×NameKind)) (acc:List (Str×Addr)),(x,NameKind.free)∈names->∃ c,(x,c)∈iG cells names acc
  | (y, k) :: r, acc, h => by
    unfold iG
    rcases List.mem_cons.mp h with e | h
    · cases e
      rw[if_pos (show(NameKind.free==NameKind.free)=true from rfl)]
      exact⟨_,lV r _ List.mem_cons_self⟩
    · split
      · exact lU r _ h
      · exact lU r _ h
theorem dW{env:Env}{x:Str}:∀ (names:List (Str×NameKind)),
    (names.map fun(n,k)=>if(k==NameKind.free&&env.scope.kind==.function&&env.kindOf n==some .cell) then(n,NameKind.cell) else(n,k)).lookup x =
      (names.lookup x).map fun k=>if(k==NameKind.free&&env.scope.kind==.function&&env.kindOf x==some .cell) then NameKind.cell else k
  | []=>rfl
  | (y, k) :: r => by
    have ih:=dW (x:=x) (env:=env) r
    by_cases hx:x=y
    · subst hx
      cases hc:(k==NameKind.free&&env.scope.kind==.function&&env.kindOf x==some .cell)<;>simp only[List.map_cons,hc,List.lookup_cons,beq_self_eq_true,Option.map_some,if_true,if_false,Bool.false_eq_true]
    · have hb:(x==y)=false:=by simpa using hx
      cases hc:(k==NameKind.free&&env.scope.kind==.function&&env.kindOf y==some .cell)<;>simp only[List.map_cons,hc,List.lookup_cons,hb,if_true,if_false,Bool.false_eq_true]<;>exact ih
def qg(N:List Str)(σ:St)(x:Str):Option V:=match N.idxOf? x with
 | some j=>(σ[j]?).getD none
 | none=>none
def oJ(N:List Str)(names:List (Str×NameKind))(σ:St):St:=names.map fun p=>if p.2==.free then qg N σ p.1 else none
def qX(scope:Scope)(cells:List (Str×Addr))(C:Addr)(env:Env):Env :=
 { scope:=relabel scope env,locals:=C,globals:=env.globals,cells:=cells,qual:=env.qual,func:=none,code:=env.code,frame:=env.frame,builtins:=env.builtins }
structure CompOf (X:Cx) (scope:Scope) (Xc:Cx):Prop where
 prog:Xc.prog=X.prog
 w:Xc.w=X.w
 K:Xc.K=X.K
 mg:Xc.mg=X.mg
 base:Xc.base=X.base
 A:Xc.A=X.A
 N:Xc.N=scope.names.map (·.1)
 sc:Xc.env.scope=relabel scope X.env
 calm:Xc.calm=true
 fn:Xc.fn=fun x=>scope.names.lookup x==some .cell
 xe:Xc.xe=fun _ _=>False
def nJ(X:Cx)(scope:Scope)(cells:List (Str×Addr))(C:Addr)(s:Shared)(H:Hp)(fp:List Addr):Cx where
 prog:=X.prog
 w:=X.w
 K:=X.K
 mg:=X.mg
 base:=X.base
 A:=X.A
 N:=scope.names.map (·.1)
 s₀:=s
 H₀:=H
 env:=qX scope cells C X.env
 outer:=X.stack
 stack:=X.stack
 ex:=fp
 fn:=fun x=>scope.names.lookup x==some .cell
 calm:=true
 pn:=[]
 xe:=fun _ _=>False
def xP(X:Cx)(ifs:List Expr)(t:TT):Prop :=
  ∀ (pins : List (Addr × Obj)) (s : Shared) (σ : St) (H : Hp) (Q : Bool -> Hp -> Prop), Inv X pins σ H s -> t σ H Q ->
    wpAny (model X.prog X.w) X.A (forIn ifs true fun c r=>if r=true then do let ok <- isTrue c X.env (eval c X.env);pure (ForInStep.yield ok) else pure (ForInStep.yield r)) (TP X pins σ Q) X.xe s
theorem yu{X:Cx}:xP X [] (fun _ H Q=>Q true H):=fun _ _ _ H _ I h=>wpAny_tests_nil ⟨H,I,h⟩
theorem yt{X:Cx}{c:Expr}{t:TT}(h:PT X c t):xP X [c] t:=fun pins s σ H Q I hw=>wpAny_tests_one (h pins s σ H Q I hw)
def oA(X:Cx)(scope:Scope)(wi:TI)(mk:St->St)(g:Cx->TG)(tc:Cx->TT)(te:Cx->TE):TE:=fun σ H Q=>wi σ H fun J H1=>∀ acc,H1 acc=none->∀ Xc,CompOf X scope Xc ->
  ∃ W : Nat -> Nat -> St -> Hp -> Prop, (∃ m, W 0 m (mk σ) (upd H1 acc (.lst []))) /\ ∀ i m σc H, W i m σc H ->
    (J.stop i H/\Q (.ref acc) H)\/(J.go i H/\∃ N:St->Hp->Prop,(∀ σ' H',N σ' H'->∃ m',m'<m/\W (i+1) m' σ' H')/\∀ x H',J.yld i H x H' ->
      g Xc x σc H' fun σ2 H2=>tc Xc σ2 H2 fun b H3=>if b=true then te Xc σ2 H3 fun v H4=>∃ ys,H4 acc=some (.lst ys)/\ys.length<sizeLine/\N σ2 (upd H4 acc (.lst (ys++[v]))) else N σ2 H3)
theorem fK{prog:Program}{w:World}{A:Around}{R:Result->Shared->Prop}{s:Shared}{elt target iter:Expr}{ifs:List Expr}{scope:Scope}{pos:Pos}{it acc:Value}{env:Env}(I:Nat->Shared->Prop)
    (turn:∀ n s,I n s->wpAny (model prog w) A (pyNext it) (fun r s₁=>match r with
      | none=>R (.ok .next) s₁
      | some v=>wpAny (model prog w) A (letOwnedTupleGo target it v) (fun _ s₁'=>wpAny (model prog w) A (assign target env v) (fun _ s₂ =>
          wpAny (model prog w) A (forIn ifs true fun c r=>if r=true then do let ok <- isTrue c env (eval c env);pure (ForInStep.yield ok) else pure (ForInStep.yield r)) (fun ok s₃ =>
            if ok=true then wpAny (model prog w) A (eval elt env) (fun x s₄ =>
              wpAny (model prog w) A (call (.builtin "list.append") [acc,x]) (fun _ s₅=>∃ m,m<n/\I m s₅) (fun _ _=>False) s₄) (fun _ _=>False) s₃
            else ∃ m,m<n/\I m s₃) (fun _ _=>False) s₂) (fun _ _=>False) s₁') (fun _ _=>False) s₁) (fun _ _=>False) s)
    (n:Nat) (h:I n s) :
    codeAny (model prog w) A (.compLoop (.ListComp elt [⟨target,iter,ifs,0⟩] scope pos) 0 it acc env) R s:=by
  refine codeAny_loop rfl I (fun n s hI=>?_) n h
  show wpAny _ A ((compTurn (.ListComp elt [⟨target,iter,ifs,0⟩] scope pos) 0 it acc env).onRaise (fun x=>do noteFrame x env;theTreesLotGoes x)) _ _ s
  refine wpAny_noted ?_
  rw[compTurn_list]
  refine wpAny_bind (wpAny_standAt (wpAny_bind (wpAny_mono (turn n s hI) (fun r s₁ h₁=>?_) fun _ _ h'=>h'.elim)))
  cases r with
  | none=>exact wpAny_pure h₁
  | some v =>
    refine wpAny_bind (wpAny_mono h₁ (fun _ s₁' h₁'=>?_) fun _ _ h'=>h'.elim)
    refine wpAny_bind (wpAny_mono h₁' (fun _ s₂ h₂=>wpAny_bind (wpAny_mono h₂ (fun ok s₃ h₃=>?_) fun _ _ h'=>h'.elim)) fun _ _ h'=>h'.elim)
    cases ok with
    | false=>exact wpAny_pure ⟨rfl,h₃⟩
    | true =>
      exact wpAny_bind (wpAny_bind (wpAny_mono h₃ (fun x s₄ h₄=>wpAny_bind (wpAny_mono h₄ (fun _ s₅ h₅=>wpAny_pure (wpAny_pure ⟨rfl,h₅⟩)) fun _ _ h'=>h'.elim)) fun _ _ h'=>h'.elim))
section
variable {X:Cx}
theorem iC{pins:List (Addr×Obj)}{σ:St}{H:Hp}{s:Shared}{scope:Scope}(I:Inv X pins σ H s)(hnd:(scope.names.map (·.1)).Nodup)
  (hcap:∀ x,(x,NameKind.free)∈scope.names->X.env.kindOf x=some .cell\/X.env.kindOf x=some .free) :
  (∀ x,(x,NameKind.free)∈scope.names->∃ c,X.env.cells.lookup x=some c) /\
  ((cellsFrom (s.heap.objs.size+1) scope.names (iG X.env.cells scope.names [])).Pairwise fun x y=>x.2≠y.2) /\
  (∀ x c,(cellsFrom (s.heap.objs.size+1) scope.names (iG X.env.cells scope.names [])).lookup x=some c->((x,NameKind.cell)∈scope.names/\s.heap.objs.size+1<=c)\/((x,NameKind.cell)∉scope.names/\X.env.cells.lookup x=some c/\c<s.heap.objs.size)) /\
  (∀ x,(x,NameKind.free)∈scope.names->(cellsFrom (s.heap.objs.size+1) scope.names (iG X.env.cells scope.names [])).lookup x=X.env.cells.lookup x):=by
 have hf:∀ x,(x,NameKind.free)∈scope.names->∃ c,X.env.cells.lookup x=some c:=fun x hx=>I.ok.has x (hcap x hx)
 have ok:=pC I.ok.inj scope.names [] hnd hf List.Pairwise.nil (fun p hp=>absurd hp (by simp))
 have small:∀ x c,X.env.cells.lookup x=some c->c<s.heap.objs.size:=fun x c e=>by
  obtain⟨v,z⟩:=I.cell x c e
  exact z.lt
 refine⟨hf,dF _ _ _ ok.1 fun p hp=>Nat.lt_succ_of_lt (small p.1 p.2 (ok.2 p hp)),fun x c e=>?_,fun x hx=>?_⟩
 ·rcases cU _ _ _ e with h | ⟨h1,h2⟩
  ·exact .inl h
  ·have h3:=ok.2 _ (PySem.mem_of_lookup h2)
   exact .inr ⟨h1,h3,small _ _ h3⟩
 ·obtain⟨c,hc⟩:=hf x hx
  have nc:(x,NameKind.cell)∉scope.names:=fun z=>by
   have e1:=bL hnd z
   rw[bL hnd hx] at e1
   cases e1
  obtain⟨d,hd⟩:=lU (cells:=X.env.cells) scope.names [] hx
  obtain⟨d',hd'⟩:=gB hd
  have hs:((cellsFrom (s.heap.objs.size+1) scope.names (iG X.env.cells scope.names [])).lookup x).isSome=true:=PySem.W.cellsFrom_some _ _ _ (.inr (by rw[hd'];rfl))
  obtain⟨c',hc'⟩:=Option.isSome_iff_exists.mp hs
  rcases cU _ _ _ hc' with⟨h,_⟩ | ⟨_,h2⟩
  ·exact absurd h nc
  ·rw[hc',ok.2 _ (PySem.mem_of_lookup h2)]
theorem Dv:∀ (names:List (Str×NameKind)) (h:Heap) (acc:List (Str×Addr)) {x:Str} {c:Addr},(cellsFrom h.objs.size names acc).lookup x=some c->(x,NameKind.cell)∈names->(pushCells h names).IsCell c none:=by
  intro names
  induction names with
  | nil=>intro h acc x c e hx;cases hx
  | cons p r ih =>
    obtain⟨y,k⟩:=p
    intro h acc x c e hx
    unfold cellsFrom at e
    unfold pushCells
    by_cases hin:(x,NameKind.cell)∈r
    · split at e
      · rename_i hk
        rw[if_pos hk]
        refine ih (h.push { cls:=.type "cell",data:=.cell none }) ((y,h.objs.size)::acc) ?_ hin
        rw[Heap.size_push];exact e
      · rename_i hk
        rw[if_neg hk]
        exact ih h acc e hin
    · rcases List.mem_cons.mp hx with ex | hx
      · cases ex
        rw[if_pos (show(NameKind.cell==NameKind.cell)=true from rfl)] at e ⊢
        rcases cU _ _ _ e with⟨h1,_⟩ | ⟨_,h2⟩
        · exact absurd h1 hin
        · rw[List.lookup_cons] at h2
          simp at h2
          subst h2
          exact⟨_,pushCells_keeps _ _ _ _ (Heap.get?_push_size _ rfl),rfl⟩
      · exact absurd hx hin
theorem zU{pins:List (Addr×Obj)}{σ:St}{H:Hp}{s:Shared}{scope:Scope}{fp:List Addr}(I:Inv X pins σ H s)(hc:X.calm=true)(hk:scope.kind=.function)(hnd:(scope.names.map (·.1)).Nodup)
    (hcap:∀ x,(x,NameKind.free)∈scope.names->X.env.kindOf x=some .cell\/X.env.kindOf x=some .free) (hfp:∀ b∈fp,tO X pins H b) (hlt:∀ b∈fp,b<s.heap.objs.size) :
    Inv (nJ X scope (cellsFrom (s.heap.objs.size+1) scope.names (iG X.env.cells scope.names [])) s.heap.objs.size s H fp) [] (oJ X.N scope.names σ) H { s with heap:=pushCells (s.heap.push { cls:=.type "dict",data:=.dict #[] }) scope.names }:=by
  obtain⟨hf,apart,look,same⟩:=iC I hnd hcap
  have keep:∀ b o,s.heap.get? b=some o->(pushCells (s.heap.push { cls:=.type "dict",data:=.dict #[] }) scope.names).get? b=some o:=fun b o e=>pushCells_keeps _ _ b o (Heap.get?_push_of_some _ e)
  have ckd:=cellsFrom_ok scope.names (s.heap.push { cls:=.type "dict",data:=.dict #[] }) (s.heap.objs.size+1) [] ⟨fun _ _ hm=>(nomatch hm),List.Pairwise.nil⟩ (by rw[Heap.size_push];exact Nat.le_refl _)
  rw[Heap.size_push] at ckd
  have own:∀ x c,(cellsFrom (s.heap.objs.size+1) scope.names (iG X.env.cells scope.names [])).lookup x=some c->(x,NameKind.cell)∈scope.names->(pushCells (s.heap.push { cls:=.type "dict",data:=.dict #[] }) scope.names).IsCell c none:=fun x c e hx=>Dv scope.names (s.heap.push { cls:=.type "dict",data:=.dict #[] }) _ (by rw[Heap.size_push];exact e) hx
  have kinds:∀ x,(nJ X scope (cellsFrom (s.heap.objs.size+1) scope.names (iG X.env.cells scope.names [])) s.heap.objs.size s H fp).env.kindOf x=(scope.names.lookup x).map fun k=>if(k==NameKind.free&&X.env.scope.kind==.function&&X.env.kindOf x==some .cell) then NameKind.cell else k:=fun x=>dW scope.names
  have fresh:∀ {b:Addr},s.heap.objs.size<=b->H b=none:=fun hb=>I.hok.fresh hb
  refine⟨⟨I.ok.mod,hk,I.ok.glob,I.ok.blt,Nat.le_refl _,fun x y c e1 e2=>name_of_addr apart (PySem.mem_of_lookup e1) (PySem.mem_of_lookup e2),fun x hx=>?_,fun x c hx e=>?_,fun _=>I.ok.hd hc,I.ok.frames,.inl rfl,fun b hb=>⟨Nat.ne_of_lt (hlt b hb),fun x c e=>?_⟩,I.bs,Nat.le_trans I.ok.bsz I.sz,fun b o e hb=>?_,fun b hb z=>?_,I.stack,I.stkFree⟩,
    rfl,I.bare,Un.kept keep,⟨fun _=>none,?_,fun i x v e1 e2 e3=>?_⟩,fun x c e=>?_,fresh (Nat.le_refl _),fun x c e=>?_,fun p hp=>absurd (show p∈([]:List (Addr×Obj)) from hp) (by simp),I.hok.kept keep,?_⟩
  ·
    rw[kinds x] at hx
    cases hl:scope.names.lookup x with
    | none=>rw[hl] at hx;rcases hx with h | h<;>cases h
    | some k =>
      rw[hl] at hx
      have hm:=PySem.mem_of_lookup hl
      cases k with
      | cell=>exact Option.isSome_iff_exists.mp (PySem.W.cellsFrom_some _ _ _ (.inl hl))
      | free =>
        obtain⟨c,h⟩:=hf x hm
        exact⟨c,(same x hm).trans h⟩
      | _=>simp at hx
  · have hm:(x,NameKind.cell)∈scope.names:=PySem.mem_of_lookup (by simpa[nJ] using hx)
    rcases look x c e with⟨_,h⟩ | ⟨h,_⟩
    · exact Nat.le_of_succ_le h
    · exact absurd hm h
  · rcases look x c e with⟨_,h⟩ | ⟨_,h,_⟩
    · exact Nat.ne_of_gt (Nat.lt_of_lt_of_le (hlt b hb) (Nat.le_of_succ_le h))
    · exact(hfp b hb).2.2.2.2.1 x c h
  · rcases(hfp b hb).2.2.2.1 with z | z
    · exact I.ok.noex b o e z
    · exact absurd (Nat.lt_of_lt_of_le (Heap.lt_size e) (Nat.le_trans I.ok.bsz z)) (Nat.lt_irrefl _)
  · rcases List.mem_cons.mp (I.stkSub b z) with h | h
    · exact(hfp b hb).2.1 h
    · exact(hfp b hb).2.2.1 h
  · exact(Heap.Ns.new s.heap (.type "dict")).keeps (pushCells_keeps _ _)
  ·
    have e1':(scope.names.map (·.1))[i]?=some x:=e1
    rw[List.getElem?_map] at e1'
    unfold oJ at e2
    rw[List.getElem?_map] at e2
    cases hp:scope.names[i]? with
    | none=>rw[hp] at e2;cases e2
    | some p =>
      rw[hp] at e1' e2
      have ex:p.1=x:=Option.some.inj e1'
      have e2':(if p.2==.free then qg X.N σ p.1 else none)=some v:=Option.some.inj e2
      cases hk2:p.2==NameKind.free with
      | false=>rw[hk2] at e2';simp at e2'
      | true =>
        rw[hk2] at e2'
        simp only[if_true] at e2'
        have ek:p.2=.free:=by simpa using hk2
        have hm:(x,NameKind.free)∈scope.names:=by
          have:=List.mem_of_getElem? hp
          rw[<- ex,<- ek];exact this
        unfold qg at e2'
        rw[ex] at e2'
        cases hj:X.N.idxOf? x with
        | none=>rw[hj] at e2';cases e2'
        | some j =>
          rw[hj] at e2'
          have e3:(σ[j]?).getD none=some v:=e2'
          have hσ:σ[j]?=some (some v):=by
            cases q:σ[j]? with
            | none=>rw[q] at e3;simp at e3
            | some o=>rw[q] at e3;simp at e3;rw[e3]
          have hN:X.N[j]?=some x:=by
            rw[List.idxOf?,List.findIdx?_eq_some_iff_getElem] at hj
            obtain⟨h1,h2,_⟩:=hj
            rw[List.getElem?_eq_getElem h1]
            simpa using h2
          obtain⟨m,hn,hl⟩:=I.loc
          have kx:=hcap x hm
          obtain⟨u,r,l⟩:=hl j x v hN hσ (by rcases kx with k | k;exact .inr (.inl k);exact .inr (.inr k))
          refine⟨u,r,.inr ⟨?_,?_⟩⟩
          · rw[kinds x,bL hnd hm]
            simp only[Option.map_some]
            split
            · exact .inl rfl
            · exact .inr rfl
          · rcases l with⟨k,_⟩ | ⟨_,c,hc',z⟩
            · rcases kx with k' | k'<;>(rw[k'] at k;cases k)
            · exact⟨c,(same x hm).trans hc',z.keeps keep⟩
  · rcases look x c e with⟨h,_⟩ | ⟨_,h,_⟩
    · exact⟨_,own x c e h⟩
    · obtain⟨v,z⟩:=I.cell x c h
      exact⟨v,z.keeps keep⟩
  · rcases look x c e with⟨_,h⟩ | ⟨_,h,_⟩
    · exact fresh (Nat.le_of_succ_le h)
    · exact I.freeC x c h
  · show(oJ X.N scope.names σ).length=(scope.names.map (·.1)).length
    unfold oJ
    rw[List.length_map,List.length_map]
structure Blk (X:Cx) (pins:List (Addr×Obj)) (H:Hp) (s:Shared) (C:Addr):Prop where
 ns:∃ m,s.heap.Ns C m
 free:H C=none
 loc:C≠X.env.locals
 abv:X.s₀.heap.objs.size<=C
 cel:∀ x c,X.env.cells.lookup x=some c->c≠C
 pin:∀ p∈X.pn++pins,p.1≠C
theorem nM{elt tg iter:Expr}{ifs:List Expr}{scope:Scope}{pos:Pos}{wi:TI}{g:Cx->TG}{tc:Cx->TT}{te:Cx->TE}(hc:X.calm=true)(hk:scope.kind=.function)(hnd:(scope.names.map (·.1)).Nodup)
    (hcap:∀ x,(x,NameKind.free)∈scope.names->X.env.kindOf x=some .cell\/X.env.kindOf x=some .free) (hi:PI X tg iter wi)
    (hin:∀ Xc:Cx,CompOf X scope Xc->PG Xc tg (g Xc)/\xP Xc ifs (tc Xc)/\PE Xc elt (te Xc)) {pins:List (Addr×Obj)} {s:Shared} {σ:St} {H:Hp} {Q:VK} (I:Inv X pins σ H s) (h:oA X scope wi (oJ X.N scope.names) g tc te σ H Q) {R:Value->Addr->Result->Shared->Prop}
    (fin:∀ acc C H' s',Inv X pins σ H' s'->Blk X pins H' s' C->Q (.ref acc) H'->R (.ref acc) C (.ok .next) s') :
    wpAny (model X.prog X.w) X.A (eval iter X.env) (fun x s₁=>wpAny (model X.prog X.w) X.A (pyIter x) (fun it s₂=>wpAny (model X.prog X.w) X.A (newList []) (fun acc s₃ =>
      wpAny (model X.prog X.w) X.A (newFunctionEnv scope X.env.globals (iG X.env.cells scope.names []) [] X.env.qual none .none (some X.env)) (fun cenv s₄ =>
        codeAny (model X.prog X.w) X.A (.compStart (.ListComp elt [⟨tg,iter,ifs,0⟩] scope pos) 0 it acc { cenv with scope:=relabel scope X.env }) (R acc cenv.locals) s₄) X.xe s₃) X.xe s₂) X.xe s₁) X.xe s:=by
  refine thn (hi pins s σ H _ I h) fun v s1 h1=>thn h1 fun itv s2 h2=>?_
  obtain⟨it,fp,tn,J,H2,rfl,I2,T,st2,f2,q2⟩:=h2
  refine wpAny_newObj_type ?_
  have hf:H2 s2.heap.objs.size=none:=I2.hok.fresh (Nat.le_refl _)
  have I3:=I2.lnew (ys:=[]) (its:=[]) (t':=s2.toks) .nil (Nat.zero_le _)
  generalize hs3:({ s2 with heap:=s2.heap.push { cls:=.type "list",data:=.seq ([]:List Value).toArray },toks:=s2.toks }:Shared)=s3 at I3
  have lt2:∀ b∈fp,b<s2.heap.objs.size:=fun b hb=>by
    obtain⟨o,e,_⟩:=T.obj _ _ st2 b hb
    exact Heap.lt_size e
  have f3:∀ b∈fp,tO X pins (upd H2 s2.heap.objs.size (.lst [])) b:=fun b hb=>⟨by rw[aL (Nat.ne_of_lt (lt2 b hb))];exact(f2 b hb).1,(f2 b hb).2⟩
  have sz3:s3.heap.objs.size=s2.heap.objs.size+1:=by rw[<- hs3];exact Heap.size_push ..
  have lt3:∀ b∈fp,b<s3.heap.objs.size:=fun b hb=>by rw[sz3];exact Nat.lt_succ_of_lt (lt2 b hb)
  have st3:tn 0 s3.heap:=T.keep _ _ _ st2 fun b hb o e=>by rw[<- hs3];exact Heap.get?_push_of_some _ e
  have J0:=zU I3 hc hk hnd hcap f3 lt3
  have cO:CompOf X scope (nJ X scope (cellsFrom (s3.heap.objs.size+1) scope.names (iG X.env.cells scope.names [])) s3.heap.objs.size s3 (upd H2 s2.heap.objs.size (.lst [])) fp):=⟨rfl,rfl,rfl,rfl,rfl,rfl,rfl,rfl,rfl,rfl,rfl⟩
  obtain⟨hg,hif,he⟩:=hin _ cO
  obtain⟨W,⟨m0,w0⟩,turn⟩:=q2 s2.heap.objs.size hf _ cO
  refine oH ?_
  have st4:tn 0 (pushCells (s3.heap.push { cls:=.type "dict",data:=.dict #[] }) scope.names):=T.keep _ _ _ st3 fun b _ o e=>pushCells_keeps _ _ b o (Heap.get?_push_of_some _ e)
  generalize hXc:nJ X scope (cellsFrom (s3.heap.objs.size+1) scope.names (iG X.env.cells scope.names [])) s3.heap.objs.size s3 (upd H2 s2.heap.objs.size (.lst [])) fp=Xc at J0 hg hif he turn
  have hprog:Xc.prog=X.prog:=by rw[<- hXc];rfl
  have hw:Xc.w=X.w:=by rw[<- hXc];rfl
  have hK:Xc.K=X.K:=by rw[<- hXc];rfl
  have hA:Xc.A=X.A:=by rw[<- hXc];rfl
  have hcm:Xc.calm=true:=by rw[<- hXc];rfl
  have hxe:Xc.xe=fun _ _=>False:=by rw[<- hXc];rfl
  have hen:Xc.env=qX scope (cellsFrom (s3.heap.objs.size+1) scope.names (iG X.env.cells scope.names [])) s3.heap.objs.size X.env:=by rw[<- hXc];rfl
  have hex:Xc.ex=fp:=by rw[<- hXc];rfl
  have hfs:Xc.fs=frs X.stack:=by rw[<- hXc];rfl
  have hs0:Xc.s₀=s3:=by rw[<- hXc];rfl
  have hH0:Xc.H₀=upd H2 s2.heap.objs.size (.lst []):=by rw[<- hXc];rfl
  have hpn:Xc.pn=[]:=by rw[<- hXc];rfl
  have stat:∀ {H':Hp},(∀ b∈fp,H' b=none)->∀ b∈fp,tO Xc [] H' b:=fun {H'} hn b hb=>by
    refine⟨hn b hb,(J0.ok.exf b (by rw[hex];exact hb)).1,fun z=>J0.ok.exfs b (by rw[hex];exact hb) z,.inl (by rw[hex];exact hb),(J0.ok.exf b (by rw[hex];exact hb)).2,fun p hp=>?_⟩
    rw[hpn] at hp
    exact absurd hp (by simp)
  have loop:codeAny (model X.prog X.w) X.A (.compLoop (.ListComp elt [⟨tg,iter,ifs,0⟩] scope pos) 0 (.ref it) (.ref s2.heap.objs.size) Xc.env)
      (R (.ref s2.heap.objs.size) s3.heap.objs.size) { s3 with heap:=pushCells (s3.heap.push { cls:=.type "dict",data:=.dict #[] }) scope.names }:=by
    refine fK (fun n s'=>∃ i σ' H',Inv Xc [] σ' H' s'/\tn i s'.heap/\(∀ b∈fp,H' b=none)/\W i n σ' H') ?_ m0 ⟨0,_,_,J0,st4,fun b hb=>(f3 b hb).1,w0⟩
    rintro n s5 ⟨i,σ5,H5,I5,st5,fr5,w5⟩
    rcases turn i n σ5 H5 w5 with⟨stop,qn⟩ | ⟨go,N,hN,step⟩
    · have q:=T.done Xc hprog hw hK hcm i [] s5 σ5 H5 (fun _ _=>False) I5 (stat fr5) st5 stop
      rw[hA] at q
      refine thn q fun r s6 ⟨hr,I6⟩=>?_
      subst hr
      have hL:Xc.env.locals=s3.heap.objs.size:=by rw[hen];rfl
      have ub:=I6.base
      rw[hfs,hex,hH0,hs0] at ub
      have IX:Inv X pins σ H5 s6:=by
        refine I3.call' (ch:=fp) ?_ ub ?_ I6.bare fun b hb=>⟨(f3 b hb).2.2.2.1,(f3 b hb).2.1,(f3 b hb).2.2.2.2.1,(f3 b hb).2.2.2.2.2⟩
        · have:=I6.os
          rw[hs0] at this
          exact this
        · have hok:=I6.hok
          rw[hprog,hw] at hok
          exact hok
      refine fin _ _ _ _ IX ⟨?_,?_,Nat.ne_of_gt I3.lt,I3.sz,fun x c e=>?_,fun p hp=>?_⟩ qn
      · obtain⟨m,hn,_⟩:=I6.loc
        rw[hL] at hn
        exact⟨m,hn⟩
      · have:=I6.free
        rw[hL] at this
        exact this
      · obtain⟨v,z⟩:=I3.cell x c e
        exact Nat.ne_of_lt z.lt
      · exact Nat.ne_of_lt (Heap.lt_size (I3.pin p hp).1)
    · have q:=T.item Xc hprog hw hK hcm i [] s5 σ5 H5 (fun _ _=>False) I5 (stat fr5) st5 go
      rw[hA] at q
      refine thn q fun r s6 ⟨u,hr,h6⟩=>?_
      subst hr
      refine thn h6 fun _ s7 ⟨x,H7,I7,r7,y7,st7,fr7⟩=>?_
      have I7':=I7.pinned (stat fr7) (T.obj _ _ st7)
      have q8:=hg _ s7 σ5 H7 x u _ I7' r7 (step x H7 y7)
      rw[hprog,hw,hA,hxe] at q8
      refine thn q8 fun _ s8 ⟨σ8,H8,I8,z8⟩=>?_
      have q9:=hif _ s8 σ8 H8 _ I8 z8
      rw[hprog,hw,hA,hxe] at q9
      refine thn q9 fun ok s9 ⟨H9,I9,z9⟩=>?_
      have again:∀ {s':Shared} {σ':St} {H':Hp},Inv Xc ([]++mY fp s7.heap) σ' H' s'->N σ' H'->∃ m,m<n/\∃ i σ' H',Inv Xc [] σ' H' s'/\tn i s'.heap/\(∀ b∈fp,H' b=none)/\W i m σ' H':=fun {s' σ' H'} I' n'=>by
        obtain⟨m',hm,w'⟩:=hN σ' H' n'
        refine⟨m',hm,i+1,σ',H',I'.unpinned,T.keep _ _ _ st7 fun b hb o e=>(I'.pin (b,o) (List.mem_append_right _ (List.mem_append_right _ (fH hb e)))).1,fun b hb=>?_,w'⟩
        obtain⟨o,e,d⟩:=T.obj _ _ st7 b hb
        exact(I'.pin (b,o) (List.mem_append_right _ (List.mem_append_right _ (fH hb e)))).2.1
      cases ok with
      | false =>
        rw[if_neg Bool.false_ne_true] at z9 ⊢
        exact again I9 z9
      | true =>
        rw[if_pos rfl] at z9 ⊢
        have q10:=he _ s9 σ8 H9 _ I9 z9
        rw[hprog,hw,hA,hxe] at q10
        refine thn q10 fun uv s10 ⟨v,H10,I10,r10,ys,hy,hz,z10⟩=>?_
        have q11:=jg (X:=Xc) _ s10 σ8 H10 (.ref s2.heap.objs.size) [v] (.ref s2.heap.objs.size) [uv] (fun _ H'=>N σ8 H') I10 rfl (.cons r10 .nil) ⟨_,ys,v,rfl,rfl,hy,hz,z10⟩
        rw[hprog,hw,hA,hxe] at q11
        exact thn q11 fun _ s11 ⟨_,H11,I11,_,z11⟩=>again I11 z11
  have eenv:({ (newEnv scope s3.heap.objs.size X.env.globals (cellsFrom (s3.heap.objs.size+1) scope.names (iG X.env.cells scope.names [])) X.env.qual none .none (some X.env) builtinsNs) with scope:=relabel scope X.env }:Env)=Xc.env:=by rw[hen];rfl
  rw[eenv]
  exact codeAny_compStart_list loop (T.self X.A 0 _ _ _ st4 loop)
theorem Blk.gone{pins:List (Addr×Obj)}{σ:St}{H:Hp}{s:Shared}{C:Addr}{h':Heap}(b:Blk X pins H s C)(I:Inv X pins σ H s)(hs:Heap.SameBut C s.heap h'):Inv X pins σ H { s with heap:=h' } :=
 I.turned (t':=s.toks) (fun c o hc e=>(hs.2 c hc).trans e) b.free b.loc (.inr b.abv) b.cel b.pin
theorem je{elt tg iter:Expr}{ifs:List Expr}{scope:Scope}{pos:Pos}{wi:TI}{g:Cx->TG}{tc:Cx->TT}{te:Cx->TE}(hc:X.calm=true)(hk:scope.kind=.function)(hnd:(scope.names.map (·.1)).Nodup)
  (hcap:∀ x,(x,NameKind.free)∈scope.names->X.env.kindOf x=some .cell\/X.env.kindOf x=some .free) (hi:PI X tg iter wi)
  (hin:∀ Xc:Cx,CompOf X scope Xc->PG Xc tg (g Xc)/\xP Xc ifs (tc Xc)/\PE Xc elt (te Xc)) (hs:∀ x,foldedSetIterable iter X.env x=pure x) :
  PE X (.ListComp elt [⟨tg,iter,ifs,0⟩] scope pos) (oA X scope wi (oJ X.N scope.names) g tc te):=by
 intro pins s σ H Q I h
 rw[eval_ListComp]
 refine wpAny_comprehension_free (use:=none) (cl:=iG X.env.cells scope.names []) rfl hs (fB (iC I hnd hcap).1) hk (fun x hx hl=>bL hnd (by rw[<- hl];exact hx)) ?_
 refine nM hc hk hnd hcap hi hin I h fun acc C H' s' I' b q=>?_
 obtain⟨m,hn⟩:=b.ns
 exact⟨m,hn,fun h' hsb=>⟨.ref acc,H',b.gone I' hsb,rfl,q⟩⟩
theorem uN{i:Nat}{x:Str}{elt tg iter:Expr}{ifs:List Expr}{scope:Scope}{pos pos' spos:Pos}{wi:TI}{g:Cx->TG}{tc:Cx->TT}{te:Cx->TE}(hN:X.N.Nodup)(hix:X.N[i]?=some x)(hx:X.env.scope.names.lookup x=some .local)
    (hc:X.calm=true) (hk:scope.kind=.function) (hnd:(scope.names.map (·.1)).Nodup)
    (hcap:∀ x,(x,NameKind.free)∈scope.names->X.env.kindOf x=some .cell\/X.env.kindOf x=some .free) (hi:PI X tg iter wi)
    (hin:∀ Xc:Cx,CompOf X scope Xc->PG Xc tg (g Xc)/\xP Xc ifs (tc Xc)/\PE Xc elt (te Xc)) (hs:∀ x,foldedSetIterable iter X.env x=pure x)
    (hsw:swapsWith (.ListComp elt [⟨tg,iter,ifs,0⟩] scope pos) (some (.Name x pos')) spos.line X.env=pure true) :
    PS X (.Assign [.Name x pos'] (.ListComp elt [⟨tg,iter,ifs,0⟩] scope pos) spos) (KC (oA X scope wi (oJ X.N scope.names) g tc te) (zx i)):=by
  intro pins s σ H D I h
  rw[exec_Assign_Name_used _ _ _ _ hsw]
  refine wpAny_bind (wpAny_standAt (wpAny_bind ?_))
  show wpAny _ X.A (do let _ <- comprehension (.ListComp elt [⟨tg,iter,ifs,0⟩] scope pos) scope X.env _ (newList []) false (eval iter X.env) (some (assign (.Name x pos') X.env))) _ _ s
  refine wpAny_bind (thn (wpAny_comprehension_free (use:=some (assign (.Name x pos') X.env)) (Q:=fun _ s'=>SP X pins D .next s') (cl:=iG X.env.cells scope.names []) rfl hs (fB (iC I hnd hcap).1) hk (fun x hx hl=>bL hnd (by rw[<- hl];exact hx))
    (nM hc hk hnd hcap hi hin I h fun acc C H' s' I' b q=>?_)) fun _ s' hq=>wpAny_pure (wpAny_pure hq))
  show wpAny _ X.A (assign (.Name x pos') X.env (.ref acc)) _ _ s'
  refine wpAny_assign_Name (mL I' hN hix (.inl hx) (v:=.ref acc) rfl (fun s'' I'' ⟨a,hsb,ha⟩=>?_) (.inr hx))
  obtain⟨m,hn⟩:=b.ns
  have hCa:C≠a:=by
    rcases ha with ha | ha
    · rw[ha];exact b.loc
    · exact(b.cel x a ha).symm
  have b2:Blk X pins H' s'' C:=⟨⟨m,hn.sameBut hsb hCa⟩,b.free,b.loc,b.abv,b.cel,b.pin⟩
  exact⟨m,hn.sameBut hsb hCa,fun h' hsb'=>⟨_,H',b2.gone I'' hsb',q⟩⟩
end
end L2
namespace L2
open PySem PySem.Spec PyProof.Rows
section
variable {prog:Program} {w:World} {A:Around} {E:Value->Shared->Prop} {s:Shared}
theorem zQ{it t:Addr}{i:Nat}{its:Array Value}{Q:Value->Shared->Prop}(hh:A.handled=none)(hit:s.heap.IsTupleIter it t i)(ht:s.heap.IsTuple t its)
    (hs:∀ x h',its[i]?=some x->h'.IsTupleIter it t (i+1)->Heap.SameBut it s.heap h'->Q x { s with heap:=h' })
    (he:∀ h' e,its[i]?=none->Heap.ExtBut it s.heap h'->(∃ o,h'.get? e=some o/\o.cls=.type "StopIteration")->E (.ref e) { s with heap:=h' }) :
    wpAny (model prog w) A (Builtin.SmallTypes.nextOf (.ref it)) Q E s:=by
  obtain⟨oi,hoi,hci,hdi⟩:=id hit
  obtain⟨ot,hot,_,nt,hdt⟩:=ht
  unfold Builtin.SmallTypes.nextOf
  refine wpAny_bind (wpAny_callSpecial?_slot (name:=Str.ofString "__next__") hit.typeIs F.slot_tuple_iterator_next (wpAny_call_entry F.slot_tuple_iterator_next hit.typeIs F.entry_tuple_iterator_next ?_ (F.args_tuple_iterator_next_1 _)))
  show wpAny _ _ (field (.ref it) 0 >>=_) _ _ s;refine wpAny_bind (wpAny_field hoi hdi (x:=.ref t) rfl ?_)
  have nn:¬ ((Value.ref t==Value.none)=true):=Bool.false_ne_true
  show wpAny _ _ (if(Value.ref t==Value.none)=true then _ else _) _ _ s;rw[if_neg nn]
  show wpAny _ _ (field (.ref it) 1 >>=_) _ _ s;refine wpAny_bind (wpAny_field hoi hdi (x:=.int i 0) rfl ?_)
  show wpAny _ _ (seqItems? (.ref t) >>=_) _ _ s;refine wpAny_bind (wpAny_seqItems hot hdt ?_)
  cases hx:its[i]? with
  | some x =>
    simp only[Int.toNat_natCast,hx]
    have fin:(s.heap.update it fun o=>o.mapFields (·.setIfInBounds 1 (rawInt ((i:Int)+1)))).IsTupleIter it t (i+1):=⟨_,Heap.get?_update_self _ hoi (Obj.isFreed_of_fields (Obj.data_mapFields hdi _)),(Obj.cls_mapFields ..).trans hci,by rw[Obj.data_mapFields hdi];simp[rawInt]⟩
    exact wpAny_bind (wpAny_setField hoi hdi (by simp) (wpAny_pure ⟨x,rfl,wpAny_pure (hs x _ hx fin (Heap.SameBut.update ..))⟩))
  | none =>
    simp only[Int.toNat_natCast,hx]
    refine wpAny_bind (wpAny_rule (wpAny_bind (wpAny_setField hoi hdi (by simp) (wpAny_bind (m:=newExc (.type "StopIteration") []) ?_))))
    simp only[newExc,newTuple]
    refine wpAny_bind (wpAny_newObj_type (wpAny_bind (m:=firstArgMember _ _) (wpAny_of_eq (a:=Value.none) (by first | rfl | (simp only[firstArgMember];rfl)) (wpAny_newObj_type ?_ (by size_fits)))) (by size_fits))
    simp only[raiseNew]
    refine wpAny_bind (wpAny_handled ?_)
    first | rw[show A.in1.handled=none from hh] | rw[hh]
    exact wpAny_bind (wpAny_pure (wpAny_throw (he _ _ hx (((Heap.SameBut.update ..).extBut.push _).push _) ⟨_,Heap.get?_push_size _ rfl,rfl⟩)))
structure ZT (h:Heap) (z ti to i1 i2 t1 t2:Addr) (k:Nat) (f:Value):Prop where
 hz:IsZip h z ti to f
 hi:IsPair h ti (.ref i1) (.ref i2)
 ho:∃ a b,IsPair h to a b
 h1:h.IsTupleIter i1 t1 k
 h2:h.IsTupleIter i2 t2 k
theorem ZT.keep{h h':Heap}{z ti to i1 i2 t1 t2:Addr}{k:Nat}{f:Value}(x:ZT h z ti to i1 i2 t1 t2 k f)(kp:∀ b∈[z,ti,to,i1,i2],∀ o,h.get? b=some o->h'.get? b=some o):ZT h' z ti to i1 i2 t1 t2 k f :=
 ⟨kp z (by simp) _ x.hz,kp ti (by simp) _ x.hi,let ⟨a,b,e⟩:=x.ho;⟨a,b,kp to (by simp) _ e⟩,x.h1.at fun o e=>kp i1 (by simp) o e,x.h2.at fun o e=>kp i2 (by simp) o e⟩
theorem tU{z ti to i1 i2 t1 t2:Addr}{k:Nat}{xs ys:Array Value}{Q:Fin->Shared->Prop}(hh:A.handled=none)(D:ZipApart z ti to i1 i2 t1 t2)(hZ:ZT s.heap z ti to i1 i2 t1 t2 k .none)
    (ht1:s.heap.IsTuple t1 xs) (ht2:s.heap.IsTuple t2 ys)
    (hs:∀ x y h',xs[k]?=some x->ys[k]?=some y->ZT h' z ti to i1 i2 t1 t2 (k+1) (rawInt s.heap.objs.size)->IsPair h' s.heap.objs.size x y->h'.objs.size=s.heap.objs.size+1 ->
      (∀ c o,c∉[z,to,i1,i2]->s.heap.get? c=some o->h'.get? c=some o)->Q (.done (.ret (.ref s.heap.objs.size))) { s with heap:=h' })
    (he:∀ h' e,(xs[k]?=none\/ys[k]?=none)->(∀ c o,c∉[z,to,i1,i2]->s.heap.get? c=some o->h'.get? c=some o)->(∃ o,h'.get? e=some o/\o.cls=.type "StopIteration")->E (.ref e) { s with heap:=h' }) :
    wpAny (model prog w) A (Builtin.«zip.__next__» ⟨[.ref z],[]⟩) Q E s:=by
  obtain⟨hz,hi,⟨a,b,ho⟩,h1,h2⟩:=hZ
  show wpAny _ _ (field (.ref z) 2 >>=_) _ _ _;refine wpAny_bind (wpAny_field hz rfl (x:=.bool false) rfl ?_)
  show wpAny _ _ (field (.ref z) 3 >>=_) _ _ _;refine wpAny_bind (wpAny_field hz rfl (x:=.ref ti) rfl (wpAny_bind (wpAny_seqItems hi rfl ?_)))
  show wpAny _ _ (Builtin.SmallTypes.ownedTupleIsFree (.ref z) >>=_) _ _ _
  unfold Builtin.SmallTypes.ownedTupleIsFree
  refine wpAny_bind (wpAny_bind (wpAny_field hz rfl (x:=.none) rfl (wpAny_pure ?_)))
  simp only[if_true]
  refine wpAny_bind (wpAny_rule (wpAny_bind (wpAny_field hz rfl (x:=.ref to) rfl (wpAny_bind (wpAny_setField_rec hz (by simp) fun ha za sa=>?_)))))
  replace za:IsZip ha z ti to .ellipsis:=za
  refine wpAny_bind ?_
  simp only[List.zipIdx_cons,List.zipIdx_nil,List.forIn_cons,List.forIn_nil]
  refine wpAny_bind (wpAny_bind (wpAny_onRaise ?_))
  have ne4:∀ {c:Addr},c∉[z,to,i1,i2]->c≠z/\c≠to/\c≠i1/\c≠i2:=fun hc=>by simpa using hc
  show wpAny _ _ (Builtin.SmallTypes.nextOf (.ref i1) >>=_) _ _ _
  refine wpAny_bind (zQ hh (h1.extBut sa.extBut D.i1z) (ht1.extBut sa.extBut D.l1z) (fun x hb hx itb sb=>wpAny_pure ?_) fun hb e hx eb ⟨oe,oe1,oe2⟩=>?_)
  · have tob:IsPair hb to a b:=sb.extBut _ _ D.TOi1 (sa.extBut _ _ D.TOz ho)
    refine wpAny_bind (wpAny_seqItems tob rfl (wpAny_bind (wpAny_updateSeq_pair tob fun hc toc sc=>wpAny_bind (wpAny_letGo (wpAny_pure ?_)))))
    replace toc:IsPair hc to x b:=toc
    refine wpAny_bind (wpAny_bind (wpAny_onRaise ?_))
    have h2c:hc.IsTupleIter i2 t2 k:=((h2.extBut sa.extBut D.i2z).extBut sb.extBut D.i12.symm).extBut sc.extBut D.TOi2.symm
    have t2c:hc.IsTuple t2 ys:=((ht2.extBut sa.extBut D.l2z).extBut sb.extBut D.l2i1).extBut sc.extBut D.l2TO
    show wpAny _ _ (Builtin.SmallTypes.nextOf (.ref i2) >>=_) _ _ _
    refine wpAny_bind (zQ hh h2c t2c (fun y hd hy itd sd=>wpAny_pure ?_) fun hd e hy ed ⟨oe,oe1,oe2⟩=>?_)
    · have tod:IsPair hd to x b:=sd.extBut _ _ D.TOi2 toc
      refine wpAny_bind (wpAny_seqItems tod rfl (wpAny_bind (wpAny_updateSeq_pair tod fun hf tof sf=>wpAny_bind (wpAny_letGo (wpAny_pure (wpAny_pure ?_))))))
      replace tof:IsPair hf to x y:=tof
      refine wpAny_bind (wpAny_seqItems tof rfl (wpAny_bind (wpAny_newTuple ?_)))
      have szf:hf.objs.size=s.heap.objs.size:=by rw[sf.1,sd.1,sc.1,sb.1,sa.1]
      have zf:IsZip hf z ti to .ellipsis:=sf.extBut _ _ D.TOz.symm (sd.extBut _ _ D.i2z.symm (sc.extBut _ _ D.TOz.symm (sb.extBut _ _ D.i1z.symm za)))
      have kf:∀ c o,c∉[z,to,i1,i2]->s.heap.get? c=some o->hf.get? c=some o:=fun c o hc' e=>by
        obtain⟨c1,c2,c3,c4⟩:=ne4 hc'
        exact sf.extBut _ _ c2 (sd.extBut _ _ c4 (sc.extBut _ _ c2 (sb.extBut _ _ c3 (sa.extBut _ _ c1 e))))
      have i1f:hf.IsTupleIter i1 t1 (k+1):=((itb.extBut sc.extBut D.TOi1.symm).extBut sd.extBut D.i12).extBut sf.extBut D.TOi1.symm
      have i2f:hf.IsTupleIter i2 t2 (k+1):=itd.extBut sf.extBut D.TOi2.symm
      have tif:IsPair hf ti (.ref i1) (.ref i2):=sf.extBut _ _ D.TITO (sd.extBut _ _ D.TIi2 (sc.extBut _ _ D.TITO (sb.extBut _ _ D.TIi1 (sa.extBut _ _ D.TIz hi))))
      have zlt:z<hf.objs.size:=Heap.lt_size zf
      show wpAny _ _ (Builtin.SmallTypes.ownedTupleHandOut (.ref z) (.ref hf.objs.size) >>=_) _ _ _
      unfold Builtin.SmallTypes.ownedTupleHandOut
      have zg:IsZip (hf.push { cls:=.type "tuple",data:=.seq #[x,y] }) z ti to .ellipsis:=Heap.get?_push_of_some _ zf
      refine wpAny_bind (wpAny_bind (wpAny_setField_rec zg (by simp) fun hk zk sk=>wpAny_setField_rec (show IsZip hk z ti to (rawInt hf.objs.size) from zk) (by simp) fun hm zm sm=>wpAny_pure ?_))
      replace zm:IsZip hm z ti to (rawInt hf.objs.size):=zm
      have up:∀ c o,c≠z->hf.get? c=some o->hm.get? c=some o:=fun c o c1 e=>sm.extBut _ _ c1 (sk.extBut _ _ c1 (Heap.get?_push_of_some _ e))
      have new:IsPair hm hf.objs.size x y:=sm.extBut _ _ (Nat.ne_of_gt zlt) (sk.extBut _ _ (Nat.ne_of_gt zlt) (Heap.get?_push_size _ rfl))
      have szm:hm.objs.size=hf.objs.size+1:=by rw[sm.1,sk.1,Heap.size_push]
      have q:=hs x y hm hx hy ⟨by rw[<- szf];exact zm,up _ _ D.TIz tif,⟨x,y,up _ _ D.TOz tof⟩,i1f.at fun o e=>up _ o D.i1z e,i2f.at fun o e=>up _ o D.i2z e⟩ (by rw[<- szf];exact new) (by rw[szm,szf]) fun c o hc' e=>up c o (ne4 hc').1 (kf c o hc' e)
      rw[<- szf] at q
      exact q
    · have zd:IsZip hd z ti to .ellipsis:=ed _ _ D.i2z.symm (sc.extBut _ _ D.TOz.symm (sb.extBut _ _ D.i1z.symm za))
      have ez:e≠z:=fun q=>by subst q;rw[zd] at oe1;cases oe1;simp at oe2
      refine wpAny_setField_rec zd (by simp) fun hf _ sf=>he hf e (.inr hy) (fun c o hc' q=>?_) ⟨oe,sf.extBut _ _ ez oe1,oe2⟩
      obtain⟨c1,c2,c3,c4⟩:=ne4 hc'
      exact sf.extBut _ _ c1 (ed _ _ c4 (sc.extBut _ _ c2 (sb.extBut _ _ c3 (sa.extBut _ _ c1 q))))
  · have zb:IsZip hb z ti to .ellipsis:=eb _ _ D.i1z.symm za
    have ez:e≠z:=fun q=>by subst q;rw[zb] at oe1;cases oe1;simp at oe2
    refine wpAny_setField_rec zb (by simp) fun hf _ sf=>he hf e (.inl hx) (fun c o hc' q=>?_) ⟨oe,sf.extBut _ _ ez oe1,oe2⟩
    obtain⟨c1,c2,c3,c4⟩:=ne4 hc'
    exact sf.extBut _ _ c1 (eb _ _ c3 (sa.extBut _ _ c1 q))
theorem iZ{z ti to i1 i2 t1 t2:Addr}{k:Nat}{xs ys:Array Value}{Q:Option Value->Shared->Prop}(hh:A.handled=none)(D:ZipApart z ti to i1 i2 t1 t2)(hZ:ZT s.heap z ti to i1 i2 t1 t2 k .none)
    (ht1:s.heap.IsTuple t1 xs) (ht2:s.heap.IsTuple t2 ys)
    (hs:∀ x y h',xs[k]?=some x->ys[k]?=some y->ZT h' z ti to i1 i2 t1 t2 (k+1) (rawInt s.heap.objs.size)->IsPair h' s.heap.objs.size x y->h'.objs.size=s.heap.objs.size+1 ->
      (∀ c o,c∉[z,to,i1,i2]->s.heap.get? c=some o->h'.get? c=some o)->Q (some (.ref s.heap.objs.size)) { s with heap:=h' })
    (he:∀ h',(xs[k]?=none\/ys[k]?=none)->(∀ c o,c∉[z,to,i1,i2]->s.heap.get? c=some o->h'.get? c=some o)->Q none { s with heap:=h' }) :
    wpAny (model prog w) A (pyNext (.ref z)) Q E s:=by
  have hT:s.TypeIs (.ref z) "zip":=⟨_,hZ.hz,rfl⟩
  unfold pyNext
  refine wpAny_bind (wpAny_attempt (wpAny_callSpecial?_slot (name:=Str.ofString "__next__") hT F.slot_zip_next (wpAny_call_entry F.slot_zip_next hT F.entry_zip_next
    (tU hh D hZ ht1 ht2 (fun x y h' a1 a2 a3 a4 a5 a6=>⟨_,rfl,wpAny_pure (hs x y h' a1 a2 a3 a4 a5 a6)⟩) fun h' e a1 a2 ⟨o,e1,e2⟩=>?_) (F.args_zip_next_1 _))))
  exact wpAny_bind (wpAny_isInstance (T:="StopIteration") (b:=true) ⟨o,e1,e2⟩ isSubtype_stop (wpAny_pure (he h' a1 a2)))
abbrev itT(t:Addr):Obj:={ cls:=.type "tuple_iterator",data:=.fields #[.ref t,.int 0 0] }
theorem BZ(hp H1 H2 H3 H4 H5:Heap)(t1 t2:Addr)(e1:H1=hp.push (itT t1))(e2:H2=H1.push (itT t2))(e3:H3=H2.push { cls:=.type "tuple",data:=.seq #[.ref hp.objs.size,.ref H1.objs.size] })(e4:H4=H3.push { cls:=.type "tuple",data:=.seq #[.none,.none] })
  (e5:H5=H4.push { cls:=.type "zip",data:=.fields #[.none,.bool false,.bool false,.ref H2.objs.size,.ref H3.objs.size] }) :
  H4.objs.size=hp.objs.size+4/\H5.objs.size=hp.objs.size+5/\(∀ c o,hp.get? c=some o->H5.get? c=some o)/\ZT H5 (hp.objs.size+4) (hp.objs.size+2) (hp.objs.size+3) hp.objs.size (hp.objs.size+1) t1 t2 0 .none:=by
 have z1:H1.objs.size=hp.objs.size+1:=by rw[e1,Heap.size_push]
 have z2:H2.objs.size=hp.objs.size+2:=by rw[e2,Heap.size_push,z1]
 have z3:H3.objs.size=hp.objs.size+3:=by rw[e3,Heap.size_push,z2]
 have z4:H4.objs.size=hp.objs.size+4:=by rw[e4,Heap.size_push,z3]
 have z5:H5.objs.size=hp.objs.size+5:=by rw[e5,Heap.size_push,z4]
 have k5:∀ c o,H4.get? c=some o->H5.get? c=some o:=fun c o e=>by rw[e5];exact Heap.get?_push_of_some _ e
 have k4:∀ c o,H3.get? c=some o->H5.get? c=some o:=fun c o e=>k5 c o (by rw[e4];exact Heap.get?_push_of_some _ e)
 have k3:∀ c o,H2.get? c=some o->H5.get? c=some o:=fun c o e=>k4 c o (by rw[e3];exact Heap.get?_push_of_some _ e)
 have k2:∀ c o,H1.get? c=some o->H5.get? c=some o:=fun c o e=>k3 c o (by rw[e2];exact Heap.get?_push_of_some _ e)
 have k1:∀ c o,hp.get? c=some o->H5.get? c=some o:=fun c o e=>k2 c o (by rw[e1];exact Heap.get?_push_of_some _ e)
 refine⟨z4,z5,k1,?_,?_,⟨.none,.none,?_⟩,⟨_,k2 _ _ (by rw[e1];exact Heap.get?_push_size _ rfl),rfl,rfl⟩,⟨_,k3 _ _ (by rw[e2,<- z1];exact Heap.get?_push_size _ rfl),rfl,rfl⟩⟩
 ·have q:H5.get? H4.objs.size=some { cls:=.type "zip",data:=.fields #[.none,.bool false,.bool false,.ref H2.objs.size,.ref H3.objs.size] }:=by rw[e5];exact Heap.get?_push_size _ rfl
  rw[z2,z3,z4] at q
  exact q
 ·have q:H5.get? H2.objs.size=some { cls:=.type "tuple",data:=.seq #[.ref hp.objs.size,.ref H1.objs.size] }:=k4 _ _ (by rw[e3];exact Heap.get?_push_size _ rfl)
  rw[z1,z2] at q
  exact q
 ·have q:H5.get? H3.objs.size=some { cls:=.type "tuple",data:=.seq #[.none,.none] }:=k5 _ _ (by rw[e4];exact Heap.get?_push_size _ rfl)
  rw[z3] at q
  exact q
theorem xQ(t1 t2:Addr)(xs ys:Array Value) :
    Meets (Builtin.«zip.__new__» ⟨[.type "zip",.ref t1,.ref t2],[]⟩) (fun _ R s=>s.heap.IsTuple t1 xs/\s.heap.IsTuple t2 ys /\
      ∀ h', (∀ c o, s.heap.get? c = some o -> h'.get? c = some o) -> h'.objs.size = s.heap.objs.size + 5 -> ZT h' (s.heap.objs.size + 4) (s.heap.objs.size + 2) (s.heap.objs.size + 3) s.heap.objs.size (s.heap.objs.size + 1) t1 t2 0 .none ->
        R (.ok (.ret (.ref (s.heap.objs.size+4)))) { s with heap:=h' }) :=
  .of_wp fun prog w A R s h=>by
    obtain⟨hp,g,d,tk,os⟩:=s;obtain⟨hl1,hl2,h⟩:=h
    have hsub:=sub_zip
    have hL1:Heap.IsTuple (Shared.heap ⟨hp,g,d,tk,os⟩) t1 xs:=hl1
    have hL2:Heap.IsTuple (Shared.heap ⟨hp.push (itT t1),g,d,tk,os⟩) t2 ys:=let ⟨o,e,r⟩:=hl2;⟨o,Heap.get?_push_of_some _ e,r⟩
    wp_walk using wpAny_pyIter_tuple hL1,wpAny_pyIter_tuple hL2
    refine⟨_,rfl,?_⟩
    obtain⟨z4,z5,kp,Z⟩:=BZ hp _ _ _ _ _ t1 t2 rfl rfl rfl rfl rfl
    have q:=h _ kp z5 Z
    rw[<- z4] at q
    exact q
theorem wD{t1 t2:Addr}{xs ys:Array Value}{Q:Value->Shared->Prop}(hl1:s.heap.IsTuple t1 xs)(hl2:s.heap.IsTuple t2 ys)
    (h:∀ h',(∀ c o,s.heap.get? c=some o->h'.get? c=some o)->h'.objs.size=s.heap.objs.size+5->ZT h' (s.heap.objs.size+4) (s.heap.objs.size+2) (s.heap.objs.size+3) s.heap.objs.size (s.heap.objs.size+1) t1 t2 0 .none ->
      Q (.ref (s.heap.objs.size+4)) { s with heap:=h' }):wpAny (model prog w) A (call (.type "zip") [.ref t1,.ref t2]) Q E s:=by
  refine callType_new F.called_zip (by decide) (F.typeCall_zip_2 _ _) (F.newCall_zip_2 _ _) (fun obj=>F.args_object_init_3 obj _ _) F.entry_zip_new (xQ t1 t2 xs ys) ⟨hl1,hl2,fun h' kp z5 Z=>?_⟩
  exact⟨⟨_,Z.hz,rfl⟩,h h' kp z5 Z⟩
end
end L2
namespace L2
open PySem PySem.Spec PyProof.Rows
namespace RF
end RF
end L2
namespace L2
open PySem PySem.Spec PyProof.Rows
section
variable {prog:Program} {w:World} {A:Around} {E:Value->Shared->Prop} {s:Shared}
end
end L2
namespace L2
open PySem PySem.Spec PyProof.Rows PySem.SeqAt
section
variable {prog:Program} {w:World} {A:Around} {E:Value->Shared->Prop} {s:Shared}
end
end L2
namespace L2
open PySem PySem.Spec PyProof.Rows
def Itz(K:PySem.W.Frag)(t1 t2:Addr):It :=
  ⟨fun i H=>∃ xs ys x y,SqT K H t1 xs/\SqT K H t2 ys/\xs[i]?=some x/\ys[i]?=some y,
   fun i H v H'=>∃ p,H p=none/\v=.ref p/\∀ xs ys x y,SqT K H t1 xs->SqT K H t2 ys->xs[i]?=some x->ys[i]?=some y->H'=upd H p (.tup [x,y]),
   fun i H=>∃ xs ys,SqT K H t1 xs/\SqT K H t2 ys/\(xs.length<=i\/ys.length<=i)⟩
theorem Inv.turnedNew{X:Cx}{pins:List (Addr×Obj)}{σ:St}{H:Hp}{s:Shared}{h':Heap}{ch:List Addr}{o:HO}{t':Nat}(I:Inv X pins σ H s)(hf:∀ b∈ch,tO X pins H b)(k:∀ b u,b∉ch->s.heap.get? b=some u->h'.get? b=some u)
  (new:cV X.prog X.w (upd H s.heap.objs.size o) h' s.heap.objs.size o):Inv X pins σ (upd H s.heap.objs.size o) { s with heap:=h',toks:=t' }:=by
 have hn:H s.heap.objs.size=none:=I.hok.fresh (Nat.le_refl _)
 refine I.call' (s':={ s with heap:=h',toks:=t' }) (ch:=ch) rfl ?_ ?_ I.bare fun b hb=>⟨(hf b hb).2.2.2.1,(hf b hb).2.1,(hf b hb).2.2.2.2.1,(hf b hb).2.2.2.2.2⟩
 ·refine⟨fun b u e _ _ hc=>k b u hc e,fun b u e _ _ hc=>⟨u.slots,k b u hc e⟩,fun b u e n hc=>?_,fun b u e hc=>⟨u,k b u hc e⟩,fun b xs e=>?_,fun b u xs e=>?_,fun b ps e=>⟨#[],?_⟩⟩
  ·rw[aL (Nat.ne_of_lt (Heap.lt_size e))];exact n
  ·rw[aL (aG e hn)];exact e
  ·rw[aL (aG e hn)];exact e
  ·rw[aL (aG e hn),e];simp
 ·intro b u e
  by_cases hb:b=s.heap.objs.size
  ·subst hb;rw[aU] at e;cases e;exact new
  ·rw[aL hb] at e
   refine(I.hok b u e).stay (fun c v hc q=>k c v (fun z=>?_) q) (fun c q=>by rw[aL (aG q hn)];exact q) fun c xs q=>by rw[aL (aG q hn)];exact q
   have zn:=(hf c z).1
   rcases hc with rfl | hc
   ·rw[zn] at e;cases e
   ·rw[zn] at hc;cases hc
theorem Inv.turnedAll{X:Cx}{pins:List (Addr×Obj)}{σ:St}{H:Hp}{s:Shared}{h':Heap}{ch:List Addr}{t':Nat}(I:Inv X pins σ H s)(hf:∀ b∈ch,tO X pins H b)(k:∀ b u,b∉ch->s.heap.get? b=some u->h'.get? b=some u) :
  Inv X pins σ H { s with heap:=h',toks:=t' }:=by
 refine I.call' (s':={ s with heap:=h',toks:=t' }) (ch:=ch) rfl ?_ ?_ I.bare fun b hb=>⟨(hf b hb).2.2.2.1,(hf b hb).2.1,(hf b hb).2.2.2.2.1,(hf b hb).2.2.2.2.2⟩
 ·exact⟨fun b u e _ _ hc=>k b u hc e,fun b u e _ _ hc=>⟨u.slots,k b u hc e⟩,fun b u e n hc=>n,fun b u e hc=>⟨u,k b u hc e⟩,fun b xs e=>e,fun b u xs e=>e,fun b ps e=>⟨#[],by rw[e];simp⟩⟩
 ·intro b u e
  refine(I.hok b u e).stay (fun c v hc q=>k c v (fun z=>?_) q) (fun c q=>q) fun c xs q=>q
  have zn:=(hf c z).1
  rcases hc with rfl | hc
  ·rw[zn] at e;cases e
  ·rw[zn] at hc;cases hc
theorem xW{P:Program}{w:World}{K:PySem.W.Frag}{es:List Expr}{kt:Nat}{pt:Pos}{z ti to i1 i2 t1 t2:Addr}(D:ZipApart z ti to i1 i2 t1 t2) :
    Turn P w K (.Tuple es kt pt) (Itz K t1 t2) [z,ti,to,i1,i2] z (fun i h=>ZT h z ti to i1 i2 t1 t2 i .none) where
  mem:=by simp
  obj:=fun i h st b hb=>by
    simp at hb
    rcases hb with rfl | rfl | rfl | rfl | rfl
    · exact⟨_,st.hz,fun v q=>by have q':Data.fields _=Data.cell v:=q;cases q'⟩
    · exact⟨_,st.hi,fun v q=>by have q':Data.seq _ _=Data.cell v:=q;cases q'⟩
    · obtain⟨a,c,e⟩:=st.ho
      exact⟨_,e,fun v q=>by have q':Data.seq _ _=Data.cell v:=q;cases q'⟩
    · obtain⟨o,e,_,d⟩:=st.h1
      exact⟨o,e,fun v q=>by rw[d] at q;cases q⟩
    · obtain⟨o,e,_,d⟩:=st.h2
      exact⟨o,e,fun v q=>by rw[d] at q;cases q⟩
  keep:=fun i h h' st k=>st.keep k
  item:=by
    intro X hP hw hK hc i pins s σ H E I hf st hg
    subst hP hw hK
    obtain⟨xs,ys,x,y,hq1,hq2,hx,hy⟩:=hg
    obtain⟨its1,rv1,p1,_⟩:=I.tuple hq1
    obtain⟨its2,rv2,p2,_⟩:=I.tuple hq2
    obtain⟨u1,hu1,ru1⟩:=rv1.get hx
    obtain⟨u2,hu2,ru2⟩:=rv2.get hy
    refine iZ (I.ok.hd hc) D st (show s.heap.IsTuple t1 its1.toArray from p1) (show s.heap.IsTuple t2 its2.toArray from p2) (fun a b h' ha hb Z pr sz kp=>?_) fun h' hn _=>?_
    · have ea : a = u1 := by have : its1[i]? = some a := by simpa using ha
                             rw[hu1] at this;exact(Option.some.inj this).symm
      have eb : b = u2 := by have : its2[i]? = some b := by simpa using hb
                             rw[hu2] at this;exact(Option.some.inj this).symm
      subst ea eb
      have szl:2<=sizeLine:=by decide
      have hf4:∀ c∈[z,to,i1,i2],tO X pins H c:=fun c hc'=>hf c (by simp at hc' ⊢;rcases hc' with h | h | h | h<;>simp[h])
      have I1:Inv X pins σ (upd H s.heap.objs.size (.tup [x,y])) { s with heap:=h',toks:=s.toks }:=I.turnedNew hf4 kp ⟨szl,[a,b],.cons ru1 (.cons ru2 .nil),⟨_,pr,rfl,_,rfl⟩⟩
      have fresh:H s.heap.objs.size=none:=I.hok.fresh (Nat.le_refl _)
      have ltf:∀ c∈[z,ti,to,i1,i2],c≠s.heap.objs.size:=fun c hc' e=>by
        have:H c=none:=(hf c hc').1
        simp at hc'
        have lt:c<s.heap.objs.size:=by
          rcases hc' with rfl | rfl | rfl | rfl | rfl
          · exact Heap.lt_size st.hz
          · exact Heap.lt_size st.hi
          · obtain⟨_,_,e'⟩:=st.ho;exact Heap.lt_size e'
          · obtain⟨o,e',_⟩:=st.h1;exact Heap.lt_size e'
          · obtain⟨o,e',_⟩:=st.h2;exact Heap.lt_size e'
        exact Nat.ne_of_lt lt e
      refine⟨_,rfl,wpAny_letOwnedTupleGo_zip (s:={ s with heap:=h' }) Z.hz fun h2 z2 sb=>?_⟩
      have fz:=hf z (by simp)
      have I2:Inv X pins σ (upd H s.heap.objs.size (.tup [x,y])) { s with heap:=h2 }:=I1.turned (t':=s.toks) (fun c o hc' e=>(sb.2 c hc').trans e) (by rw[aL (ltf z (by simp))];exact fz.1) fz.2.1 fz.2.2.2.1 fz.2.2.2.2.1 fz.2.2.2.2.2
      refine⟨.ref s.heap.objs.size,_,I2,rfl,⟨_,fresh,rfl,fun xs' ys' x' y' a1 a2 a3 a4=>?_⟩,?_,fun c hc'=>by rw[aL (ltf c hc')];exact(hf c hc').1⟩
      · have e1:=I.tuple_inj a1 hq1
        have e2:=I.tuple_inj a2 hq2
        subst e1 e2
        rw[hx] at a3;rw[hy] at a4
        cases a3;cases a4
        rfl
      · obtain⟨a',b',e'⟩:=Z.ho
        exact⟨z2,(sb.2 ti D.TIz).trans Z.hi,⟨a',b',(sb.2 to D.TOz).trans e'⟩,Z.h1.at fun o e=>(sb.2 i1 D.i1z).trans e,Z.h2.at fun o e=>(sb.2 i2 D.i2z).trans e⟩
    · rcases hn with hn | hn
      · have:its1[i]?=none:=by simpa using hn
        rw[hu1] at this;cases this
      · have:its2[i]?=none:=by simpa using hn
        rw[hu2] at this;cases this
  done:=by
    intro X hP hw hK hc i pins s σ H E I hf st hg
    subst hP hw hK
    obtain⟨xs,ys,hq1,hq2,hl⟩:=hg
    obtain⟨its1,rv1,p1,_⟩:=I.tuple hq1
    obtain⟨its2,rv2,p2,_⟩:=I.tuple hq2
    have l1:=rv1.length
    have l2:=rv2.length
    refine iZ (I.ok.hd hc) D st (show s.heap.IsTuple t1 its1.toArray from p1) (show s.heap.IsTuple t2 its2.toArray from p2) (fun a b h' ha hb Z pr sz kp=>?_) fun h' _ kp=>⟨rfl,?_⟩
    · exfalso
      have h1 : i < its1.length := by have : its1[i]? = some a := by simpa using ha
                                      exact(List.getElem?_eq_some_iff.mp this).1
      have h2 : i < its2.length := by have : its2[i]? = some b := by simpa using hb
                                      exact(List.getElem?_eq_some_iff.mp this).1
      omega
    · have hf4:∀ c∈[z,to,i1,i2],tO X pins H c:=fun c hc'=>hf c (by simp at hc' ⊢;rcases hc' with h | h | h | h<;>simp[h])
      exact I.turnedAll (t':=s.toks) hf4 kp
  self:=fun _ _ _ _ _ st h=>wpAny_pyIter_zip st.hz h
section
variable {X:Cx}
def Xz(K:PySem.W.Frag)(ta:TA):TI:=fun σ H R=>ta σ H fun vs H1=>∃ a b,vs=[.ref a,.ref b]/\(∃ xs,SqT K H1 a xs)/\(∃ ys,SqT K H1 b ys)/\R (Itz K a b) H1
theorem IW{a b:Expr}{ta:TA}{p pos pt:Pos}{es:List Expr}{kt:Nat}(hg:Gl X "zip")(hm:X.mg "zip"=none)(ha:PA X [a,b] ta)(hs:starEach [a,b] X.env=[(false,eval a X.env),(false,eval b X.env)])(hs2:starEach [b] X.env=[(false,eval b X.env)]) :
    PI X (.Tuple es kt pt) (.Call (.Name "zip" p) [a,b] [] pos) (Xz X.K ta):=by
  intro pins s σ H R I h
  refine Call_ (eO I hg hm boot_zip (PyProof.Rows.callWith_type1 (thn (ha pos pins s σ H _ I h) fun us s1 ⟨vs,H1,I1,r1,q1⟩=>?_) (by rw[hs,hs2]) (by rw[hs2];rfl)))
  obtain⟨a1,b1,e,⟨xs,hx⟩,⟨ys,hy⟩,q⟩:=q1
  subst e
  cases r1 with
  | cons r rr =>
    cases rr with
    | cons r' rr =>
      cases rr
      cases (show _=Value.ref a1 from r)
      cases (show _=Value.ref b1 from r')
      obtain⟨its1,_,p1,_⟩:=I1.tuple hx
      obtain⟨its2,_,p2,_⟩:=I1.tuple hy
      refine wD (show s1.heap.IsTuple a1 its1.toArray from p1) (show s1.heap.IsTuple b1 its2.toArray from p2) fun h' kp sz Z=>?_
      refine wpAny_pyIter_zip (s:={ s1 with heap:=h' }) Z.hz ?_
      have I2:Inv X pins σ H1 { s1 with heap:=h' }:=I1.kept (t':=s1.toks) kp
      refine⟨s1.heap.objs.size+4,_,_,_,H1,rfl,I2,xW (zipApart_new p1.lt p2.lt),Z,fun c hc=>?_,q⟩
      have hc':s1.heap.objs.size<=c:=by
        simp at hc
        rcases hc with h | h | h | h | h<;>rw[h]<;>first | exact Nat.le_refl _ | exact Nat.le_add_right _ _
      exact I1.fpOk hc' (I1.hok.fresh hc')
end
end L2
namespace L2
open PySem PySem.Spec PyProof.Rows
section
variable {prog:Program} {w:World} {A:Around} {E:Value->Shared->Prop} {s:Shared}
theorem Bv(hh:A.handled=none)(it t:Addr)(ap:t≠it)(its:Array Value):Draws prog w A it [it,t] its.size (fun k v=>its[k]?=some v) (fun k h=>h.IsTupleIter it t k/\h.IsTuple t its) where
 live:=fun _ _ q=>by obtain⟨⟨o,e,_⟩,_⟩:=q;exact⟨o,e⟩
 frame:=fun _ _ _ q kp=>by
  obtain⟨⟨o,e,r⟩,⟨o2,e2,r2⟩⟩:=q
  exact⟨⟨o,kp it (by simp) o e,r⟩,⟨o2,kp t (by simp) o2 e2,r2⟩⟩
 item:=fun k s Q E lt q fin=>zQ hh q.1 q.2 (fun x h' hx a sb=>fin x h' s.toks hx ⟨a,by obtain⟨o2,e2,r2⟩:=q.2;exact⟨o2,(sb.2 t ap).trans e2,r2⟩⟩ sb) fun h' e hx _ _=>by
  have:its[k]?=some its[k]:=by simp[lt]
  rw[this] at hx;cases hx
 done:=fun s Q E q fin=>zQ hh q.1 q.2 (fun x h' hx _ _=>by simp at hx) fun h' e _ a b=>fin h' e a b
set_option maxHeartbeats 1000000 in
theorem v7(t:Addr)(its:Array Value)(n:Nat)(dd:Option Addr)(sl:Array (Option Value)) :
    Meets (Builtin.«enumerate.__new__» ⟨[.type "enumerate",.ref t],[]⟩) (fun _ R s=>s.heap.get? t=some { cls:=.type "tuple",dict:=dd,data:=.seq its n,slots:=sl } /\
      R (.ok (.ret (.ref (s.heap.push (itT t)).objs.size))) { s with heap:=(s.heap.push (itT t)).push { cls:=.type "enumerate",data:=.fields #[.none,.bool false,.ref s.heap.objs.size,rawInt 0,.none,.none] } }) :=
  .of_wp fun prog w A R s h=>by
    obtain⟨hp,g,d,tk,os⟩:=s;obtain⟨hl,h⟩:=h
    have hsub:=sub_enumerate
    have hL:Heap.IsTuple (Shared.heap ⟨hp,g,d,tk,os⟩) t its:=⟨_,hl,rfl,n,rfl⟩
    wp_walk using AutoSeq1.wpAny_loadPart' hl
    refine wpAny_stack_any fun fr=>wpAny_pure ?_
    split
    · rename_i c _ _ _ _ _
      cases (c==Value.type "enumerate")<;>(wp_walk using AutoSeq1.wpAny_loadPart' hl,wpAny_pyIter_tuple hL;exact⟨_,rfl,h⟩)
    · wp_walk using AutoSeq1.wpAny_loadPart' hl,wpAny_pyIter_tuple hL;exact⟨_,rfl,h⟩
theorem tH{t:Addr}{its:Array Value}{Q:Value->Shared->Prop}(ht:s.heap.IsTuple t its)
  (q:∀ h',IsEnum h' (s.heap.objs.size+1) s.heap.objs.size 0 .none->h'.IsTupleIter s.heap.objs.size t 0->(∀ b o,s.heap.get? b=some o->h'.get? b=some o)->Q (.ref (s.heap.objs.size+1)) { s with heap:=h' }) :
  wpAny (model prog w) A (call (.type "enumerate") [.ref t]) Q E s:=by
 obtain⟨⟨c,dd,dt,sl⟩,e,hc,n,hd⟩:=ht
 cases (show c=.type "tuple" from hc)
 cases (show dt=.seq its n from hd)
 refine callType_new F.called_enumerate (by decide) (F.typeCall_enumerate_1 _) (F.newCall_enumerate_1 _) (fun obj=>F.args_object_init_2 obj _) F.entry_enumerate_new (v7 t its n dd sl) ⟨e,?_⟩
 have z:(s.heap.push (itT t)).objs.size=s.heap.objs.size+1:=Heap.size_push ..
 have en:=Heap.get?_push_size (s.heap.push (itT t)) (o:={ cls:=.type "enumerate",data:=.fields #[.none,.bool false,.ref s.heap.objs.size,rawInt 0,.none,.none] }) rfl
 rw[z] at en
 show _/\_
 rw[z]
 exact⟨⟨_,en,rfl⟩,q _ en ⟨_,Heap.get?_push_of_some _ (Heap.get?_push_size _ rfl),rfl,rfl⟩ fun b o x=>Heap.get?_push_of_some _ (Heap.get?_push_of_some _ x)⟩
end
def Ite(K:PySem.W.Frag)(t:Addr):It :=
 ⟨fun i H=>∃ xs x,SqT K H t xs/\xs[i]?=some x,fun i H v H'=>∃ p,H p=none/\v=.ref p/\∀ xs x,SqT K H t xs->xs[i]?=some x->H'=upd H p (.tup [.int (i:Int),x]),fun i H=>∃ xs,SqT K H t xs/\xs.length=i⟩
theorem uh{P:Program}{w:World}{K:PySem.W.Frag}{es:List Expr}{kt:Nat}{pt:Pos}{e it t:Addr}(d1:e≠it)(d2:e≠t)(d3:t≠it) :
  Turn P w K (.Tuple es kt pt) (Ite K t) [e,it] e (fun i h=>(∃ old,IsEnum h e it (i:Int) old)/\h.IsTupleIter it t i) where
 mem:=by simp
 obj:=fun i h q b hb=>by
  obtain⟨⟨old,q1⟩,o2,q2,_,q3⟩:=q
  simp at hb
  rcases hb with rfl | rfl
  ·exact⟨_,q1,fun v z=>by have z':Data.fields _=Data.cell v:=z;cases z'⟩
  ·exact⟨o2,q2,fun v z=>by rw[q3] at z;cases z⟩
 keep:=fun i h h' q kp=>by
  obtain⟨⟨old,q1⟩,o2,q2,q3⟩:=q
  exact⟨⟨old,kp e (by simp) _ q1⟩,o2,kp it (by simp) _ q2,q3⟩
 item:=by
  intro X hP hw hK hc i pins s σ H E I hf q hg
  subst hP hw hK
  obtain⟨xs,x,hq,hx⟩:=hg
  obtain⟨⟨old,q1⟩,q2⟩:=q
  obtain⟨its,rv,p,hz⟩:=I.tuple hq
  obtain⟨u,hu,ru⟩:=rv.get hx
  have hi:i<its.toArray.size:=by simpa using(List.getElem?_eq_some_iff.mp hu).1
  have D:=Bv (prog:=X.prog) (w:=X.w) (A:=X.A.in1) (I.ok.hd hc) it t d3 its.toArray
  refine wpAny_pyNext_enum_itemD D q1 ⟨q2,(show s.heap.IsTuple t its.toArray from p)⟩ hi d1 (by simp;exact⟨d1,d2⟩) fun y h' tk hy eo st' new sz kp=>?_
  have ey:y=u:=by
   have:its[i]?=some y:=by simpa using hy
   rw[hu] at this;exact(Option.some.inj this).symm
  subst ey
  have szl:2<=sizeLine:=by decide
  have hlt:∀ c∈[e,it],c<s.heap.objs.size:=fun c hc'=>by
   simp at hc'
   rcases hc' with rfl | rfl
   ·exact Heap.lt_size q1
   ·obtain⟨o2,q2,_⟩:=q2;exact Heap.lt_size q2
  have I1:Inv X pins σ (upd H s.heap.objs.size (.tup [.int (i:Int),x])) { s with heap:=h',toks:=tk+1 }:=I.turnedNew (ch:=[e,it]) hf (fun b o hb z=>kp b o (fun q=>hb (by simp[q])) (fun q=>hb (by simp[q])) z) ⟨szl,[.int i tk,y],.cons ⟨tk,rfl⟩ (.cons ru .nil),⟨_,new,rfl,_,rfl⟩⟩
  refine⟨_,rfl,wpAny_letOwnedTupleGo_enum (s:={ s with heap:=h',toks:=tk+1 }) eo fun h2 e2 sb=>?_⟩
  obtain⟨f0,f1,f2,f3,f4,f5⟩:=hf e (by simp)
  have I2:Inv X pins σ (upd H s.heap.objs.size (.tup [.int (i:Int),x])) { s with heap:=h2,toks:=tk+1 }:=I1.turned (t':=tk+1) (fun c o hc' z=>(sb.2 c hc').trans z) (by rw[aL (Nat.ne_of_lt (hlt e (by simp)))];exact f0) f1 f3 f4 f5
  refine⟨.ref s.heap.objs.size,_,I2,rfl,⟨_,I.hok.fresh (Nat.le_refl _),rfl,fun xs' x' a1 a2=>?_⟩,⟨⟨y,by simpa using e2⟩,?_⟩,fun b hb=>by rw[aL (Nat.ne_of_lt (hlt b hb))];exact(hf b hb).1⟩
  ·have e1:=I.tuple_inj a1 hq
   subst e1
   rw[hx] at a2;cases a2;rfl
  ·obtain⟨o3,g1,g2⟩:=st'.1
   exact⟨o3,(sb.2 it d1.symm).trans g1,g2⟩
 done:=by
  intro X hP hw hK hc i pins s σ H E I hf q hg
  subst hP hw hK
  obtain⟨xs,hq,hl⟩:=hg
  obtain⟨⟨old,q1⟩,q2⟩:=q
  obtain⟨its,rv,p,hz⟩:=I.tuple hq
  have hn:its.toArray.size=i:=by rw[List.size_toArray,<- rv.length,hl]
  have D:=Bv (prog:=X.prog) (w:=X.w) (A:=X.A.in1) (I.ok.hd hc) it t d3 its.toArray
  refine wpAny_pyNext_enum_endD D q1 ⟨by rw[hn];exact q2,(show s.heap.IsTuple t its.toArray from p)⟩ fun h' eb=>⟨rfl,?_⟩
  obtain⟨f0,f1,f2,f3,f4,f5⟩:=hf it (by simp)
  exact I.turned (t':=s.toks) (fun b o hb z=>eb b o hb z) f0 f1 f3 f4 f5
 self:=fun _ _ _ _ _ q h=>by obtain⟨⟨old,q1⟩,_⟩:=q;exact wpAny_pyIter_enum q1 h
section
variable {X:Cx}
def RW(K:PySem.W.Frag)(ta:TA):TI:=fun σ H R=>ta σ H fun vs H1=>∃ a,vs=[.ref a]/\(∃ xs,SqT K H1 a xs)/\R (Ite K a) H1
theorem Dk{a:Expr}{ta:TA}{p pos pt:Pos}{es:List Expr}{kt:Nat}(hg:Gl X "enumerate")(hm:X.mg "enumerate"=none)(ha:PA X [a] ta)(hs:starEach [a] X.env=[(false,eval a X.env)]) :
    PI X (.Tuple es kt pt) (.Call (.Name "enumerate" p) [a] [] pos) (RW X.K ta):=by
  intro pins s σ H R I h
  refine Call_ (eO I hg hm (show bootBuiltins "enumerate"=some (.type "enumerate") by decide +kernel) (PyProof.Rows.callWith_type1 (thn (ha pos pins s σ H _ I h) fun us s1 ⟨vs,H1,I1,r1,q1⟩=>?_) hs rfl))
  obtain⟨a1,e,⟨xs,hx⟩,q⟩:=q1
  subst e
  cases r1 with
  | cons r rr =>
    cases rr
    cases (show _=Value.ref a1 from r)
    obtain⟨its1,rv,p1,hz⟩:=I1.tuple hx
    refine tH (show s1.heap.IsTuple a1 its1.toArray from p1) fun h' en ti kp=>?_
    refine wpAny_pyIter_enum (s:={ s1 with heap:=h' }) en ?_
    have I2:Inv X pins σ H1 { s1 with heap:=h' }:=I1.kept (t':=s1.toks) kp
    have lt1:a1<s1.heap.objs.size:=p1.lt
    refine⟨s1.heap.objs.size+1,_,_,_,H1,rfl,I2,uh (Nat.succ_ne_self _) (Nat.ne_of_gt (Nat.lt_succ_of_lt lt1)) (Nat.ne_of_lt lt1),⟨⟨_,en⟩,ti⟩,fun c hc=>?_,q⟩
    have hc':s1.heap.objs.size<=c:=by
      simp at hc
      rcases hc with h | h<;>rw[h]<;>first | exact Nat.le_refl _ | exact Nat.le_add_right _ _
    exact I1.fpOk hc' (I1.hok.fresh hc')
end
end L2
namespace L2
open PySem PySem.Spec PyProof.Rows
section
variable {X:Cx}
end
end L2
namespace L2
open PySem PySem.Spec PyProof.Rows
section
variable {prog:Program} {w:World} {A:Around} {E:Value->Shared->Prop} {s:Shared}
end
section
variable {X:Cx}
end
end L2
namespace L2
open PySem PySem.Spec PyProof.Rows
section
variable {X:Cx}
end
end L2
namespace L2
open PySem PySem.Spec PyProof.Rows
theorem iK:fillsNumberSlot (.type "tuple") "mul"=pure false :=
 PySem.fillsNumberSlot_seq (id:="tuple.__mul__") (r:=some (.builtin "tuple.__rmul__")) PySem.F.slot_tuple_mul.lookup (by decide +kernel) PySem.F.slot_tuple_rmul.lookup (by decide +kernel)
theorem mU:seqRepeat? (.type "tuple")=pure (some (.builtin "tuple.__mul__")):=by
 unfold seqRepeat?
 rw[PySem.seqSlot_of (T:="tuple") (name:="__mul__") (id:="tuple.__mul__") PySem.F.slot_tuple_mul.lookup (by decide +kernel),PySem.seqSlot_of (T:="tuple") (name:="__rmul__") (id:="tuple.__rmul__") PySem.F.slot_tuple_rmul.lookup (by decide +kernel)]
 rfl
theorem jL(a:Int)(t:Tok)(l:Addr)(items:Array Value)(n:Nat)(dd:Option Addr)(sl:Array (Option Value)) :
  Meets (Builtin.«int.__rmul__» ⟨[.int a t,.ref l],[]⟩) (fun _ R s=>s.heap.get? l=some { cls:=.type "tuple",dict:=dd,data:=.seq items n,slots:=sl }/\R (.ok (.ret Value.notImplemented)) s) :=
 .of_wp fun prog w A R s h=>by obtain⟨hp,g,d,tk,os⟩:=s;obtain⟨hl,h⟩:=h;wp_walk;exact⟨_,rfl,h⟩
theorem rO(l:Addr)(items:Array Value)(n:Nat)(dd:Option Addr)(sl:Array (Option Value))(t:Tok) :
  Meets (Builtin.«tuple.__mul__» ⟨[.ref l,.int 1 t],[]⟩) (fun _ R s=>s.heap.get? l=some { cls:=.type "tuple",dict:=dd,data:=.seq items n,slots:=sl }/\R (.ok (.ret (Value.ref l))) { s with heap:=s.heap,toks:=s.toks }) :=
 .of_wp fun prog w A R s h=>by obtain⟨hp,g,d,tk,os⟩:=s;obtain⟨hl,h⟩:=h;have f1:=AutoSeq1.idx_int;have f2:=AutoSeq1.sub_tuple_tuple;wp_walk using wpAny_loadPart' hl;exact⟨_,rfl,h⟩
theorem rN(l:Addr)(x:Value)(n:Nat)(dd:Option Addr)(sl:Array (Option Value))(t:Tok) :
  Meets (Builtin.«tuple.__mul__» ⟨[.ref l,.int 2 t],[]⟩) (fun _ R s=>s.heap.get? l=some { cls:=.type "tuple",dict:=dd,data:=.seq #[x] n,slots:=sl }/\R (.ok (.ret (Value.ref s.heap.objs.size))) { s with heap:=s.heap.push { cls:=Value.type "tuple",data:=Data.seq #[x,x] },toks:=s.toks }) :=
 .of_wp fun prog w A R s h=>by obtain⟨hp,g,d,tk,os⟩:=s;obtain⟨hl,h⟩:=h;have f1:=AutoSeq1.idx_int;have f2:=AutoSeq1.sub_tuple_tuple;wp_walk using wpAny_loadPart' hl;exact⟨_,rfl,h⟩
theorem rM(l:Addr)(x:Value)(n:Nat)(dd:Option Addr)(sl:Array (Option Value))(t:Tok) :
  Meets (Builtin.«tuple.__mul__» ⟨[.ref l,.int 3 t],[]⟩) (fun _ R s=>s.heap.get? l=some { cls:=.type "tuple",dict:=dd,data:=.seq #[x] n,slots:=sl }/\R (.ok (.ret (Value.ref s.heap.objs.size))) { s with heap:=s.heap.push { cls:=Value.type "tuple",data:=Data.seq #[x,x,x] },toks:=s.toks }) :=
 .of_wp fun prog w A R s h=>by obtain⟨hp,g,d,tk,os⟩:=s;obtain⟨hl,h⟩:=h;have f1:=AutoSeq1.idx_int;have f2:=AutoSeq1.sub_tuple_tuple;wp_walk using wpAny_loadPart' hl;exact⟨_,rfl,h⟩
theorem rK(l:Addr)(x:Value)(n:Nat)(dd:Option Addr)(sl:Array (Option Value))(t:Tok) :
  Meets (Builtin.«tuple.__mul__» ⟨[.ref l,.int 4 t],[]⟩) (fun _ R s=>s.heap.get? l=some { cls:=.type "tuple",dict:=dd,data:=.seq #[x] n,slots:=sl }/\R (.ok (.ret (Value.ref s.heap.objs.size))) { s with heap:=s.heap.push { cls:=Value.type "tuple",data:=Data.seq #[x,x,x,x] },toks:=s.toks }) :=
 .of_wp fun prog w A R s h=>by obtain⟨hp,g,d,tk,os⟩:=s;obtain⟨hl,h⟩:=h;have f1:=AutoSeq1.idx_int;have f2:=AutoSeq1.sub_tuple_tuple;wp_walk using wpAny_loadPart' hl;exact⟨_,rfl,h⟩
theorem rP(l:Addr)(x:Value)(n:Nat)(dd:Option Addr)(sl:Array (Option Value))(t:Tok) :
  Meets (Builtin.«tuple.__mul__» ⟨[.ref l,.int 0 t],[]⟩) (fun _ R s=>s.heap.get? l=some { cls:=.type "tuple",dict:=dd,data:=.seq #[x] n,slots:=sl }/\R (.ok (.ret (Value.ref s.heap.objs.size))) { s with heap:=s.heap.push { cls:=.type "tuple",data:=.seq #[] },toks:=s.toks }) :=
 .of_wp fun prog w A R s h=>by obtain⟨hp,g,d,tk,os⟩:=s;obtain⟨hl,h⟩:=h;have f1:=AutoSeq1.idx_int;have f2:=AutoSeq1.sub_tuple_tuple;wp_walk using wpAny_loadPart' hl;exact⟨_,rfl,h⟩
end L2
namespace L2
open PySem PySem.Spec PyProof.Rows PySem.SeqAt
section
variable {X:Cx}
def Mj(K:PySem.W.Frag):R2:=fun x y H Q=>∃ l b us zs,x=.ref l/\y=.ref b/\SqL K H l us/\SqL K H b zs/\us.length+zs.length<=sizeLine/\∀ p,H p=none->Q (.ref p) (upd H p (.lst (us++zs)))
theorem DQ:OpR X (binaryOp .Add) (Mj X.K):=by
 intro pins s σ H x y v u Q I rx ry h
 obtain⟨l,b,us,zs,rfl,rfl,hH,hB,hz,q⟩:=h
 cases (show v=Value.ref l from rx)
 cases (show u=Value.ref b from ry)
 obtain⟨its,r,pl,z1⟩:=I.list hH
 obtain⟨its2,r2,pl2,z2⟩:=I.list hB
 have e1:=r.length
 have e2:=r2.length
 obtain⟨⟨c1,d1,w1,t1⟩,n1,o1,hc1,hd1,hs1⟩:=pl
 obtain⟨⟨c2,d2,w2,t2⟩,n2,o2,hc2,hd2,hs2⟩:=pl2
 simp only at hc1 hs1 hc2 hs2
 subst hc1 hs1 hc2 hs2
 refine concat_meets ⟨_,o1,rfl⟩ ⟨_,o2,rfl⟩ noFill_list_add seq_list_add PySem.F.slot_list_add PySem.F.entry_list_add (PySem.F.args_list_add_2 _ _) (list_addW l b its.toArray its2.toArray n1 n2 d1 d2 t1 t2 (by rw[List.size_toArray,List.size_toArray];omega)) ⟨o1,o2,?_⟩
 rw[show its.toArray++its2.toArray=(its++its2).toArray by simp]
 exact⟨.ref _,_,I.lnew (t':=s.toks) (r.append r2) (by rw[List.length_append];omega),rfl,q _ I.fresh⟩
def LR(K:PySem.W.Frag):R2:=fun x y H Q=>∃ l k us,x=.ref l/\y=.int k/\SqL K H l us /\ -(2^63)<=k/\k<2^63/\us.length*k.toNat<=sizeLine /\
 ∀ p,H p=none->Q (.ref p) (upd H p (.lst (List.replicate k.toNat us).flatten))
theorem uZ:OpR X (binaryOp .Mult) (LR X.K):=by
 intro pins s σ H x y v u Q I rx ry h
 obtain⟨l,k,us,rfl,rfl,hH,h1,h2,hz,q⟩:=h
 cases (show v=Value.ref l from rx)
 obtain⟨t,rfl⟩:=ry
 obtain⟨its,r,pl,z1⟩:=I.list hH
 have hl:=r.length
 obtain⟨⟨c1,d1,w1,t1⟩,n1,e,hc1,hd1,hs1⟩:=pl
 simp only at hc1 hs1
 subst hc1 hs1
 have a1:its.toArray.size*k.toNat<=sizeLine:=by rw[List.size_toArray,<- hl];exact hz
 have a2:¬ its.toArray.size*k.toNat>(2^63-1) / 8:=by
  have:(sizeLine:Nat)<=(2^63-1) / 8:=by decide
  omega
 have a3:¬ (!Builtin.List.listFitsIndex k)=true:=by rw[fitsIndex_both h1 h2];exact Bool.false_ne_true
 have a4:¬ Builtin.List.listTooLong (its.toArray.size*k.toNat)=true:=by rw[lB a1];exact Bool.false_ne_true
 have a5:List.foldl (fun x1 x2=>x1++x2) #[] (List.replicate (if its.toArray.isEmpty=true then 0 else k.toNat) its.toArray)=(List.replicate k.toNat its).flatten.toArray:=by
  have f0:∀ m:Nat,List.foldl (fun x1 x2=>x1++x2) #[] (List.replicate m its.toArray)=(List.replicate m its).flatten.toArray:=fun m=>(foldl_rep its m []).trans (by rw[List.nil_append])
  rw[f0]
  cases its with
  | nil=>simp
  | cons a r'=>rw[if_neg (by simp)]
 refine wpAny_binaryOp_repeat_ref (T:="list") (U:="int") (by decide) ⟨_,e,rfl⟩ (fun s'=>typeIs_int s' k t) noFill_list_mul F.fills_int_mul F.slot_int_rmul repeat_list F.slot_int_index.lookup ?_
 refine call_meets F.slot_int_rmul (typeIs_int s k t) F.entry_int_rmul (F.args_int_rmul_2 _ _) (lm_int_rmul_list_any k t l its.toArray n1 d1 t1) ⟨e,rfl,⟨_,e,rfl⟩,?_⟩
 refine call_meets F.slot_list_mul ⟨_,e,rfl⟩ F.entry_list_mul (F.args_list_mul_2 _ _) (lm_list_mul_any l its.toArray n1 d1 t1 k t a3 a2 a4) ⟨e,?_⟩
 rw[a5]
 exact⟨.ref _,_,I.lnew (t':=s.toks) (r.rep k.toNat) (by rw[len_rep,Nat.mul_comm];exact hz),rfl,q _ I.fresh⟩
end
end L2
namespace L2
open PySem PySem.Spec PyProof.Rows PySem.SeqAt
theorem yw(its:List Value):slicePick its.toArray none none (some (-1))=its.reverse.toArray:=by
 have e1:sliceBounds none none (some (-1)) its.toArray.size=((its.length:Int)-1,-1,-1):=by
  simp[sliceBounds]
 have e2:sliceRange ((its.length:Int)-1) (-1) (-1)=(List.range its.length).map fun k=>its.length-1-k:=by
  unfold sliceRange
  have hc:(if(-1:Int)>0 then(if(its.length:Int)-1 < -1 then(-1-((its.length:Int)-1) + -1-1) / -1 else 0) else(if(its.length:Int)-1 > -1 then((its.length:Int)-1 - -1 - -1-1) / (- -1) else 0))=(its.length:Int):=by
   rw[if_neg (by decide)]
   by_cases h:(its.length:Int)-1 > -1
   ·rw[if_pos h,show(- -1:Int)=1 from rfl,Int.ediv_one];omega
   ·rw[if_neg h];omega
  simp only[hc,Int.toNat_natCast]
  refine List.map_congr_left fun k hk=>?_
  have:=List.mem_range.mp hk
  omega
 unfold slicePick
 rw[e1]
 simp only[e2]
 congr 1
 have e3:(List.range its.length).map (fun k=>its[its.length-1-k]?)=its.reverse.map some:=by
  apply List.ext_getElem?
  intro i
  by_cases h:i<its.length
  ·rw[List.getElem?_map,List.getElem?_range h,List.getElem?_map,List.getElem?_reverse h,Option.map_some,List.getElem?_eq_getElem (by omega),Option.map_some]
  ·rw[List.getElem?_eq_none (by simp;omega),List.getElem?_eq_none (by simp;omega)]
 have e4:((List.range its.length).map fun k=>its.length-1-k).filterMap (fun x=>its.toArray[x]?)=((List.range its.length).map fun k=>its[its.length-1-k]?).filterMap id:=by
  rw[List.filterMap_map,List.filterMap_map]
  refine congrArg (fun f=>List.filterMap f (List.range its.length)) (funext fun k=>?_)
  simp
 rw[e4,e3,List.filterMap_map]
 simp
section
variable {X:Cx}
theorem Dp{e c:Expr}{te tc:TE}{p2 pos:Pos}(he:PE X e te)(hc:PE X c tc) :
    PE X (.Subscript e (.Slice none none (some c) p2) pos) (fun σ H Q=>te σ H fun x H1=>tc σ H1 fun y H2=>∃ p us,x=.ref p/\y=.int (-1)/\SqL X.K H2 p us/\∀ q,H2 q=none->Q (.ref q) (upd H2 q (.lst us.reverse))):=by
  intro pins s σ H Q I h
  refine Subscript_ (thn (he pins s σ H _ I h) fun v s1 ⟨x,H1,I1,r1,q1⟩=>?_)
  refine wpAny_Slice ?_
  rw[evalPart_none,evalPart_some]
  refine wpAny_pure (wpAny_pure (thn (hc pins s1 σ H1 _ I1 q1) fun u s2 ⟨y,H2,I2,r2,q2⟩=>?_))
  obtain⟨p,us,rfl,rfl,hq,q⟩:=q2
  cases (show v=Value.ref p from r1)
  obtain⟨t,rfl⟩:=r2
  have I3:Inv X pins σ H2 { s2 with heap:=s2.heap.push { cls:=.type "slice",data:=.fields #[.none,.none,.int (-1) t] } }:=I2.kept (t':=s2.toks) fun b ob q=>Heap.get?_push_of_some _ q
  obtain⟨its,r,pl,hz⟩:=I3.list hq
  have hl:=r.length
  have hg:=wpAny_getItem_list_slice (prog:=X.prog) (w:=X.w) (A:=X.A) (E:=X.xe) (Q:=EP X pins σ Q) (vl:=.none) (vu:=.none) (vs:=.int (-1) t) (lo:=none) (hi:=none) (st:=some (-1)) pl.isList (Heap.IsSliceOf.new ..) .none .none (.int _ t) (by decide) (by
    rw[yw]
    exact⟨.ref _,_,I3.lnew (t':=s2.toks) r.reverse (by rw[List.length_reverse];omega),rfl,q _ I3.fresh⟩) (by rw[List.size_toArray];omega)
  show wpAny (model X.prog X.w) X.A (subscriptTail e (.Slice none none (some c) p2) (.ref p) (.ref s2.heap.objs.size)) (EP X pins σ Q) X.xe { s2 with heap:=s2.heap.push { cls:=.type "slice",data:=.fields #[.none,.none,.int (-1) t] } }
  exact tail_any (ops:=[.ref p,.ref s2.heap.objs.size]) pl.isList.typeIs list_getitem_lookup hg (by with_unfolding_all rfl)
end
end L2
namespace L2
open PySem PySem.Spec PyProof.Rows PySem.SeqAt
section
variable {prog:Program} {w:World} {A:Around} {E:Value->Shared->Prop} {s:Shared}
theorem tL(n:Nat):Builtin.Slice.sliceAdjust none none (-1) (n:Int)=((n:Int)-1,-1):=by
 unfold Builtin.Slice.sliceAdjust
 simp
theorem sE(n:Nat):Builtin.Slice.slicePlaces ((n:Int)-1) (-1) (-1)=n:=by
 unfold Builtin.Slice.slicePlaces
 have h1:¬ ((-1:Int)>0):=by omega
 simp only[h1,if_false]
 split
 ·rw[show(- -1:Int)=1 from rfl,Int.ediv_one];omega
 ·omega
theorem iJ{sl:Addr}{n:Nat}{u:Tok}{Q:Int×Int×Nat->Shared->Prop}(hs:s.heap.IsSliceOf sl .none .none (.int (-1) u))(h:Q ((n:Int)-1,-1,n) s) :
  wpAny (model prog w) A (Builtin.Slice.sliceApplied (.ref sl) (pure (n:Int))) Q E s:=by
 obtain⟨os,hos,hcs,hds⟩:=id hs
 unfold Builtin.Slice.sliceApplied Builtin.Slice.sliceFields
 refine wpAny_bind (wpAny_bind (wpAny_field hos hds (x:=.none) rfl (wpAny_bind (wpAny_field hos hds (x:=.none) rfl (wpAny_bind (wpAny_field hos hds (x:=.int (-1) u) rfl (wpAny_pure ?_)))))))
 refine wpAny_bind (slicePart_int ?_)
 show wpAny _ _ (if((-1:Int)==0)=true then _ else _) _ _ s
 rw[if_neg (by decide)]
 refine wpAny_bind (slicePart_none (wpAny_bind (slicePart_none (wpAny_bind (wpAny_pure ?_)))))
 show wpAny _ _ (match Builtin.Slice.sliceAdjust none none (-1) (n:Int) with | (lo,hi)=>pure (lo,(-1:Int),Builtin.Slice.slicePlaces lo hi (-1))) _ _ s
 rw[tL n]
 show wpAny _ _ (pure ((n:Int)-1,(-1:Int),Builtin.Slice.slicePlaces ((n:Int)-1) (-1) (-1))) _ _ s
 rw[sE n]
 exact wpAny_pure h
theorem uQ(its:List Value):((List.range its.length).filterMap fun(k:Nat)=>its.toArray[(((its.length:Int)-1)+(k:Int)*(-1)).toNat]?).toArray=its.reverse.toArray:=by
 congr 1
 have e3:(List.range its.length).map (fun(k:Nat)=>its.toArray[(((its.length:Int)-1)+(k:Int)*(-1)).toNat]?)=its.reverse.map some:=by
  apply List.ext_getElem?
  intro i
  by_cases h:i<its.length
  ·rw[List.getElem?_map,List.getElem?_range h,List.getElem?_map,List.getElem?_reverse h,Option.map_some,List.getElem?_toArray,show(((its.length:Int)-1)+(i:Int)*(-1)).toNat=its.length-1-i by omega,List.getElem?_eq_getElem (by omega),Option.map_some]
  ·rw[List.getElem?_eq_none (by simp;omega),List.getElem?_eq_none (by simp;omega)]
 have e4:(List.range its.length).filterMap (fun(k:Nat)=>its.toArray[(((its.length:Int)-1)+(k:Int)*(-1)).toNat]?)=((List.range its.length).map (fun(k:Nat)=>its.toArray[(((its.length:Int)-1)+(k:Int)*(-1)).toNat]?)).filterMap id:=by
  rw[List.filterMap_map];rfl
 rw[e4,e3,List.filterMap_map]
 simp
theorem iw{t sl:Addr}{its:List Value}{u:Tok}{Q:Value->Shared->Prop}(ht:IsTup s.heap t its.toArray)(hs:s.heap.IsSliceOf sl .none .none (.int (-1) u))
    (h:Q (.ref s.heap.objs.size) { s with heap:=s.heap.push { cls:=.type "tuple",data:=.seq its.reverse.toArray } })
    (hsz:its.length<=sizeLine):wpAny (model prog w) A (getItem (.ref t) (.ref sl)) Q E s:=by
  have hrev:sizeOk (.seq its.reverse.toArray):=by
    show its.reverse.toArray.size<=sizeLine
    rw[List.size_toArray,List.length_reverse]
    exact hsz
  obtain⟨os,hos,hcs,hds⟩:=id hs
  have hTs:s.TypeIs (.ref sl) "slice":=⟨os,hos,hcs⟩
  unfold getItem
  try with_reducible refine wpAny_holding ?_
  first | refine wpAny_bind (wpAny_pure ?_) | skip
  refine wpAny_bind (wpAny_sequenceKey ht.typeIs (by decide) ?_)
  refine wpAny_bind (wpAny_callSpecial?_slot (name:=Str.ofString "__getitem__") ht.typeIs slot_tuple_getitem
    (wpAny_call_entry slot_tuple_getitem ht.typeIs entry_tuple_getitem ?_ (args_tuple_getitem _ _)))
  show wpAny _ _ (Builtin.Tuple.tupleItemsOf (.ref t) >>=_) _ _ s
  refine wpAny_bind (tupleItemsOf_ ht ?_)
  refine wpAny_bind (wpAny_typeOf hTs ?_)
  rw[if_pos (by decide)]
  refine wpAny_bind (iJ (n:=its.toArray.size) hs ?_)
  have hno:¬ ((((its.toArray.size:Nat):Int)-1==0&&(-1:Int)==1&&its.toArray.size==its.toArray.size)=true):=by
    rw[show((-1:Int)==1)=false from rfl];simp
  show wpAny _ _ (if(((its.toArray.size:Nat):Int)-1==0&&(-1:Int)==1&&its.toArray.size==its.toArray.size)=true then _ else _) _ _ s
  rw[if_neg hno,List.size_toArray,uQ]
  first
    | exact wpAny_bind (m:=Builtin.Tuple.tupleExact _) (wpAny_newObj_type (wpAny_pure ⟨_,rfl,wpAny_pure h⟩) hrev)
    | exact wpAny_bind (m:=Builtin.Tuple.tupleExact _) (wpAny_newObj_type (wpAny_bind (wpAny_pure (wpAny_pure ⟨_,rfl,wpAny_pure h⟩))) hrev)
    | exact wpAny_bind (wpAny_bind (m:=Builtin.Tuple.tupleExact _) (wpAny_newObj_type (wpAny_pure (wpAny_pure ⟨_,rfl,wpAny_pure h⟩)) hrev))
    | exact wpAny_bind (wpAny_bind (m:=Builtin.Tuple.tupleExact _) (wpAny_newObj_type (wpAny_pure ⟨_,rfl,wpAny_pure h⟩) hrev))
end
section
variable {X:Cx}
theorem Dn{e c:Expr}{te tc:TE}{p2 pos:Pos}(he:PE X e te)(hc:PE X c tc) :
    PE X (.Subscript e (.Slice none none (some c) p2) pos) (fun σ H Q=>te σ H fun x H1=>tc σ H1 fun y H2=>∃ p us,x=.ref p/\y=.int (-1)/\SqT X.K H2 p us/\∀ q,H2 q=none->Q (.ref q) (upd H2 q (.tup us.reverse))):=by
  intro pins s σ H Q I h
  refine Subscript_ (thn (he pins s σ H _ I h) fun v s1 ⟨x,H1,I1,r1,q1⟩=>?_)
  refine wpAny_Slice ?_
  rw[evalPart_none,evalPart_some]
  refine wpAny_pure (wpAny_pure (thn (hc pins s1 σ H1 _ I1 q1) fun u s2 ⟨y,H2,I2,r2,q2⟩=>?_))
  obtain⟨p,us,rfl,rfl,hq,q⟩:=q2
  cases (show v=Value.ref p from r1)
  obtain⟨t,rfl⟩:=r2
  have I3:Inv X pins σ H2 { s2 with heap:=s2.heap.push { cls:=.type "slice",data:=.fields #[.none,.none,.int (-1) t] } }:=I2.kept (t':=s2.toks) fun b ob q=>Heap.get?_push_of_some _ q
  obtain⟨its,r,pt,hz⟩:=I3.tuple hq
  have hl:=r.length
  have hg:=iw (prog:=X.prog) (w:=X.w) (A:=X.A) (E:=X.xe) (Q:=EP X pins σ Q) (u:=t) pt (Heap.IsSliceOf.new ..) (by
    refine⟨.ref _,_,I3.laid (t':=s2.toks) (o:=.tup us.reverse) (fun b ob q=>Heap.get?_push_of_some _ q) (Nat.le_refl _) ?_,rfl,q _ (I3.hok.fresh (Nat.le_refl _))⟩
    exact⟨by rw[List.length_reverse];exact hz,its.reverse,r.reverse,IsTup.new _ _⟩) (by omega)
  show wpAny (model X.prog X.w) X.A (subscriptTail e (.Slice none none (some c) p2) (.ref p) (.ref s2.heap.objs.size)) (EP X pins σ Q) X.xe { s2 with heap:=s2.heap.push { cls:=.type "slice",data:=.fields #[.none,.none,.int (-1) t] } }
  exact tail_any (ops:=[.ref p,.ref s2.heap.objs.size]) pt.typeIs slot_tuple_getitem.lookup hg (by with_unfolding_all rfl)
end
end L2
namespace HT
open PySem PySem.Spec PyProof.Rows PySem.SeqAt L2
section
variable {prog:Program} {w:World} {A:Around} {E:Value->Shared->Prop} {s:Shared}
theorem fX{t sl:Addr}{items:Array Value}{vl vu:Value}{lo hi:Option Int}{Q:Value->Shared->Prop}(ht:IsTup s.heap t items)(hs:s.heap.IsSliceOf sl vl vu .none)(pl:IsPart vl lo)(pu:IsPart vu hi)
    (hw:sIx items.size 0 lo=0/\sIx items.size items.size hi=items.size) (h:Q (.ref t) s):wpAny (model prog w) A (getItem (.ref t) (.ref sl)) Q E s:=by
  obtain⟨os,hos,hcs,hds⟩:=id hs
  have hTs:s.TypeIs (.ref sl) "slice":=⟨os,hos,hcs⟩
  unfold getItem
  try with_reducible refine wpAny_holding ?_
  first | refine wpAny_bind (wpAny_pure ?_) | skip
  refine wpAny_bind (wpAny_sequenceKey ht.typeIs (by decide) ?_)
  refine wpAny_bind (wpAny_callSpecial?_slot (name:=Str.ofString "__getitem__") ht.typeIs PyProof.Rows.slot_tuple_getitem
    (wpAny_call_entry PyProof.Rows.slot_tuple_getitem ht.typeIs entry_tuple_getitem ?_ (args_tuple_getitem _ _)))
  show wpAny _ _ (Builtin.Tuple.tupleItemsOf (.ref t) >>=_) _ _ s
  refine wpAny_bind (tupleItemsOf_ ht ?_)
  refine wpAny_bind (wpAny_typeOf hTs ?_)
  rw[if_pos (by decide)]
  refine wpAny_bind (eN hs pl pu ?_)
  have hyes:(((sIx items.size 0 lo:Nat):Int)==0&&(1:Int)==1&&(sIx items.size items.size hi-sIx items.size 0 lo)==items.size)=true:=by
    rw[hw.1,hw.2];simp
  show wpAny _ _ (if(((sIx items.size 0 lo:Nat):Int)==0&&(1:Int)==1&&(sIx items.size items.size hi-sIx items.size 0 lo)==items.size)=true then _ else _) _ _ s
  rw[if_pos hyes]
  refine wpAny_bind (wpAny_bind (wpAny_typeOf ht.typeIs (wpAny_pure ?_)))
  rw[if_pos (by decide)]
  first
    | exact wpAny_bind (wpAny_rule (wpAny_bind (wpAny_pure (wpAny_pure ⟨_,rfl,wpAny_pure h⟩))))
    | exact wpAny_bind (wpAny_rule (wpAny_bind (wpAny_pure ⟨_,rfl,wpAny_pure h⟩)))
    | exact wpAny_bind (wpAny_rule (wpAny_pure ⟨_,rfl,wpAny_pure h⟩))
end
end HT
namespace L2
open PySem PyProof.Rows
section
variable {X:Cx}
def Xb(K:PySem.W.Frag):V->Option Int->Option Int->Hp->VK->Prop:=fun x lo hi H Q=>∃ a xs,x=.ref a/\SqT K H a xs /\
 (HT.sIx xs.length 0 lo=0/\HT.sIx xs.length xs.length hi=xs.length)/\Q (.ref a) H
theorem Cz:SlR X (Xb X.K):=by
 intro pins s σ H x v vl vu lo hi sl Q I rx hs pl pu h
 obtain⟨a,xs,rfl,hx,hw,q⟩:=h
 cases rx
 obtain⟨its,r,ht,hz⟩:=I.tuple hx
 have hlen:its.toArray.size=xs.length:=by rw[List.size_toArray];exact r.length.symm
 refine⟨"tuple",_,PyProof.Rows.slot_tuple_getitem.lookup,ht.typeIs,?_⟩
 exact HT.fX ht hs pl pu (by rw[hlen];exact hw) ⟨.ref a,H,I,rfl,q⟩
end
end L2
namespace DE
open PySem
inductive D where
 | non | bl (b:Bool) | int (i:Int) | str (x:Str) | tup (xs:List D) | lst (xs:List D)
 | exc (c:Str)
 | dic (ks:List (Sum Int Str)) (xs:List D)
 deriving Inhabited
inductive Sl where
 | no | sh (d:D) | ow (ds:List D) | oo (dss:List (List D))
 deriving Inhabited
abbrev Rho:=List (Str×Sl)
inductive Fl where
 | nxt (ρ:Rho) | ret (d:D)
 deriving Inhabited
def b2i(b:Bool):Int:=if b then 1 else 0
mutual
def deq:D->D->Bool
 | .non,.non=>true
 | .bl a,.bl b=>a==b
 | .bl a,.int j=>b2i a==j
 | .int i,.bl b=>i==b2i b
 | .int i,.int j=>i==j
 | .str x,.str y=>x==y
 | .tup xs,.tup ys=>nH xs ys
 | .lst xs,.lst ys=>nH xs ys
 | _,_=>false
def nH:List D->List D->Bool
 | [],[]=>true
 | x::xs,y::ys=>deq x y&&nH xs ys
 | _,_=>false
end
mutual
def dep:D->Nat
 | .tup xs=>deps xs+1
 | .lst xs=>deps xs+1
 | .exc _=>1000
 | .dic _ _=>1000
 | _=>0
def deps:List D->Nat
 | []=>0
 | x::xs=>max (dep x) (deps xs)
end
def asB:D->Option Bool
 | .bl b=>some b
 | _=>none
def asI:D->Option Int
 | .int i=>some i
 | _=>none
def items:D->Option (List D)
 | .tup xs=>some xs
 | .lst xs=>some xs
 | _=>none
def tupI:D->Option (List D)
 | .tup xs=>some xs
 | _=>none
def iI:List D->Option (List Int)
 | []=>some []
 | .int i::r=>(iI r).map (i::·)
 | _=>none
def mq:List D->Option (List Bool)
 | []=>some []
 | .bl i::r=>(mq r).map (i::·)
 | _=>none
def small(i:Int):Bool:=decide (-(2^64)<i)&&decide (i<2^64)
def mid(i:Int):Bool:=decide (i.natAbs.log2<10000)
def szl(n:Nat):Bool:=decide (n<=100000)
def Io:List D->Int->Option D
 | [x],j=>if decide (0<=j)&&decide (j<=4) then some (.tup (List.replicate j.toNat x)) else none
 | _,_=>none
def binop:Operator->D->D->Option D
 | .Add,.int i,.int j=>some (.int (i+j))
 | .Add,.tup xs,.tup ys=>if szl (xs.length+ys.length) then some (.tup (xs++ys)) else none
 | .Add,.lst xs,.lst ys=>if szl (xs.length+ys.length) then some (.lst (xs++ys)) else none
 | .Sub,.int i,.int j=>some (.int (i-j))
 | .Mult,.int i,.int j=>if small i||small j||(mid i&&mid j) then some (.int (i*j)) else none
 | .Mult,.lst xs,.int j=>if decide (j<=1000)&&decide (-1000<=j)&&szl (xs.length*j.toNat) then some (.lst (List.replicate j.toNat xs).flatten) else none
 | .Mult,.tup xs,.int j=>Io xs j
 | .FloorDiv,.int i,.int j=>if decide (0<j)&&decide (j<1073741824) then some (.int (i / j)) else if decide (j≠0)&&decide (j.natAbs.log2<9000) then some (.int (i.fdiv j)) else none
 | .Mod,.int i,.int j=>if decide (0<j) then some (.int (i%j)) else if decide (j≠0) then some (.int (i.fmod j)) else none
 | _,_,_=>none
def pK:List D->Option (List Str)
 | []=>some []
 | .str i::r=>(pK r).map (i::·)
 | _=>none
def inS(x:D)(ys:List D):Option Bool:=(pK ys).bind fun ss=>if decide (dep x<=50) then some (ss.any fun t=>deq (.str t) x) else none
def inT(x:D)(ys:List D):Option Bool:=match asI x,iI ys with
 | some i,some ns=>some (ns.any (· ==i))
 | _,_=>inS x ys
def Ep:D->Option (Sum Int Str)
 | .int i=>some (.inl i)
 | .str x=>some (.inr x)
 | _=>none
def putD(l:List (Sum Int Str×D))(k:Sum Int Str)(d:D):List (Sum Int Str×D):=if(l.any fun q=>decide (q.1=k))=true then l.map (fun q=>if q.1=k then(q.1,d) else q) else l++[(k,d)]
def xH(ks:List (Sum Int Str))(ds:List D)(k:Sum Int Str):Option D:=((ks.zip ds).find? fun q=>decide (q.1=k)).map (·.2)
def Gi(l:List (Sum Int Str×D)):D:=.dic (l.map (·.1)) (l.map (·.2))
def dw(f:Expr->Option D):List (Option Expr)->List Expr->Option (List (Sum Int Str×D))
 | [],[]=>some []
 | some k::ks,v::vs=>do let x <- (f k).bind Ep;let d <- f v;let r <- dw f ks vs;some ((x,d)::r)
 | _,_=>none
def Wg(l:List (Sum Int Str×D)):List (Sum Int Str×D):=l.foldl (fun a q=>putD a q.1 q.2) []
def Ez:D->D->D->Option D
 | .dic ks ds,y,z=>(Ep y).map fun k=>(xH ks ds k).getD z
 | _,_,_=>none
def Er:D->Bool
 | .non=>true
 | _=>false
def cmpop:CmpOp->D->D->Option D
 | .Eq,x,y=>if decide (dep x<=50)&&decide (dep y<=50) then some (.bl (deq x y)) else none
 | .NotEq,x,y=>if decide (dep x<=50)&&decide (dep y<=50) then some (.bl (!deq x y)) else none
 | .Lt,.int i,.int j=>some (.bl (decide (i<j)))
 | .LtE,.int i,.int j=>some (.bl (decide (i<=j)))
 | .Gt,.int i,.int j=>some (.bl (decide (j<i)))
 | .GtE,.int i,.int j=>some (.bl (decide (j<=i)))
 | .Is,x,.non=>some (.bl (Er x))
 | .IsNot,x,.non=>some (.bl (!Er x))
 | .Is,.bl a,.bl b=>some (.bl (a==b))
 | .IsNot,.bl a,.bl b=>some (.bl (!(a==b)))
 | .In,x,.tup ys=>(inT x ys).map fun b=>.bl b
 | .NotIn,x,.tup ys=>(inT x ys).map fun b=>.bl (!b)
 | .NotIn,.int i,.lst ys=>(iI ys).map fun ns=>.bl (!ns.any (· ==i))
 | _,_,_=>none
def ixD(n:Nat)(i:Int):Option Nat:=if 0<=i then(if i<n then some i.toNat else none) else if -(n:Int)<=i then some (i+n).toNat else none
def atD(xs:List D)(i:Int):Option D:=(ixD xs.length i).bind fun j=>xs[j]?
def iQ(n d:Nat):Option Int->Nat
 | none=>d
 | some v=>if v<0 then(v+(n:Int)).toNat else min v.toNat n
def tD(xs:List D)(lo hi:Option Int):List D:=(xs.drop (iQ xs.length 0 lo)).take (iQ xs.length xs.length hi-iQ xs.length 0 lo)
def KH:D->D->Option D
 | .tup xs,.int i=>atD xs i
 | .lst xs,.int i=>atD xs i
 | .dic ks ds,y=>(Ep y).bind (xH ks ds)
 | _,_=>none
def scD:D->Bool
 | .non=>true
 | .bl _=>true
 | .int _=>true
 | .str _=>true
 | _=>false
def o9:D->Bool
 | .tup ds=>ds.all scD
 | d=>scD d
def Bk:String->D->Bool
 | "int",.int _=>true
 | "int",.bl _=>true
 | "bool",.bl _=>true
 | "tuple",.tup _=>true
 | "list",.lst _=>true
 | "str",.str _=>true
 | _,_=>false
def mxL:List Int->Int->Int
 | [],b=>b
 | x::r,b=>mxL r (if x>b then x else b)
def mnL:List Int->Int->Int
 | [],b=>b
 | x::r,b=>mnL r (if x<b then x else b)
def mnT(xs:List D):Option D:=(iI xs).bind fun is=>match is with
 | []=>none
 | x::r=>some (.int (mnL r x))
def mxN(xs:List D):Option D:=(iI xs).bind fun is=>match is with
 | []=>none
 | x::r=>some (.int (mxL r x))
def XS:Expr->Option Int
 | .Constant (.int c) _ _=>some c
 | _=>none
def RL(k:Keyword):Option Int:=if k.arg==some "default" then XS k.value else none
def blt:String->List D->Option D
 | "len",[d]=>do let l <- items d;some (.int l.length)
 | "all",[.lst xs]=>do let bs <- mq xs;some (.bl (bs.all id))
 | "sum",[.lst xs]=>do let is <- iI xs;some (.int is.sum)
 | "sum",[.tup xs]=>do let is <- iI xs;some (.int is.sum)
 | "tuple",[d]=>do let l <- items d;some (.tup l)
 | "list",[d]=>do let l <- items d;some (.lst l)
 | "any",[.lst xs]=>do let bs <- mq xs;some (.bl (bs.any id))
 | "min",[.tup xs]=>mnT xs
 | "min",[.lst xs]=>if true then none else none
 | "max",[.lst xs]=>mxN xs
 | "max",[.tup xs]=>mxN xs
 | "min",[.int i,.int j]=>some (.int (if j<i then j else i))
 | "max",[.int i,.int j]=>some (.int (if j>i then j else i))
 | "abs",[.int i]=>some (.int (if i<0 then -i else i))
 | "int",[.bl b]=>some (.int (b2i b))
 | "int",[.int i]=>some (.int i)
 | _,_=>none
structure Cxt where
 cst:List (Str×D)
 blt:List (Str×String)
 fns:List Str
 exs:List Str
 top:Str
 rs:Bool
 call:Str->List D->Option D
 callx:Str->List D->Option Str
def isExc:D->Bool
 | .exc _=>true
 | .dic _ _=>true
 | _=>false
def GJ(top c c':Str):Bool:=c==c'||c'==top
def jC(scope sc:Scope):Scope :=
 { scope with names:=scope.names.map fun(n,k)=>if(k==.free&&sc.kind==.function&&sc.names.lookup n==some .cell) then(n,.cell) else(n,k) }
def Lq:Option Sl->Sl
 | some (.sh d)=>.sh d
 | _=>.no
def bF(scope:Scope)(ρ:Rho):Rho:=scope.names.map fun p=>(p.1,if p.2==.free then Lq (ρ.lookup p.1) else .no)
def qz:List Str->Bool
 | []=>true
 | x::r => !r.contains x&&qz r
def fQ(sc scope:Scope):Bool :=
 scope.kind==.function&&qz (scope.names.map (·.1))&&scope.names.all fun p=>p.2 !=.free||sc.names.lookup p.1==some .cell||sc.names.lookup p.1==some .free
def cD:Rho->Str->Sl->Rho
 | [],_,_=>[]
 | (y,s)::r,x,v=>if x==y then(y,v)::r else(y,s)::cD r x v
def aA(x:Str):Bool:=x !="__debug__"&&x !="__classdict__"
def ownIn(scope:Scope)(x:Str):Bool:=scope.names.lookup x==some .local||scope.names.lookup x==some .cell
def bindNames(scope:Scope):List Expr->List D->Rho->Option Rho
 | [],[],ρ=>some ρ
 | .Name x _::es,d::ds,ρ=>if ownIn scope x&&(ρ.map (·.1)).contains x then bindNames scope es ds (cD ρ x (.sh d)) else none
 | _,_,_=>none
def fL(scope:Scope):Expr->D->Rho->Option Rho
 | .Name x _,d,ρ=>if ownIn scope x&&(ρ.map (·.1)).contains x then some (cD ρ x (.sh d)) else none
 | .Tuple es _ _,.tup ds,ρ=>bindNames scope es ds ρ
 | _,_,_=>none
def nu(cx:Cxt)(sc:Scope)(x:Str):Bool:=sc.names.lookup x==some .globalImplicit
def bC(cx:Cxt)(sc:Scope)(x:Str):Option String:=if nu cx sc x then cx.blt.lookup x else none
def bJ(f:D->Option (Option D)):List D->Option (List D)
  | []=>some []
  | x :: r => do
    match <- f x with
    | some v=>(bJ f r).map (v::·)
    | none=>bJ f r
def cB(lo hi:Int):List D:=(List.range (hi-lo).toNat).map fun(k:Nat)=>.int (lo+(k:Int))
def jK(f:Expr->Option D):List Expr->Option (List D)
 | []=>some []
 | e::r=>do let d <- f e;let ds <- jK f r;some (d::ds)
def bY(op:BoolOp)(f:Expr->Option D):List Expr->Option D
  | []=>none
  | [e]=>f e
  | e :: e' :: r => do
    let d <- f e
    let b <- asB d
    match op with
    | .And=>if b then bY op f (e'::r) else some (.bl false)
    | .Or=>if b then some (.bl true) else bY op f (e'::r)
def dh(i:Int):Bool:=decide (-(2^62)<=i)&&decide (i<2^62)
def fu:Expr->Bool
 | .Tuple .. =>true
 | _=>false
inductive Wk where
 | r1 (a:Expr) | r2 (a b:Expr) | zp (a b:Expr) | rv (a:Expr) | en (a:Expr) | sq
def rG(cx:Cxt)(sc:Scope):Expr->Wk
  | .Call (.Name x _) args [] _ => (match bC cx sc x with
    | some "range"=>(match args with | [a]=>.r1 a | [a,b]=>.r2 a b | _=>.sq)
    | some "zip"=>(match args with | [a,b]=>.zp a b | _=>.sq)
    | some "reversed"=>(match args with | [a]=>.rv a | _=>.sq)
    | some "enumerate"=>(match args with | [a]=>.en a | _=>.sq)
    | _=>.sq)
  | _=>.sq
def enD(xs:List D):List D:=xs.zipIdx.map fun q=>.tup [.int (q.2:Int),q.1]
def Kw:D->D->Option (List D)
 | .tup xs,.tup ys=>some ((xs.zip ys).map fun q=>.tup [q.1,q.2])
 | .lst xs,.lst ys=>if true then none else none
 | .lst xs,.tup ys=>if true then none else none
 | _,_=>none
def evI(cx:Cxt)(tup:Bool)(f:Expr->Option D)(sc:Scope)(e:Expr):Option (List D):=match rG cx sc e with
 | .r1 a=>do let j <- (f a).bind asI;if dh j then some (cB 0 j) else none
 | .r2 a b=>do let i <- (f a).bind asI;let j <- (f b).bind asI;if dh i&&dh j then some (cB i j) else none
 | .zp a b=>do let x <- f a;let y <- f b;if tup then Kw x y else none
 | .rv a=>if true then none else none
 | .en a=>do let x <- f a;if tup then(tupI x).map enD else none
 | .sq=>(f e).bind items
inductive Wc where
 | lr1 (a:Expr) | lr2 (a b:Expr) | tv (a:Expr) | ls (a:Expr) | tr1 (a:Expr) | al
def Tq(cx:Cxt)(sc:Scope):Expr->Option Expr
 | .Call (.Name y _) [a] [] _=>if bC cx sc y==some "set" then some a else none
 | _=>none
def Wj:D->Option (List D)
 | .lst xs=>some xs
 | _=>none
def Hr(cx:Cxt)(sc:Scope)(b:String)(args:List Expr):Wc:=match args with
  | [e] => (match b, rG cx sc e with
    | "list",.r1 a=>.lr1 a
    | "list",.r2 a b=>.lr2 a b
    | "tuple",.rv a=>.tv a
    | "tuple",.r1 a=>.tr1 a
    | "len",.sq=>(match Tq cx sc e with | some a=>.ls a | none=>.al)
    | _,_=>.al)
  | _=>.al
def fV:String->Bool
 | "int"=>true
 | "bool"=>true
 | "tuple"=>true
 | "list"=>true
 | "str"=>true
 | _=>false
def tyOf(cx:Cxt)(sc:Scope):Expr->Option String
 | .Name x _=>bC cx sc x
 | _=>none
def xOf(cx:Cxt)(sc:Scope):Expr->Option Str
 | .Name x _=>if nu cx sc x&&(cx.exs.contains x||x==cx.top)&&aA x then some x else none
 | _=>none
def lH(f:Expr->Option D):List Expr->Option Bool
 | []=>some true
 | [c]=>(f c).bind asB
 | _=>none
def vh(m:Str):D->D->Option D
 | _,_=>if true then none else none
def aD:Expr->Bool
 | .Starred .. =>false
 | .Set .. =>false
 | .Slice .. =>false
 | _=>true
def Ly:D->Option Expr->Option Expr->Option Int->Option D
 | .lst xs,none,none,some i=>if i == -1 then some (.lst xs.reverse) else none
 | .tup xs,none,none,some i=>if i == -1 then some (.tup xs.reverse) else none
 | _,_,_,_=>none
def fnNames(cx:Cxt)(sc:Scope):List Expr->Option (List Str)
 | []=>some []
 | .Name x _::r=>if nu cx sc x&&cx.fns.contains x then(fnNames cx sc r).map (x::·) else none
 | _=>none
def fnAt(cx:Cxt)(sc:Scope)(es:List Expr)(i:Int):Option Str:=do
 let fs <- fnNames cx sc es
 if szl fs.length then(ixD fs.length i).bind fun j=>fs[j]? else none
def ev(cx:Cxt):Nat->Scope->Rho->Expr->Option D
  | 0,_,_,_=>none
  | n + 1, sc, ρ, e => match e with
    | .Name x _=>if aA x then(match sc.names.lookup x with
        | some .local=>(match ρ.lookup x with | some (.sh d)=>some d | _=>none)
        | some .cell=>(match ρ.lookup x with | some (.sh d)=>some d | _=>none)
        | some .free=>(match ρ.lookup x with | some (.sh d)=>some d | _=>none)
        | some .globalImplicit=>cx.cst.lookup x
        | _=>none) else none
    | .Constant c _ _=>(match c with
        | .none=>some .non
        | .bool b=>some (.bl b)
        | .int i=>some (.int i)
        | .str x=>some (.str x)
        | _=>none)
    | .BinOp a op b _=>do let x <- ev cx n sc ρ a;let y <- ev cx n sc ρ b;binop op x y
    | .UnaryOp op a _=>do
        let x <- ev cx n sc ρ a
        match op with
        | .USub=>(asI x).map fun i=>.int (-i)
        | .Not=>(asB x).map fun b=>.bl (!b)
        | _=>none
    | .BoolOp op es _=>bY op (ev cx n sc ρ) es
    | .Compare a ops bs _=>(match ops,bs with
        | [op],[b]=>do let x <- ev cx n sc ρ a;let y <- ev cx n sc ρ b;cmpop op x y
        | [op, op'], [b, c] => if !aD c then none else do
          let x <- ev cx n sc ρ a
          let y <- ev cx n sc ρ b
          let k <- (cmpop op x y).bind asB
          if k then do let z <- ev cx n sc ρ c;cmpop op' y z else some (.bl false)
        | _,_=>none)
    | .IfExp c a b _=>do
        let k <- (ev cx n sc ρ c).bind asB
        if k then ev cx n sc ρ a else ev cx n sc ρ b
    | .Tuple es _ _=>do let ds <- jK (ev cx n sc ρ) es;if szl ds.length then some (.tup ds) else none
    | .List es _=>do let ds <- jK (ev cx n sc ρ) es;if szl ds.length then some (.lst ds) else none
    | .Subscript a b _=>do
        let x <- ev cx n sc ρ a
        match b with
        | .Slice lo hi st _ => (match st with
          | none => do
            let l <- (match lo with | none=>some none | some e=>(ev cx n sc ρ e).bind fun d=>(asI d).map some)
            let h <- (match hi with | none=>some none | some e=>(ev cx n sc ρ e).bind fun d=>(asI d).map some)
            match x with
            | .tup xs=>if iQ xs.length 0 l==0&&iQ xs.length xs.length h==xs.length then some (.tup xs) else some (.tup (tD xs l h))
            | .lst xs=>some (.lst (tD xs l h))
            | _=>none
          | some c=>Ly x lo hi ((ev cx n sc ρ c).bind asI))
        | b => do
          let y <- ev cx n sc ρ b
          KH x y
    | .Dict ks vs _=>if ks.isEmpty||decide (15<ks.length) then none else(dw (ev cx n sc ρ) ks vs).map fun l=>Gi (Wg l)
    | .Call f args kws p=>(match f,kws with
        | .Name x _, [] =>
          if nu cx sc x then
            match cx.blt.lookup x with
            | some "isinstance" => (match args with
              | [a, t] => do
                let d <- ev cx n sc ρ a
                match xOf cx sc t with
                | some c'=>(match d with | .exc c=>if cx.exs.contains c then some (.bl (GJ cx.top c c')) else none | _=>none)
                | none => do
                  let ty <- tyOf cx sc t
                  match d with
                  | .exc c=>if cx.exs.contains c&&ty=="ValueError" then some (.bl true) else none
                  | .dic _ _=>none
                  | d=>if fV ty then some (.bl (Bk ty d)) else none
              | _=>none)
            | some b => (match Hr cx sc b args with
              | .lr1 a=>do let j <- (ev cx n sc ρ a).bind asI;if dh j&&szl j.toNat then some (.lst (cB 0 j)) else none
              | .lr2 a a'=>do let i <- (ev cx n sc ρ a).bind asI;let j <- (ev cx n sc ρ a').bind asI;if dh i&&dh j&&szl (j-i).toNat then some (.lst (cB i j)) else none
              | .tr1 a=>if true then none else none
              | .tv a=>if true then none else none
              | .ls a=>if true then none else none
              | .al=>if args.isEmpty then none else do let ds <- jK (ev cx n sc ρ) args;blt b ds)
            | none=>if cx.fns.contains x && !args.isEmpty then do let ds <- jK (ev cx n sc ρ) args;cx.call x ds else none
          else none
        | .Name x _, [k] => (match args with
          | [a]=>if bC cx sc x==some "max" then none else none
          | _=>none)
        | .Attribute (.Name y py) m ap, [] => (match args with
          | [e]=>if ap.endLine==p.line then do
              let x <- ev cx n sc ρ (.Name y py)
              let z <- ev cx n sc ρ e
              vh m x z else none
          | _=>none)
        | .Attribute (.Dict ks vs dp) m ap, [] => (match args with
          | [e,e2]=>if ap.endLine==p.line&&m=="get"&&aD e&&aD e2 then do
              let x <- ev cx n sc ρ (.Dict ks vs dp)
              let y <- ev cx n sc ρ e
              let z <- ev cx n sc ρ e2
              Ez x y z else none
          | _=>none)
        | .Subscript (.List es _) ix _,[]=>if args.isEmpty then none else do
            let i <- (ev cx n sc ρ ix).bind asI
            let f <- fnAt cx sc es i
            let ds <- jK (ev cx n sc ρ) args
            cx.call f ds
        | _,_=>none)
    | .ListComp elt gens scope _=>(match gens with
        | [⟨tg,iter,ifs,a⟩]=>if a==0&&fQ sc scope then do
            let l <- evI cx (fu tg) (ev cx n sc ρ) sc iter
            if szl l.length then do
              let out <- bJ (fun d=>do
                let ρ1 <- fL scope tg d (bF scope ρ)
                let b <- lH (ev cx n (jC scope sc) ρ1) ifs
                if b then(ev cx n (jC scope sc) ρ1 elt).map some else some none) l
              some (.lst out)
            else none
          else none
        | _=>none)
    | _=>none
def wX(f:Expr->Option D)(g:Expr->Option Str):List Expr->Option Str
  | []=>none
  | e :: r => match f e with
    | some _=>wX f g r
    | none=>g e
def evx(cx:Cxt):Nat->Scope->Rho->Expr->Option Str
  | 0,_,_,_=>none
  | n + 1, sc, ρ, e => match e with
    | .Call (.Name x _) args [] _=>if nu cx sc x && !args.isEmpty&&args.all aD&&cx.fns.contains x then
        (match jK (ev cx n sc ρ) args with
        | some ds=>cx.callx x ds
        | none=>wX (ev cx n sc ρ) (evx cx n sc ρ) args)
      else none
    | .Call (.Subscript (.List es _) ix _) args [] _=>if !args.isEmpty&&args.all aD&&aD ix then do
        let i <- (ev cx n sc ρ ix).bind asI
        let f <- fnAt cx sc es i
        let ds <- jK (ev cx n sc ρ) args
        cx.callx f ds
      else none
    | .Call (.Name x _) [a] [k] _=>if bC cx sc x==some "max"&&(RL k).isSome&&aD a then evx cx n sc ρ a else none
    | .IfExp c a b _ => (match (ev cx n sc ρ c).bind asB with
      | some true=>evx cx n sc ρ a
      | some false=>evx cx n sc ρ b
      | none=>none)
    | .ListComp _ [⟨_,iter,_,a⟩] scope _=>if a==0&&fQ sc scope&&aD iter then evx cx n sc ρ iter else none
    | _=>none
def d8:Nat->Str->Expr->Bool
  | 0,_,_=>true
  | n + 1, x, e => match e with
    | .Name y _=>x==y
    | .Constant .. =>false
    | .BinOp a _ b _=>d8 n x a||d8 n x b
    | .UnaryOp _ a _=>d8 n x a
    | .BoolOp _ es _=>es.any (d8 n x)
    | .Compare a _ bs _=>d8 n x a||bs.any (d8 n x)
    | .IfExp c a b _=>d8 n x c||d8 n x a||d8 n x b
    | .Tuple es _ _=>es.any (d8 n x)
    | .List es _=>es.any (d8 n x)
    | .Subscript a b _=>d8 n x a||d8 n x b
    | .Slice lo hi st _=>(lo.map (d8 n x)).getD false||(hi.map (d8 n x)).getD false||(st.map (d8 n x)).getD false
    | .Call f args kws _=>d8 n x f||args.any (d8 n x) || !kws.isEmpty
    | .ListComp elt gens _ _=>d8 n x elt||gens.any fun g=>d8 n x g.iter||g.ifs.any (d8 n x)
    | _=>true
def frz(n:Nat)(e:Expr)(ρ:Rho):Rho:=ρ.map fun p=>match p.2 with
 | .ow ds=>if d8 n p.1 e then(p.1,.sh (.lst ds)) else p
 | .oo dss=>if d8 n p.1 e then(p.1,.sh (.lst (dss.map .lst))) else p
 | _=>p
def isL:Expr->Bool
 | .List .. =>true
 | _=>false
def Wn:Operator->Bool
 | .Mult=>true
 | _=>false
def bf:Expr->Bool
 | .List .. =>true
 | .ListComp .. =>true
 | .BinOp a op _ _=>isL a&&Wn op
 | _=>false
def tG:Sl->Bool
 | .no=>true
 | .sh _=>true
 | _=>false
def Wm:Sl->Bool
 | .oo _=>true
 | _=>false
def jH(ρ:Rho)(x:Str):Bool:=ρ.all fun p=>p.1==x||tG p.2
def xM(ρ:Rho)(x:Str):Bool:=ρ.all fun p=>p.1==x || !Wm p.2
def KN(cx:Cxt)(sc:Scope):Expr->Bool
 | .Call (.Name l _) [.Name y _] [] _=>bC cx sc l==some "list"&&aA y&&sc.names.lookup y==some .local
 | .ListComp .. =>true
 | _=>false
def Bh(cx:Cxt)(sc:Scope):Expr->Bool
 | .Call (.Name l _) [.Name y _] [] _=>bC cx sc l==some "list"&&aA y&&sc.names.lookup y==some .local
 | _=>false
def ooE(cx:Cxt)(sc:Scope):Expr->Bool
 | .ListComp elt [⟨.Name _ _,_,[],_⟩] scope _=>KN cx (jC scope sc) elt
 | _=>false
def yO:List D->Option (List (List D))
 | []=>some []
 | .lst ds::r=>(yO r).map (ds::·)
 | _=>none
def yN:D->Option (List (List D))
 | .lst ds=>yO ds
 | _=>none
def Gy(x:Str):Expr->Option (Expr×Expr)
 | .BinOp (.Subscript (.Name y _) i _) .Add e _=>if x==y then some (i,e) else none
 | _=>none
def kj(e:Expr)(d:D):Sl:=match d with
 | .lst ds=>if bf e then .ow ds else .sh (.lst ds)
 | d=>.sh d
def nc0:Expr->Bool
 | .Call .. =>true
 | .Name x _=>x !="__debug__"
 | .IfExp .. =>true
 | .ListComp .. =>true
 | .Compare .. =>true
 | _=>false
def Es:Expr->Bool
 | .Compare .. =>true
 | _=>false
def nc1:Expr->Bool
 | .Subscript v _ _=>nc0 v
 | e=>nc0 e
def nc:Expr->Bool
 | .Subscript v i _=>nc0 v||nc0 i
 | .BinOp l _ r _=>nc1 l||nc1 r
 | e=>nc0 e
def yU:Expr->Bool
 | .Constant .. =>true
 | _=>false
def swp(sc:Scope)(ts:List Expr)(value:Expr):Option Bool:=match value with
  | .Tuple vs _ _ => (match ts, vs with
    | [.Name x px, .Name y py], [a, b] =>
      if sc.names.lookup x==some .local&&sc.names.lookup y==some .local then
        (if px.line==py.line&&x !=y&&(nc a||nc b)&&aD a&&aD b then some true else if yU a&&yU b then some false else none)
      else some false
    | _,_=>none)
  | _=>some false
def KD(sc:Scope):List Expr->Expr->Bool
  | [.Name x px, .Name y py, .Name z pz], .Tuple [a, b, c] _ _ =>
    (sc.names.lookup x==some .local&&sc.names.lookup y==some .local&&sc.names.lookup z==some .local)&&(px.line==py.line&&px.line==pz.line)&&(x !=y&&x !=z&&y !=z)&&(nc a||nc b||nc c)&&(aD a&&aD b&&aD c)&&(!Es a && !Es b && !Es c)
  | _,_=>false
def dG(f:D->Rho->Option Fl):List D->Rho->Option Fl
  | [],ρ=>some (.nxt ρ)
  | x :: r, ρ => do
    match <- f x ρ with
    | .ret d=>some (.ret d)
    | .nxt ρ'=>dG f r ρ'
def jF(f:Rho->Stmt->Option Fl):List Stmt->Rho->Option Fl
  | [],ρ=>some (.nxt ρ)
  | s :: r, ρ => do
    match <- f ρ s with
    | .ret d=>some (.ret d)
    | .nxt ρ'=>jF f r ρ'
def pN(c:Rho->Option (Rho×Bool))(f:Rho->Option Fl):Nat->Rho->Option Fl
  | 0,_=>none
  | m + 1, ρ => match c ρ with
    | none=>none
    | some (ρ1, b) => if b then (match f ρ1 with
      | none=>none
      | some (.ret d)=>some (.ret d)
      | some (.nxt ρ')=>pN c f m ρ') else some (.nxt ρ1)
def Cg:List ExceptHandler->List Stmt->List Stmt->Option (Str×Str×Str)
 | [.ExceptHandler (some (.Name c _)) (some e) [.Assign [.Name kn _] (.Name e' _) _] _],[],[]=>if e==e' then some (c,e,kn) else none
 | _,_,_=>none
def u9:Expr->Option Expr
 | .UnaryOp .Not (.Call f as ks p) _=>some (.Call f as ks p)
 | _=>none
def mJ(f:Rho->Stmt->Option Fl)(g:Rho->Stmt->Option (Str×Rho)):List Stmt->Rho->Option (Str×Rho)
  | [],_=>none
  | s :: r, ρ => match f ρ s with
    | some (.nxt ρ')=>mJ f g r ρ'
    | some (.ret _)=>none
    | none=>g ρ s
mutual
def st(cx:Cxt)(F:Nat):Nat->Scope->Rho->Stmt->Option Fl
  | 0,_,_,_=>none
  | n + 1, sc, ρ, s => match s with
    | .Pass _=>some (.nxt ρ)
    | .Return v _=>(match v with
        | none=>some (.ret .non)
        | some e=>(ev cx F sc (frz F e ρ) e).map .ret)
    | .Assign tgs e _=>(match tgs with
        | [.Name x _]=>if ownIn sc x&&(ρ.map (·.1)).contains x then
            (if ooE cx sc e&&jH (frz F e ρ) x then(ev cx F sc (frz F e ρ) e).bind fun d=>(yN d).map fun dss=>.nxt (cD (frz F e ρ) x (.oo dss))
            else if Bh cx sc e&&xM (frz F e ρ) x then(ev cx F sc (frz F e ρ) e).bind fun d=>(Wj d).map fun ds=>.nxt (cD (frz F e ρ) x (.ow ds))
            else if bf e && !xM (frz F e ρ) x then(if xM (frz F e (frz 0 e ρ)) x then(ev cx F sc (frz F e (frz 0 e ρ)) e).map fun d=>.nxt (cD (frz F e (frz 0 e ρ)) x (kj e d)) else none)
            else(ev cx F sc (frz F e ρ) e).map fun d=>.nxt (cD (frz F e ρ) x (kj e d))) else none
        | [.Tuple es _ _]=>if(swp sc es e).isSome||KD sc es e then do
            let d <- ev cx F sc (frz F e ρ) e
            let l <- items d
            (bindNames sc es l (frz F e ρ)).map .nxt
          else none
        | [.Subscript t ie _] => (match t with
          | .Name x _ => (match Gy x e with
            | some (i2, e2) => (match (frz F ie (frz F e2 (frz F i2 ρ))).lookup x with
              | some (.ow ds)=>if ownIn sc x&&aA x then do
                  let j2 <- (ev cx F sc (frz F ie (frz F e2 (frz F i2 ρ))) i2).bind asI
                  let a <- (atD ds j2).bind asI
                  let b <- (ev cx F sc (frz F ie (frz F e2 (frz F i2 ρ))) e2).bind asI
                  let j <- (ev cx F sc (frz F ie (frz F e2 (frz F i2 ρ))) ie).bind asI
                  let n <- ixD ds.length j
                  some (.nxt (cD (frz F ie (frz F e2 (frz F i2 ρ))) x (.ow (ds.set n (.int (a+b))))))
                else none
              | _=>none)
            | none => (match (frz F ie (frz F e ρ)).lookup x with
              | some (.ow ds)=>if ownIn sc x&&aA x && !bf e then do
                  let d <- ev cx F sc (frz F ie (frz F e ρ)) e
                  let j <- (ev cx F sc (frz F ie (frz F e ρ)) ie).bind asI
                  let n <- ixD ds.length j
                  some (.nxt (cD (frz F ie (frz F e ρ)) x (.ow (ds.set n d))))
                else none
              | _=>none))
          | .Subscript (.Name x _) i1 _ => (match ρ.lookup x with
            | some (.oo dss)=>if ownIn sc x&&aA x && !bf e then do
                let d <- ev cx F sc (frz F e ρ) e
                let j1 <- (ev cx F sc (frz F i1 ρ) i1).bind asI
                let n1 <- ixD dss.length j1
                let ds <- dss[n1]?
                let j2 <- (ev cx F sc (frz F ie ρ) ie).bind asI
                let n2 <- ixD ds.length j2
                if o9 d then some (.nxt (cD ρ x (.oo (dss.set n1 (ds.set n2 d))))) else none
              else none
            | _=>none)
          | _=>none)
        | _=>none)
    | .Expr v _=>(match v with
        | .Call (.Attribute (.Name x _) m ap) [e] [] cp=>(match (frz F e ρ).lookup x with
            | some (.ow ds)=>if ownIn sc x&&aA x&&ap.endLine==cp.line then
                if m=="append"&&szl (ds.length+1) then(ev cx F sc (frz F e ρ) e).map fun d=>.nxt (cD (frz F e ρ) x (.ow (ds++[d])))
                else if m=="extend" then do
                  let d <- ev cx F sc (frz F e ρ) e
                  (match d with
                  | .lst zs=>if szl (ds.length+zs.length) then some (.nxt (cD (frz F e ρ) x (.ow (ds++zs)))) else none
                  | .tup zs=>if szl (ds.length+zs.length) then some (.nxt (cD (frz F e ρ) x (.ow (ds++zs)))) else none
                  | _=>none)
                else none
              else none
            | some (.sh _) => (match ρ.lookup x with
              | some (.ow ds)=>if ownIn sc x&&aA x&&ap.endLine==cp.line&&(m=="append"&&szl (ds.length+1)) then do
                  let d <- ev cx F sc (frz F e ρ) e
                  if o9 d then some (.nxt (cD ρ x (.ow (ds++[d])))) else none
                else none
              | _=>none)
            | _=>none)
        | .ListComp .. =>none
        | .Constant .. =>none
        | e=>(ev cx F sc (frz F e ρ) e).map fun _=>.nxt (frz F e ρ))
    | .If c a b _=>do
        let k <- (ev cx F sc (frz F c ρ) c).bind asB
        if k then jF (fun ρ s=>st cx F n sc ρ s) a (frz F c ρ) else jF (fun ρ s=>st cx F n sc ρ s) b (frz F c ρ)
    | .For tg iter body orelse _=>(match orelse with
        | [] => do
          let l <- evI cx (fu tg) (ev cx F sc (frz F iter ρ)) sc iter
          dG (fun d ρ=>do let ρ1 <- fL sc tg d ρ;jF (fun ρ s=>st cx F n sc ρ s) body ρ1) l (frz F iter ρ)
        | _=>none)
    | .While c body orelse _=>(match orelse with
        | []=>pN (fun ρ=>((ev cx F sc (frz F c ρ) c).bind asB).map fun b=>(frz F c ρ,b)) (fun ρ=>jF (fun ρ s=>st cx F n sc ρ s) body ρ) 10000000000000000000000000000000000000000000000000000000000000000000000000000000000000000000000000000 ρ
        | _=>none)
    | .Try body hs orelse fin _ => (match Cg hs orelse fin with
      | some (c, e, kn) => (match jF (fun ρ s => st cx F n sc ρ s) body ρ with
        | some fl=>some fl
        | none => (match mJ (fun ρ s => st cx F n sc ρ s) (fun ρ s => stx { cx with rs := false } F n sc ρ s) body ρ with
          | some (c',ρ')=>if nu cx sc c&&c==cx.top&&cx.exs.contains c'&&e !=kn&&aA e&&sc.names.lookup e==some .local&&sc.names.lookup kn==some .local&&(ρ.map (·.1)).contains e&&(ρ.map (·.1)).contains kn&&aA c then
              some (.nxt (cD (cD ρ' kn (.sh (.exc c'))) e .no)) else none
          | none=>none))
      | none=>none)
    | _=>none
def stx(cx:Cxt)(F:Nat):Nat->Scope->Rho->Stmt->Option (Str×Rho)
  | 0,_,_,_=>none
  | n + 1, sc, ρ, s => match s with
    | .Raise (some (.Call (.Name c _) [.Constant (.str _) _ _] [] _)) none _=>if cx.rs&&nu cx sc c&&cx.exs.contains c&&aA c then some (c,ρ) else none
    | .Expr e _=>if bf e then none else(evx cx F sc (frz F e ρ) e).map fun c=>(c,frz F e ρ)
    | .Return (some e) _=>(evx cx F sc (frz F e ρ) e).map fun c=>(c,frz F e ρ)
    | .Assign [.Name _ _] e _=>if bf e then none else(evx cx F sc (frz F e ρ) e).map fun c=>(c,frz F e ρ)
    | .If c a b _=>(match (ev cx F sc (frz F c ρ) c).bind asB with
        | some k=>mJ (fun ρ s=>st cx F n sc ρ s) (fun ρ s=>stx cx F n sc ρ s) (if k then a else b) (frz F c ρ)
        | none => (match u9 c with
          | some e=>(evx cx F sc (frz F c ρ) e).map fun x=>(x,frz F c ρ)
          | none=>none))
    | .For _ iter _ [] _=>if aD iter then(evx cx F sc (frz F iter ρ) iter).map fun c=>(c,frz F iter ρ) else none
    | _=>none
end
structure Fd where
 ps:List Str
 N:List Str
 sc:Scope
 body:List Stmt
def cH(fd:Fd)(ds:List D):Rho:=(fd.ps.zip (ds.map Sl.sh))++(fd.N.drop fd.ps.length).map fun x=>(x,.no)
structure Pg where
 cst:List (Str×D)
 blt:List (Str×String)
 defs:List (Str×Fd)
 exs:List Str:=[]
 top:Str:="MinorError"
inductive Rs where
 | val (d:D) | exc (c:Str)
def Rs.val?:Option Rs->Option D
 | some (.val d)=>some d
 | _=>none
def Rs.exc?:Option Rs->Option Str
 | some (.exc c)=>some c
 | _=>none
def Pg.cx(P:Pg)(c:Str->List D->Option Rs):Cxt:=⟨P.cst,P.blt,P.defs.map (·.1),P.exs,P.top,true,fun f ds=>Rs.val? (c f ds),fun f ds=>Rs.exc? (c f ds)⟩
def pD(cx:Cxt)(F:Nat)(sc:Scope)(body:List Stmt)(ρ:Rho):Option Rs:=match jF (fun ρ s=>st cx F F sc ρ s) body ρ with
  | some (.ret d)=>some (.val d)
  | some (.nxt _)=>some (.val .non)
  | none => (match mJ (fun ρ s => st cx F F sc ρ s) (fun ρ s => stx cx F F sc ρ s) body ρ with
    | some (c,_)=>some (.exc c)
    | none=>none)
@[irreducible] def eV (P:Pg) (F:Nat):Nat->Str->List D->Option Rs
  | 0,_,_=>none
  | k + 1, f, ds => match P.defs.lookup f with
    | none=>none
    | some fd=>if ds.length==fd.ps.length then pD (P.cx (eV P F k)) F fd.sc fd.body (cH fd ds) else none
theorem lY{P:Pg}{F:Nat}{f:Str}{ds:List D}:eV P F 0 f ds=none:=by with_unfolding_all rfl
theorem lX{P:Pg}{F k:Nat}{f:Str}{ds:List D}:eV P F (k+1) f ds=(match P.defs.lookup f with
    | none=>none
    | some fd=>if ds.length==fd.ps.length then pD (P.cx (eV P F k)) F fd.sc fd.body (cH fd ds) else none):=by with_unfolding_all rfl
@[irreducible] def aK (P:Pg) (F k:Nat) (f:Str) (ds:List D):Option D:=Rs.val? (eV P F k f ds)
theorem gO{P:Pg}{F k:Nat}{f:Str}{ds:List D}:aK P F k f ds=Rs.val? (eV P F k f ds):=by with_unfolding_all rfl
@[irreducible] def Gv (P:Pg) (F k:Nat) (f:Str) (ds:List D):Option Str:=Rs.exc? (eV P F k f ds)
theorem zY{P:Pg}{F k:Nat}{f:Str}{ds:List D}:Gv P F k f ds=Rs.exc? (eV P F k f ds):=by with_unfolding_all rfl
end DE
namespace L2
open PySem PySem.Spec PyProof.Rows PySem.SeqAt
section
variable {prog:Program} {w:World} {A:Around} {I:Addr} {fp wr:List Addr} {n:Nat} {P:Nat->Value->Prop} {St:Nat->Heap->Prop}
end
end L2
namespace L2
open PySem PySem.Spec PyProof.Rows
end L2
namespace L2
open PySem PySem.Spec PyProof.Rows
section
variable (P:Program) (w:World)
end
section
variable {P:Program} {w:World} {H H':Hp} {h h':Heap} {a:Addr} {o:HO}
end
section
variable {P:Program} {w:World} {H:Hp} {h h':Heap} {x e:Addr} {o':HO}
end
section
variable {fs fs' ex ex':List Addr} {H H1 H2:Hp} {h h1 h2 h':Heap} {a x e:Addr} {o:HO}
end
end L2
namespace L2
open PySem PySem.Spec PyProof.Rows
section
variable {X:Cx} {pins:List (Addr×Obj)} {σ:List (Option V)} {H H':Hp} {s:Shared} {h':Heap}
end
end L2
namespace L2
open PySem PySem.Spec PyProof.Rows
section
variable {X:Cx}
variable {a b:Expr} {ta tb:TE} {pos:Pos}
variable {tA tB':TT} {rest:List Expr}
end
end L2
namespace L2
open PySem PySem.Spec PyProof.Rows
section
variable {X:Cx} {pins:List (Addr×Obj)} {σ:St} {H:Hp} {s:Shared} {a:Addr} {xs ys:List V}
end
section
variable {X:Cx} {pins:List (Addr×Obj)} {σ:St} {H:Hp} {s:Shared} {E:Value->Shared->Prop}
end
section
variable {X:Cx} {st:Stmt} {rest:List Stmt} {t u:TS} {e:Expr} {te:TE} {pos:Pos}
end
section
variable {X:Cx} {pos:Pos}
end
section
variable {X:Cx} {pos:Pos}
end
end L2
namespace L2
open PySem PySem.Spec PyProof.Rows
section
variable {X:Cx} {tg:Expr}
end
end L2
namespace L2
open PySem PySem.Spec PyProof.Rows
section
variable {X:Cx} {a b c:Expr} {ta tb tc:TE} {pos:Pos}
end
section
variable {X:Cx} {a b c:Expr} {ta tb tc:TE} {pos:Pos}
end
end L2
namespace L2
open PySem PySem.Spec PyProof.Rows
section
variable {prog:Program} {w:World} {A:Around} {E:Value->Shared->Prop} {s:Shared} {K:PySem.W.Frag} {x dx C f:Addr} {mA:Str->Option Value} {name:Str} {v:Value}
end
section
variable {P:Program} {w:World} {H H':Hp} {h h':Heap} {a C dx:Addr} {fs fs':List (Str×V)}
end
section
variable {X:Cx} {pins:List (Addr×Obj)} {σ:St} {H:Hp} {s:Shared} {a C dx:Addr} {fs:List (Str×V)} {f:Str} {v:V} {A:Around} {E:Value->Shared->Prop}
end
section
variable {X:Cx} {o e value:Expr} {f:Str} {pos pos' tpos:Pos} {ta tv:TE}
end
section
variable {X:Cx} {pins:List (Addr×Obj)} {σ:St} {H:Hp} {s:Shared} {A:Around} {E:Value->Shared->Prop} {Q:Value->Shared->Prop} {c:Value} {b:Bool}
end
end L2
namespace L2
open PySem PySem.Spec PyProof.Rows
section
variable {X:Cx} {e:Expr} {es:List Expr} {te:TE} {t:TA} {pos:Pos}
end
section
variable {X:Cx} {pins:List (Addr×Obj)} {σ:St} {H:Hp} {s s':Shared}
end
section
variable {X:Cx} {CX:CXT} {k:Nat} {f C:Addr} {fd:FuncData} {ps:List Str} {sp:Sp} {dvs:List V} {ds:List Value} {E:XK} {x m:Str} {p pos apos:Pos} {e o:Expr} {es:List Expr} {ta:TE} {t:TA}
end
section
variable {X:Cx} {CX:CXT} {k:Nat} {f C:Addr} {fd:FuncData} {ps ks:List Str} {sp:Sp} {E:XK} {x m:Str} {p pos apos kpos:Pos} {e o:Expr} {es:List Expr} {kws:List Keyword} {te ta:TE} {t tk:TA} {nm:Option Str}
variable {g:List Value->List Value->List Value} {gV:List V->List V->List V}
end
end L2
namespace L2
open PySem PySem.Spec PyProof.Rows
section
variable {X:Cx} {x:Str} {p pos:Pos} {e:Expr} {es:List Expr} {t:TA} {id T:String} {r:List V->Hp->VK->Prop}
end
end L2
namespace L2
open PySem PySem.Spec PyProof.Rows
section
variable {κ:Type} [DecidableEq κ]
def pQ(kvs:List (κ×V))(k:κ):Option V:=(kvs.find? fun kv=>decide (kv.1=k)).map (·.2)
def putK(kvs:List (κ×V))(k:κ)(v:V):List (κ×V) :=
 if(kvs.any fun kv=>decide (kv.1=k))=true then kvs.map (fun kv=>if kv.1=k then(kv.1,v) else kv) else kvs++[(k,v)]
theorem pO{p:κ×V}{r:List (κ×V)}{k:κ}(e:p.1=k):pQ (p::r) k=some p.2:=by simp[pQ,List.find?_cons,e]
theorem pP{p:κ×V}{r:List (κ×V)}{k:κ}(e:¬ p.1=k):pQ (p::r) k=pQ r k:=by simp[pQ,List.find?_cons,e]
theorem oV(kvs:List (κ×V))(k:κ)(v:V):(putK kvs k v).length<=kvs.length+1:=by
 unfold putK
 split
 ·rw[List.length_map];omega
 ·rw[List.length_append,List.length_cons,List.length_nil];omega
theorem xO.getD{o:Option V}{u:Option Value}{d:V}{d':Value}(r:xO o u)(rd:RelV d d'):RelV (o.getD d) (u.getD d'):=by
  cases o with
  | none => cases u with
    | none=>exact rd
    | some _=>exact(show False from r).elim
  | some _ => cases u with
    | none=>exact(show False from r).elim
    | some _=>exact r
theorem KV.val{kvs:List (κ×V)}{vs:List (κ×Value)}(r:KV kvs vs)(k:κ):xO (pQ kvs k) (valueAt vs k):=by
  unfold KV at r
  induction r with
  | nil=>exact True.intro
  | @cons p q ps qs h t ih =>
    obtain⟨h1,h2⟩:=h
    by_cases e:p.1=k
    · have e':q.1=k:=h1.symm.trans e
      have b:valueAt (q::qs) k=some q.2:=by simp[valueAt,List.find?_cons,e']
      rw[pO e,b];exact h2
    · have e':¬ q.1=k:=fun z=>e (h1.trans z)
      have b:valueAt (q::qs) k=valueAt qs k:=by simp[valueAt,List.find?_cons,e']
      rw[pP e,b];exact ih
theorem KV.any{kvs:List (κ×V)}{vs:List (κ×Value)}(r:KV kvs vs)(k:κ):(kvs.any fun kv=>decide (kv.1=k))=vs.any fun kv=>decide (kv.1=k):=by
 unfold KV at r
 induction r with
 | nil=>rfl
 | cons h t ih=>rw[List.any_cons,List.any_cons,ih,h.1]
theorem KV.repl{kvs:List (κ×V)}{vs:List (κ×Value)}(r:KV kvs vs)(k:κ){y:V}{u:Value}(ry:RelV y u) :
    KV (kvs.map fun kv=>if kv.1=k then(kv.1,y) else kv) (vs.map fun kv=>if kv.1=k then(kv.1,u) else kv):=by
  unfold KV at r ⊢
  induction r with
  | nil=>exact .nil
  | @cons p q ps qs h t ih =>
    rw[List.map_cons,List.map_cons]
    refine .cons ?_ ih
    obtain⟨h1,h2⟩:=h
    by_cases e:p.1=k
    · rw[if_pos e,if_pos (h1.symm.trans e)];exact⟨h1,ry⟩
    · rw[if_neg e,if_neg (fun z=>e (h1.trans z))];exact⟨h1,h2⟩
theorem KV.put{kvs:List (κ×V)}{vs:List (κ×Value)}(r:KV kvs vs)(k:κ){y:V}{u:Value}(ry:RelV y u):KV (putK kvs k y) (stored vs k u):=by
 unfold putK stored
 rw[r.any k]
 by_cases e:(vs.any fun kv=>decide (kv.1=k))=true
 ·rw[if_pos e,if_pos e];exact r.repl k ry
 ·rw[if_neg e,if_neg e];exact Paired.snoc r ⟨rfl,ry⟩
end
theorem yS{P:Program}{w:World}{k:Key}{u:Value}(r:RelV (kV k) u):(bO P w).is k u=true:=by
 cases k with
 | inl i=>obtain⟨t,e⟩:=(show ∃ t,u=Value.int i t from r);subst e;exact oM P w i t
 | inr x=>obtain⟨t,e⟩:=(show ∃ t,u=Value.str x t from r);subst e;exact oK P w x t
theorem nj{P:Program}{w:World}:∀ {ks:List Key} {us:List Value},Vals (ks.map kV) us->ItemsAre (bO P w) ks us
  | [],_,r=>by rw[List.map_nil] at r;cases r;exact .nil
  | k :: ks, _, r => by
    rw[List.map_cons] at r
    cases r with
    | cons h t=>exact .cons (yS h) (nj t)
abbrev KT(H:Hp):List (List Key×V)->List (List Key×Addr×Value)->Prop:=Paired fun p q=>p.1=q.1/\H q.2.1=some (.tup (p.1.map kV))/\RelV p.2 q.2.2
theorem KT.val{H:Hp}{kvs:List (List Key×V)}{xs:List (List Key×Addr×Value)}(r:KT H kvs xs)(k:List Key):xO (pQ kvs k) ((atKey xs k).map (·.2)):=by
  induction r with
  | nil=>exact True.intro
  | @cons p q ps qs h t ih =>
    obtain⟨h1,_,h2⟩:=h
    by_cases e:p.1=k
    · have e':q.1=k:=h1.symm.trans e
      have b:atKey (q::qs) k=some q.2:=by simp[atKey,List.find?_cons,e']
      rw[pO e,b];exact h2
    · have e':¬ q.1=k:=fun z=>e (h1.trans z)
      have b:atKey (q::qs) k=atKey qs k:=by simp[atKey,List.find?_cons,e']
      rw[pP e,b];exact ih
section
variable {P:Program} {w:World} {H:Hp} {h:Heap} {a:Addr}
theorem Ir{u:HO}(ok:HOk P w H h)(e:Rd H a u):cV P w H h a u:=e.ok ok
theorem wj{kvs:List (Key×V)}(ok:HOk P w H h)(e:Rd H a (.dK kvs)):kvs.length<=sizeLine/\(a==sysModules)=false/\∃ vs,KV kvs vs/\h.DictOf (bO P w) a vs :=
 show cV P w H h a (.dK kvs) from Ir ok e
theorem Sh{kvs:List (Key×V)}(ok:HOk P w H h)(e:H a=some (.dK kvs)):kvs.length<=sizeLine/\(a==sysModules)=false/\∃ vs,KV kvs vs/\h.DictOf (bO P w) a vs:=wj ok (.inl e)
theorem vB{ks:List Key}(ok:HOk P w H h)(e:H a=some (.tup (ks.map kV))):(tupleKind (bO P w)).is h ks a:=by
 obtain⟨_,its,r,o,h1,h2,n,h3⟩:=(show cV P w H h a (.tup (ks.map kV)) from ok a _ e)
 exact⟨o,its.toArray,n,h1,h2,h3,by simpa using nj r⟩
theorem zP{kvs:List (List Key×V)}(ok:HOk P w H h)(e:Rd H a (.dT kvs)):kvs.length<=sizeLine/\(a==sysModules)=false /\
    ∃ xs,KT H kvs xs/\h.DictOfH (tupleKind (bO P w)) a xs:=by
  obtain⟨z,y,xs,r,o,es,ep,h1,h2,h3,h4,h5⟩:=(show cV P w H h a (.dT kvs) from Ir ok e)
  refine⟨z,y,xs,r,o,es,ep,h1,h2,h3,h4,fun x hx=>?_,h5⟩
  have all:∀ {l:List (List Key×V)} {m:List (List Key×Addr×Value)},KT H l m->∀ x∈m,(tupleKind (bO P w)).is h x.1 x.2.1:=by
    intro l m q
    induction q with
    | nil=>intro x hx;exact nomatch hx
    | @cons p q ps qs hq t ih =>
      intro x hx
      rcases List.mem_cons.mp hx with e | hx
      · subst e
        exact vB ok (by rw[<- hq.1];exact hq.2.1)
      · exact ih x hx
  exact all r x hx
end
def Ku(H:Hp)(a:Addr)(y:V)(r:Option V):Prop :=
 (∃ kvs k,Rd H a (.dK kvs)/\y=kV k/\r=pQ kvs k)\/∃ kvs k b,Rd H a (.dT kvs)/\y=.ref b/\H b=some (.tup (k.map kV))/\r=pQ kvs k
section
variable {X:Cx} {pins:List (Addr×Obj)} {σ:St} {H:Hp} {s:Shared} {a:Addr} {y v:V} {u r:Value} {o:Option V} {A:Around} {E:Value->Shared->Prop}
theorem Inv.big(I:Inv X pins σ H s):sysModules<s.heap.objs.size:=by
 have h:mainGlobals<s.heap.objs.size:=(I.mod.glob.keeps I.bk).lt
 exact Nat.lt_trans (by decide) h
theorem wz{Q:Value->Shared->Prop}(hu:A.units+1<cLine)(I:Inv X pins σ H s)(g:Ku H a y (some v))(ry:RelV y u)(h:∀ w' s',Inv X pins σ H s'->RelV v w'->Q w' s') :
  wpAny (model X.prog X.w) A (getItem (.ref a) u) Q E s:=by
 rcases g with⟨kvs,k,e,ey,l⟩ | ⟨kvs,k,b,e,ey,eb,l⟩
 ·subst ey
  obtain⟨z,hd,vs,rel,dd⟩:=wj I.hok e
  obtain⟨w',hw,rw'⟩:=xO.some_of (v:=v) (o:=valueAt vs k) (by rw[l];exact rel.val k)
  exact wpAny_getItem_of (yS ry) dd.mapOf hw (h w' _ (I.tok _) rw')
 ·subst ey
  cases (show u=Value.ref b from ry)
  obtain⟨z,hd,xs,rel,dd⟩:=zP I.hok e
  obtain⟨w',hw,rw'⟩:=xO.some_of (v:=v) (o:=(atKey xs k).map (·.2)) (by rw[l];exact rel.val k)
  obtain⟨p,hp,hp2⟩:=Option.map_eq_some_iff.mp hw
  refine wpAny_getItem_heap (tupleKind_room_in1 hu) (vB I.hok eb) dd hp ?_
  rw[hp2]
  exact h w' _ (I.tok _) rw'
theorem Gn{h':Heap}{t':Nat}{ob:HO}(I:Inv X pins σ H s)(mu:Mut (H a))(hs:Heap.SameBut a s.heap h')(he:∃ q,h'.get? a=some q)(new:cV X.prog X.w (upd H a ob) h' a ob) :
  Inv X pins σ (upd H a ob) { s with heap:=h',toks:=t' } :=
 I.write (x:=a) (e:=a) mu (.inl rfl) (fun b q hb z=>(hs.2 b hb).trans z) he new
theorem Kf{P:Program}{w:World}{H':Hp}{h':Heap}{kvs:List (Key×V)}{vs:List (Key×Value)}(z:kvs.length<=sizeLine)(hd:(a==sysModules)=false)(rel:KV kvs vs)(dd:h'.DictOf (bO P w) a vs) :
  cV P w H' h' a (.dK kvs):=⟨z,hd,vs,rel,dd⟩
end
section
variable {X:Cx} {pins:List (Addr×Obj)} {σ:St} {H:Hp} {s:Shared} {a:Addr} {kvs:List (Key×V)} {k:Key} {u:Value} {A:Around} {E:Value->Shared->Prop}
end
def WM(i:Expr):Prop:=∀ ov iv,subscripted i false ov iv=operate [ov,iv] (getItem ov iv)
theorem Cq{prog:Program}{w:World}{A:Around}{E:Value->Shared->Prop}{s:Shared}{env:Env}{value slice:Expr}{pos:Pos}{T id:String}{Q:Value->Shared->Prop}
  (hl:typeLookup (.type T) "__getitem__"=pure (some (.builtin id))) (hs:WM slice)
  (h:wpAny (model prog w) A (eval value env) (fun o s₁=>wpAny (model prog w) A (eval slice env) (fun i s₂=>s₂.TypeIs o T/\wpAny (model prog w) A (getItem o i) Q E s₂) E s₁) E s) :
  wpAny (model prog w) A (eval (.Subscript value slice pos) env) Q E s:=by
 refine Subscript_ (wpAny_mono h (fun o s₁ h₁=>wpAny_mono h₁ (fun i s₂ h₂=>?_) fun _ _ x=>x) fun _ _ x=>x)
 obtain⟨hT,h₂⟩:=h₂
 unfold subscriptTail
 refine wpAny_bind ?_
 rw[getitemInPython_of_ne hT.not_modules]
 refine wpAny_bind (wpAny_specialOf hT hl ?_)
 have fin:wpAny (model prog w) A (subscripted slice false o i) (fun r s₃=>wpAny (model prog w) A (letTemporaryGo value o r >>=fun _=>pure r) Q E s₃) E s₂:=by
  rw[hs o i]
  exact wpAny_operating (wpAny_mono h₂ (fun r s₃ h₃=>wpAny_bind (wpAny_letTemporaryGo (wpAny_pure h₃))) fun _ _ x=>x)
 first
  | exact wpAny_pure (wpAny_bind fin)
  | exact wpAny_bind (wpAny_pure (wpAny_bind fin))
  | exact wpAny_bind fin
theorem pA{X:Cx}{pins:List (Addr×Obj)}{σ:St}{H:Hp}{s:Shared}{a:Addr}{y:V}{o:Option V}(I:Inv X pins σ H s)(g:Ku H a y o):s.TypeIs (.ref a) "dict":=by
 rcases g with⟨kvs,k,e,_,_⟩ | ⟨kvs,k,b,e,_,_,_⟩
 ·obtain⟨_,_,vs,_,dd⟩:=wj I.hok e
  exact dd.typeIs
 ·obtain⟨_,_,xs,_,dd⟩:=zP I.hok e
  exact dd.typeIs
def Lh(td ty:TE):TE:=fun σ H Q=>td σ H fun x H1=>ty σ H1 fun y H2=>∃ a v,x=.ref a/\Ku H2 a y (some v)/\Q v H2
section
variable {X:Cx} {o i e value:Expr} {pos pos' tpos:Pos} {td ty tv:TE}
theorem Dr(hu:X.A.units+1<cLine)(ho:PE X o td)(hi:PE X i ty)(hs:WM i):PE X (.Subscript o i pos) (Lh td ty):=by
 intro pins s σ H Q I h
 refine Cq PySem.F.slot_dict_getitem.lookup hs (thn (ho pins s σ H _ I h) fun u s1 ⟨x,H1,I1,rx,q1⟩=>thn (hi pins s1 σ H1 _ I1 q1) fun iv s2 ⟨y,H2,I2,ry,a,v,ex,g,q2⟩=>?_)
 subst ex
 obtain rfl:u=Value.ref a:=rx
 exact⟨pA I2 g,wz hu I2 g ry fun w' s3 I3 rw'=>⟨v,H2,I3,rw',q2⟩⟩
end
theorem zR{P:Program}{w:World}{H:Hp}(h:Heap)(hb:sysModules<h.objs.size):cV P w H (h.push { cls:=.type "dict",data:=.dict #[] }) h.objs.size (.dK []) :=
 ⟨Nat.zero_le _,beq_eq_false_iff_ne.mpr (Ne.symm (Nat.ne_of_lt hb)),[],.nil,Heap.DictOf.new h⟩
section
variable {X:Cx} {pos:Pos}
end
def pU:List (TE×TE)->St->Hp->(List (V×V)->Hp->Prop)->Prop
 | [],_,H,Q=>Q [] H
 | (tk,tv)::r,σ,H,Q=>tk σ H fun x H1=>tv σ H1 fun y H2=>pU r σ H2 fun ps H3=>Q ((x,y)::ps) H3
abbrev VV:List (V×V)->List (Value×Value)->Prop:=Paired fun p q=>RelV p.1 q.1/\RelV p.2 q.2
def PPs(X:Cx)(pos:Pos)(keys:List (Option Expr))(values:List Expr)(trs:List (TE×TE)):Prop :=
  ∀ (pins : List (Addr × Obj)) (s : Shared) (σ : St) (H : Hp) (Q : List (V × V) -> Hp -> Prop), Inv X pins σ H s -> pU trs σ H Q ->
    wpAny (model X.prog X.w) X.A (evalPairs (pairTrees keys values X.env pos)) (fun vs s'=>∃ ps H',Inv X pins σ H' s'/\VV ps vs/\Q ps H') X.xe s
theorem Dg{X:Cx}{pos:Pos}:PPs X pos [] [] []:=fun pins s σ H Q I h=>pairTrees_nil_walk ⟨[],H,I,.nil,h⟩
theorem yr{X:Cx}{pos:Pos}{k v:Expr}{ks:List (Option Expr)}{vs:List Expr}{tk tv:TE}{trs:List (TE×TE)}(hk:PE X k tk)(hv:PE X v tv)(hr:PPs X pos ks vs trs) :
    PPs X pos (some k::ks) (v::vs) ((tk,tv)::trs):=fun pins s σ H Q I h =>
  pairTrees_cons_walk (thn (hk pins s σ H _ I h) fun u s1 ⟨x,H1,I1,rx,q1⟩=>thn (hv pins s1 σ H1 _ I1 q1) fun w2 s2 ⟨y,H2,I2,ry,q2⟩ =>
    thn (hr pins s2 σ H2 _ I2 q2) fun ws s3 ⟨ps,H3,I3,rel,q3⟩=>⟨(x,y)::ps,H3,I3,.cons ⟨rx,ry⟩ rel,q3⟩)
def gA(kvs more:List (Key×V)):List (Key×V):=more.foldl (fun acc kv=>putK acc kv.1 kv.2) kvs
theorem KV.merge:∀ {more:List (Key×V)} {rs:List (Key×Value)} {kvs:List (Key×V)} {vs:List (Key×Value)},KV more rs->KV kvs vs->KV (gA kvs more) (merged vs rs):=by
  intro more rs kvs vs r
  unfold KV at r
  induction r generalizing kvs vs with
  | nil=>intro q;exact q
  | @cons p q ps qs h t ih =>
    intro r0
    have e:KV (putK kvs p.1 p.2) (stored vs q.1 q.2):=by
      have:=r0.put p.1 h.2
      rw[<- h.1];exact this
    exact ih e
theorem gD:∀ (more kvs:List (Key×V)),(gA kvs more).length<=kvs.length+more.length
  | [],kvs=>by show kvs.length<=kvs.length+0;omega
  | p :: r, kvs => by
    have h1:=gD r (putK kvs p.1 p.2)
    have h2:=oV kvs p.1 p.2
    show(gA (putK kvs p.1 p.2) r).length<=_
    rw[List.length_cons];omega
theorem j4{P:Program}{w:World}:∀ {kvs:List (Key×V)} {ws:List (Value×Value)},VV (kvs.map fun kv=>(kV kv.1,kv.2)) ws->∃ rs,Carries (bO P w) ws rs/\KV kvs rs
  | [],_,r=>by rw[List.map_nil] at r;cases r;exact⟨[],True.intro,.nil⟩
  | p :: kvs, _, r => by
    rw[List.map_cons] at r
    cases r with
    | @cons a b as bs h t =>
      obtain⟨rs,c,q⟩:=j4 (P:=P) (w:=w) t
      obtain⟨b1,b2⟩:=b
      exact⟨(p.1,b2)::rs,⟨yS h.1,rfl,c⟩,.cons ⟨rfl,h.2⟩ q⟩
def Lg(trs:List (TE×TE)):TE:=fun σ H Q=>∀ p,H p=none->pU trs σ (upd H p (.dK [])) fun ps H2=>H2 p=some (.dK [])/\∃ kvs:List (Key×V),ps=kvs.map (fun kv=>(kV kv.1,kv.2))/\kvs.length<=15/\Q (.ref p) (upd H2 p (.dK (gA [] kvs)))
theorem Dq{X:Cx}{pos:Pos}{keys:List (Option Expr)}{values:List Expr}{trs:List (TE×TE)}(h:PPs X pos keys values trs)(hall:keys.all (·.isSome)=true)(hl:keys.length=values.length)(h0:keys≠[])
  (h15:keys.length<=15):PE X (.Dict keys values pos) (Lg trs):=by
 intro pins s σ H Q I q
 have hn:=I.hok.fresh (Nat.le_refl s.heap.objs.size)
 have I1:=I.laid (a:=s.heap.objs.size) (o:=.dK []) (h':=s.heap.push { cls:=.type "dict",data:=.dict #[] }) (t':=s.toks) (fun _ _ q=>Heap.get?_push_of_some _ q) (Nat.le_refl _) (zR s.heap I.big)
 refine wpAny_Dict_walk (knd:=bO X.prog X.w) hall hl h0 h15 (thn (h pins _ σ _ _ I1 (q _ hn)) fun ws s2 ⟨ps,H2,I2,rel,e,kvs,ep,lk,q2⟩=>?_)
 subst ep
 obtain⟨rs,c,rk⟩:=j4 (P:=X.prog) (w:=X.w) rel
 obtain⟨z,hd,vs0,r0,dd⟩:=Sh I2.hok e
 cases r0
 refine⟨rs,c,dd,fun h' dd' hs=>⟨.ref s.heap.objs.size,_,?_,rfl,q2⟩⟩
 have hz:(gA [] kvs).length<=sizeLine:=by
  have h1:=gD kvs []
  rw[List.length_nil] at h1
  rw[sizeLine_eq];omega
 have he:∃ q,h'.get? s.heap.objs.size=some q:=let ⟨q,_,_,hq,_⟩:=dd';⟨q,hq⟩
 exact Gn I2 (by rw[e];exact True.intro) hs he (Kf hz hd (rk.merge .nil) dd')
structure M2 (X:Cx) (o:Expr) (m:Str) (apos:Pos) (e f:Expr) (cpos:Pos):Prop where
  base:attributeBase o m X.env (eval o X.env)=eval o X.env
  few:((backTo cpos (starEach [e,f] X.env)).all (fun x => !x.1)&&(backToKw cpos (keywordEach [] X.env)).all (fun x=>x.1.isSome)
    && decide (([e,f]:List Expr).length+([]:List Keyword).length+(if([]:List Keyword).isEmpty then 0 else 1)<30))=true
  line:(apos.endLine==cpos.line)=true
  trees:backTo cpos (starEach [e,f] X.env)=[(false,eval e X.env),(false,eval f X.env)]
def IsD(H:Hp)(a:Addr):Prop:=(∃ kvs,Rd H a (.dK kvs))\/∃ kvs,Rd H a (.dT kvs)
theorem JR{X:Cx}{pins:List (Addr×Obj)}{σ:St}{H:Hp}{s:Shared}{a:Addr}(I:Inv X pins σ H s)(d:IsD H a) :
  s.TypeIs (.ref a) "dict"/\(∀ b,Value.ref a=.ref b->∃ ob,s.heap.get? b=some ob/\ob.dict=none)/\(a==sysModules)=false:=by
 rcases d with⟨kvs,e⟩ | ⟨kvs,e⟩
 ·obtain⟨_,hd,vs,_,dd⟩:=wj I.hok e
  refine⟨dd.typeIs,fun b q=>?_,hd⟩
  cases q
  obtain⟨ob,_,_,h1,h2,_⟩:=dd
  exact⟨ob,h1,h2.2.1⟩
 ·obtain⟨_,hd,xs,_,dd⟩:=zP I.hok e
  refine⟨dd.typeIs,fun b q=>?_,hd⟩
  cases q
  obtain⟨ob,_,_,h1,h2,_⟩:=dd
  exact⟨ob,h1,h2.2.1⟩
section
variable {X:Cx} {pins:List (Addr×Obj)} {σ:St} {H:Hp} {s:Shared} {a:Addr} {y d:V} {u r:Value} {o:Option V} {A:Around} {E:Value->Shared->Prop}
theorem Kh{Q:Value->Shared->Prop}(hu:A.units+1<cLine)(I:Inv X pins σ H s)(g:Ku H a y o)(ry:RelV y u)(rd:RelV d r)(h:∀ w' s',Inv X pins σ H s'->RelV (o.getD d) w'->Q w' s') :
  wpAny (model X.prog X.w) A (call (.builtin "dict.get") [.ref a,u,r]) Q E s:=by
 rcases g with⟨kvs,k,e,ey,l⟩ | ⟨kvs,k,b,e,ey,eb,l⟩
 ·subst ey
  obtain⟨z,hd,vs,rel,dd⟩:=wj I.hok e
  refine call_meetsIn PySem.F.slot_dict_get dd.typeIs PySem.F.entry_dict_get (PySem.F.args_dict_get_3 _ _ _) (meets_dict_get_default (bO X.prog X.w) a (yS ry) hd r) ⟨_,dd.mapOf,h _ _ (I.tok _) ?_⟩
  rw[l]
  exact(rel.val k).getD rd
 ·subst ey
  cases (show u=Value.ref b from ry)
  obtain⟨z,hd,xs,rel,dd⟩:=zP I.hok e
  refine call_meetsIn PySem.F.slot_dict_get dd.typeIs PySem.F.entry_dict_get (PySem.F.args_dict_get_3 _ _ _) (meetsH_dict_get_default (tupleKind (bO X.prog X.w)) a b hd r) ⟨tupleKind_room_in1 hu,k,xs,vB I.hok eb,dd,h _ _ (I.tok _) ?_⟩
  rw[l]
  exact(rel.val k).getD rd
end
def HJ(td ty tx:TE):TE:=fun σ H Q=>td σ H fun x H1=>∃ a,x=.ref a/\IsD H1 a/\ty σ H1 fun y H2=>tx σ H2 fun z H3=>∃ o,Ku H3 a y o/\Q (o.getD z) H3
section
variable {X:Cx} {o e f:Expr} {apos cpos:Pos} {td ty tx:TE}
theorem yD(hu:X.A.units+1<cLine)(ho:PE X o td)(he:PE X e ty)(hf:PE X f tx)(m:M2 X o "get" apos e f cpos):PE X (.Call (.Attribute o "get" apos) [e,f] [] cpos) (HJ td ty tx):=by
  intro pins s σ H Q I h
  refine wpAny_Call_method m.base m.few m.line PySem.F.plainAttrs_dict PySem.F.slot_dict_get PySem.F.type_dict_get (thn (ho pins s σ H _ I h) fun u s1 ⟨x,H1,I1,rx,a,ex,d,q1⟩=>?_)
  subst ex
  obtain rfl:u=Value.ref a:=rx
  obtain⟨t1,t2,_⟩:=JR I1 d
  refine⟨t1,t2,?_⟩
  rw[m.trees]
  refine Calls.callWith_builtin rfl (Calls.evalArgs_plain (Calls.spliced_cons (thn (he pins s1 σ H1 _ I1 q1) fun iv s2 ⟨y,H2,I2,ry,q2⟩ =>
    Calls.spliced_cons (thn (hf pins s2 σ H2 _ I2 q2) fun fv s3 ⟨z,H3,I3,rz,ov,g,q3⟩=>Calls.spliced_nil ?_))))
  exact Kh hu I3 g ry rz fun w' s4 I4 rw'=>⟨_,H3,I4,rw',q3⟩
end
section
variable {X:Cx} {pins:List (Addr×Obj)} {σ:St} {H:Hp} {s:Shared} {a:Addr} {kvs:List (Key×V)} {A:Around} {E:Value->Shared->Prop}
end
section
variable {X:Cx} {pins:List (Addr×Obj)} {σ:St} {H:Hp} {s:Shared} {a:Addr} {y:V} {u:Value} {A:Around} {E:Value->Shared->Prop}
end
end L2
namespace Att
open PySem PySem.W PySem.Calls PyProof.Rows
section
variable {prog:Program} {w:World} {A:Around} {E:Value->Shared->Prop} {s:Shared} {K:Frag}
end
end Att
namespace L2
open PySem PySem.Spec PyProof.Rows
end L2
namespace L2
open PySem PySem.Spec PyProof.Rows
end L2
namespace L2
open PySem PySem.Spec PyProof.Rows
section
variable {P:Program} {w:World} {K:PySem.W.Frag} {mg:Str->Option Value} {base:Heap}
end
section
variable {X:Cx}
end
section
variable {κ:Type} [DecidableEq κ]
end
end L2
namespace L2
open PySem PySem.Spec PyProof.Rows
section
variable {P:Program} {w:World} {H H':Hp} {h h':Heap} {a:Addr} {o:HO}
theorem cV.there(x:cV P w H h a o):∃ ob,h.get? a=some ob:=by
 cases o with
 | lst xs=>obtain⟨_,_,_,_,e⟩:=x;exact⟨_,e⟩
 | tup xs=>obtain⟨_,_,_,ob,e,_⟩:=x;exact⟨_,e⟩
 | dK kvs=>obtain⟨_,_,_,_,o,_,_,e,_⟩:=x;exact⟨_,e⟩
 | dT kvs=>obtain⟨_,_,_,_,o,_,_,e,_⟩:=x;exact⟨_,e⟩
 | set S n=>obtain⟨o,_,_,_,e,_⟩:=x;exact⟨_,e⟩
 | ins C dx fs=>obtain⟨_,_,_,e,_⟩:=x;exact⟨_,e⟩
 | own y=>exact x
 | xd fs=>obtain⟨_,⟨_,_,_,e,_⟩,_⟩:=x;exact⟨_,e⟩
 | rng lo hi=>obtain⟨_,_,_,e⟩:=x;exact⟨_,e⟩
 | frz ob u=>obtain⟨e,_⟩:=x;exact⟨_,e⟩
 | tbl ps=>exact⟨_,(show h.get? a=some _ from x)⟩
 | met f y=>exact⟨_,(show h.get? a=some _ from x)⟩
 | ext φ=>exact x.2.1
theorem HOk.none_of(x:HOk P w H h)(e:h.get? a=none):H a=none:=by
  cases q:H a with
  | none=>rfl
  | some u =>
    obtain⟨ob,r⟩:=(x a u q).there
    rw[e] at r;cases r
theorem HOk.part{B:Heap}(x:HOk P w H h)(k:∀ b u ob,H b=some u->h.get? b=some ob->B.get? b=some ob):HOk P w H B:=fun b u e=>by
 refine(x b u e).stay (fun c v hc q=>?_) (fun _ q=>q) fun _ _ q=>q
 rcases hc with rfl | hc
 ·exact k _ _ _ e q
 ·exact k _ _ _ hc q
end
section
variable {fs fs' ex:List Addr} {H H':Hp} {h h1 h2 B:Heap}
theorem Un.fly(U:Un fs [] H H' h h1)(kB:∀ b o,h.get? b=some o->H b=none->b∉fs->B.get? b=some o)(tB:∀ b o,h.get? b=some o->b∉fs->∃ o',B.get? b=some o')(st:B.StaysIn h2)
  (nf:∀ b∈fs,∀ o,h1.get? b=some o->∀ vs,o.data≠.fields vs) (up:h1.UpToSlots h2):Un fs [] H H' h h2 where
 keep:=fun b o q n hb _=>st b o (kB b o q n hb)
 slot:=fun b o q n hb hx=>by
  obtain⟨sl,e⟩:=U.slot b o q n hb hx
  obtain⟨sl',e'⟩:=up b _ e (nf b hb _ e)
  exact⟨sl',e'⟩
 free:=U.free
 there:=fun b o q hx=>by
  by_cases hb:b∈fs
  ·obtain⟨o',e⟩:=U.there b o q hx
   obtain⟨sl,e'⟩:=up b _ e (nf b hb _ e)
   exact⟨_,e'⟩
  ·obtain⟨o',e⟩:=tB b o q hb
   exact⟨o',st b o' e⟩
 tups:=U.tups
 frzs:=U.frzs
 tbls:=U.tbls
theorem Un.restrict(U:Un fs' ex H H' h h1)(hs:∀ b o,b∈fs'->h.get? b=some o->b∈fs):Un fs ex H H' h h1 where
 keep:=fun b o q n hb hx=>U.keep b o q n (fun z=>hb (hs b o z q)) hx
 slot:=fun b o q n _ hx=>U.any q n hx
 free:=U.free
 there:=U.there
 tups:=U.tups
 frzs:=U.frzs
 tbls:=U.tbls
end
structure Fly (P:Program) (w:World) (outer:List Env) (H:Hp) (s:Shared) (H':Hp) (ea:Addr) (cls:Value) (s':Shared):Prop where
 os:s'.os=s.os
 bare:AllBare s'.gens
 un:Un (frs outer) [] H H' s.heap s'.heap
 fly:∃ B a0,Heap.FlyingW B outer ea cls a0 s'.heap/\HOk P w H' B/\(∀ b o,s.heap.get? b=some o->H b=none->b∉frs outer->B.get? b=some o)/\(∀ b o,s.heap.get? b=some o->b∉frs outer->∃ o',B.get? b=some o')
 fresh:s.heap.get? ea=none
def CX1(P:Program)(w:World):CXT:=fun outer H s E e s'=>∃ ea cls H',e=.ref ea/\Fly P w outer H s H' ea cls s'/\H' ea=none/\E cls none H'
theorem Ji{P:Program}{w:World}{X:Cx}:Passes (CX1 P w) X E0:=fun _ _ _ _ _ _ _ h=>by obtain⟨_,_,_,_,_,_,z⟩:=h;exact z.elim
theorem yK{B h:Heap}{l:List Env}(f:h.FunFrames B l):∀ b∈frs l,∀ o,h.get? b=some o->∀ vs,o.data≠.fields vs:=fun b hb o e=>by
 obtain⟨_,o',e',hd⟩:=f.mem hb
 rw[e] at e';cases e'
 exact hd
section
variable {P:Program} {w:World} {K:PySem.W.Frag} {mg:Str->Option Value} {base:Heap} {N:List Str} {qual:Str} {scope:Scope} {f:Addr} {cd:Value} {A:Around} {outer:List Env} {s:Shared} {H:Hp} {E:XK}
theorem qP{env:Env}{L:Addr}(hf:env.frame=some L):frs (env::outer)=L::frs outer:=by
 unfold frs;rw[List.filterMap_cons,hf]
theorem uY:Passes (CX1 P w) (iB (CX1 P w) P w K mg base N qual scope f cd A outer s H E) E:=by
  intro pins σ H1 s1 e s' I h
  obtain⟨ea,cls,H',rfl,Fl,hn,hE⟩:=h
  obtain⟨B,a0,fl,hokB,kB,tB⟩:=Fl.fly
  have hfr:frs (iB (CX1 P w) P w K mg base N qual scope f cd A outer s H E).stack=s.heap.objs.size::frs outer:=qP rfl
  have nL:∀ b o,s.heap.get? b=some o->b≠s.heap.objs.size:=fun b o q=>Nat.ne_of_lt (Heap.lt_size q)
  have nin:∀ b o,s.heap.get? b=some o->b∉frs outer->b∉frs (iB (CX1 P w) P w K mg base N qual scope f cd A outer s H E).stack:=fun b o q hb z=>by
    rw[hfr] at z
    rcases List.mem_cons.mp z with z | z
    · exact nL b o q z
    · exact hb z
  have noex:∀ b:Addr,b∉(iB (CX1 P w) P w K mg base N qual scope f cd A outer s H E).ex:=fun b z=>absurd (show b∈([]:List Addr) from z) (by simp)
  show wpAny _ _ (leaving _ (.ref ea)) _ _ _
  refine wpAny_leaves_onW I.ok.frames rfl fl fun h2 fl2 up=>?_
  refine⟨ea,cls,H',rfl,⟨Fl.os.trans I.os,Fl.bare,?_,⟨B,a0,fl2,hokB,fun b o q n hb=>?_,fun b o q hb=>?_⟩,?_⟩,hn,hE⟩
  · have U1:=Un.fly Fl.un kB tB fl2.1 (yK fl.2.2.1) up
    have U0:Un (frs (iB (CX1 P w) P w K mg base N qual scope f cd A outer s H E).stack) [] H H1 s.heap s1.heap:=I.base.mono (fun b hb=>by rw[hfr];exact List.mem_cons_of_mem _ hb) (fun b hb=>hb)
    exact(U0.trans U1).restrict fun b o hb q=>by
      rw[hfr] at hb
      rcases List.mem_cons.mp hb with z | z
      · exact absurd z (nL b o q)
      · exact z
  · exact kB b o (I.base.keep b o q n hb (noex b)) (I.base.free b o q n (noex b)) (nin b o q hb)
  · obtain⟨o1,q1⟩:=I.base.there b o q (noex b)
    exact tB b o1 q1 (nin b o q hb)
  · cases q:s.heap.get? ea with
    | none=>rfl
    | some o =>
      obtain⟨o1,q1⟩:=I.base.there ea o q (noex ea)
      rw[Fl.fresh] at q1;cases q1
theorem sy{pins:List (Addr×Obj)}{σ:St}{H1:Hp}{s1:Shared}{C e:Addr}{h':Heap}{args:List Value}(I:Inv (iB (CX1 P w) P w K mg base N qual scope f cd A outer s H E) pins σ H1 s1)(hx:Heap.MadeExcOf s1.heap h' e (.ref C) args)(hE:E (.ref C) none H1) :
    (iB (CX1 P w) P w K mg base N qual scope f cd A outer s H E).xe (.ref e) { s1 with heap:=h' }:=by
  have hfr:frs (iB (CX1 P w) P w K mg base N qual scope f cd A outer s H E).stack=s.heap.objs.size::frs outer:=qP rfl
  have nL:∀ b o,s.heap.get? b=some o->b≠s.heap.objs.size:=fun b o q=>Nat.ne_of_lt (Heap.lt_size q)
  have nin:∀ b o,s.heap.get? b=some o->b∉frs outer->b∉frs (iB (CX1 P w) P w K mg base N qual scope f cd A outer s H E).stack:=fun b o q hb z=>by
    rw[hfr] at z
    rcases List.mem_cons.mp z with z | z
    · exact nL b o q z
    · exact hb z
  have noex:∀ b:Addr,b∉(iB (CX1 P w) P w K mg base N qual scope f cd A outer s H E).ex:=fun b z=>absurd (show b∈([]:List Addr) from z) (by simp)
  have hin:∀ env∈(iB (CX1 P w) P w K mg base N qual scope f cd A outer s H E).stack,∀ b,env.frame=some b->b∈frs (iB (CX1 P w) P w K mg base N qual scope f cd A outer s H E).stack:=fun env he b hb=>List.mem_filterMap.mpr ⟨env,he,hb⟩
  show wpAny _ _ (leaving _ (.ref e)) _ _ _
  have kB:∀ b o,s1.heap.get? b=some o->b∉frs (iB (CX1 P w) P w K mg base N qual scope f cd A outer s H E).stack->(PySem.W.hideAll s1.heap (frs (iB (CX1 P w) P w K mg base N qual scope f cd A outer s H E).stack)).get? b=some o:=fun b o q hb=>PySem.W.hideAll_get _ q hb
  refine wpAny_leaves_madeW I.ok.frames rfl (fun b o q=>PySem.W.of_hideAll _ q) (PySem.W.funFrames_hide I.stack hin) hx fun h2 t x1 x2 x3 x4=>?_
  have up:s1.heap.UpToSlots h2:=(Heap.UpToSlots.of_keeps hx.keeps).trans x4
  have hok:HOk P w H1 (PySem.W.hideAll s1.heap (frs (iB (CX1 P w) P w K mg base N qual scope f cd A outer s H E).stack)):=HOk.part I.hok fun b u ob hu q=>kB b ob q fun z=>by
    rw[I.stkFree b z] at hu;cases hu
  have hn:H1 e=none:=HOk.none_of I.hok hx.new
  refine⟨e,.ref C,H1,rfl,⟨I.os,I.bare,?_,⟨_,_,x1,hok,fun b o q n hb=>?_,fun b o q hb=>?_⟩,?_⟩,hn,hE⟩
  · have U1:Un (frs (iB (CX1 P w) P w K mg base N qual scope f cd A outer s H E).stack) [] H1 H1 s1.heap h2:=Un.fly Un.refl (fun b o q _ hb=>kB b o q hb) (fun b o q hb=>⟨o,kB b o q hb⟩) x1.1 (yK I.stack) up
    have U0:Un (frs (iB (CX1 P w) P w K mg base N qual scope f cd A outer s H E).stack) [] H H1 s.heap s1.heap:=I.base.mono (fun b hb=>by rw[hfr];exact List.mem_cons_of_mem _ hb) (fun b hb=>hb)
    exact(U0.trans U1).restrict fun b o hb q=>by
      rw[hfr] at hb
      rcases List.mem_cons.mp hb with z | z
      · exact absurd z (nL b o q)
      · exact z
  · exact kB b o (I.base.keep b o q n hb (noex b)) (nin b o q hb)
  · obtain⟨o1,q1⟩:=I.base.there b o q (noex b)
    exact⟨o1,kB b o1 q1 (nin b o q hb)⟩
  · cases q:s.heap.get? e with
    | none=>rfl
    | some o =>
      obtain⟨o1,q1⟩:=I.base.there e o q (noex e)
      have:=hx.new
      rw[this] at q1;cases q1
end
def nsOk(K:PySem.W.Frag)(N:Addr):Bool:=match K.lookup N with
 | some ⟨_,_,.dict es _,_⟩=>es.toList.all (fun e=>match e.key with | .str _ _=>true | _=>false)&&(PySem.W.nsIn K N "__init__"==some none)
 | _=>false
def xIn(K:PySem.W.Frag)(C M:Addr):Bool:=match K.lookup C,K.lookup M with
  | some ⟨.type "type", _, .cls cd, sl⟩, some ⟨_, _, .cls cdM, _⟩ =>
    (match sl.toList with | [_,_,_,_,some (.builtin n),_]=>n=="ValueError.__new__" | _=>false)&&cd.mro==[.ref C,.ref M,.type "ValueError",.type "Exception",.type "BaseException",.type "object"] && !cd.hasDel&&nsOk K cd.ns&&nsOk K cdM.ns
  | _,_=>false
theorem u6{K:PySem.W.Frag}{N:Addr}(e:nsOk K N=true):∃ mN:Str->Option Value,mN "__init__"=none/\∀ h:Heap,K.In h->h.Ns N mN:=by
 unfold nsOk at e
 split at e
 ·rename_i c d es n sl ho
  rw[Bool.and_eq_true] at e
  refine⟨nsFind es,?_,fun h X=>⟨_,es,n,X _ _ ho,rfl,fun en hen=>?_,fun _=>rfl⟩⟩
  ·have e2:PySem.W.nsIn K N "__init__"=some none:=by simpa using e.2
   unfold PySem.W.nsIn at e2
   rw[ho] at e2
   simp only at e2
   unfold nsFind findBy
   rw[<- Array.find?_toList]
   split at e2
   ·cases e2
   ·rename_i q
    rw[q];rfl
  ·have:=List.all_eq_true.mp e.1 en (by simpa using hen)
   split at this
   ·rename_i x t hk;exact⟨x,t,hk⟩
   ·cases this
 ·cases e
theorem Hg{K:PySem.W.Frag}{C M:Addr}(e:xIn K C M=true):∃ nm q N bs hdct sn sub ab col dd k0 k1 k2 k3 k5 mN,mN "__init__"=none/\∀ h:Heap,K.In h ->
  h.get? C=some (excClassObj nm q C N bs [.ref M,.type "ValueError",.type "Exception",.type "BaseException",.type "object"] hdct sn sub ab col dd k0 k1 k2 k3 k5 "ValueError.__new__")/\h.Ns N mN /\
   OwnTail h [.type "ValueError",.type "Exception",.type "BaseException",.type "object"] [.ref M,.type "ValueError",.type "Exception",.type "BaseException",.type "object"]:=by
 unfold xIn at e
 split at e
 ·rename_i dd cd sl cM dM cdM slM hC hM
  simp only[Bool.and_eq_true,Bool.not_eq_true'] at e
  obtain⟨⟨⟨⟨e1,e2⟩,e3⟩,e4⟩,e5⟩:=e
  split at e1
  ·rename_i k0 k1 k2 k3 n k5 hs
   have en:n="ValueError.__new__":=by simpa using e1
   subst en
   have hsl:sl = #[k0,k1,k2,k3,some (.builtin "ValueError.__new__"),k5]:=by
    obtain⟨l⟩:=sl
    simp only at hs
    rw[hs]
   have em:cd.mro=[.ref C,.ref M,.type "ValueError",.type "Exception",.type "BaseException",.type "object"]:=by simpa using e2
   obtain⟨nm,bs,mro,ns,qn,hd,sn,sub,ab,col,del⟩:=cd
   simp only at em e3 e4
   subst em e3 hsl
   obtain⟨mN,n2,n1⟩:=u6 e4
   obtain⟨mM,m2,m1⟩:=u6 e5
   exact⟨_,_,_,_,_,_,_,_,_,_,_,_,_,_,_,mN,n2,fun h X=>⟨X _ _ hC,n1 h X,.own (X _ _ hM) (m1 h X) m2 .base⟩⟩
  ·cases e1
 ·cases e
section
variable {X:Cx}
theorem yj{x:Str}{C M:Addr}{np cpos pos:Pos}{txt:Str}{j:Nat}{p1:Pos}{Q:Flow->Shared->Prop}{pins:List (Addr×Obj)}{σ:St}{H:Hp}{s:Shared}(I:Inv X pins σ H s)(hc:X.A.handled=none)(hg:Gl X x)(hm:X.mg x=some (.ref C))(hd:(x==("__debug__":Str))=false)(hx:xIn X.K C M=true)
  (k:∀ (s2:Shared) (h':Heap) (e:Addr) (args:List Value),Inv X pins σ H s2->Heap.MadeExcOf s2.heap h' e (.ref C) args->X.xe (.ref e) { s2 with heap:=h' }) :
  wpAny (model X.prog X.w) X.A (exec (.Raise (some (.Call (.Name x np) [.Constant (.str txt) j p1] [] cpos)) none pos) X.env) Q X.xe s:=by
 obtain⟨nm,q,N,bs,hdct,sn,sub,ab,col,dd,k0,k1,k2,k3,k5,mN,hni,fx⟩:=Hg hx
 refine wpAny_Raise_call_subU (C:=C) (nm:=nm) (q:=q) (N:=N) (bs:=bs) (bm:=[.ref M,.type "ValueError",.type "Exception",.type "BaseException",.type "object"]) (hdct:=hdct) (sn:=sn) (sub:=sub) (ab:=ab) (col:=col) (dd:=dd) (k0:=k0) (k1:=k1) (k2:=k2) (k3:=k3) (k5:=k5)
  F.excBase_ValueError (by decide) F.excBase_ValueError (mN:=mN) ((fx _ I.kIn).2.2.hasType F.excBase_ValueError.hasBase) hc rfl hni (jh I hg hm ⟨rfl,?_⟩ hd)
 have ha:PA X [.Constant (.str txt) j p1] (HN (tC (.str txt)) Tg):=bx Aq cR
 show wpAny _ _ (evalArgs (.ref C) true (backTo cpos ((false,eval (.Constant (.str txt) j p1) X.env)::starEach [] X.env)) []) _ _ _
 refine Calls.evalArgs_plain (wpAny_mono (ha cpos pins s σ H (fun vs H1=>vs.length<=1/\H1=H) I ⟨Nat.le_refl _,rfl⟩) (fun us s2 hq=>?_) fun _ _ y=>y)
 obtain⟨vs,H1,I1,r,q1,rfl⟩:=hq
 obtain⟨f1,f2,f3⟩:=fx _ I1.kIn
 have h1:(1:Nat)<=sizeLine:=by decide
 have h2:=r.length
 exact⟨rfl,(show us.length<=sizeLine by omega),f1,f2,f3,fun h' e hm'=>k s2 h' e us I1 hm'⟩
end
abbrev Cx.inSuite(X:Cx)(e:Value)(xe:Value->Shared->Prop):Cx:={ X with A:=X.A.mark (some e),calm:=false,xe:=xe }
section
variable {X:Cx} {pins:List (Addr×Obj)} {σ:St} {H H':Hp} {s s':Shared} {e:Value} {xe:Value->Shared->Prop}
theorem Inv.inSuite(I:Inv X pins σ H s)(e:Value)(xe:Value->Shared->Prop):Inv (X.inSuite e xe) pins σ H s :=
 ⟨⟨I.ok.mod,I.ok.kind,I.ok.glob,I.ok.blt,I.ok.above,I.ok.inj,I.ok.has,I.ok.cab,fun z=>(nomatch z),I.ok.frames,I.ok.stk,I.ok.exf,I.ok.bs,I.ok.bsz,I.ok.noex,I.ok.exfs,I.ok.funs,I.ok.frf⟩,I.os,I.bare,I.base,I.loc,I.cell,I.free,I.freeC,I.pin,I.hok,I.len⟩
theorem Inv.outSuite(ok:X.Ok)(I:Inv (X.inSuite e xe) pins σ H s):Inv X pins σ H s:=⟨ok,I.os,I.bare,I.base,I.loc,I.cell,I.free,I.freeC,I.pin,I.hok,I.len⟩
theorem Inv.unbound{i:Nat}{x:Str}{v:Option Value}{m:Str->Option Value}{h':Heap}{t':Nat}(I:Inv X pins σ H s)(hN:X.N.Nodup)(hi:X.N[i]?=some x)(hm:s.heap.Ns X.env.locals m)(hn:h'.Ns X.env.locals (fun y=>if y=x then v else m y))(hs:Heap.SameBut X.env.locals s.heap h') :
  Inv X pins (σ.set i none) H { s with heap:=h',toks:=t' }:=by
 have cne:=I.cne
 have hiσ:i<σ.length:=by rw[I.len];exact(List.getElem?_eq_some_iff.mp hi).1
 obtain⟨m0,hn0,hl⟩:=id I.loc
 have hmm:∀ y,m0 y=m y:=fun y=>by
  obtain⟨o1,es1,ep1,g1,g2,_,g3⟩:=hn0
  obtain⟨o2,es2,ep2,f1,f2,_,f3⟩:=hm
  rw[g1] at f1;cases f1
  rw[g2] at f2;cases f2
  rw[<- g3,<- f3]
 obtain⟨oL,_,_,hoL,_⟩:=id hn0
 have tracked:HOk X.prog X.w H h':=fun b ob e=>by
  refine(I.hok b ob e).stay (fun c w' hc q=>(hs.2 c ?_).trans q) (fun _ q=>q) fun _ _ q=>q
  rintro rfl
  rcases hc with rfl | hc
  ·rw[I.free] at e;cases e
  ·rw[I.free] at hc;cases hc
 refine⟨I.ok,I.os,I.bare,⟨fun b o e n hb hx=>?_,fun b o e n hb hx=>?_,I.base.free,fun b o e hx=>?_,I.base.tups,I.base.frzs,I.base.tbls⟩,⟨_,hn,fun j y v' e1 e2 e3=>?_⟩,fun y c e=>?_,I.free,I.freeC,fun p hp=>?_,tracked,by simpa using I.len⟩
 ·exact(hs.2 b (Nat.ne_of_lt (Nat.lt_of_lt_of_le (Heap.lt_size e) I.ok.above))).trans (I.base.keep b o e n hb hx)
 ·obtain⟨sl,e1⟩:=I.base.slot b o e n hb hx
  exact⟨sl,(hs.2 b (Nat.ne_of_lt (Nat.lt_of_lt_of_le (Heap.lt_size e) I.ok.above))).trans e1⟩
 ·obtain⟨o',e1⟩:=I.base.there b o e hx
  exact⟨o',(hs.2 b (Nat.ne_of_lt (Nat.lt_of_lt_of_le (Heap.lt_size e) I.ok.above))).trans e1⟩
 ·by_cases hj:j=i
  ·subst hj
   rw[List.getElem?_set_self hiσ] at e2
   cases e2
  ·rw[List.getElem?_set_ne (Ne.symm hj)] at e2
   obtain⟨u',r',q⟩:=hl j y v' e1 e2 e3
   refine⟨u',r',?_⟩
   rcases q with⟨k,e⟩ | ⟨k,c,e,z⟩
   ·refine .inl ⟨k,?_⟩
    have:y≠x:=fun e=>hj (lC hN e1 (e▸hi))
    simp only[this,if_false]
    rw[<- hmm];exact e
   ·exact .inr ⟨k,c,e,z.sameBut hs (cne y c e)⟩
 ·obtain⟨w',z⟩:=I.cell y c e
  exact⟨w',z.sameBut hs (cne y c e)⟩
 ·obtain⟨e,n,ne,nf,d⟩:=I.pin p hp
  exact⟨(hs.2 p.1 ne).trans e,n,ne,nf,d⟩
end
def isX(a:Addr)(cls:Value)(h:Heap):Prop:=∃ o,h.get? a=some o/\o.cls=cls/\∃ vs,o.data=.fields vs
theorem JQ{P:Program}{w:World}{H:Hp}{h:Heap}{a:Addr}{cls:Value}(x:isX a cls h):cV P w H h a (.ext (isX a cls)) :=
 ⟨x,let ⟨o,e,_⟩:=x;⟨o,e⟩,fun _ _ ⟨o,e,r⟩ k=>⟨o,k o e,r⟩⟩
section
variable {X:Cx} {pins:List (Addr×Obj)} {σ:St} {H H':Hp} {s s':Shared} {ea:Addr} {cls:Value}
theorem Fly.lands{h2:Heap}{B:Heap}{t':Nat}(I:Inv X pins σ H s)(Fl:Fly X.prog X.w X.stack H s H' ea cls s')(hokB:HOk X.prog X.w H' B)(U:Un (frs X.stack) [] H H' s.heap h2)(st:B.StaysIn h2):Inv X pins σ H' { s' with heap:=h2,toks:=t' } :=
 I.call' (s':={ s' with heap:=h2,toks:=t' }) Fl.os U (hokB.kept st) Fl.bare (fun b z=>absurd z (by simp))
end
def j6(K:PySem.W.Frag)(C:Addr):Bool :=
 PySem.W.findIn K (.ref C) "__getattribute__"==some (some (.builtin "BaseException.__getattribute__"))&&PySem.W.findIn K (.ref C) "__getattr__"==some none&&PySem.W.findIn K (.ref C) "__class__"==some (some (.builtin "object.__class__")) &&
  PySem.W.mroIn K C (.type "object")==some true&&PySem.W.mroIn K C (.type "BaseException")==some true&&(PySem.W.clsIn K C).isSome
section
open PySem.Builtin PySem.Builtin.ObjectAttr PySem.Builtin.Getset_descriptor
variable {prog:Program} {w:World} {A:Around} {E:Value->Shared->Prop} {K:PySem.W.Frag} {h:Heap} {g:Array GenState} {d:Drawn} {t:Nat} {os:OsState} {a C:Addr} {o:Obj}
theorem xty{M:Model}(hx:h.get? a=some o)(hc:o.cls=.ref C):PySem.W.Looks M h (typeOf (.ref a)) (.ref C):=hc▸(PySem.W.Looks.ld hx).andThen .now
theorem rE{R:Result->Shared->Prop}(X:K.In h)(hx:h.get? a=some o)(hc:o.cls=.ref C)(hm:PySem.W.mroIn K C (.type "object")=some true)(hq:R (.ok (.ret (.ref C))) ⟨h,g,d,t,os⟩) :
  codeAny (model prog w) A (.call (.builtin "getset_descriptor.__get__") ⟨[.builtin "object.__class__",.ref a,.ref C],[]⟩) R ⟨h,g,d,t,os⟩:=by
 have hT5:(⟨h,g,d,t,os⟩:Shared).TypeIs (.builtin "object.__class__") "getset_descriptor":=F.typeOf_object_class
 have L0:=xty (M:=model prog w) hx hc
 have L1:=PySem.W.looks_mroIn (M:=model prog w) X hm
 refine codeAny_call_builtin PySem.W.KF.slot_gs.plain PySem.W.KF.entry_gs (PySem.W.KF.slot_gs.check _ _ _ _ _ _ _ _ PySem.W.KF.type_class (PySem.W.KF.args_gs _ _ _) ?_)
 unfold Builtin.«getset_descriptor.__get__» descrGet
 rw[PySem.W.dga_obj]
 refine wpAny_bind (wpAny_pure ?_)
 unfold descrGetter descrCheckInstance descrNameAndClass isInstance
 simp only[PySem.W.KF.owner_class]
 repeat lk
 refine⟨Code.quiet_builtin _ (by decide +kernel),codeAny_builtin PySem.W.KF.entry_class ?_⟩
 unfold Builtin.«object.__class__» shownTypeOf
 repeat lk
 exact hq
theorem mC{tk:Tok}{Q:Fin->Shared->Prop}(X:K.In h)(hx:h.get? a=some o)(hc:o.cls=.ref C)(hm:PySem.W.mroIn K C (.type "object")=some true)(hf:PySem.W.findIn K (.ref C) "__class__"=some (some (.builtin "object.__class__")))(hq:Q (.done (.ret (.ref C))) ⟨h,g,d,t,os⟩) :
  wpAny (model prog w) A (Builtin.«object.__getattribute__» ⟨[.ref a,.str "__class__" tk],[]⟩) Q E ⟨h,g,d,t,os⟩:=by
 have hT5:(⟨h,g,d,t,os⟩:Shared).TypeIs (.builtin "object.__class__") "getset_descriptor":=F.typeOf_object_class
 have f5:=F.typeOf_object_class
 have f6:=F.slot_gs_get.lookup
 have f7:=F.slot_gs_set.lookup
 have LF:=PySem.W.looks_findIn (M:=model prog w) X hf
 repeat (any_goals (first | assumption | (with_reducible refine wpAny_loadPart_at hx ?_;rw[hc]) | with_reducible refine LF.at ?_ | wp_step))
 refine rE X hx hc hm ?_
 repeat (any_goals (first | assumption | wp_step))
theorem mD{M:Model}{nameV:Value}{Q:Unit->Shared->Prop}(X:K.In h)(hx:h.get? a=some o)(hc:o.cls=.ref C)(hm:PySem.W.mroIn K C (.type "BaseException")=some true)(hq:Q () ⟨h,g,d,t,os⟩):wpAny M A (checkBuiltinCall "BaseException.__getattribute__" ⟨[.ref a,nameV],[]⟩) Q E ⟨h,g,d,t,os⟩:=by
 have hk:builtinKind "BaseException.__getattribute__"=some .slot:=by decide +kernel
 have hsplit:splitId "BaseException.__getattribute__"=some ("BaseException","__getattribute__"):=by decide +kernel
 have ha:=F.args_bexc_ga (.ref a) nameV
 have LM:=PySem.W.looks_mroIn (M:=M) X hm
 simp only[checkBuiltinCall,hk,hsplit]
 refine wpAny_bind ?_
 ·unfold isInstance
  repeat (first | (with_reducible refine wpAny_loadPart_at hx ?_;rw[hc]) | with_reducible refine LM.at ?_ | wp_step)
  exact hq
theorem tW{tk:Tok}{fill expr:Bool}{Q:Value->Shared->Prop}(X:K.In h)(hx:h.get? a=some o)(hc:o.cls=.ref C)(hA:j6 K C=true)(hq:Q (.ref C) ⟨h,g,d,t,os⟩) :
  wpAny (model prog w) A (getAttrBy (.ref a) (.str "__class__" tk) fill expr) Q E ⟨h,g,d,t,os⟩:=by
 unfold j6 at hA
 simp only[Bool.and_eq_true,beq_iff_eq] at hA
 obtain⟨⟨⟨⟨⟨g1,g2⟩,g3⟩,g4⟩,g5⟩,g6⟩:=hA
 have f3:=F.excAttr_ValueError.ga.bind (.ref a)
 have hx0:(expr&&onTheHeap (Value.builtin "BaseException.__getattribute__"))=false:=by cases expr<;>rfl
 have hx2:(Value.builtin "BaseException.__getattribute__"==Value.builtin "object.__getattribute__")=false:=by decide +kernel
 have hx1:(onTheHeap (Value.ref C)&&Value.builtin "BaseException.__getattribute__"==Value.builtin "object.__getattribute__")=false:=by rw[hx2];rfl
 have L1:=PySem.W.looks_findIn (M:=model prog w) X g1
 have L2':=PySem.W.looks_findIn (M:=model prog w) X g2
 repeat (any_goals (first | assumption | (with_reducible refine wpAny_loadPart_at hx ?_;rw[hc]) | with_reducible refine L1.at ?_ | with_reducible refine L2'.at ?_ | wp_step))
 refine codeAny_call_builtin F.excAttr_ValueError.ga.plain F.entry_bexc_ga (mD X hx hc g5 (mC X hx hc g4 g3 ?_))
 repeat (any_goals (first | assumption | wp_step))
theorem G8{Q:Option Value->Shared->Prop}(X:K.In h)(hx:h.get? a=some o)(hc:o.cls=.ref C)(hA:j6 K C=true)(hq:Q (some (.ref C)) ⟨h,g,d,t+1,os⟩) :
  wpAny (model prog w) A (getAttr? (.ref a) "__class__") Q E ⟨h,g,d,t,os⟩:=by
 unfold getAttr? getAttrBy?
 repeat (any_goals (first | assumption | with_reducible apply tW X hx hc hA | wp_step))
end
theorem yR{K:PySem.W.Frag}{a C:Addr}(hA:j6 K C=true):PySem.W.KitX K (.ref a) (.ref C) (isX a (.ref C)) where
 ty:=fun _ _ _ ⟨o,e,c,_⟩=>xty e c
 it:=fun _ _ X _=>by
  unfold j6 at hA
  rw[Bool.and_eq_true] at hA
  obtain⟨cdD,hcD⟩:=Option.isSome_iff_exists.mp hA.2
  unfold PySem.W.clsIn at hcD
  split at hcD
  ·rename_i c' d' cd' sl' ho
   intro A' Q' E' s' k q
   unfold isType loadHead
   exact wpAny_bind (wpAny_loadPart (k _ _ (X _ _ ho)) (wpAny_pure q))
  ·cases hcD
 ne:=fun h tp dd its n sl X htp=>by
  unfold j6 at hA
  rw[Bool.and_eq_true] at hA
  obtain⟨cdD,hcD⟩:=Option.isSome_iff_exists.mp hA.2
  refine Bool.eq_false_iff.mpr fun q=>?_
  have e:C=tp:=Value.ref.inj (beq_iff_eq.mp q)
  subst e
  unfold PySem.W.clsIn at hcD
  split at hcD
  ·rename_i c' d' cd' sl' ho
   have z:=(X _ _ ho).symm.trans htp
   cases z
  ·cases hcD
 ca:=fun {prog w A E Q s} X p k=>by
  obtain⟨h,g,d,t,os⟩:=s
  obtain⟨o,e,c,_⟩:=p
  exact G8 X e c hA k
section
variable {X:Cx} {pins:List (Addr×Obj)} {σ:St} {H H':Hp} {s s':Shared} {ea C:Addr}
theorem caught{c n kn:Str}{Mc:Addr}{np p1 p2 p3 hp:Pos}{i j:Nat}{Q:Flow->Shared->Prop}(I:Inv X pins σ H s)(Fl:Fly X.prog X.w X.stack H s H' ea (.ref C) s')(hn:H' ea=none)(hst:X.stack=X.env::X.outer/\X.env.frame=some X.env.locals)
    (hg:Gl X c) (hm:X.mg c=some (.ref Mc)) (hcd:(c==("__debug__":Str))=false) (hx:PySem.W.exmOne X.K (.ref C) (.ref Mc)=some true) (nd:X.N.Nodup) (hi:X.N[i]?=some n) (hj:X.N[j]?=some kn) (hij:i≠j)
    (ln:X.env.scope.names.lookup n=some .local) (lk:X.env.scope.names.lookup kn=some .local) (d1:(n==("__debug__":Str))=false) (d2:(n==("__classdict__":Str))=false)
    (k:∀ s2,Inv X pins ((σ.set j (some (.ref ea))).set i none) (upd H' ea (.ext (isX ea (.ref C)))) s2->Q .next s2) :
    wpAny (model X.prog X.w) X.A (noteFrame (.ref ea) X.env) (fun _ s₂=>wpAny (model X.prog X.w) X.A (setFlight (.ref ea) none) (fun _ s₃ =>
      wpAny (model X.prog X.w) X.A (handleBy (.ref ea) X.env [.ExceptHandler (some (.Name c np)) (some n) [.Assign [.Name kn p1] (.Name n p2) p3] hp]) Q X.xe s₃) X.xe s₂) X.xe s':=by
  obtain⟨B,a0,fl,hokB,kB,tB⟩:=Fl.fly
  have hfr:X.A.frames=some (X.env::X.outer):=by rw[<- hst.1];exact I.ok.frames
  have fl':Heap.FlyingW B (X.env::X.outer) ea (.ref C) a0 s'.heap:=by rw[<- hst.1];exact fl
  refine wpAny_looks_onW hfr hst.2 fl' fun h4 held4 up4=>?_
  refine wpAny_landsW held4 fun h5 fl5 up5=>?_
  have U5:Un (frs X.stack) [] H H' s.heap h5:=Un.fly Fl.un kB tB fl5.1 (yK fl.2.2.1) (up4.trans up5)
  have I5:Inv X pins σ H' { s' with heap:=h5 }:=Fly.lands I Fl hokB U5 fl5.1
  refine wpAny_handleBy_cons (codeAny_handlers_test ?_) (by intro q;cases q)
  refine jh (I5.inSuite (.ref ea) X.xe) hg hm ?_ hcd
  have LT:PySem.W.Looks (model X.prog X.w) h5 (typeOf (.ref ea)) (.ref C):=by
    obtain⟨ob,hob,hoc⟩:=fl5.there
    exact xty hob hoc
  refine(PySem.W.exm_one I5.kIn LT hx).here ?_
  refine codeAny_handlers_suite_as ?_
  refine lands_againW fl5 fun h6 fl6 up6=>?_
  have U6:Un (frs X.stack) [] H H' s.heap h6:=Un.fly Fl.un kB tB fl6.1 (yK fl.2.2.1) ((up4.trans up5).trans up6)
  have hX6:isX ea (.ref C) h6:=by
    obtain⟨oe,ws,e1,e2,e3,_⟩:=fl6.first
    exact⟨oe,e1,e2,ws,e3⟩
  have hok6:HOk X.prog X.w (upd H' ea (.ext (isX ea (.ref C)))) h6:=fun b u e=>by
    by_cases hb:b=ea
    · subst hb;rw[aU] at e;cases e;exact JQ hX6
    · rw[aL hb] at e
      exact((hokB.kept fl6.1) b u e).stay (fun _ _ _ q=>q) (fun b' q=>by rw[aL (aG q hn)];exact q) fun b' xs q=>by rw[aL (aG q hn)];exact q
  have U6':Un (frs X.stack) [] H (upd H' ea (.ext (isX ea (.ref C)))) s.heap h6:=by
    refine⟨U6.keep,U6.slot,fun b o q n hx=>?_,U6.there,fun b xs q=>?_,fun b o u q=>?_,fun b ps q=>?_⟩
    · rw[aL (fun z=>by rw[z,Fl.fresh] at q;cases q)]
      exact U6.free b o q n hx
    · have:=U6.tups b xs q
      rw[aL (aG this hn)];exact this
    · have:=U6.frzs b o u q
      rw[aL (aG this hn)];exact this
    · obtain⟨more,e⟩:=U6.tbls b ps q
      exact⟨more,by rw[aL (aG e hn)];exact e⟩
  have I6:Inv X pins σ (upd H' ea (.ext (isX ea (.ref C)))) { s' with heap:=h6 }:=I.call' (s':={ s' with heap:=h6 }) Fl.os U6' hok6 Fl.bare (fun b z=>absurd z (by simp))
  refine dI (X:=X.inSuite (.ref ea) X.xe) (I6.inSuite (.ref ea) X.xe) nd hi (.inl ln) (v:=.ref ea) rfl (fun s7 I7=>?_) (.inr ln)
  have hiσ:i<σ.length:=by rw[I.len];exact(List.getElem?_eq_some_iff.mp hi).1
  have hps:PSs (X.inSuite (.ref ea) fun _ _=>False) [.Assign [.Name kn p1] (.Name n p2) p3] (Tf (KC (HD i) (zx j)) Ck):=kY (jc (X:=X.inSuite (.ref ea) fun _ _=>False) nd hj (.inl lk) (gq (X:=X.inSuite (.ref ea) fun _ _=>False) hi (.inl ln) d1 d2) rfl (.inr lk)) uM
  have I7':Inv (X.inSuite (.ref ea) fun _ _=>False) pins (σ.set i (some (.ref ea))) (upd H' ea (.ext (isX ea (.ref C)))) s7:=(I7.outSuite I.ok).inSuite _ _
  refine wpAny_mono (hps pins s7 _ _ { nx:=fun σ' H''=>σ'=(σ.set i (some (.ref ea))).set j (some (.ref ea))/\H''=upd H' ea (.ext (isX ea (.ref C))),rt:=fun _ _=>False } I7' ⟨.ref ea,by rw[List.getElem?_set_self hiσ],rfl,rfl⟩) (fun f s8 h8=>?_) fun _ _ z=>z.elim
  cases f with
  | next =>
    obtain⟨σ8,H8,I8,rfl,rfl⟩:=h8
    have I8':Inv X pins ((σ.set i (some (.ref ea))).set j (some (.ref ea))) (upd H' ea (.ext (isX ea (.ref C)))) s8:=I8.outSuite I.ok
    obtain⟨m,hm8,_⟩:=id I8'.loc
    refine wpAny_nameGoes_keeps ln hm8 (by rw[I.ok.kind];rfl) fun h9 v hn9 hs9=>?_
    have I9:=I8'.unbound (t':=s8.toks+1) nd hi hm8 hn9 hs9
    have eσ:(((σ.set i (some (V.ref ea))).set j (some (.ref ea))).set i none)=((σ.set j (some (.ref ea))).set i none):=by
      rw[List.set_comm _ _ hij,List.set_set]
    rw[eσ] at I9
    exact k _ I9
  | brk=>obtain⟨_,_,_,z⟩:=h8;exact z.elim
  | cont=>obtain⟨_,_,_,z⟩:=h8;exact z.elim
  | ret u=>obtain⟨_,_,_,_,_,z⟩:=h8;exact z.elim
end
end L2
namespace L2
open PySem PySem.Spec PyProof.Rows DE PySem.SeqAt
theorem Same.tup{K:PySem.W.Frag}{H H':Hp}{a:Addr}{xs:List V}(e:Same H H')(h:SqT K H a xs):SqT K H' a xs:=by
 rcases h with(h | ⟨o,h⟩) | h
 ·exact .inl (.inl (e _ _ h))
 ·exact .inl (.inr ⟨o,e _ _ h⟩)
 ·exact .inr h
mutual
def Rep(K:PySem.W.Frag)(H:Hp):D->V->Prop
 | .non,v=>v=.non
 | .bl b,v=>v=.bl b
 | .int i,v=>v=.int i
 | .str x,v=>v=.str x
 | .tup ds,v=>∃ a vs,v=.ref a/\SqT K H a vs/\aO K H ds vs
 | .lst ds,v=>∃ a vs,v=.ref a/\SqL K H a vs/\aO K H ds vs
 | .exc c,v=>∃ a C,v=.ref a/\PySem.W.nsIn K mainGlobals c=some (some (.ref C))/\H a=some (.ext (isX a (.ref C)))
 | .dic ks ds,v=>∃ (a:Addr) (kvs:List (Key×V)),v=.ref a/\Rd H a (.dK kvs)/\kvs.map (·.1)=ks/\aO K H ds (kvs.map (·.2))
def aO(K:PySem.W.Frag)(H:Hp):List D->List V->Prop
 | [],vs=>vs=[]
 | d::ds,vs=>∃ v r,vs=v::r/\Rep K H d v/\aO K H ds r
end
mutual
theorem Rep.same{K:PySem.W.Frag}{H H':Hp}(e:Same H H'):∀ (d:D) (v:V),Rep K H d v->Rep K H' d v
  | .non,v,h=>by simpa[Rep] using h
  | .bl b,v,h=>by simpa[Rep] using h
  | .int i,v,h=>by simpa[Rep] using h
  | .str x,v,h=>by simpa[Rep] using h
  | .tup ds, v, h => by
    simp only[Rep] at h ⊢
    obtain⟨a,vs,h1,h2,h3⟩:=h
    exact⟨a,vs,h1,e.tup h2,aO.same e ds vs h3⟩
  | .lst ds, v, h => by
    simp only[Rep] at h ⊢
    obtain⟨a,vs,h1,h2,h3⟩:=h
    exact⟨a,vs,h1,e.seq h2,aO.same e ds vs h3⟩
  | .exc c, v, h => by
    simp only[Rep] at h ⊢
    obtain⟨a,C,h1,h2,h3⟩:=h
    exact⟨a,C,h1,h2,e _ _ h3⟩
  | .dic ks ds, v, h => by
    simp only[Rep] at h ⊢
    obtain⟨a,kvs,h1,h2,h3,h4⟩:=h
    refine⟨a,kvs,h1,?_,h3,aO.same e ds _ h4⟩
    rcases h2 with h2 | ⟨o,h2⟩
    · exact .inl (e _ _ h2)
    · exact .inr ⟨o,e _ _ h2⟩
theorem aO.same{K:PySem.W.Frag}{H H':Hp}(e:Same H H'):∀ (ds:List D) (vs:List V),aO K H ds vs->aO K H' ds vs
  | [],vs,h=>by simpa[aO] using h
  | d :: ds, vs, h => by
    simp only[aO] at h ⊢
    obtain⟨v,r,h1,h2,h3⟩:=h
    exact⟨v,r,h1,Rep.same e d v h2,aO.same e ds r h3⟩
end
theorem aO.length{K:PySem.W.Frag}{H:Hp}:∀ {ds:List D} {vs:List V},aO K H ds vs->ds.length=vs.length
  | [],vs,h=>by simp only[aO] at h;subst h;rfl
  | d :: ds, vs, h => by
    simp only[aO] at h
    obtain⟨v,r,rfl,_,h3⟩:=h
    simp[h3.length]
theorem aO.nil{K:PySem.W.Frag}{H:Hp}:aO K H [] []:=by simp[aO]
theorem aO.cons{K:PySem.W.Frag}{H:Hp}{d:D}{ds:List D}{v:V}{vs:List V}(h:Rep K H d v)(r:aO K H ds vs):aO K H (d::ds) (v::vs):=by
 simp only[aO];exact⟨v,vs,rfl,h,r⟩
theorem aO.append{K:PySem.W.Frag}{H:Hp}:∀ {ds es:List D} {vs us:List V},aO K H ds vs->aO K H es us->aO K H (ds++es) (vs++us)
  | [],es,vs,us,h,h'=>by simp only[aO] at h;subst h;exact h'
  | d :: ds, es, vs, us, h, h' => by
    simp only[aO] at h
    obtain⟨v,r,rfl,h2,h3⟩:=h
    exact .cons h2 (h3.append h')
theorem aO.get{K:PySem.W.Frag}{H:Hp}:∀ {ds:List D} {vs:List V} {i:Nat} {d:D},aO K H ds vs->ds[i]?=some d->∃ v,vs[i]?=some v/\Rep K H d v
  | [],vs,i,d,_,e=>by simp at e
  | d' :: ds, vs, 0, d, h, e => by
    simp only[aO] at h
    obtain⟨v,r,rfl,h2,h3⟩:=h
    simp at e;subst e
    exact⟨v,rfl,h2⟩
  | d' :: ds, vs, i + 1, d, h, e => by
    simp only[aO] at h
    obtain⟨v,r,rfl,h2,h3⟩:=h
    obtain⟨u,e1,e2⟩:=h3.get (i:=i) (d:=d) (by simpa using e)
    exact⟨u,by simpa using e1,e2⟩
theorem aO.take{K:PySem.W.Frag}{H:Hp}:∀ (n:Nat) {ds:List D} {vs:List V},aO K H ds vs->aO K H (ds.take n) (vs.take n)
  | 0,_,_,_=>by simpa using aO.nil
  | n+1,[],vs,h=>by simp only[aO] at h;subst h;simpa using aO.nil
  | n + 1, d :: ds, vs, h => by
    simp only[aO] at h
    obtain⟨v,r,rfl,h2,h3⟩:=h
    simpa using aO.cons h2 (h3.take n)
theorem aO.drop{K:PySem.W.Frag}{H:Hp}:∀ (n:Nat) {ds:List D} {vs:List V},aO K H ds vs->aO K H (ds.drop n) (vs.drop n)
  | 0,_,_,h=>by simpa using h
  | n+1,[],vs,h=>by simp only[aO] at h;subst h;simpa using aO.nil
  | n + 1, d :: ds, vs, h => by
    simp only[aO] at h
    obtain⟨v,r,rfl,h2,h3⟩:=h
    simpa using h3.drop n
theorem aO.reverse{K:PySem.W.Frag}{H:Hp}:∀ {ds:List D} {vs:List V},aO K H ds vs->aO K H ds.reverse vs.reverse
  | [],vs,h=>by simp only[aO] at h;subst h;simpa using aO.nil
  | d :: ds, vs, h => by
    simp only[aO] at h
    obtain⟨v,r,rfl,h2,h3⟩:=h
    simpa using h3.reverse.append (.cons h2 .nil)
structure Ext (Hs H Hs' H':Hp):Prop where
 vis:Same Hs Hs'
 all:Same H H'
 sub:Same Hs' H'
 hid:∀ b o,H b=some o->Hs b=none->Hs' b=none
theorem Ext.refl{Hs H:Hp}(h:Same Hs H):Ext Hs H Hs H:=⟨.refl _,.refl _,h,fun _ _ _ h=>h⟩
theorem Ext.trans{Hs H Hs1 H1 Hs2 H2:Hp}(a:Ext Hs H Hs1 H1)(b:Ext Hs1 H1 Hs2 H2):Ext Hs H Hs2 H2 :=
 ⟨a.vis.trans b.vis,a.all.trans b.all,b.sub,fun c o h1 h2=>b.hid c o (a.all c o h1) (a.hid c o h1 h2)⟩
theorem Ext.new{Hs H:Hp}(h:Same Hs H){p:Addr}(o:HO)(hp:H p=none):Ext Hs H (upd Hs p o) (upd H p o) where
 vis:=fun b u e=>by rw[aL (aG (h b u e) hp)];exact e
 all:=fun b u e=>by rw[aL (aG e hp)];exact e
 sub:=fun b u e=>by
  by_cases hb:b=p
  ·subst hb;rw[aU] at e ⊢;exact e
  ·rw[aL hb] at e ⊢;exact h b u e
 hid:=fun b u e n=>by rw[aL (aG e hp)];exact n
theorem isT{X:Cx}{pins:List (Addr×Obj)}{σ:St}{H:Hp}{s:Shared}{a:Addr}{vs:List V}(I:Inv X pins σ H s)(h:SqT X.K H a vs):∃ its:List Value,Vals vs its/\s.heap.IsTuple a its.toArray:=by
 obtain⟨its,r,p,_⟩:=I.tuple h
 exact⟨its,r,p⟩
theorem isL{X:Cx}{pins:List (Addr×Obj)}{σ:St}{H:Hp}{s:Shared}{a:Addr}{vs:List V}(I:Inv X pins σ H s)(h:SqL X.K H a vs):∃ its:List Value,Vals vs its/\s.heap.IsList a its.toArray:=by
 obtain⟨its,r,p,_⟩:=I.list h
 exact⟨its,r,p.isList⟩
mutual
theorem lR:∀ d:D,dep d<1000->deq d d=true
 | .non,_=>rfl
 | .bl b,_=>by simp[deq]
 | .int i,_=>by simp[deq]
 | .str x,_=>by simp[deq]
 | .tup xs,h=>by simp only[deq];exact ju xs (by simp only[dep] at h;omega)
 | .lst xs,h=>by simp only[deq];exact ju xs (by simp only[dep] at h;omega)
 | .exc c,h=>absurd h (by simp[dep])
 | .dic _ _,h=>absurd h (by simp[dep])
theorem ju:∀ ds:List D,deps ds<1000->nH ds ds=true
  | [],_=>rfl
  | d :: ds, h => by
    simp only[deps] at h
    simp only[nH,lR d (by omega),ju ds (by omega),Bool.and_self]
end
theorem qW:∀ {xs ys:List D} {e:Nat->Bool},(∀ (j:Nat) (x y:D),xs[j]?=some x->ys[j]?=some y->e j=deq x y)->((List.range (min xs.length ys.length)).all e&&xs.length==ys.length)=nH xs ys
  | [],[],_,_=>rfl
  | [],y::ys,_,_=>by simp[nH]
  | x::xs,[],_,_=>by simp[nH]
  | x :: xs, y :: ys, e, h => by
    have ih:=qW (xs:=xs) (ys:=ys) (e:=fun j=>e (j+1)) fun j a b e1 e2=>h (j+1) a b (by simpa using e1) (by simpa using e2)
    have h0:=h 0 x y rfl rfl
    simp only[nH,<- ih,<- h0,List.length_cons]
    rw[show min (xs.length+1) (ys.length+1)=min xs.length ys.length+1 by omega,List.range_succ_eq_map,List.all_cons,List.all_map]
    rw[Bool.and_assoc]
    congr 1
    congr 1
    simp
section
variable {X:Cx} {pins:List (Addr×Obj)} {σ:St} {H:Hp} {s:Shared}
mutual
theorem Rep.inj(I:Inv X pins σ H s):∀ (d d':D) (v:V),dep d<1000->dep d'<1000->Rep X.K H d v->Rep X.K H d' v->d=d'
  | .non,d',v,z,z',h,h'=>by simp only[Rep] at h;subst h;cases d'<;>simp[Rep] at h' ⊢
  | .bl b,d',v,z,z',h,h'=>by simp only[Rep] at h;subst h;cases d'<;>simp[Rep] at h' ⊢;exact h'
  | .int b,d',v,z,z',h,h'=>by simp only[Rep] at h;subst h;cases d'<;>simp[Rep] at h' ⊢;exact h'
  | .str b,d',v,z,z',h,h'=>by simp only[Rep] at h;subst h;cases d'<;>simp[Rep] at h' ⊢;exact h'
  | .tup ds, d', v, z, z', h, h' => by
    simp only[Rep] at h
    obtain⟨a,vs,rfl,h2,h3⟩:=h
    cases d' with
    | tup es =>
      simp only[Rep] at h'
      obtain⟨a',vs',e,h2',h3'⟩:=h'
      cases e
      have:=I.tuple_inj h2 h2'
      subst this
      rw[aO.inj I ds es vs (by simp only[dep] at z;omega) (by simp only[dep] at z';omega) h3 h3']
    | lst es =>
      simp only[Rep] at h'
      obtain⟨a',vs',e,h2',h3'⟩:=h'
      cases e
      obtain⟨i1,_,p1⟩:=isT I h2
      obtain⟨i2,_,p2⟩:=isL I h2'
      exact absurd rfl (ne_of_list_tuple p2 p1)
    | non=>simp[Rep] at h'
    | bl _=>simp[Rep] at h'
    | int _=>simp[Rep] at h'
    | str _=>simp[Rep] at h'
    | exc _=>exact absurd z' (by simp[dep])
    | dic _ _=>exact absurd z' (by simp[dep])
  | .lst ds, d', v, z, z', h, h' => by
    simp only[Rep] at h
    obtain⟨a,vs,rfl,h2,h3⟩:=h
    cases d' with
    | lst es =>
      simp only[Rep] at h'
      obtain⟨a',vs',e,h2',h3'⟩:=h'
      cases e
      have:=I.list_inj h2 h2'
      subst this
      rw[aO.inj I ds es vs (by simp only[dep] at z;omega) (by simp only[dep] at z';omega) h3 h3']
    | tup es =>
      simp only[Rep] at h'
      obtain⟨a',vs',e,h2',h3'⟩:=h'
      cases e
      obtain⟨i1,_,p1⟩:=isL I h2
      obtain⟨i2,_,p2⟩:=isT I h2'
      exact absurd rfl (ne_of_list_tuple p1 p2)
    | non=>simp[Rep] at h'
    | bl _=>simp[Rep] at h'
    | int _=>simp[Rep] at h'
    | str _=>simp[Rep] at h'
    | exc _=>exact absurd z' (by simp[dep])
    | dic _ _=>exact absurd z' (by simp[dep])
  | .exc c,d',v,z,z',h,h'=>absurd z (by simp[dep])
  | .dic _ _,d',v,z,z',h,h'=>absurd z (by simp[dep])
theorem aO.inj(I:Inv X pins σ H s):∀ (ds es:List D) (vs:List V),deps ds<1000->deps es<1000->aO X.K H ds vs->aO X.K H es vs->ds=es
  | [], es, vs, z, z', h, h' => by
    simp only[aO] at h;subst h
    cases es with
    | nil=>rfl
    | cons e es=>simp[aO] at h'
  | d :: ds, es, vs, z, z', h, h' => by
    simp only[aO] at h
    obtain⟨v,r,rfl,h2,h3⟩:=h
    cases es with
    | nil=>simp[aO] at h'
    | cons e es =>
      simp only[aO] at h'
      obtain⟨v',r',e',h2',h3'⟩:=h'
      cases e'
      simp only[deps] at z z'
      rw[Rep.inj I d e v (by omega) (by omega) h2 h2',aO.inj I ds es r (by omega) (by omega) h3 h3']
end
def eJ(ds es:List D)(j:Nat):Bool:=match ds[j]?,es[j]? with
 | some x,some y=>deq x y
 | _,_=>true
theorem v9(ds es:List D):((List.range (min ds.length es.length)).all (eJ ds es)&&ds.length==es.length)=nH ds es :=
 qW fun j x y e1 e2=>by unfold eJ;rw[e1,e2]
theorem v8(ds es:List D)(h:ds.length=es.length):(List.range ds.length).all (eJ ds es)=nH ds es:=by
 rw[<- v9 ds es,<- h];simp
theorem lQ:∀ {xs ys:List D},xs.length≠ys.length->nH xs ys=false
  | [],[],h=>absurd rfl h
  | [],_::_,_=>rfl
  | _::_,[],_=>rfl
  | x :: xs, y :: ys, h => by
    simp only[nH,lQ (xs:=xs) (ys:=ys) (by intro e;exact h (by simp[e])),Bool.and_false]
theorem f9{A:Around}:A.in1.units=A.units+1:=rfl
mutual
theorem vZ(I:Inv X pins σ H s):∀ (d d':D) (v v':V) (u u':Value) (A:Around),Rep X.K H d v->Rep X.K H d' v'->RelV v u->RelV v' u'->A.units+dep d<cLine->dep d<1000->dep d'<1000->EqAt A s u u' (deq d d')
  | .non, d', v, v', u, u', A, h, h', r, r', hu, z, z' => by
    simp only[Rep] at h;subst h;cases (show u=Value.none from r)
    have hu0:A.units<cLine:=Nat.lt_of_le_of_lt (Nat.le_add_right _ _) hu
    cases d' with
    | exc _=>exact absurd z' (by simp[dep])
    | dic _ _=>exact absurd z' (by simp[dep])
    | non=>simp only[Rep] at h';subst h';cases (show u'=Value.none from r');exact EqAt.same _
    | bl b=>simp only[Rep] at h';subst h';cases (show u'=Value.bool b from r');exact EqAt.none_bool b
    | int i=>simp only[Rep] at h';subst h';obtain⟨t,rfl⟩:=r';exact EqAt.none_int i t
    | str x=>simp only[Rep] at h';subst h';obtain⟨t,rfl⟩:=r';exact EqAt.none_str x t
    | tup es=>simp only[Rep] at h';obtain⟨a,vs,rfl,h2,h3⟩:=h';cases (show u'=Value.ref a from r');obtain⟨its,_,p⟩:=isT I h2;exact EqAt.none_tuple p hu0
    | lst es=>simp only[Rep] at h';obtain⟨a,vs,rfl,h2,h3⟩:=h';cases (show u'=Value.ref a from r');obtain⟨its,_,p⟩:=isL I h2;exact EqAt.none_list p hu0
  | .bl c, d', v, v', u, u', A, h, h', r, r', hu, z, z' => by
    simp only[Rep] at h;subst h;cases (show u=Value.bool c from r)
    have hu0:A.units<cLine:=Nat.lt_of_le_of_lt (Nat.le_add_right _ _) hu
    cases d' with
    | exc _=>exact absurd z' (by simp[dep])
    | dic _ _=>exact absurd z' (by simp[dep])
    | non=>simp only[Rep] at h';subst h';cases (show u'=Value.none from r');exact EqAt.bool_none c
    | bl b=>simp only[Rep] at h';subst h';cases (show u'=Value.bool b from r');exact EqAt.bool_bool c b
    | int i=>simp only[Rep] at h';subst h';obtain⟨t,rfl⟩:=r';exact EqAt.bool_int c i t
    | str x=>simp only[Rep] at h';subst h';obtain⟨t,rfl⟩:=r';exact EqAt.bool_str c x t
    | tup es=>simp only[Rep] at h';obtain⟨a,vs,rfl,h2,h3⟩:=h';cases (show u'=Value.ref a from r');obtain⟨its,_,p⟩:=isT I h2;exact EqAt.bool_tuple c p hu0
    | lst es=>simp only[Rep] at h';obtain⟨a,vs,rfl,h2,h3⟩:=h';cases (show u'=Value.ref a from r');obtain⟨its,_,p⟩:=isL I h2;exact EqAt.bool_list c p hu0
  | .int c, d', v, v', u, u', A, h, h', r, r', hu, z, z' => by
    simp only[Rep] at h;subst h;obtain⟨t0,rfl⟩:=r
    have hu0:A.units<cLine:=Nat.lt_of_le_of_lt (Nat.le_add_right _ _) hu
    cases d' with
    | exc _=>exact absurd z' (by simp[dep])
    | dic _ _=>exact absurd z' (by simp[dep])
    | non=>simp only[Rep] at h';subst h';cases (show u'=Value.none from r');exact EqAt.int_none c t0
    | bl b=>simp only[Rep] at h';subst h';cases (show u'=Value.bool b from r');exact EqAt.int_bool c t0 b
    | int i=>simp only[Rep] at h';subst h';obtain⟨t,rfl⟩:=r';exact EqAt.int_int c t0 i t
    | str x=>simp only[Rep] at h';subst h';obtain⟨t,rfl⟩:=r';exact EqAt.int_str c t0 x t
    | tup es=>simp only[Rep] at h';obtain⟨a,vs,rfl,h2,h3⟩:=h';cases (show u'=Value.ref a from r');obtain⟨its,_,p⟩:=isT I h2;exact EqAt.int_tuple c t0 p hu0
    | lst es=>simp only[Rep] at h';obtain⟨a,vs,rfl,h2,h3⟩:=h';cases (show u'=Value.ref a from r');obtain⟨its,_,p⟩:=isL I h2;exact EqAt.int_list c t0 p hu0
  | .str c, d', v, v', u, u', A, h, h', r, r', hu, z, z' => by
    simp only[Rep] at h;subst h;obtain⟨t0,rfl⟩:=r
    have hu0:A.units<cLine:=Nat.lt_of_le_of_lt (Nat.le_add_right _ _) hu
    cases d' with
    | exc _=>exact absurd z' (by simp[dep])
    | dic _ _=>exact absurd z' (by simp[dep])
    | non=>simp only[Rep] at h';subst h';cases (show u'=Value.none from r');exact EqAt.str_none c t0
    | bl b=>simp only[Rep] at h';subst h';cases (show u'=Value.bool b from r');exact EqAt.str_bool c t0 b
    | int i=>simp only[Rep] at h';subst h';obtain⟨t,rfl⟩:=r';exact EqAt.str_int c t0 i t
    | str x=>simp only[Rep] at h';subst h';obtain⟨t,rfl⟩:=r';exact EqAt.str_str c t0 x t
    | tup es=>simp only[Rep] at h';obtain⟨a,vs,rfl,h2,h3⟩:=h';cases (show u'=Value.ref a from r');obtain⟨its,_,p⟩:=isT I h2;exact EqAt.str_tuple c t0 p hu0
    | lst es=>simp only[Rep] at h';obtain⟨a,vs,rfl,h2,h3⟩:=h';cases (show u'=Value.ref a from r');obtain⟨its,_,p⟩:=isL I h2;exact EqAt.str_list c t0 p hu0
  | .tup ds, d', v, v', u, u', A, h, h', r, r', hu, z, z' => by
    have hh:=h
    simp only[Rep] at h;obtain⟨a,vs,rfl,h2,h3⟩:=h;cases (show u=Value.ref a from r);obtain⟨its,rv,p⟩:=isT I h2
    have hu0:A.units<cLine:=Nat.lt_of_le_of_lt (Nat.le_add_right _ _) hu
    have hu1:A.in1.units+deps ds<cLine:=by have:dep (.tup ds)=deps ds+1:=rfl;rw[f9];omega
    cases d' with
    | exc _=>exact absurd z' (by simp[dep])
    | dic _ _=>exact absurd z' (by simp[dep])
    | non=>simp only[Rep] at h';subst h';cases (show u'=Value.none from r');exact EqAt.tuple_none p hu0
    | bl b=>simp only[Rep] at h';subst h';cases (show u'=Value.bool b from r');exact EqAt.tuple_bool b p hu0
    | int i=>simp only[Rep] at h';subst h';obtain⟨t,rfl⟩:=r';exact EqAt.tuple_int i t p hu0
    | str x=>simp only[Rep] at h';subst h';obtain⟨t,rfl⟩:=r';exact EqAt.tuple_str x t p hu0
    | tup es =>
      have hh':=h'
      simp only[Rep] at h';obtain⟨b,us,rfl,h2',h3'⟩:=h';cases (show u'=Value.ref b from r');obtain⟨its',rv',p'⟩:=isT I h2'
      by_cases hab:a=b
      · subst hab
        have:=Rep.inj I _ _ _ z z' hh hh'
        rw[<- this,lR _ z]
        exact EqAt.same _
      · have q:=RcAt.tuples p p' hu0 (e:=eJ ds es) fun j g1 g2=>gK I ds es vs us its its' A.in1 h3 h3' rv rv' hu1 (by simp only[dep] at z;omega) (by simp only[dep] at z';omega) j _ _ (by simp at g1 ⊢) (by simp at g2 ⊢)
        have l1:=h3.length;have l2:=rv.length;have l3:=h3'.length;have l4:=rv'.length
        rw[List.size_toArray,List.size_toArray,<- l2,<- l1,<- l4,<- l3,v9] at q
        exact .of_refs hab q
    | lst es=>simp only[Rep] at h';obtain⟨a,vs,rfl,h2,h3⟩:=h';cases (show u'=Value.ref a from r');obtain⟨its,_,p'⟩:=isL I h2;exact EqAt.tuple_list p p' hu0
  | .lst ds, d', v, v', u, u', A, h, h', r, r', hu, z, z' => by
    have hh:=h
    simp only[Rep] at h;obtain⟨a,vs,rfl,h2,h3⟩:=h;cases (show u=Value.ref a from r);obtain⟨its,rv,p⟩:=isL I h2
    have hu0:A.units<cLine:=Nat.lt_of_le_of_lt (Nat.le_add_right _ _) hu
    have hu1:A.in1.units+deps ds<cLine:=by have:dep (.lst ds)=deps ds+1:=rfl;rw[f9];omega
    cases d' with
    | exc _=>exact absurd z' (by simp[dep])
    | dic _ _=>exact absurd z' (by simp[dep])
    | non=>simp only[Rep] at h';subst h';cases (show u'=Value.none from r');exact EqAt.list_none p hu0
    | bl b=>simp only[Rep] at h';subst h';cases (show u'=Value.bool b from r');exact EqAt.list_bool b p hu0
    | int i=>simp only[Rep] at h';subst h';obtain⟨t,rfl⟩:=r';exact EqAt.list_int i t p hu0
    | str x=>simp only[Rep] at h';subst h';obtain⟨t,rfl⟩:=r';exact EqAt.list_str x t p hu0
    | lst es =>
      have hh':=h'
      simp only[Rep] at h';obtain⟨b,us,rfl,h2',h3'⟩:=h';cases (show u'=Value.ref b from r');obtain⟨its',rv',p'⟩:=isL I h2'
      have l1:=h3.length;have l2:=rv.length;have l3:=h3'.length;have l4:=rv'.length
      by_cases hab:a=b
      · subst hab
        have:=Rep.inj I _ _ _ z z' hh hh'
        rw[<- this,lR _ z]
        exact EqAt.same _
      · by_cases hl:ds.length=es.length
        · have q:=RcAt.lists p p' (by simp;omega) hu0 (e:=eJ ds es) fun j g1 g2=>gK I ds es vs us its its' A.in1 h3 h3' rv rv' hu1 (by simp only[dep] at z;omega) (by simp only[dep] at z';omega) j _ _ (by simp at g1 ⊢) (by simp at g2 ⊢)
          rw[List.size_toArray,<- l2,<- l1,v8 _ _ hl] at q
          exact .of_refs hab q
        · have q:=RcAt.lists_lengths p p' (by simp;omega) hu0
          rw[show deq (.lst ds) (.lst es)=nH ds es from rfl,lQ hl]
          exact .of_refs hab q
    | tup es=>simp only[Rep] at h';obtain⟨a,vs,rfl,h2,h3⟩:=h';cases (show u'=Value.ref a from r');obtain⟨its,_,p'⟩:=isT I h2;exact EqAt.list_tuple p p' hu0
  | .exc c,d',v,v',u,u',A,h,h',r,r',hu,z,z'=>absurd z (by simp[dep])
  | .dic _ _,d',v,v',u,u',A,h,h',r,r',hu,z,z'=>absurd z (by simp[dep])
theorem gK(I:Inv X pins σ H s):∀ (ds es:List D) (vs us:List V) (its its':List Value) (A:Around),aO X.K H ds vs->aO X.K H es us->Vals vs its->Vals us its'->A.units+deps ds<cLine->deps ds<1000->deps es<1000 ->
    ∀ (j:Nat) (u u':Value),its[j]?=some u->its'[j]?=some u'->EqAt A s u u' (eJ ds es j)
  | [], es, vs, us, its, its', A, h, h', r, r', hu, z, z', j, u, u', e1, e2 => by
    simp only[aO] at h;subst h;cases r;simp at e1
  | d :: ds, es, vs, us, its, its', A, h, h', r, r', hu, z, z', j, u, u', e1, e2 => by
    simp only[aO] at h
    obtain⟨v,vr,rfl,h2,h3⟩:=h
    cases r with
    | cons r rr =>
      cases es with
      | nil=>simp only[aO] at h';subst h';cases r';simp at e2
      | cons e es =>
        simp only[aO] at h'
        obtain⟨v',vr',rfl,h2',h3'⟩:=h'
        cases r' with
        | cons r' rr' =>
          have hd:dep d<=deps (d::ds):=Nat.le_max_left _ _
          have hds:deps ds<=deps (d::ds):=Nat.le_max_right _ _
          cases j with
          | zero =>
            simp at e1 e2;subst e1 e2
            exact vZ I d e v v' _ _ A h2 h2' r r' (by omega) (by simp only[deps] at z;omega) (by simp only[deps] at z';omega)
          | succ j =>
            have q:=gK I ds es vr vr' _ _ A h3 h3' rr rr' (by omega) (by simp only[deps] at z;omega) (by simp only[deps] at z';omega) j u u' (by simpa using e1) (by simpa using e2)
            simpa[eJ] using q
end
theorem qY(I:Inv X pins σ H s){d d':D}{v v':V}{u u':Value}(A:Around)(h:Rep X.K H d v)(h':Rep X.K H d' v')(r:RelV v u)(r':RelV v' u')(hu:A.units+dep d<cLine)(z:dep d<1000)(z':dep d'<1000):RcAt A s u u' (deq d d')/\RcNeAt A s u u' (!deq d d'):=by
  have hu0:A.units<cLine:=Nat.lt_of_le_of_lt (Nat.le_add_right _ _) hu
  cases d with
  | exc _=>exact absurd z (by simp[dep])
  | dic _ _=>exact absurd z (by simp[dep])
  | non =>
    simp only[Rep] at h;subst h;cases (show u=Value.none from r)
    cases d' with
    | exc _=>exact absurd z' (by simp[dep])
    | dic _ _=>exact absurd z' (by simp[dep])
    | non=>simp only[Rep] at h';subst h';cases (show u'=Value.none from r');exact⟨RcAt.none_none,RcNeAt.none_none⟩
    | bl b=>simp only[Rep] at h';subst h';cases (show u'=Value.bool b from r');exact⟨RcAt.none_bool b,RcNeAt.none_bool b⟩
    | int i=>simp only[Rep] at h';subst h';obtain⟨t,rfl⟩:=r';exact⟨RcAt.none_int i t,RcNeAt.none_int i t⟩
    | str x=>simp only[Rep] at h';subst h';obtain⟨t,rfl⟩:=r';exact⟨RcAt.none_str x t,RcNeAt.none_str x t⟩
    | tup es=>simp only[Rep] at h';obtain⟨a,vs,rfl,h2,h3⟩:=h';cases (show u'=Value.ref a from r');obtain⟨its,_,p⟩:=isT I h2;exact⟨RcAt.none_tuple p hu0,RcNeAt.none_tuple p hu0⟩
    | lst es=>simp only[Rep] at h';obtain⟨a,vs,rfl,h2,h3⟩:=h';cases (show u'=Value.ref a from r');obtain⟨its,_,p⟩:=isL I h2;exact⟨RcAt.none_list p hu0,RcNeAt.none_list p hu0⟩
  | bl c =>
    simp only[Rep] at h;subst h;cases (show u=Value.bool c from r)
    cases d' with
    | exc _=>exact absurd z' (by simp[dep])
    | dic _ _=>exact absurd z' (by simp[dep])
    | non=>simp only[Rep] at h';subst h';cases (show u'=Value.none from r');exact⟨RcAt.bool_none c,RcNeAt.bool_none c⟩
    | bl b=>simp only[Rep] at h';subst h';cases (show u'=Value.bool b from r');exact⟨RcAt.bool_bool c b,RcNeAt.bool_bool c b⟩
    | int i=>simp only[Rep] at h';subst h';obtain⟨t,rfl⟩:=r';exact⟨RcAt.bool_int c i t,RcNeAt.bool_int c i t⟩
    | str x=>simp only[Rep] at h';subst h';obtain⟨t,rfl⟩:=r';exact⟨RcAt.bool_str c x t,RcNeAt.bool_str c x t⟩
    | tup es=>simp only[Rep] at h';obtain⟨a,vs,rfl,h2,h3⟩:=h';cases (show u'=Value.ref a from r');obtain⟨its,_,p⟩:=isT I h2;exact⟨RcAt.bool_tuple c p hu0,RcNeAt.bool_tuple c p hu0⟩
    | lst es=>simp only[Rep] at h';obtain⟨a,vs,rfl,h2,h3⟩:=h';cases (show u'=Value.ref a from r');obtain⟨its,_,p⟩:=isL I h2;exact⟨RcAt.bool_list c p hu0,RcNeAt.bool_list c p hu0⟩
  | int c =>
    simp only[Rep] at h;subst h;obtain⟨t0,rfl⟩:=r
    cases d' with
    | exc _=>exact absurd z' (by simp[dep])
    | dic _ _=>exact absurd z' (by simp[dep])
    | non=>simp only[Rep] at h';subst h';cases (show u'=Value.none from r');exact⟨RcAt.int_none c t0,RcNeAt.int_none c t0⟩
    | bl b=>simp only[Rep] at h';subst h';cases (show u'=Value.bool b from r');exact⟨RcAt.int_bool c t0 b,RcNeAt.int_bool c t0 b⟩
    | int i=>simp only[Rep] at h';subst h';obtain⟨t,rfl⟩:=r';exact⟨RcAt.int_int c t0 i t,RcNeAt.int_int c t0 i t⟩
    | str x=>simp only[Rep] at h';subst h';obtain⟨t,rfl⟩:=r';exact⟨RcAt.int_str c t0 x t,RcNeAt.int_str c t0 x t⟩
    | tup es=>simp only[Rep] at h';obtain⟨a,vs,rfl,h2,h3⟩:=h';cases (show u'=Value.ref a from r');obtain⟨its,_,p⟩:=isT I h2;exact⟨RcAt.int_tuple c t0 p hu0,RcNeAt.int_tuple c t0 p hu0⟩
    | lst es=>simp only[Rep] at h';obtain⟨a,vs,rfl,h2,h3⟩:=h';cases (show u'=Value.ref a from r');obtain⟨its,_,p⟩:=isL I h2;exact⟨RcAt.int_list c t0 p hu0,RcNeAt.int_list c t0 p hu0⟩
  | str c =>
    simp only[Rep] at h;subst h;obtain⟨t0,rfl⟩:=r
    cases d' with
    | exc _=>exact absurd z' (by simp[dep])
    | dic _ _=>exact absurd z' (by simp[dep])
    | non=>simp only[Rep] at h';subst h';cases (show u'=Value.none from r');exact⟨RcAt.str_none c t0,RcNeAt.str_none c t0⟩
    | bl b=>simp only[Rep] at h';subst h';cases (show u'=Value.bool b from r');exact⟨RcAt.str_bool c t0 b,RcNeAt.str_bool c t0 b⟩
    | int i=>simp only[Rep] at h';subst h';obtain⟨t,rfl⟩:=r';exact⟨RcAt.str_int c t0 i t,RcNeAt.str_int c t0 i t⟩
    | str x=>simp only[Rep] at h';subst h';obtain⟨t,rfl⟩:=r';exact⟨RcAt.str_str c t0 x t,RcNeAt.str_str c t0 x t⟩
    | tup es=>simp only[Rep] at h';obtain⟨a,vs,rfl,h2,h3⟩:=h';cases (show u'=Value.ref a from r');obtain⟨its,_,p⟩:=isT I h2;exact⟨RcAt.str_tuple c t0 p hu0,RcNeAt.str_tuple c t0 p hu0⟩
    | lst es=>simp only[Rep] at h';obtain⟨a,vs,rfl,h2,h3⟩:=h';cases (show u'=Value.ref a from r');obtain⟨its,_,p⟩:=isL I h2;exact⟨RcAt.str_list c t0 p hu0,RcNeAt.str_list c t0 p hu0⟩
  | tup ds =>
    simp only[Rep] at h;obtain⟨a,vs,rfl,h2,h3⟩:=h;cases (show u=Value.ref a from r);obtain⟨its,rv,p⟩:=isT I h2
    have hu1:A.in1.units+deps ds<cLine:=by have:dep (.tup ds)=deps ds+1:=rfl;rw[f9];omega
    cases d' with
    | exc _=>exact absurd z' (by simp[dep])
    | dic _ _=>exact absurd z' (by simp[dep])
    | non=>simp only[Rep] at h';subst h';cases (show u'=Value.none from r');exact⟨RcAt.tuple_none p hu0,RcNeAt.tuple_none p hu0⟩
    | bl b=>simp only[Rep] at h';subst h';cases (show u'=Value.bool b from r');exact⟨RcAt.tuple_bool b p hu0,RcNeAt.tuple_bool b p hu0⟩
    | int i=>simp only[Rep] at h';subst h';obtain⟨t,rfl⟩:=r';exact⟨RcAt.tuple_int i t p hu0,RcNeAt.tuple_int i t p hu0⟩
    | str x=>simp only[Rep] at h';subst h';obtain⟨t,rfl⟩:=r';exact⟨RcAt.tuple_str x t p hu0,RcNeAt.tuple_str x t p hu0⟩
    | tup es =>
      simp only[Rep] at h';obtain⟨b,us,rfl,h2',h3'⟩:=h';cases (show u'=Value.ref b from r');obtain⟨its',rv',p'⟩:=isT I h2'
      have l1:=h3.length;have l2:=rv.length;have l3:=h3'.length;have l4:=rv'.length
      have he:∀ j (g1:j<its.toArray.size) (g2:j<its'.toArray.size),EqAt A.in1 s its.toArray[j] its'.toArray[j] (eJ ds es j):=fun j g1 g2=>gK I ds es vs us its its' A.in1 h3 h3' rv rv' hu1 (by simp only[dep] at z;omega) (by simp only[dep] at z';omega) j _ _ (by simp at g1 ⊢) (by simp at g2 ⊢)
      have q:=RcAt.tuples p p' hu0 he
      have q':=RcNeAt.tuples p p' hu0 he
      rw[List.size_toArray,List.size_toArray,<- l2,<- l1,<- l4,<- l3,v9] at q q'
      exact⟨q,q'⟩
    | lst es=>simp only[Rep] at h';obtain⟨a,vs,rfl,h2,h3⟩:=h';cases (show u'=Value.ref a from r');obtain⟨its,_,p'⟩:=isL I h2;exact⟨RcAt.tuple_list p p' hu0,RcNeAt.tuple_list p p' hu0⟩
  | lst ds =>
    simp only[Rep] at h;obtain⟨a,vs,rfl,h2,h3⟩:=h;cases (show u=Value.ref a from r);obtain⟨its,rv,p⟩:=isL I h2
    have hu1:A.in1.units+deps ds<cLine:=by have:dep (.lst ds)=deps ds+1:=rfl;rw[f9];omega
    cases d' with
    | exc _=>exact absurd z' (by simp[dep])
    | dic _ _=>exact absurd z' (by simp[dep])
    | non=>simp only[Rep] at h';subst h';cases (show u'=Value.none from r');exact⟨RcAt.list_none p hu0,RcNeAt.list_none p hu0⟩
    | bl b=>simp only[Rep] at h';subst h';cases (show u'=Value.bool b from r');exact⟨RcAt.list_bool b p hu0,RcNeAt.list_bool b p hu0⟩
    | int i=>simp only[Rep] at h';subst h';obtain⟨t,rfl⟩:=r';exact⟨RcAt.list_int i t p hu0,RcNeAt.list_int i t p hu0⟩
    | str x=>simp only[Rep] at h';subst h';obtain⟨t,rfl⟩:=r';exact⟨RcAt.list_str x t p hu0,RcNeAt.list_str x t p hu0⟩
    | lst es =>
      simp only[Rep] at h';obtain⟨b,us,rfl,h2',h3'⟩:=h';cases (show u'=Value.ref b from r');obtain⟨its',rv',p'⟩:=isL I h2'
      have l1:=h3.length;have l2:=rv.length;have l3:=h3'.length;have l4:=rv'.length
      by_cases hl:ds.length=es.length
      · have he:∀ j (g1:j<its.toArray.size) (g2:j<its'.toArray.size),EqAt A.in1 s its.toArray[j] its'.toArray[j] (eJ ds es j):=fun j g1 g2=>gK I ds es vs us its its' A.in1 h3 h3' rv rv' hu1 (by simp only[dep] at z;omega) (by simp only[dep] at z';omega) j _ _ (by simp at g1 ⊢) (by simp at g2 ⊢)
        have q:=RcAt.lists p p' (by simp;omega) hu0 he
        have q':=RcNeAt.lists p p' (by simp;omega) hu0 he
        rw[List.size_toArray,<- l2,<- l1,v8 _ _ hl] at q q'
        exact⟨q,q'⟩
      · rw[show deq (.lst ds) (.lst es)=nH ds es from rfl,lQ hl]
        exact⟨RcAt.lists_lengths p p' (by simp;omega) hu0,RcNeAt.lists_lengths p p' (by simp;omega) hu0⟩
    | tup es=>simp only[Rep] at h';obtain⟨a,vs,rfl,h2,h3⟩:=h';cases (show u'=Value.ref a from r');obtain⟨its,_,p'⟩:=isT I h2;exact⟨RcAt.list_tuple p p' hu0,RcNeAt.list_tuple p p' hu0⟩
end
end L2
namespace L2
open PySem PySem.Spec PyProof.Rows DE PySem.SeqAt
def j8(X:Cx)(e:Expr):TE:=fun σ H Q=>∀ pins s,Inv X pins σ H s->wpAny (model X.prog X.w) X.A (eval e X.env) (EP X pins σ Q) X.xe s
def xY(X:Cx)(e:Expr):TT:=fun σ H Q=>∀ pins s,Inv X pins σ H s->wpAny (model X.prog X.w) X.A (isTrue e X.env (eval e X.env)) (TP X pins σ Q) X.xe s
def rR(X:Cx)(es:List Expr):TA:=fun σ H Q=>∀ pos pins s,Inv X pins σ H s->wpAny (model X.prog X.w) X.A (spliced (backTo pos (starEach es X.env))) (AP X pins σ Q) X.xe s
def ou(X:Cx)(tg iter:Expr):TI:=fun σ H R=>∀ pins s,Inv X pins σ H s->wpAny (model X.prog X.w) X.A (eval iter X.env) (fun v s1=>wpAny (model X.prog X.w) X.A (pyIter v) (PIE X pins σ tg R) X.xe s1) X.xe s
section
variable {X:Cx} {e:Expr}
theorem ao:PE X e (j8 X e):=fun pins s σ H Q I h=>h pins s I
theorem dJ:PT X e (xY X e):=fun pins s σ H Q I h=>h pins s I
theorem bW{es:List Expr}:PA X es (rR X es):=fun pos pins s σ H Q I h=>h pos pins s I
theorem iD{tg iter:Expr}:PI X tg iter (ou X tg iter):=fun pins s σ H R I h=>h pins s I
theorem PE.sem{t:TE}{σ:St}{H:Hp}{Q:VK}(h:PE X e t)(q:t σ H Q):j8 X e σ H Q:=fun pins s I=>h pins s σ H Q I q
theorem PT.sem{t:TT}{σ:St}{H:Hp}{Q:Bool->Hp->Prop}(h:PT X e t)(q:t σ H Q):xY X e σ H Q:=fun pins s I=>h pins s σ H Q I q
theorem PA.sem{es:List Expr}{t:TA}{σ:St}{H:Hp}{Q:List V->Hp->Prop}(h:PA X es t)(q:t σ H Q):rR X es σ H Q:=fun pos pins s I=>h pos pins s σ H Q I q
theorem PI.sem{tg iter:Expr}{t:TI}{σ:St}{H:Hp}{R:It->Hp->Prop}(h:PI X tg iter t)(q:t σ H R):ou X tg iter σ H R:=fun pins s I=>h pins s σ H R I q
end
def bV(K:PySem.W.Frag)(Hs:Hp)(ρ:Rho)(σ:St):Prop:=∀ (i:Nat) (x:Str) (d:D),ρ[i]?=some (x,.sh d)->∃ v,σ[i]?=some (some v)/\Rep K Hs d v
theorem bV.same{K:PySem.W.Frag}{Hs Hs':Hp}{ρ:Rho}{σ:St}(h:bV K Hs ρ σ)(e:Same Hs Hs'):bV K Hs' ρ σ:=fun i x d q=>by
 obtain⟨v,e1,e2⟩:=h i x d q
 exact⟨v,e1,Rep.same e d v e2⟩
def Ks(K:PySem.W.Frag)(J:It)(Hs0:Hp)(ds:List D):Prop:=∀ Hs H,Same Hs0 Hs->Same Hs H->J.stop ds.length H/\∀ (i:Nat) (d:D),ds[i]?=some d->J.go i H/\∀ x H',J.yld i H x H'->∃ Hs',Ext Hs H Hs' H'/\Rep K Hs' d x
def Ev(X:Cx)(ρ:Rho)(e:Expr)(d:D):Prop:=∀ σ H Hs Q,Same Hs H->bV X.K Hs ρ σ->(∀ v H' Hs',Ext Hs H Hs' H'->Rep X.K Hs' d v->Q v H')->j8 X e σ H Q
def EvT(X:Cx)(ρ:Rho)(e:Expr)(b:Bool):Prop:=∀ σ H Hs Q,Same Hs H->bV X.K Hs ρ σ->(∀ H' Hs',Ext Hs H Hs' H'->Q b H')->xY X e σ H Q
def EvA(X:Cx)(ρ:Rho)(es:List Expr)(ds:List D):Prop:=∀ σ H Hs Q,Same Hs H->bV X.K Hs ρ σ->(∀ vs H' Hs',Ext Hs H Hs' H'->aO X.K Hs' ds vs->Q vs H')->rR X es σ H Q
def EvI(X:Cx)(ρ:Rho)(tg iter:Expr)(ds:List D):Prop:=∀ σ H Hs R,Same Hs H->bV X.K Hs ρ σ->(∀ J H' Hs',Ext Hs H Hs' H'->Ks X.K J Hs' ds->R J H')->ou X tg iter σ H R
def spX(K:PySem.W.Frag)(call:Str->List D->Option D)(callx:Str->List D->Option Str)(f:Str)(ps:List Str):Sp:=fun vs H Q E=>vs.length=ps.length/\∃ Hs ds,Same Hs H/\aO K Hs ds vs /\
 ((∃ d,call f ds=some d/\∀ v H' Hs',Ext Hs H Hs' H'->Rep K Hs' d v->Q v H')\/(∃ c,callx f ds=some c/\∀ C H' Hs',PySem.W.nsIn K mainGlobals c=some (some (.ref C))->Ext Hs H Hs' H'->E (.ref C) none H'))
def z7(K:PySem.W.Frag)(exs:List Str)(top:Str):Bool:=match PySem.W.nsIn K mainGlobals top with
  | some (some (.ref M)) => exs.all fun c => match PySem.W.nsIn K mainGlobals c with
    | some (some (.ref C)) => xIn K C M && j6 K C && PySem.W.exmOne K (.ref C) (.ref M) == some true && PySem.W.kitOne K (.ref C) (.ref M) == some true && PySem.W.kitOne K (.ref C) (.type "ValueError") == some true &&
      exs.all fun c'=>match PySem.W.nsIn K mainGlobals c' with
        | some (some (.ref C'))=>PySem.W.kitOne K (.ref C) (.ref C')==some (c==c')
        | _=>false
    | _=>false
  | _=>exs.isEmpty
structure XText (K:PySem.W.Frag) (mg:Str->Option Value) (exs:List Str) (top:Str):Prop where
 glob:∀ x v,PySem.W.nsIn K mainGlobals x=some (some v)->mg x=some v
 cls:∀ c,exs.contains c=true->∃ C M,PySem.W.nsIn K mainGlobals c=some (some (.ref C))/\PySem.W.nsIn K mainGlobals top=some (some (.ref M))/\xIn K C M=true/\j6 K C=true/\PySem.W.exmOne K (.ref C) (.ref M)=some true/\PySem.W.kitOne K (.ref C) (.ref M)=some true/\PySem.W.kitOne K (.ref C) (.type "ValueError")=some true
 sub:∀ c c',exs.contains c=true->exs.contains c'=true->∃ C C',PySem.W.nsIn K mainGlobals c=some (some (.ref C))/\PySem.W.nsIn K mainGlobals c'=some (some (.ref C'))/\PySem.W.kitOne K (.ref C) (.ref C')=some (c==c')
theorem XText.of{K:PySem.W.Frag}{mg:Str->Option Value}{exs:List Str}{top:Str}(hg:∀ x v,PySem.W.nsIn K mainGlobals x=some (some v)->mg x=some v)(h:z7 K exs top=true):XText K mg exs top:=by
 unfold z7 at h
 split at h
 ·rename_i M hM
  have all:=fun c (hc:exs.contains c=true)=>List.all_eq_true.mp h c (by simpa using hc)
  refine⟨hg,fun c hc=>?_,fun c c' hc hc'=>?_⟩
  ·have q:=all c hc
   split at q
   ·rename_i C hC
    simp only[Bool.and_eq_true,beq_iff_eq] at q
    exact⟨C,M,hC,hM,q.1.1.1.1.1,q.1.1.1.1.2,q.1.1.1.2,q.1.1.2,q.1.2⟩
   ·cases q
  ·have q:=all c hc
   split at q
   ·rename_i C hC
    simp only[Bool.and_eq_true] at q
    have q2:=List.all_eq_true.mp q.2 c' (by simpa using hc')
    split at q2
    ·rename_i C' hC'
     exact⟨C,C',hC,hC',by simpa using q2⟩
    ·cases q2
   ·cases q
 ·have e:exs=[]:=by simpa using h
  subst e
  exact⟨hg,fun c hc=>absurd hc (by simp),fun c c' hc=>absurd hc (by simp)⟩
structure Good (cx:Cxt) (k:Nat) (X:Cx) (sc:Scope):Prop where
 calm:X.calm=true
 room:Room k X.A
 sce:X.env.scope=sc
 kind:sc.kind=.function
 nd:X.N.Nodup
 cst:∀ x d,cx.cst.lookup x=some d->∃ v u,(∀ H,Rep X.K H d v)/\X.mg x=some u/\RelV v u
 blt:∀ x b,cx.blt.lookup x=some b->X.mg x=none/\x=Str.ofString b
 exs:XText X.K X.mg cx.exs cx.top
 fns:∀ f,cx.fns.contains f=true->(f==("__debug__":Str))=false/\∃ a fd ps,(∀ ds d,cx.call f ds=some d->ds.length=ps.length)/\(∀ ds c,cx.callx f ds=some c->ds.length=ps.length)/\X.mg f=some (.ref a)/\PySem.W.keepIn X.K (.ref a)=true/\Binds X.K fd ps []/\FnOk X.prog X.w X.K X.mg X.base (CX1 X.prog X.w) k a fd ps (spX X.K cx.call cx.callx f ps)
section
variable {X:Cx} {ρ:Rho} {cx:Cxt} {k:Nat} {sc:Scope}
theorem bQ:∀ {ρ:Rho} {x:Str} {s:Sl},ρ.lookup x=some s->∃ i:Nat,ρ[i]?=some (x,s)/\(ρ.map (·.1)).idxOf? x=some i
  | (y, t) :: r, x, s, h => by
    rw[List.lookup_cons] at h
    cases hb:x==y with
    | true =>
      rw[hb] at h
      cases h
      have:x=y:=by simpa using hb
      subst this
      exact⟨0,rfl,by simp[List.idxOf?,List.findIdx?_cons]⟩
    | false =>
      rw[hb] at h
      obtain⟨i,h1,h2⟩:=bQ h
      refine⟨i+1,by simpa using h1,?_⟩
      have hy:(y==x)=false:=by
        rw[beq_eq_false_iff_ne] at hb ⊢
        exact fun e=>hb e.symm
      simp only[List.map_cons,List.idxOf?,List.findIdx?_cons,hy,Bool.false_eq_true,if_false]
      simp only[List.idxOf?] at h2
      rw[h2];rfl
theorem Fx{x:Str}{d:D}{pos:Pos}(hN:X.N=ρ.map (·.1))(hv:Vis X.env.scope x)(hp:aA x=true)(h:ρ.lookup x=some (.sh d)):Ev X ρ (.Name x pos) d:=by
 intro σ H Hs Q hs hr hq
 obtain⟨i,h1,_⟩:=bQ h
 obtain⟨v,e1,e2⟩:=hr i x d h1
 unfold aA at hp
 rw[Bool.and_eq_true,bne_iff_ne,bne_iff_ne] at hp
 refine PE.sem (gq (i:=i) (by rw[hN,List.getElem?_map,h1];rfl) hv (by simpa using hp.1) (by simpa using hp.2)) ⟨v,e1,hq v H Hs (.refl hs) e2⟩
theorem Ka{x:Str}{d:D}{v:V}{u:Value}{pos:Pos}(hg:Gl X x)(hd:∀ H,Rep X.K H d v)(hm:X.mg x=some u)(r:RelV v u)(hp:aA x=true):Ev X ρ (.Name x pos) d:=by
 intro σ H Hs Q hs hr hq
 unfold aA at hp
 rw[Bool.and_eq_true,bne_iff_ne,bne_iff_ne] at hp
 exact PE.sem (lA hg hm r (by simpa using hp.1)) (hq _ H Hs (.refl hs) (hd Hs))
theorem zG{c:Const}{d:D}{j:Nat}{pos:Pos}(h:(match c with | .none=>some D.non | .bool b=>some (.bl b) | .int i=>some (.int i) | .str x=>some (.str x) | _=>none)=some d):Ev X ρ (.Constant c j pos) d:=by
 intro σ H Hs Q hs hr hq
 cases c<;>simp at h<;>subst h
 ·exact PE.sem Jg (hq _ H Hs (.refl hs) (by simp[Rep]))
 ·exact PE.sem Mr (hq _ H Hs (.refl hs) (by simp[Rep]))
 ·exact PE.sem Jh (hq _ H Hs (.refl hs) (by simp[Rep]))
 ·exact PE.sem Aq (hq _ H Hs (.refl hs) (by simp[Rep]))
theorem dN{a b:Expr}{x y d:D}{r:R2}{e:Expr}(ha:Ev X ρ a x)(hb:Ev X ρ b y)(hp:PE X e (tOp r (j8 X a) (j8 X b)))
  (hr:∀ u v H Hs Q,Same Hs H->Rep X.K Hs x u->Rep X.K Hs y v->(∀ w H' Hs',Ext Hs H Hs' H'->Rep X.K Hs' d w->Q w H')->r u v H Q):Ev X ρ e d:=by
 intro σ H Hs Q hs hst hq
 refine hp.sem (ha σ H Hs _ hs hst fun u H1 Hs1 E1 r1=>hb σ H1 Hs1 _ E1.sub (hst.same E1.vis) fun v H2 Hs2 E2 r2=>?_)
 exact hr u v H2 Hs2 Q E2.sub (Rep.same E2.vis x u r1) r2 fun w H' Hs' E3 r3=>hq w H' Hs' (E1.trans (E2.trans E3)) r3
theorem qe{i:Int}(h:small i=true):-(2^64)<i/\i<2^64:=by
 unfold small at h
 rw[Bool.and_eq_true,decide_eq_true_eq,decide_eq_true_eq] at h
 exact h
theorem eY{n:Nat}(h:szl n=true):n<=sizeLine:=by
 unfold szl at h
 rw[decide_eq_true_eq] at h
 exact Nat.le_trans h (by rw[sizeLine_eq];decide)
theorem pW{n:Nat}(h:szl n=true):n<sizeLine:=by
 unfold szl at h
 rw[decide_eq_true_eq] at h
 exact Nat.lt_of_le_of_lt h (by rw[sizeLine_eq];decide)
theorem aF{K:PySem.W.Frag}{H:Hp}{i:Int}{v:V}(h:Rep K H (.int i) v):v=.int i:=by simpa[Rep] using h
theorem cW{K:PySem.W.Frag}{H:Hp}{i:Bool}{v:V}(h:Rep K H (.bl i) v):v=.bl i:=by simpa[Rep] using h
theorem bw{K:PySem.W.Frag}{H:Hp}{ds:List D}{v:V}(h:Rep K H (.tup ds) v):∃ a vs,v=.ref a/\SqT K H a vs/\aO K H ds vs:=by simpa[Rep] using h
theorem bG{K:PySem.W.Frag}{H:Hp}{ds:List D}{v:V}(h:Rep K H (.lst ds) v):∃ a vs,v=.ref a/\SqL K H a vs/\aO K H ds vs:=by simpa[Rep] using h
theorem iu{Hs H:Hp}{ds:List D}{vs:List V}{p:Addr}{Q:VK}(hs:Same Hs H)(hr:aO X.K Hs ds vs)(hp:H p=none)(hq:∀ w H' Hs',Ext Hs H Hs' H'->Rep X.K Hs' (.tup ds) w->Q w H'):Q (.ref p) (upd H p (.tup vs)) :=
 hq _ _ _ (Ext.new hs (.tup vs) hp) (by simp only[Rep];exact⟨p,vs,rfl,.of aU,aO.same (Ext.new hs (.tup vs) hp).vis ds vs hr⟩)
theorem fj{Hs H:Hp}{ds:List D}{vs:List V}{p:Addr}{Q:VK}(hs:Same Hs H)(hr:aO X.K Hs ds vs)(hp:H p=none)(hq:∀ w H' Hs',Ext Hs H Hs' H'->Rep X.K Hs' (.lst ds) w->Q w H'):Q (.ref p) (upd H p (.lst vs)) :=
 hq _ _ _ (Ext.new hs (.lst vs) hp) (by simp only[Rep];exact⟨p,vs,rfl,.of aU,aO.same (Ext.new hs (.lst vs) hp).vis ds vs hr⟩)
def Ml(K:PySem.W.Frag):R2:=fun x y H Q=>∃ a b xs ys,x=.ref a/\y=.ref b/\SqT K H a xs/\SqT K H b ys/\xs.length+ys.length<=sizeLine /\
 (xs=[]->Q (.ref b) H)/\(xs≠[]->ys=[]->Q (.ref a) H)/\(xs≠[]->ys≠[]->∀ p,H p=none->Q (.ref p) (upd H p (.tup (xs++ys))))
theorem DR:OpR X (binaryOp .Add) (Ml X.K):=by
 intro pins s σ H x y v u Q I rx ry h
 obtain⟨a,b,xs,ys,rfl,rfl,ha,hb,hz,q0,q1,q2⟩:=h
 by_cases hx:xs=[]
 ·subst hx
  cases (show v=Value.ref a from rx)
  cases (show u=Value.ref b from ry)
  obtain⟨its,r1,p1,_⟩:=I.tuple ha
  obtain⟨its2,r2,p2,_⟩:=I.tuple hb
  have e0:its=[]:=r1.nil_iff.mpr rfl
  subst e0
  obtain⟨⟨c,dd,data,sl⟩,ho,hc,n,hd⟩:=id p1
  obtain⟨⟨c2,dd2,data2,sl2⟩,ho2,hc2,n2,hd2⟩:=id p2
  simp only at hc hd hc2 hd2
  subst hc hd hc2 hd2
  exact concat_meets ⟨_,ho,rfl⟩ ⟨_,ho2,rfl⟩ noFill_tuple_add seq_tuple_add PySem.F.slot_tuple_add PySem.F.entry_tuple_add (PySem.F.args_tuple_add_2 _ _) (tuple_addW0 a b _ its2.toArray n n2 dd dd2 sl sl2 rfl) ⟨ho,ho2,.ref b,H,I,rfl,q0 rfl⟩
 ·exact DP pins s σ H (.ref a) (.ref b) v u Q I rx ry ⟨a,b,xs,ys,rfl,rfl,ha,hb,hx,hz,q1 hx,q2 hx⟩
def LQ(K:PySem.W.Frag):R2:=fun x y H Q=>∃ a v k,x=.ref a/\y=.int k/\SqT K H a [v]/\0<=k/\k<=4/\(k=1->Q (.ref a) H)/\(k≠1->∀ p,H p=none->Q (.ref p) (upd H p (.tup (List.replicate k.toNat v))))
theorem Dw:OpR X (binaryOp .Mult) (LQ X.K):=by
 intro pins s σ H x y v u Q I rx ry h
 obtain⟨a,w,k,rfl,rfl,ha,k1,k4,q1,q2⟩:=h
 cases (show v=Value.ref a from rx)
 obtain⟨t,e⟩:=(show ∃ t,u=Value.int k t from ry)
 subst e
 obtain⟨its,r1,p1,_⟩:=I.tuple ha
 obtain⟨u0,rfl,ru⟩:=vals1 r1
 obtain⟨⟨c,dd,data,sl⟩,ho,hc,n,hd⟩:=id p1
 simp only at hc hd
 subst hc hd
 have new:∀ (vs:List V) (us:List Value),Vals vs us->vs.length<=4->(∀ p,H p=none->Q (.ref p) (upd H p (.tup vs)))->EP X pins σ Q (Value.ref s.heap.objs.size) { s with heap:=s.heap.push { cls:=Value.type "tuple",data:=Data.seq us.toArray },toks:=s.toks }:=fun vs us r hl q =>
  ⟨.ref s.heap.objs.size,_,I.laid (t':=s.toks) (o:=.tup vs) (fun b ob q=>Heap.get?_push_of_some _ q) (Nat.le_refl _) ⟨Nat.le_trans hl (by decide),us,r,IsTup.new _ _⟩,rfl,q _ (I.hok.fresh (Nat.le_refl _))⟩
 refine wpAny_binaryOp_repeat_ref (T:="tuple") (U:="int") (by decide) ⟨_,ho,rfl⟩ (fun s'=>typeIs_int s' k t) iK PySem.F.fills_int_mul PySem.F.slot_int_rmul mU PySem.F.slot_int_index.lookup
  (call_meets PySem.F.slot_int_rmul (typeIs_int s k t) PySem.F.entry_int_rmul (PySem.F.args_int_rmul_2 _ _) (jL k t a _ n dd sl) ⟨ho,rfl,⟨_,ho,rfl⟩,?_⟩)
 have hk:k=0\/k=1\/k=2\/k=3\/k=4:=by omega
 rcases hk with rfl | rfl | rfl | rfl | rfl
 ·exact call_meets PySem.F.slot_tuple_mul ⟨_,ho,rfl⟩ PySem.F.entry_tuple_mul (PySem.F.args_tuple_mul_2 _ _) (rP a u0 n dd sl t) ⟨ho,new [] [] .nil (by simp) (q2 (by decide))⟩
 ·exact call_meets PySem.F.slot_tuple_mul ⟨_,ho,rfl⟩ PySem.F.entry_tuple_mul (PySem.F.args_tuple_mul_2 _ _) (rO a _ n dd sl t) ⟨ho,.ref a,H,I,rfl,q1 rfl⟩
 ·exact call_meets PySem.F.slot_tuple_mul ⟨_,ho,rfl⟩ PySem.F.entry_tuple_mul (PySem.F.args_tuple_mul_2 _ _) (rN a u0 n dd sl t) ⟨ho,new [w,w] [u0,u0] (.cons ru (.cons ru .nil)) (by simp) (q2 (by decide))⟩
 ·exact call_meets PySem.F.slot_tuple_mul ⟨_,ho,rfl⟩ PySem.F.entry_tuple_mul (PySem.F.args_tuple_mul_2 _ _) (rM a u0 n dd sl t) ⟨ho,new [w,w,w] [u0,u0,u0] (.cons ru (.cons ru (.cons ru .nil))) (by simp) (q2 (by decide))⟩
 ·exact call_meets PySem.F.slot_tuple_mul ⟨_,ho,rfl⟩ PySem.F.entry_tuple_mul (PySem.F.args_tuple_mul_2 _ _) (rK a u0 n dd sl t) ⟨ho,new [w,w,w,w] [u0,u0,u0,u0] (.cons ru (.cons ru (.cons ru (.cons ru .nil)))) (by simp) (q2 (by decide))⟩
theorem qm{K:PySem.W.Frag}{H:Hp}{d:D}{v:V}(h:Rep K H d v):∀ n:Nat,aO K H (List.replicate n d) (List.replicate n v)
 | 0=>.nil
 | n+1=>.cons h (qm h n)
theorem aO.rep{K:PySem.W.Frag}{H:Hp}{ds:List D}{vs:List V}(h:aO K H ds vs):∀ n:Nat,aO K H (List.replicate n ds).flatten (List.replicate n vs).flatten
  | 0=>by simp[aO]
  | n + 1 => by
    simp only[List.replicate_succ,List.flatten_cons]
    exact h.append (h.rep n)
theorem Fw{a b:Expr}{xs:List D}{j:Int}{d:D}{pos:Pos}(ha:Ev X ρ a (.tup xs))(hb:Ev X ρ b (.int j))(h:Io xs j=some d):Ev X ρ (.BinOp a .Mult b pos) d:=by
  match xs,ha,h with
  | [],_,h=>exact absurd h (by simp[Io])
  | _::_::_,_,h=>exact absurd h (by simp[Io])
  | [x], ha, h =>
    simp only[Io] at h
    split at h
    · rename_i hz
      rw[Bool.and_eq_true,decide_eq_true_eq,decide_eq_true_eq] at hz
      cases h
      refine dN ha hb (ig Dw ao ao) fun u v H Hs Q hs r1 r2 hq=>?_
      obtain⟨p,us,rfl,h1,h2⟩:=bw r1
      simp only[aO] at h2
      obtain⟨w,r,rfl,hw,hr⟩:=h2
      subst hr
      refine⟨p,w,j,rfl,aF r2,hs.tup h1,hz.1,hz.2,fun e=>?_,fun _ l hl=>iu hs (qm hw _) hl hq⟩
      subst e
      exact hq _ H Hs (.refl hs) r1
    · cases h
def Kv(i j:Int):Prop:=SQ i j\/(i.natAbs.log2<10000/\j.natAbs.log2<10000)
theorem Bc{i:Int}(h:mid i=true):i.natAbs.log2<10000:=by unfold mid at h;simpa using h
theorem rm{i:Int}(h:i.natAbs.log2<10000):Builtin.Int.intBits i<=2^20:=by
 unfold Builtin.Int.intBits
 split<;>omega
theorem DG:OpR X (binaryOp .Mult) (rI Kv fun i j=>.int (i*j)):=opI fun _ _ _ _ _ _ _ hc q=>mul_int q (hc.elim (fun z=>z.ok) fun z=>.of_bits (rm z.1) (rm z.2))
def SX(i j:Int):Prop:=j≠0/\j.natAbs.log2<9000
theorem yH:OpR X (binaryOp .FloorDiv) (rI SX fun i j=>.int (i.fdiv j)):=opI fun _ _ _ _ _ _ _ hc q=>floordiv_int hc.1 q (.inl (PyProof.noPylong_of_log2 hc.2))
theorem zK{a b:Expr}{op:Operator}{x y d:D}{pos:Pos}(ha:Ev X ρ a x)(hb:Ev X ρ b y)(h:binop op x y=some d):Ev X ρ (.BinOp a op b pos) d:=by
 unfold binop at h
 split at h
 ·cases h
  exact dN ha hb (ig Aw ao ao) fun u v H Hs Q hs r1 r2 hq=>⟨_,_,aF r1,aF r2,hq _ H Hs (.refl hs) (by simp[Rep])⟩
 ·split at h
  ·rename_i hz
   cases h
   refine dN ha hb (ig DR ao ao) fun u v H Hs Q hs r1 r2 hq=>?_
   obtain⟨p,us,rfl,h1,h2⟩:=bw r1
   obtain⟨q,ws,rfl,h3,h4⟩:=bw r2
   have l1:=h2.length
   have l2:=h4.length
   have nil:∀ (l:List D),l.length=0->l=[]:=fun l hl=>by cases l<;>simp at hl ⊢
   refine⟨p,q,us,ws,rfl,rfl,hs.tup h1,hs.tup h3,by have:=eY hz;omega,fun e=>?_,fun _ e=>?_,fun _ _ l hl=>iu hs (h2.append h4) hl hq⟩
   ·subst e
    have e2:=nil _ l1
    subst e2
    exact hq _ H Hs (.refl hs) r2
   ·subst e
    have e2:=nil _ l2
    subst e2
    refine hq _ H Hs (.refl hs) ?_
    rw[List.append_nil]
    exact r1
  ·cases h
 ·split at h
  ·rename_i hz
   cases h
   refine dN ha hb (ig DQ ao ao) fun u v H Hs Q hs r1 r2 hq=>?_
   obtain⟨p,us,rfl,h1,h2⟩:=bG r1
   obtain⟨q,ws,rfl,h3,h4⟩:=bG r2
   have l1:=h2.length
   have l2:=h4.length
   exact⟨p,q,us,ws,rfl,rfl,hs.seq h1,hs.seq h3,by have:=eY hz;omega,fun l hl=>fj hs (h2.append h4) hl hq⟩
  ·cases h
 ·cases h
  exact dN ha hb (ig Jj ao ao) fun u v H Hs Q hs r1 r2 hq=>⟨_,_,aF r1,aF r2,hq _ H Hs (.refl hs) (by simp[Rep])⟩
 ·split at h
  ·rename_i hz
   cases h
   rw[Bool.or_eq_true,Bool.or_eq_true,Bool.and_eq_true] at hz
   have hz':Kv _ _:=hz.elim (fun z=>z.elim (fun z=>.inl (.inl (qe z))) (fun z=>.inl (.inr (qe z)))) (fun z=>.inr ⟨Bc z.1,Bc z.2⟩)
   exact dN ha hb (ig DG ao ao) fun u v H Hs Q hs r1 r2 hq=>⟨_,_,aF r1,aF r2,hz',hq _ H Hs (.refl hs) (by simp[Rep])⟩
  ·cases h
 ·split at h
  ·rename_i hz
   cases h
   rw[Bool.and_eq_true,Bool.and_eq_true,decide_eq_true_eq,decide_eq_true_eq] at hz
   refine dN ha hb (ig uZ ao ao) fun u v H Hs Q hs r1 r2 hq=>?_
   obtain⟨p,us,rfl,h1,h2⟩:=bG r1
   have l1:=h2.length
   exact⟨p,_,us,rfl,aF r2,hs.seq h1,by omega,by omega,by have:=eY hz.2;rw[<- l1];exact this,fun l hl=>fj hs (h2.rep _) hl hq⟩
  ·cases h
 ·exact Fw ha hb h
 ·split at h
  ·rename_i hz
   cases h
   rw[Bool.and_eq_true,decide_eq_true_eq,decide_eq_true_eq] at hz
   exact dN ha hb (ig DN ao ao) fun u v H Hs Q hs r1 r2 hq=>⟨_,_,aF r1,aF r2,hz,hq _ H Hs (.refl hs) (by simp[Rep])⟩
  ·split at h
   ·rename_i hz
    cases h
    rw[Bool.and_eq_true,decide_eq_true_eq,decide_eq_true_eq] at hz
    exact dN ha hb (ig yH ao ao) fun u v H Hs Q hs r1 r2 hq=>⟨_,_,aF r1,aF r2,hz,hq _ H Hs (.refl hs) (by simp[Rep])⟩
   ·cases h
 ·split at h
  ·rename_i hz
   cases h
   rw[decide_eq_true_eq] at hz
   exact dN ha hb (ig Jk ao ao) fun u v H Hs Q hs r1 r2 hq=>⟨_,_,aF r1,aF r2,hz,hq _ H Hs (.refl hs) (by simp[Rep])⟩
  ·split at h
   ·rename_i hz
    cases h
    rw[decide_eq_true_eq] at hz
    exact dN ha hb (ig DK ao ao) fun u v H Hs Q hs r1 r2 hq=>⟨_,_,aF r1,aF r2,hz,hq _ H Hs (.refl hs) (by simp[Rep])⟩
   ·cases h
 ·cases h
end
end L2
namespace L2
open PySem PySem.Spec PyProof.Rows DE PySem.SeqAt
section
variable {X:Cx} {ρ:Rho} {cx:Cxt} {k:Nat} {sc:Scope}
theorem ak{e:Expr}{es:List Expr}{env:Env}(h:aD e=true):starEach (e::es) env=(false,eval e env)::starEach es env:=by
 cases e<;>first | rfl | (simp[aD] at h)
theorem fD{e:Expr}(h:aD e=true):w6 e:=by
 intro o i
 cases e<;>first | rfl | (simp[aD] at h)
theorem cQ{e:Expr}{env:Env}(h:aD e=true)(x:Value):foldedSetIterable e env x=pure x:=by
 cases e<;>first | rfl | (simp[aD] at h)
theorem g8{e:Expr}{op:CmpOp}(h:aD e=true):behindInMarks op e=false:=by
 cases e<;>first | rfl | (simp[aD] at h)
theorem dg{env:Env}{pos:Pos}:∀ {es:List Expr},(∀ e∈es,aD e=true)->(backTo pos (starEach es env)).any (·.1)=false
  | [],_=>rfl
  | e :: es, h => by
    rw[ak (h e List.mem_cons_self)]
    have ih:=dg (env:=env) (pos:=pos) fun e' he=>h e' (List.mem_cons_of_mem _ he)
    show((false:Bool)||(backTo pos (starEach es env)).any (·.1))=false
    rw[ih];rfl
theorem aV:∀ {n:Nat} {ρ:Rho} {e:Expr} {d:D},ev cx n sc ρ e=some d->aD e=true
  | 0,_,_,_,h=>by simp[ev] at h
  | n + 1, ρ, e, d, h => by
    cases e<;>first | rfl | (exact nomatch (show(Option.none:Option D)=some d from h))
def Ci(X:Cx)(e:Expr):TT:=fun σ H Q=>∀ whole pins s,Inv X pins σ H s->wpAny (model X.prog X.w) X.A (isTrue e X.env whole) (TP X pins σ Q) X.xe s
def EvW(X:Cx)(ρ:Rho)(e:Expr)(b:Bool):Prop:=∀ σ H Hs Q,Same Hs H->bV X.K Hs ρ σ->(∀ H' Hs',Ext Hs H Hs' H'->Q b H')->Ci X e σ H Q
theorem qt{e:Expr}:PW X e (Ci X e):=fun whole pins s σ H Q I h=>h whole pins s I
theorem PW.sem{e:Expr}{t:TT}{σ:St}{H:Hp}{Q:Bool->Hp->Prop}(h:PW X e t)(q:t σ H Q):Ci X e σ H Q:=fun whole pins s I=>h whole pins s σ H Q I q
theorem EvW.t{e:Expr}{b:Bool}(h:EvW X ρ e b):EvT X ρ e b:=fun σ H Hs Q hs hr hq pins s I=>h σ H Hs Q hs hr hq _ pins s I
theorem Gb{e:Expr}{b:Bool}(h:Ev X ρ e (.bl b))(he:∀ whole,isTrue e X.env whole=(do let v <- whole;standAt e.pos;holding [v] (truthy v))):EvT X ρ e b:=fun σ H Hs Q hs hr hq =>
 (Ai ao he).sem (h σ H Hs _ hs hr fun v H' Hs' E1 r1=>⟨b,cW r1,hq H' Hs' E1⟩)
theorem J6{a:Expr}{b:Bool}{pos:Pos}(h:Ev X ρ a (.bl b)):Ev X ρ (.UnaryOp .Not a pos) (.bl (!b)):=fun σ H Hs Q hs hr hq =>
 (Jf ao).sem (h σ H Hs _ hs hr fun v H' Hs' E1 r1=>⟨b,cW r1,hq _ H' Hs' E1 (by simp[Rep])⟩)
theorem Gd{a:Expr}{b:Bool}{pos:Pos}(h:EvT X ρ a b):EvT X ρ (.UnaryOp .Not a pos) (!b):=fun σ H Hs Q hs hr hq =>
 (Aj dJ).sem (h σ H Hs _ hs hr fun H' Hs' E1=>hq H' Hs' E1)
theorem J7{a:Expr}{i:Int}{pos:Pos}(h:Ev X ρ a (.int i)):Ev X ρ (.UnaryOp .USub a pos) (.int (-i)):=fun σ H Hs Q hs hr hq =>
 (Mq Hw ao).sem (h σ H Hs _ hs hr fun v H' Hs' E1 r1=>⟨i,aF r1,hq _ H' Hs' E1 (by simp[Rep])⟩)
theorem nG{op:BoolOp}{f:Expr->Option D}{pos:Pos}:∀ {es:List Expr} {d:D},(∀ e∈es,∀ d,f e=some d->Ev X ρ e d/\∀ b,d=.bl b->EvT X ρ e b)->bY op f es=some d ->
    Ev X ρ (.BoolOp op es pos) d/\∀ b,d=.bl b->EvW X ρ (.BoolOp op es pos) b
  | [],d,_,h=>by simp[bY] at h
  | [e], d, hf, h => by
    obtain⟨h1,h2⟩:=hf e (by simp) d (by simpa[bY] using h)
    refine⟨fun σ H Hs Q hs hr hq=>(Je ao).sem (h1 σ H Hs Q hs hr hq),fun b hb σ H Hs Q hs hr hq=>?_⟩
    cases op with
    | And=>exact(CT dJ).sem (h2 b hb σ H Hs Q hs hr hq)
    | Or=>exact(Iv dJ).sem (h2 b hb σ H Hs Q hs hr hq)
  | e :: e' :: r, d, hf, h => by
    simp only[bY] at h
    cases he:f e with
    | none=>rw[he] at h;simp at h
    | some x =>
      rw[he] at h
      cases x with
      | bl c =>
        obtain⟨h1,h2⟩:=hf e (by simp) _ he
        have h2':=h2 c rfl
        simp only[asB,Option.bind_some,Option.bind_eq_bind,bind,Option.bind] at h
        have ih:=fun d' (q:bY op f (e'::r)=some d')=>nG (pos:=pos) (es:=e'::r) (fun a ha=>hf a (List.mem_cons_of_mem _ ha)) q
        cases op with
        | And =>
          cases c with
          | true =>
            simp only[if_true] at h
            obtain⟨i1,i2⟩:=ih d h
            refine⟨fun σ H Hs Q hs hr hq=>(Ar ao ao).sem (h1 σ H Hs _ hs hr fun v H' Hs' E1 r1=>⟨true,cW r1,tQ (i1 σ H' Hs' Q E1.sub (hr.same E1.vis) fun w H2 Hs2 E2 r2=>hq w H2 Hs2 (E1.trans E2) r2)⟩),fun b hb σ H Hs Q hs hr hq=>?_⟩
            exact(Ah dJ qt).sem (h2' σ H Hs _ hs hr fun H' Hs' E1=>tQ (i2 b hb σ H' Hs' Q E1.sub (hr.same E1.vis) fun H2 Hs2 E2=>hq H2 Hs2 (E1.trans E2)))
          | false =>
            simp only[Bool.false_eq_true,if_false,Option.some.injEq] at h
            subst h
            refine⟨fun σ H Hs Q hs hr hq=>(Ar ao ao).sem (h1 σ H Hs _ hs hr fun v H' Hs' E1 r1=>⟨false,cW r1,vH (hq _ H' Hs' E1 (by simp[Rep]))⟩),fun b hb σ H Hs Q hs hr hq=>?_⟩
            cases hb
            exact(Ah dJ qt).sem (h2' σ H Hs _ hs hr fun H' Hs' E1=>vH (hq H' Hs' E1))
        | Or =>
          cases c with
          | true =>
            simp only[if_true,Option.some.injEq] at h
            subst h
            refine⟨fun σ H Hs Q hs hr hq=>(Jd ao ao).sem (h1 σ H Hs _ hs hr fun v H' Hs' E1 r1=>⟨true,cW r1,tQ (hq _ H' Hs' E1 (by simp[Rep]))⟩),fun b hb σ H Hs Q hs hr hq=>?_⟩
            cases hb
            exact(Iw dJ qt).sem (h2' σ H Hs _ hs hr fun H' Hs' E1=>tQ (hq H' Hs' E1))
          | false =>
            simp only[Bool.false_eq_true,if_false] at h
            obtain⟨i1,i2⟩:=ih d h
            refine⟨fun σ H Hs Q hs hr hq=>(Jd ao ao).sem (h1 σ H Hs _ hs hr fun v H' Hs' E1 r1=>⟨false,cW r1,vH (i1 σ H' Hs' Q E1.sub (hr.same E1.vis) fun w H2 Hs2 E2 r2=>hq w H2 Hs2 (E1.trans E2) r2)⟩),fun b hb σ H Hs Q hs hr hq=>?_⟩
            exact(Iw dJ qt).sem (h2' σ H Hs _ hs hr fun H' Hs' E1=>vH (i2 b hb σ H' Hs' Q E1.sub (hr.same E1.vis) fun H2 Hs2 E2=>hq H2 Hs2 (E1.trans E2)))
      | _=>simp[asB] at h
def Mh(X:Cx)(op:CmpOp):R2:=fun u v H Q=>∃ Hs x y d,Same Hs H/\Rep X.K Hs x u/\Rep X.K Hs y v/\cmpop op x y=some d/\∃ b,d=.bl b/\Q (.bl b) H
theorem kJ{K:PySem.W.Frag}{H:Hp}{v:V}(h:Rep K H .non v):v=.non:=by simpa[Rep] using h
theorem qN{K:PySem.W.Frag}{H:Hp}{x:D}{v:V}(h:Rep K H x v):Er x=decide (v=V.non):=by
  cases x with
  | non=>rw[kJ h];rfl
  | bl b=>rw[cW h];rfl
  | int b=>rw[aF h];rfl
  | str b => have e : v = .str b := by simpa [Rep] using h
             rw[e];rfl
  | tup b=>obtain⟨a,vs,e,_⟩:=bw h;rw[e];rfl
  | lst b=>obtain⟨a,vs,e,_⟩:=bG h;rw[e];rfl
  | exc c=>simp only[Rep] at h;obtain⟨a,C,e,_⟩:=h;rw[e];rfl
  | dic k x=>simp only[Rep] at h;obtain⟨a,C,e,_⟩:=h;rw[e];rfl
theorem dR{K:PySem.W.Frag}{H:Hp}:∀ {ds:List D} {ns:List Int} {vs:List V},iI ds=some ns->aO K H ds vs->vs=ns.map V.int
  | [], ns, vs, h, r => by
    simp only[iI,Option.some.injEq] at h;subst h
    simpa[aO] using r
  | .int i :: ds, ns, vs, h, r => by
    simp only[iI,Option.map_eq_some_iff] at h
    obtain⟨ms,h1,rfl⟩:=h
    simp only[aO] at r
    obtain⟨v,r',rfl,h2,h3⟩:=r
    rw[aF h2,dR h1 h3]
    rfl
  | .non::ds,ns,vs,h,r=>by simp[iI] at h
  | .bl _::ds,ns,vs,h,r=>by simp[iI] at h
  | .str _::ds,ns,vs,h,r=>by simp[iI] at h
  | .tup _::ds,ns,vs,h,r=>by simp[iI] at h
  | .lst _::ds,ns,vs,h,r=>by simp[iI] at h
  | .exc _::ds,ns,vs,h,r=>by simp[iI] at h
  | .dic _ _::ds,ns,vs,h,r=>by simp[iI] at h
theorem any_ints(i:Int):∀ {ns:List Int} {us:List Value},Vals (ns.map V.int) us->us.any (fun y=>match y with | .int j _=>j==i | _=>false)=ns.any (· ==i)
  | [],us,r=>by rw[List.map_nil] at r;cases r;rfl
  | n :: ns, us, r => by
    rw[List.map_cons] at r
    cases r with
    | cons r1 r2 =>
      obtain⟨t,e⟩:=(show ∃ t,_=Value.int n t from r1)
      subst e
      simp only[List.any_cons,any_ints i r2]
theorem lE:∀ {ns:List Int} {us:List Value},Vals (ns.map V.int) us->∀ y∈us,∃ j t,y=Value.int j t
  | [],us,r,y,hy=>by rw[List.map_nil] at r;cases r;simp at hy
  | n :: ns, us, r, y, hy => by
    rw[List.map_cons] at r
    cases r with
    | cons r1 r2 =>
      obtain⟨t,e⟩:=(show ∃ t,_=Value.int n t from r1)
      subst e
      rcases List.mem_cons.mp hy with rfl | hy
      · exact⟨n,t,rfl⟩
      · exact lE r2 y hy
theorem Eu{pins:List (Addr×Obj)}{σ:St}{H:Hp}{s:Shared}{i:Int}{ys:List D}{ns:List Int}{u v:V}{w z:Value}(I:Inv X pins σ H s)(A:Around)(hu:u=.int i)(hv:Rep X.K H (.tup ys) v)(hn:iI ys=some ns)(ru:RelV u w)(rv:RelV v z) :
  (∀ (Q:Value->Shared->Prop) (E:Value->Shared->Prop),Q (.bool (ns.any (· ==i))) s->wpAny (model X.prog X.w) A (compareOp .In w z) Q E s)/\(∀ (Q:Value->Shared->Prop) (E:Value->Shared->Prop),Q (.bool (!ns.any (· ==i))) s->wpAny (model X.prog X.w) A (compareOp .NotIn w z) Q E s):=by
 subst hu
 obtain⟨t,e⟩:=(show ∃ t,w=Value.int i t from ru)
 subst e
 obtain⟨a,vs,rfl,h1,h2⟩:=bw hv
 cases (show z=Value.ref a from rv)
 have e:=dR hn h2
 subst e
 obtain⟨its,r,p⟩:=isT I h1
 have he:∀ y,y∈its.toArray->EqAt A.in1 s y (.int i t) (match y with | .int j _=>j==i | _=>false):=fun y hy=>by
  obtain⟨j,t',rfl⟩:=lE r y (by simpa using hy)
  exact fun P w Q E q=>wpAny_eqBool_int q
 have ea:its.toArray.any (fun y=>match y with | .int j _=>j==i | _=>false)=ns.any (· ==i):=by
  rw[List.any_toArray];exact any_ints i r
 refine⟨fun Q E q=>in_tupleAt _ p he (by rw[ea];exact q),fun Q E q=>notIn_tupleAt _ p he (by rw[ea];exact q)⟩
theorem rB{K:PySem.W.Frag}{H:Hp}:∀ {ds:List D} {ns:List Str} {vs:List V},pK ds=some ns->aO K H ds vs->vs=ns.map V.str
  | [], ns, vs, h, r => by
    simp only[pK,Option.some.injEq] at h;subst h
    simpa[aO] using r
  | .str i :: ds, ns, vs, h, r => by
    simp only[pK] at h
    obtain⟨ms,h1,rfl⟩:=Option.map_eq_some_iff.mp h
    simp only[aO] at r
    obtain⟨v,rr,rfl,h2,h3⟩:=r
    have e:v=.str i:=by simpa[Rep] using h2
    rw[rB h1 h3,e];rfl
  | .non::ds,ns,vs,h,r=>by simp[pK] at h
  | .bl _::ds,ns,vs,h,r=>by simp[pK] at h
  | .int _::ds,ns,vs,h,r=>by simp[pK] at h
  | .tup _::ds,ns,vs,h,r=>by simp[pK] at h
  | .lst _::ds,ns,vs,h,r=>by simp[pK] at h
  | .exc _::ds,ns,vs,h,r=>by simp[pK] at h
  | .dic _ _::ds,ns,vs,h,r=>by simp[pK] at h
def eS(x:D):Value->Bool
 | .str t _=>deq (.str t) x
 | _=>false
theorem rC(x:D):∀ {ns:List Str} {us:List Value},Vals (ns.map V.str) us->us.any (eS x)=ns.any fun t=>deq (.str t) x
  | [],us,r=>by rw[List.map_nil] at r;cases r;rfl
  | n :: ns, us, r => by
    rw[List.map_cons] at r
    cases r with
    | cons r1 r2 =>
      obtain⟨t,e⟩:=(show ∃ t,_=Value.str n t from r1)
      subst e
      simp only[List.any_cons,rC x r2,eS]
theorem qF:∀ {ns:List Str} {us:List Value},Vals (ns.map V.str) us->∀ y∈us,∃ j t,y=Value.str j t
  | [],us,r,y,hy=>by rw[List.map_nil] at r;cases r;simp at hy
  | n :: ns, us, r, y, hy => by
    rw[List.map_cons] at r
    cases r with
    | cons r1 r2 =>
      obtain⟨t,e⟩:=(show ∃ t,_=Value.str n t from r1)
      subst e
      rcases List.mem_cons.mp hy with rfl | hy
      · exact⟨n,t,rfl⟩
      · exact qF r2 y hy
theorem Et{pins:List (Addr×Obj)}{σ:St}{H:Hp}{s:Shared}{x:D}{ys:List D}{ns:List Str}{u v:V}{w z:Value}(I:Inv X pins σ H s)(A:Around)(hA:A.units+2<cLine)(hx:Rep X.K H x u)(hd:dep x<=50)(hv:Rep X.K H (.tup ys) v)(hn:pK ys=some ns)(ru:RelV u w)(rv:RelV v z) :
  (∀ (Q:Value->Shared->Prop) (E:Value->Shared->Prop),Q (.bool (ns.any fun t=>deq (.str t) x)) s->wpAny (model X.prog X.w) A (compareOp .In w z) Q E s)/\(∀ (Q:Value->Shared->Prop) (E:Value->Shared->Prop),Q (.bool (!ns.any fun t=>deq (.str t) x)) s->wpAny (model X.prog X.w) A (compareOp .NotIn w z) Q E s):=by
 obtain⟨a,vs,rfl,h1,h2⟩:=bw hv
 cases (show z=Value.ref a from rv)
 have e:=rB hn h2
 subst e
 obtain⟨its,r,p⟩:=isT I h1
 have he:∀ y,y∈its.toArray->EqAt A.in1 s y w (eS x y):=fun y hy=>by
  obtain⟨j,t',rfl⟩:=qF r y (by simpa using hy)
  exact vZ I (.str j) x (.str j) u (.str j t') w A.in1 (by simp[Rep]) hx ⟨t',rfl⟩ ru (by rw[f9];simp only[dep];omega) (by simp[dep]) (by omega)
 have ea:its.toArray.any (eS x)=ns.any fun t=>deq (.str t) x:=by
  rw[List.any_toArray];exact rC x r
 refine⟨fun Q E q=>in_tupleAt _ p he (by rw[ea];exact q),fun Q E q=>notIn_tupleAt _ p he (by rw[ea];exact q)⟩
theorem JT{x:D}{ys:List D}{b:Bool}(h:inT x ys=some b):(∃ i ns,x=.int i/\iI ys=some ns/\b=ns.any (· ==i))\/∃ ss,pK ys=some ss/\dep x<=50/\b=ss.any fun t=>deq (.str t) x:=by
 have hS:∀ {b},inS x ys=some b->∃ ss,pK ys=some ss/\dep x<=50/\b=ss.any fun t=>deq (.str t) x:=fun {b} h=>by
  unfold inS at h
  obtain⟨ss,h1,h2⟩:=Option.bind_eq_some_iff.mp h
  split at h2
  ·rename_i hd
   cases h2
   exact⟨ss,h1,by simpa using hd,rfl⟩
  ·cases h2
 unfold inT at h
 split at h
 ·rename_i i ns e1 e2
  cases x<;>simp[asI] at e1
  cases h
  subst e1
  exact .inl ⟨_,ns,rfl,e2,rfl⟩
 ·exact .inr (hS h)
theorem Bl{pins:List (Addr×Obj)}{σ:St}{H:Hp}{s:Shared}{x:D}{ys:List D}{b:Bool}{u v:V}{w z:Value}(I:Inv X pins σ H s)(A:Around)(hA:A.units+2<cLine)(hx:Rep X.K H x u)(hv:Rep X.K H (.tup ys) v)(h:inT x ys=some b)(ru:RelV u w)(rv:RelV v z) :
  (∀ (Q:Value->Shared->Prop) (E:Value->Shared->Prop),Q (.bool b) s->wpAny (model X.prog X.w) A (compareOp .In w z) Q E s)/\(∀ (Q:Value->Shared->Prop) (E:Value->Shared->Prop),Q (.bool (!b)) s->wpAny (model X.prog X.w) A (compareOp .NotIn w z) Q E s):=by
 rcases JT h with⟨i,ns,rfl,e1,rfl⟩ | ⟨ss,e1,e2,rfl⟩
 ·exact Eu I A (aF hx) hv e1 ru rv
 ·exact Et I A hA hx e2 hv e1 ru rv
theorem oG{pins:List (Addr×Obj)}{σ:St}{H:Hp}{s:Shared}{i:Int}{ys:List D}{ns:List Int}{u v:V}{w z:Value}(I:Inv X pins σ H s)(A:Around)(hu:u=.int i)(hv:Rep X.K H (.lst ys) v)(hn:iI ys=some ns)(ru:RelV u w)(rv:RelV v z) :
  ∀ (Q:Value->Shared->Prop) (E:Value->Shared->Prop),Q (.bool (!ns.any (· ==i))) s->wpAny (model X.prog X.w) A (compareOp .NotIn w z) Q E s:=by
 subst hu
 obtain⟨t,e⟩:=(show ∃ t,w=Value.int i t from ru)
 subst e
 obtain⟨a,vs,rfl,h1,h2⟩:=bG hv
 cases (show z=Value.ref a from rv)
 have e:=dR hn h2
 subst e
 obtain⟨its,r,p,_⟩:=I.list h1
 have he:∀ y,y∈its.toArray->EqAt A.in1 s y (.int i t) (match y with | .int j _=>j==i | _=>false):=fun y hy=>by
  obtain⟨j,t',rfl⟩:=lE r y (by simpa using hy)
  exact fun P w Q E q=>wpAny_eqBool_int q
 have ea:its.toArray.any (fun y=>match y with | .int j _=>j==i | _=>false)=ns.any (· ==i):=by
  rw[List.any_toArray];exact any_ints i r
 exact fun Q E q=>notIn_listAt _ p.isList he (by rw[ea];exact q)
theorem Jm:OpR X (compareOp .Is) (fun x y H Q=>∃ a b,x=.bl a/\y=.bl b/\Q (.bl (a==b)) H):=by
 intro pins s σ H x y v u Q I rx ry h
 obtain⟨a,b,rfl,rfl,q⟩:=h
 cases (show v=Value.bool a from rx)
 cases (show u=Value.bool b from ry)
 cases a<;>cases b<;>exact wpAny_pure ⟨.bl _,H,I,rfl,q⟩
theorem Dz:OpR X (compareOp .IsNot) (fun x y H Q=>∃ a b,x=.bl a/\y=.bl b/\Q (.bl (!(a==b))) H):=by
 intro pins s σ H x y v u Q I rx ry h
 obtain⟨a,b,rfl,rfl,q⟩:=h
 cases (show v=Value.bool a from rx)
 cases (show u=Value.bool b from ry)
 cases a<;>cases b<;>exact wpAny_pure ⟨.bl _,H,I,rfl,q⟩
theorem jT(hr:Room k X.A)(op:CmpOp):OpR X (compareOp op) (Mh X op):=by
 intro pins s σ H u v w z Q I ru rv h
 obtain⟨Hs,x,y,d,hs,rx,ry,hc,b,rfl,q⟩:=h
 have rx':=Rep.same hs x u rx
 have ry':=Rep.same hs y v ry
 unfold cmpop at hc
 split at hc
 ·split at hc
  ·rename_i hd
   rw[Bool.and_eq_true,decide_eq_true_eq,decide_eq_true_eq] at hd
   cases hc
   exact(qY I X.A rx' ry' ru rv (by have:=hr.un;omega) (by omega) (by omega)).1 _ _ _ _ ⟨.bl _,H,I,rfl,q⟩
  ·cases hc
 ·split at hc
  ·rename_i hd
   rw[Bool.and_eq_true,decide_eq_true_eq,decide_eq_true_eq] at hd
   cases hc
   exact(qY I X.A rx' ry' ru rv (by have:=hr.un;omega) (by omega) (by omega)).2 _ _ _ _ ⟨.bl _,H,I,rfl,q⟩
  ·cases hc
 ·cases hc;exact Ms pins s σ H u v w z Q I ru rv ⟨_,_,aF rx,aF ry,q⟩
 ·cases hc;exact Mt pins s σ H u v w z Q I ru rv ⟨_,_,aF rx,aF ry,q⟩
 ·cases hc;exact Mu pins s σ H u v w z Q I ru rv ⟨_,_,aF rx,aF ry,q⟩
 ·cases hc;exact Mv pins s σ H u v w z Q I ru rv ⟨_,_,aF rx,aF ry,q⟩
 ·cases hc;rw[qN rx] at q;exact Jl pins s σ H u v w z Q I ru rv ⟨kJ ry,q⟩
 ·cases hc;rw[qN rx] at q;exact Dy pins s σ H u v w z Q I ru rv ⟨kJ ry,q⟩
 ·cases hc;exact Jm pins s σ H u v w z Q I ru rv ⟨_,_,cW rx,cW ry,q⟩
 ·cases hc;exact Dz pins s σ H u v w z Q I ru rv ⟨_,_,cW rx,cW ry,q⟩
 ·obtain⟨ns,hn,he⟩:=Option.map_eq_some_iff.mp hc
  cases he
  exact(Bl I X.A (by have:=hr.un;omega) rx' ry' hn ru rv).1 _ _ ⟨.bl _,H,I,rfl,q⟩
 ·obtain⟨ns,hn,he⟩:=Option.map_eq_some_iff.mp hc
  cases he
  exact(Bl I X.A (by have:=hr.un;omega) rx' ry' hn ru rv).2 _ _ ⟨.bl _,H,I,rfl,q⟩
 ·obtain⟨ns,hn,he⟩:=Option.map_eq_some_iff.mp hc
  cases he
  exact oG I X.A (aF rx') ry' hn ru rv _ _ ⟨.bl _,H,I,rfl,q⟩
 ·cases hc
theorem BJ{op:CmpOp}{x y d:D}(h:cmpop op x y=some d):∃ b,d=.bl b:=by
 unfold cmpop at h
 split at h<;>first | (cases h;exact⟨_,rfl⟩) | (obtain⟨_,_,rfl⟩:=Option.map_eq_some_iff.mp h;exact⟨_,rfl⟩) | (split at h<;>first | (cases h;exact⟨_,rfl⟩) | cases h) | cases h
theorem FZ{a b:Expr}{op:CmpOp}{x y d:D}{pos:Pos}(hr:Room k X.A)(ha:Ev X ρ a x)(hb:Ev X ρ b y)(hm:aD b=true)(h:cmpop op x y=some d):Ev X ρ (.Compare a [op] [b] pos) d/\∀ c,d=.bl c->EvT X ρ (.Compare a [op] [b] pos) c:=by
 obtain⟨c,rfl⟩:=BJ h
 refine⟨dN ha hb (Ds (jT hr op) ao ao (g8 hm)) fun u v H Hs Q hs r1 r2 hq=>⟨Hs,x,y,_,hs,r1,r2,h,c,rfl,hq _ H Hs (.refl hs) (by simp[Rep])⟩,fun c' hc' σ H Hs Q hs hst hq=>?_⟩
 cases hc'
 refine(CW (jT hr op) ao ao (g8 hm)).sem (ha σ H Hs _ hs hst fun u H1 Hs1 E1 r1=>hb σ H1 Hs1 _ E1.sub (hst.same E1.vis) fun v H2 Hs2 E2 r2=>?_)
 exact⟨Hs2,x,y,_,E2.sub,Rep.same E2.vis x u r1,r2,h,c,rfl,c,rfl,hq H2 Hs2 (E1.trans E2)⟩
theorem vA{op op':CmpOp}{b c:Expr}(h:aD c=true):lastMarks [op,op'] [b,c]=false:=g8 h
theorem vW{a b e:Expr}{op op':CmpOp}{x y d:D}{c:Bool}{pos:Pos}(hr:Room k X.A)(ha:Ev X ρ a x)(hb:Ev X ρ b y)(hm:aD e=true)(h:cmpop op x y=some (.bl c))(hd:(c=true->∃ z,Ev X ρ e z/\cmpop op' y z=some d)/\(c=false->d=.bl false)) :
    Ev X ρ (.Compare a [op,op'] [b,e] pos) d/\∀ c,d=.bl c->EvT X ρ (.Compare a [op,op'] [b,e] pos) c:=by
  have core:∀ σ H Hs Q,Same Hs H->bV X.K Hs ρ σ->(∀ v H' Hs',Ext Hs H Hs' H'->Rep X.K Hs' d v->Q v H')->uo (Mh X op) (Mh X op') (j8 X a) (j8 X b) (j8 X e) σ H Q:=by
    intro σ H Hs Q hs hst hq
    refine ha σ H Hs _ hs hst fun u H1 Hs1 E1 r1=>hb σ H1 Hs1 _ E1.sub (hst.same E1.vis) fun v H2 Hs2 E2 r2=>?_
    refine⟨Hs2,x,y,_,E2.sub,Rep.same E2.vis x u r1,r2,h,c,rfl,c,rfl,?_⟩
    cases c with
    | false=>rw[hd.2 rfl] at hq;exact vH (hq _ H2 Hs2 (E1.trans E2) (by simp[Rep]))
    | true =>
      obtain⟨z,hz,hc⟩:=hd.1 rfl
      obtain⟨c',rfl⟩:=BJ hc
      refine tQ (hz σ H2 Hs2 _ E2.sub ((hst.same E1.vis).same E2.vis) fun w H3 Hs3 E3 r3=>?_)
      exact⟨Hs3,y,z,_,E3.sub,Rep.same E3.vis y v r2,r3,hc,c',rfl,hq _ H3 Hs3 (E1.trans (E2.trans E3)) (by simp[Rep])⟩
  refine⟨fun σ H Hs Q hs hst hq=>(yE (jT hr op) (jT hr op') ao ao ao (vA hm)).sem (core σ H Hs Q hs hst hq),fun c' hc' σ H Hs Q hs hst hq=>?_⟩
  subst hc'
  exact(yp (jT hr op) (jT hr op') ao ao ao (vA hm)).sem (core σ H Hs _ hs hst fun v H' Hs' E1 r1=>⟨c',cW r1,hq H' Hs' E1⟩)
theorem J9{c a b:Expr}{t:Bool}{d:D}{pos:Pos}(hc:EvT X ρ c t)(ha:t=true->Ev X ρ a d)(hb:t=false->Ev X ρ b d):Ev X ρ (.IfExp c a b pos) d:=fun σ H Hs Q hs hst hq =>
  (lu dJ ao ao).sem (hc σ H Hs _ hs hst fun H1 Hs1 E1=>by
    cases t with
    | true=>exact tQ (ha rfl σ H1 Hs1 Q E1.sub (hst.same E1.vis) fun v H' Hs' E2 r=>hq v H' Hs' (E1.trans E2) r)
    | false=>exact vH (hb rfl σ H1 Hs1 Q E1.sub (hst.same E1.vis) fun v H' Hs' E2 r=>hq v H' Hs' (E1.trans E2) r))
theorem Bt{c a b:Expr}{t r:Bool}{pos:Pos}(hc:EvT X ρ c t)(ha:t=true->EvT X ρ a r)(hb:t=false->EvT X ρ b r):EvT X ρ (.IfExp c a b pos) r:=by
 intro σ H Hs Q hs hst hq pins s I
 refine isTrue_IfExp (thn (hc σ H Hs (fun b' H'=>b'=t/\∃ Hs',Ext Hs H Hs' H') hs hst (fun H1 Hs1 E1=>⟨rfl,Hs1,E1⟩) pins s I) fun b' s2 ⟨H2,I2,e2,Hs2,E2⟩=>?_)
 subst e2
 cases b' with
 | true=>exact tQ (ha rfl σ H2 Hs2 Q E2.sub (hst.same E2.vis) (fun H' Hs' E3=>hq H' Hs' (E2.trans E3)) pins s2 I2)
 | false=>exact vH (hb rfl σ H2 Hs2 Q E2.sub (hst.same E2.vis) (fun H' Hs' E3=>hq H' Hs' (E2.trans E3)) pins s2 I2)
theorem dD{f:Expr->Option D}:∀ {es:List Expr} {ds:List D},(∀ e∈es,∀ d,f e=some d->Ev X ρ e d/\aD e=true)->jK f es=some ds->EvA X ρ es ds/\(∀ e∈es,aD e=true)
  | [], ds, _, h => by
    simp only[jK,Option.some.injEq] at h
    subst h
    exact⟨fun σ H Hs Q hs hst hq=>cR.sem (hq [] H Hs (.refl hs) .nil),fun e he=>absurd he (by simp)⟩
  | e :: es, ds, hf, h => by
    simp only[jK,bind,Option.bind] at h
    cases he:f e with
    | none=>rw[he] at h;cases h
    | some d =>
      rw[he] at h
      simp only at h
      cases hr:jK f es with
      | none=>rw[hr] at h;cases h
      | some dr =>
        rw[hr] at h
        simp only[Option.some.injEq] at h
        subst h
        obtain⟨h1,hp⟩:=hf e (by simp) d he
        obtain⟨h2,hps⟩:=dD (fun a ha=>hf a (List.mem_cons_of_mem _ ha)) hr
        refine⟨fun σ H Hs Q hs hst hq=>(bx ao bW (ak hp)).sem (h1 σ H Hs _ hs hst fun v H1 Hs1 E1 r1=>h2 σ H1 Hs1 _ E1.sub (hst.same E1.vis) fun vs H2 Hs2 E2 r2=>?_),fun a ha=>?_⟩
        · exact hq _ H2 Hs2 (E1.trans E2) (.cons (Rep.same E2.vis d v r1) r2)
        · rcases List.mem_cons.mp ha with rfl | ha
          · exact hp
          · exact hps a ha
theorem zB{es:List Expr}{ds:List D}{j:Nat}{pos:Pos}(h:EvA X ρ es ds)(hz:szl ds.length=true):Ev X ρ (.Tuple es j pos) (.tup ds):=fun σ H Hs Q hs hst hq =>
 (Jc bW).sem (h σ H Hs _ hs hst fun vs H1 Hs1 E1 r1=>⟨by rw[<- r1.length];exact eY hz,fun p hp=>iu E1.sub r1 hp fun w H' Hs' E2 r2=>hq w H' Hs' (E1.trans E2) r2⟩)
theorem Fz{es:List Expr}{ds:List D}{pos:Pos}(h:EvA X ρ es ds)(hz:szl ds.length=true):Ev X ρ (.List es pos) (.lst ds):=fun σ H Hs Q hs hst hq =>
 (uV bW).sem (h σ H Hs _ hs hst fun vs H1 Hs1 E1 r1=>⟨by rw[<- r1.length];exact eY hz,fun p hp=>fj E1.sub r1 hp fun w H' Hs' E2 r2=>hq w H' Hs' (E1.trans E2) r2⟩)
theorem jX(n:Nat)(i:Int):ixD n i=ixN n i:=rfl
theorem pJ{K:PySem.W.Frag}{H:Hp}{ds:List D}{vs:List V}{i:Int}{d:D}(h:aO K H ds vs)(e:atD ds i=some d):∃ v,atI vs i=some v/\Rep K H d v:=by
  unfold atD at e
  rw[jX,h.length] at e
  cases q:ixN vs.length i with
  | none=>rw[q] at e;cases e
  | some j =>
    rw[q] at e
    obtain⟨v,h1,h2⟩:=h.get (i:=j) (d:=d) e
    exact⟨v,by unfold atI;rw[q];exact h1,h2⟩
theorem uJ{K:PySem.W.Frag}{H:Hp}{ks:List (Sum Int Str)}{ds:List D}{v:V}(h:Rep K H (.dic ks ds) v):∃ (a:Addr) (kvs:List (Key×V)),v=.ref a/\Rd H a (.dK kvs)/\kvs.map (·.1)=ks/\aO K H ds (kvs.map (·.2)):=by simpa[Rep] using h
theorem oh{K:PySem.W.Frag}{H:Hp}{k:Key}{d:D}:∀ {kvs:List (Key×V)} {ds:List D},aO K H ds (kvs.map (·.2))->xH (kvs.map (·.1)) ds k=some d->∃ v,pQ kvs k=some v/\Rep K H d v
  | [],ds,r,h=>by simp[xH] at h
  | (k', v') :: kvs, ds, r, h => by
    cases ds with
    | nil=>simp[xH] at h
    | cons d' ds =>
      simp only[List.map_cons,aO] at r
      obtain⟨v,rr,e,h2,h3⟩:=r
      cases e
      unfold xH at h
      simp only[List.map_cons,List.zip_cons_cons,List.find?_cons] at h
      unfold pQ
      rw[List.find?_cons]
      by_cases q:k'=k
      · simp only[q,decide_true] at h ⊢
        simp only[Option.map_some,Option.some.injEq] at h ⊢
        subst h
        exact⟨v',rfl,h2⟩
      · simp only[q,decide_false] at h ⊢
        exact oh h3 h
theorem uf{K:PySem.W.Frag}{H:Hp}{k:Key}:∀ {kvs:List (Key×V)} {ds:List D},aO K H ds (kvs.map (·.2))->xH (kvs.map (·.1)) ds k=none->pQ kvs k=none
  | [],ds,r,h=>rfl
  | (k', v') :: kvs, ds, r, h => by
    cases ds with
    | nil=>simp[aO] at r
    | cons d' ds =>
      simp only[List.map_cons,aO] at r
      obtain⟨v,rr,e,h2,h3⟩:=r
      cases e
      unfold xH at h
      simp only[List.map_cons,List.zip_cons_cons,List.find?_cons] at h
      unfold pQ
      rw[List.find?_cons]
      by_cases q:k'=k
      · simp only[q,decide_true] at h
        simp at h
      · simp only[q,decide_false] at h ⊢
        exact uf h3 h
theorem oW{K:PySem.W.Frag}{H:Hp}{d:D}{v:V}{k:Key}(h:Ep d=some k)(r:Rep K H d v):v=kV k:=by
 cases d<;>simp[Ep] at h
 ·subst h;exact aF r
 ·subst h
  rename_i x
  have e:v=.str x:=by simpa[Rep] using r
  exact e
theorem FQ{a b:Expr}{ks:List (Sum Int Str)}{ds:List D}{y d:D}{k':Key}{pos:Pos}(hr:Room k X.A)(ha:Ev X ρ a (.dic ks ds))(hb:Ev X ρ b y)(hp:aD b=true)(hk:Ep y=some k')(hd:xH ks ds k'=some d):Ev X ρ (.Subscript a b pos) d:=by
 intro σ H Hs Q hs hst hq
 refine PE.sem (Dr (JV hr) ao ao fun ov iv=>fD hp ov iv) (ha σ H Hs _ hs hst fun v H1 Hs1 E1 r1=>hb σ H1 Hs1 _ E1.sub (hst.same E1.vis) fun u H2 Hs2 E2 r2=>?_)
 have rdE:∀ {H1 H2:Hp} {a:Addr} {u:HO},Same H1 H2->Rd H1 a u->Rd H2 a u:=fun e r=>r.elim (fun q=>.inl (e _ _ q)) fun⟨o,q⟩=>.inr ⟨o,e _ _ q⟩
 obtain⟨p,kvs,rfl,h1,rfl,h3⟩:=uJ (Rep.same E2.vis _ v r1)
 obtain⟨w,h4,h5⟩:=oh h3 hd
 exact⟨p,w,rfl,.inl ⟨kvs,k',rdE E2.sub h1,oW hk r2,h4.symm⟩,hq w H2 Hs2 (E1.trans E2) h5⟩
theorem obd{α β:Type}{x:Option α}{f:α->Option β}{b:β}(h:(x >>=f)=some b):∃ a,x=some a/\f a=some b:=Option.bind_eq_some_iff.mp h
def Lw(X:Cx):List (Option Expr)->List Expr->List (TE×TE)
 | some k::ks,v::vs=>(j8 X k,j8 X v)::Lw X ks vs
 | _,_=>[]
theorem jf{f:Expr->Option D}:∀ {ks:List (Option Expr)} {vs:List Expr} {l:List (Sum Int Str×D)} {pos:Pos},dw f ks vs=some l->PPs X pos ks vs (Lw X ks vs)/\ks.all (·.isSome)=true/\ks.length=vs.length/\l.length=ks.length
  | [],[],l,pos,h=>by simp only[dw,Option.some.injEq] at h;subst h;exact⟨Dg,rfl,rfl,rfl⟩
  | some k :: ks, v :: vs, l, pos, h => by
    simp only[dw] at h
    obtain⟨x,h1,h⟩:=obd h
    obtain⟨d,h2,h⟩:=obd h
    obtain⟨r,h3,h⟩:=obd h
    cases h
    obtain⟨a1,a2,a3,a4⟩:=jf (pos:=pos) h3
    exact⟨yr ao ao a1,by simpa using a2,by simp[a3],by simp[a4]⟩
  | [],_::_,l,pos,h=>by simp[dw] at h
  | none::ks,vs,l,pos,h=>by cases vs<;>simp[dw] at h
  | some k::ks,[],l,pos,h=>by simp[dw] at h
def fU(K:PySem.W.Frag)(H:Hp)(l:List (Sum Int Str×D))(kvs:List (Key×V)):Prop:=kvs.map (·.1)=l.map (·.1)/\aO K H (l.map (·.2)) (kvs.map (·.2))
theorem fU.nil{K:PySem.W.Frag}{H:Hp}:fU K H [] []:=⟨rfl,.nil⟩
theorem fU.cons{K:PySem.W.Frag}{H:Hp}{l:List (Sum Int Str×D)}{kvs:List (Key×V)}{k:Key}{d:D}{v:V}(h:Rep K H d v)(r:fU K H l kvs):fU K H ((k,d)::l) ((k,v)::kvs):=⟨by simp[r.1],.cons h r.2⟩
theorem fU.inv{K:PySem.W.Frag}{H:Hp}{k:Key}{d:D}{l:List (Sum Int Str×D)}{kvs:List (Key×V)}(r:fU K H ((k,d)::l) kvs):∃ v kvs',kvs=(k,v)::kvs'/\Rep K H d v/\fU K H l kvs':=by
  obtain⟨r1,r2⟩:=r
  cases kvs with
  | nil=>simp at r1
  | cons q kvs =>
    obtain⟨k',v⟩:=q
    simp only[List.map_cons,List.cons.injEq] at r1
    simp only[List.map_cons,aO] at r2
    obtain⟨v',rr,e,h2,h3⟩:=r2
    cases e
    exact⟨v,kvs,by rw[r1.1],h2,r1.2,h3⟩
theorem fU.nil_inv{K:PySem.W.Frag}{H:Hp}{kvs:List (Key×V)}(r:fU K H [] kvs):kvs=[]:=by
 have:=r.1
 simpa using this
theorem fU.any{K:PySem.W.Frag}{H:Hp}(k:Key):∀ {l:List (Sum Int Str×D)} {kvs:List (Key×V)},fU K H l kvs->(l.any fun q=>decide (q.1=k))=kvs.any fun q=>decide (q.1=k)
  | [],kvs,r=>by rw[r.nil_inv];rfl
  | (k', d) :: l, kvs, r => by
    obtain⟨v,kvs',rfl,_,r'⟩:=r.inv
    simp only[List.any_cons,fU.any k r']
theorem fU.repl{K:PySem.W.Frag}{H:Hp}{k:Key}{d:D}{v:V}(hd:Rep K H d v):∀ {l:List (Sum Int Str×D)} {kvs:List (Key×V)},fU K H l kvs->fU K H (l.map fun q=>if q.1=k then(q.1,d) else q) (kvs.map fun q=>if q.1=k then(q.1,v) else q)
  | [],kvs,r=>by rw[r.nil_inv];exact .nil
  | (k', d') :: l, kvs, r => by
    obtain⟨v',kvs',rfl,h,r'⟩:=r.inv
    simp only[List.map_cons]
    by_cases q:k'=k
    · rw[if_pos q,if_pos q];exact .cons hd (fU.repl hd r')
    · rw[if_neg q,if_neg q];exact .cons h (fU.repl hd r')
theorem fU.snoc{K:PySem.W.Frag}{H:Hp}{k:Key}{d:D}{v:V}(hd:Rep K H d v):∀ {l:List (Sum Int Str×D)} {kvs:List (Key×V)},fU K H l kvs->fU K H (l++[(k,d)]) (kvs++[(k,v)])
  | [],kvs,r=>by rw[r.nil_inv];exact .cons hd .nil
  | (k', d') :: l, kvs, r => by
    obtain⟨v',kvs',rfl,h,r'⟩:=r.inv
    exact .cons h (fU.snoc hd r')
theorem fU.put{K:PySem.W.Frag}{H:Hp}{k:Key}{d:D}{v:V}{l:List (Sum Int Str×D)}{kvs:List (Key×V)}(hd:Rep K H d v)(r:fU K H l kvs):fU K H (putD l k d) (putK kvs k v):=by
 unfold putD putK
 rw[r.any k]
 split
 ·exact r.repl hd
 ·exact r.snoc hd
theorem fU.mrg{K:PySem.W.Frag}{H:Hp}:∀ {l:List (Sum Int Str×D)} {kvs:List (Key×V)} {a:List (Sum Int Str×D)} {b:List (Key×V)},fU K H l kvs->fU K H a b->fU K H (l.foldl (fun a q=>putD a q.1 q.2) a) (gA b kvs)
  | [],kvs,a,b,r,r2=>by rw[r.nil_inv];exact r2
  | (k', d') :: l, kvs, a, b, r, r2 => by
    obtain⟨v',kvs',rfl,h,r'⟩:=r.inv
    exact fU.mrg (l:=l) (kvs:=kvs') r' (r2.put h)
theorem jR{f:Expr->Option D}(hf:∀ e d,f e=some d->Ev X ρ e d):∀ {ks:List (Option Expr)} {vs:List Expr} {l:List (Sum Int Str×D)},dw f ks vs=some l->∀ σ H Hs (Q:List (V×V)->Hp->Prop),Same Hs H->bV X.K Hs ρ σ ->
    (∀ kvs H' Hs',Ext Hs H Hs' H'->fU X.K Hs' l kvs->Q (kvs.map fun q=>(kV q.1,q.2)) H')->pU (Lw X ks vs) σ H Q
  | [], [], l, h, σ, H, Hs, Q, hs, hst, hq => by
    simp only[dw,Option.some.injEq] at h;subst h
    exact hq [] H Hs (.refl hs) .nil
  | some k :: ks, v :: vs, l, h, σ, H, Hs, Q, hs, hst, hq => by
    simp only[dw] at h
    obtain⟨x,h1,h⟩:=obd h
    obtain⟨d,h2,h⟩:=obd h
    obtain⟨r,h3,h⟩:=obd h
    cases h
    obtain⟨kd,h4,h5⟩:=obd (show(f k >>=Ep)=some x from h1)
    refine hf _ _ h4 σ H Hs _ hs hst fun u H1 Hs1 E1 r1=>hf _ _ h2 σ H1 Hs1 _ E1.sub (hst.same E1.vis) fun w H2 Hs2 E2 r2=>?_
    refine jR hf h3 σ H2 Hs2 _ E2.sub ((hst.same E1.vis).same E2.vis) fun kvs H3 Hs3 E3 r3=>?_
    have:=hq ((x,w)::kvs) H3 Hs3 (E1.trans (E2.trans E3)) (.cons (Rep.same E3.vis _ _ r2) r3)
    rw[List.map_cons,<- oW h5 r1] at this
    exact this
  | [],_::_,l,h,_,_,_,_,_,_,_=>by simp[dw] at h
  | none::ks,vs,l,h,_,_,_,_,_,_,_=>by cases vs<;>simp[dw] at h
  | some k::ks,[],l,h,_,_,_,_,_,_,_=>by simp[dw] at h
theorem FT{f:Expr->Option D}{ks:List (Option Expr)}{vs:List Expr}{l:List (Sum Int Str×D)}{pos:Pos}(hf:∀ e d,f e=some d->Ev X ρ e d)(h0:ks.isEmpty=false)(h15:ks.length<=15)(h:dw f ks vs=some l):Ev X ρ (.Dict ks vs pos) (Gi (Wg l)):=by
  intro σ H Hs Q hs hst hq
  obtain⟨a1,a2,a3,a4⟩:=jf (X:=X) (pos:=pos) h
  refine PE.sem (Dq a1 a2 a3 (by intro e;rw[e] at h0;simp at h0) h15) fun p hp=>?_
  have Hn:Hs p=none:=by
    cases e:Hs p with
    | none=>rfl
    | some u=>rw[hs _ _ e] at hp;cases hp
  have hs1:Same Hs (upd H p (.dK [])):=fun b u e=>by rw[aL (aG e Hn)];exact hs b u e
  refine jR hf h σ _ Hs _ hs1 hst fun kvs H' Hs' E r=>?_
  have hH':H' p=some (.dK []):=E.all _ _ aU
  have Hn':Hs' p=none:=E.hid _ _ aU Hn
  have hz:kvs.length=l.length:=by have:=congrArg List.length r.1;simpa using this
  refine⟨hH',kvs,rfl,by omega,?_⟩
  have E2:Ext Hs H (upd Hs' p (.dK (gA [] kvs))) (upd H' p (.dK (gA [] kvs))) :=
    { vis := fun b u e => by rw [aL (aG e Hn)]; exact E.vis b u e
      all:=fun b u e=>by rw[aL (aG e hp)];exact E.all b u (by rw[aL (aG e hp)];exact e)
      sub:=fun b u e=>by
        by_cases hb:b=p
        · subst hb;rw[aU] at e ⊢;exact e
        · rw[aL hb] at e ⊢;exact E.sub b u e
      hid:=fun b u e n=>by rw[aL (aG e hp)];exact E.hid b u (by rw[aL (aG e hp)];exact e) n }
  refine hq _ _ _ E2 ?_
  have r2:=fU.mrg (a:=[]) (b:=[]) r .nil
  simp only[Gi,Rep]
  refine⟨p,gA [] kvs,rfl,.inl aU,r2.1,aO.same (fun b u e=>?_) _ _ r2.2⟩
  rw[aL (aG e Hn')];exact e
theorem FP{o e e2:Expr}{x y z d:D}{ap pos:Pos}(hr:Room k X.A)(ho:Ev X ρ o x)(hb:attributeBase o "get" X.env (eval o X.env)=eval o X.env)(hl:(ap.endLine==pos.line)=true)(h1:Ev X ρ e y)(p1:aD e=true)(h2:Ev X ρ e2 z)(p2:aD e2=true)(h:Ez x y z=some d) :
    Ev X ρ (.Call (.Attribute o "get" ap) [e,e2] [] pos) d:=by
  cases x<;>simp only[Ez] at h
  all_goals first | cases h | skip
  rename_i ks ds
  obtain⟨k',hk,rfl⟩:=Option.map_eq_some_iff.mp h
  intro σ H Hs Q hs hst hq
  have m:M2 X o "get" ap e e2 pos:=⟨hb,by simp only[starEach,ak p1,ak p2];rfl,hl,by simp only[starEach,ak p1,ak p2];rfl⟩
  have rdE:∀ {H1 H2:Hp} {a:Addr} {u:HO},Same H1 H2->Rd H1 a u->Rd H2 a u:=fun e r=>r.elim (fun q=>.inl (e _ _ q)) fun⟨o,q⟩=>.inr ⟨o,e _ _ q⟩
  refine PE.sem (yD (JV hr) ao ao ao m) (ho σ H Hs _ hs hst fun v H1 Hs1 E1 r1=>?_)
  obtain⟨p,kvs,rfl,g1,rfl,g3⟩:=uJ r1
  refine⟨p,rfl,.inl ⟨kvs,rdE E1.sub g1⟩,h1 σ H1 Hs1 _ E1.sub (hst.same E1.vis) fun u H2 Hs2 E2 r2=>h2 σ H2 Hs2 _ E2.sub ((hst.same E1.vis).same E2.vis) fun w H3 Hs3 E3 r3=>?_⟩
  have E23:=E2.trans E3
  have g3':=aO.same E23.vis _ _ g3
  refine⟨pQ kvs k',.inl ⟨kvs,k',rdE E3.sub (rdE E23.vis g1),oW hk r2,rfl⟩,hq _ H3 Hs3 (E1.trans E23) ?_⟩
  cases e:xH (kvs.map (·.1)) ds k' with
  | none=>rw[uf g3' e];exact r3
  | some d =>
    obtain⟨v,e1,e2⟩:=oh g3' e
    rw[e1]
    exact e2
theorem qU{a b:Expr}{x d:D}{i:Int}{xs:List D}{pos:Pos}(ha:Ev X ρ a x)(hb:Ev X ρ b (.int i))(hp:aD b=true)(hx:items x=some xs)(hd:atD xs i=some d):Ev X ρ (.Subscript a b pos) d:=by
  cases x with
  | tup ys =>
    simp only[items,Option.some.injEq] at hx
    subst hx
    refine dN ha hb (uW JM ao ao (fD hp)) fun u v H Hs Q hs r1 r2 hq=>?_
    obtain⟨p,vs,rfl,h1,h2⟩:=bw r1
    obtain⟨w,h3,h4⟩:=pJ h2 hd
    exact⟨p,vs,i,w,rfl,aF r2,hs.tup h1,h3,hq w H Hs (.refl hs) h4⟩
  | lst ys =>
    simp only[items,Option.some.injEq] at hx
    subst hx
    refine dN ha hb (uW lG ao ao (fD hp)) fun u v H Hs Q hs r1 r2 hq=>?_
    obtain⟨p,vs,rfl,h1,h2⟩:=bG r1
    obtain⟨w,h3,h4⟩:=pJ h2 hd
    exact⟨p,vs,i,w,rfl,aF r2,hs.seq h1,h3,hq w H Hs (.refl hs) h4⟩
  | _=>simp[items] at hx
theorem gU(n d:Nat)(o:Option Int):iQ n d o=HT.sIx n d o:=by cases o<;>rfl
theorem wA{K:PySem.W.Frag}{H:Hp}{ds:List D}{vs:List V}(lo hi:Option Int)(h:aO K H ds vs):aO K H (tD ds lo hi) (Bx vs lo hi):=by
 unfold tD Bx
 rw[gU,gU,h.length]
 exact(h.drop _).take _
def EvO(X:Cx)(ρ:Rho)(e:Option Expr)(o:Option Int):Prop:=∃ t:TO,PO X e t/\∀ σ H Hs Q,Same Hs H->bV X.K Hs ρ σ->(∀ H' Hs',Ext Hs H Hs' H'->Q o H')->t σ H Q
theorem zN:EvO X ρ none none:=⟨_,Di,fun σ H Hs Q hs hst hq=>hq H Hs (.refl hs)⟩
theorem zM{e:Expr}{i:Int}(h:Ev X ρ e (.int i)):EvO X ρ (some e) (some i):=⟨_,Dh ao,fun σ H Hs Q hs hst hq=>h σ H Hs _ hs hst fun v H' Hs' E1 r1=>⟨i,aF r1,hq H' Hs' E1⟩⟩
theorem zF{a:Expr}{lo hi:Option Expr}{l u:Option Int}{xs:List D}{p2 pos:Pos}(ha:Ev X ρ a (.tup xs))(hl:EvO X ρ lo l)(hu:EvO X ρ hi u)(hw:¬ (iQ xs.length 0 l=0/\iQ xs.length xs.length u=xs.length)) :
  Ev X ρ (.Subscript a (.Slice lo hi none p2) pos) (.tup (tD xs l u)):=by
 obtain⟨tl,pl,ql⟩:=hl
 obtain⟨tu,pu,qu⟩:=hu
 intro σ H Hs Q hs hst hq
 refine(lq Ig ao pl pu).sem (ha σ H Hs _ hs hst fun v H1 Hs1 E1 r1=>ql σ H1 Hs1 _ E1.sub (hst.same E1.vis) fun H2 Hs2 E2=>qu σ H2 Hs2 _ E2.sub ((hst.same E1.vis).same E2.vis) fun H3 Hs3 E3=>?_)
 obtain⟨p,vs,rfl,h1,h2⟩:=bw (Rep.same (E2.trans E3).vis _ _ r1)
 refine⟨p,vs,rfl,E3.sub.tup h1,?_,fun q hq'=>iu E3.sub (wA l u h2) hq' fun w H' Hs' E4 r4=>hq w H' Hs' (E1.trans (E2.trans (E3.trans E4))) r4⟩
 rw[gU,gU,h2.length] at hw
 exact hw
theorem vQ{a:Expr}{lo hi:Option Expr}{l u:Option Int}{xs:List D}{p2 pos:Pos}(ha:Ev X ρ a (.tup xs))(hl:EvO X ρ lo l)(hu:EvO X ρ hi u)(hw:iQ xs.length 0 l=0/\iQ xs.length xs.length u=xs.length) :
  Ev X ρ (.Subscript a (.Slice lo hi none p2) pos) (.tup xs):=by
 obtain⟨tl,pl,ql⟩:=hl
 obtain⟨tu,pu,qu⟩:=hu
 intro σ H Hs Q hs hst hq
 refine(lq Cz ao pl pu).sem (ha σ H Hs _ hs hst fun v H1 Hs1 E1 r1=>ql σ H1 Hs1 _ E1.sub (hst.same E1.vis) fun H2 Hs2 E2=>qu σ H2 Hs2 _ E2.sub ((hst.same E1.vis).same E2.vis) fun H3 Hs3 E3=>?_)
 have r3:=Rep.same (E2.trans E3).vis _ _ r1
 obtain⟨p,vs,rfl,h1,h2⟩:=bw r3
 refine⟨p,vs,rfl,E3.sub.tup h1,?_,hq _ H3 Hs3 (E1.trans (E2.trans E3)) r3⟩
 rw[gU,gU,h2.length] at hw
 exact hw
theorem CK{x d:D}{lo hi:Option Expr}{oi:Option Int}(h:Ly x lo hi oi=some d):lo=none/\hi=none/\oi=some (-1)/\∃ us,(x=.lst us/\d=.lst us.reverse)\/(x=.tup us/\d=.tup us.reverse):=by
 unfold Ly at h
 split at h
 ·split at h
  ·rename_i i q
   cases h
   have e:i=(-1:Int):=by simpa using q
   subst e
   exact⟨rfl,rfl,rfl,_,.inl ⟨rfl,rfl⟩⟩
  ·cases h
 ·split at h
  ·rename_i i q
   cases h
   have e:i=(-1:Int):=by simpa using q
   subst e
   exact⟨rfl,rfl,rfl,_,.inr ⟨rfl,rfl⟩⟩
  ·cases h
 ·cases h
theorem aO.rev{K:PySem.W.Frag}{H:Hp}:∀ {ds:List D} {vs:List V},aO K H ds vs->aO K H ds.reverse vs.reverse
  | [], vs, h => by
    have:vs=[]:=by simpa[aO] using h
    subst this
    simpa[aO] using h
  | d :: ds, vs, h => by
    simp only[aO] at h
    obtain⟨w,r,rfl,h1,h2⟩:=h
    rw[List.reverse_cons,List.reverse_cons]
    exact(aO.rev h2).append (.cons h1 .nil)
theorem Fv{a c:Expr}{us:List D}{p2 pos:Pos}(ha:Ev X ρ a (.lst us))(hc:Ev X ρ c (.int (-1))):Ev X ρ (.Subscript a (.Slice none none (some c) p2) pos) (.lst us.reverse):=by
 intro σ H Hs Q hs hst hq
 refine(Dp ao ao).sem (ha σ H Hs _ hs hst fun u H1 Hs1 E1 r1=>hc σ H1 Hs1 _ E1.sub (hst.same E1.vis) fun v H2 Hs2 E2 r2=>?_)
 obtain⟨p,ws,rfl,g1,g2⟩:=bG (Rep.same E2.vis _ _ r1)
 exact⟨p,ws,rfl,aF r2,E2.sub.seq g1,fun q hq'=>fj E2.sub g2.rev hq' fun w H' Hs' E r=>hq w H' Hs' ((E1.trans E2).trans E) r⟩
theorem Ft{a c:Expr}{us:List D}{p2 pos:Pos}(ha:Ev X ρ a (.tup us))(hc:Ev X ρ c (.int (-1))):Ev X ρ (.Subscript a (.Slice none none (some c) p2) pos) (.tup us.reverse):=by
 intro σ H Hs Q hs hst hq
 refine(Dn ao ao).sem (ha σ H Hs _ hs hst fun u H1 Hs1 E1 r1=>hc σ H1 Hs1 _ E1.sub (hst.same E1.vis) fun v H2 Hs2 E2 r2=>?_)
 obtain⟨p,ws,rfl,g1,g2⟩:=bw (Rep.same E2.vis _ _ r1)
 exact⟨p,ws,rfl,aF r2,E2.sub.tup g1,fun q hq'=>iu E2.sub g2.rev hq' fun w H' Hs' E r=>hq w H' Hs' ((E1.trans E2).trans E) r⟩
theorem vU{a:Expr}{lo hi:Option Expr}{l u:Option Int}{xs:List D}{p2 pos:Pos}(ha:Ev X ρ a (.lst xs))(hl:EvO X ρ lo l)(hu:EvO X ρ hi u) :
  Ev X ρ (.Subscript a (.Slice lo hi none p2) pos) (.lst (tD xs l u)):=by
 obtain⟨tl,pl,ql⟩:=hl
 obtain⟨tu,pu,qu⟩:=hu
 intro σ H Hs Q hs hst hq
 refine(lq CG ao pl pu).sem (ha σ H Hs _ hs hst fun v H1 Hs1 E1 r1=>ql σ H1 Hs1 _ E1.sub (hst.same E1.vis) fun H2 Hs2 E2=>qu σ H2 Hs2 _ E2.sub ((hst.same E1.vis).same E2.vis) fun H3 Hs3 E3=>?_)
 obtain⟨p,vs,rfl,h1,h2⟩:=bG (Rep.same (E2.trans E3).vis _ _ r1)
 exact⟨p,vs,rfl,E3.sub.seq h1,fun q hq'=>fj E3.sub (wA l u h2) hq' fun w H' Hs' E4 r4=>hq w H' Hs' (E1.trans (E2.trans (E3.trans E4))) r4⟩
theorem Ga{f:Str}{es:List Expr}{ds:List D}{d:D}{p pos:Pos}(G:Good cx k X sc)(hg:Gl X f)(hf:cx.fns.contains f=true)(hne:es≠[])(h:EvA X ρ es ds)(hp:∀ e∈es,aD e=true)(hc:cx.call f ds=some d) :
    Ev X ρ (.Call (.Name f p) es [] pos) d:=by
  obtain⟨hdb,a,fd,ps,har,_,hm,hk,hb,F⟩:=G.fns f hf
  cases es with
  | nil=>exact absurd rfl hne
  | cons e es =>
    intro σ H Hs Q hs hst hq
    refine(Dt F G.room hg hm hk hb .nil Ji bW hdb (ak (hp e (by simp))) (dg fun e' he=>hp e' (List.mem_cons_of_mem _ he))).sem (h σ H Hs _ hs hst fun vs H1 Hs1 E1 r1=>?_)
    refine⟨?_,Hs1,ds,E1.sub,?_,.inl ⟨d,hc,fun v H' Hs' E2 r2=>hq v H' Hs' (E1.trans E2) r2⟩⟩
    · rw[List.append_nil,<- r1.length,har ds d hc]
    · rw[List.append_nil];exact r1
theorem Bo(G:Good cx k X sc):∀ {es:List Expr} {fs:List Str},fnNames cx sc es=some fs->∃ as:List Addr,as.length=fs.length/\(∀ (j:Nat) (f:Str),fs[j]?=some f->cx.fns.contains f=true/\∃ a,as[j]?=some a/\X.mg f=some (.ref a))/\∀ σ H Q,Q (as.map V.ref) H->rR X es σ H Q
  | [], fs, h => by
    simp only[fnNames,Option.some.injEq] at h
    subst h
    exact⟨[],rfl,fun j f e=>by simp at e,fun σ H Q q=>cR.sem q⟩
  | e :: es, fs, h => by
    unfold fnNames at h
    split at h
    · rename_i q;cases q
    · rename_i x p r q
      cases q
      split at h
      · rename_i hc
        rw[Bool.and_eq_true] at hc
        obtain⟨fr,h1,rfl⟩:=Option.map_eq_some_iff.mp h
        obtain⟨as,g1,g2,g3⟩:=Bo G h1
        obtain⟨hdb,a,fd,ps,_,_,hm,_⟩:=G.fns x hc.2
        have hg:Gl X x:=by
          have e:sc.names.lookup x=some .globalImplicit:=by have:=hc.1;unfold nu at this;simpa using this
          show X.env.scope.names.lookup x=_
          rw[G.sce,e]
        refine⟨a::as,by simp[g1],fun j f e=>?_,fun σ H Q q=>(bx (lA (v:=.ref a) hg hm rfl hdb) bW (ak rfl)).sem (g3 σ H _ q)⟩
        cases j with
        | zero=>simp at e;subst e;exact⟨hc.2,a,rfl,hm⟩
        | succ j=>exact g2 j f (by simpa using e)
      · cases h
    · cases h
theorem vV{f:Str}{es:List Expr}{ix:Expr}{i:Int}{p1 p2:Pos}(G:Good cx k X sc)(hf:fnAt cx sc es i=some f)(hi:Ev X ρ ix (.int i))(hpi:aD ix=true):cx.fns.contains f=true/\∃ a,X.mg f=some (.ref a) /\
    ∀ σ H Hs Q,Same Hs H->bV X.K Hs ρ σ->(∀ H' Hs',Ext Hs H Hs' H'->Q (.ref a) H')->j8 X (.Subscript (.List es p1) ix p2) σ H Q:=by
  unfold fnAt at hf
  cases hn:fnNames cx sc es with
  | none=>rw[hn] at hf;cases hf
  | some fs =>
    rw[hn] at hf
    have hf':(if szl fs.length then(ixD fs.length i).bind fun j=>fs[j]? else none)=some f:=hf
    split at hf'
    · rename_i hz
      obtain⟨j,q1,q2⟩:=Option.bind_eq_some_iff.mp hf'
      obtain⟨as,g1,g2,g3⟩:=Bo (X:=X) G hn
      obtain⟨c1,a,c2,c3⟩:=g2 j f q2
      refine⟨c1,a,c3,fun σ H Hs Q hs hst hq=>?_⟩
      refine(uW lG ao ao (fD hpi)).sem ((uV bW).sem (g3 σ H _ ⟨by rw[List.length_map,g1];exact eY hz,fun p hp=>?_⟩))
      have E0:Ext Hs H Hs (upd H p (.lst (as.map V.ref))):={
        vis:=fun b u e=>e
        all:=fun b u e=>by rw[aL (aG e hp)];exact e
        sub:=fun b u e=>by rw[aL (aG (hs b u e) hp)];exact hs b u e
        hid:=fun b u e n=>n }
      refine hi σ _ Hs _ E0.sub hst fun v H1 Hs1 E1 r1=>?_
      refine⟨p,as.map V.ref,i,.ref a,rfl,aF r1,.of (E1.all _ _ aU),?_,hq H1 Hs1 (E0.trans E1)⟩
      unfold atI
      rw[List.length_map,g1,<- jX,q1]
      show(as.map V.ref)[j]?=_
      rw[List.getElem?_map,c2];rfl
    · cases hf'
theorem zJ{f:Str}{es args:List Expr}{ix:Expr}{i:Int}{ds:List D}{d:D}{p1 p2 pos:Pos}(G:Good cx k X sc)(hf:fnAt cx sc es i=some f)(hi:Ev X ρ ix (.int i))(hpi:aD ix=true)(hne:args≠[])(hA:EvA X ρ args ds)(hp:∀ e∈args,aD e=true)(hc:cx.call f ds=some d) :
    Ev X ρ (.Call (.Subscript (.List es p1) ix p2) args [] pos) d:=by
  obtain⟨hfn,a0,hm0,callee⟩:=vV (p1:=p1) (p2:=p2) G hf hi hpi
  obtain⟨hdb,a,fd,ps,har,_,hm,hk,hb,F⟩:=G.fns f hfn
  obtain rfl:a=a0:=by rw[hm] at hm0;exact Value.ref.inj (Option.some.inj hm0)
  cases args with
  | nil=>exact absurd rfl hne
  | cons e args =>
    intro σ H Hs Q hs hst hq pins s I
    refine Call_ (thn (callee σ H Hs (fun v H1=>v=.ref a/\∃ Hs1,Ext Hs H Hs1 H1) hs hst (fun H1 Hs1 E1=>⟨rfl,Hs1,E1⟩) pins s I) fun u s1 ⟨v,H1,I1,r,e1,Hs1,E1⟩=>?_)
    subst e1
    cases (show u=Value.ref a from r)
    refine PySem.W.callWith_K (h₀:=X.base) I1.ok.mod.kin hk ?_ (ak (hp e (by simp))) (dg fun e' he=>hp e' (List.mem_cons_of_mem _ he))
    refine thn (hA σ H1 Hs1 (fun vs H2=>∃ Hs2,Ext Hs1 H1 Hs2 H2/\aO X.K Hs2 ds vs) E1.sub (hst.same E1.vis) (fun vs H2 Hs2 E2 r2=>⟨Hs2,E2,r2⟩) pos pins s1 I1) fun us s2 ⟨vs,H2,I2,r,Hs2,E2,r2⟩=>⟨I2.kIn,?_⟩
    refine Af F G.room hb .nil Ji I2 r ?_
    rw[List.append_nil]
    exact⟨by rw[<- r2.length,har ds d hc],Hs2,ds,E2.sub,r2,.inl ⟨d,hc,fun v H' Hs' E3 r3=>hq v H' Hs' (E1.trans (E2.trans E3)) r3⟩⟩
def KJ(X:Cx)(f:Value):List V->Hp->VK->Prop:=fun vs H Q=>∀ pins s σ us,Inv X pins σ H s->Vals vs us->wpAny (model X.prog X.w) X.A (call f us) (EP X pins σ Q) X.xe s
theorem cP{f:Value}:bK X f (KJ X f):=fun pins s σ H xs us Q I r h=>h pins s σ us I r
theorem bK.sem{f:Value}{r:List V->Hp->VK->Prop}{vs:List V}{H:Hp}{Q:VK}(h:bK X f r)(q:r vs H Q):KJ X f vs H Q:=fun pins s σ us I rv=>h pins s σ H vs us Q I rv q
def EvC(X:Cx)(f:Value)(ds:List D)(d:D):Prop:=∀ vs H Hs Q,Same Hs H->aO X.K Hs ds vs->(∀ v H' Hs',Ext Hs H Hs' H'->Rep X.K Hs' d v->Q v H')->KJ X f vs H Q
theorem gY{K:PySem.W.Frag}{H:Hp}{d:D}{vs:List V}(h:aO K H [d] vs):∃ v,vs=[v]/\Rep K H d v:=by
 simp only[aO] at h
 obtain⟨v,r,rfl,h1,h2⟩:=h
 subst h2
 exact⟨v,rfl,h1⟩
theorem CN{K:PySem.W.Frag}{H:Hp}{d e:D}{vs:List V}(h:aO K H [d,e] vs):∃ v w,vs=[v,w]/\Rep K H d v/\Rep K H e w:=by
 simp only[aO] at h
 obtain⟨v,r,rfl,h1,w,r2,rfl,h2,h3⟩:=h
 subst h3
 exact⟨v,w,rfl,h1,h2⟩
theorem iW{K:PySem.W.Frag}{H:Hp}{d:D}{l:List D}{v:V}(h:Rep K H d v)(e:items d=some l):∃ a vs,v=.ref a/\(SqL K H a vs\/SqT K H a vs)/\aO K H l vs:=by
 cases d with
 | tup xs=>simp only[items,Option.some.injEq] at e;subst e;obtain⟨a,vs,e1,e2,e3⟩:=bw h;exact⟨a,vs,e1,.inr e2,e3⟩
 | lst xs=>simp only[items,Option.some.injEq] at e;subst e;obtain⟨a,vs,e1,e2,e3⟩:=bG h;exact⟨a,vs,e1,.inl e2,e3⟩
 | _=>simp[items] at e
theorem mj{K:PySem.W.Frag}{H:Hp}:∀ {ds:List D} {bs:List Bool} {vs:List V},mq ds=some bs->aO K H ds vs->vs=bs.map V.bl
  | [], ns, vs, h, r => by
    simp only[mq,Option.some.injEq] at h;subst h
    simpa[aO] using r
  | .bl i :: ds, ns, vs, h, r => by
    simp only[mq,Option.map_eq_some_iff] at h
    obtain⟨ms,h1,rfl⟩:=h
    simp only[aO] at r
    obtain⟨v,r',rfl,h2,h3⟩:=r
    rw[cW h2,mj h1 h3]
    rfl
  | .non::ds,ns,vs,h,r=>by simp[mq] at h
  | .int _::ds,ns,vs,h,r=>by simp[mq] at h
  | .str _::ds,ns,vs,h,r=>by simp[mq] at h
  | .tup _::ds,ns,vs,h,r=>by simp[mq] at h
  | .lst _::ds,ns,vs,h,r=>by simp[mq] at h
  | .exc _::ds,ns,vs,h,r=>by simp[mq] at h
  | .dic _ _::ds,ns,vs,h,r=>by simp[mq] at h
theorem fZ:∀ {bs:List Bool} {us:List Value},Vals (bs.map V.bl) us->LSm.BoolsAre us bs
  | [],us,r=>by rw[List.map_nil] at r;cases r;exact .nil
  | b :: bs, us, r => by
    rw[List.map_cons] at r
    cases r with
    | cons r1 r2 =>
      cases (show _=Value.bool b from r1)
      exact .cons b (fZ r2)
theorem wG(hc:X.calm=true):bK X (.builtin "sum") (fun xs H Q=>∃ (p:Addr) (ns:List Int),xs=[.ref p]/\SqL X.K H p (ns.map V.int)/\Q (.int ns.sum) H):=by
 intro pins s σ H xs us Q I r h
 obtain⟨p,ns,rfl,hq,q⟩:=h
 obtain⟨u,rfl,rx⟩:=vals1 r
 cases (show u=Value.ref p from rx)
 obtain⟨its,r',pl,hz⟩:=I.list hq
 have hi:=intsAre_of r'
 obtain⟨zs,hx⟩:=hi.allInts.items
 have hl':s.heap.IsList p (intItems zs):=hx▸pl.isList
 refine sum_intListG (I.ok.hd hc) hl' fun h' tk t' hk=>⟨.int ns.sum,H,I.kept hk,⟨t',?_⟩,q⟩
 have e1:ns=zs.toList.map (·.1):=by
  rw[<- nums_intItems,<- hx]
  exact(show numsOf its.toArray.toList=ns from hi.numsOf).symm
 rw[preSum_eq,List.take_of_length_le (by simp),e1]
theorem wQ(hc:X.calm=true):bK X (.builtin "all") (fun xs H Q=>∃ (p:Addr) (bs:List Bool),xs=[.ref p]/\SqL X.K H p (bs.map V.bl)/\Q (.bl (bs.all id)) H):=by
 intro pins s σ H xs us Q I r h
 obtain⟨p,bs,rfl,hq,q⟩:=h
 obtain⟨u,rfl,rx⟩:=vals1 r
 cases (show u=Value.ref p from rx)
 obtain⟨its,r',pl,hz⟩:=I.list hq
 have hb:=fZ r'
 have hl:=pl.isList
 have hlt:p<s.heap.objs.size:=by obtain⟨_,e,_⟩:=hl;exact Heap.lt_size e
 refine call_all_walk (wpAny_pyIter_list hl ⟨s.heap.objs.size,[s.heap.objs.size,p],[s.heap.objs.size],its.toArray.size,_,_,fun i=>(bs[i]?).getD true,rfl,Walks.list (A:=X.A.in1) (I.ok.hd hc) _ p (Nat.ne_of_lt hlt) its.toArray,⟨⟨_,Heap.get?_push_size _ rfl,rfl,rfl⟩,hl.push _⟩,fun i v s' Q' E' hP hQ=>?_,fun h' tk hk=>?_⟩)
 ·obtain⟨b,e,rfl⟩:=hb.get i v (by simpa using hP)
  simp only[e,Option.getD_some] at hQ
  exact wpAny_truthy_bool hQ
 ·have e:((List.range its.toArray.size).all fun i=>(bs[i]?).getD true)=bs.all id:=by rw[List.size_toArray,hb.length];exact LSm.range_all bs
  rw[e]
  exact⟨.bl _,H,I.kept (LSm.kept_iter hk),rfl,q⟩
theorem su(bs:List Bool):((List.range bs.length).any fun i=>(bs[i]?).getD false)=bs.any id:=by
 rw[Bool.eq_iff_iff,List.any_eq_true,List.any_eq_true]
 constructor
 ·rintro⟨i,hi,h⟩
  have hi':=List.mem_range.mp hi
  rw[List.getElem?_eq_getElem hi'] at h
  exact⟨_,List.getElem_mem hi',h⟩
 ·rintro⟨b,hb,h⟩
  obtain⟨i,hi,rfl⟩:=List.mem_iff_getElem.mp hb
  exact⟨i,List.mem_range.mpr hi,by rw[List.getElem?_eq_getElem hi];exact h⟩
theorem wO(hc:X.calm=true):bK X (.builtin "any") (fun xs H Q=>∃ (p:Addr) (bs:List Bool),xs=[.ref p]/\SqL X.K H p (bs.map V.bl)/\Q (.bl (bs.any id)) H):=by
 intro pins s σ H xs us Q I r h
 obtain⟨p,bs,rfl,hq,q⟩:=h
 obtain⟨u,rfl,rx⟩:=vals1 r
 cases (show u=Value.ref p from rx)
 obtain⟨its,r',pl,hz⟩:=I.list hq
 have hb:=fZ r'
 have hl:=pl.isList
 have hlt:p<s.heap.objs.size:=by obtain⟨_,e,_⟩:=hl;exact Heap.lt_size e
 refine call_any_walk (wpAny_pyIter_list hl ⟨s.heap.objs.size,[s.heap.objs.size,p],[s.heap.objs.size],its.toArray.size,_,_,fun i=>(bs[i]?).getD false,rfl,Walks.list (A:=X.A.in1) (I.ok.hd hc) _ p (Nat.ne_of_lt hlt) its.toArray,⟨⟨_,Heap.get?_push_size _ rfl,rfl,rfl⟩,hl.push _⟩,fun i v s' Q' E' hP hQ=>?_,fun h' tk hk=>?_⟩)
 ·obtain⟨b,e,rfl⟩:=hb.get i v (by simpa using hP)
  simp only[e,Option.getD_some] at hQ
  exact wpAny_truthy_bool hQ
 ·have e:((List.range its.toArray.size).any fun i=>(bs[i]?).getD false)=bs.any id:=by rw[List.size_toArray,hb.length];exact su bs
  rw[e]
  exact⟨.bl _,H,I.kept (LSm.kept_iter hk),rfl,q⟩
theorem wF(hc:X.calm=true):bK X (.builtin "sum") (fun xs H Q=>∃ (p:Addr) (ns:List Int),xs=[.ref p]/\SqT X.K H p (ns.map V.int)/\Q (.int ns.sum) H):=by
 intro pins s σ H xs us Q I r h
 obtain⟨p,ns,rfl,hq,q⟩:=h
 obtain⟨u,rfl,rx⟩:=vals1 r
 cases (show u=Value.ref p from rx)
 obtain⟨its,r',pl,hz⟩:=I.tuple hq
 have hi:=intsAre_of r'
 obtain⟨zs,hx⟩:=hi.allInts.items
 have hl':s.heap.IsTuple p (intItems zs):=hx▸pl
 have lt:p<s.heap.objs.size:=pl.lt
 refine call_sum_walkG (wpAny_pyIter_tuple hl' ⟨_,_,_,_,_,_,numAt zs,rfl,Walks.tuple (A:=X.A.in1) (I.ok.hd hc) _ p (Nat.ne_of_lt lt) (intItems zs),⟨⟨_,Heap.get?_push_size _ rfl,rfl,rfl⟩,by obtain⟨o,e,rr⟩:=hl';exact⟨o,Heap.get?_push_of_some _ e,rr⟩⟩,?_,(fun _ _=>intItems_at),fun h' tk t' hk=>?_⟩)
 ·intro b hb
  show b<(s.heap.push _).objs.size
  rw[Heap.size_push]
  simp at hb
  rcases hb with rfl | rfl
  ·exact Nat.lt_succ_self _
  ·exact Nat.lt_succ_of_lt lt
 ·have kp:∀ b o,s.heap.get? b=some o->h'.get? b=some o:=fun b o e=>hk b o (by simp;exact Nat.ne_of_lt (Heap.lt_size e)) (Heap.get?_push_of_some _ e)
  refine⟨.int ns.sum,H,I.kept kp,⟨t',?_⟩,q⟩
  have e1:ns=zs.toList.map (·.1):=by
   rw[<- nums_intItems,<- hx]
   exact(show numsOf its.toArray.toList=ns from hi.numsOf).symm
  have e2:(intItems zs).size=zs.size:=by simp[intItems]
  rw[e2,preSum_eq,List.take_of_length_le (by simp),e1]
theorem Fq{d0:D}{l:List D}(hl:items d0=some l):EvC X (.type "tuple") [d0] (.tup l):=by
  intro vs H Hs Q hs hr hq
  obtain⟨v,rfl,r1⟩:=gY hr
  refine bK.sem lW ?_
  cases d0 with
  | tup xs =>
    simp only[items,Option.some.injEq] at hl;subst hl
    obtain⟨a,us,rfl,h1,h2⟩:=bw r1
    exact⟨a,us,rfl,.inr ⟨hs.tup h1,hq _ H Hs (.refl hs) r1⟩⟩
  | lst xs =>
    simp only[items,Option.some.injEq] at hl;subst hl
    obtain⟨a,us,rfl,h1,h2⟩:=bG r1
    exact⟨a,us,rfl,.inl ⟨hs.seq h1,fun p hp=>iu hs h2 hp hq⟩⟩
  | _=>simp[items] at hl
def WD:String->Value
 | "tuple"=>.type "tuple"
 | "list"=>.type "list"
 | "int"=>.type "int"
 | b=>.builtin b
theorem vd:∀ (n:Nat) (xs:List Int) (x:Int) (r:List Int),xs=x::r->r.length=n->xs.getD (argBest (fun i j=>decide (xs.getD i 0>xs.getD j 0)) n) 0=mxL r x:=by
  have key:∀ (n:Nat) (x:Int) (r q:List Int),n=r.length->(x::r++q).getD (argBest (fun i j=>decide ((x::r++q).getD i 0>(x::r++q).getD j 0)) n) 0=mxL r x:=by
    intro n
    induction n with
    | zero =>
      intro x r q h
      have:r=[]:=List.length_eq_zero_iff.mp h.symm
      subst this;rfl
    | succ n ih =>
      intro x r q h
      obtain⟨r',y,rfl⟩:∃ r' y,r=r'++[y]:=⟨r.dropLast,r.getLast (by intro e;rw[e] at h;simp at h),(List.dropLast_concat_getLast _).symm⟩
      have hl:n=r'.length:=by simp at h;omega
      have e:=ih x r' (y::q) hl
      have e0:x::(r'++[y])++q=x::r'++y::q:=by simp
      rw[e0]
      have ml:∀ (r':List Int) (x:Int),mxL (r'++[y]) x=if y>mxL r' x then y else mxL r' x:=by
        intro r'
        induction r' with
        | nil=>intro x;rfl
        | cons a r' ih2=>intro x;exact ih2 _
      have gy:(x::r'++y::q).getD (n+1) 0=y:=by
        rw[List.getD_eq_getElem?_getD,List.cons_append,List.getElem?_cons_succ,List.getElem?_append_right (by omega),hl,Nat.sub_self];rfl
      rw[ml,argBest]
      simp only[gy,e,decide_eq_true_eq]
      by_cases c:y>mxL r' x
      · simp only[c,if_true,gy]
      · simp only[c,if_false,e]
  intro n xs x r h1 h2
  subst h1
  have:=key n x r [] h2.symm
  simpa using this
theorem wL(hc:X.calm=true):bK X (.builtin "max") (fun xs H Q=>∃ (p:Addr) (x:Int) (r:List Int),xs=[.ref p]/\SqL X.K H p ((x::r).map V.int)/\Q (.int (mxL r x)) H):=by
 intro pins s σ H xs us Q I r h
 obtain⟨p,x,ns,rfl,hq,q⟩:=h
 obtain⟨u,rfl,rx⟩:=vals1 r
 cases (show u=Value.ref p from rx)
 obtain⟨its,r',pl,hz⟩:=I.list hq
 have hi:=intsAre_of r'
 obtain⟨zs,hx⟩:=hi.allInts.items
 have hl':s.heap.IsList p (intItems zs):=hx▸pl.isList
 have e1:x::ns=zs.toList.map (·.1):=by
  rw[<- nums_intItems,<- hx]
  exact(show numsOf its.toArray.toList=x::ns from hi.numsOf).symm
 have n1:zs.size=ns.length+1:=by simpa using(congrArg List.length e1).symm
 have at1:∀ m,numAt zs m=(x::ns).getD m 0:=fun m=>by
  unfold numAt
  rw[e1,List.getD_eq_getElem?_getD,List.getElem?_map,Array.getElem?_toList]
 refine max_intList (I.ok.hd hc) hl' (by omega) fun v h' tk hv kp=>⟨.int _,H,I.kept kp,?_,q⟩
 obtain⟨t,rfl⟩:=intItems_at hv
 refine⟨t,?_⟩
 congr 1
 rw[n1,at1]
 simp only[at1,Nat.add_one_sub_one]
 exact vd ns.length (x::ns) x ns rfl rfl
theorem Eh:∀ (n:Nat) (xs:List Int) (x:Int) (r:List Int),xs=x::r->r.length=n->xs.getD (argBest (fun i j=>decide (xs.getD i 0<xs.getD j 0)) n) 0=mnL r x:=by
  have key:∀ (n:Nat) (x:Int) (r q:List Int),n=r.length->(x::r++q).getD (argBest (fun i j=>decide ((x::r++q).getD i 0<(x::r++q).getD j 0)) n) 0=mnL r x:=by
    intro n
    induction n with
    | zero =>
      intro x r q h
      have:r=[]:=List.length_eq_zero_iff.mp h.symm
      subst this;rfl
    | succ n ih =>
      intro x r q h
      obtain⟨r',y,rfl⟩:∃ r' y,r=r'++[y]:=⟨r.dropLast,r.getLast (by intro e;rw[e] at h;simp at h),(List.dropLast_concat_getLast _).symm⟩
      have hl:n=r'.length:=by simp at h;omega
      have e:=ih x r' (y::q) hl
      have e0:x::(r'++[y])++q=x::r'++y::q:=by simp
      rw[e0]
      have ml:∀ (r':List Int) (x:Int),mnL (r'++[y]) x=if y<mnL r' x then y else mnL r' x:=by
        intro r'
        induction r' with
        | nil=>intro x;rfl
        | cons a r' ih2=>intro x;exact ih2 _
      have gy:(x::r'++y::q).getD (n+1) 0=y:=by
        rw[List.getD_eq_getElem?_getD,List.cons_append,List.getElem?_cons_succ,List.getElem?_append_right (by omega),hl,Nat.sub_self];rfl
      rw[ml,argBest]
      simp only[gy,e,decide_eq_true_eq]
      by_cases c:y<mnL r' x
      · simp only[c,if_true,gy]
      · simp only[c,if_false,e]
  intro n xs x r h1 h2
  subst h1
  have:=key n x r [] h2.symm
  simpa using this
theorem wH(hc:X.calm=true):bK X (.builtin "min") (fun xs H Q=>∃ (p:Addr) (x:Int) (r:List Int),xs=[.ref p]/\SqT X.K H p ((x::r).map V.int)/\Q (.int (mnL r x)) H):=by
 intro pins s σ H xs us Q I r h
 obtain⟨p,x,ns,rfl,hq,q⟩:=h
 obtain⟨u,rfl,rx⟩:=vals1 r
 cases (show u=Value.ref p from rx)
 obtain⟨its,r',pl,hz⟩:=I.tuple hq
 have hi:=intsAre_of r'
 obtain⟨zs,hx⟩:=hi.allInts.items
 have hl':s.heap.IsTuple p (intItems zs):=hx▸pl
 have lt:p<s.heap.objs.size:=pl.lt
 have e1:x::ns=zs.toList.map (·.1):=by
  rw[<- nums_intItems,<- hx]
  exact(show numsOf its.toArray.toList=x::ns from hi.numsOf).symm
 have n1:zs.size=ns.length+1:=by simpa using(congrArg List.length e1).symm
 have at1:∀ m,numAt zs m=(x::ns).getD m 0:=fun m=>by
  unfold numAt
  rw[e1,List.getD_eq_getElem?_getD,List.getElem?_map,Array.getElem?_toList]
 refine call_min_walk (wpAny_pyIter_tuple hl' ⟨_,_,_,_,_,_,_,rfl,Walks.tuple (A:=X.A.in1) (I.ok.hd hc) _ p (Nat.ne_of_lt lt) (intItems zs),⟨⟨_,Heap.get?_push_size _ rfl,rfl,rfl⟩,by obtain⟨o,e,rr⟩:=hl';exact⟨o,Heap.get?_push_of_some _ e,rr⟩⟩,?_,by simp[intItems];omega,CmpOf.ints_lt (numAt zs) (fun _ _=>intItems_at),fun v h' tk hv hk=>?_⟩)
 ·intro b hb
  show b<(s.heap.push _).objs.size
  rw[Heap.size_push]
  simp at hb
  rcases hb with rfl | rfl
  ·exact Nat.lt_succ_self _
  ·exact Nat.lt_succ_of_lt lt
 ·have kp:∀ b o,s.heap.get? b=some o->h'.get? b=some o:=fun b o e=>hk b o (by simp;exact Nat.ne_of_lt (Heap.lt_size e)) (Heap.get?_push_of_some _ e)
  refine⟨.int (mnL ns x),H,I.kept kp,?_,q⟩
  obtain⟨t,rfl⟩:=intItems_at hv
  refine⟨t,?_⟩
  congr 1
  have e2:(intItems zs).size=ns.length+1:=by simp[intItems,n1]
  rw[e2,at1]
  simp only[at1,Nat.add_one_sub_one]
  exact Eh ns.length (x::ns) x ns rfl rfl
theorem Ju{xs:List D}{d:D}(h:mnT xs=some d):∃ x r,iI xs=some (x::r)/\d=.int (mnL r x):=by
 unfold mnT at h
 obtain⟨is,h1,h2⟩:=Option.bind_eq_some_iff.mp h
 cases is with
 | nil=>cases h2
 | cons x r=>cases h2;exact⟨x,r,h1,rfl⟩
theorem wK(hc:X.calm=true):bK X (.builtin "max") (fun xs H Q=>∃ (p:Addr) (x:Int) (r:List Int),xs=[.ref p]/\SqT X.K H p ((x::r).map V.int)/\Q (.int (mxL r x)) H):=by
 intro pins s σ H xs us Q I r h
 obtain⟨p,x,ns,rfl,hq,q⟩:=h
 obtain⟨u,rfl,rx⟩:=vals1 r
 cases (show u=Value.ref p from rx)
 obtain⟨its,r',pl,hz⟩:=I.tuple hq
 have hi:=intsAre_of r'
 obtain⟨zs,hx⟩:=hi.allInts.items
 have hl':s.heap.IsTuple p (intItems zs):=hx▸pl
 have lt:p<s.heap.objs.size:=pl.lt
 have e1:x::ns=zs.toList.map (·.1):=by
  rw[<- nums_intItems,<- hx]
  exact(show numsOf its.toArray.toList=x::ns from hi.numsOf).symm
 have n1:zs.size=ns.length+1:=by simpa using(congrArg List.length e1).symm
 have at1:∀ m,numAt zs m=(x::ns).getD m 0:=fun m=>by
  unfold numAt
  rw[e1,List.getD_eq_getElem?_getD,List.getElem?_map,Array.getElem?_toList]
 refine call_max_walk (wpAny_pyIter_tuple hl' ⟨_,_,_,_,_,_,_,rfl,Walks.tuple (A:=X.A.in1) (I.ok.hd hc) _ p (Nat.ne_of_lt lt) (intItems zs),⟨⟨_,Heap.get?_push_size _ rfl,rfl,rfl⟩,by obtain⟨o,e,rr⟩:=hl';exact⟨o,Heap.get?_push_of_some _ e,rr⟩⟩,?_,by simp[intItems];omega,CmpOf.ints_gt (numAt zs) (fun _ _=>intItems_at),fun v h' tk hv hk=>?_⟩)
 ·intro b hb
  show b<(s.heap.push _).objs.size
  rw[Heap.size_push]
  simp at hb
  rcases hb with rfl | rfl
  ·exact Nat.lt_succ_self _
  ·exact Nat.lt_succ_of_lt lt
 ·have kp:∀ b o,s.heap.get? b=some o->h'.get? b=some o:=fun b o e=>hk b o (by simp;exact Nat.ne_of_lt (Heap.lt_size e)) (Heap.get?_push_of_some _ e)
  refine⟨.int (mxL ns x),H,I.kept kp,?_,q⟩
  obtain⟨t,rfl⟩:=intItems_at hv
  refine⟨t,?_⟩
  congr 1
  have e2:(intItems zs).size=ns.length+1:=by simp[intItems,n1]
  rw[e2,at1]
  simp only[at1,Nat.add_one_sub_one]
  exact vd ns.length (x::ns) x ns rfl rfl
theorem Bb{xs:List D}{d:D}(h:mxN xs=some d):∃ x r,iI xs=some (x::r)/\d=.int (mxL r x):=by
 unfold mxN at h
 obtain⟨is,h1,h2⟩:=Option.bind_eq_some_iff.mp h
 cases is with
 | nil=>cases h2
 | cons x r=>cases h2;exact⟨x,r,h1,rfl⟩
theorem Kc{b:String}{ds:List D}{d:D}(hc:X.calm=true)(h:DE.blt b ds=some d):EvC X (WD b) ds d:=by
 intro vs H Hs Q hs hr hq
 unfold DE.blt at h
 split at h
 ·simp only[bind,Option.bind] at h
  split at h
  ·cases h
  ·rename_i l hl
   cases h
   obtain⟨v,rfl,r1⟩:=gY hr
   obtain⟨a,us,rfl,h1,h2⟩:=iW r1 hl
   refine bK.sem nQ ⟨a,us,rfl,h1.imp hs.seq hs.tup,?_⟩
   rw[<- h2.length]
   exact hq _ H Hs (.refl hs) (by simp[Rep])
 ·simp only[bind,Option.bind] at h
  split at h
  ·cases h
  ·rename_i l hl
   cases h
   obtain⟨v,rfl,r1⟩:=gY hr
   obtain⟨a,us,rfl,h1,h2⟩:=bG r1
   have e:=mj hl h2
   subst e
   exact bK.sem (wQ hc) ⟨a,_,rfl,hs.seq h1,hq _ H Hs (.refl hs) (by simp[Rep])⟩
 ·simp only[bind,Option.bind] at h
  split at h
  ·cases h
  ·rename_i l hl
   cases h
   obtain⟨v,rfl,r1⟩:=gY hr
   obtain⟨a,us,rfl,h1,h2⟩:=bG r1
   have e:=dR hl h2
   subst e
   exact bK.sem (wG hc) ⟨a,_,rfl,hs.seq h1,hq _ H Hs (.refl hs) (by simp[Rep])⟩
 ·simp only[bind,Option.bind] at h
  split at h
  ·cases h
  ·rename_i l hl
   cases h
   obtain⟨v,rfl,r1⟩:=gY hr
   obtain⟨a,us,rfl,h1,h2⟩:=bw r1
   have e:=dR hl h2
   subst e
   exact bK.sem (wF hc) ⟨a,_,rfl,hs.tup h1,hq _ H Hs (.refl hs) (by simp[Rep])⟩
 ·simp only[bind,Option.bind] at h
  split at h
  ·cases h
  ·rename_i l hl
   cases h
   exact Fq hl vs H Hs Q hs hr hq
 ·simp only[bind,Option.bind] at h
  split at h
  ·cases h
  ·rename_i l hl
   cases h
   obtain⟨v,rfl,r1⟩:=gY hr
   obtain⟨a,us,rfl,h1,h2⟩:=iW r1 hl
   exact bK.sem iH ⟨a,us,rfl,h1.imp hs.seq hs.tup,fun p hp=>fj hs h2 hp hq⟩
 ·simp only[bind,Option.bind] at h
  split at h
  ·cases h
  ·rename_i l hl
   cases h
   obtain⟨v,rfl,r1⟩:=gY hr
   obtain⟨a,us,rfl,h1,h2⟩:=bG r1
   have e:=mj hl h2
   subst e
   exact bK.sem (wO hc) ⟨a,_,rfl,hs.seq h1,hq _ H Hs (.refl hs) (by simp[Rep])⟩
 ·obtain⟨x,r,hx,rfl⟩:=Ju h
  obtain⟨v,rfl,r1⟩:=gY hr
  obtain⟨a,us,rfl,h1,h2⟩:=bw r1
  have e:=dR hx h2
  subst e
  exact bK.sem (wH hc) ⟨a,x,r,rfl,hs.tup h1,hq _ H Hs (.refl hs) (by simp[Rep])⟩
 ·simp at h
 ·obtain⟨x,r,hx,rfl⟩:=Bb h
  obtain⟨v,rfl,r1⟩:=gY hr
  obtain⟨a,us,rfl,h1,h2⟩:=bG r1
  have e:=dR hx h2
  subst e
  exact bK.sem (wL hc) ⟨a,x,r,rfl,hs.seq h1,hq _ H Hs (.refl hs) (by simp[Rep])⟩
 ·obtain⟨x,r,hx,rfl⟩:=Bb h
  obtain⟨v,rfl,r1⟩:=gY hr
  obtain⟨a,us,rfl,h1,h2⟩:=bw r1
  have e:=dR hx h2
  subst e
  exact bK.sem (wK hc) ⟨a,x,r,rfl,hs.tup h1,hq _ H Hs (.refl hs) (by simp[Rep])⟩
 ·cases h
  obtain⟨v,w,rfl,r1,r2⟩:=CN hr
  exact bK.sem (wJ hc) ⟨_,_,by rw[aF r1,aF r2],hq _ H Hs (.refl hs) (by simp[Rep])⟩
 ·cases h
  obtain⟨v,w,rfl,r1,r2⟩:=CN hr
  exact bK.sem (wM hc) ⟨_,_,by rw[aF r1,aF r2],hq _ H Hs (.refl hs) (by simp[Rep])⟩
 ·cases h
  obtain⟨v,rfl,r1⟩:=gY hr
  exact bK.sem zX ⟨_,by rw[aF r1],hq _ H Hs (.refl hs) (by simp[Rep])⟩
 ·cases h
  obtain⟨v,rfl,r1⟩:=gY hr
  exact bK.sem nR (.inr ⟨_,by rw[cW r1],hq _ H Hs (.refl hs) (by simp[Rep,DE.b2i])⟩)
 ·cases h
  obtain⟨v,rfl,r1⟩:=gY hr
  exact bK.sem nR (.inl ⟨_,by rw[aF r1],hq _ H Hs (.refl hs) (by simp[Rep])⟩)
 ·cases h
end
end L2
namespace L2
open PySem PySem.Spec PyProof.Rows DE PySem.SeqAt
section
variable {X:Cx} {ρ:Rho} {cx:Cxt} {k:Nat} {sc:Scope}
theorem bI{x:Str}{b:String}(G:Good cx k X sc)(h:bC cx sc x=some b):Gl X x/\X.mg x=none/\x=Str.ofString b:=by
 unfold bC nu at h
 split at h
 ·rename_i hg
  have e:sc.names.lookup x=some .globalImplicit:=by simpa using hg
  refine⟨?_,G.blt x b h⟩
  show X.env.scope.names.lookup x=_
  rw[G.sce,e]
 ·cases h
theorem wR{b:String}{ds:List D}{d:D}(h:DE.blt b ds=some d):b="len"\/b="all"\/b="sum"\/b="tuple"\/b="list"\/b="min"\/b="max"\/b="abs"\/b="int"\/b="any":=by
 unfold DE.blt at h
 split at h<;>first | (simp;done) | cases h
theorem zL{x:Str}{b:String}{e:Expr}{es:List Expr}{ds:List D}{d:D}{p pos:Pos}(G:Good cx k X sc)(hx:bC cx sc x=some b)(h:EvA X ρ (e::es) ds)(hp:∀ a∈e::es,aD a=true)(hd:DE.blt b ds=some d) :
  Ev X ρ (.Call (.Name x p) (e::es) [] pos) d:=by
 obtain⟨hg,hm,rfl⟩:=bI G hx
 have c:=Kc (X:=X) G.calm hd
 have s1:=ak (env:=X.env) (es:=es) (hp e (by simp))
 have s2:=dg (env:=X.env) (pos:=pos) fun a ha=>hp a (List.mem_cons_of_mem _ ha)
 have fin:∀ f:Value,WD b=f->PE X (.Call (.Name (Str.ofString b) p) (e::es) [] pos) (tCB (KJ X f) (rR X (e::es)))->Ev X ρ (.Call (.Name (Str.ofString b) p) (e::es) [] pos) d:=by
  intro f hf hpe σ H Hs Q hs hst hq
  rw[hf] at c
  refine hpe.sem (h σ H Hs _ hs hst fun vs H1 Hs1 E1 r1=>?_)
  exact c vs H1 Hs1 Q E1.sub r1 fun v H' Hs' E2 r2=>hq v H' Hs' (E1.trans E2) r2
 rcases wR hd with rfl | rfl | rfl | rfl | rfl | rfl | rfl | rfl | rfl | rfl
 ·exact fin (.builtin "len") rfl (cX cP hg hm (by decide +kernel) bW (by decide) (by decide) s1 s2)
 ·exact fin (.builtin "all") rfl (cX cP hg hm (by decide +kernel) bW (by decide) (by decide) s1 s2)
 ·exact fin (.builtin "sum") rfl (cX cP hg hm (by decide +kernel) bW (by decide) (by decide) s1 s2)
 ·exact fin (.type "tuple") rfl (gw cP hg hm (by decide +kernel) bW (by decide) (by decide) s1 s2)
 ·exact fin (.type "list") rfl (gw cP hg hm (by decide +kernel) bW (by decide) (by decide) s1 s2)
 ·exact fin (.builtin "min") rfl (cX cP hg hm (by decide +kernel) bW (by decide) (by decide) s1 s2)
 ·exact fin (.builtin "max") rfl (cX cP hg hm (by decide +kernel) bW (by decide) (by decide) s1 s2)
 ·exact fin (.builtin "abs") rfl (cX cP hg hm (by decide +kernel) bW (by decide) (by decide) s1 s2)
 ·exact fin (.type "int") rfl (gw cP hg hm (by decide +kernel) bW (by decide) (by decide) s1 s2)
 ·exact fin (.builtin "any") rfl (cX cP hg hm (by decide +kernel) bW (by decide) (by decide) s1 s2)
def Xh(K:PySem.W.Frag)(T:String):List V->Hp->VK->Prop:=fun xs H Q=>∃ x d,xs=[x,.ty T]/\Rep K H d x/\isExc d=false/\Q (.bl (Bk T d)) H
theorem pR{T:String}(h:fV T=true):T="int"\/T="bool"\/T="tuple"\/T="list"\/T="str":=by
 unfold fV at h
 split at h<;>first | (simp;done) | cases h
theorem jE{x:V}{vs:List V}{us:List Value}(r:Vals (x::vs) us):∃ u w,us=u::w/\RelV x u/\Vals vs w:=by
 cases r with
 | cons r rr=>exact⟨_,_,rfl,r,rr⟩
theorem zW{T:String}(hk:fV T=true):bK X (.builtin "isinstance") (Xh X.K T):=by
  intro pins s σ H xs us Q I r h
  obtain⟨x,d,rfl,rd,hne,q⟩:=h
  obtain⟨u,w1,rfl,rx,rr⟩:=jE r
  obtain⟨c,w2,rfl,rc,rr2⟩:=jE rr
  cases rr2
  cases (show c=Value.type T from rc)
  have fin:∀ b,b=Bk T d->∀ tk,EP X pins σ Q (.bool b) { s with toks:=tk }:=fun b hb tk=>⟨.bl _,H,I.tok _,by rw[hb];rfl,q⟩
  have ks:=pR hk
  cases d with
  | exc c=>exact absurd hne (by simp[isExc])
  | dic _ _=>exact absurd hne (by simp[isExc])
  | non =>
    cases kJ rd;cases (show u=Value.none from rx)
    rcases ks with rfl | rfl | rfl | rfl | rfl<;>exact PySem.W.kia_one (b:=false) PySem.W.kitx_none I.kIn True.intro rfl (fun z=>nomatch z) (fin _ rfl)
  | bl y =>
    cases cW rd;cases (show u=Value.bool y from rx)
    rcases ks with rfl | rfl | rfl | rfl | rfl
    · exact PySem.W.kia_one (b:=true) PySem.W.kitx_bool I.kIn True.intro rfl (fun z=>nomatch z) (fin _ rfl)
    · exact PySem.W.kia_one (b:=true) PySem.W.kitx_bool I.kIn True.intro rfl (fun z=>nomatch z) (fin _ rfl)
    · exact PySem.W.kia_one (b:=false) PySem.W.kitx_bool I.kIn True.intro rfl (fun z=>nomatch z) (fin _ rfl)
    · exact PySem.W.kia_one (b:=false) PySem.W.kitx_bool I.kIn True.intro rfl (fun z=>nomatch z) (fin _ rfl)
    · exact PySem.W.kia_one (b:=false) PySem.W.kitx_bool I.kIn True.intro rfl (fun z=>nomatch z) (fin _ rfl)
  | int y =>
    cases aF rd
    obtain⟨t,e⟩:=(show ∃ t,u=Value.int y t from rx)
    cases e
    rcases ks with rfl | rfl | rfl | rfl | rfl
    · exact PySem.W.kia_one (b:=true) PySem.W.kitx_int I.kIn True.intro rfl (fun z=>nomatch z) (fin _ rfl)
    · exact PySem.W.kia_one (b:=false) PySem.W.kitx_int I.kIn True.intro rfl (fun z=>nomatch z) (fin _ rfl)
    · exact PySem.W.kia_one (b:=false) PySem.W.kitx_int I.kIn True.intro rfl (fun z=>nomatch z) (fin _ rfl)
    · exact PySem.W.kia_one (b:=false) PySem.W.kitx_int I.kIn True.intro rfl (fun z=>nomatch z) (fin _ rfl)
    · exact PySem.W.kia_one (b:=false) PySem.W.kitx_int I.kIn True.intro rfl (fun z=>nomatch z) (fin _ rfl)
  | str y =>
    have ev:x=.str y:=by simpa[Rep] using rd
    subst ev
    obtain⟨t,e⟩:=(show ∃ t,u=Value.str y t from rx)
    cases e
    rcases ks with rfl | rfl | rfl | rfl | rfl
    · exact PySem.W.kia_one (b:=false) PySem.W.kitx_str I.kIn True.intro rfl (fun z=>nomatch z) (fin _ rfl)
    · exact PySem.W.kia_one (b:=false) PySem.W.kitx_str I.kIn True.intro rfl (fun z=>nomatch z) (fin _ rfl)
    · exact PySem.W.kia_one (b:=false) PySem.W.kitx_str I.kIn True.intro rfl (fun z=>nomatch z) (fin _ rfl)
    · exact PySem.W.kia_one (b:=false) PySem.W.kitx_str I.kIn True.intro rfl (fun z=>nomatch z) (fin _ rfl)
    · exact PySem.W.kia_one (b:=true) PySem.W.kitx_str I.kIn True.intro rfl (fun z=>nomatch z) (fin _ rfl)
  | tup ds =>
    obtain⟨a,vs,rfl,h1,h2⟩:=bw rd
    cases (show u=Value.ref a from rx)
    obtain⟨its,_,o,g1,g2,_⟩:=isT I h1
    rcases ks with rfl | rfl | rfl | rfl | rfl
    · exact PySem.W.kia_one (b:=false) PySem.W.kitx_tuple I.kIn ⟨o,g1,g2⟩ rfl (fun z=>nomatch z) (fin _ rfl)
    · exact PySem.W.kia_one (b:=false) PySem.W.kitx_tuple I.kIn ⟨o,g1,g2⟩ rfl (fun z=>nomatch z) (fin _ rfl)
    · exact PySem.W.kia_one (b:=true) PySem.W.kitx_tuple I.kIn ⟨o,g1,g2⟩ rfl (fun z=>nomatch z) (fin _ rfl)
    · exact PySem.W.kia_one (b:=false) PySem.W.kitx_tuple I.kIn ⟨o,g1,g2⟩ rfl (fun z=>nomatch z) (fin _ rfl)
    · exact PySem.W.kia_one (b:=false) PySem.W.kitx_tuple I.kIn ⟨o,g1,g2⟩ rfl (fun z=>nomatch z) (fin _ rfl)
  | lst ds =>
    obtain⟨a,vs,rfl,h1,h2⟩:=bG rd
    cases (show u=Value.ref a from rx)
    obtain⟨its,_,o,g1,g2,_⟩:=isL I h1
    rcases ks with rfl | rfl | rfl | rfl | rfl
    · exact PySem.W.kia_one (b:=false) PySem.W.kitx_list I.kIn ⟨o,g1,g2⟩ rfl (fun z=>nomatch z) (fin _ rfl)
    · exact PySem.W.kia_one (b:=false) PySem.W.kitx_list I.kIn ⟨o,g1,g2⟩ rfl (fun z=>nomatch z) (fin _ rfl)
    · exact PySem.W.kia_one (b:=false) PySem.W.kitx_list I.kIn ⟨o,g1,g2⟩ rfl (fun z=>nomatch z) (fin _ rfl)
    · exact PySem.W.kia_one (b:=true) PySem.W.kitx_list I.kIn ⟨o,g1,g2⟩ rfl (fun z=>nomatch z) (fin _ rfl)
    · exact PySem.W.kia_one (b:=false) PySem.W.kitx_list I.kIn ⟨o,g1,g2⟩ rfl (fun z=>nomatch z) (fin _ rfl)
theorem J8{x t:Str}{T:String}{a:Expr}{d:D}{p pt pos:Pos}(G:Good cx k X sc)(hx:bC cx sc x=some "isinstance")(ht:bC cx sc t=some T)(hk:fV T=true)(ha:Ev X ρ a d)(hp:aD a=true)(hne:isExc d=false) :
  Ev X ρ (.Call (.Name x p) [a,.Name t pt] [] pos) (.bl (Bk T d)):=by
 obtain⟨hg,hm,rfl⟩:=bI G hx
 obtain⟨hg2,hm2,rfl⟩:=bI G ht
 have htv:PE X (.Name (Str.ofString T) pt) (tC (.ty T)):=by
  rcases pR hk with rfl | rfl | rfl | rfl | rfl<;>exact uX hg2 hm2 (by decide +kernel) rfl
 intro σ H Hs Q hs hst hq
 refine(cX (zW (X:=X) hk) hg hm (by decide +kernel) (bx ao (bx htv cR (ak rfl)) (ak hp)) (by decide) (by decide) (ak hp) rfl).sem ?_
 exact ha σ H Hs _ hs hst fun v H1 Hs1 E1 r1=>⟨v,d,rfl,Rep.same E1.sub d v r1,hne,hq _ H1 Hs1 E1 (by simp[Rep])⟩
def Ma(K:PySem.W.Frag)(cv:V)(C:Addr)(b:Bool):List V->Hp->VK->Prop:=fun xs H Q=>∃ a,xs=[.ref a,cv]/\H a=some (.ext (isX a (.ref C)))/\Q (.bl b) H
theorem wN{cv:V}{c:Value}{C:Addr}{b:Bool}(hA:j6 X.K C=true)(hc:∀ u,RelV cv u->u=c)(e:PySem.W.kitOne X.K (.ref C) c=some b):bK X (.builtin "isinstance") (Ma X.K cv C b):=by
 intro pins s σ H xs us Q I r h
 obtain⟨a,rfl,ha,q⟩:=h
 obtain⟨u,w1,rfl,rx,rr⟩:=jE r
 obtain⟨u2,w2,rfl,rc,rr2⟩:=jE rr
 cases rr2
 cases (show u=Value.ref a from rx)
 cases hc u2 rc
 exact PySem.W.kia_one (yR hA) I.kIn (I.hok _ _ ha).1 e (fun z=>nomatch z) fun tk=>⟨.bl _,H,I.tok _,rfl,q⟩
theorem pq{x c:Str}{t a:Expr}{tv:TE}{cv:V}{cw:Value}{b:Bool}{p pos:Pos}(G:Good cx k X sc)(hx:bC cx sc x=some "isinstance")(hc:cx.exs.contains c=true)(ht:PE X t (tC cv))(hpt:aD t=true)(hcv:∀ u,RelV cv u->u=cw)
  (hk:∀ C,PySem.W.nsIn X.K mainGlobals c=some (some (.ref C))->PySem.W.kitOne X.K (.ref C) cw=some b) (ha:Ev X ρ a (.exc c)) (hp:aD a=true):Ev X ρ (.Call (.Name x p) [a,t] [] pos) (.bl b):=by
 obtain⟨hg,hm,rfl⟩:=bI G hx
 obtain⟨C,M,e1,_,_,e2,_⟩:=G.exs.cls c hc
 intro σ H Hs Q hs hst hq
 refine(cX (wN (X:=X) (cv:=cv) e2 hcv (hk C e1)) hg hm (by decide +kernel) (bx ao (bx ht cR (ak hpt)) (ak hp)) (by decide) (by decide) (ak hp) (by rw[ak hpt];rfl)).sem ?_
 refine ha σ H Hs _ hs hst fun v H1 Hs1 E1 r1=>?_
 have r2:=Rep.same E1.sub _ v r1
 simp only[Rep] at r2
 obtain⟨a0,C0,rfl,f1,f2⟩:=r2
 rw[e1] at f1
 cases f1
 exact⟨a0,rfl,f2,hq _ H1 Hs1 E1 (by simp[Rep])⟩
theorem FN{x t c:Str}{a:Expr}{p pt pos:Pos}(G:Good cx k X sc)(hx:bC cx sc x=some "isinstance")(ht:bC cx sc t=some "ValueError")(hc:cx.exs.contains c=true)(ha:Ev X ρ a (.exc c))(hp:aD a=true):Ev X ρ (.Call (.Name x p) [a,.Name t pt] [] pos) (.bl true):=by
 obtain⟨hg2,hm2,rfl⟩:=bI G ht
 refine pq (tv:=tC (.ty "ValueError")) (cv:=.ty "ValueError") (cw:=.type "ValueError") G hx hc (uX hg2 hm2 (by decide +kernel) rfl) rfl (fun u r=>r) (fun C e=>?_) ha hp
 obtain⟨C',M,e1,_,_,_,_,_,e2⟩:=G.exs.cls c hc
 rw[e] at e1
 cases e1
 exact e2
theorem G9{t:Expr}{c':Str}(h:xOf cx sc t=some c'):∃ pt,t=.Name c' pt/\nu cx sc c'=true/\(cx.exs.contains c'=true\/c'=cx.top)/\(c'==("__debug__":Str))=false:=by
 unfold xOf at h
 split at h
 ·rename_i y pt
  split at h
  ·rename_i q
   cases h
   rw[Bool.and_eq_true,Bool.and_eq_true,Bool.or_eq_true] at q
   have q2:=q.2
   unfold aA at q2
   rw[Bool.and_eq_true,bne_iff_ne] at q2
   exact⟨pt,rfl,q.1.1,q.1.2.imp id (fun z=>by simpa using z),by simpa using q2.1⟩
  ·cases h
 ·cases h
theorem FJ{x c c':Str}{t a:Expr}{p pos:Pos}(G:Good cx k X sc)(hx:bC cx sc x=some "isinstance")(ht:xOf cx sc t=some c')(hc:cx.exs.contains c=true)(ha:Ev X ρ a (.exc c))(hp:aD a=true):Ev X ρ (.Call (.Name x p) [a,t] [] pos) (.bl (GJ cx.top c c')):=by
 obtain⟨pt,rfl,hgl,hin,hd⟩:=G9 ht
 have hg:Gl X c':=by
  have e:sc.names.lookup c'=some .globalImplicit:=by unfold nu at hgl;simpa using hgl
  show X.env.scope.names.lookup c'=_
  rw[G.sce,e]
 by_cases htop:c'=cx.top
 ·subst htop
  obtain⟨C,M,e1,e2,_,_,_,e3,_⟩:=G.exs.cls c hc
  have:GJ cx.top c cx.top=true:=by unfold GJ;simp
  rw[this]
  refine pq (tv:=tC (.ref M)) (cv:=.ref M) (cw:=.ref M) G hx hc (lA hg (G.exs.glob _ _ e2) rfl hd) rfl (fun u r=>r) (fun C' e=>?_) ha hp
  rw[e] at e1;cases e1
  exact e3
 ·have hin':cx.exs.contains c'=true:=hin.resolve_right htop
  obtain⟨C,C',e1,e2,e3⟩:=G.exs.sub c c' hc hin'
  have:GJ cx.top c c'=(c==c'):=by
   unfold GJ
   have:(c'==cx.top)=false:=by simpa using htop
   rw[this,Bool.or_false]
  rw[this]
  refine pq (tv:=tC (.ref C')) (cv:=.ref C') (cw:=.ref C') G hx hc (lA hg (G.exs.glob _ _ e2) rfl hd) rfl (fun u r=>r) (fun C'' e=>?_) ha hp
  rw[e] at e1;cases e1
  exact e3
end
end L2
namespace L2
open PySem PySem.Spec PyProof.Rows DE PySem.SeqAt
section
variable {X:Cx} {ρ:Rho} {cx:Cxt} {k:Nat} {sc:Scope}
theorem ud:∀ {vs:List V} {us:List Value},vs.length=us.length->(∀ (i:Nat) (v:V) (u:Value),vs[i]?=some v->us[i]?=some u->RelV v u)->Vals vs us
 | [],[],_,_=>.nil
 | [],u::us,h,_=>by simp at h
 | v::vs,[],h,_=>by simp at h
 | v::vs,u::us,h,hr=>.cons (hr 0 v u rfl rfl) (ud (by simpa using h) fun i a b e1 e2=>hr (i+1) a b (by simpa using e1) (by simpa using e2))
def iY(lo hi:Int):List V:=(List.range (hi-lo).toNat).map fun(k:Nat)=>V.int (lo+(k:Int))
theorem kW{α:Type}{K:PySem.W.Frag}{H:Hp}{f:α->D}{g:α->V}(h:∀ x,Rep K H (f x) (g x)):∀ l:List α,aO K H (l.map f) (l.map g)
 | []=>.nil
 | x::r=>.cons (h x) (kW h r)
theorem mW{K:PySem.W.Frag}{H:Hp}{lo hi:Int}:aO K H (cB lo hi) (iY lo hi):=kW (fun x=>by simp[Rep]) _
theorem gk{i:Int}(h:dh i=true):-(2^62)<=i/\i<2^62:=by
 unfold dh at h
 rw[Bool.and_eq_true,decide_eq_true_eq,decide_eq_true_eq] at h
 exact h
theorem gC{pins:List (Addr×Obj)}{σ:St}{H:Hp}{s:Shared}{Q:VK}{E:Value->Shared->Prop}{lo hi:Int}{t u v:Tok}{tk:Nat}(hc:X.calm=true)(I:Inv X pins σ H s)(h1:-(2^62)<=lo/\lo<2^62)(h3:-(2^62)<=hi/\hi<2^62)
  (hz:szl (hi-lo).toNat=true) (q:∀ p,H p=none->Q (.ref p) (upd H p (.lst (iY lo hi)))) :
  wpAny (model X.prog X.w) X.A (call (.type "list") [.ref s.heap.objs.size]) (EP X pins σ Q) E { s with heap:=s.heap.push { cls:=.type "range",data:=.fields #[.int lo t,.int hi u,.int 1 v] },toks:=tk }:=by
 have hz':(hi-lo).toNat<=100000:=by unfold szl at hz;simpa using hz
 refine call_list_range (n:=(hi-lo).toNat) (I.ok.hd hc) (IsRange.new ..) (small_one h1.1 h1.2 h3.1 h3.2) (by rw[rangeSize_one];split<;>omega) (by omega) fun h' tk' acc' c' kp e its=>?_
 have I1:Inv X pins σ H { s with heap:=s.heap.push { cls:=.type "range",data:=.fields #[.int lo t,.int hi u,.int 1 v] },toks:=tk }:=I.kept fun b o e=>Heap.get?_push_of_some _ e
 have hl:(iY lo hi).length=(hi-lo).toNat:=by simp[iY]
 have hv:Vals (iY lo hi) acc'.toList:=by
  refine ud (by rw[hl,Array.length_toList,its.1]) fun i v u e1 e2=>?_
  obtain⟨t,rfl⟩:=its.2 i u (by simpa using e2)
  unfold iY at e1
  rw[List.getElem?_map] at e1
  obtain⟨j,e3,rfl⟩:=Option.map_eq_some_iff.mp e1
  rw[List.getElem?_eq_some_iff] at e3
  obtain⟨_,e3⟩:=e3
  rw[List.getElem_range] at e3
  subst e3
  exact⟨t,by rw[Int.mul_one]⟩
 refine⟨.ref _,_,I1.laid (t':=tk') kp (Nat.le_refl _) (show cV X.prog X.w _ h' _ (.lst (iY lo hi)) from⟨by rw[hl];exact eY hz,acc'.toList,c',hv,e⟩),rfl,q _ (I1.hok.fresh (Nat.le_refl _))⟩
theorem sX{x y:Str}{a:Expr}{j:Int}{p q q' pos:Pos}(G:Good cx k X sc)(hx:bC cx sc x=some "list")(hy:bC cx sc y=some "range")(ha:Ev X ρ a (.int j))(hp:aD a=true)(hj:dh j=true)(hz:szl j.toNat=true) :
  Ev X ρ (.Call (.Name x p) [.Call (.Name y q) [a] [] q'] [] pos) (.lst (cB 0 j)):=by
 obtain⟨hg,hm,rfl⟩:=bI G hx
 obtain⟨hg2,hm2,rfl⟩:=bI G hy
 intro σ H Hs Q hs hst hq pins s I
 refine Call_ (eO I hg hm (show bootBuiltins "list"=some (.type "list") by decide +kernel) (PyProof.Rows.callWith_type1 ?_ rfl rfl))
 show wpAny _ _ (spliced [(false,eval (.Call (.Name _ q) [a] [] q') X.env)]) _ _ _
 refine Calls.spliced_cons ?_
 refine Call_ (eO I hg2 hm2 boot_range (PyProof.Rows.callWith_type1 ?_ (ak hp) rfl))
 refine thn ((bx ao cR (ak hp)) q' pins s σ H (fun vs H1=>∃ Hs1,vs=[.int j]/\Ext Hs H Hs1 H1) I (ha σ H Hs _ hs hst fun v H1 Hs1 E1 r1=>⟨Hs1,by rw[aF r1],E1⟩)) fun us s1 ⟨vs,H1,I1,r1,Hs1,e1,E1⟩=>?_
 subst e1
 obtain⟨u,w1,rfl,rx,rr⟩:=jE r1
 cases rr
 obtain⟨t,rfl⟩:=(show ∃ t,u=Value.int j t from rx)
 refine call_range_1 (Calls.spliced_nil ?_)
 exact gC G.calm I1 (by decide) (gk hj) (by simpa using hz) fun p hp=>fj E1.sub mW hp fun w H' Hs' E2 r2=>hq w H' Hs' (E1.trans E2) r2
theorem sW{x y:Str}{a b:Expr}{i j:Int}{p q q' pos:Pos}(G:Good cx k X sc)(hx:bC cx sc x=some "list")(hy:bC cx sc y=some "range")(ha:Ev X ρ a (.int i))(hp:aD a=true)(hb:Ev X ρ b (.int j))(hpb:aD b=true)(hi:dh i=true)(hj:dh j=true)(hz:szl (j-i).toNat=true) :
  Ev X ρ (.Call (.Name x p) [.Call (.Name y q) [a,b] [] q'] [] pos) (.lst (cB i j)):=by
 obtain⟨hg,hm,rfl⟩:=bI G hx
 obtain⟨hg2,hm2,rfl⟩:=bI G hy
 intro σ H Hs Q hs hst hq pins s I
 refine Call_ (eO I hg hm (show bootBuiltins "list"=some (.type "list") by decide +kernel) (PyProof.Rows.callWith_type1 ?_ rfl rfl))
 show wpAny _ _ (spliced [(false,eval (.Call (.Name _ q) [a,b] [] q') X.env)]) _ _ _
 refine Calls.spliced_cons ?_
 refine Call_ (eO I hg2 hm2 boot_range (PyProof.Rows.callWith_type1 ?_ (ak hp) (dg fun e he=>by rw[List.mem_singleton.mp he];exact hpb)))
 refine thn ((bx ao (bx ao cR (ak hpb)) (ak hp)) q' pins s σ H (fun vs H1=>∃ Hs1,vs=[.int i,.int j]/\Ext Hs H Hs1 H1) I (ha σ H Hs _ hs hst fun v H1 Hs1 E1 r1=>hb σ H1 Hs1 _ E1.sub (hst.same E1.vis) fun v' H2 Hs2 E2 r2=>⟨Hs2,by rw[aF r1,aF r2],E1.trans E2⟩)) fun us s1 ⟨vs,H1,I1,r1,Hs1,e1,E1⟩=>?_
 subst e1
 obtain⟨u,w1,rfl,rx,rr⟩:=jE r1
 obtain⟨u2,w2,rfl,rx2,rr2⟩:=jE rr
 cases rr2
 obtain⟨t,rfl⟩:=(show ∃ t,u=Value.int i t from rx)
 obtain⟨t2,rfl⟩:=(show ∃ t,u2=Value.int j t from rx2)
 refine call_range_2 (Calls.spliced_nil ?_)
 exact gC G.calm I1 (gk hi) (gk hj) hz fun p hp=>fj E1.sub mW hp fun w H' Hs' E2 r2=>hq w H' Hs' (E1.trans E2) r2
variable {tg iter a b:Expr}
theorem Gf{d:D}{l:List D}(h:Ev X ρ iter d)(hl:items d=some l):EvI X ρ tg iter l:=by
  intro σ H Hs R hs hst hq
  cases d with
  | lst xs =>
    simp only[items,Option.some.injEq] at hl;subst hl
    refine(Dj (tg:=tg) ao).sem (h σ H Hs _ hs hst fun v H1 Hs1 E1 r1=>?_)
    obtain⟨p,vs,rfl,h1,h2⟩:=bG r1
    refine⟨p,rfl,⟨vs,E1.sub.seq h1⟩,hq _ H1 Hs1 E1 fun Hs' H' e1 e2=>⟨⟨vs,e2.seq (e1.seq h1),by rw[h2.length];exact Nat.le_refl _⟩,fun i d hd=>?_⟩⟩
    obtain⟨v,g1,g2⟩:=h2.get hd
    refine⟨⟨vs,v,e2.seq (e1.seq h1),g1⟩,fun x H2 y=>?_⟩
    obtain⟨rfl,y⟩:=y
    have:=y vs (e2.seq (e1.seq h1))
    rw[g1] at this;cases this
    exact⟨Hs',.refl e2,Rep.same e1 d v g2⟩
  | tup xs =>
    simp only[items,Option.some.injEq] at hl;subst hl
    refine(Ja (tg:=tg) ao).sem (h σ H Hs _ hs hst fun v H1 Hs1 E1 r1=>?_)
    obtain⟨p,vs,rfl,h1,h2⟩:=bw r1
    refine⟨p,rfl,⟨vs,E1.sub.tup h1⟩,hq _ H1 Hs1 E1 fun Hs' H' e1 e2=>⟨⟨vs,e2.tup (e1.tup h1),by rw[h2.length];exact Nat.le_refl _⟩,fun i d hd=>?_⟩⟩
    obtain⟨v,g1,g2⟩:=h2.get hd
    refine⟨⟨vs,v,e2.tup (e1.tup h1),g1⟩,fun x H2 y=>?_⟩
    obtain⟨rfl,y⟩:=y
    have:=y vs (e2.tup (e1.tup h1))
    rw[g1] at this;cases this
    exact⟨Hs',.refl e2,Rep.same e1 d v g2⟩
  | _=>simp[items] at hl
theorem jk{K:PySem.W.Frag}{Hs0:Hp}{lo hi:Int}{n:Nat}(hn:n=(hi-lo).toNat):Ks K (Itr lo n) Hs0 (cB lo hi):=by
 have hl:(cB lo hi).length=n:=by rw[hn];simp[cB]
 intro Hs H e1 e2
 refine⟨by show n<=_;rw[hl];exact Nat.le_refl _,fun i d hd=>?_⟩
 have hi:i<n:=by have:=(List.getElem?_eq_some_iff.mp hd).1;rw[hl] at this;exact this
 refine⟨hi,fun x H' y=>?_⟩
 obtain⟨rfl,rfl⟩:=y
 refine⟨Hs,.refl e2,?_⟩
 unfold cB at hd
 rw[List.getElem?_map] at hd
 obtain⟨j,e3,rfl⟩:=Option.map_eq_some_iff.mp hd
 rw[List.getElem?_eq_some_iff] at e3
 obtain⟨_,e3⟩:=e3
 rw[List.getElem_range] at e3
 subst e3
 simp[Rep]
theorem sZ{x:Str}{j:Int}{p pos:Pos}(G:Good cx k X sc)(hx:bC cx sc x=some "range")(ha:Ev X ρ a (.int j))(hp:aD a=true)(hj:dh j=true):EvI X ρ tg (.Call (.Name x p) [a] [] pos) (cB 0 j):=by
 obtain⟨hg,hm,rfl⟩:=bI G hx
 intro σ H Hs R hs hst hq
 have q:=uT (tg:=tg) (p:=p) (pos:=pos) hg hm (bx (ao (X:=X) (e:=a)) cR (ak hp)) (ak hp)
 refine PI.sem q (ha σ H Hs _ hs hst fun v H1 Hs1 E1 r1=>?_)
 exact⟨j,by rw[aF r1],(gk hj).1,(gk hj).2,hq _ H1 Hs1 E1 (jk (by simp))⟩
theorem sY{x:Str}{i j:Int}{p pos:Pos}(G:Good cx k X sc)(hx:bC cx sc x=some "range")(ha:Ev X ρ a (.int i))(hp:aD a=true)(hb:Ev X ρ b (.int j))(hpb:aD b=true)(hi:dh i=true)(hj:dh j=true):EvI X ρ tg (.Call (.Name x p) [a,b] [] pos) (cB i j):=by
 obtain⟨hg,hm,rfl⟩:=bI G hx
 intro σ H Hs R hs hst hq
 have q:=uR (tg:=tg) (p:=p) (pos:=pos) hg hm (bx (ao (X:=X) (e:=a)) (bx (ao (X:=X) (e:=b)) cR (ak hpb)) (ak hp)) (by rw[ak hp,ak hpb];rfl) (ak hpb)
 refine PI.sem q (ha σ H Hs _ hs hst fun v H1 Hs1 E1 r1=>hb σ H1 Hs1 _ E1.sub (hst.same E1.vis) fun v' H2 Hs2 E2 r2=>?_)
 exact⟨i,j,by rw[aF r1,aF r2],⟨(gk hi).1,(gk hi).2,(gk hj).1,(gk hj).2⟩,hq _ H2 Hs2 (E1.trans E2) (jk rfl)⟩
theorem Ge{x:Str}{xs ys:List D}{p pos pt:Pos}{es:List Expr}{kt:Nat}(G:Good cx k X sc)(hx:bC cx sc x=some "zip")(ha:Ev X ρ a (.tup xs))(hp:aD a=true)(hb:Ev X ρ b (.tup ys))(hpb:aD b=true) :
  EvI X ρ (.Tuple es kt pt) (.Call (.Name x p) [a,b] [] pos) ((xs.zip ys).map fun q=>.tup [q.1,q.2]):=by
 obtain⟨hg,hm,rfl⟩:=bI G hx
 intro σ H Hs R hs hst hq
 have q:=IW (es:=es) (kt:=kt) (pt:=pt) (p:=p) (pos:=pos) hg hm (bx (ao (X:=X) (e:=a)) (bx (ao (X:=X) (e:=b)) cR (ak hpb)) (ak hp)) (by rw[ak hp,ak hpb];rfl) (ak hpb)
 refine PI.sem q (ha σ H Hs _ hs hst fun v H1 Hs1 E1 r1=>hb σ H1 Hs1 _ E1.sub (hst.same E1.vis) fun v' H2 Hs2 E2 r2=>?_)
 obtain⟨c,vs,rfl,h1,h2⟩:=bw (Rep.same E2.vis _ _ r1)
 obtain⟨d,us,rfl,h3,h4⟩:=bw r2
 have l1:=h2.length
 have l2:=h4.length
 refine⟨c,d,rfl,⟨vs,E2.sub.tup h1⟩,⟨us,E2.sub.tup h3⟩,hq _ H2 Hs2 (E1.trans E2) fun Hs' H' e1 e2=>⟨⟨vs,us,e2.tup (e1.tup h1),e2.tup (e1.tup h3),?_⟩,fun i z hz=>?_⟩⟩
 ·rw[List.length_map,List.length_zip]
  omega
 ·rw[List.getElem?_map] at hz
  obtain⟨⟨x1,y1⟩,e3,rfl⟩:=Option.map_eq_some_iff.mp hz
  rw[List.getElem?_zip_eq_some] at e3
  obtain⟨v1,g1,g2⟩:=h2.get e3.1
  obtain⟨v2,g3,g4⟩:=h4.get e3.2
  refine⟨⟨vs,us,v1,v2,e2.tup (e1.tup h1),e2.tup (e1.tup h3),g1,g3⟩,fun w H3 y=>?_⟩
  obtain⟨p,hp',rfl,y⟩:=y
  rw[y vs us v1 v2 (e2.tup (e1.tup h1)) (e2.tup (e1.tup h3)) g1 g3]
  refine⟨_,Ext.new e2 (.tup [v1,v2]) hp',?_⟩
  have sm:=(Ext.new e2 (.tup [v1,v2]) hp').vis
  simp only[Rep]
  exact⟨p,[v1,v2],rfl,.of aU,.cons (Rep.same sm _ _ (Rep.same e1 _ _ g2)) (.cons (Rep.same sm _ _ (Rep.same e1 _ _ g4)) .nil)⟩
theorem Gg{xs:List D}:(enD xs).length=xs.length:=by simp[enD]
theorem Gh{xs:List D}{i:Nat}{d:D}(h:(enD xs)[i]?=some d):∃ x,xs[i]?=some x/\d=.tup [.int (i:Int),x]:=by
 unfold enD at h
 rw[List.getElem?_map] at h
 obtain⟨⟨x,j⟩,e1,e2⟩:=Option.map_eq_some_iff.mp h
 rw[List.getElem?_zipIdx] at e1
 obtain⟨y,e3,e4⟩:=Option.map_eq_some_iff.mp e1
 simp at e4
 obtain⟨rfl,rfl⟩:=e4
 exact⟨y,e3,e2.symm⟩
theorem zO{x:Str}{xs:List D}{p pos pt:Pos}{es:List Expr}{kt:Nat}(G:Good cx k X sc)(hx:bC cx sc x=some "enumerate")(ha:Ev X ρ a (.tup xs))(hp:aD a=true) :
  EvI X ρ (.Tuple es kt pt) (.Call (.Name x p) [a] [] pos) (enD xs):=by
 obtain⟨hg,hm,rfl⟩:=bI G hx
 intro σ H Hs R hs hst hq
 have q:=Dk (es:=es) (kt:=kt) (pt:=pt) (p:=p) (pos:=pos) hg hm (bx (ao (X:=X) (e:=a)) cR (ak hp)) (ak hp)
 refine PI.sem q (ha σ H Hs _ hs hst fun v H1 Hs1 E1 r1=>?_)
 obtain⟨c,vs,rfl,h1,h2⟩:=bw r1
 refine⟨c,rfl,⟨vs,E1.sub.tup h1⟩,hq _ H1 Hs1 E1 fun Hs' H' e1 e2=>⟨⟨vs,e2.tup (e1.tup h1),by rw[Gg,h2.length]⟩,fun i d hd=>?_⟩⟩
 obtain⟨y,e3,rfl⟩:=Gh hd
 obtain⟨w,g1,g2⟩:=h2.get e3
 refine⟨⟨vs,w,e2.tup (e1.tup h1),g1⟩,fun u H2 yl=>?_⟩
 obtain⟨p,hp',rfl,yl⟩:=yl
 rw[yl vs w (e2.tup (e1.tup h1)) g1]
 refine⟨_,Ext.new e2 (.tup [.int (i:Int),w]) hp',?_⟩
 have sm:=(Ext.new e2 (.tup [.int (i:Int),w]) hp').vis
 simp only[Rep]
 exact⟨p,[.int (i:Int),w],rfl,.of aU,.cons (by simp[Rep]) (.cons (Rep.same sm _ _ (Rep.same e1 _ _ g2)) .nil)⟩
end
end L2
namespace L2
open PySem PySem.Spec PyProof.Rows DE PySem.SeqAt
theorem aP{α β:Type}{x:Option α}{f:α->Option β}{y:β}(h:(x >>=f)=some y):∃ a,x=some a/\f a=some y:=by
 cases x with
 | none=>cases h
 | some a=>exact⟨a,rfl,h⟩
def zu(X:Cx)(tg:Expr):TG:=fun v σ H Q=>∀ pins s u,Inv X pins σ H s->RelV v u->wpAny (model X.prog X.w) X.A (assign tg X.env u) (fun _ s'=>∃ σ' H',Inv X pins σ' H' s'/\Q σ' H') X.xe s
def Ew(X:Cx)(es:List Expr):TGs:=fun vs σ H Q=>∀ pins s us,Inv X pins σ H s->Vals vs us->wpAny (model X.prog X.w) X.A (assignInOrder ((assignEach es X.env).map (·.2)) us) (fun _ s'=>∃ σ' H',Inv X pins σ' H' s'/\Q σ' H') X.xe s
section
variable {X:Cx} {tg:Expr} {es:List Expr}
theorem fM:PG X tg (zu X tg):=fun pins s σ H v u Q I r h=>h pins s u I r
theorem PG.sem{t:TG}{v:V}{σ:St}{H:Hp}{Q:St->Hp->Prop}(h:PG X tg t)(q:t v σ H Q):zu X tg v σ H Q:=fun pins s u I r=>h pins s σ H v u Q I r q
theorem kZ:PGs X es (Ew X es):=fun pins s σ H v u Q I r h=>h pins s u I r
theorem PGs.sem{t:TGs}{v:List V}{σ:St}{H:Hp}{Q:St->Hp->Prop}(h:PGs X es t)(q:t v σ H Q):Ew X es v σ H Q:=fun pins s u I r=>h pins s σ H v u Q I r q
end
theorem au:∀ (ρ:Rho) (x:Str) (v:Sl),(cD ρ x v).map (·.1)=ρ.map (·.1)
  | [],_,_=>rfl
  | (y, s) :: r, x, v => by
    unfold cD
    split
    · rfl
    · simp[au r x v]
theorem aQ:∀ {ρ:Rho} {x:Str} {v:Sl} {i:Nat},(ρ.map (·.1)).Nodup->(ρ.map (·.1))[i]?=some x->∀ j:Nat,(cD ρ x v)[j]?=if j=i then some (x,v) else ρ[j]?
  | [],x,v,i,_,h,_=>by simp at h
  | (y, s) :: r, x, v, 0, hn, h, j => by
    simp at h;subst h
    cases j with
    | zero=>simp[cD]
    | succ j=>simp[cD]
  | (y, s) :: r, x, v, i + 1, hn, h, j => by
    rw[List.map_cons,List.nodup_cons] at hn
    have h':(r.map (·.1))[i]?=some x:=by simpa using h
    have hne:(x==y)=false:=by
      rw[beq_eq_false_iff_ne]
      intro e
      subst e
      exact hn.1 (List.mem_of_getElem? h')
    simp only[cD,hne,Bool.false_eq_true,if_false]
    cases j with
    | zero=>simp
    | succ j =>
      have:=aQ (v:=v) hn.2 h' j
      simp only[List.getElem?_cons_succ,this,Nat.add_right_cancel_iff]
theorem bB{l:List Str}{x:Str}(h:l.contains x=true):∃ i:Nat,l[i]?=some x:=by
 have:=List.mem_of_elem_eq_true h
 exact List.mem_iff_getElem?.mp this
structure Owns (X:Cx) (scope:Scope):Prop where
 own:∀ x,ownIn scope x=true->Loc X.env.scope x/\(X.fn x=true\/X.env.scope.names.lookup x=some .local)
def j5(K:PySem.W.Frag)(Hs:Hp)(scope:Scope)(P:Rho->St->Prop):Prop:=∀ ρ σ (i:Nat) x d v,(ρ.map (·.1)).Nodup->(ρ.map (·.1))[i]?=some x->ownIn scope x=true->P ρ σ->Rep K Hs d v->P (cD ρ x (.sh d)) (σ.set i (some v))
section
variable {X:Cx} {scope:Scope} {Hs H:Hp} {P:Rho->St->Prop} {Q:St->Hp->Prop}
theorem nT{x:Str}{pos:Pos}{ρ ρ':Rho}{σ:St}{d:D}{v:V}(hO:Owns X scope)(hnd:X.N.Nodup)(hN:X.N=ρ.map (·.1))(KE:j5 X.K Hs scope P)(hb:(if ownIn scope x&&(ρ.map (·.1)).contains x then some (cD ρ x (.sh d)) else none)=some ρ')(hp:P ρ σ)(rd:Rep X.K Hs d v)
  (hq:∀ σ',X.N=ρ'.map (·.1)->P ρ' σ'->Q σ' H):zu X (.Name x pos) v σ H Q:=by
 split at hb
 ·rename_i hc
  cases hb
  rw[Bool.and_eq_true] at hc
  obtain⟨i,hi⟩:=bB hc.2
  obtain⟨h1,h2⟩:=hO.own x hc.1
  exact PG.sem (Dm (i:=i) hnd (by rw[hN];exact hi) h1 h2) (hq _ (by rw[au];exact hN) (KE ρ σ i x d v (by rw[<- hN];exact hnd) hi hc.1 hp rd))
 ·cases hb
theorem d7{env:Env}:∀ {es:List Expr} {ds:List D} {ρ ρ':Rho},bindNames scope es ds ρ=some ρ'->(assignEach es env).length=es.length/\(assignEach es env).findIdx? (·.1)=none/\es.length=ds.length
  | [],[],_,_,_=>⟨rfl,rfl,rfl⟩
  | [],d::ds,ρ,ρ',h=>by simp[bindNames] at h
  | e::es,[],ρ,ρ',h=>by cases e<;>simp[bindNames] at h
  | e :: es, d :: ds, ρ, ρ', h => by
    cases e<;>try (simp[bindNames] at h;done)
    rename_i x pos
    simp only[bindNames] at h
    split at h
    · obtain⟨h1,h2,h3⟩:=d7 (env:=env) h
      refine⟨by show(assignEach es env).length+1=_;rw[h1];rfl,?_,by simp[h3]⟩
      show((false,assign (.Name x pos) env)::assignEach es env).findIdx? (·.1)=none
      rw[List.findIdx?_cons]
      simp only[Bool.false_eq_true,if_false,h2]
      rfl
    · cases h
theorem fJ(hO:Owns X scope)(hnd:X.N.Nodup)(KE:j5 X.K Hs scope P):∀ {es:List Expr} {ds:List D} {vs:List V} {ρ ρ':Rho} {σ:St},X.N=ρ.map (·.1)->bindNames scope es ds ρ=some ρ'->P ρ σ->aO X.K Hs ds vs->(∀ σ',X.N=ρ'.map (·.1)->P ρ' σ'->Q σ' H)->Ew X es vs σ H Q
  | [], [], vs, ρ, ρ', σ, hN, h, hp, rd, hq => by
    simp only[bindNames,Option.some.injEq] at h
    subst h
    simp only[aO] at rd
    exact PGs.sem Dl ⟨rd,hq _ hN hp⟩
  | [],d::ds,vs,ρ,ρ',σ,hN,h,hp,rd,hq=>by simp[bindNames] at h
  | e::es,[],vs,ρ,ρ',σ,hN,h,hp,rd,hq=>by cases e<;>simp[bindNames] at h
  | e :: es, d :: ds, vs, ρ, ρ', σ, hN, h, hp, rd, hq => by
    cases e<;>try (simp[bindNames] at h;done)
    rename_i x pos
    simp only[bindNames] at h
    split at h
    · rename_i hc
      simp only[aO] at rd
      obtain⟨v,r,rfl,r1,r2⟩:=rd
      refine PGs.sem (yC fM kZ) ⟨v,r,rfl,?_⟩
      exact nT hO hnd hN KE (ρ':=cD ρ x (.sh d)) (by rw[if_pos hc]) hp r1 fun σ' hN' hp'=>fJ hO hnd KE hN' h hp' r2 hq
    · cases h
theorem pF{tg:Expr}{ρ ρ':Rho}{σ:St}{d:D}{v:V}(hc:X.calm=true)(hO:Owns X scope)(hnd:X.N.Nodup)(hs:Same Hs H)(hN:X.N=ρ.map (·.1))(KE:j5 X.K Hs scope P)(hb:fL scope tg d ρ=some ρ')(hp:P ρ σ)(rd:Rep X.K Hs d v)
  (hq:∀ σ',X.N=ρ'.map (·.1)->P ρ' σ'->Q σ' H):zu X tg v σ H Q:=by
 unfold fL at hb
 split at hb
 ·exact nT hO hnd hN KE hb hp rd hq
 ·rename_i es k pos ds
  obtain⟨a,vs,rfl,h1,h2⟩:=bw rd
  obtain⟨e1,e2,e3⟩:=d7 (env:=X.env) hb
  exact PG.sem (Ao hc kZ e1 e2) ⟨a,vs,rfl,hs.tup h1,by rw[<- h2.length,e3],fJ hO hnd KE hN hb hp h2 hq⟩
 ·cases hb
end
section
variable {X Xc:Cx} {scope sc:Scope} {cx:Cxt} {k:Nat} {ρ:Rho}
theorem m8:∀ {l:List Str},qz l=true->l.Nodup
  | [],_=>.nil
  | x :: r, h => by
    unfold qz at h
    rw[Bool.and_eq_true] at h
    refine List.nodup_cons.mpr ⟨fun hm=>?_,m8 h.2⟩
    have:r.contains x=true:=by simpa using hm
    rw[this] at h
    exact absurd h.1 (by decide)
theorem cC(G:Good cx k X sc)(h:fQ sc scope=true):scope.kind=.function/\(scope.names.map (·.1)).Nodup/\∀ x,(x,NameKind.free)∈scope.names->X.env.kindOf x=some .cell\/X.env.kindOf x=some .free:=by
 unfold fQ at h
 rw[Bool.and_eq_true,Bool.and_eq_true] at h
 refine⟨by simpa using h.1.1,m8 h.1.2,fun x hx=>?_⟩
 have:=List.all_eq_true.mp h.2 _ hx
 show X.env.scope.names.lookup x=_\/X.env.scope.names.lookup x=_
 rw[G.sce]
 simpa using this
theorem Ip(G:Good cx k X sc):relabel scope X.env=jC scope sc:=by
 unfold relabel jC Env.kindOf
 rw[G.sce]
theorem Good.comp(G:Good cx k X sc)(C:CompOf X scope Xc)(h:fQ sc scope=true):Good cx k Xc (jC scope sc) where
 calm:=C.calm
 room:=by rw[C.A];exact G.room
 sce:=by rw[C.sc,Ip G]
 kind:=(cC G h).1
 nd:=by rw[C.N];exact(cC G h).2.1
 cst:=by rw[C.mg,C.K];exact G.cst
 blt:=by rw[C.mg];exact G.blt
 exs:=by rw[C.mg,C.K];exact G.exs
 fns:=by rw[C.mg,C.prog,C.w,C.K,C.base];exact G.fns
theorem Owns.comp(G:Good cx k X sc)(C:CompOf X scope Xc):Owns Xc scope where
 own:=fun x hx=>by
  unfold ownIn at hx
  rw[Bool.or_eq_true] at hx
  have look:∀ kd,scope.names.lookup x=some kd->kd≠.free->Xc.env.scope.names.lookup x=some kd:=fun kd e hne=>by
   rw[C.sc]
   show(scope.names.map _).lookup x=_
   rw[dW,e]
   simp[hne]
  rcases hx with hx | hx
  ·have e:scope.names.lookup x=some .local:=by simpa using hx
   have e2:=look _ e (by decide)
   exact⟨.inl e2,.inr e2⟩
  ·have e:scope.names.lookup x=some .cell:=by simpa using hx
   have e2:=look _ e (by decide)
   refine⟨.inr e2,.inl ?_⟩
   rw[C.fn]
   show(scope.names.lookup x==some .cell)=true
   rw[e];rfl
theorem cZ:(bF scope ρ).map (·.1)=scope.names.map (·.1):=by
 unfold bF
 rw[List.map_map]
 rfl
theorem jA{K:PySem.W.Frag}{Hs:Hp}{σ:St}{N:List Str}(hN:N=ρ.map (·.1))(h:bV K Hs ρ σ):bV K Hs (bF scope ρ) (oJ N scope.names σ):=by
  intro i x d e
  unfold bF at e
  rw[List.getElem?_map] at e
  obtain⟨p,e1,e2⟩:=Option.map_eq_some_iff.mp e
  cases hk:p.2==NameKind.free with
  | false=>rw[hk] at e2;simp at e2
  | true =>
    rw[hk] at e2
    simp only[if_true,Prod.mk.injEq] at e2
    obtain⟨rfl,e2⟩:=e2
    have e3:ρ.lookup p.1=some (.sh d):=by
      cases q:ρ.lookup p.1 with
      | none=>rw[q] at e2;simp[Lq] at e2
      | some sl =>
        rw[q] at e2
        cases sl<;>simp[Lq] at e2
        rw[e2]
    obtain⟨j,g1,g2⟩:=bQ e3
    obtain⟨v,g3,g4⟩:=h j _ d g1
    refine⟨v,?_,g4⟩
    unfold oJ
    rw[List.getElem?_map,e1]
    simp only[Option.map_some,hk,if_true]
    unfold qg
    rw[hN,g2]
    simp[g3]
def CSt(K:PySem.W.Frag)(Hs:Hp)(n:Nat)(ρ0:Rho):Rho->St->Prop:=fun ρ σ=>σ.length=n/\bV K Hs ρ σ/\bV K Hs ρ0 σ
theorem mV{K:PySem.W.Frag}{Hs:Hp}{ρ:Rho}{σ:St}{i:Nat}{x:Str}{d:D}{v:V}(hn:(ρ.map (·.1)).Nodup)(hi:(ρ.map (·.1))[i]?=some x)(hl:i<σ.length)(h:bV K Hs ρ σ)(r:Rep K Hs d v):bV K Hs (cD ρ x (.sh d)) (σ.set i (some v)):=by
 intro j y d' e
 rw[aQ hn hi j] at e
 split at e
 ·rename_i hj
  subst hj
  cases e
  exact⟨v,by rw[List.getElem?_set_self hl],r⟩
 ·rename_i hj
  obtain⟨w,h1,h2⟩:=h j y d' e
  exact⟨w,by rw[List.getElem?_set_ne (fun z=>hj z.symm)];exact h1,h2⟩
theorem jW{K:PySem.W.Frag}{Hs:Hp}{n:Nat}(hnd:(scope.names.map (·.1)).Nodup)(hn:n=scope.names.length):j5 K Hs scope (fun ρ1 σ=>ρ1.map (·.1)=scope.names.map (·.1)/\CSt K Hs n (bF scope ρ) ρ1 σ):=by
  intro ρ1 σ i x d v h1 h2 h3 ⟨h4,h5,h6,h7⟩ r
  refine⟨by rw[au];exact h4,by rw[List.length_set];exact h5,?_,?_⟩
  · have hi:i<σ.length:=by
      rw[h5,hn]
      have:=(List.getElem?_eq_some_iff.mp h2).1
      rw[h4] at this
      simpa using this
    exact mV h1 h2 hi h6 r
  · intro j y d' e
    obtain⟨w,g1,g2⟩:=h7 j y d' e
    refine⟨w,?_,g2⟩
    have hj:i≠j:=by
      intro z
      subst z
      rw[h4] at h2
      unfold bF at e
      rw[List.getElem?_map] at e
      rw[List.getElem?_map] at h2
      obtain⟨p,e1,e2⟩:=Option.map_eq_some_iff.mp e
      rw[e1] at h2
      have ex:p.1=x:=by simpa using h2
      cases hk:p.2==NameKind.free with
      | false=>rw[hk] at e2;simp at e2
      | true =>
        have ek:p.2=.free:=by simpa using hk
        have hm:=List.mem_of_getElem? e1
        have:=bL (c:=p.2) hnd (by rw[show p=(x,p.2) from by rw[<- ex]] at hm;exact hm)
        unfold ownIn at h3
        rw[this,ek] at h3
        exact absurd h3 (by decide)
    rw[List.getElem?_set_ne hj]
    exact g1
def oX(X:Cx)(ifs:List Expr):TT:=fun σ H Q=>∀ pins s,Inv X pins σ H s->wpAny (model X.prog X.w) X.A (forIn ifs true fun c r=>if r=true then do let ok <- isTrue c X.env (eval c X.env);pure (ForInStep.yield ok) else pure (ForInStep.yield r)) (TP X pins σ Q) X.xe s
theorem eE{ifs:List Expr}:xP X ifs (oX X ifs):=fun pins s σ H Q I h=>h pins s I
theorem xP.sem{ifs:List Expr}{t:TT}{σ:St}{H:Hp}{Q:Bool->Hp->Prop}(h:xP X ifs t)(q:t σ H Q):oX X ifs σ H Q:=fun pins s I=>h pins s σ H Q I q
theorem Bs{f:Expr->Option D}{ifs:List Expr}{b:Bool}(hf:∀ e d,f e=some d->Ev X ρ e d/\∀ b,d=.bl b->EvT X ρ e b)(h:lH f ifs=some b){σ:St}{H Hs:Hp}{Q:Bool->Hp->Prop}(hs:Same Hs H)(hst:bV X.K Hs ρ σ)(hq:∀ H' Hs',Ext Hs H Hs' H'->Q b H'):oX X ifs σ H Q:=by
  unfold lH at h
  split at h
  · cases h
    exact xP.sem yu (hq H Hs (.refl hs))
  · rename_i c
    cases hc:f c with
    | none=>rw[hc] at h;cases h
    | some d =>
      rw[hc] at h
      cases d<;>simp[asB] at h
      subst h
      exact xP.sem (yt dJ) ((hf c _ hc).2 _ rfl σ H Hs Q hs hst hq)
  · cases h
theorem Ext.acc{Hs H Hs' H':Hp}{acc:Addr}{o:HO}(E:Ext Hs H Hs' H')(h:H acc=none)(h':Hs' acc=none):Ext Hs H Hs' (upd H' acc o) where
 vis:=E.vis
 all:=fun b u e=>by rw[aL (aG e h)];exact E.all b u e
 sub:=fun b u e=>by rw[aL (aG e h')];exact E.sub b u e
 hid:=E.hid
theorem jB{f:D->Option (Option D)}{d:D}{r out:List D}(h:bJ f (d::r)=some out):(∃ v o',f d=some (some v)/\bJ f r=some o'/\out=v::o')\/(f d=some none/\bJ f r=some out):=by
  simp only[bJ,bind,Option.bind] at h
  cases hf:f d with
  | none=>rw[hf] at h;cases h
  | some o =>
    rw[hf] at h
    cases o with
    | none=>exact .inr ⟨rfl,h⟩
    | some v =>
      simp only[Option.map_eq_some_iff] at h
      obtain⟨o',h1,rfl⟩:=h
      exact .inl ⟨v,o',rfl,h1,rfl⟩
def nP(cx:Cxt)(n:Nat)(sc scope:Scope)(ρ:Rho)(tg elt:Expr)(ifs:List Expr):D->Option (Option D):=fun d=>do
 let ρ1 <- fL scope tg d (bF scope ρ)
 let b <- lH (ev cx n (jC scope sc) ρ1) ifs
 if b then(ev cx n (jC scope sc) ρ1 elt).map some else some none
theorem jy{tg iter elt:Expr}{ifs:List Expr}{l out:List D}{n:Nat}(G:Good cx k X sc)(hN:X.N=ρ.map (·.1))(hok:fQ sc scope=true)(hI:EvI X ρ tg iter l)(hz:szl l.length=true)(hgo:bJ (nP cx n sc scope ρ tg elt ifs) l=some out)
    (hE:∀ Xc,CompOf X scope Xc->∀ ρ1:Rho,Xc.N=ρ1.map (·.1)->∀ e d,ev cx n (jC scope sc) ρ1 e=some d->Ev Xc ρ1 e d/\∀ b,d=.bl b->EvT Xc ρ1 e b)
    {σ:St} {H Hs:Hp} {Q:VK} (hs:Same Hs H) (hst:bV X.K Hs ρ σ) (hq:∀ acc vs Hs' H',Ext Hs H Hs' H'->H acc=none->Hs' acc=none->H' acc=some (.lst vs)->aO X.K Hs' out vs->Q (.ref acc) H') :
    oA X scope (ou X tg iter) (oJ X.N scope.names) (fun Xc=>zu Xc tg) (fun Xc=>oX Xc ifs) (fun Xc=>j8 Xc elt) σ H Q:=by
  obtain⟨ok1,ok2,ok3⟩:=cC G hok
  refine hI σ H Hs _ hs hst fun J H1 Hs1 E1 hJ acc hacc Xc C=>?_
  have GC:=G.comp C hok
  have OC:=Owns.comp (scope:=scope) G C
  have hNc:∀ ρ1:Rho,ρ1.map (·.1)=scope.names.map (·.1)->Xc.N=ρ1.map (·.1):=fun ρ1 h=>by rw[C.N,h]
  have a1:Hs1 acc=none:=E1.sub.free hacc
  have a0:H acc=none:=E1.all.free hacc
  let W:Nat->Nat->St->Hp->Prop:=fun i m σc H=>m=l.length-i/\i<=l.length/\∃ Hs3 ys pre rest,Ext Hs1 H1 Hs3 H/\Hs3 acc=none/\H acc=some (.lst ys)/\aO X.K Hs3 pre ys/\bJ (nP cx n sc scope ρ tg elt ifs) (l.drop i)=some rest/\pre++rest=out/\pre.length<=i/\σc.length=scope.names.length/\bV X.K Hs3 (bF scope ρ) σc
  refine⟨W,⟨l.length,rfl,Nat.zero_le _,Hs1,[],[],out,Ext.acc (.refl E1.sub) hacc a1,a1,aU,.nil,by simpa using hgo,rfl,Nat.le_refl _,by simp[oJ],jA hN (hst.same E1.vis)⟩,?_⟩
  rintro i m σc H3 ⟨rfl,hi,Hs3,ys,pre,rest,E3,b3,c3,r3,g3,p3,q3,l3,s3⟩
  obtain⟨st3,go3⟩:=hJ Hs3 H3 E3.vis E3.sub
  by_cases hlt:i<l.length
  · have hd:l[i]?=some l[i]:=List.getElem?_eq_getElem hlt
    obtain⟨gi,yi⟩:=go3 i l[i] hd
    refine .inr ⟨gi,fun σ' H'=>W (i+1) (l.length-(i+1)) σ' H',fun σ' H' w=>⟨_,by omega,w⟩,fun x H4 y4=>?_⟩
    obtain⟨Hs4,E4,rx⟩:=yi x H4 y4
    have b4:Hs4 acc=none:=E4.hid acc _ c3 b3
    have c4:H4 acc=some (.lst ys):=E4.all _ _ c3
    rw[List.drop_eq_getElem_cons hlt] at g3
    have key:∃ ρ1,fL scope tg l[i] (bF scope ρ)=some ρ1/\∃ b,lH (ev cx n (jC scope sc) ρ1) ifs=some b/\((b=true/\∃ v o',ev cx n (jC scope sc) ρ1 elt=some v/\bJ (nP cx n sc scope ρ tg elt ifs) (l.drop (i+1))=some o'/\rest=v::o')\/(b=false/\bJ (nP cx n sc scope ρ tg elt ifs) (l.drop (i+1))=some rest)):=by
      have inv:∀ o,nP cx n sc scope ρ tg elt ifs l[i]=some o->∃ ρ1,fL scope tg l[i] (bF scope ρ)=some ρ1/\∃ b,lH (ev cx n (jC scope sc) ρ1) ifs=some b/\(if b then(ev cx n (jC scope sc) ρ1 elt).map some else some none)=some o:=by
        intro o h
        obtain⟨ρ1,h1,h⟩:=aP h
        obtain⟨b,h2,h⟩:=aP h
        exact⟨ρ1,h1,b,h2,h⟩
      rcases jB g3 with⟨v,o',f1,f2,f3⟩ | ⟨f1,f2⟩
      · obtain⟨ρ1,h1,b,h2,h3⟩:=inv _ f1
        refine⟨ρ1,h1,b,h2,?_⟩
        cases b with
        | false=>simp at h3
        | true =>
          simp only[if_true,Option.map_eq_some_iff] at h3
          obtain⟨w,h3,h4⟩:=h3
          have h5:w=v:=Option.some.inj h4
          subst h5
          exact .inl ⟨rfl,w,o',h3,f2,f3⟩
      · obtain⟨ρ1,h1,b,h2,h3⟩:=inv _ f1
        refine⟨ρ1,h1,b,h2,?_⟩
        cases b with
        | true=>simp at h3
        | false=>exact .inr ⟨rfl,f2⟩
    obtain⟨ρ1,k1,b,k2,k3⟩:=key
    have s4:bV X.K Hs4 (bF scope ρ) σc:=s3.same E4.vis
    have KE:=jW (K:=Xc.K) (Hs:=Hs4) (ρ:=ρ) (n:=scope.names.length) ok2 rfl
    refine pF (X:=Xc) (scope:=scope) (Hs:=Hs4) GC.calm OC GC.nd E4.sub (hNc _ cZ) KE k1 ⟨cZ,l3,by rw[C.K];exact s4,by rw[C.K];exact s4⟩ (by rw[C.K];exact rx) fun σ5 hN5 p5=>?_
    obtain⟨_,l5,s5,s5'⟩:=p5
    have hev:=hE Xc C ρ1 hN5
    refine Bs hev k2 E4.sub s5 fun H6 Hs6 E6=>?_
    have b6:Hs6 acc=none:=E6.hid acc _ c4 b4
    have c6:H6 acc=some (.lst ys):=E6.all _ _ c4
    have s6:bV X.K Hs6 (bF scope ρ) σ5:=by rw[<- C.K];exact s5'.same E6.vis
    rcases k3 with⟨rfl,v,o',k3,k4,k5⟩ | ⟨rfl,k3⟩
    · refine tQ ((hev elt v k3).1 σ5 H6 Hs6 _ E6.sub (s5.same E6.vis) fun w H7 Hs7 E7 r7=>?_)
      have b7:Hs7 acc=none:=E7.hid acc _ c6 b6
      have c7:H7 acc=some (.lst ys):=E7.all _ _ c6
      refine⟨ys,c7,?_,rfl,hlt,Hs7,ys++[w],pre++[v],o',Ext.acc (E3.trans (E4.trans (E6.trans E7))) hacc b7,b7,aU,?_,k4,?_,by simp;omega,l5,s6.same E7.vis⟩
      · have:=r3.length
        have:=pW hz
        omega
      · rw[<- C.K]
        refine aO.append ?_ (.cons r7 .nil)
        rw[C.K]
        exact aO.same (E4.trans (E6.trans E7)).vis pre ys r3
      · rw[<- p3,k5];simp
    · refine vH ?_
      exact⟨rfl,hlt,Hs6,ys,pre,rest,E3.trans (E4.trans E6),b6,c6,aO.same (E4.trans E6).vis pre ys r3,k3,p3,by omega,l5,s6⟩
  · have hi':i=l.length:=by omega
    subst hi'
    refine .inl ⟨st3,?_⟩
    rw[List.drop_length] at g3
    simp only[bJ,Option.some.injEq] at g3
    subst g3
    rw[List.append_nil] at p3
    subst p3
    exact hq acc ys Hs3 H3 (E1.trans E3) a0 b3 c3 r3
end
end L2
namespace L2
open PySem PySem.Spec PyProof.Rows DE PySem.SeqAt
section
variable {X:Cx} {ρ:Rho} {cx:Cxt} {k:Nat} {sc scope:Scope}
end
end L2
namespace L2
open PySem PySem.Spec PyProof.Rows DE PySem.SeqAt
theorem Ext.shown{Hs H Hs' H':Hp}{acc:Addr}{o:HO}(E:Ext Hs H Hs' H')(h:H acc=none)(h1:Hs' acc=none)(h2:H' acc=some o):Ext Hs H (upd Hs' acc o) H' where
 vis:=fun b u e=>by rw[aL (aG (E.vis b u e) h1)];exact E.vis b u e
 all:=E.all
 sub:=fun b u e=>by
  by_cases hb:b=acc
  ·subst hb;rw[aU] at e;rw[h2];exact e
  ·rw[aL hb] at e;exact E.sub b u e
 hid:=fun b u e n=>by rw[aL (aG e h)];exact E.hid b u e n
section
variable {X:Cx} {ρ:Rho} {cx:Cxt} {k:Nat} {sc scope:Scope}
theorem FW{tg iter elt:Expr}{ifs:List Expr}{l out:List D}{n:Nat}{pos:Pos}(G:Good cx k X sc)(hN:X.N=ρ.map (·.1))(hok:fQ sc scope=true)(hI:EvI X ρ tg iter l)(hp:aD iter=true)(hz:szl l.length=true)(hgo:bJ (nP cx n sc scope ρ tg elt ifs) l=some out)
  (hE:∀ Xc,CompOf X scope Xc->∀ ρ1:Rho,Xc.N=ρ1.map (·.1)->∀ e d,ev cx n (jC scope sc) ρ1 e=some d->Ev Xc ρ1 e d/\∀ b,d=.bl b->EvT Xc ρ1 e b) :
  Ev X ρ (.ListComp elt [⟨tg,iter,ifs,0⟩] scope pos) (.lst out):=by
 obtain⟨ok1,ok2,ok3⟩:=cC G hok
 intro σ H Hs Q hs hst hq
 refine PE.sem (je G.calm ok1 ok2 ok3 iD (fun Xc C=>⟨fM,eE,ao⟩) (cQ hp)) (jy G hN hok hI hz hgo hE hs hst fun acc vs Hs' H' E1 h1 h2 h3 r=>?_)
 have E2:=E1.shown h1 h2 h3
 refine hq _ H' _ E2 ?_
 simp only[Rep]
 refine⟨acc,vs,rfl,.of aU,aO.same (fun b u e=>?_) out vs r⟩
 rw[aL (aG e h2)];exact e
def WkP (cx : Cxt) (sc : Scope) (e : Expr) : Wk -> Prop
    | .r1 a=>∃ x p pos,e=.Call (.Name x p) [a] [] pos/\bC cx sc x=some "range"
    | .r2 a b=>∃ x p pos,e=.Call (.Name x p) [a,b] [] pos/\bC cx sc x=some "range"
    | .zp a b=>∃ x p pos,e=.Call (.Name x p) [a,b] [] pos/\bC cx sc x=some "zip"
    | .rv a=>∃ x p pos,e=.Call (.Name x p) [a] [] pos/\bC cx sc x=some "reversed"
    | .en a=>∃ x p pos,e=.Call (.Name x p) [a] [] pos/\bC cx sc x=some "enumerate"
    | .sq=>True
theorem Hq{e:Expr}:WkP cx sc e (rG cx sc e):=by
 unfold rG
 split
 ·rename_i x p args pos
  split
  ·rename_i h
   split
   ·exact⟨x,p,pos,rfl,h⟩
   ·exact⟨x,p,pos,rfl,h⟩
   ·trivial
  ·rename_i h
   split
   ·exact⟨x,p,pos,rfl,h⟩
   ·trivial
  ·rename_i h
   split
   ·exact⟨x,p,pos,rfl,h⟩
   ·trivial
  ·rename_i h
   split
   ·exact⟨x,p,pos,rfl,h⟩
   ·trivial
  ·trivial
 ·trivial
theorem bD{x:Option D}{i:Int}(h:x.bind asI=some i):x=some (.int i):=by
 obtain⟨d,h1,h2⟩:=aP (show(x >>=asI)=some i from h)
 cases d<;>simp[asI] at h2
 subst h2;exact h1
theorem eG{x:Option D}{i:Bool}(h:x.bind asB=some i):x=some (.bl i):=by
 obtain⟨d,h1,h2⟩:=aP (show(x >>=asB)=some i from h)
 cases d<;>simp[asB] at h2
 subst h2;exact h1
theorem vY{f:Expr->Option D}{tg e:Expr}{l:List D}(G:Good cx k X sc)(hf:∀ e d,f e=some d->Ev X ρ e d/\aD e=true)(h:evI cx (fu tg) f sc e=some l):EvI X ρ tg e l/\aD e=true:=by
 unfold evI at h
 have w:=Hq (cx:=cx) (sc:=sc) (e:=e)
 split at h
 ·rename_i a hw
  rw[hw] at w
  obtain⟨x,p,pos,rfl,hx⟩:=w
  obtain⟨j,h1,h⟩:=aP h
  split at h
  ·rename_i hj
   cases h
   obtain⟨ha,hp⟩:=hf _ _ (bD h1)
   exact⟨sZ G hx ha hp hj,rfl⟩
  ·cases h
 ·rename_i a b hw
  rw[hw] at w
  obtain⟨x,p,pos,rfl,hx⟩:=w
  obtain⟨i,h1,h⟩:=aP h
  obtain⟨j,h2,h⟩:=aP h
  split at h
  ·rename_i hj
   cases h
   rw[Bool.and_eq_true] at hj
   obtain⟨ha,hp⟩:=hf _ _ (bD h1)
   obtain⟨hb,hpb⟩:=hf _ _ (bD h2)
   exact⟨sY G hx ha hp hb hpb hj.1 hj.2,rfl⟩
  ·cases h
 ·rename_i a b hw
  rw[hw] at w
  obtain⟨x,p,pos,rfl,hx⟩:=w
  obtain⟨d1,h1,h⟩:=aP h
  obtain⟨d2,h2,h⟩:=aP (show(f b >>=fun y=>if fu tg=true then Kw d1 y else none)=some l from h)
  have h':(if fu tg=true then Kw d1 d2 else none)=some l:=h
  clear h
  split at h'
  ·rename_i ht
   obtain⟨ha,hp⟩:=hf _ _ h1
   obtain⟨hb,hpb⟩:=hf _ _ h2
   cases tg<;>simp[fu] at ht
   unfold Kw at h'
   split at h'
   ·cases h';exact⟨Ge G hx ha hp hb hpb,rfl⟩
   ·simp at h'
   ·simp at h'
   ·cases h'
  ·cases h'
 ·rename_i a hw
  rw[hw] at w
  obtain⟨x,p,pos,rfl,hx⟩:=w
  simp at h
 ·rename_i a hw
  rw[hw] at w
  obtain⟨x,p,pos,rfl,hx⟩:=w
  obtain⟨d1,h1,h⟩:=aP h
  split at h
  ·rename_i ht
   obtain⟨us,hu,rfl⟩:=Option.map_eq_some_iff.mp h
   obtain⟨ha,hp⟩:=hf _ _ h1
   cases tg<;>simp[fu] at ht
   cases d1<;>simp[tupI] at hu
   subst hu;exact⟨zO G hx ha hp,rfl⟩
  ·cases h
 ·obtain⟨d,h1,h2⟩:=aP (show(f e >>=items)=some l from h)
  obtain⟨ha,hp⟩:=hf _ _ h1
  exact⟨Gf ha h2,hp⟩
theorem Ce{t:Expr}{T:String}(h:tyOf cx sc t=some T):∃ x p,t=.Name x p/\bC cx sc x=some T:=by
 unfold tyOf at h
 split at h
 ·exact⟨_,_,rfl,h⟩
 ·cases h
def WcP (cx : Cxt) (sc : Scope) (b : String) (args : List Expr) : Wc -> Prop
    | .lr1 a=>∃ x p pos,args=[.Call (.Name x p) [a] [] pos]/\bC cx sc x=some "range"/\b="list"
    | .lr2 a a'=>∃ x p pos,args=[.Call (.Name x p) [a,a'] [] pos]/\bC cx sc x=some "range"/\b="list"
    | .tv a=>∃ x p pos,args=[.Call (.Name x p) [a] [] pos]/\bC cx sc x=some "reversed"/\b="tuple"
    | .tr1 a=>∃ x p pos,args=[.Call (.Name x p) [a] [] pos]/\bC cx sc x=some "range"/\b="tuple"
    | .ls a=>∃ x p pos,args=[.Call (.Name x p) [a] [] pos]/\bC cx sc x=some "set"/\b="len"
    | .al=>True
theorem K7{b:String}{args:List Expr}:WcP cx sc b args (Hr cx sc b args):=by
 unfold Hr
 split
 ·rename_i e
  have w:=Hq (cx:=cx) (sc:=sc) (e:=e)
  split
  ·rename_i hw
   rw[hw] at w
   obtain⟨x,p,pos,rfl,hx⟩:=w
   exact⟨x,p,pos,rfl,hx,rfl⟩
  ·rename_i hw
   rw[hw] at w
   obtain⟨x,p,pos,rfl,hx⟩:=w
   exact⟨x,p,pos,rfl,hx,rfl⟩
  ·rename_i hw
   rw[hw] at w
   obtain⟨x,p,pos,rfl,hx⟩:=w
   exact⟨x,p,pos,rfl,hx,rfl⟩
  ·rename_i hw
   rw[hw] at w
   obtain⟨x,p,pos,rfl,hx⟩:=w
   exact⟨x,p,pos,rfl,hx,rfl⟩
  ·split
   ·rename_i a ha
    unfold Tq at ha
    split at ha
    ·rename_i y q a' q' _
     split at ha
     ·rename_i hb
      cases ha
      exact⟨y,q,q',rfl,by simpa using hb,rfl⟩
     ·cases ha
    ·cases ha
   ·trivial
  ·trivial
 ·trivial
end
theorem cL(cx:Cxt):∀ (n:Nat) {k:Nat} {X:Cx} {sc:Scope} {ρ:Rho} {e:Expr} {d:D},Good cx k X sc->X.N=ρ.map (·.1)->ev cx n sc ρ e=some d->Ev X ρ e d/\∀ b,d=.bl b->EvT X ρ e b
  | 0,k,X,sc,ρ,e,d,_,_,h=>by exact nomatch (show(Option.none:Option D)=some d from h)
  | n + 1, k, X, sc, ρ, e, d, G, hN, h => by
    have ih:∀ e d,ev cx n sc ρ e=some d->Ev X ρ e d/\∀ b,d=.bl b->EvT X ρ e b:=fun e d h=>cL cx n G hN h
    have ihp:∀ e d,ev cx n sc ρ e=some d->Ev X ρ e d/\aD e=true:=fun e d h=>⟨(ih e d h).1,aV h⟩
    have val:∀ {e d},(∀ whole,isTrue e X.env whole=(do let v <- whole;standAt e.pos;holding [v] (truthy v)))->Ev X ρ e d->Ev X ρ e d/\∀ b,d=.bl b->EvT X ρ e b:=fun he h1=>⟨h1,fun b hb=>by subst hb;exact Gb h1 he⟩
    cases e with
    | Name x pos =>
      simp only[ev] at h
      split at h
      · rename_i hp
        refine val (fun _=>rfl) ?_
        have fin:∀ kd,sc.names.lookup x=some kd->(kd=.local\/kd=.cell\/kd=.free)->(match ρ.lookup x with | some (.sh d)=>some d | _=>none)=some d->Ev X ρ (.Name x pos) d:=by
          intro kd hk hkd hm
          split at hm
          · rename_i d' hl
            cases hm
            refine Fx hN ?_ hp hl
            unfold Vis
            rw[G.sce,hk]
            rcases hkd with rfl | rfl | rfl
            · exact .inl rfl
            · exact .inr (.inl rfl)
            · exact .inr (.inr rfl)
          · cases hm
        split at h
        · rename_i hk;exact fin _ hk (.inl rfl) h
        · rename_i hk;exact fin _ hk (.inr (.inl rfl)) h
        · rename_i hk;exact fin _ hk (.inr (.inr rfl)) h
        · rename_i hk
          obtain⟨v,u,h0,h1,h2⟩:=G.cst x d h
          exact Ka (show X.env.scope.names.lookup x=_ by rw[G.sce];exact hk) h0 h1 h2 hp
        · cases h
      · cases h
    | Constant c j pos =>
      simp only[ev] at h
      exact val (fun _=>rfl) (zG h)
    | BinOp a op b pos =>
      simp only[ev] at h
      obtain⟨x,h1,h⟩:=aP h
      obtain⟨y,h2,h⟩:=aP h
      exact val (fun _=>rfl) (zK (ih _ _ h1).1 (ih _ _ h2).1 h)
    | UnaryOp op a pos =>
      simp only[ev] at h
      obtain⟨x,h1,h⟩:=aP h
      cases op<;>simp only[Option.map_eq_some_iff] at h<;>try (cases h;done)
      · obtain⟨b,h2,rfl⟩:=h
        cases x<;>simp[asB] at h2
        subst h2
        refine⟨J6 (ih _ _ h1).1,fun c hc=>?_⟩
        cases hc
        exact Gd ((ih _ _ h1).2 _ rfl)
      · obtain⟨i,h2,rfl⟩:=h
        cases x<;>simp[asI] at h2
        subst h2
        exact val (fun _=>rfl) (J7 (ih _ _ h1).1)
    | BoolOp op es pos =>
      simp only[ev] at h
      obtain⟨h1,h2⟩:=nG (pos:=pos) (fun e _ d hd=>ih e d hd) h
      exact⟨h1,fun b hb=>(h2 b hb).t⟩
    | Compare a ops bs pos =>
      simp only[ev] at h
      split at h
      · obtain⟨x,h1,h⟩:=aP h
        obtain⟨y,h2,h⟩:=aP h
        exact FZ G.room (ih _ _ h1).1 (ih _ _ h2).1 (aV h2) h
      · split at h
        · cases h
        rename_i e3 hpl
        have hpl':aD e3=true:=by simpa using hpl
        obtain⟨x,h1,h⟩:=aP h
        obtain⟨y,h2,h⟩:=aP h
        obtain⟨c,h3,h⟩:=aP h
        have h3':=eG h3
        cases c with
        | false =>
          simp only[Bool.false_eq_true,if_false,Option.some.injEq] at h
          subst h
          exact vW G.room (ih _ _ h1).1 (ih _ _ h2).1 hpl' h3' ⟨fun q=>(nomatch q),fun _=>rfl⟩
        | true =>
          simp only[if_true] at h
          obtain⟨z,h4,h⟩:=aP h
          exact vW G.room (ih _ _ h1).1 (ih _ _ h2).1 (aV h4) h3' ⟨fun _=>⟨z,(ih _ _ h4).1,h⟩,fun q=>nomatch q⟩
      · cases h
    | IfExp c a b pos =>
      simp only[ev] at h
      obtain⟨t,h1,h⟩:=aP h
      have h1':=(ih _ _ (eG h1)).2 _ rfl
      cases t with
      | true =>
        simp only[if_true] at h
        refine⟨J9 h1' (fun _=>(ih _ _ h).1) (fun q=>nomatch q),fun r hr=>Bt h1' (fun _=>(ih _ _ h).2 r hr) (fun q=>nomatch q)⟩
      | false =>
        simp only[Bool.false_eq_true,if_false] at h
        refine⟨J9 h1' (fun q=>nomatch q) (fun _=>(ih _ _ h).1),fun r hr=>Bt h1' (fun q=>nomatch q) (fun _=>(ih _ _ h).2 r hr)⟩
    | Tuple es j pos =>
      simp only[ev] at h
      obtain⟨ds,h1,h⟩:=aP h
      split at h
      · rename_i hz
        cases h
        exact val (fun _=>rfl) (zB (dD (fun e _ d hd=>ihp e d hd) h1).1 hz)
      · cases h
    | List es pos =>
      simp only[ev] at h
      obtain⟨ds,h1,h⟩:=aP h
      split at h
      · rename_i hz
        cases h
        exact val (fun _=>rfl) (Fz (dD (fun e _ d hd=>ihp e d hd) h1).1 hz)
      · cases h
    | Subscript a b pos =>
      simp only[ev] at h
      obtain⟨x,h1,h⟩:=aP h
      split at h
      · split at h
        · obtain⟨l,h2,h⟩:=aP h
          obtain⟨u,h3,h⟩:=aP h
          have hl:∀ {o:Option Expr} {l:Option Int},(match o with | none=>some none | some e=>(ev cx n sc ρ e).bind fun d=>(asI d).map some)=some l->EvO X ρ o l:=by
            intro o l h2
            cases o with
            | none=>cases h2;exact zN
            | some e =>
              simp only at h2
              obtain⟨d',g1,g2⟩:=Option.bind_eq_some_iff.mp h2
              obtain⟨i,g3,rfl⟩:=Option.map_eq_some_iff.mp g2
              cases d'<;>simp[asI] at g3
              subst g3
              exact zM (ih _ _ g1).1
          split at h
          · rename_i xs
            split at h
            · rename_i hw
              cases h
              rw[Bool.and_eq_true] at hw
              exact val (fun _=>rfl) (vQ (ih _ _ h1).1 (hl h2) (hl h3) ⟨by simpa using hw.1,by simpa using hw.2⟩)
            · rename_i hw
              cases h
              refine val (fun _=>rfl) (zF (ih _ _ h1).1 (hl h2) (hl h3) fun q=>hw ?_)
              rw[q.1,q.2]
              simp
          · cases h
            exact val (fun _=>rfl) (vU (ih _ _ h1).1 (hl h2) (hl h3))
          · cases h
        · obtain⟨rfl,rfl,hc,us,⟨rfl,rfl⟩ | ⟨rfl,rfl⟩⟩:=CK h
          · exact val (fun _=>rfl) (Fv (ih _ _ h1).1 (ih _ _ (bD hc)).1)
          · exact val (fun _=>rfl) (Ft (ih _ _ h1).1 (ih _ _ (bD hc)).1)
      · obtain⟨y,h2,h⟩:=aP h
        have hp2:=aV h2
        have hr:=G.room
        unfold KH at h
        split at h
        · exact val (fun _=>rfl) (qU (ih _ _ h1).1 (ih _ _ h2).1 hp2 rfl h)
        · exact val (fun _=>rfl) (qU (ih _ _ h1).1 (ih _ _ h2).1 hp2 rfl h)
        · obtain⟨k',h3,h4⟩:=Option.bind_eq_some_iff.mp h
          exact val (fun _=>rfl) (FQ hr (ih _ _ h1).1 (ih _ _ h2).1 hp2 h3 h4)
        · cases h
    | Dict ks vs pos =>
      simp only[ev] at h
      split at h
      · cases h
      · rename_i hz
        obtain⟨l,h1,rfl⟩:=Option.map_eq_some_iff.mp h
        simp only[Bool.or_eq_true,decide_eq_true_eq,not_or,Bool.not_eq_true] at hz
        exact val (fun _=>rfl) (FT (fun e d hd=>(ih e d hd).1) hz.1 (by omega) h1)
    | Call f args kws pos =>
      refine val (fun _=>rfl) ?_
      simp only[ev] at h
      split at h
      · rename_i x p
        split at h
        · rename_i hg
          have hb:∀ {b},cx.blt.lookup x=some b->bC cx sc x=some b:=fun q=>by unfold bC;rw[if_pos hg];exact q
          split at h
          · rename_i hx
            split at h
            · obtain⟨d',h1,h⟩:=aP h
              split at h
              · rename_i c' hxo
                split at h
                · rename_i c
                  split at h
                  · rename_i hin
                    cases h
                    exact FJ G (hb hx) hxo hin (ih _ _ h1).1 (aV h1)
                  · cases h
                · cases h
              · obtain⟨T,h2,h5⟩:=aP h
                clear h
                obtain⟨t,pt,rfl,ht⟩:=Ce h2
                split at h5
                · rename_i c
                  split at h5
                  · rename_i hc
                    rw[Bool.and_eq_true] at hc
                    have eT:T="ValueError":=by simpa using hc.2
                    subst eT
                    cases h5
                    exact FN G (hb hx) ht hc.1 (ih _ _ h1).1 (aV h1)
                  · cases h5
                · cases h5
                · rename_i hne hne2
                  split at h5
                  · rename_i hk
                    cases h5
                    refine J8 G (hb hx) ht hk (ih _ _ h1).1 (aV h1) ?_
                    cases d'<;>first | rfl | exact absurd rfl (hne _) | exact absurd rfl (hne2 _ _)
                  · cases h5
            · cases h
          · rename_i b _ hx
            have wc:=K7 (cx:=cx) (sc:=sc) (b:=b) (args:=args)
            split at h
            · rename_i a hw
              rw[hw] at wc
              obtain⟨y,q,q',rfl,hy,rfl⟩:=wc
              obtain⟨j,h1,h⟩:=aP h
              split at h
              · rename_i hz
                rw[Bool.and_eq_true] at hz
                cases h
                have h1':=bD h1
                exact sX G (hb hx) hy (ih _ _ h1').1 (aV h1') hz.1 hz.2
              · cases h
            · rename_i a a' hw
              rw[hw] at wc
              obtain⟨y,q,q',rfl,hy,rfl⟩:=wc
              obtain⟨i,h1,h⟩:=aP h
              obtain⟨j,h2,h⟩:=aP h
              split at h
              · rename_i hz
                rw[Bool.and_eq_true,Bool.and_eq_true] at hz
                cases h
                have h1':=bD h1
                have h2':=bD h2
                exact sW G (hb hx) hy (ih _ _ h1').1 (aV h1') (ih _ _ h2').1 (aV h2') hz.1.1 hz.1.2 hz.2
              · cases h
            · rename_i a hw
              rw[hw] at wc
              obtain⟨y,q,q',rfl,hy,rfl⟩:=wc
              simp at h
            · rename_i a hw
              rw[hw] at wc
              obtain⟨y,q,q',rfl,hy,rfl⟩:=wc
              simp at h
            · rename_i a hw
              rw[hw] at wc
              obtain⟨y,q,q',rfl,hy,rfl⟩:=wc
              simp at h
            · split at h
              · cases h
              · rename_i hne
                obtain⟨ds,h1,h2⟩:=aP h
                obtain⟨ha,hp⟩:=dD (fun e _ d hd=>ihp e d hd) h1
                cases args with
                | nil=>exact absurd rfl hne
                | cons e es=>exact zL G (hb hx) ha hp h2
          · split at h
            · rename_i hf
              rw[Bool.and_eq_true] at hf
              obtain⟨ds,h1,h⟩:=aP h
              obtain⟨ha,hp⟩:=dD (fun e _ d hd=>ihp e d hd) h1
              have hgl:Gl X x:=by
                have e:sc.names.lookup x=some .globalImplicit:=by unfold nu at hg;simpa using hg
                show X.env.scope.names.lookup x=_
                rw[G.sce,e]
              refine Ga G hgl hf.1 (fun q=>?_) ha hp h
              rw[q] at hf
              exact absurd hf.2 (by decide)
            · cases h
        · cases h
      · split at h
        · split at h
          · cases h
          · cases h
        · cases h
      · split at h
        · split at h
          · rename_i hl
            obtain⟨x,h1,h⟩:=aP h
            obtain⟨z,h2,h⟩:=aP h
            simp[vh] at h
          · cases h
        · cases h
      · split at h
        · split at h
          · rename_i hl
            obtain⟨x,h1,h⟩:=aP h
            obtain⟨y,h2,h⟩:=aP h
            obtain⟨z,h3,h⟩:=aP h
            simp only[Bool.and_eq_true] at hl
            obtain⟨⟨⟨l1,l2⟩,l3⟩,l4⟩:=hl
            have l2':=eq_of_beq l2
            subst l2'
            exact FP G.room (ih _ _ h1).1 rfl l1 (ih _ _ h2).1 l3 (ih _ _ h3).1 l4 h
          · cases h
        · cases h
      · split at h
        · cases h
        · rename_i hne
          obtain⟨i,h1,h⟩:=aP h
          obtain⟨f,h2,h⟩:=aP h
          obtain⟨ds,h3,h⟩:=aP h
          obtain⟨ha,hp⟩:=dD (fun e _ d hd=>ihp e d hd) h3
          have h1':=bD h1
          exact zJ G h2 (ih _ _ h1').1 (aV h1') (fun q=>hne (by rw[q];rfl)) ha hp h
      · cases h
    | ListComp elt gens scope pos =>
      refine val (fun _=>rfl) ?_
      simp only[ev] at h
      split at h
      · rename_i tg iter ifs a
        split at h
        · rename_i hok
          rw[Bool.and_eq_true] at hok
          have ea:a=0:=by simpa using hok.1
          subst ea
          obtain⟨l,h1,h⟩:=aP h
          split at h
          · rename_i hz
            obtain⟨out,h2,h⟩:=aP h
            cases h
            obtain⟨hI,hp⟩:=vY (tg:=tg) G ihp h1
            exact FW G hN hok.2 hI hp hz h2 fun Xc C ρ1 hN1 e d he=>cL cx n (G.comp C hok.2) hN1 he
          · cases h
        · cases h
      · cases h
    | _=>exact nomatch (show(Option.none:Option D)=some d from h)
end L2
namespace L2
open PySem PySem.Spec PyProof.Rows DE PySem.SeqAt
section
variable {prog:Program} {w:World} {A:Around} {E:Value->Shared->Prop}
theorem jY{it t:Addr}{xs:List Value}(apart:t≠it):∀ (more i:Nat) (s:Shared) (Q:List Value->Shared->Prop),s.heap.IsListIter it t i->s.heap.IsList t xs.toArray->i+more<=xs.length ->
    (∀ h',h'.IsListIter it t (i+more)->Heap.SameBut it s.heap h'->Q ((xs.drop i).take more) { s with heap:=h' })->wpAny (model prog w) A (draw (.ref it) more) Q E s
  | 0, i, s, Q, it0, _, _, q => by
    show wpAny _ _ (pure []) _ _ _
    exact wpAny_pure (by simpa using q s.heap it0 (Heap.SameBut.refl ..))
  | more + 1, i, s, Q, it0, hl, hle, q => by
    have lt:i<xs.length:=by omega
    show wpAny _ _ (pyNext (.ref it) >>=_) _ _ _
    refine wpAny_bind (wpAny_pyNext_list_item it0 hl (x:=xs[i]) (by simp[lt]) fun h1 st1 sb1=>?_)
    have hl1:h1.IsList t xs.toArray:=by
      obtain⟨o,e,r⟩:=hl
      exact⟨o,(sb1.2 t apart).trans e,r⟩
    refine wpAny_bind (wpAny_holding (jY apart more (i+1) _ _ st1 hl1 (by omega) fun h2 st2 sb2=>wpAny_pure ?_))
    have z:=q h2 (by rw[show i+(more+1)=i+1+more by omega];exact st2) (sb1.trans sb2)
    rw[List.drop_eq_getElem_cons lt,List.take_succ_cons] at z
    exact z
theorem j7{s:Shared}{t:Addr}{xs:List Value}{Q:List Value->Shared->Prop}(hh:A.handled=none)(hl:s.heap.IsList t xs.toArray)(q:∀ h',(∀ b o,s.heap.get? b=some o->h'.get? b=some o)->Q xs { s with heap:=h' }) :
  wpAny (model prog w) A (unpackItems (.ref t) xs.length none) Q E s:=by
 have apart:t≠s.heap.objs.size:=by obtain⟨o,e,_⟩:=hl;exact Nat.ne_of_lt (Heap.lt_size e)
 have keep:∀ {h':Heap},(∀ b o,b≠s.heap.objs.size->s.heap.get? b=some o->h'.get? b=some o)->∀ b o,s.heap.get? b=some o->h'.get? b=some o:=fun k b o e=>k b o (Nat.ne_of_lt (Heap.lt_size e)) e
 have pushed:∀ (n:Obj),(s.heap.push n).IsList t xs.toArray:=fun n=>by
  obtain⟨o,e,r⟩:=hl
  exact⟨o,Heap.get?_push_of_some _ e,r⟩
 simp only[unpackItems,notIterableAtAll]
 refine wpAny_bind (wpAny_bind (wpAny_specialOf hl.typeIs PySem.slot_list_iter.lookup (wpAny_pure ?_)))
 simp only[Bool.false_eq_true,if_false,Option.isNone_some,Bool.not_true,Bool.false_and]
 refine wpAny_bind (wpAny_holding (wpAny_pyIter_list hl ?_))
 refine wpAny_bind (wpAny_holding (jY apart xs.length 0 _ _ ⟨_,Heap.get?_push_size _ rfl,rfl,rfl⟩ (pushed _) (by omega) fun h1 st1 sb1=>?_))
 have all:List.take xs.length (List.drop 0 xs)=xs:=by simp
 rw[all,if_neg (by simp)]
 have hl1:h1.IsList t xs.toArray:=by
  obtain⟨o,e,r⟩:=pushed { cls:=.type "list_iterator",data:=.fields #[.ref t,.int 0 0] }
  exact⟨o,(sb1.2 t apart).trans e,r⟩
 refine wpAny_bind (wpAny_holding (wpAny_pyNext_list_end hh st1 hl1 (by simp) fun h2 eb=>?_))
 simp only[Option.isSome_none,Bool.false_eq_true,if_false]
 exact wpAny_pure (q h2 (keep fun b o hb e=>eb b o hb ((sb1.2 b hb).trans (Heap.get?_push_of_some _ e))))
end
section
variable {X:Cx} {es:List Expr} {k:Nat} {t:TGs} {n:Nat} {pos:Pos}
def XM(K:PySem.W.Frag)(n:Nat)(t:TGs):TG:=fun v σ H Q=>∃ a xs,v=.ref a/\SqL K H a xs/\xs.length=n/\t xs σ H Q
theorem Jb(hc:X.calm=true)(h:PGs X es t)(hn:(assignEach es X.env).length=n)(hst:(assignEach es X.env).findIdx? (·.1)=none):PG X (.Tuple es k pos) (XM X.K n t):=by
 intro pins s σ H v u Q I r hw
 obtain⟨a,xs,rfl,hq,hl,hw⟩:=hw
 cases (show u=Value.ref a from r)
 obtain⟨its,rv,pl,hz⟩:=I.list hq
 have e:(assignEach es X.env).length=its.length:=by rw[hn,<- hl,rv.length]
 rw[assign_Tuple]
 refine wpAny_bind (wpAny_standAt ?_)
 unfold unpack
 rw[hst,e]
 refine wpAny_bind (wpAny_holding (j7 (I.ok.hd hc) pl.isList fun h' kp=>?_))
 exact h pins _ σ H xs _ Q (I.kept (t':=s.toks) kp) rv hw
end
def OO(K:PySem.W.Frag)(H0 Hs H:Hp)(a:Addr)(bs:List Addr)(dss:List (List D)):Prop :=
  H a = some (.lst (bs.map V.ref)) /\ Hs a = none /\ H0 a = none /\ bs.Nodup /\ a ∉ bs /\ bs.length = dss.length /\
    ∀ (j:Nat) b,bs[j]?=some b->Hs b=none/\H0 b=none/\∃ ds us,dss[j]?=some ds/\H b=some (.lst us)/\aO K Hs ds us
structure Hd (K:PySem.W.Frag) (Hs0 H0 Hs H:Hp) (ρ:Rho) (σ:St):Prop where
 ext:Ext Hs0 H0 Hs H
 len:σ.length=ρ.length
 sh:bV K Hs ρ σ
 ow:∀ (i:Nat) (x:Str) (ds:List D),ρ[i]?=some (x,.ow ds)->∃ a vs,σ[i]?=some (some (.ref a))/\H a=some (.lst vs)/\aO K Hs ds vs/\Hs a=none/\H0 a=none
 dis:∀ (i j:Nat) (x y:Str) (ds es:List D) (a:Addr),i≠j->ρ[i]?=some (x,.ow ds)->ρ[j]?=some (y,.ow es)->σ[i]?=some (some (.ref a))->σ[j]?=some (some (.ref a))->False
 oo:∀ (i:Nat) (x:Str) (dss:List (List D)),ρ[i]?=some (x,.oo dss)->(∃ a bs,σ[i]?=some (some (.ref a))/\OO K H0 Hs H a bs dss)/\∀ (j:Nat) y s,j≠i->ρ[j]?=some (y,s)->tG s=true
section
variable {K:PySem.W.Frag} {Hs0 H0 Hs H Hs' H':Hp} {ρ:Rho} {σ:St}
theorem OO.step{a:Addr}{bs:List Addr}{dss:List (List D)}(h:OO K H0 Hs H a bs dss)(E:Ext Hs H Hs' H'):OO K H0 Hs' H' a bs dss:=by
 obtain⟨h1,h2,h3,h4,h5,h6,h7⟩:=h
 refine⟨E.all _ _ h1,E.hid a _ h1 h2,h3,h4,h5,h6,fun j b e=>?_⟩
 obtain⟨k1,k2,ds,us,k3,k4,k5⟩:=h7 j b e
 exact⟨E.hid b _ k4 k1,k2,ds,us,k3,E.all _ _ k4,aO.same E.vis ds us k5⟩
theorem Hd.step(h:Hd K Hs0 H0 Hs H ρ σ)(E:Ext Hs H Hs' H'):Hd K Hs0 H0 Hs' H' ρ σ where
 ext:=h.ext.trans E
 len:=h.len
 sh:=h.sh.same E.vis
 ow:=fun i x ds e=>by
  obtain⟨a,vs,h1,h2,h3,h4,h5⟩:=h.ow i x ds e
  exact⟨a,vs,h1,E.all _ _ h2,aO.same E.vis ds vs h3,E.hid a _ h2 h4,h5⟩
 dis:=h.dis
 oo:=fun i x dss e=>by
  obtain⟨⟨a,bs,h1,h2⟩,h3⟩:=h.oo i x dss e
  exact⟨⟨a,bs,h1,h2.step E⟩,h3⟩
theorem iz{n:Nat}{e:Expr}{i:Nat}{x:Str}{s:Sl}(h:(frz n e ρ)[i]?=some (x,s)):(ρ[i]?=some (x,s)/\(tG s=false->d8 n x e=false))\/(∃ ds,s=.sh (.lst ds)/\ρ[i]?=some (x,.ow ds)/\d8 n x e=true)\/∃ dss,s=.sh (.lst (dss.map .lst))/\ρ[i]?=some (x,.oo dss)/\d8 n x e=true:=by
  unfold frz at h
  rw[List.getElem?_map] at h
  obtain⟨⟨y,t⟩,h1,h2⟩:=Option.map_eq_some_iff.mp h
  cases t with
  | no=>simp at h2;obtain⟨rfl,rfl⟩:=h2;exact .inl ⟨h1,fun z=>nomatch z⟩
  | sh d=>simp at h2;obtain⟨rfl,rfl⟩:=h2;exact .inl ⟨h1,fun z=>nomatch z⟩
  | ow ds =>
    simp only at h2
    cases hm:d8 n y e with
    | true =>
      rw[hm,if_pos rfl] at h2
      cases h2
      exact .inr (.inl ⟨ds,rfl,h1,hm⟩)
    | false =>
      rw[hm] at h2
      simp at h2
      obtain⟨rfl,rfl⟩:=h2
      exact .inl ⟨h1,fun _=>hm⟩
  | oo dss =>
    simp only at h2
    cases hm:d8 n y e with
    | true =>
      rw[hm,if_pos rfl] at h2
      cases h2
      exact .inr (.inr ⟨dss,rfl,h1,hm⟩)
    | false =>
      rw[hm] at h2
      simp at h2
      obtain⟨rfl,rfl⟩:=h2
      exact .inl ⟨h1,fun _=>hm⟩
theorem aJ(n:Nat)(e:Expr):(frz n e ρ).map (·.1)=ρ.map (·.1):=by
 unfold frz
 rw[List.map_map]
 apply List.map_congr_left
 intro p _
 obtain⟨x,s⟩:=p
 cases s<;>simp<;>(split<;>rfl)
theorem aO.get_of{K:PySem.W.Frag}{H:Hp}:∀ {ds:List D} {vs:List V},ds.length=vs.length->(∀ (j:Nat) d v,ds[j]?=some d->vs[j]?=some v->Rep K H d v)->aO K H ds vs
 | [],[],_,_=>.nil
 | [],_::_,h,_=>by simp at h
 | _::_,[],h,_=>by simp at h
 | d::ds,v::vs,h,q=>.cons (q 0 d v rfl rfl) (aO.get_of (by simpa using h) fun j d' v' e1 e2=>q (j+1) d' v' (by simpa using e1) (by simpa using e2))
theorem OO.mem{a b:Addr}{bs:List Addr}{dss:List (List D)}(h:OO K H0 Hs H a bs dss)(hb:b∈bs):Hs b=none/\H0 b=none:=by
 obtain⟨j,e⟩:=List.mem_iff_getElem?.mp hb
 obtain⟨k1,k2,_⟩:=h.2.2.2.2.2.2 j b e
 exact⟨k1,k2⟩
open Classical in
theorem Hd.frozen2(n:Nat)(e:Expr)(h:Hd K Hs0 H0 Hs H ρ σ):∃ Hs1,Same Hs Hs1/\(∀ b o,Hs1 b=some o->Hs b=some o\/∃ vs,o=.lst vs)/\Hd K Hs0 H0 Hs1 H (frz n e ρ) σ:=by
 let Fo:Addr->Prop:=fun b=>∃ (i:Nat) (x:Str) (ds:List D),ρ[i]?=some (x,Sl.ow ds)/\d8 n x e=true/\σ[i]?=some (some (V.ref b))
 let Fb:Addr->Prop:=fun b=>∃ (i:Nat) (x:Str) (dss:List (List D)) (a:Addr) (bs:List Addr),ρ[i]?=some (x,Sl.oo dss)/\d8 n x e=true/\σ[i]?=some (some (V.ref a))/\OO K H0 Hs H a bs dss/\(b=a\/b∈bs)
 let Hs1:Hp:=fun b=>if Fo b\/Fb b then H b else Hs b
 have vis:Same Hs Hs1:=fun b o q=>by
  show(if Fo b\/Fb b then H b else Hs b)=some o
  split
  ·exact h.ext.sub b o q
  ·exact q
 have sub:Same Hs1 H:=fun b o q=>by
  have q':(if Fo b\/Fb b then H b else Hs b)=some o:=q
  split at q'
  ·exact q'
  ·exact h.ext.sub b o q'
 have fz0:∀ b,Fo b\/Fb b->H0 b=none/\Hs b=none:=fun b hb=>by
  rcases hb with⟨i,x,ds,g1,_,g3⟩ | ⟨i,x,dss,a,bs,g1,_,g3,g4,g5⟩
  ·obtain⟨a,vs,k1,k2,k3,k4,k5⟩:=h.ow i x ds g1
   rw[k1] at g3
   cases g3
   exact⟨k5,k4⟩
  ·rcases g5 with rfl | g5
   ·exact⟨g4.2.2.1,g4.2.1⟩
   ·exact⟨(g4.mem g5).2,(g4.mem g5).1⟩
 have shp:∀ b o,Hs1 b=some o->Hs b=some o\/∃ vs,o=.lst vs:=fun b o q=>by
  have q':(if Fo b\/Fb b then H b else Hs b)=some o:=q
  split at q'
  ·rename_i f
   rcases f with⟨i,x,ds,g1,_,g3⟩ | ⟨i,x,dss,a,bs,g1,_,g3,g4,g5⟩
   ·obtain⟨a,vs,k1,k2,k3,k4,k5⟩:=h.ow i x ds g1
    rw[k1] at g3
    cases g3
    rw[k2] at q'
    cases q'
    exact .inr ⟨vs,rfl⟩
   ·rcases g5 with rfl | g5
    ·rw[g4.1] at q'
     cases q'
     exact .inr ⟨_,rfl⟩
    ·obtain⟨j,ej⟩:=List.mem_iff_getElem?.mp g5
     obtain⟨_,_,_,us,_,m4,_⟩:=g4.2.2.2.2.2.2 j b ej
     rw[m4] at q'
     cases q'
     exact .inr ⟨us,rfl⟩
  ·exact .inl q'
 refine⟨Hs1,vis,shp,⟨h.ext.vis.trans vis,h.ext.all,sub,fun b o q z=>?_⟩,by rw[h.len];simp[frz],fun i x d q=>?_,fun i x ds q=>?_,fun i j x y ds es a hij q1 q2=>?_,fun i x dss q=>?_⟩
 ·show(if Fo b\/Fb b then H b else Hs b)=none
  rw[if_neg fun f=>by rw[(fz0 b f).1] at q;cases q]
  exact h.ext.hid b o q z
 ·rcases iz q with⟨q,_⟩ | ⟨ds,e1,q2,hm⟩ | ⟨dss,e1,q2,hm⟩
  ·obtain⟨v,k1,k2⟩:=h.sh i x d q
   exact⟨v,k1,Rep.same vis d v k2⟩
  ·cases e1
   obtain⟨a,vs,k1,k2,k3,k4,k5⟩:=h.ow i x ds q2
   refine⟨_,k1,?_⟩
   simp only[Rep]
   refine⟨a,vs,rfl,.of ?_,aO.same vis ds vs k3⟩
   show(if Fo a\/Fb a then H a else Hs a)=_
   rw[if_pos (.inl ⟨i,x,ds,q2,hm,k1⟩)]
   exact k2
  ·cases e1
   obtain⟨⟨a,bs,k1,k2⟩,_⟩:=h.oo i x dss q2
   refine⟨_,k1,?_⟩
   simp only[Rep]
   refine⟨a,bs.map V.ref,rfl,.of ?_,?_⟩
   ·show(if Fo a\/Fb a then H a else Hs a)=_
    rw[if_pos (.inr ⟨i,x,dss,a,bs,q2,hm,k1,k2,.inl rfl⟩)]
    exact k2.1
   ·refine aO.get_of (by rw[List.length_map,List.length_map,k2.2.2.2.2.2.1]) fun j d v g1 g2=>?_
    rw[List.getElem?_map] at g1 g2
    obtain⟨es,g3,rfl⟩:=Option.map_eq_some_iff.mp g1
    obtain⟨b,g4,rfl⟩:=Option.map_eq_some_iff.mp g2
    obtain⟨_,_,ds,us,m3,m4,m5⟩:=k2.2.2.2.2.2.2 j b g4
    rw[g3] at m3
    cases m3
    simp only[Rep]
    refine⟨b,us,rfl,.of ?_,aO.same vis es us m5⟩
    show(if Fo b\/Fb b then H b else Hs b)=_
    rw[if_pos (.inr ⟨i,x,dss,a,bs,q2,hm,k1,k2,.inr (List.mem_of_getElem? g4)⟩)]
    exact m4
 ·rcases iz q with⟨q,hm⟩ | ⟨ds',e1,q,hm⟩ | ⟨ds',e1,q,hm⟩
  ·obtain⟨a,vs,k1,k2,k3,k4,k5⟩:=h.ow i x ds q
   refine⟨a,vs,k1,k2,aO.same vis ds vs k3,?_,k5⟩
   show(if Fo a\/Fb a then H a else Hs a)=none
   rw[if_neg]
   ·exact k4
   ·rintro(⟨j,y,es,g1,g2,g3⟩ | ⟨j,y,dss,_,_,g1,_⟩)
    ·by_cases hij:i=j
     ·subst hij
      rw[q] at g1
      cases g1
      rw[hm rfl] at g2
      cases g2
     ·exact h.dis i j x y ds es a hij q g1 k1 g3
    ·by_cases hij:i=j
     ·subst hij
      rw[q] at g1
      cases g1
     ·exact nomatch (h.oo j y dss g1).2 i x _ hij q
  ·cases e1
  ·cases e1
 ·rcases iz q1 with⟨q1,_⟩ | ⟨ds',e1,_⟩ | ⟨ds',e1,_⟩
  ·rcases iz q2 with⟨q2,_⟩ | ⟨ds',e1,_⟩ | ⟨ds',e1,_⟩
   ·exact h.dis i j x y ds es a hij q1 q2
   ·cases e1
   ·cases e1
  ·cases e1
  ·cases e1
 ·rcases iz q with⟨q,hm⟩ | ⟨ds',e1,_⟩ | ⟨ds',e1,_⟩
  ·obtain⟨⟨a,bs,k1,k2⟩,k3⟩:=h.oo i x dss q
   have nf:∀ b,¬ (Fo b\/Fb b):=by
    rintro b (⟨j,y,es,g1,_⟩ | ⟨j,y,dss',_,_,g1,g2,_⟩)
    ·by_cases hij:j=i
     ·subst hij
      rw[q] at g1
      cases g1
     ·exact nomatch k3 j y _ hij g1
    ·by_cases hij:j=i
     ·subst hij
      rw[q] at g1
      cases g1
      rw[hm rfl] at g2
      cases g2
     ·exact nomatch k3 j y _ hij g1
   have sm:∀ b,Hs1 b=Hs b:=fun b=>by
    show(if Fo b\/Fb b then H b else Hs b)=_
    rw[if_neg (nf b)]
   refine⟨⟨a,bs,k1,k2.1,by rw[sm];exact k2.2.1,k2.2.2.1,k2.2.2.2.1,k2.2.2.2.2.1,k2.2.2.2.2.2.1,fun j b g=>?_⟩,fun j y s hj g=>?_⟩
   ·obtain⟨m1,m2,ds,us,m3,m4,m5⟩:=k2.2.2.2.2.2.2 j b g
    exact⟨by rw[sm];exact m1,m2,ds,us,m3,m4,aO.same vis ds us m5⟩
   ·rcases iz g with⟨g,_⟩ | ⟨_,e1,_⟩ | ⟨_,e1,_⟩
    ·exact k3 j y s hj g
    ·rw[e1];rfl
    ·rw[e1];rfl
  ·cases e1
  ·cases e1
theorem Hd.frozen(n:Nat)(e:Expr)(h:Hd K Hs0 H0 Hs H ρ σ):∃ Hs1,Same Hs Hs1/\Hd K Hs0 H0 Hs1 H (frz n e ρ) σ :=
 let ⟨Hs1,a,_,b⟩:=h.frozen2 n e
 ⟨Hs1,a,b⟩
theorem qj{H1 H2:Hp}{d:D}{v:V}(h:scD d=true)(r:Rep K H1 d v):Rep K H2 d v:=by
 cases d<;>first | (simpa[Rep] using r) | (simp[scD] at h)
theorem gj{H1 H2:Hp}:∀ {ds:List D} {vs:List V},ds.all scD=true->aO K H1 ds vs->aO K H2 ds vs
  | [],vs,_,r=>by simpa[aO] using r
  | d :: ds, vs, h, r => by
    simp only[List.all_cons,Bool.and_eq_true] at h
    simp only[aO] at r
    obtain⟨w,r',rfl,h1,h2⟩:=r
    exact .cons (qj h.1 h1) (gj h.2 h2)
theorem nF{Hs1 Hs' H':Hp}{d:D}{v:V}(hs:Same Hs H)(vis:Same Hs Hs1)(shp:∀ b o,Hs1 b=some o->Hs b=some o\/∃ vs,o=.lst vs)(E:Ext Hs1 H Hs' H')(hd:o9 d=true)(r:Rep K Hs' d v):∃ Hs3,Ext Hs H Hs3 H'/\Rep K Hs3 d v:=by
  have back:Ext Hs H Hs H':=⟨.refl _,E.all,hs.trans E.all,fun _ _ _ h=>h⟩
  by_cases hsc:scD d=true
  · exact⟨Hs,back,qj hsc r⟩
  · cases d with
    | tup ds =>
      have hds:ds.all scD=true:=hd
      obtain⟨p,ws,rfl,h1,h2⟩:=bw r
      have fin:∀ u:HO,Hs' p=some u->(∀ vs,u≠.lst vs)->(∀ Hx:Hp,Hx p=some u->SqT K Hx p ws)->∃ Hs3,Ext Hs H Hs3 H'/\Rep K Hs3 (.tup ds) (.ref p):=fun u hu hnl hx=>by
        cases hp:Hs p with
        | some u' =>
          have:=E.vis _ _ (vis _ _ hp)
          rw[hu] at this
          cases this
          refine⟨Hs,back,?_⟩
          simp only[Rep]
          exact⟨p,ws,rfl,hx Hs hp,gj hds h2⟩
        | none =>
          have h1n:Hs1 p=none:=by
            cases q:Hs1 p with
            | none=>rfl
            | some o =>
              rcases shp p o q with z | ⟨vs,rfl⟩
              · rw[hp] at z;cases z
              · have:=E.vis _ _ q
                rw[hu] at this
                cases this
                exact absurd rfl (hnl vs)
          have hHn:H p=none:=by
            cases q:H p with
            | none=>rfl
            | some o=>have:=E.hid p o q h1n;rw[hu] at this;cases this
          have ne:∀ {b:Addr} {o:HO},Hs b=some o->b≠p:=fun {b o} q z=>by subst z;rw[hp] at q;cases q
          refine⟨upd Hs p u,⟨fun b o q=>by rw[aL (ne q)];exact q,E.all,fun b o q=>?_,fun b o q z=>?_⟩,?_⟩
          · by_cases hb:b=p
            · subst hb;rw[aU] at q;cases q;exact E.sub _ _ hu
            · rw[aL hb] at q;exact E.all _ _ (hs _ _ q)
          · have hb:b≠p:=fun z=>by subst z;rw[hHn] at q;cases q
            rw[aL hb];exact z
          · simp only[Rep]
            exact⟨p,ws,rfl,hx _ aU,gj hds h2⟩
      rcases h1 with(h1 | ⟨o,h1⟩) | h1
      · exact fin _ h1 (fun vs z=>nomatch z) fun Hx q=>.inl (.inl q)
      · exact fin _ h1 (fun vs z=>nomatch z) fun Hx q=>.inl (.inr ⟨o,q⟩)
      · refine⟨Hs,back,?_⟩
        simp only[Rep]
        exact⟨p,ws,rfl,.inr h1,gj hds h2⟩
    | _=>exact absurd hd hsc
theorem Hd.set{x:Str}{i:Nat}{d:D}{v:V}(h:Hd K Hs0 H0 Hs H ρ σ)(hn:(ρ.map (·.1)).Nodup)(hi:(ρ.map (·.1))[i]?=some x)(r:Rep K Hs d v):Hd K Hs0 H0 Hs H (cD ρ x (.sh d)) (σ.set i (some v)):=by
 have hl:i<σ.length:=by have:=(List.getElem?_eq_some_iff.mp hi).1;rw[h.len];simpa using this
 refine⟨h.ext,by rw[List.length_set,h.len];have:=congrArg List.length (au ρ x (.sh d));simpa using this.symm,mV hn hi hl h.sh r,fun j y ds e=>?_,fun j j' y y' ds es a hjj e1 e2 e3 e4=>?_,fun j y dss e=>?_⟩
 ·rw[aQ hn hi j] at e
  split at e
  ·cases e
  ·rename_i hj
   obtain⟨a,vs,k1,k⟩:=h.ow j y ds e
   exact⟨a,vs,by rw[List.getElem?_set_ne (fun z=>hj z.symm)];exact k1,k⟩
 ·rw[aQ hn hi] at e1 e2
  split at e1
  ·cases e1
  ·rename_i hj
   split at e2
   ·cases e2
   ·rename_i hj'
    rw[List.getElem?_set_ne (fun z=>hj z.symm)] at e3
    rw[List.getElem?_set_ne (fun z=>hj' z.symm)] at e4
    exact h.dis j j' y y' ds es a hjj e1 e2 e3 e4
 ·rw[aQ hn hi j] at e
  split at e
  ·cases e
  ·rename_i hj
   obtain⟨⟨a,bs,k1,k2⟩,k3⟩:=h.oo j y dss e
   refine⟨⟨a,bs,by rw[List.getElem?_set_ne (fun z=>hj z.symm)];exact k1,k2⟩,fun l z s hl' g=>?_⟩
   rw[aQ hn hi l] at g
   split at g
   ·cases g;rfl
   ·exact k3 l z s hl' g
theorem Hd.own{x:Str}{i:Nat}{ds:List D}{vs:List V}{acc:Addr}(h:Hd K Hs0 H0 Hs H ρ σ)(hn:(ρ.map (·.1)).Nodup)(hi:(ρ.map (·.1))[i]?=some x)(h1:H acc=some (.lst vs))(r:aO K Hs ds vs)(h2:Hs acc=none)(h3:H0 acc=none)
  (no:∀ (j:Nat) y dss,j≠i->ρ[j]?=some (y,.oo dss)->False) (ap:∀ (j:Nat) y es,j≠i->ρ[j]?=some (y,.ow es)->σ[j]?=some (some (.ref acc))->False):Hd K Hs0 H0 Hs H (cD ρ x (.ow ds)) (σ.set i (some (.ref acc))):=by
 have hl:i<σ.length:=by have:=(List.getElem?_eq_some_iff.mp hi).1;rw[h.len];simpa using this
 refine⟨h.ext,by rw[List.length_set,h.len];have:=congrArg List.length (au ρ x (.ow ds));simpa using this.symm,fun j y d e=>?_,fun j y es e=>?_,fun j j' y y' ds' es a hjj e1 e2 e3 e4=>?_,fun j y dss e=>?_⟩
 ·rw[aQ hn hi j] at e
  split at e
  ·cases e
  ·rename_i hj
   obtain⟨v,k1,k2⟩:=h.sh j y d e
   exact⟨v,by rw[List.getElem?_set_ne (fun z=>hj z.symm)];exact k1,k2⟩
 ·rw[aQ hn hi j] at e
  split at e
  ·rename_i hj
   subst hj
   cases e
   exact⟨acc,vs,by rw[List.getElem?_set_self hl],h1,r,h2,h3⟩
  ·rename_i hj
   obtain⟨a,vs',k1,k⟩:=h.ow j y es e
   exact⟨a,vs',by rw[List.getElem?_set_ne (fun z=>hj z.symm)];exact k1,k⟩
 ·rw[aQ hn hi] at e1 e2
  split at e1
  ·rename_i hj
   split at e2
   ·rename_i hj'
    exact hjj (hj.trans hj'.symm)
   ·rename_i hj'
    subst hj
    rw[List.getElem?_set_self hl] at e3
    cases e3
    rw[List.getElem?_set_ne (fun z=>hj' z.symm)] at e4
    exact ap j' y' es hj' e2 e4
  ·rename_i hj
   split at e2
   ·rename_i hj'
    subst hj'
    rw[List.getElem?_set_self hl] at e4
    cases e4
    rw[List.getElem?_set_ne (fun z=>hj z.symm)] at e3
    exact ap j y ds' hj e1 e3
   ·rename_i hj'
    rw[List.getElem?_set_ne (fun z=>hj z.symm)] at e3
    rw[List.getElem?_set_ne (fun z=>hj' z.symm)] at e4
    exact h.dis j j' y y' ds' es a hjj e1 e2 e3 e4
 ·rw[aQ hn hi j] at e
  split at e
  ·cases e
  ·rename_i hj
   exact(no j y dss hj e).elim
theorem Hd.app{x:Str}{i:Nat}{ds es:List D}{vs:List V}{a:Addr}(h:Hd K Hs0 H0 Hs H ρ σ)(hn:(ρ.map (·.1)).Nodup)(hi:ρ[i]?=some (x,.ow ds))(hσ:σ[i]?=some (some (.ref a)))(r:aO K Hs es vs):Hd K Hs0 H0 Hs (upd H a (.lst vs)) (cD ρ x (.ow es)) σ:=by
 obtain⟨a',vs',k1,k2,k3,k4,k5⟩:=h.ow i x ds hi
 rw[hσ] at k1
 cases k1
 have hi':(ρ.map (·.1))[i]?=some x:=by rw[List.getElem?_map,hi];rfl
 refine⟨Ext.acc h.ext k5 k4,by rw[h.len];have:=congrArg List.length (au ρ x (.ow es));simpa using this.symm,fun j y d e=>?_,fun j y es' e=>?_,fun j j' y y' ds' es' b hjj e1 e2 e3 e4=>?_,fun j y dss e=>?_⟩
 ·rw[aQ hn hi' j] at e
  split at e
  ·cases e
  ·exact h.sh j y d e
 ·rw[aQ hn hi' j] at e
  split at e
  ·rename_i hj
   subst hj
   cases e
   exact⟨a,vs,hσ,aU,r,k4,k5⟩
  ·rename_i hj
   obtain⟨b,us,g1,g2,g⟩:=h.ow j y es' e
   refine⟨b,us,g1,?_,g⟩
   rw[aL]
   ·exact g2
   ·rintro rfl
    exact h.dis j i y x es' ds b hj e hi g1 hσ
 ·rw[aQ hn hi'] at e1 e2
  split at e1
  ·rename_i hj
   split at e2
   ·rename_i hj'
    exact hjj (hj.trans hj'.symm)
   ·subst hj
    exact h.dis j j' x y' ds es' b hjj hi e2 e3 e4
  ·split at e2
   ·rename_i hj'
    subst hj'
    exact h.dis j j' y x ds' ds b hjj e1 hi e3 e4
   ·exact h.dis j j' y y' ds' es' b hjj e1 e2 e3 e4
 ·rw[aQ hn hi' j] at e
  split at e
  ·cases e
  ·rename_i hj
   exact nomatch (h.oo j y dss e).2 i x _ (fun w=>hj w.symm) hi
theorem yI{x:Str}{i:Nat}(hn:(ρ.map (·.1)).Nodup)(hi:(ρ.map (·.1))[i]?=some x)(h:jH ρ x=true):∀ (j:Nat) y s,j≠i->ρ[j]?=some (y,s)->tG s=true:=fun j y s hj e=>by
 have:=List.all_eq_true.mp h _ (List.mem_of_getElem? e)
 rw[Bool.or_eq_true] at this
 rcases this with q | q
 ·exfalso
  have ey:y=x:=by simpa using q
  have e':(ρ.map (·.1))[j]?=some x:=by rw[List.getElem?_map,e,<- ey];rfl
  exact hj ((List.getElem?_inj (List.getElem?_eq_some_iff.mp e').1 hn).mp (e'.trans hi.symm))
 ·exact q
theorem Eb{x:Str}{i:Nat}(hn:(ρ.map (·.1)).Nodup)(hi:(ρ.map (·.1))[i]?=some x)(h:xM ρ x=true):∀ (j:Nat) y dss,j≠i->ρ[j]?=some (y,.oo dss)->False:=fun j y dss hj e=>by
 have:=List.all_eq_true.mp h _ (List.mem_of_getElem? e)
 rw[Bool.or_eq_true] at this
 rcases this with q | q
 ·have ey:y=x:=by simpa using q
  have e':(ρ.map (·.1))[j]?=some x:=by rw[List.getElem?_map,e,<- ey];rfl
  exact hj ((List.getElem?_inj (List.getElem?_eq_some_iff.mp e').1 hn).mp (e'.trans hi.symm))
 ·exact nomatch q
theorem Hd.own2{x:Str}{i:Nat}{dss:List (List D)}{a:Addr}{bs:List Addr}(h:Hd K Hs0 H0 Hs H ρ σ)(hn:(ρ.map (·.1)).Nodup)(hi:(ρ.map (·.1))[i]?=some x)(o:OO K H0 Hs H a bs dss)(no:∀ (j:Nat) y s,j≠i->ρ[j]?=some (y,s)->tG s=true):Hd K Hs0 H0 Hs H (cD ρ x (.oo dss)) (σ.set i (some (.ref a))):=by
 have hl:i<σ.length:=by have:=(List.getElem?_eq_some_iff.mp hi).1;rw[h.len];simpa using this
 refine⟨h.ext,by rw[List.length_set,h.len];have:=congrArg List.length (au ρ x (.oo dss));simpa using this.symm,fun j y d e=>?_,fun j y es e=>?_,fun j j' y y' ds' es a hjj e1 e2 e3 e4=>?_,fun j y dss' e=>?_⟩
 ·rw[aQ hn hi j] at e
  split at e
  ·cases e
  ·rename_i hj
   obtain⟨v,k1,k2⟩:=h.sh j y d e
   exact⟨v,by rw[List.getElem?_set_ne (fun z=>hj z.symm)];exact k1,k2⟩
 ·rw[aQ hn hi j] at e
  split at e
  ·cases e
  ·rename_i hj
   exact nomatch no j y _ hj e
 ·rw[aQ hn hi] at e1
  split at e1
  ·cases e1
  ·rename_i hj
   exact nomatch no j y _ hj e1
 ·rw[aQ hn hi j] at e
  split at e
  ·rename_i hj
   subst hj
   cases e
   refine⟨⟨a,bs,by rw[List.getElem?_set_self hl],o⟩,fun l z s hl' g=>?_⟩
   rw[aQ hn hi l,if_neg hl'] at g
   exact no l z s hl' g
  ·rename_i hj
   exact nomatch no j y _ hj e
theorem Hd.app2{x:Str}{i:Nat}{dss dss':List (List D)}{a c:Addr}{bs':List Addr}{vs:List V}(h:Hd K Hs0 H0 Hs H ρ σ)(hn:(ρ.map (·.1)).Nodup)(hi:ρ[i]?=some (x,.oo dss))(hσ:σ[i]?=some (some (.ref a)))(c1:Hs c=none)(c2:H0 c=none)(o:OO K H0 Hs (upd H c (.lst vs)) a bs' dss'):Hd K Hs0 H0 Hs (upd H c (.lst vs)) (cD ρ x (.oo dss')) σ:=by
 have hi':(ρ.map (·.1))[i]?=some x:=by rw[List.getElem?_map,hi];rfl
 obtain⟨_,no⟩:=h.oo i x dss hi
 refine⟨Ext.acc h.ext c2 c1,by rw[h.len];have:=congrArg List.length (au ρ x (.oo dss'));simpa using this.symm,fun j y d e=>?_,fun j y es e=>?_,fun j j' y y' ds' es a hjj e1 e2 e3 e4=>?_,fun j y dss'' e=>?_⟩
 ·rw[aQ hn hi' j] at e
  split at e
  ·cases e
  ·exact h.sh j y d e
 ·rw[aQ hn hi' j] at e
  split at e
  ·cases e
  ·rename_i hj
   exact nomatch no j y _ hj e
 ·rw[aQ hn hi'] at e1
  split at e1
  ·cases e1
  ·rename_i hj
   exact nomatch no j y _ hj e1
 ·rw[aQ hn hi' j] at e
  split at e
  ·rename_i hj
   subst hj
   cases e
   refine⟨⟨a,bs',hσ,o⟩,fun l z s hl' g=>?_⟩
   rw[aQ hn hi' l,if_neg hl'] at g
   exact no l z s hl' g
  ·rename_i hj
   exact nomatch no j y _ hj e
theorem qM{scope:Scope}:j5 K Hs scope (fun ρ σ=>Hd K Hs0 H0 Hs H ρ σ):=fun ρ σ i x d v hn hi _ h r=>h.set hn hi r
end
end L2
namespace L2
open PySem PySem.Spec PyProof.Rows PySem.SeqAt
open DE hiding st
def gR(X:Cx)(s:Stmt):TS:=fun D σ H=>∀ pins s0,Inv X pins σ H s0->wpAny (model X.prog X.w) X.A (exec s X.env) (SP X pins D) X.xe s0
def gQ(X:Cx)(s:List Stmt):TS:=fun D σ H=>∀ pins s0,Inv X pins σ H s0->wpAny (model X.prog X.w) X.A (execs s X.env) (SP X pins D) X.xe s0
section
variable {X:Cx} {s:Stmt} {ss:List Stmt} {t:TS} {D:Ends} {σ:St} {H:Hp}
theorem Ak:PS X s (gR X s):=fun pins s σ H D I h=>h pins s I
theorem PS.sem(h:PS X s t)(q:t D σ H):gR X s D σ H:=fun pins s I=>h pins s σ H D I q
theorem dj:PSs X ss (gQ X ss):=fun pins s σ H D I h=>h pins s I
theorem PSs.sem(h:PSs X ss t)(q:t D σ H):gQ X ss D σ H:=fun pins s I=>h pins s σ H D I q
end
def Runs(X:Cx)(Hs0 H0:Hp)(ρ:Rho)(fl:Fl)(t:TS):Prop:=∀ σ H Hs D,Hd X.K Hs0 H0 Hs H ρ σ->X.N=ρ.map (·.1)->(∀ ρ' σ' Hs' H',fl=.nxt ρ'->Same Hs Hs'->X.N=ρ'.map (·.1)->Hd X.K Hs0 H0 Hs' H' ρ' σ'->D.nx σ' H') ->
 (∀ d v Hs' H',fl=.ret d->Ext Hs0 H0 Hs' H'->Rep X.K Hs' d v->D.rt v H')->t D σ H
structure GoodS (cx:Cxt) (k:Nat) (X:Cx) (sc:Scope):Prop where
 good:Good cx k X sc
 own:Owns X sc
 pass:PassesOwn (model X.prog X.w) X.A X.env X.xe
 stk:X.stack=X.env::X.outer/\X.env.frame=some X.env.locals
section
variable {X:Cx} {ρ:Rho} {cx:Cxt} {k F:Nat} {sc scope:Scope} {Hs0 H0:Hp} {e:Expr} {d:D}
theorem zE(G:GoodS cx k X sc)(hN:X.N=ρ.map (·.1))(he:ev cx F sc (frz F e ρ) e=some d){σ:St}{H Hs:Hp}{Q:VK}(h:Hd X.K Hs0 H0 Hs H ρ σ)(q:∀ v Hs' H',Same Hs Hs'->Hd X.K Hs0 H0 Hs' H' (frz F e ρ) σ->Rep X.K Hs' d v->Q v H'):j8 X e σ H Q:=by
 obtain⟨Hs1,sm1,h1⟩:=h.frozen F e
 exact(cL cx F G.good (by rw[aJ];exact hN) he).1 σ H Hs1 Q h1.ext.sub h1.sh fun v H' Hs' E r=>q v Hs' H' (sm1.trans E.vis) (h1.step E) r
theorem Br(G:GoodS cx k X sc)(hN:X.N=ρ.map (·.1)){b:Bool}(he:ev cx F sc (frz F e ρ) e=some (.bl b)){σ:St}{H Hs:Hp}{Q:Bool->Hp->Prop}(h:Hd X.K Hs0 H0 Hs H ρ σ)(q:∀ Hs' H',Same Hs Hs'->Hd X.K Hs0 H0 Hs' H' (frz F e ρ) σ->Q b H'):xY X e σ H Q:=by
 obtain⟨Hs1,sm1,h1⟩:=h.frozen F e
 exact(cL cx F G.good (by rw[aJ];exact hN) he).2 b rfl σ H Hs1 Q h1.ext.sub h1.sh fun H' Hs' E=>q Hs' H' (sm1.trans E.vis) (h1.step E)
theorem eZ{t:Option Expr}{l:Nat}{env:Env}(he:ev cx F sc ρ e=some d)(hc:∀ a b c p,e≠.ListComp a b c p):swapsWith e t l env=pure false:=by
  cases F with
  | zero=>simp[ev] at he
  | succ F =>
    cases e<;>first | rfl | (exact nomatch (show(Option.none:Option D)=some d from he)) | (exact absurd rfl (hc _ _ _ _))
theorem yg(h:bf e=false):kj e d=.sh d:=by
 unfold kj
 split
 ·rw[h];rfl
 ·rfl
def KZ(X:Cx)(ρ:Rho)(e:Expr)(ds:List D):Prop:=∀ σ H Hs Q,Same Hs H->bV X.K Hs ρ σ->(∀ acc vs Hs' H',Ext Hs H Hs' H'->H acc=none->Hs' acc=none->H' acc=some (.lst vs)->aO X.K Hs' ds vs->Q (.ref acc) H')->j8 X e σ H Q
theorem yG{es:List Expr}{ds:List D}{pos:Pos}(h:EvA X ρ es ds)(hz:szl ds.length=true):KZ X ρ (.List es pos) ds:=fun σ H Hs Q hs hst hq =>
  (uV bW).sem (h σ H Hs _ hs hst fun vs H1 Hs1 E1 r1=>⟨by rw[<- r1.length];exact eY hz,fun p hp =>
    hq p vs Hs1 _ (Ext.acc E1 (E1.all.free hp) (E1.sub.free hp)) (E1.all.free hp) (E1.sub.free hp) aU r1⟩)
theorem jz{elt:Expr}{gens:List Comprehension}{pos:Pos}{n:Nat}(G:Good cx k X sc)(hN:X.N=ρ.map (·.1))(he:ev cx (n+1) sc ρ (.ListComp elt gens scope pos)=some d) :
    ∃ tg iter ifs l out, gens = [⟨tg, iter, ifs, 0⟩] /\ fQ sc scope = true /\ EvI X ρ tg iter l /\ aD iter = true /\ szl l.length = true /\ bJ (nP cx n sc scope ρ tg elt ifs) l = some out /\ d = .lst out /\
      (∀ Xc,CompOf X scope Xc->∀ ρ1:Rho,Xc.N=ρ1.map (·.1)->∀ e d,ev cx n (jC scope sc) ρ1 e=some d->Ev Xc ρ1 e d/\∀ b,d=.bl b->EvT Xc ρ1 e b):=by
  simp only[ev] at he
  split at he
  · rename_i tg iter ifs a
    split at he
    · rename_i hok
      rw[Bool.and_eq_true] at hok
      have ea:a=0:=by simpa using hok.1
      subst ea
      obtain⟨l,h1,he⟩:=aP he
      split at he
      · rename_i hz
        obtain⟨out,h2,he⟩:=aP he
        cases he
        obtain⟨hI,hp⟩:=vY (tg:=tg) G (fun e d h=>⟨(cL cx n G hN h).1,aV h⟩) h1
        exact⟨tg,iter,ifs,l,out,rfl,hok.2,hI,hp,hz,h2,rfl,fun Xc C ρ1 hN1 e d he=>cL cx n (G.comp C hok.2) hN1 he⟩
      · cases he
    · cases he
  · cases he
theorem Du{a b:Expr}{ds:List D}{j:Int}{pos:Pos}(ha:Ev X ρ a (.lst ds))(hb:Ev X ρ b (.int j))(h1:j<=1000)(h2:-1000<=j)(hz:szl (ds.length*j.toNat)=true):KZ X ρ (.BinOp a .Mult b pos) (List.replicate j.toNat ds).flatten:=fun σ H Hs Q hs hst hq=>by
 refine(ig uZ ao ao).sem (ha σ H Hs _ hs hst fun u H1 Hs1 E1 r1=>hb σ H1 Hs1 _ E1.sub (hst.same E1.vis) fun v H2 Hs2 E2 r2=>?_)
 obtain⟨p,us,rfl,g1,g2⟩:=bG (Rep.same E2.vis _ _ r1)
 have l1:=g2.length
 have E:=E1.trans E2
 exact⟨p,_,us,rfl,aF r2,E2.sub.seq g1,by omega,by omega,by have:=eY hz;rw[<- l1];exact this,fun q hq'=>hq q _ Hs2 _ (Ext.acc E (E.all.free hq') (E.sub.free hq')) (E.all.free hq') (E.sub.free hq') aU (g2.rep _)⟩
theorem pY{x:Str}{ds:List D}{px pos:Pos}(G:GoodS cx k X sc)(hN:X.N=ρ.map (·.1))(hx:ownIn sc x=true)(hc:(ρ.map (·.1)).contains x=true)(hno:xM (frz F e ρ) x=true)
  (hrun:∀ (i:Nat),X.N[i]?=some x->∀ σ H Hs D,Same Hs H->bV X.K Hs (frz F e ρ) σ->(∀ acc vs Hs' H',Ext Hs H Hs' H'->H acc=none->Hs' acc=none->H' acc=some (.lst vs)->aO X.K Hs' ds vs->D.nx (σ.set i (some (.ref acc))) H')->gR X (.Assign [.Name x px] e pos) D σ H) :
  Runs X Hs0 H0 ρ (.nxt (cD (frz F e ρ) x (.ow ds))) (gR X (.Assign [.Name x px] e pos)):=by
 intro σ H Hs D h _ hn hr
 obtain⟨i,hi⟩:=bB hc
 obtain⟨Hs1,sm1,h1⟩:=h.frozen F e
 have hnd:((frz F e ρ).map (·.1)).Nodup:=by rw[aJ,<- hN];exact G.good.nd
 refine hrun i (by rw[hN];exact hi) σ H Hs1 D h1.ext.sub h1.sh fun acc vs Hs' H' E a1 a2 a3 r=>?_
 refine hn _ _ Hs' H' rfl (sm1.trans E.vis) (by rw[au,aJ];exact hN) ((h1.step E).own hnd (by rw[aJ];exact hi) a3 r a2 (h1.ext.all.free a1) (Eb hnd (by rw[aJ];exact hi) hno) fun j y es hj q1 q2=>?_)
 obtain⟨b,us,k1,k2,_⟩:=h1.ow j y es q1
 rw[k1] at q2
 cases q2
 rw[a1] at k2
 cases k2
theorem uy{x:Str}{px pos:Pos}(G:GoodS cx k X sc)(hN:X.N=ρ.map (·.1))(hx:ownIn sc x=true)(hc:(ρ.map (·.1)).contains x=true)(hno:bf e=true->xM (frz F e ρ) x=true)(he:ev cx F sc (frz F e ρ) e=some d) :
    Runs X Hs0 H0 ρ (.nxt (cD (frz F e ρ) x (kj e d))) (gR X (.Assign [.Name x px] e pos)):=by
  obtain⟨ox,of⟩:=G.own.own x hx
  have hN':X.N=(frz F e ρ).map (·.1):=by rw[aJ];exact hN
  by_cases hfr:bf e=true
  · cases F with
    | zero=>simp[ev] at he
    | succ F =>
      cases e with
      | List es p2 =>
        simp only[ev] at he
        obtain⟨ds,h1,he⟩:=aP he
        split at he
        · rename_i hz
          cases he
          have hA:=(dD (fun e _ d hd=>⟨(cL cx F G.good hN' hd).1,aV hd⟩) h1).1
          refine pY G hN hx hc (hno rfl) fun i hi σ H Hs D hs hst hq=>?_
          refine PS.sem (jc G.good.nd hi ox ao rfl of) (yG hA hz σ H Hs _ hs hst fun acc vs Hs' H' E a1 a2 a3 r=>hq acc vs Hs' H' E a1 a2 a3 r)
        · cases he
      | ListComp elt gens scope p2 =>
        obtain⟨tg,iter,ifs,l,out,rfl,hok,hI,hp,hz,hgo,rfl,hE⟩:=jz G.good hN' he
        obtain⟨ok1,ok2,ok3⟩:=cC G.good hok
        refine pY G hN hx hc (hno rfl) fun i hi σ H Hs D hs hst hq=>?_
        have rd:oA X scope (ou X tg iter) (oJ X.N scope.names) (fun Xc=>zu Xc tg) (fun Xc=>oX Xc ifs) (fun Xc=>j8 Xc elt) σ H (fun v H1=>D.nx (σ.set i (some v)) H1) :=
          jy G.good hN' hok hI hz hgo hE hs hst fun acc vs Hs' H' E a1 a2 a3 r=>hq acc vs Hs' H' E a1 a2 a3 r
        cases hsw:(X.env.blockKind==.function&&X.env.kindOf x==some .local&&px.line==p2.line && !(scope.names.any fun(n,k)=>n==x&&(k==.local||k==.cell))) with
        | true =>
          have e1:swapsWith (.ListComp elt [⟨tg,iter,ifs,0⟩] scope p2) (some (.Name x px)) pos.line X.env=pure true:=by rw[<- hsw];rfl
          rw[Bool.and_eq_true,Bool.and_eq_true,Bool.and_eq_true] at hsw
          have hl:X.env.scope.names.lookup x=some .local:=by simpa[Env.kindOf] using hsw.1.1.2
          exact PS.sem (uN G.good.nd hi hl G.good.calm ok1 ok2 ok3 iD (fun Xc C=>⟨fM,eE,ao⟩) (cQ hp) e1) rd
        | false =>
          have e1:swapsWith (.ListComp elt [⟨tg,iter,ifs,0⟩] scope p2) (some (.Name x px)) pos.line X.env=pure false:=by rw[<- hsw];rfl
          exact PS.sem (jc G.good.nd hi ox (je G.good.calm ok1 ok2 ok3 iD (fun Xc C=>⟨fM,eE,ao⟩) (cQ hp)) e1 of) rd
      | BinOp a op b p2 =>
        have hno':=hno hfr
        simp only[bf,Bool.and_eq_true] at hfr
        obtain⟨q1,q2⟩:=hfr
        cases op<;>simp[Wn] at q2
        cases a with
        | List es p3 =>
          simp only[ev] at he
          obtain⟨dx,h1,he⟩:=aP he
          obtain⟨dy,h2,he⟩:=aP he
          have hl:∃ ds0,dx=.lst ds0:=by
            cases F with
            | zero=>simp[ev] at h1
            | succ F =>
              simp only[ev] at h1
              obtain⟨ds0,_,h1⟩:=aP h1
              split at h1
              · cases h1;exact⟨_,rfl⟩
              · cases h1
          obtain⟨ds0,rfl⟩:=hl
          cases dy with
          | int j =>
            simp only[binop] at he
            split at he
            · rename_i hz
              cases he
              rw[Bool.and_eq_true,Bool.and_eq_true,decide_eq_true_eq,decide_eq_true_eq] at hz
              have e1:=(cL cx F G.good hN' h1).1
              have e2:=(cL cx F G.good hN' h2).1
              refine pY G hN hx hc hno' fun i hi σ H Hs D hs hst hq=>?_
              refine PS.sem (jc G.good.nd hi ox ao rfl of) (Du e1 e2 hz.1.1 hz.1.2 hz.2 σ H Hs _ hs hst fun acc vs Hs' H' E a1 a2 a3 r=>hq acc vs Hs' H' E a1 a2 a3 r)
            · cases he
          | _=>simp[binop] at he
        | _=>exact absurd (show false=true from q1) Bool.false_ne_true
      | _=>simp[bf] at hfr
  · have hfr':bf e=false:=by simpa using hfr
    rw[yg hfr']
    intro σ H Hs D h _ hn hr
    obtain⟨i,hi⟩:=bB hc
    have hsw:=eZ (t:=some (.Name x px)) (l:=pos.line) (env:=X.env) he fun a b c p q=>by rw[q] at hfr';cases hfr'
    refine PS.sem (jc (i:=i) G.good.nd (by rw[hN];exact hi) ox ao hsw of) (zE G hN he h fun v Hs' H' sm h' r=>?_)
    exact hn _ _ Hs' H' rfl sm (by rw[au];exact hN') (h'.set (by rw[<- hN'];exact G.good.nd) (by rw[aJ];exact hi) r)
theorem tK{es:List Expr}{l:List D}{ρ':Rho}{σ:St}{v:V}{Hs H:Hp}{P:Rho->St->Prop}{Q:St->Hp->Prop}{kt:Nat}{pos:Pos}(G:GoodS cx k X sc)(hs:Same Hs H)(hN:X.N=ρ.map (·.1))(KE:j5 X.K Hs sc P)(hl:items d=some l)(hb:bindNames sc es l ρ=some ρ')(hp:P ρ σ)(rd:Rep X.K Hs d v)
    (hq:∀ σ',X.N=ρ'.map (·.1)->P ρ' σ'->Q σ' H):zu X (.Tuple es kt pos) v σ H Q:=by
  obtain⟨e1,e2,e3⟩:=d7 (env:=X.env) hb
  cases d with
  | tup xs =>
    simp only[items,Option.some.injEq] at hl;subst hl
    obtain⟨a,vs,rfl,h1,h2⟩:=bw rd
    exact PG.sem (Ao G.good.calm kZ e1 e2) ⟨a,vs,rfl,hs.tup h1,by rw[<- h2.length,e3],fJ G.own G.good.nd KE hN hb hp h2 hq⟩
  | lst xs =>
    simp only[items,Option.some.injEq] at hl;subst hl
    obtain⟨a,vs,rfl,h1,h2⟩:=bG rd
    exact PG.sem (Jb G.good.calm kZ e1 e2) ⟨a,vs,rfl,hs.seq h1,by rw[<- h2.length,e3],fJ G.own G.good.nd KE hN hb hp h2 hq⟩
  | _=>simp[items] at hl
theorem qC{n:Nat}(h:nc0 e=true):foldedForSure n e=false/\constantsAlone n e=false:=by
 cases e<;>simp[nc0] at h<;>(constructor<;>simp[foldedForSure,constantsAlone,h])
theorem Js{n:Nat}(h:nc1 e=true):constantsAlone (n+1) e=false:=by
 unfold nc1 at h
 split at h
 ·simp[constantsAlone,(qC (n:=n) h).2]
 ·exact(qC h).2
theorem jJ(h:nc e=true):foldedForSure 8 e=false/\constantsAlone 8 e=false:=by
 unfold nc at h
 split at h
 ·rw[Bool.or_eq_true] at h
  refine⟨by simp[foldedForSure],?_⟩
  rcases h with h | h<;>simp[constantsAlone,(qC (n:=7) h).2]
 ·rw[Bool.or_eq_true] at h
  refine⟨by simp[foldedForSure],?_⟩
  rcases h with h | h<;>simp[constantsAlone,(Js (n:=6) h)]
 ·exact qC h
theorem lZ(G:Good cx k X sc):X.env.blockKind=.function:=by
 unfold Env.blockKind
 rw[G.sce,G.kind]
 rfl
theorem HW{es:List Expr}{kt:Nat}{pt:Pos}(G:Good cx k X sc)(h:swp sc es e=some false):swappedStores [.Tuple es kt pt] e X.env=pure none:=by
  cases e with
  | Tuple vs k2 p2 =>
    simp only[swp] at h
    split at h
    · rename_i x px y py a b
      split at h
      · split at h
        · cases h
        · split at h
          · rename_i hcs
            rw[Bool.and_eq_true] at hcs
            have f1:foldedForSure 8 a=true:=by cases a<;>first | rfl | (simp[yU] at hcs)
            have f2:foldedForSure 8 b=true:=by cases b<;>first | rfl | (simp[yU] at hcs)
            have al1:[a,b].all (foldedForSure 8)=true:=by simp[f1,f2]
            unfold swappedStores
            simp only[al1,if_true]
            repeat' split
            all_goals rfl
          · cases h
      · rename_i hl
        have hl':¬ ((X.env.kindOf x==some .local)=true/\(X.env.kindOf y==some .local)=true):=by
          intro q
          apply hl
          rw[Bool.and_eq_true]
          unfold Env.kindOf at q
          rw[G.sce] at q
          exact q
        unfold swappedStores
        cases h1:X.env.kindOf x==some .local<;>cases h2:X.env.kindOf y==some .local
        all_goals simp only[h1,h2] at hl'
        all_goals simp[h1,h2,lZ G]
        · intro _ _ hlen
          exfalso
          have n1:¬ X.env.kindOf x=some .local:=by simpa using h1
          have n2:¬ X.env.kindOf y=some .local:=by simpa using h2
          simp[List.filterMap_cons,n1,n2] at hlen
        · intro _ _ hlen
          exfalso
          have n1:¬ X.env.kindOf x=some .local:=by simpa using h1
          simp only[List.filterMap_cons,List.filterMap_nil,n1,false_and,if_false] at hlen
          split at hlen<;>simp at hlen
        · intro _ _ hlen
          exfalso
          have n1:¬ X.env.kindOf y=some .local:=by simpa using h2
          simp only[List.filterMap_cons,List.filterMap_nil,n1,false_and,if_false] at hlen
          split at hlen<;>simp at hlen
        · exact absurd ⟨trivial,trivial⟩ hl'
    · cases h
  | _=>rfl
theorem Cm{es:List Expr}{kt:Nat}{pt:Pos}(G:Good cx k X sc)(h:swp sc es e=some true):∃ x px y py a b k2 p2,es=[.Name x px,.Name y py]/\e=.Tuple [a,b] k2 p2/\X.env.scope.names.lookup x=some .local/\X.env.scope.names.lookup y=some .local/\x≠y/\aD a=true/\aD b=true /\
    swappedStores [.Tuple es kt pt] e X.env=pure (some [x,y]):=by
  cases e with
  | Tuple vs k2 p2 =>
    simp only[swp] at h
    split at h
    · rename_i x px y py a b
      split at h
      · rename_i hl
        split at h
        · rename_i hq
          rw[Bool.and_eq_true] at hl
          rw[Bool.and_eq_true,Bool.and_eq_true,Bool.and_eq_true,Bool.and_eq_true,Bool.or_eq_true] at hq
          obtain⟨⟨⟨⟨q1,q2⟩,q3⟩,q4⟩,q5⟩:=hq
          have l1:X.env.kindOf x=some .local:=by unfold Env.kindOf;rw[G.sce];simpa using hl.1
          have l2:X.env.kindOf y=some .local:=by unfold Env.kindOf;rw[G.sce];simpa using hl.2
          have hxy:x≠y:=by simpa using q2
          have hpl : py.line = px.line := by have : px.line = py.line := by simpa using q1
                                             exact this.symm
          have f1:(foldedForSure 8 a&&foldedForSure 8 b)=false:=by
            rcases q3 with q | q
            · rw[(jJ q).1];rfl
            · rw[(jJ q).1,Bool.and_false]
          have f2:(constantsAlone 8 a&&constantsAlone 8 b)=false:=by
            rcases q3 with q | q
            · rw[(jJ q).2];rfl
            · rw[(jJ q).2,Bool.and_false]
          refine⟨x,px,y,py,a,b,k2,p2,rfl,rfl,l1,l2,hxy,q4,q5,?_⟩
          unfold swappedStores
          have ed:([x,y]:List Str).eraseDups.length=2:=by
            have:(y==x)=false:=by simpa using hxy.symm
            simp[List.eraseDups_cons,this]
          have al1:[a,b].all (foldedForSure 8)=false:=by simpa using f1
          have al2:[a,b].all (constantsAlone 8)=false:=by simpa using f2
          simp only[al1,al2,lZ G]
          generalize hst:[a,b].any _=sb
          have hsb:sb=false:=by
            rw[<- hst,List.any_cons,List.any_cons,List.any_nil,Bool.or_false,Bool.or_eq_false_iff]
            clear hst f1 f2 al1 al2 q3
            refine⟨?_,?_⟩
            · cases a<;>first | rfl | (simp[aD] at q4)
            · cases b<;>first | rfl | (simp[aD] at q5)
          generalize hf:List.filterMap _ [Expr.Name x px,Expr.Name y py]=nm
          have hnm:nm=[x,y]:=by
            rw[<- hf]
            simp[List.filterMap_cons,l1,l2,hpl,Expr.pos]
          rw[hsb,hnm]
          simp only[ed]
          rfl
        · split at h<;>cases h
      · cases h
    · cases h
  | _=>simp[swp] at h
end
end L2
namespace L2
open PySem PySem.Spec PyProof.Rows PySem.SeqAt
open DE hiding st
def XOk(X:Cx)(σ:St)(E:XK):Prop:=∀ pins H s e s',Inv X pins σ H s->CX1 X.prog X.w X.stack H s E e s'->X.xe e s'
def wZ(X:Cx)(σ:St)(E:XK):Prop:=∀ pins H s (C e:Addr) h' args,Inv X pins σ H s->Heap.MadeExcOf s.heap h' e (.ref C) args->E (.ref C) none H->X.xe (.ref e) { s with heap:=h' }
def EX(X:Cx)(c:Str)(Hs H:Hp)(E:XK):Prop:=∀ C H' Hs',PySem.W.nsIn X.K mainGlobals c=some (some (.ref C))->Ext Hs H Hs' H'->E (.ref C) none H'
theorem EX.step{X:Cx}{c:Str}{Hs H Hs1 H1:Hp}{E:XK}(h:EX X c Hs H E)(e:Ext Hs H Hs1 H1):EX X c Hs1 H1 E:=fun C H' Hs' hn e'=>h C H' Hs' hn (e.trans e')
def EvX(X:Cx)(ρ:Rho)(e:Expr)(c:Str):Prop:=∀ σ H Hs E,Same Hs H->bV X.K Hs ρ σ->EX X c Hs H E->XOk X σ E->∀ Q,j8 X e σ H Q
def WQ(X:Cx)(ρ:Rho)(es:List Expr)(c:Str):Prop:=∀ σ H Hs E,Same Hs H->bV X.K Hs ρ σ->EX X c Hs H E->XOk X σ E->∀ Q,rR X es σ H Q
section
variable {X:Cx} {ρ:Rho} {cx:Cxt} {k:Nat} {sc scope:Scope}
theorem uH{f:Addr}{fd:FuncData}{ps:List Str}{sp:Sp}{E:XK}{pins:List (Addr×Obj)}{σ:St}{H:Hp}{s:Shared}{Q:VK}{us:List Value}{vs:List V}(F:FnOk X.prog X.w X.K X.mg X.base (CX1 X.prog X.w) k f fd ps sp)(hr:Room k X.A)(hb:Binds X.K fd ps [])(hx:XOk X σ E)
    (I:Inv X pins σ H s) (r:Vals vs us) (h:sp vs H Q E):wpAny (model X.prog X.w) X.A (call (.ref f) us) (EP X pins σ Q) X.xe s:=by
  have hl:(us++([]:List Value)).length=ps.length:=by rw[List.append_nil,<- r.length];exact F.len _ _ _ _ h
  have hb':=hb s us I.kIn hl
  rw[List.append_nil] at hb'
  refine wpAny_call (codeAny_mono (F.run X.A X.stack s H ⟨us,[]⟩ us vs Q E hr I.env0 hb' r h) fun r s' hq=>?_)
  cases r with
  | error e=>exact hx pins H s e s' I hq
  | ok fl =>
    cases fl with
    | ret u=>exact I.after hq
    | next=>exact False.elim hq
    | brk=>exact False.elim hq
    | cont=>exact False.elim hq
theorem BP{f:Expr->Option D}{g:Expr->Option Str}{c:Str}(hf:∀ e d,f e=some d->Ev X ρ e d)(hg:∀ e c,g e=some c->EvX X ρ e c):∀ {es:List Expr},(∀ e∈es,aD e=true)->wX f g es=some c->WQ X ρ es c
  | [],_,h=>by simp[wX] at h
  | e :: es, hp, h => by
    simp only[wX] at h
    intro σ H Hs E hs hst hE hx Q
    refine(bx ao bW (ak (hp e (by simp)))).sem ?_
    cases he:f e with
    | some d =>
      rw[he] at h
      exact hf e d he σ H Hs _ hs hst fun v H1 Hs1 E1 _=>BP hf hg (fun e' h'=>hp e' (List.mem_cons_of_mem _ h')) h σ H1 Hs1 E E1.sub (hst.same E1.vis) (hE.step E1) hx _
    | none =>
      rw[he] at h
      exact hg e c h σ H Hs E hs hst hE hx _
theorem zH{f:Str}{es:List Expr}{c:Str}{p pos:Pos}(G:Good cx k X sc)(hg:Gl X f)(hf:cx.fns.contains f=true)(hne:es≠[])(hp:∀ e∈es,aD e=true)(h:WQ X ρ es c\/∃ ds,EvA X ρ es ds/\cx.callx f ds=some c) :
    EvX X ρ (.Call (.Name f p) es [] pos) c:=by
  obtain⟨hdb,a,fd,ps,_,har,hm,hk,hb,F⟩:=G.fns f hf
  cases es with
  | nil=>exact absurd rfl hne
  | cons e es =>
    intro σ H Hs E hs hst hE hx Q pins s I
    refine wpAny_Call_Name_kw (jh I hg hm ?_ hdb)
    refine PySem.W.callWith_K (h₀:=X.base) I.ok.mod.kin hk ?_ (ak (hp e (by simp))) (dg fun e' he=>hp e' (List.mem_cons_of_mem _ he))
    rcases h with h | ⟨ds,hA,hc⟩
    · exact thn (h σ H Hs E hs hst hE hx (fun _ _=>False) pos pins s I) fun us s1 ⟨vs,H1,I1,r,q⟩=>q.elim
    · refine thn (hA σ H Hs (fun vs H1=>∃ Hs1,Ext Hs H Hs1 H1/\aO X.K Hs1 ds vs) hs hst (fun vs H1 Hs1 E1 r1=>⟨Hs1,E1,r1⟩) pos pins s I) fun us s1 ⟨vs,H1,I1,r,Hs1,E1,r1⟩=>⟨I1.kIn,?_⟩
      exact uH F G.room hb hx I1 r ⟨by rw[<- r1.length,har ds c hc],Hs1,ds,E1.sub,r1,.inr ⟨c,hc,hE.step E1⟩⟩
theorem vX{f:Str}{es args:List Expr}{ix:Expr}{i:Int}{ds:List D}{c:Str}{p1 p2 pos:Pos}(G:Good cx k X sc)(hf:fnAt cx sc es i=some f)(hi:Ev X ρ ix (.int i))(hpi:aD ix=true)(hne:args≠[])(hA:EvA X ρ args ds)(hp:∀ e∈args,aD e=true)(hc:cx.callx f ds=some c) :
    EvX X ρ (.Call (.Subscript (.List es p1) ix p2) args [] pos) c:=by
  obtain⟨hfn,a0,hm0,callee⟩:=vV (p1:=p1) (p2:=p2) G hf hi hpi
  obtain⟨hdb,a,fd,ps,_,har,hm,hk,hb,F⟩:=G.fns f hfn
  obtain rfl:a=a0:=by rw[hm] at hm0;exact Value.ref.inj (Option.some.inj hm0)
  cases args with
  | nil=>exact absurd rfl hne
  | cons e args =>
    intro σ H Hs E hs hst hE hx Q pins s I
    refine Call_ (thn (callee σ H Hs (fun v H1=>v=.ref a/\∃ Hs1,Ext Hs H Hs1 H1) hs hst (fun H1 Hs1 E1=>⟨rfl,Hs1,E1⟩) pins s I) fun u s1 ⟨v,H1,I1,r,e1,Hs1,E1⟩=>?_)
    subst e1
    cases (show u=Value.ref a from r)
    refine PySem.W.callWith_K (h₀:=X.base) I1.ok.mod.kin hk ?_ (ak (hp e (by simp))) (dg fun e' he=>hp e' (List.mem_cons_of_mem _ he))
    refine thn (hA σ H1 Hs1 (fun vs H2=>∃ Hs2,Ext Hs1 H1 Hs2 H2/\aO X.K Hs2 ds vs) E1.sub (hst.same E1.vis) (fun vs H2 Hs2 E2 r2=>⟨Hs2,E2,r2⟩) pos pins s1 I1) fun us s2 ⟨vs,H2,I2,r,Hs2,E2,r2⟩=>⟨I2.kIn,?_⟩
    exact uH F G.room hb hx I2 r ⟨by rw[<- r2.length,har ds c hc],Hs2,ds,E2.sub,r2,.inr ⟨c,hc,(hE.step E1).step E2⟩⟩
theorem Fy{x:Str}{a:Expr}{k':Keyword}{c:Str}{p pos:Pos}(G:Good cx k X sc)(hx:bC cx sc x=some "max")(hk:(RL k').isSome=true)(h:EvX X ρ a c)(hp:aD a=true):EvX X ρ (.Call (.Name x p) [a] [k'] pos) c:=by
 obtain⟨hg,hm,rfl⟩:=bI G hx
 obtain⟨ka,kv,kp⟩:=k'
 obtain⟨i,hi⟩:=Option.isSome_iff_exists.mp hk
 unfold RL at hi
 split at hi
 ·rename_i q
  have e:ka=some "default":=by simpa using q
  subst e
  intro σ H Hs E hs hst hE hx Q pins s I
  have he:starEach [a] X.env=(false,eval a X.env)::starEach [] X.env:=ak hp
  have hbt:backTo pos (starEach [a] X.env)=(false,eval a X.env)::backTo pos (starEach [] X.env):=by rw[he];rfl
  refine wpAny_Call_Name_kw (eO (u:=.builtin "max") I hg hm (by decide +kernel) ?_ (by decide) (by decide))
  refine PyProof.Rows.callWith_kw ?_ hbt (by rw[hbt];rfl) rfl rfl
  exact thn (bx ao cR he pos pins s σ H (fun _ _=>False) I (h σ H Hs E hs hst hE hx _)) fun us s1 ⟨vs,H1,I1,r,q⟩=>q.elim
 ·cases hi
theorem jt(cx:Cxt):∀ (n:Nat) {k:Nat} {X:Cx} {sc:Scope} {ρ:Rho} {e:Expr} {c:Str},Good cx k X sc->X.N=ρ.map (·.1)->evx cx n sc ρ e=some c->EvX X ρ e c
  | 0,k,X,sc,ρ,e,c,_,_,h=>by exact nomatch (show(Option.none:Option Str)=some c from h)
  | n + 1, k, X, sc, ρ, e, c, G, hN, h => by
    have ih:∀ e d,ev cx n sc ρ e=some d->Ev X ρ e d/\∀ b,d=.bl b->EvT X ρ e b:=fun e d h=>cL cx n G hN h
    simp only[evx] at h
    split at h
    · rename_i x p args pos
      split at h
      · rename_i hc
        simp only[Bool.and_eq_true] at hc
        obtain⟨⟨⟨hgl,hne⟩,hpl⟩,hfn⟩:=hc
        have hg:Gl X x:=by
          have e:sc.names.lookup x=some .globalImplicit:=by unfold nu at hgl;simpa using hgl
          show X.env.scope.names.lookup x=_
          rw[G.sce,e]
        have hp:∀ e∈args,aD e=true:=fun e he=>List.all_eq_true.mp hpl e he
        refine zH G hg hfn (fun q=>by rw[q] at hne;exact absurd hne (by decide)) hp ?_
        split at h
        · rename_i ds hds
          exact .inr ⟨ds,(dD (fun e _ d hd=>⟨(ih e d hd).1,aV hd⟩) hds).1,h⟩
        · exact .inl (BP (fun e d h=>(ih e d h).1) (fun e c h=>jt cx n G hN h) hp h)
      · cases h
    · rename_i es p1 ix p2 args pos
      split at h
      · rename_i hc
        simp only[Bool.and_eq_true] at hc
        obtain⟨⟨hne,hpl⟩,hpi⟩:=hc
        obtain⟨i,h1,h⟩:=aP h
        obtain⟨f,h2,h⟩:=aP h
        obtain⟨ds,h3,h⟩:=aP h
        have hp:∀ e∈args,aD e=true:=fun e he=>List.all_eq_true.mp hpl e he
        exact vX G h2 (ih _ _ (bD h1)).1 hpi (fun q=>by rw[q] at hne;exact absurd hne (by decide)) (dD (fun e _ d hd=>⟨(ih e d hd).1,aV hd⟩) h3).1 hp h
      · cases h
    · rename_i x p a k' pos
      split at h
      · rename_i hc
        simp only[Bool.and_eq_true] at hc
        obtain⟨⟨h1,h2⟩,h3⟩:=hc
        exact Fy G (by simpa using h1) h2 (jt cx n G hN h) h3
      · cases h
    · rename_i cc a b pos
      split at h
      · rename_i hc
        have hc':=(ih _ _ (eG hc)).2 _ rfl
        have ha:=jt cx n G hN h
        intro σ H Hs E hs hst hE hx Q
        exact(lu dJ ao ao).sem (hc' σ H Hs _ hs hst fun H1 Hs1 E1=>tQ (ha σ H1 Hs1 E E1.sub (hst.same E1.vis) (hE.step E1) hx Q))
      · rename_i hc
        have hc':=(ih _ _ (eG hc)).2 _ rfl
        have ha:=jt cx n G hN h
        intro σ H Hs E hs hst hE hx Q
        exact(lu dJ ao ao).sem (hc' σ H Hs _ hs hst fun H1 Hs1 E1=>vH (ha σ H1 Hs1 E E1.sub (hst.same E1.vis) (hE.step E1) hx Q))
      · cases h
    · rename_i elt tg iter ifs a scope pos
      split at h
      · rename_i hc
        simp only[Bool.and_eq_true] at hc
        obtain⟨⟨ha,hok⟩,hp⟩:=hc
        have ea:a=0:=by simpa using ha
        subst ea
        obtain⟨ok1,ok2,ok3⟩:=cC G hok
        have hi:=jt cx n G hN h
        intro σ H Hs E hs hst hE hx Q
        refine PE.sem (je G.calm ok1 ok2 ok3 iD (fun Xc C=>⟨fM,eE,ao⟩) (cQ hp)) ?_
        intro pins s I
        exact thn (hi σ H Hs E hs hst hE hx (fun _ _=>False) pins s I) fun v s1 ⟨_,_,_,_,q⟩=>q.elim
      · cases h
    · cases h
end
end L2
namespace L2
open PySem PySem.Spec PyProof.Rows PySem.SeqAt
open DE hiding st
section
variable {X:Cx} {ρ:Rho} {cx:Cxt} {k F:Nat} {sc scope:Scope} {Hs0 H0:Hp} {e:Expr} {d:D}
theorem vm{n:Nat}{lnm y:Str}{p1 p2 p3:Pos}{v:D}(h:ev cx n sc ρ (.Call (.Name lnm p1) [.Name y p2] [] p3)=some v)(hb:bC cx sc lnm=some "list"):∃ m d es,ev cx m sc ρ (.Name y p2)=some d/\items d=some es/\v=.lst es:=by
  cases n with
  | zero=>exact nomatch (show(Option.none:Option D)=some v from h)
  | succ n =>
    unfold bC at hb
    split at hb
    · rename_i hg
      have hw:Hr cx sc "list" [Expr.Name y p2]=.al:=rfl
      simp only[ev,hg,if_true,hb,hw,List.isEmpty_cons,Bool.false_eq_true,if_false] at h
      obtain⟨ds,h1,h2⟩:=aP h
      simp only[jK] at h1
      obtain⟨d',g1,g2⟩:=aP h1
      obtain⟨_,g3,g4⟩:=aP g2
      cases g3
      cases g4
      obtain⟨es,g5,g6⟩:=aP (show(items d' >>=fun l=>some (D.lst l))=some v from h2)
      cases g6
      exact⟨n,d',es,g1,g5,rfl⟩
    · cases hb
theorem Av{n:Nat}{es:List D}(G:Good cx k X sc)(hN:X.N=ρ.map (·.1))(ho:KN cx sc e=true)(he:ev cx n sc ρ e=some (.lst es)):KZ X ρ e es:=by
  unfold KN at ho
  split at ho
  · rename_i lnm p1 y p2 p3
    simp only[Bool.and_eq_true] at ho
    obtain⟨⟨q2,q3⟩,q5⟩:=ho
    have hb:bC cx sc lnm=some "list":=by simpa using q2
    obtain⟨m,d',es',g1,g2,g3⟩:=vm he hb
    cases g3
    obtain⟨hg,hm,rfl⟩:=bI G hb
    intro σ H Hs Q hs hst hq
    refine(gw (iH (X:=X)) hg hm (by decide +kernel) (bx ao cR (ak rfl)) (by decide) (by decide) (ak rfl) rfl).sem ?_
    refine(cL cx m G hN g1).1 σ H Hs _ hs hst fun v H7 Hs7 E7 r7=>?_
    obtain⟨q,us,rfl,k1,k2⟩:=iW r7 g2
    exact⟨q,us,rfl,k1.imp E7.sub.seq E7.sub.tup,fun b hb7=>hq b us Hs7 _ (Ext.acc E7 (E7.all.free hb7) (E7.sub.free hb7)) (E7.all.free hb7) (E7.sub.free hb7) aU k2⟩
  · cases n with
    | zero=>exact nomatch (show(Option.none:Option D)=some _ from he)
    | succ n =>
      obtain⟨tg,iter,ifs,l,out,rfl,hok,hI,hp,hz,hgo,e1,hE⟩:=jz G hN he
      cases e1
      obtain⟨ok1,ok2,ok3⟩:=cC G hok
      intro σ H Hs Q hs hst hq
      exact(je G.calm ok1 ok2 ok3 iD (fun Xc C=>⟨fM,eE,ao⟩) (cQ hp)).sem (jy G hN hok hI hz hgo hE hs hst hq)
  · cases ho
theorem Gp{tg iter elt:Expr}{l:List D}{dss:List (List D)}(G:Good cx k X sc)(hN:X.N=ρ.map (·.1))(hok:fQ sc scope=true)(hI:EvI X ρ tg iter l)(hz:szl l.length=true)(hlen:dss.length=l.length)
  (hs1:∀ Xc,CompOf X scope Xc->∀ (i:Nat) d,l[i]?=some d->∃ ρ1 es,fL scope tg d (bF scope ρ)=some ρ1/\dss[i]?=some es/\(Xc.N=ρ1.map (·.1)->KZ Xc ρ1 elt es))
  {σ:St} {H Hs:Hp} {Q:VK} (hs:Same Hs H) (hst:bV X.K Hs ρ σ) (hq:∀ a bs Hs' H',Ext Hs H Hs' H'->OO X.K H Hs' H' a bs dss->Q (.ref a) H') :
  oA X scope (ou X tg iter) (oJ X.N scope.names) (fun Xc=>zu Xc tg) (fun Xc=>oX Xc []) (fun Xc=>j8 Xc elt) σ H Q:=by
 obtain⟨ok1,ok2,ok3⟩:=cC G hok
 refine hI σ H Hs _ hs hst fun J H1 Hs1 E1 hJ acc hacc Xc C=>?_
 have GC:=G.comp C hok
 have OC:=Owns.comp (scope:=scope) G C
 have hNc:∀ ρ1:Rho,ρ1.map (·.1)=scope.names.map (·.1)->Xc.N=ρ1.map (·.1):=fun ρ1 h=>by rw[C.N,h]
 have a1:Hs1 acc=none:=E1.sub.free hacc
 have a0:H acc=none:=E1.all.free hacc
 let W:Nat->Nat->St->Hp->Prop:=fun i m σc H3=>m=l.length-i/\i<=l.length/\∃ Hs3 bs,Ext Hs1 H1 Hs3 H3/\OO X.K H Hs3 H3 acc bs (dss.take i)/\σc.length=scope.names.length/\bV X.K Hs3 (bF scope ρ) σc
 refine⟨W,⟨l.length,rfl,Nat.zero_le _,Hs1,[],Ext.acc (.refl E1.sub) hacc a1,⟨aU,a1,a0,.nil,by simp,by simp,fun j b e=>by simp at e⟩,by simp[oJ],jA hN (hst.same E1.vis)⟩,?_⟩
 rintro i m σc H3 ⟨rfl,hi,Hs3,bs,E3,o3,l3,s3⟩
 obtain⟨st3,go3⟩:=hJ Hs3 H3 E3.vis E3.sub
 by_cases hlt:i<l.length
 ·have hd:l[i]?=some l[i]:=List.getElem?_eq_getElem hlt
  obtain⟨gi,yi⟩:=go3 i l[i] hd
  refine .inr ⟨gi,fun σ' H'=>W (i+1) (l.length-(i+1)) σ' H',fun σ' H' w=>⟨_,by omega,w⟩,fun x H4 y4=>?_⟩
  obtain⟨Hs4,E4,rx⟩:=yi x H4 y4
  obtain⟨ρ1,es,k1,k4,kO⟩:=hs1 Xc C i l[i] hd
  have s4:bV X.K Hs4 (bF scope ρ) σc:=s3.same E4.vis
  have KE:=jW (K:=Xc.K) (Hs:=Hs4) (ρ:=ρ) (n:=scope.names.length) ok2 rfl
  refine pF (X:=Xc) (scope:=scope) (Hs:=Hs4) GC.calm OC GC.nd E4.sub (hNc _ cZ) KE k1 ⟨cZ,l3,by rw[C.K];exact s4,by rw[C.K];exact s4⟩ (by rw[C.K];exact rx) fun σ5 hN5 p5=>?_
  obtain⟨_,l5,s5,s5'⟩:=p5
  refine Bs (f:=fun _=>none) (ifs:=[]) (b:=true) (fun _ _ h=>nomatch h) rfl E4.sub s5 fun H6 Hs6 E6=>tQ ?_
  have E46:=E4.trans E6
  have o6:=o3.step E46
  have E16:Ext Hs1 H1 Hs6 H6:=E3.trans E46
  refine kO hN5 σ5 H6 Hs6 _ E6.sub (s5.same E6.vis) fun b us Hs7 H7 E7 hb6 hbs hb7 g2=>?_
  have o7:=o6.step E7
  have E17:Ext Hs1 H1 Hs7 H7:=E16.trans E7
  have ne:acc≠b:=fun w=>by have:=o6.1;rw[w,hb6] at this;cases this
  refine⟨bs.map V.ref,o7.1,?_,rfl,hlt,Hs7,bs++[b],?_,?_,l5,?_⟩
  ·have:=pW hz
   have:=o7.2.2.2.2.2.1
   rw[List.length_map,this,List.length_take]
   omega
  ·exact Ext.acc E17 hacc o7.2.1
  ·have b0:H b=none:=E1.all.free (E16.all.free hb6)
   have ln:=o7.2.2.2.2.2.1
   have old:∀ (j:Nat) b',bs[j]?=some b'->b'≠b/\b'≠acc:=fun j b' e=>by
    obtain⟨_,_,_,_,_,m4,_⟩:=o6.2.2.2.2.2.2 j b' e
    refine⟨fun w=>?_,fun w=>o6.2.2.2.2.1 (by rw[<- w];exact List.mem_of_getElem? e)⟩
    rw[w,hb6] at m4
    cases m4
   refine⟨by rw[aU,List.map_append];rfl,o7.2.1,o7.2.2.1,?_,?_,?_,fun j b' e=>?_⟩
   ·rw[List.nodup_append]
    refine⟨o7.2.2.2.1,by simp,fun x' hx' y' hy'=>?_⟩
    obtain⟨j,e⟩:=List.mem_iff_getElem?.mp hx'
    rw[List.mem_singleton.mp hy']
    exact(old j x' e).1
   ·rw[List.mem_append,not_or]
    exact⟨o7.2.2.2.2.1,by simpa using ne⟩
   ·rw[List.length_append,ln,List.length_take,List.length_take,List.length_singleton]
    omega
   ·by_cases hj:j<bs.length
    ·rw[List.getElem?_append_left hj] at e
     obtain⟨m1,m2,ds,ws,m3,m4,m5⟩:=o7.2.2.2.2.2.2 j b' e
     obtain⟨n1,n2⟩:=old j b' e
     refine⟨m1,m2,ds,ws,?_,by rw[aL n2];exact m4,m5⟩
     rw[ln,List.length_take] at hj
     rw[List.getElem?_take] at m3 ⊢
     rw[if_pos (by omega)] at m3 ⊢
     exact m3
    ·rw[List.getElem?_append_right (by omega)] at e
     have ej:j-bs.length=0:=by
      rcases Nat.eq_zero_or_pos (j-bs.length) with z | z
      ·exact z
      ·rw[List.getElem?_eq_none (by simp;omega)] at e;cases e
     rw[ej] at e
     have eb:b=b':=by simpa using e
     subst eb
     have jl:j=i:=by
      rw[ln,List.length_take] at hj ej
      omega
     subst jl
     refine⟨hbs,b0,es,us,?_,by rw[aL (Ne.symm ne)];exact hb7,by rw[<- C.K];exact g2⟩
     rw[List.getElem?_take,if_pos (by omega)]
     exact k4
  ·rw[<- C.K]
   exact s5'.same (E6.trans E7).vis
 ·have hi':i=l.length:=by omega
  subst hi'
  refine .inl ⟨st3,hq acc bs Hs3 H3 (E1.trans E3) ?_⟩
  rw[<- hlen,List.take_length] at o3
  exact o3
theorem OO.low{K:PySem.W.Frag}{H0 H1 Hs H:Hp}{a:Addr}{bs:List Addr}{dss:List (List D)}(h:OO K H1 Hs H a bs dss)(q:∀ b,H1 b=none->H0 b=none):OO K H0 Hs H a bs dss:=by
 obtain⟨h1,h2,h3,h4,h5,h6,h7⟩:=h
 refine⟨h1,h2,q _ h3,h4,h5,h6,fun j b e=>?_⟩
 obtain⟨k1,k2,k3⟩:=h7 j b e
 exact⟨k1,q _ k2,k3⟩
theorem qG:∀ {ds:List D} {dss:List (List D)},yO ds=some dss->dss.length=ds.length/\∀ (i:Nat) d,ds[i]?=some d->∃ es,d=.lst es/\dss[i]?=some es
  | [],dss,h=>by cases h;exact⟨rfl,fun i d e=>by simp at e⟩
  | d :: ds, dss, h => by
    cases d with
    | lst es =>
      simp only[yO,Option.map_eq_some_iff] at h
      obtain⟨r,h1,rfl⟩:=h
      obtain⟨g1,g2⟩:=qG h1
      refine⟨by simp[g1],fun i d e=>?_⟩
      cases i with
      | zero=>simp at e;subst e;exact⟨es,rfl,rfl⟩
      | succ i=>exact g2 i d (by simpa using e)
    | _=>simp[yO] at h
theorem jZ{f:D->Option (Option D)}:∀ {l out:List D},(∀ d∈l,f d≠some none)->bJ f l=some out->out.length=l.length/\∀ (i:Nat) d,l[i]?=some d->∃ v,f d=some (some v)/\out[i]?=some v
  | [],out,_,h=>by cases h;exact⟨rfl,fun i d e=>by simp at e⟩
  | d :: l, out, hn, h => by
    rcases jB h with⟨v,o',f1,f2,rfl⟩ | ⟨f1,_⟩
    · obtain⟨g1,g2⟩:=jZ (fun d hd=>hn d (List.mem_cons_of_mem _ hd)) f2
      refine⟨by simp[g1],fun i d e=>?_⟩
      cases i with
      | zero=>simp at e;subst e;exact⟨v,f1,rfl⟩
      | succ i=>exact g2 i d (by simpa using e)
    · exact absurd f1 (hn d List.mem_cons_self)
theorem Ln{x:Str}{px pos:Pos}{dss:List (List D)}(G:GoodS cx k X sc)(hN:X.N=ρ.map (·.1))(hx:ownIn sc x=true)(hc:(ρ.map (·.1)).contains x=true)(hoo:ooE cx sc e=true)(hon:jH (frz F e ρ) x=true)(he:ev cx F sc (frz F e ρ) e=some d)(hd:yN d=some dss) :
    Runs X Hs0 H0 ρ (.nxt (cD (frz F e ρ) x (.oo dss))) (gR X (.Assign [.Name x px] e pos)):=by
  obtain⟨ox,of⟩:=G.own.own x hx
  have hN':X.N=(frz F e ρ).map (·.1):=by rw[aJ];exact hN
  unfold ooE at hoo
  split at hoo
  · rename_i elt y' pt iter a0 scope p4
    cases F with
    | zero=>exact nomatch (show(Option.none:Option D)=some d from he)
    | succ F =>
      obtain⟨tg,iter',ifs,l,out,hg,hok,hI,hp,hz,hgo,rfl,hE⟩:=jz G.good hN' he
      cases hg
      obtain⟨ok1,ok2,ok3⟩:=cC G.good hok
      intro σ H Hs D h _ hn hr
      obtain⟨i,hi⟩:=bB hc
      obtain⟨Hs1,sm1,h1⟩:=h.frozen (F+1) (.ListComp elt [⟨.Name y' pt,iter,[],0⟩] scope p4)
      generalize hρ:frz (F+1) (.ListComp elt [⟨.Name y' pt,iter,[],0⟩] scope p4) ρ=ρ' at *
      have nm:ρ'.map (·.1)=ρ.map (·.1):=by rw[<- hρ,aJ]
      have hf:∀ d o,nP cx F sc scope ρ' (.Name y' pt) elt [] d=some o->∃ ρ1 v,fL scope (.Name y' pt) d (bF scope ρ')=some ρ1/\ev cx F (jC scope sc) ρ1 elt=some v/\o=some v:=fun d o h=>by
        obtain⟨ρ1,h1,h⟩:=aP h
        obtain⟨b,h2,h⟩:=aP h
        cases h2
        simp only[if_true,Option.map_eq_some_iff] at h
        obtain⟨v,h3,h4⟩:=h
        exact⟨ρ1,v,h1,h3,h4.symm⟩
      obtain⟨n1,n2⟩:=jZ (fun d _ h=>by obtain⟨_,_,_,_,h⟩:=hf d _ h;cases h) hgo
      obtain⟨m1,m2⟩:=qG (show yO out=some dss from hd)
      have hnd:(ρ'.map (·.1)).Nodup:=by rw[nm,<- hN];exact G.good.nd
      have hi':X.N[i]?=some x:=by rw[hN];exact hi
      have rd:oA X scope (ou X (.Name y' pt) iter) (oJ X.N scope.names) (fun Xc=>zu Xc (.Name y' pt)) (fun Xc=>oX Xc []) (fun Xc=>j8 Xc elt) σ H (fun v H1=>D.nx (σ.set i (some v)) H1):=by
        refine Gp (dss:=dss) G.good hN' hok hI hz (by rw[m1,n1]) (fun Xc C j dd hj=>?_) h1.ext.sub h1.sh fun a bs Hs' H' E o=>?_
        · obtain⟨v,f1,f2⟩:=n2 j dd hj
          obtain⟨ρ1,v',b1,b2,b3⟩:=hf dd _ f1
          cases b3
          obtain⟨es',g3,g4⟩:=m2 j v f2
          subst g3
          exact⟨ρ1,es',b1,g4,fun hN1=>Av (G.good.comp C hok) hN1 hoo b2⟩
        · exact hn _ _ Hs' H' rfl (sm1.trans E.vis) (by rw[au,nm];exact hN) ((h1.step E).own2 hnd (by rw[nm];exact hi) (o.low fun b q=>h1.ext.all.free q) (yI hnd (by rw[nm];exact hi) hon))
      cases hsw:(X.env.blockKind==.function&&X.env.kindOf x==some .local&&px.line==p4.line && !(scope.names.any fun(n,k)=>n==x&&(k==.local||k==.cell))) with
      | true =>
        have e1:swapsWith (.ListComp elt [⟨.Name y' pt,iter,[],0⟩] scope p4) (some (.Name x px)) pos.line X.env=pure true:=by rw[<- hsw];rfl
        rw[Bool.and_eq_true,Bool.and_eq_true,Bool.and_eq_true] at hsw
        have hl:X.env.scope.names.lookup x=some .local:=by simpa[Env.kindOf] using hsw.1.1.2
        exact PS.sem (uN G.good.nd hi' hl G.good.calm ok1 ok2 ok3 iD (fun Xc C=>⟨fM,eE,ao⟩) (cQ hp) e1) rd
      | false =>
        have e1:swapsWith (.ListComp elt [⟨.Name y' pt,iter,[],0⟩] scope p4) (some (.Name x px)) pos.line X.env=pure false:=by rw[<- hsw];rfl
        exact PS.sem (jc G.good.nd hi' ox (je G.good.calm ok1 ok2 ok3 iD (fun Xc C=>⟨fM,eE,ao⟩) (cQ hp)) e1 of) rd
  · cases hoo
theorem jd{o i:Expr}{pos:Pos}{env:Env}(h:aD i=true):∀ v,assign (.Subscript o i pos) env v=(do
      let ov <- holding [v] (eval o env)
      let iv <- holding [v,ov] (eval i env)
      standAt pos
      holding [v,ov,iv] (setItem ov iv v)
      release [v,ov,iv] []):=by
  intro v
  cases i<;>first | rfl | (exact absurd h (by simp[aD]))
theorem aO.set{K:PySem.W.Frag}{H:Hp}{d:D}{v:V}(hv:Rep K H d v):∀ {ds:List D} {vs:List V} (n:Nat),aO K H ds vs->aO K H (ds.set n d) (vs.set n v)
  | [], vs, n, h => by
    have:vs=[]:=by simpa[aO] using h
    subst this
    simpa[aO] using h
  | e :: ds, vs, n, h => by
    simp only[aO] at h
    obtain⟨w,r,rfl,h1,h2⟩:=h
    cases n with
    | zero=>exact .cons hv h2
    | succ n=>exact .cons h1 (aO.set hv n h2)
theorem uE{tg:Expr}{l:Nat}{env:Env}(he:ev cx F sc ρ e=some d)(hc:bf e=false):swapsWithSole [tg] e l env=pure false:=by
 show swapsWith e (some tg) l env=pure false
 exact eZ he fun a b c p q=>by rw[q] at hc;cases hc
theorem mK{o i:Expr}{pos:Pos}{env:Env}:swappedStores [.Subscript o i pos] e env=pure none:=by
 cases e<;>rfl
theorem Cv{x:Str}{i1 i2:Expr}{dss:List (List D)}{ds:List D}{j1 j2:Int}{n1 n2:Nat}{px tp tp2 pos:Pos}(G:GoodS cx k X sc)(hN:X.N=ρ.map (·.1))(hx:ρ.lookup x=some (.oo dss))(ho:ownIn sc x=true)(hp:aA x=true)(hfr:bf e=false)
  (q1:ev cx F sc (frz F e ρ) e=some d) (q2:ev cx F sc (frz F i1 ρ) i1=some (.int j1)) (q3:ixD dss.length j1=some n1) (q4:dss[n1]?=some ds) (q5:ev cx F sc (frz F i2 ρ) i2=some (.int j2)) (q6:ixD ds.length j2=some n2) (q7:o9 d=true) :
  Runs X Hs0 H0 ρ (.nxt (cD ρ x (.oo (dss.set n1 (ds.set n2 d))))) (gR X (.Assign [.Subscript (.Subscript (.Name x px) i1 tp) i2 tp2] e pos)):=by
 have hNf:∀ e,X.N=(frz F e ρ).map (·.1):=fun e=>by rw[aJ];exact hN
 obtain⟨i,hi,_⟩:=bQ hx
 have nd:(ρ.map (·.1)).Nodup:=by rw[<- hN];exact G.good.nd
 intro σ H Hs D h _ hn hr
 obtain⟨⟨ad,bs,k1,k2⟩,_⟩:=h.oo i x dss hi
 unfold aA at hp
 rw[Bool.and_eq_true,bne_iff_ne,bne_iff_ne] at hp
 have vis:Vis X.env.scope x:=(G.own.own x ho).1.elim .inl fun q=>.inr (.inl q)
 have hNi:X.N[i]?=some x:=by rw[hN,List.getElem?_map,hi];rfl
 have pv:∀ {pp:Pos},PE X (.Name x pp) (HD i):=fun {pp}=>gq hNi vis (by simpa using hp.1) (by simpa using hp.2)
 have ll:=k2.2.2.2.2.2.1
 have nlt:n1<bs.length:=by
  rw[ll]
  exact(List.getElem?_eq_some_iff.mp q4).1
 obtain⟨b,hb⟩:∃ b,bs[n1]?=some b:=⟨_,List.getElem?_eq_getElem nlt⟩
 refine PS.sem (qw ao (uU (uW lG pv ao (fD (aV q2))) ao set_list (jd (aV q5))) (uE q1 hfr) mK rfl) ?_
 obtain⟨Hs1,sm1,shp,h1⟩:=h.frozen2 F e
 refine(cL cx F G.good (hNf e) q1).1 σ H Hs1 _ h1.ext.sub h1.sh fun v1 H1 Hs4 E1 r1=>?_
 obtain⟨Hs7,B1,r1'⟩:=nF h.ext.sub sm1 shp E1 q7 r1
 have hB1:=h.step B1
 obtain⟨Hs2,sm2,h2⟩:=hB1.frozen F i1
 refine⟨.ref ad,k1,(cL cx F G.good (hNf i1) q2).1 σ H1 Hs2 _ h2.ext.sub h2.sh fun v2 H2 Hs5 E2 r2=>?_⟩
 have B2:Ext Hs7 H1 Hs7 H2:=⟨.refl _,E2.all,hB1.ext.sub.trans E2.all,fun _ _ _ h=>h⟩
 have hB2:=hB1.step B2
 have o2:=(k2.step B1).step B2
 refine⟨ad,bs.map V.ref,j1,.ref b,rfl,aF r2,.of o2.1,?_,?_⟩
 ·unfold atI
  rw[List.length_map,ll,<- jX,q3]
  show(bs.map V.ref)[n1]?=_
  rw[List.getElem?_map,hb];rfl
 obtain⟨Hs3,sm3,h3⟩:=hB2.frozen F i2
 refine(cL cx F G.good (hNf i2) q5).1 σ H2 Hs3 _ h3.ext.sub h3.sh fun v3 H3 Hs6 E3 r3=>?_
 have B3:Ext Hs7 H2 Hs7 H3:=⟨.refl _,E3.all,hB2.ext.sub.trans E3.all,fun _ _ _ h=>h⟩
 have o3:=o2.step B3
 obtain⟨m1,m2,ds',us,m3,m4,m5⟩:=o3.2.2.2.2.2.2 n1 b hb
 rw[q4] at m3
 cases m3
 have nab:ad≠b:=fun w=>o3.2.2.2.2.1 (by rw[w];exact List.mem_of_getElem? hb)
 refine⟨b,us,j2,n2,rfl,aF r3,m4,by rw[<- m5.length,<- jX];exact q6,?_⟩
 refine hn _ _ Hs7 _ rfl B1.vis (by rw[au];exact hN) ((hB2.step B3).app2 nd hi k1 m1 m2 (bs':=bs) ⟨by rw[aL nab];exact o3.1,o3.2.1,o3.2.2.1,o3.2.2.2.1,o3.2.2.2.2.1,by rw[List.length_set];exact o3.2.2.2.2.2.1,fun jj b' e=>?_⟩)
 by_cases hjj:n1=jj
 ·subst hjj
  rw[hb] at e
  cases e
  refine⟨m1,m2,ds.set n2 d,us.set n2 v1,?_,aU,aO.set r1' n2 m5⟩
  rw[List.getElem?_set,if_pos rfl,if_pos (by rw[<- ll];exact nlt)]
 ·obtain⟨m1',m2',ds',us',m3',m4',m5'⟩:=o3.2.2.2.2.2.2 jj b' e
  refine⟨m1',m2',ds',us',?_,?_,m5'⟩
  ·rw[List.getElem?_set,if_neg hjj];exact m3'
  ·rw[aL]
   ·exact m4'
   ·intro w
    rw[w] at e
    exact hjj ((List.getElem?_inj nlt o3.2.2.2.1).mp (hb.trans e.symm))
end
end L2
namespace L2
open PySem PySem.Spec PyProof.Rows PySem.SeqAt
open DE hiding st
section
variable {X:Cx} {pos:Pos}
def Ld(i j l:Nat)(ta:TA):TS:=fun D σ H=>ta σ H fun vs H1=>∃ v w u,vs=[v,w,u]/\D.nx (((σ.set i (some v)).set j (some w)).set l (some u)) H1
theorem Dd{i j l:Nat}{x y z:Str}{a b c:Expr}{ta:TA}{px py pz pt:Pos}{kt k2 pt2}(hc:X.calm=true)(hN:X.N.Nodup)(hi:X.N[i]?=some x)(hj:X.N[j]?=some y)(hl:X.N[l]?=some z)(hij:i≠j)(hil:i≠l)(hjl:j≠l)
  (hx:X.env.scope.names.lookup x=some .local) (hy:X.env.scope.names.lookup y=some .local) (hz:X.env.scope.names.lookup z=some .local) (ha:PA X [a,b,c] ta)
  (hw:swappedStores [.Tuple [.Name x px,.Name y py,.Name z pz] kt pt] (.Tuple [a,b,c] k2 pt2) X.env=pure (some [x,y,z]))
  (hs:swapsWithSole [.Tuple [.Name x px,.Name y py,.Name z pz] kt pt] (.Tuple [a,b,c] k2 pt2) pos.line X.env=pure false:=by rfl) :
  PS X (.Assign [.Tuple [.Name x px,.Name y py,.Name z pz] kt pt] (.Tuple [a,b,c] k2 pt2) pos) (Ld i j l ta):=by
 intro pins s σ H D I h
 rw[exec_Assign_arm]
 refine wpAny_bind (wpAny_standAt ?_)
 rw[hs]
 refine wpAny_bind (wpAny_pure ?_)
 rw[if_neg (by decide)]
 refine wpAny_bind (Tuple_ (thn (ha _ pins s σ H _ I h) fun us s1 ⟨vs,H1,I1,r1,q1⟩=>?_))
 obtain⟨v,w,u,e1,q1⟩:=q1
 subst e1
 obtain⟨u1,w1,rfl,rv,r2⟩:=jE r1
 obtain⟨u2,w2,rfl,rw',r3⟩:=jE r2
 obtain⟨u3,w3,rfl,ru,r4⟩:=jE r3
 cases r4
 refine wpAny_newObj_type ?_ (by show 3<=sizeLine;decide)
 have I2:Inv X pins σ H1 { s1 with heap:=s1.heap.push { cls:=.type "tuple",data:=.seq [u1,u2,u3].toArray } }:=I1.kept (t':=s1.toks) fun b o e=>Heap.get?_push_of_some _ e
 rw[hw]
 refine wpAny_bind (wpAny_pure ?_)
 show wpAny (model X.prog X.w) X.A (do rule "assign.swapped-stores";let items <- unpackItems (.ref s1.heap.objs.size) 3 none;assignInOrder [fun v=>bindName X.env z v,fun v=>bindName X.env y v,fun v=>bindName X.env x v] items.reverse;pure Flow.next) _ _ _
 refine wpAny_bind (wpAny_rule (wpAny_bind (unpackItems_tuple (items := #[u1,u2,u3]) (I.ok.hd hc) (IsTup.new s1.heap _) fun h' hx'=>?_)))
 have I3:=I2.kept (h':=h') (t':=s1.toks) fun b o e=>hx' b o (Nat.ne_of_lt (Heap.lt_size e)) e
 show wpAny _ _ (assignInOrder [fun v=>bindName X.env z v,fun v=>bindName X.env y v,fun v=>bindName X.env x v] [u3,u2,u1] >>=fun _=>pure Flow.next) _ _ _
 refine wpAny_bind (assignInOrder_cons (wpAny_bindName (dI I3 hN hl (.inl hz) ru (fun s2 I4=>?_) (.inr hz))))
 refine assignInOrder_cons (wpAny_bindName (dI I4 hN hj (.inl hy) rw' (fun s3 I5=>?_) (.inr hy)))
 refine assignInOrder_cons (wpAny_bindName (dI I5 hN hi (.inl hx) rv (fun s4 I6=>assignInOrder_nil (wpAny_pure ?_)) (.inr hx)))
 have e:((σ.set l (some u)).set j (some w)).set i (some v)=((σ.set i (some v)).set j (some w)).set l (some u):=by
  rw[List.set_comm _ _ (Ne.symm hjl),List.set_comm _ _ (Ne.symm hil),List.set_comm _ _ (Ne.symm hij)]
 rw[e] at I6
 exact⟨_,H1,I6,q1⟩
end
section
variable {X:Cx} {ρ:Rho} {cx:Cxt} {k F:Nat} {sc scope:Scope} {Hs0 H0:Hp} {e:Expr} {d:D}
theorem HY{es:List Expr}{l:List D}{ρ':Rho}{kt:Nat}{pt pos:Pos}(G:GoodS cx k X sc)(hN:X.N=ρ.map (·.1))(hs:(swp sc es e).isSome=true)(he:ev cx F sc (frz F e ρ) e=some d)(hl:items d=some l)(hb:bindNames sc es l (frz F e ρ)=some ρ') :
    Runs X Hs0 H0 ρ (.nxt ρ') (gR X (.Assign [.Tuple es kt pt] e pos)):=by
  have hN':X.N=(frz F e ρ).map (·.1):=by rw[aJ];exact hN
  obtain⟨b,hb'⟩:=Option.isSome_iff_exists.mp hs
  cases b with
  | false =>
    have hw:=HW (kt:=kt) (pt:=pt) G.good hb'
    have hso:swapsWithSole [.Tuple es kt pt] e pos.line X.env=pure false:=by
      show swapsWith e (some (.Tuple es kt pt)) pos.line X.env=pure false
      by_cases hc:∃ a b c p,e=.ListComp a b c p
      · obtain⟨a,b,c,p,rfl⟩:=hc
        rfl
      · exact eZ he fun a b c p q=>hc ⟨a,b,c,p,q⟩
    intro σ H Hs D h _ hn hr
    exact PS.sem (qw ao fM hso hw rfl) (zE G hN he h fun v Hs' H' sm h' r=>tK G h'.ext.sub hN' qM hl hb h' r fun σ' hN2 p=>hn ρ' σ' Hs' H' rfl sm hN2 p)
  | true =>
    obtain⟨x,px,y,py,a,b,k2,p2,rfl,rfl,lx,ly,hxy,pa,pb,hw⟩:=Cm (kt:=kt) (pt:=pt) G.good hb'
    cases F with
    | zero=>simp[ev] at he
    | succ F =>
      simp only[ev] at he
      obtain⟨ds,h1,he⟩:=aP he
      split at he
      · cases he
        simp only[items,Option.some.injEq] at hl
        subst hl
        have hA:=(dD (fun e _ d hd=>⟨(cL cx F G.good hN' hd).1,aV hd⟩) h1).1
        have hlen:ds.length=2:=by have:=(d7 (env:=X.env) hb).2.2;simpa using this.symm
        obtain⟨d1,d2,rfl⟩:∃ d1 d2,ds=[d1,d2]:=by
          match ds,hlen with
          | [d1,d2],_=>exact⟨d1,d2,rfl⟩
        simp only[bindNames] at hb
        split at hb
        · rename_i c1
          split at hb
          · rename_i c2
            cases hb
            rw[Bool.and_eq_true] at c1 c2
            rw[au] at c2
            obtain⟨i,hi⟩:=bB c1.2
            obtain⟨j,hj⟩:=bB c2.2
            have hij:i≠j:=fun z=>by rw[z,hj] at hi;cases hi;exact hxy rfl
            intro σ H Hs D h _ hn hr
            obtain⟨Hs1,sm1,h1'⟩:=h.frozen (F+1) (.Tuple [a,b] k2 p2)
            refine PS.sem (Iz G.good.calm G.good.nd (by rw[hN'];exact hi) (by rw[hN'];exact hj) hij lx ly bW hw rfl) (hA σ H Hs1 _ h1'.ext.sub h1'.sh fun vs H' Hs' E r=>?_)
            obtain⟨v,w,rfl,r1,r2⟩:=CN r
            have nd:((frz (F+1) (.Tuple [a,b] k2 p2) ρ).map (·.1)).Nodup:=by rw[<- hN'];exact G.good.nd
            have g1:=(h1'.step E).set nd hi r1
            have g2:=g1.set (by rw[au];exact nd) (by rw[au];exact hj) r2
            exact⟨v,w,rfl,hn _ _ Hs' H' rfl (sm1.trans E.vis) (by rw[au,au];exact hN') g2⟩
          · cases hb
        · cases hb
      · cases he
theorem Cp{es:List Expr}{kt:Nat}{pt:Pos}(G:Good cx k X sc)(h:KD sc es e=true) :
    ∃ x y z a b c px py pz k2 p2,es=[.Name x px,.Name y py,.Name z pz]/\e=.Tuple [a,b,c] k2 p2/\X.env.scope.names.lookup x=some .local/\X.env.scope.names.lookup y=some .local/\X.env.scope.names.lookup z=some .local/\x≠y/\x≠z/\y≠z /\
    swappedStores [.Tuple es kt pt] e X.env=pure (some [x,y,z]):=by
  unfold KD at h
  split at h
  · rename_i x px y py z pz a b c k2 p2
    have hq:=h
    simp only[Bool.and_eq_true,Bool.or_eq_true,Bool.not_eq_true',bne_iff_ne] at hq
    obtain⟨⟨⟨⟨⟨⟨⟨l1,l2⟩,l3⟩,q1,q2⟩,⟨n1,n2⟩,n3⟩,q3⟩,⟨p4,p5⟩,p6⟩,⟨c1,c2⟩,c3⟩:=hq
    have m1:X.env.kindOf x=some .local:=by unfold Env.kindOf;rw[G.sce];simpa using l1
    have m2:X.env.kindOf y=some .local:=by unfold Env.kindOf;rw[G.sce];simpa using l2
    have m3:X.env.kindOf z=some .local:=by unfold Env.kindOf;rw[G.sce];simpa using l3
    have hpl : py.line = px.line := by have : px.line = py.line := by simpa using q1
                                       exact this.symm
    have hpl2 : pz.line = px.line := by have : px.line = pz.line := by simpa using q2
                                        exact this.symm
    have f1:(foldedForSure 8 a&&(foldedForSure 8 b&&foldedForSure 8 c))=false:=by
      rcases q3 with(q | q) | q
      · rw[(jJ q).1];rfl
      · rw[(jJ q).1,Bool.false_and,Bool.and_false]
      · rw[(jJ q).1,Bool.and_false,Bool.and_false]
    have f2:(constantsAlone 8 a&&(constantsAlone 8 b&&constantsAlone 8 c))=false:=by
      rcases q3 with(q | q) | q
      · rw[(jJ q).2];rfl
      · rw[(jJ q).2,Bool.false_and,Bool.and_false]
      · rw[(jJ q).2,Bool.and_false,Bool.and_false]
    refine⟨x,y,z,a,b,c,px,py,pz,k2,p2,rfl,rfl,m1,m2,m3,n1,n2,n3,?_⟩
    unfold swappedStores
    have ed:([x,y,z]:List Str).eraseDups.length=3:=by
      have h1:(y==x)=false:=by simpa using n1.symm
      have h2:(z==x)=false:=by simpa using n2.symm
      have h3:(z==y)=false:=by simpa using n3.symm
      simp[List.eraseDups_cons,h1,h2,h3]
    have al1:[a,b,c].all (foldedForSure 8)=false:=by simpa using f1
    have al2:[a,b,c].all (constantsAlone 8)=false:=by simpa using f2
    simp only[al1,al2,lZ G]
    generalize hst:[a,b,c].any _=sb
    have hsb:sb=false:=by
      rw[<- hst,List.any_cons,List.any_cons,List.any_cons,List.any_nil,Bool.or_false,Bool.or_eq_false_iff,Bool.or_eq_false_iff]
      clear hst f1 f2 al1 al2 q3 c1 c2 c3
      refine⟨?_,?_,?_⟩
      · cases a<;>first | rfl | (simp[aD] at p4)
      · cases b<;>first | rfl | (simp[aD] at p5)
      · cases c<;>first | rfl | (simp[aD] at p6)
    generalize hf:List.filterMap _ [Expr.Name x px,Expr.Name y py,Expr.Name z pz]=nm
    have hnm:nm=[x,y,z]:=by
      rw[<- hf]
      simp[List.filterMap_cons,m1,m2,m3,hpl,hpl2,Expr.pos]
    rw[hsb,hnm]
    simp only[ed]
    rfl
  · cases h
theorem LC{K:PySem.W.Frag}{H:Hp}{d1 d2 d3:D}{vs:List V}(r:aO K H [d1,d2,d3] vs):∃ v w u,vs=[v,w,u]/\Rep K H d1 v/\Rep K H d2 w/\Rep K H d3 u:=by
 simp only[aO] at r
 obtain⟨v,r1,rfl,h1,w,r2,rfl,h2,u,r3,rfl,h3,rfl⟩:=r
 exact⟨v,w,u,rfl,h1,h2,h3⟩
theorem Cu{es:List Expr}{l:List D}{ρ':Rho}{kt:Nat}{pt pos:Pos}(G:GoodS cx k X sc)(hN:X.N=ρ.map (·.1))(hs:KD sc es e=true)(he:ev cx F sc (frz F e ρ) e=some d)(hl:items d=some l)(hb:bindNames sc es l (frz F e ρ)=some ρ') :
    Runs X Hs0 H0 ρ (.nxt ρ') (gR X (.Assign [.Tuple es kt pt] e pos)):=by
  have hN':X.N=(frz F e ρ).map (·.1):=by rw[aJ];exact hN
  obtain⟨x,y,z,a,b,c,px,py,pz,k2,p2,rfl,rfl,lx,ly,lz,hxy,hxz,hyz,hw⟩:=Cp (kt:=kt) (pt:=pt) G.good hs
  cases F with
  | zero=>simp[ev] at he
  | succ F =>
    simp only[ev] at he
    obtain⟨ds,h1,he⟩:=aP he
    split at he
    · cases he
      simp only[items,Option.some.injEq] at hl
      subst hl
      have hA:=(dD (fun e _ d hd=>⟨(cL cx F G.good hN' hd).1,aV hd⟩) h1).1
      have hlen:ds.length=3:=by have:=(d7 (env:=X.env) hb).2.2;simpa using this.symm
      obtain⟨d1,d2,d3,rfl⟩:∃ d1 d2 d3,ds=[d1,d2,d3]:=by
        match ds,hlen with
        | [d1,d2,d3],_=>exact⟨d1,d2,d3,rfl⟩
      simp only[bindNames] at hb
      split at hb
      · rename_i c1
        split at hb
        · rename_i c2
          split at hb
          · rename_i c3
            cases hb
            rw[Bool.and_eq_true] at c1 c2 c3
            rw[au] at c2
            rw[au,au] at c3
            obtain⟨i,hi⟩:=bB c1.2
            obtain⟨j,hj⟩:=bB c2.2
            obtain⟨l,hl⟩:=bB c3.2
            have hij:i≠j:=fun z=>by rw[z,hj] at hi;cases hi;exact hxy rfl
            have hil:i≠l:=fun z=>by rw[z,hl] at hi;cases hi;exact hxz rfl
            have hjl:j≠l:=fun z=>by rw[z,hl] at hj;cases hj;exact hyz rfl
            intro σ H Hs D h _ hn hr
            obtain⟨Hs1,sm1,h1'⟩:=h.frozen (F+1) (.Tuple [a,b,c] k2 p2)
            refine PS.sem (Dd G.good.calm G.good.nd (by rw[hN'];exact hi) (by rw[hN'];exact hj) (by rw[hN'];exact hl) hij hil hjl lx ly lz bW hw rfl) (hA σ H Hs1 _ h1'.ext.sub h1'.sh fun vs H' Hs' E r=>?_)
            obtain⟨v,w,u,rfl,r1,r2,r3⟩:=LC r
            have nd:((frz (F+1) (.Tuple [a,b,c] k2 p2) ρ).map (·.1)).Nodup:=by rw[<- hN'];exact G.good.nd
            have g1:=(h1'.step E).set nd hi r1
            have g2:=g1.set (by rw[au];exact nd) (by rw[au];exact hj) r2
            have g3:=g2.set (by rw[au,au];exact nd) (by rw[au,au];exact hl) r3
            exact⟨v,w,u,rfl,hn _ _ Hs' H' rfl (sm1.trans E.vis) (by rw[au,au,au];exact hN') g3⟩
          · cases hb
        · cases hb
      · cases hb
    · cases he
theorem Runs.frz0{fl:Fl}{t:TS}{e:Expr}(h:Runs X Hs0 H0 (frz 0 e ρ) fl t):Runs X Hs0 H0 ρ fl t:=by
 intro σ H Hs D hd hN hn hr
 obtain⟨Hs1,sm1,h1⟩:=hd.frozen 0 e
 exact h σ H Hs1 D h1 (by rw[aJ];exact hN) (fun ρ' σ' Hs' H' q sm hN' h'=>hn ρ' σ' Hs' H' q (sm1.trans sm) hN' h') hr
theorem uD{x:Str}{ds:List D}{px ap cp pos:Pos}(G:GoodS cx k X sc)(hN:X.N=ρ.map (·.1))(hx:(frz F e ρ).lookup x=some (.ow ds))(ho:ownIn sc x=true)(hp:aA x=true)(hline:(ap.endLine==cp.line)=true)(hz:szl (ds.length+1)=true)(he:ev cx F sc (frz F e ρ) e=some d) :
  Runs X Hs0 H0 ρ (.nxt (cD (frz F e ρ) x (.ow (ds++[d])))) (gR X (.Expr (.Call (.Attribute (.Name x px) "append" ap) [e] [] cp) pos)):=by
 have hN':X.N=(frz F e ρ).map (·.1):=by rw[aJ];exact hN
 obtain⟨i,hi,_⟩:=bQ hx
 have nd:((frz F e ρ).map (·.1)).Nodup:=by rw[<- hN'];exact G.good.nd
 have hpl:=aV he
 intro σ H Hs D h _ hn hr
 obtain⟨Hs1,sm1,h1⟩:=h.frozen F e
 obtain⟨a,vs,k1,k2,k3,k4,k5⟩:=h1.ow i x ds hi
 unfold aA at hp
 rw[Bool.and_eq_true,bne_iff_ne,bne_iff_ne] at hp
 have vis:Vis X.env.scope x:=(G.own.own x ho).1.elim .inl fun q=>.inr (.inl q)
 refine PS.sem (gZ (yF PySem.F.plainAttrs_list PySem.F.slot_list_append PySem.F.type_list_append jg (gq (i:=i) (by rw[hN',List.getElem?_map,hi];rfl) vis (by simpa using hp.1) (by simpa using hp.2)) (bx ao cR (ak hpl)) rfl (by rw[ak hpl];rfl) hline (ak hpl) rfl) rfl) ?_
 refine⟨_,k1,.inl ⟨rfl,vs,.of k2⟩,?_⟩
 refine(cL cx F G.good hN' he).1 σ H Hs1 _ h1.ext.sub h1.sh fun v H' Hs' E r=>?_
 have h2:=h1.step E
 refine⟨a,vs,v,rfl,rfl,E.all _ _ k2,by have:=k3.length;have:=pW hz;omega,?_⟩
 exact hn _ _ Hs' _ rfl (sm1.trans E.vis) (by rw[au];exact hN') (h2.app nd hi k1 (aO.append (aO.same E.vis ds vs k3) (.cons r .nil)))
theorem rY{x:Str}{ds:List D}{px ap cp pos:Pos}(G:GoodS cx k X sc)(hN:X.N=ρ.map (·.1))(hx:ρ.lookup x=some (.ow ds))(ho:ownIn sc x=true)(hp:aA x=true)(hline:(ap.endLine==cp.line)=true)(hz:szl (ds.length+1)=true)(he:ev cx F sc (frz F e ρ) e=some d)(hfl:o9 d=true) :
  Runs X Hs0 H0 ρ (.nxt (cD ρ x (.ow (ds++[d])))) (gR X (.Expr (.Call (.Attribute (.Name x px) "append" ap) [e] [] cp) pos)):=by
 have hN':X.N=(frz F e ρ).map (·.1):=by rw[aJ];exact hN
 obtain⟨i,hi,_⟩:=bQ hx
 have nd:(ρ.map (·.1)).Nodup:=by rw[<- hN];exact G.good.nd
 have hpl:=aV he
 intro σ H Hs D h _ hn hr
 obtain⟨Hs1,sm1,shp,h1⟩:=h.frozen2 F e
 obtain⟨a,vs,k1,k2,k3,k4,k5⟩:=h.ow i x ds hi
 unfold aA at hp
 rw[Bool.and_eq_true,bne_iff_ne,bne_iff_ne] at hp
 have vis:Vis X.env.scope x:=(G.own.own x ho).1.elim .inl fun q=>.inr (.inl q)
 refine PS.sem (gZ (yF PySem.F.plainAttrs_list PySem.F.slot_list_append PySem.F.type_list_append jg (gq (i:=i) (by rw[hN,List.getElem?_map,hi];rfl) vis (by simpa using hp.1) (by simpa using hp.2)) (bx ao cR (ak hpl)) rfl (by rw[ak hpl];rfl) hline (ak hpl) rfl) rfl) ?_
 refine⟨_,k1,.inl ⟨rfl,vs,.of k2⟩,?_⟩
 refine(cL cx F G.good hN' he).1 σ H Hs1 _ h1.ext.sub h1.sh fun v H' Hs' E r=>?_
 obtain⟨Hs3,E3,r3⟩:=nF h.ext.sub sm1 shp E hfl r
 have h2:=h.step E3
 refine⟨a,vs,v,rfl,rfl,E3.all _ _ k2,by have:=k3.length;have:=pW hz;omega,?_⟩
 exact hn _ _ Hs3 _ rfl E3.vis (by rw[au];exact hN) (h2.app nd hi k1 (aO.append (aO.same E3.vis ds vs k3) (.cons r3 .nil)))
theorem z6{x:Str}{e i2 e2:Expr}(h:Gy x e=some (i2,e2)):∃ py p2 p3,e=.BinOp (.Subscript (.Name x py) i2 p2) .Add e2 p3:=by
 unfold Gy at h
 split at h
 ·rename_i y py i p2 e' p3
  split at h
  ·rename_i q
   cases h
   have:x=y:=by simpa using q
   subst this
   exact⟨py,p2,p3,rfl⟩
  ·cases h
 ·cases h
theorem yc{x:Str}{ie i2 e2:Expr}{ds:List D}{j2 a b j:Int}{n:Nat}{px py tp p2 p3 pos:Pos}(G:GoodS cx k X sc)(hN:X.N=ρ.map (·.1))(hx:(frz F ie (frz F e2 (frz F i2 ρ))).lookup x=some (.ow ds))(ho:ownIn sc x=true)(hp:aA x=true)
  (q1:ev cx F sc (frz F ie (frz F e2 (frz F i2 ρ))) i2=some (.int j2)) (q2:atD ds j2=some (.int a)) (q3:ev cx F sc (frz F ie (frz F e2 (frz F i2 ρ))) e2=some (.int b)) (q4:ev cx F sc (frz F ie (frz F e2 (frz F i2 ρ))) ie=some (.int j)) (q5:ixD ds.length j=some n) :
  Runs X Hs0 H0 ρ (.nxt (cD (frz F ie (frz F e2 (frz F i2 ρ))) x (.ow (ds.set n (.int (a+b)))))) (gR X (.Assign [.Subscript (.Name x px) ie tp] (.BinOp (.Subscript (.Name x py) i2 p2) .Add e2 p3) pos)):=by
 have hN':X.N=(frz F ie (frz F e2 (frz F i2 ρ))).map (·.1):=by rw[aJ,aJ,aJ];exact hN
 obtain⟨i,hi,_⟩:=bQ hx
 have nd:((frz F ie (frz F e2 (frz F i2 ρ))).map (·.1)).Nodup:=by rw[<- hN'];exact G.good.nd
 intro σ H Hs D h _ hn hr
 obtain⟨Hs1,sm1,h1⟩:=h.frozen F i2
 obtain⟨Hs2,sm2,h2⟩:=h1.frozen F e2
 obtain⟨Hs3,sm3,h3⟩:=h2.frozen F ie
 obtain⟨ad,vs,k1,k2,k3,k4,k5⟩:=h3.ow i x ds hi
 unfold aA at hp
 rw[Bool.and_eq_true,bne_iff_ne,bne_iff_ne] at hp
 have vis:Vis X.env.scope x:=(G.own.own x ho).1.elim .inl fun q=>.inr (.inl q)
 have hNi:X.N[i]?=some x:=by rw[hN',List.getElem?_map,hi];rfl
 have pv:∀ {pp:Pos},PE X (.Name x pp) (HD i):=fun {pp}=>gq hNi vis (by simpa using hp.1) (by simpa using hp.2)
 refine PS.sem (qw (ig Aw (uW lG pv ao (fD (aV q1))) ao) (uU pv ao set_list (jd (aV q4))) rfl rfl rfl) ?_
 obtain⟨w,w1,w2⟩:=pJ k3 q2
 cases aF w2
 refine⟨.ref ad,k1,(cL cx F G.good hN' q1).1 σ H Hs3 _ h3.ext.sub h3.sh fun v1 H1 Hs4 E1 r1=>?_⟩
 refine⟨ad,vs,j2,.int a,rfl,aF r1,.of (E1.all _ _ k2),w1,?_⟩
 refine(cL cx F G.good hN' q3).1 σ H1 Hs4 _ E1.sub (h3.sh.same E1.vis) fun v2 H2 Hs5 E2 r2=>?_
 refine⟨a,b,rfl,aF r2,.ref ad,k1,(cL cx F G.good hN' q4).1 σ H2 Hs5 _ E2.sub ((h3.sh.same E1.vis).same E2.vis) fun v3 H3 Hs6 E3 r3=>?_⟩
 have E:=E1.trans (E2.trans E3)
 refine⟨ad,vs,j,n,rfl,aF r3,E.all _ _ k2,by rw[<- k3.length,<- jX];exact q5,?_⟩
 exact hn _ _ Hs6 _ rfl (sm1.trans (sm2.trans (sm3.trans E.vis))) (by rw[au];exact hN') ((h3.step E).app nd hi k1 (aO.set (by simp[Rep]) n (aO.same E.vis ds vs k3)))
theorem Cw{x:Str}{ie:Expr}{ds:List D}{j:Int}{n:Nat}{px tp pos:Pos}(G:GoodS cx k X sc)(hN:X.N=ρ.map (·.1))(hx:(frz F ie (frz F e ρ)).lookup x=some (.ow ds))(ho:ownIn sc x=true)(hp:aA x=true)(hfr:bf e=false)
  (q1:ev cx F sc (frz F ie (frz F e ρ)) e=some d) (q4:ev cx F sc (frz F ie (frz F e ρ)) ie=some (.int j)) (q5:ixD ds.length j=some n) :
  Runs X Hs0 H0 ρ (.nxt (cD (frz F ie (frz F e ρ)) x (.ow (ds.set n d)))) (gR X (.Assign [.Subscript (.Name x px) ie tp] e pos)):=by
 have hN':X.N=(frz F ie (frz F e ρ)).map (·.1):=by rw[aJ,aJ];exact hN
 obtain⟨i,hi,_⟩:=bQ hx
 have nd:((frz F ie (frz F e ρ)).map (·.1)).Nodup:=by rw[<- hN'];exact G.good.nd
 intro σ H Hs D h _ hn hr
 obtain⟨Hs1,sm1,h1⟩:=h.frozen F e
 obtain⟨Hs3,sm3,h3⟩:=h1.frozen F ie
 obtain⟨ad,vs,k1,k2,k3,k4,k5⟩:=h3.ow i x ds hi
 unfold aA at hp
 rw[Bool.and_eq_true,bne_iff_ne,bne_iff_ne] at hp
 have vis:Vis X.env.scope x:=(G.own.own x ho).1.elim .inl fun q=>.inr (.inl q)
 have hNi:X.N[i]?=some x:=by rw[hN',List.getElem?_map,hi];rfl
 have pv:∀ {pp:Pos},PE X (.Name x pp) (HD i):=fun {pp}=>gq hNi vis (by simpa using hp.1) (by simpa using hp.2)
 refine PS.sem (qw ao (uU pv ao set_list (jd (aV q4))) (uE q1 hfr) mK rfl) ?_
 refine(cL cx F G.good hN' q1).1 σ H Hs3 _ h3.ext.sub h3.sh fun v1 H1 Hs4 E1 r1=>?_
 refine⟨.ref ad,k1,(cL cx F G.good hN' q4).1 σ H1 Hs4 _ E1.sub (h3.sh.same E1.vis) fun v3 H3 Hs6 E3 r3=>?_⟩
 have E:=E1.trans E3
 refine⟨ad,vs,j,n,rfl,aF r3,E.all _ _ k2,by rw[<- k3.length,<- jX];exact q5,?_⟩
 exact hn _ _ Hs6 _ rfl (sm1.trans (sm3.trans E.vis)) (by rw[au];exact hN') ((h3.step E).app nd hi k1 (aO.set (Rep.same E3.vis _ _ r1) n (aO.same E.vis ds vs k3)))
theorem Ib{x:Str}{ds:List D}{px pos:Pos}(G:GoodS cx k X sc)(hN:X.N=ρ.map (·.1))(hx:ownIn sc x=true)(hc:(ρ.map (·.1)).contains x=true)(hno:xM (frz F e ρ) x=true)(hl:Bh cx sc e=true)(he:ev cx F sc (frz F e ρ) e=some (.lst ds)) :
  Runs X Hs0 H0 ρ (.nxt (cD (frz F e ρ) x (.ow ds))) (gR X (.Assign [.Name x px] e pos)):=by
 have hN':X.N=(frz F e ρ).map (·.1):=by rw[aJ];exact hN
 obtain⟨ox,of⟩:=G.own.own x hx
 have hfr:bf e=false:=by cases e<;>first | rfl | (simp[Bh] at hl;done)
 have hown:KN cx sc e=true:=by
  unfold Bh at hl
  split at hl
  ·exact hl
  ·cases hl
 refine pY G hN hx hc hno fun i hi σ H Hs D hs hst hq=>?_
 have hsw:=eZ (t:=some (.Name x px)) (l:=pos.line) (env:=X.env) he fun a b c p q=>by rw[q] at hfr;cases hfr
 exact PS.sem (jc (i:=i) G.good.nd hi ox ao hsw of) (Av G.good hN' hown he σ H Hs _ hs hst fun acc vs Hs' H' E a1 a2 a3 r=>hq acc vs Hs' H' E a1 a2 a3 r)
theorem vP(l:Addr)(xs:Array Value)(n:Nat)(b:Addr)(ys:Array Value)(m:Nat)(dd:Option Addr)(sl:Array (Option Value))(c0:¬(!xs.isEmpty&&Builtin.List.listTooLong (xs.size+ys.size))=true)(c1:xs.size<=sizeLine)(c2:xs.size+ys.size<=sizeLine+1) :
    Meets (Builtin.«list.extend» ⟨[.ref l,.ref b],[]⟩) (fun _ R s=>s.heap.get? l=some { cls:=.type "list",data:=.seq xs n }/\s.heap.get? b=some { cls:=.type "list",dict:=dd,data:=.seq ys m,slots:=sl } /\
      R (.ok (.ret Value.none)) { s with heap:=s.heap.update l (Obj.mapSeq fun x=>x++ys),toks:=s.toks }) :=
  .of_wp fun prog w A R s h=>by
    obtain⟨hp,g,d,tk,os⟩:=s
    obtain⟨hl,hb,h⟩:=h
    have f1:=sub_list_list;have f2:=AutoSeq1.sub_tuple_list;have f3:=AutoSeq1.sub_list_tuple
    have z:(xs++ys).size<=sizeLine+1:=by rw[Array.size_append];exact c2
    wp_walk using(wpAny_updateSeq hl rfl (hz:=c1) (_hz':=z)),AutoSeq1.wpAny_loadPart' hl,AutoSeq1.wpAny_loadPart' hb;exact⟨_,rfl,h⟩
def Mg(K:PySem.W.Frag):V->List V->Hp->VK->Prop:=fun x vs H Q=>∃ l b xs zs,x=.ref l/\vs=[.ref b]/\H l=some (.lst xs)/\SqL K H b zs/\xs.length+zs.length<=sizeLine/\Q .non (upd H l (.lst (xs++zs)))
theorem Ef:MtM X "list.extend" (Mg X.K):=by
 intro pins s σ H x vs v us Q I rx rv h
 obtain⟨l,b,xs,zs,rfl,rfl,hH,hB,hz,q⟩:=h
 cases (show v=Value.ref l from rx)
 obtain⟨u,rfl,ru⟩:=rv.one
 cases (show u=Value.ref b from ru)
 obtain⟨z,its,n,r,hl,e⟩:=I.lstM hH
 obtain⟨its2,r2,pl,hz2⟩:=I.list hB
 have hl2:=r2.length
 obtain⟨⟨c2,dd2,data2,sl2⟩,n2,e2,hc2,hd2,hs2⟩:=pl
 simp only at hc2 hs2
 have hsz:its.toArray.size+its2.toArray.size<=sizeLine:=by rw[List.size_toArray,List.size_toArray];omega
 have lng:¬ (!its.toArray.isEmpty&&Builtin.List.listTooLong (its.toArray.size+its2.toArray.size))=true:=fun w=>by
  rw[lB hsz,Bool.and_false] at w;cases w
 obtain⟨h3,h4⟩:=(show dd2=none/\data2=.seq its2.toArray n2 from⟨hd2,hs2⟩)
 subst hc2 h4
 refine call_meets F.slot_list_extend ⟨_,e,rfl⟩ F.entry_list_extend (F.args_list_extend_2 _ _) (vP l its.toArray n b its2.toArray n2 dd2 sl2 lng (by rw[List.size_toArray];omega) (by omega)) ⟨e,e2,?_⟩
 exact⟨.non,_,I.lset (its':=its++its2) hH e (by simp) (r.append r2) (by rw[List.length_append];omega),rfl,q⟩
theorem sV(l:Addr)(xs:Array Value)(n:Nat)(b:Addr)(ys:Array Value)(m:Nat)(dd:Option Addr)(sl:Array (Option Value))(c0:¬(!xs.isEmpty&&Builtin.List.listTooLong (xs.size+ys.size))=true)(c1:xs.size<=sizeLine)(c2:xs.size+ys.size<=sizeLine+1) :
    Meets (Builtin.«list.extend» ⟨[.ref l,.ref b],[]⟩) (fun _ R s=>s.heap.get? l=some { cls:=.type "list",data:=.seq xs n }/\s.heap.get? b=some { cls:=.type "tuple",dict:=dd,data:=.seq ys m,slots:=sl } /\
      R (.ok (.ret Value.none)) { s with heap:=s.heap.update l (Obj.mapSeq fun x=>x++ys),toks:=s.toks }) :=
  .of_wp fun prog w A R s h=>by
    obtain⟨hp,g,d,tk,os⟩:=s
    obtain⟨hl,hb,h⟩:=h
    have f1:=sub_list_list;have f2:=AutoSeq1.sub_tuple_list;have f3:=AutoSeq1.sub_list_tuple;have f4:=isSubtype_tuple_tuple
    have z:(xs++ys).size<=sizeLine+1:=by rw[Array.size_append];exact c2
    wp_walk using(wpAny_updateSeq hl rfl (hz:=c1) (_hz':=z)),AutoSeq1.wpAny_loadPart' hl,AutoSeq1.wpAny_loadPart' hb;exact⟨_,rfl,h⟩
def Mf(K:PySem.W.Frag):V->List V->Hp->VK->Prop:=fun x vs H Q=>∃ l b xs zs,x=.ref l/\vs=[.ref b]/\H l=some (.lst xs)/\SqT K H b zs/\xs.length+zs.length<=sizeLine/\Q .non (upd H l (.lst (xs++zs)))
theorem Ed:MtM X "list.extend" (Mf X.K):=by
 intro pins s σ H x vs v us Q I rx rv h
 obtain⟨l,b,xs,zs,rfl,rfl,hH,hB,hz,q⟩:=h
 cases (show v=Value.ref l from rx)
 obtain⟨u,rfl,ru⟩:=rv.one
 cases (show u=Value.ref b from ru)
 obtain⟨z,its,n,r,hl,e⟩:=I.lstM hH
 obtain⟨its2,r2,pl,hz2⟩:=I.tuple hB
 have hl2:=r2.length
 obtain⟨⟨c2,dd2,data2,sl2⟩,e2,hc2,n2,hs2⟩:=pl
 simp only at hc2 hs2
 have hsz:its.toArray.size+its2.toArray.size<=sizeLine:=by rw[List.size_toArray,List.size_toArray];omega
 have lng:¬ (!its.toArray.isEmpty&&Builtin.List.listTooLong (its.toArray.size+its2.toArray.size))=true:=fun w=>by
  rw[lB hsz,Bool.and_false] at w;cases w
 subst hc2 hs2
 refine call_meets F.slot_list_extend ⟨_,e,rfl⟩ F.entry_list_extend (F.args_list_extend_2 _ _) (sV l its.toArray n b its2.toArray n2 dd2 sl2 lng (by rw[List.size_toArray];omega) (by omega)) ⟨e,e2,?_⟩
 exact⟨.non,_,I.lset (its':=its++its2) hH e (by simp) (r.append r2) (by rw[List.length_append];omega),rfl,q⟩
theorem uz{x:Str}{ds zs:List D}{px ap cp pos:Pos}(G:GoodS cx k X sc)(hN:X.N=ρ.map (·.1))(hx:(frz F e ρ).lookup x=some (.ow ds))(ho:ownIn sc x=true)(hp:aA x=true)(hline:(ap.endLine==cp.line)=true)(hz:szl (ds.length+zs.length)=true)(he:ev cx F sc (frz F e ρ) e=some (.lst zs)) :
  Runs X Hs0 H0 ρ (.nxt (cD (frz F e ρ) x (.ow (ds++zs)))) (gR X (.Expr (.Call (.Attribute (.Name x px) "extend" ap) [e] [] cp) pos)):=by
 have hN':X.N=(frz F e ρ).map (·.1):=by rw[aJ];exact hN
 obtain⟨i,hi,_⟩:=bQ hx
 have nd:((frz F e ρ).map (·.1)).Nodup:=by rw[<- hN'];exact G.good.nd
 have hpl:=aV he
 intro σ H Hs D h _ hn hr
 obtain⟨Hs1,sm1,h1⟩:=h.frozen F e
 obtain⟨a,vs,k1,k2,k3,k4,k5⟩:=h1.ow i x ds hi
 unfold aA at hp
 rw[Bool.and_eq_true,bne_iff_ne,bne_iff_ne] at hp
 have vis:Vis X.env.scope x:=(G.own.own x ho).1.elim .inl fun q=>.inr (.inl q)
 refine PS.sem (gZ (yF PySem.F.plainAttrs_list PySem.F.slot_list_extend PySem.F.type_list_extend Ef (gq (i:=i) (by rw[hN',List.getElem?_map,hi];rfl) vis (by simpa using hp.1) (by simpa using hp.2)) (bx ao cR (ak hpl)) rfl (by rw[ak hpl];rfl) hline (ak hpl) rfl) rfl) ?_
 refine⟨_,k1,.inl ⟨rfl,vs,.of k2⟩,?_⟩
 refine(cL cx F G.good hN' he).1 σ H Hs1 _ h1.ext.sub h1.sh fun v H' Hs' E r=>?_
 have h2:=h1.step E
 obtain⟨b,us,rfl,g1,g2⟩:=bG r
 refine⟨a,b,vs,us,rfl,rfl,E.all _ _ k2,E.sub.seq g1,by have:=k3.length;have:=g2.length;have:=eY hz;omega,?_⟩
 exact hn _ _ Hs' _ rfl (sm1.trans E.vis) (by rw[au];exact hN') (h2.app nd hi k1 (aO.append (aO.same E.vis ds vs k3) g2))
theorem rW{x:Str}{ds zs:List D}{px ap cp pos:Pos}(G:GoodS cx k X sc)(hN:X.N=ρ.map (·.1))(hx:(frz F e ρ).lookup x=some (.ow ds))(ho:ownIn sc x=true)(hp:aA x=true)(hline:(ap.endLine==cp.line)=true)(hz:szl (ds.length+zs.length)=true)(he:ev cx F sc (frz F e ρ) e=some (.tup zs)) :
  Runs X Hs0 H0 ρ (.nxt (cD (frz F e ρ) x (.ow (ds++zs)))) (gR X (.Expr (.Call (.Attribute (.Name x px) "extend" ap) [e] [] cp) pos)):=by
 have hN':X.N=(frz F e ρ).map (·.1):=by rw[aJ];exact hN
 obtain⟨i,hi,_⟩:=bQ hx
 have nd:((frz F e ρ).map (·.1)).Nodup:=by rw[<- hN'];exact G.good.nd
 have hpl:=aV he
 intro σ H Hs D h _ hn hr
 obtain⟨Hs1,sm1,h1⟩:=h.frozen F e
 obtain⟨a,vs,k1,k2,k3,k4,k5⟩:=h1.ow i x ds hi
 unfold aA at hp
 rw[Bool.and_eq_true,bne_iff_ne,bne_iff_ne] at hp
 have vis:Vis X.env.scope x:=(G.own.own x ho).1.elim .inl fun q=>.inr (.inl q)
 refine PS.sem (gZ (yF PySem.F.plainAttrs_list PySem.F.slot_list_extend PySem.F.type_list_extend Ed (gq (i:=i) (by rw[hN',List.getElem?_map,hi];rfl) vis (by simpa using hp.1) (by simpa using hp.2)) (bx ao cR (ak hpl)) rfl (by rw[ak hpl];rfl) hline (ak hpl) rfl) rfl) ?_
 refine⟨_,k1,.inl ⟨rfl,vs,.of k2⟩,?_⟩
 refine(cL cx F G.good hN' he).1 σ H Hs1 _ h1.ext.sub h1.sh fun v H' Hs' E r=>?_
 have h2:=h1.step E
 obtain⟨b,us,rfl,g1,g2⟩:=bw r
 refine⟨a,b,vs,us,rfl,rfl,E.all _ _ k2,E.sub.tup g1,by have:=k3.length;have:=g2.length;have:=eY hz;omega,?_⟩
 exact hn _ _ Hs' _ rfl (sm1.trans E.vis) (by rw[au];exact hN') (h2.app nd hi k1 (aO.append (aO.same E.vis ds vs k3) g2))
theorem Cy{pos:Pos}(G:GoodS cx k X sc)(hN:X.N=ρ.map (·.1))(he:ev cx F sc (frz F e ρ) e=some d)(hc:∀ a b c p,e≠.ListComp a b c p):Runs X Hs0 H0 ρ (.nxt (frz F e ρ)) (gR X (.Expr e pos)):=by
 intro σ H Hs D h _ hn hr
 exact PS.sem (gZ ao (eZ he hc)) (zE G hN he h fun v Hs' H' sm h' r=>hn _ _ Hs' H' rfl sm (by rw[aJ];exact hN) h')
theorem zc{f:Rho->Stmt->Option Fl}(hf:∀ ρ s fl,X.N=ρ.map (·.1)->f ρ s=some fl->Runs X Hs0 H0 ρ fl (gR X s)):∀ (l:List Stmt) (ρ:Rho) (fl:Fl),X.N=ρ.map (·.1)->jF f l ρ=some fl->Runs X Hs0 H0 ρ fl (gQ X l)
  | [], ρ, fl, hN, h => by
    simp only[jF,Option.some.injEq] at h
    subst h
    intro σ H Hs D h _ hn hr
    exact PSs.sem uM (hn _ _ Hs H rfl (.refl _) hN h)
  | s :: r, ρ, fl, hN, h => by
    simp only[jF] at h
    obtain⟨fl1,h1,h2⟩:=aP h
    intro σ H Hs D hd _ hn hr
    refine PSs.sem (kY Ak dj) (hf ρ s fl1 hN h1 σ H Hs _ hd hN (fun ρ' σ' Hs' H' q sm hN' hd'=>?_) fun d v Hs' H' q E rr=>?_)
    · subst q
      exact zc hf r ρ' fl hN' h2 σ' H' Hs' D hd' hN' (fun ρ2 σ2 Hs2 H2 q2 sm2=>hn ρ2 σ2 Hs2 H2 q2 (sm.trans sm2)) hr
    · subst q
      cases h2
      exact hr d v Hs' H' rfl E rr
theorem Ie{tg iter:Expr}{body:List Stmt}{l:List D}{fl:Fl}{pos:Pos}{f:D->Rho->Option Fl}(G:GoodS cx k X sc)(hN:X.N=ρ.map (·.1))(hI:evI cx (fu tg) (ev cx F sc (frz F iter ρ)) sc iter=some l)
  (hf:∀ d ρ1 fl,f d ρ1=some fl->X.N=ρ1.map (·.1)->∃ ρ2,fL sc tg d ρ1=some ρ2/\(X.N=ρ2.map (·.1)->Runs X Hs0 H0 ρ2 fl (gQ X body))) (h:dG f l (frz F iter ρ)=some fl):Runs X Hs0 H0 ρ fl (gR X (.For tg iter body [] pos)):=by
 have hN':X.N=(frz F iter ρ).map (·.1):=by rw[aJ];exact hN
 obtain⟨hI',hp⟩:=vY (tg:=tg) (ρ:=frz F iter ρ) G.good (fun e d h=>⟨(cL cx F G.good hN' h).1,aV h⟩) hI
 intro σ H Hs D hd _ hn hr
 obtain⟨Hs1,sm1,h1⟩:=hd.frozen F iter
 refine PS.sem (IK G.pass G.good.calm iD fM dj (cQ hp)) (hI' σ H Hs1 _ h1.ext.sub h1.sh fun J H2 Hs2 E2 hJ=>?_)
 let W:Nat->Nat->St->Hp->Prop:=fun i m σ H=>m=l.length-i/\i<=l.length/\∃ ρi Hsi,Same Hs2 Hsi/\Hd X.K Hs0 H0 Hsi H ρi σ/\X.N=ρi.map (·.1)/\dG f (l.drop i) ρi=some fl
 refine⟨W,⟨l.length,rfl,Nat.zero_le _,_,Hs2,.refl _,h1.step E2,hN',by simpa using h⟩,?_⟩
 rintro i m σi Hi ⟨rfl,hi,ρi,Hsi,sm,hdi,hNi,gi⟩
 obtain⟨stp,go⟩:=hJ Hsi Hi sm hdi.ext.sub
 by_cases hlt:i<l.length
 ·obtain⟨g1,g2⟩:=go i l[i] (List.getElem?_eq_getElem hlt)
  refine .inr ⟨g1,fun σ' H'=>W (i+1) (l.length-(i+1)) σ' H',fun σ' H' w=>⟨_,by omega,w⟩,fun x H' y=>?_⟩
  obtain⟨Hs3,E3,rx⟩:=g2 x H' y
  rw[List.drop_eq_getElem_cons hlt] at gi
  simp only[dG] at gi
  obtain⟨fl1,b1,b2⟩:=aP gi
  obtain⟨ρ2,c1,c2⟩:=hf _ _ _ b1 hNi
  have hd3:=hdi.step E3
  refine pF G.good.calm G.own G.good.nd hd3.ext.sub hNi (qM (Hs0:=Hs0) (H0:=H0) (H:=H')) c1 hd3 rx fun σ' hN2 p=>?_
  refine c2 hN2 σ' H' Hs3 _ p hN2 (fun ρ' σ'' Hs' H'' q sm4 hN3 hd4=>?_) fun d v Hs' H'' q E rr=>?_
  ·subst q
   exact⟨rfl,hlt,ρ',Hs',sm.trans (E3.vis.trans sm4),hd4,hN3,b2⟩
  ·subst q
   cases b2
   exact hr d v Hs' H'' rfl E rr
 ·have hi':i=l.length:=by omega
  subst hi'
  refine .inl ⟨stp,?_⟩
  rw[List.drop_length] at gi
  simp only[dG,Option.some.injEq] at gi
  exact hn ρi σi Hsi Hi gi.symm (sm1.trans (E2.vis.trans sm)) hNi hdi
theorem xZ{c:Expr}{body:List Stmt}{fl:Fl}{pos:Pos}{f:Rho->Option Fl}{m:Nat}(G:GoodS cx k X sc)(hN:X.N=ρ.map (·.1))(hf:∀ ρ fl,X.N=ρ.map (·.1)->f ρ=some fl->Runs X Hs0 H0 ρ fl (gQ X body))
    (h:pN (fun ρ=>((ev cx F sc (frz F c ρ) c).bind asB).map fun b=>(frz F c ρ,b)) f m ρ=some fl):Runs X Hs0 H0 ρ fl (gR X (.While c body [] pos)):=by
  intro σ H Hs D hd _ hn hr
  let W:Nat->St->Hp->Prop:=fun m σ H=>∃ ρi Hsi,Same Hs Hsi/\Hd X.K Hs0 H0 Hsi H ρi σ/\X.N=ρi.map (·.1)/\pN (fun ρ=>((ev cx F sc (frz F c ρ) c).bind asB).map fun b=>(frz F c ρ,b)) f m ρi=some fl
  refine PS.sem (yq G.pass dJ dj) ⟨W,⟨m,ρ,Hs,.refl _,hd,hN,h⟩,?_⟩
  rintro m σi Hi ⟨ρi,Hsi,sm,hdi,hNi,gi⟩
  cases m with
  | zero=>simp[pN] at gi
  | succ m =>
    simp only[pN] at gi
    split at gi
    · cases gi
    · rename_i ρ1 b hb
      obtain⟨b',h1,h2⟩:=Option.map_eq_some_iff.mp hb
      cases h2
      have he:=eG h1
      have hN':X.N=(frz F c ρi).map (·.1):=by rw[aJ];exact hNi
      refine Br G hNi he hdi fun Hs' H' sm' h'=>?_
      cases b with
      | true =>
        rw[if_pos rfl] at gi ⊢
        split at gi
        · cases gi
        · rename_i d hfd
          cases gi
          refine⟨fun σ' H'=>W m σ' H',fun σ' H' w=>⟨m,Nat.lt_succ_self _,w⟩,?_⟩
          exact hf _ _ hN' hfd σi H' Hs' _ h' hN' (fun ρ2 σ2 Hs2 H2 q2=>by cases q2) fun d2 v Hs2 H2 q2 E rr=>by cases q2;exact hr d v Hs2 H2 rfl E rr
        · rename_i ρ' hfd
          refine⟨fun σ' H'=>W m σ' H',fun σ' H' w=>⟨m,Nat.lt_succ_self _,w⟩,?_⟩
          refine hf _ _ hN' hfd σi H' Hs' _ h' hN' (fun ρ2 σ2 Hs2 H2 q2 sm2 hN2 hd2=>?_) fun d2 v Hs2 H2 q2=>by cases q2
          cases q2
          exact⟨_,Hs2,sm.trans (sm'.trans sm2),hd2,hN2,gi⟩
      | false =>
        rw[if_neg Bool.false_ne_true] at gi ⊢
        cases gi
        exact hn _ _ Hs' H' rfl (sm.trans sm') hN' h'
end
section
variable {X:Cx} {ρ:Rho} {cx:Cxt} {k F:Nat} {sc scope:Scope} {Hs0 H0:Hp} {e:Expr} {d:D}
theorem K9{s:Stmt}{D:Ends}{σ:St}{H:Hp}(h:gR X.nox s D σ H):gR X s D σ H:=fun pins s0 I=>wpAny_mono (h pins s0 (I.wish _)) (fun _ _ q=>q.unwish) fun _ _ z=>False.elim z
abbrev Cx.pinned(X:Cx)(pn:List (Addr×Obj))(xe:Value->Shared->Prop):Cx:={ X with pn:=pn,xe:=xe }
theorem Inv.repin{pn pn' pins pins':List (Addr×Obj)}{xe xe':Value->Shared->Prop}{σ:St}{H:Hp}{s:Shared}(I:Inv (X.pinned pn xe) pins σ H s)(h:∀ p∈pn'++pins',p∈pn++pins):Inv (X.pinned pn' xe') pins' σ H s :=
 ⟨⟨I.ok.mod,I.ok.kind,I.ok.glob,I.ok.blt,I.ok.above,I.ok.inj,I.ok.has,I.ok.cab,I.ok.hd,I.ok.frames,I.ok.stk,I.ok.exf,I.ok.bs,I.ok.bsz,I.ok.noex,I.ok.exfs,I.ok.funs,I.ok.frf⟩,I.os,I.bare,I.base,I.loc,I.cell,I.free,I.freeC,fun p hp=>I.pin p (h p hp),I.hok,I.len⟩
theorem Good.wish(G:Good cx k X sc)(E:Value->Shared->Prop):Good cx k (X.wish E) sc:=⟨G.calm,G.room,G.sce,G.kind,G.nd,G.cst,G.blt,G.exs,G.fns⟩
theorem GoodS.nox(G:GoodS cx k X sc):GoodS cx k X.nox sc:=⟨G.good.wish _,⟨G.own.own⟩,PassesOwn.never,G.stk⟩
theorem GoodS.pin_nox(G:GoodS cx k X sc)(pn:List (Addr×Obj))(E:Value->Shared->Prop):GoodS cx k (X.pinned pn E).nox sc:=⟨⟨G.good.calm,G.good.room,G.good.sce,G.good.kind,G.good.nd,G.good.cst,G.good.blt,G.good.exs,G.good.fns⟩,⟨G.own.own⟩,PassesOwn.never,G.stk⟩
theorem GoodS.calm'(G:GoodS cx k X sc)(b:Bool):GoodS { cx with rs:=b } k X sc:=⟨⟨G.good.calm,G.good.room,G.good.sce,G.good.kind,G.good.nd,G.good.cst,G.good.blt,G.good.exs,G.good.fns⟩,G.own,G.pass,G.stk⟩
def wY(rs:Bool)(X:Cx)(Hs0 H0:Hp)(ρ:Rho)(c:Str)(ρ':Rho)(t:TS):Prop:=∀ σ H Hs D,Hd X.K Hs0 H0 Hs H ρ σ->X.N=ρ.map (·.1) ->
 (∀ σ' Hs' H',Same Hs Hs'->X.N=ρ'.map (·.1)->Hd X.K Hs0 H0 Hs' H' ρ' σ'->∃ E,EX X c Hs' H' E/\XOk X σ' E/\(rs=true->wZ X σ' E))->t D σ H
theorem qO{rs:Bool}{f:Rho->Stmt->Option Fl}{g:Rho->Stmt->Option (Str×Rho)}{c:Str}{ρ':Rho}(hf:∀ ρ s fl,X.N=ρ.map (·.1)->f ρ s=some fl->Runs X.nox Hs0 H0 ρ fl (gR X.nox s))(hg:∀ ρ s c ρ',X.N=ρ.map (·.1)->g ρ s=some (c,ρ')->wY rs X Hs0 H0 ρ c ρ' (gR X s)) :
    ∀ (l:List Stmt) (ρ:Rho),X.N=ρ.map (·.1)->mJ f g l ρ=some (c,ρ')->wY rs X Hs0 H0 ρ c ρ' (gQ X l)
  | [],ρ,hN,h=>by simp[mJ] at h
  | s :: r, ρ, hN, h => by
    simp only[mJ] at h
    intro σ H Hs D hd _ hx
    refine PSs.sem (kY Ak dj) ?_
    split at h
    · rename_i ρ1 h1
      refine K9 (hf ρ s _ hN h1 σ H Hs _ hd hN (fun ρ2 σ2 Hs2 H2 q sm hN2 hd2=>?_) fun d v Hs2 H2 q _ _=>nomatch q)
      cases q
      exact qO hf hg r ρ1 hN2 h σ2 H2 Hs2 D hd2 hN2 fun σ3 Hs3 H3 sm3=>hx σ3 Hs3 H3 (sm.trans sm3)
    · cases h
    · exact hg ρ s c ρ' hN h σ H Hs _ hd hN hx
theorem qT{c:Str}(G:Good cx k X sc)(hN:X.N=ρ.map (·.1))(he:evx cx F sc (frz F e ρ) e=some c){σ:St}{H Hs:Hp}{rs:Bool}{Q:VK}(h:Hd X.K Hs0 H0 Hs H ρ σ)
  (hx:∀ σ' Hs' H',Same Hs Hs'->X.N=(frz F e ρ).map (·.1)->Hd X.K Hs0 H0 Hs' H' (frz F e ρ) σ'->∃ E,EX X c Hs' H' E/\XOk X σ' E/\(rs=true->wZ X σ' E)):j8 X e σ H Q:=by
 obtain⟨Hs1,sm1,h1⟩:=h.frozen F e
 have hN':X.N=(frz F e ρ).map (·.1):=by rw[aJ];exact hN
 obtain⟨E,e1,e2,_⟩:=hx σ Hs1 H sm1 hN' h1
 exact jt cx F G hN' he σ H Hs1 E h1.ext.sub h1.sh e1 e2 Q
theorem Aa{t:Option Expr}{l:Nat}{env:Env}{c:Str}(he:evx cx F sc ρ e=some c)(hc:bf e=false):swapsWith e t l env=pure false:=by
  cases F with
  | zero=>exact nomatch (show(Option.none:Option Str)=some c from he)
  | succ F =>
    cases e<;>first | rfl | (exact nomatch (show(Option.none:Option Str)=some c from he)) | (exact absurd hc (by simp[bf]))
theorem Hd.drop{K:PySem.W.Frag}{Hs0 H0 Hs H:Hp}{ρ:Rho}{σ:St}{x:Str}{i:Nat}(h:Hd K Hs0 H0 Hs H ρ σ)(hn:(ρ.map (·.1)).Nodup)(hi:(ρ.map (·.1))[i]?=some x):Hd K Hs0 H0 Hs H (cD ρ x .no) (σ.set i none):=by
 have hl:i<σ.length:=by have:=(List.getElem?_eq_some_iff.mp hi).1;rw[h.len];simpa using this
 refine⟨h.ext,by rw[List.length_set,h.len];have:=congrArg List.length (au ρ x .no);simpa using this.symm,fun j y d e=>?_,fun j y ds e=>?_,fun j j' y y' ds es a hjj e1 e2 e3 e4=>?_,fun j y dss e=>?_⟩
 ·rw[aQ hn hi j] at e
  split at e
  ·cases e
  ·rename_i hj
   obtain⟨v,q1,q2⟩:=h.sh j y d e
   exact⟨v,by rw[List.getElem?_set_ne (fun z=>hj z.symm)];exact q1,q2⟩
 ·rw[aQ hn hi j] at e
  split at e
  ·cases e
  ·rename_i hj
   obtain⟨a,vs,q1,q2⟩:=h.ow j y ds e
   exact⟨a,vs,by rw[List.getElem?_set_ne (fun z=>hj z.symm)];exact q1,q2⟩
 ·rw[aQ hn hi j] at e1
  rw[aQ hn hi j'] at e2
  split at e1
  ·cases e1
  ·rename_i hj
   split at e2
   ·cases e2
   ·rename_i hj'
    rw[List.getElem?_set_ne (fun z=>hj z.symm)] at e3
    rw[List.getElem?_set_ne (fun z=>hj' z.symm)] at e4
    exact h.dis j j' y y' ds es a hjj e1 e2 e3 e4
 ·rw[aQ hn hi j] at e
  split at e
  ·cases e
  ·rename_i hj
   obtain⟨⟨a,bs,k1,k2⟩,k3⟩:=h.oo j y dss e
   refine⟨⟨a,bs,by rw[List.getElem?_set_ne (fun z=>hj z.symm)];exact k1,k2⟩,fun l z s hl' g=>?_⟩
   rw[aQ hn hi l] at g
   split at g
   ·cases g;rfl
   ·exact k3 l z s hl' g
theorem xX{hs:List ExceptHandler}{o f:List Stmt}{c n kn:Str}(h:Cg hs o f=some (c,n,kn)):∃ np p1 p2 p3 hp,hs=[.ExceptHandler (some (.Name c np)) (some n) [.Assign [.Name kn p1] (.Name n p2) p3] hp]/\o=[]/\f=[]:=by
 unfold Cg at h
 split at h
 ·split at h
  ·rename_i hq
   cases h
   have e:=beq_iff_eq.mp hq
   subst e
   exact⟨_,_,_,_,_,rfl,rfl,rfl⟩
  ·cases h
 ·cases h
theorem Ia{body:List Stmt}{c c' n kn:Str}{ρ':Rho}{np p1 p2 p3 hp pos:Pos}(G:GoodS cx k X sc)(hN:X.N=ρ.map (·.1))
    (hb:∀ pn xe,wY false (X.pinned pn xe) Hs0 H0 ρ c' ρ' (gQ (X.pinned pn xe) body)) (hgl:nu cx sc c=true) (ht:c=cx.top) (hin:cx.exs.contains c'=true) (hne:n≠kn) (hpn:aA n=true) (ln:sc.names.lookup n=some .local) (lk:sc.names.lookup kn=some .local) (cn:(ρ.map (·.1)).contains n=true) (ck:(ρ.map (·.1)).contains kn=true) (hpc:aA c=true) :
    Runs X Hs0 H0 ρ (.nxt (cD (cD ρ' kn (.sh (.exc c'))) n .no)) (gR X (.Try body [.ExceptHandler (some (.Name c np)) (some n) [.Assign [.Name kn p1] (.Name n p2) p3] hp] [] [] pos)):=by
  intro σ H Hs D hd _ hn hr pins s I
  obtain⟨C,M,e1,e2,_,_,e3,_⟩:=G.good.exs.cls c' hin
  have hg:Gl X c:=by
    have e:sc.names.lookup c=some .globalImplicit:=by unfold nu at hgl;simpa using hgl
    show X.env.scope.names.lookup c=_
    rw[G.good.sce,e]
  have hm:X.mg c=some (.ref M):=by rw[ht];exact G.good.exs.glob _ _ e2
  unfold aA at hpn hpc
  rw[Bool.and_eq_true,bne_iff_ne,bne_iff_ne] at hpn hpc
  obtain⟨i,hi⟩:=bB cn
  obtain⟨j,hj⟩:=bB ck
  have hij:i≠j:=fun z=>by subst z;rw[hi] at hj;cases hj;exact hne rfl
  rw[arm_exec_Try]
  refine wpAny_bind (wpAny_standAt (wpAny_tryStmt_except ?_))
  let xe:Value->Shared->Prop:=fun e s₁=>wpAny (model X.prog X.w) X.A (noteFrame e X.env) (fun _ s₂=>wpAny (model X.prog X.w) X.A (setFlight e none) (fun _ s₃=>wpAny (model X.prog X.w) X.A (handleBy e X.env [.ExceptHandler (some (.Name c np)) (some n) [.Assign [.Name kn p1] (.Name n p2) p3] hp]) (SP X pins D) X.xe s₃) X.xe s₂) X.xe s₁
  have run:=hb (X.pn++pins) xe σ H Hs { nx:=fun _ _=>False,rt:=fun _ _=>False } hd hN ?_ [] s (Inv.repin (X:=X) (pn:=X.pn) (pins:=pins) I fun p hp=>by simpa using hp)
  · refine wpAny_mono run (fun f s1 q=>?_) fun e s1 q=>q
    cases f with
    | next=>obtain⟨_,_,_,z⟩:=q;exact z.elim
    | brk=>obtain⟨_,_,_,z⟩:=q;exact z.elim
    | cont=>obtain⟨_,_,_,z⟩:=q;exact z.elim
    | ret u=>obtain⟨_,_,_,_,_,z⟩:=q;exact z.elim
  · intro σ1 Hs1 H1 sm1 hN1 hd1
    refine⟨fun cls _ H2=>cls=.ref C/\∃ Hs2,Ext Hs1 H1 Hs2 H2,fun C2 H2 Hs2 q E=>⟨?_,Hs2,E⟩,?_,fun z=>nomatch z⟩
    · have q':PySem.W.nsIn X.K mainGlobals c'=some (some (.ref C2)):=q
      rw[e1] at q';cases q';rfl
    · intro pins2 H2 s2 e s3 I2 hcx
      obtain⟨ea,cls,H3,rfl,Fl,hn3,rfl,Hs3,E3⟩:=hcx
      have I2':Inv (X.pinned (X.pn++pins) X.xe) pins2 σ1 H2 s2:=Inv.repin (X:=X) I2 fun p hp=>hp
      have nd1:(ρ'.map (·.1)).Nodup:=by rw[<- hN1];exact G.good.nd
      have hi1:(ρ'.map (·.1))[i]?=some n:=by rw[<- hN1];show X.N[i]?=_;rw[hN];exact hi
      have hj1:(ρ'.map (·.1))[j]?=some kn:=by rw[<- hN1];show X.N[j]?=_;rw[hN];exact hj
      refine caught (X:=X.pinned (X.pn++pins) X.xe) (Mc:=M) I2' Fl hn3 G.stk hg hm (by simpa using hpc.1) e3 G.good.nd (i:=i) (j:=j) (by show X.N[i]?=_;rw[hN];exact hi) (by show X.N[j]?=_;rw[hN];exact hj) hij
        (by show X.env.scope.names.lookup n=_;rw[G.good.sce];exact ln) (by show X.env.scope.names.lookup kn=_;rw[G.good.sce];exact lk) (by simpa using hpn.1) (by simpa using hpn.2) fun s4 I4=>?_
      have I5:Inv X pins ((σ1.set j (some (.ref ea))).set i none) (upd H3 ea (.ext (isX ea (.ref C)))) s4:=Inv.repin (X:=X) (pn':=X.pn) I4 fun p hp=>List.mem_append_left _ hp
      have E4:Ext Hs3 H3 (upd Hs3 ea (.ext (isX ea (.ref C)))) (upd H3 ea (.ext (isX ea (.ref C)))):=Ext.new E3.sub _ hn3
      have hd4:Hd X.K Hs0 H0 (upd Hs3 ea (.ext (isX ea (.ref C)))) (upd H3 ea (.ext (isX ea (.ref C)))) (cD ρ' kn (.sh (.exc c'))) (σ1.set j (some (.ref ea))):=((Hd.step hd1 E3).step E4).set nd1 hj1 (by
        simp only[Rep]
        exact⟨ea,C,rfl,e1,aU⟩)
      have hd5:=hd4.drop (by rw[au];exact nd1) (i:=i) (x:=n) (by rw[au];exact hi1)
      exact⟨_,_,I5,hn _ _ _ _ rfl (sm1.trans (E3.vis.trans E4.vis)) (by rw[au,au];exact hN1) hd5⟩
end
mutual
theorem rT(cx:Cxt)(F:Nat):∀ (n:Nat) {k:Nat} {X:Cx} {sc:Scope} {ρ:Rho} {s:Stmt} {fl:Fl} {Hs0 H0:Hp},GoodS cx k X sc->X.N=ρ.map (·.1)->DE.st cx F n sc ρ s=some fl->Runs X Hs0 H0 ρ fl (gR X s)
  | 0,k,X,sc,ρ,s,fl,Hs0,H0,_,_,h=>by simp[DE.st] at h
  | n + 1, k, X, sc, ρ, s, fl, Hs0, H0, G, hN, h => by
    have block:∀ (l:List Stmt) (ρ:Rho) (fl:Fl),X.N=ρ.map (·.1)->jF (fun ρ s=>DE.st cx F n sc ρ s) l ρ=some fl->Runs X Hs0 H0 ρ fl (gQ X l):=zc fun ρ s fl hN h=>rT cx F n G hN h
    cases s with
    | Pass pos =>
      simp only[DE.st,Option.some.injEq] at h
      subst h
      intro σ H Hs D hd _ hn hr
      exact PS.sem Dc (hn _ _ Hs H rfl (.refl _) hN hd)
    | Return v pos =>
      simp only[DE.st] at h
      cases v with
      | none =>
        simp only[Option.some.injEq] at h
        subst h
        intro σ H Hs D hd _ hn hr
        exact PS.sem CZ (hr .non .non Hs H rfl hd.ext (by simp[Rep]))
      | some e =>
        simp only[Option.map_eq_some_iff] at h
        obtain⟨d,he,rfl⟩:=h
        intro σ H Hs D hd _ hn hr
        exact PS.sem (Al ao) (zE G hN he hd fun v Hs' H' sm h' r=>hr d v Hs' H' rfl h'.ext r)
    | Assign tgs e pos =>
      simp only[DE.st] at h
      split at h
      · split at h
        · rename_i hc
          rw[Bool.and_eq_true] at hc
          split at h
          · rename_i hoo
            rw[Bool.and_eq_true] at hoo
            obtain⟨d,he,h⟩:=Option.bind_eq_some_iff.mp h
            obtain⟨dss,hd,rfl⟩:=Option.map_eq_some_iff.mp h
            exact Ln G hN hc.1 hc.2 hoo.1 hoo.2 he hd
          · split at h
            · rename_i hle
              rw[Bool.and_eq_true] at hle
              obtain⟨d,he,h⟩:=Option.bind_eq_some_iff.mp h
              obtain⟨ds,hd,rfl⟩:=Option.map_eq_some_iff.mp h
              cases d<;>simp[Wj] at hd
              subst hd
              exact Ib G hN hc.1 hc.2 hle.2 hle.1 he
            · split at h
              · split at h
                · rename_i hno
                  simp only[Option.map_eq_some_iff] at h
                  obtain⟨d,he,rfl⟩:=h
                  exact Runs.frz0 (e:=e) (uy G (by rw[aJ];exact hN) hc.1 (by rw[aJ];exact hc.2) (fun _=>hno) he)
                · cases h
              · rename_i hno
                simp only[Option.map_eq_some_iff] at h
                obtain⟨d,he,rfl⟩:=h
                refine uy G hN hc.1 hc.2 (fun hf=>?_) he
                rw[hf,Bool.true_and] at hno
                simpa using hno
        · cases h
      · split at h
        · rename_i hs
          obtain⟨d,he,h⟩:=aP h
          obtain⟨l,hl,h⟩:=aP h
          simp only[Option.map_eq_some_iff] at h
          obtain⟨ρ',hb,rfl⟩:=h
          rcases Bool.or_eq_true _ _ |>.mp hs with hs | hs
          · exact HY G hN hs he hl hb
          · exact Cu G hN hs he hl hb
        · cases h
      · split at h
        · rename_i x px
          split at h
          · rename_i i2 e2 hau
            obtain⟨py,p2,p3,rfl⟩:=z6 hau
            split at h
            · rename_i ds hx
              split at h
              · rename_i hc
                rw[Bool.and_eq_true] at hc
                obtain⟨j2,h1,h⟩:=aP h
                obtain⟨a,h2,h⟩:=aP h
                obtain⟨b,h3,h⟩:=aP h
                obtain⟨j,h4,h⟩:=aP h
                obtain⟨n,h5,h⟩:=aP h
                cases h
                exact yc G hN hx hc.1 hc.2 (bD h1) (bD h2) (bD h3) (bD h4) h5
              · cases h
            · cases h
          · split at h
            · rename_i ds hx
              split at h
              · rename_i hc
                simp only[Bool.and_eq_true,Bool.not_eq_true'] at hc
                obtain⟨d,h1,h⟩:=aP h
                obtain⟨j,h4,h⟩:=aP h
                obtain⟨n,h5,h⟩:=aP h
                cases h
                exact Cw G hN hx hc.1.1 hc.1.2 hc.2 h1 (bD h4) h5
              · cases h
            · cases h
        · split at h
          · rename_i dss hx
            split at h
            · rename_i hc
              rw[Bool.and_eq_true,Bool.and_eq_true] at hc
              obtain⟨d,h1,h⟩:=aP h
              obtain⟨j1,h2,h⟩:=aP h
              obtain⟨n1,h3,h⟩:=aP h
              obtain⟨ds,h4,h⟩:=aP h
              obtain⟨j2,h5,h⟩:=aP h
              obtain⟨n2,h6,h⟩:=aP h
              split at h
              · rename_i h7
                cases h
                exact Cv G hN hx hc.1.1 hc.1.2 (by simpa using hc.2) h1 (bD h2) h3 h4 (bD h5) h6 h7
              · cases h
            · cases h
          · cases h
        · cases h
      · cases h
    | Expr v pos =>
      simp only[DE.st] at h
      split at h
      · rename_i x px m ap e cp
        split at h
        · rename_i ds hx
          split at h
          · rename_i hc
            rw[Bool.and_eq_true,Bool.and_eq_true] at hc
            obtain⟨⟨c1,c2⟩,c4⟩:=hc
            split at h
            · rename_i hc2
              rw[Bool.and_eq_true] at hc2
              simp only[Option.map_eq_some_iff] at h
              obtain⟨d,he,rfl⟩:=h
              have em:m="append":=by simpa using hc2.1
              subst em
              exact uD G hN hx c1 c2 c4 hc2.2 he
            · split at h
              · rename_i hc3
                obtain⟨d,he,h⟩:=aP h
                have em:m="extend":=by simpa using hc3
                subst em
                split at h
                · split at h
                  · rename_i hz
                    cases h
                    exact uz G hN hx c1 c2 c4 hz he
                  · cases h
                · split at h
                  · rename_i hz
                    cases h
                    exact rW G hN hx c1 c2 c4 hz he
                  · cases h
                · cases h
              · cases h
          · cases h
        · split at h
          · rename_i ds hx
            split at h
            · rename_i hc
              rw[Bool.and_eq_true,Bool.and_eq_true,Bool.and_eq_true,Bool.and_eq_true] at hc
              obtain⟨⟨⟨c1,c2⟩,c4⟩,c5,c6⟩:=hc
              obtain⟨d,he,h⟩:=aP h
              have em:m="append":=by simpa using c5
              subst em
              split at h
              · rename_i hfl
                cases h
                exact rY G hN hx c1 c2 c4 c6 he hfl
              · cases h
            · cases h
          · cases h
        · cases h
      · cases h
      · cases h
      · rename_i h1 h2 h3
        simp only[Option.map_eq_some_iff] at h
        obtain⟨d,he,rfl⟩:=h
        exact Cy G hN he fun a b c p q=>h2 a b c p q
    | If c a b pos =>
      simp only[DE.st] at h
      obtain⟨t,h1,h⟩:=aP h
      have he:=eG h1
      intro σ H Hs D hd _ hn hr
      have hN':X.N=(frz F c ρ).map (·.1):=by rw[aJ];exact hN
      refine PS.sem (Df dJ dj dj) (Br G hN he hd fun Hs' H' sm h'=>?_)
      cases t with
      | true =>
        simp only[if_true] at h
        exact tQ (block a _ fl hN' h σ H' Hs' D h' hN' (fun ρ2 σ2 Hs2 H2 q2 sm2=>hn ρ2 σ2 Hs2 H2 q2 (sm.trans sm2)) hr)
      | false =>
        simp only[Bool.false_eq_true,if_false] at h
        exact vH (block b _ fl hN' h σ H' Hs' D h' hN' (fun ρ2 σ2 Hs2 H2 q2 sm2=>hn ρ2 σ2 Hs2 H2 q2 (sm.trans sm2)) hr)
    | For tg iter body orelse pos =>
      simp only[DE.st] at h
      split at h
      · obtain⟨l,hI,h⟩:=aP h
        refine Ie G hN hI (fun d ρ1 fl hf hN1=>?_) h
        obtain⟨ρ2,g1,g2⟩:=aP hf
        exact⟨ρ2,g1,fun hN2=>block body ρ2 fl hN2 g2⟩
      · cases h
    | While c body orelse pos =>
      simp only[DE.st] at h
      split at h
      · exact xZ G hN (fun ρ fl hN h=>block body ρ fl hN h) h
      · cases h
    | Try body handlers orelse final pos =>
      simp only[DE.st] at h
      split at h
      · rename_i c n' kn hto
        obtain⟨np,p1,p2,p3,hp,rfl,rfl,rfl⟩:=xX hto
        split at h
        · rename_i fl' hfl
          cases h
          have hb:Runs X.nox Hs0 H0 ρ fl (gQ X.nox body):=zc (fun ρ s fl hN h=>rT cx F n G.nox hN h) body ρ fl hN hfl
          intro σ H Hs D hd _ hn hr pins s I
          rw[arm_exec_Try]
          refine wpAny_bind (wpAny_standAt (wpAny_tryStmt_except ?_))
          refine wpAny_mono (hb σ H Hs D hd hN hn hr pins s (I.wish _)) (fun f s1 q=>?_) fun _ _ z=>z.elim
          have q':=q.unwish
          cases f with
          | next=>exact wpAny_execs_nil q'
          | brk=>exact q'
          | cont=>exact q'
          | ret u=>exact q'
        · split at h
          · rename_i c' ρ1 hx
            split at h
            · rename_i hc
              cases h
              simp only[Bool.and_eq_true] at hc
              obtain⟨⟨⟨⟨⟨⟨⟨⟨⟨h1,h2⟩,h3⟩,h4⟩,h5⟩,h6⟩,h7⟩,h8⟩,h9⟩,h10⟩:=hc
              refine Ia G hN (fun pn xe=>?_) h1 (by simpa using h2) h3 (by simpa using h4) h5 (by simpa using h6) (by simpa using h7) h8 h9 h10
              exact qO (X:=X.pinned pn xe) (fun ρ s fl hN h=>rT cx F n (G.pin_nox pn xe) hN h) (fun ρ s c ρ' hN h=>uw { cx with rs:=false } F n ((G.pin_nox pn xe).calm' false) hN h) body ρ hN hx
            · cases h
          · cases h
      · cases h
    | _=>exact nomatch (show(Option.none:Option Fl)=some fl from h)
theorem uw(cx:Cxt)(F:Nat):∀ (n:Nat) {k:Nat} {X:Cx} {sc:Scope} {ρ:Rho} {s:Stmt} {c:Str} {ρ':Rho} {Hs0 H0:Hp},GoodS cx k X.nox sc->X.N=ρ.map (·.1)->DE.stx cx F n sc ρ s=some (c,ρ')->wY cx.rs X Hs0 H0 ρ c ρ' (gR X s)
  | 0,k,X,sc,ρ,s,c,ρ',Hs0,H0,_,_,h=>by simp[DE.stx] at h
  | n + 1, k, X, sc, ρ, s, c, ρ', Hs0, H0, G, hN, h => by
    have GX:Good cx k X sc:=⟨G.good.calm,G.good.room,G.good.sce,G.good.kind,G.good.nd,G.good.cst,G.good.blt,G.good.exs,G.good.fns⟩
    have block:∀ (l:List Stmt) (ρ:Rho) (c:Str) (ρ':Rho),X.N=ρ.map (·.1)->mJ (fun ρ s=>DE.st cx F n sc ρ s) (fun ρ s=>DE.stx cx F n sc ρ s) l ρ=some (c,ρ')->wY cx.rs X Hs0 H0 ρ c ρ' (gQ X l):=fun l ρ c ρ' hN h =>
      qO (fun ρ s fl hN h=>rT cx F n G hN h) (fun ρ s c ρ' hN h=>uw cx F n G hN h) l ρ hN h
    simp only[DE.stx] at h
    split at h
    · rename_i cc np txt j p1 cpos pos
      split at h
      · rename_i hc
        cases h
        simp only[Bool.and_eq_true] at hc
        obtain⟨⟨⟨h1,h2⟩,h3⟩,h4⟩:=hc
        obtain⟨C,M,e1,_,e2,_⟩:=GX.exs.cls c h3
        have hg:Gl X c:=by
          have e:sc.names.lookup c=some .globalImplicit:=by unfold nu at h2;simpa using h2
          show X.env.scope.names.lookup c=_
          rw[GX.sce,e]
        unfold aA at h4
        rw[Bool.and_eq_true,bne_iff_ne] at h4
        intro σ H Hs D hd _ hx pins s I
        obtain⟨E,x1,x2,x3⟩:=hx σ Hs H (.refl _) hN hd
        exact yj I GX.room.hd hg (GX.exs.glob _ _ e1) (by simpa using h4.1) e2 fun s2 h' e args I2 hm=>x3 h1 pins H s2 C e h' args I2 hm (x1 C H Hs e1 (.refl hd.ext.sub))
      · cases h
    · rename_i e pos
      split at h
      · cases h
      · rename_i hfr
        obtain⟨c1,h1,h2⟩:=Option.map_eq_some_iff.mp h
        cases h2
        intro σ H Hs D hd _ hx
        exact PS.sem (gZ ao (Aa h1 (by simpa using hfr))) (qT GX hN h1 hd hx)
    · rename_i e pos
      obtain⟨c1,h1,h2⟩:=Option.map_eq_some_iff.mp h
      cases h2
      intro σ H Hs D hd _ hx
      exact PS.sem (Al ao) (qT GX hN h1 hd hx)
    · rename_i x px e pos
      split at h
      · cases h
      · rename_i hfr
        obtain⟨c1,h1,h2⟩:=Option.map_eq_some_iff.mp h
        cases h2
        intro σ H Hs D hd _ hx pins s I
        exact wpAny_Assign_Name (thn (qT (Q:=fun _ _=>False) GX hN h1 hd hx pins s I) fun v s1 ⟨_,_,_,_,q⟩=>q.elim) (Aa h1 (by simpa using hfr))
    · rename_i cc a b pos
      split at h
      · rename_i kk hk
        have he:=eG hk
        have hN':X.N=(frz F cc ρ).map (·.1):=by rw[aJ];exact hN
        intro σ H Hs D hd _ hx
        obtain⟨Hs1,sm1,h1⟩:=hd.frozen F cc
        refine PS.sem (Df dJ dj dj) ((cL cx F GX hN' he).2 kk rfl σ H Hs1 _ h1.ext.sub h1.sh fun H' Hs' E=>?_)
        have h2:=h1.step E
        cases kk with
        | true=>exact tQ (block a _ c ρ' hN' h σ H' Hs' D h2 hN' fun σ3 Hs3 H3 sm3=>hx σ3 Hs3 H3 ((sm1.trans E.vis).trans sm3))
        | false=>exact vH (block b _ c ρ' hN' h σ H' Hs' D h2 hN' fun σ3 Hs3 H3 sm3=>hx σ3 Hs3 H3 ((sm1.trans E.vis).trans sm3))
      · rename_i hk
        split at h
        · rename_i e hn
          obtain⟨c1,h1,h2⟩:=Option.map_eq_some_iff.mp h
          cases h2
          unfold u9 at hn
          split at hn
          · rename_i f as ks p1 p2
            cases hn
            have hN':X.N=(frz F (.UnaryOp .Not (.Call f as ks p1) p2) ρ).map (·.1):=by rw[aJ];exact hN
            intro σ H Hs D hd _ hx
            obtain⟨Hs1,sm1,hd1⟩:=hd.frozen F (.UnaryOp .Not (.Call f as ks p1) p2)
            obtain⟨E,e1,e2,_⟩:=hx σ Hs1 H sm1 hN' hd1
            exact PS.sem (Df (Aj (Ai ao)) dj dj) (jt cx F GX hN' h1 σ H Hs1 E hd1.ext.sub hd1.sh e1 e2 _)
          · cases hn
        · cases h
    · rename_i tg iter body pos
      split at h
      · obtain⟨c1,h1,h2⟩:=Option.map_eq_some_iff.mp h
        cases h2
        intro σ H Hs D hd _ hx pins s I
        rw[arm_exec_For]
        exact wpAny_bind (wpAny_standAt (wpAny_bind (thn (qT (Q:=fun _ _=>False) GX hN h1 hd hx pins s I) fun v s1 ⟨_,_,_,_,q⟩=>q.elim)))
      · cases h
    · cases h
end
end L2
namespace L2
open PySem PySem.Spec PyProof.Rows PySem.SeqAt
open DE hiding st
structure FunAt (K:PySem.W.Frag) (mg:Str->Option Value) (f:Str) (fd:Fd):Prop where
 ex:∃ (t:Stmt) (a:Addr) (g:FuncData),mg f=some (.ref a)/\Fun K f f t a g/\Binds K g fd.ps []/\fd.body=bM t/\fd.sc=aZ t
 fs:FnScope fd.N fd.ps fd.sc
 nd:(f==("__debug__":Str))=false
structure Text (K:PySem.W.Frag) (mg:Str->Option Value) (P:Pg):Prop where
 cst:∀ x d,P.cst.lookup x=some d->∃ v u,(∀ H,Rep K H d v)/\mg x=some u/\RelV v u
 blt:∀ x b,P.blt.lookup x=some b->mg x=none/\x=Str.ofString b
 fns:∀ f fd,P.defs.lookup f=some fd->FunAt K mg f fd
 exs:XText K mg P.exs P.top
theorem jU{α:Type}:∀ {l:List (Str×α)} {x:Str},(l.map (·.1)).contains x=true->∃ a,l.lookup x=some a
  | [],x,h=>by simp at h
  | (y, a) :: r, x, h => by
    rw[List.lookup_cons]
    cases hb:x==y with
    | true=>exact⟨a,rfl⟩
    | false =>
      refine jU ?_
      rw[List.map_cons,List.contains_cons,hb,Bool.false_or] at h
      exact h
theorem ux{K:PySem.W.Frag}{H:Hp}{fd:Fd}{ds:List D}{vs:List V}(S:FnScope fd.N fd.ps fd.sc)(hl:ds.length=fd.ps.length)(r:aO K H ds vs) :
  fd.N=(cH fd ds).map (·.1)/\(start fd.N vs).length=(cH fd ds).length/\∀ (i:Nat) (x:Str) (s:Sl),(cH fd ds)[i]?=some (x,s)->(s=.no\/∃ d v,s=.sh d/\(start fd.N vs)[i]?=some (some v)/\Rep K H d v):=by
 have lv:=r.length
 have lz:(fd.ps.zip (ds.map Sl.sh)).length=fd.ps.length:=by rw[List.length_zip,List.length_map];omega
 have hpl:fd.ps.length<=fd.N.length:=by have:=congrArg List.length S.pre;rw[List.length_take] at this;omega
 refine⟨?_,?_,fun i x s e=>?_⟩
 ·unfold cH
  rw[List.map_append,List.map_map,List.map_fst_zip (by rw[List.length_map];omega)]
  have:(fd.N.drop fd.ps.length).map ((fun p:Str×Sl=>p.1)∘fun x=>(x,Sl.no))=fd.N.drop fd.ps.length:=by
   rw[show((fun p:Str×Sl=>p.1)∘fun x=>(x,Sl.no))=id from rfl,List.map_id]
  rw[this]
  conv=>lhs;rw[<- List.take_append_drop fd.ps.length fd.N,S.pre]
 ·unfold start cH
  rw[List.length_append,List.length_append,lz]
  simp
  omega
 ·unfold cH at e
  by_cases hi:i<fd.ps.length
  ·rw[List.getElem?_append_left (by rw[lz];exact hi),List.getElem?_zip_eq_some] at e
   obtain⟨_,e2⟩:=e
   rw[List.getElem?_map] at e2
   obtain⟨d,e3,rfl⟩:=Option.map_eq_some_iff.mp e2
   obtain⟨v,g1,g2⟩:=r.get e3
   refine .inr ⟨d,v,rfl,?_,g2⟩
   unfold start
   rw[List.getElem?_append_left (by rw[List.length_map];omega),List.getElem?_map,g1]
   rfl
  ·rw[List.getElem?_append_right (by rw[lz];omega),List.getElem?_map] at e
   obtain⟨y,_,e3⟩:=Option.map_eq_some_iff.mp e
   cases e3
   exact .inl rfl
section
variable {P:Program} {w:World} {K:PySem.W.Frag} {mg:Str->Option Value} {base:Heap} {T:Pg} {F:Nat}
abbrev vR(c:Str->List D->Option Rs):Str->List D->Option D:=fun f ds=>Rs.val? (c f ds)
abbrev xR(c:Str->List D->Option Rs):Str->List D->Option Str:=fun f ds=>Rs.exc? (c f ds)
theorem iM{o:Option Rs}{d:D}(h:Rs.val? o=some d):o=some (.val d):=by
 unfold Rs.val? at h
 split at h
 ·cases h;rfl
 ·cases h
theorem iU{o:Option Rs}{c:Str}(h:Rs.exc? o=some c):o=some (.exc c):=by
 unfold Rs.exc? at h
 split at h
 ·cases h;rfl
 ·cases h
theorem iV{k:Nat}{f:Str}{fd:Fd}(hf:T.defs.lookup f=some fd):∀ ds r,eV T F k f ds=some r->ds.length=fd.ps.length:=by
  intro ds d h
  cases k with
  | zero=>simp[lY] at h
  | succ k =>
    simp only[lX,hf] at h
    split at h
    · rename_i hl;simpa using hl
    · cases h
theorem Fun.okX{x qual:Str}{st:Stmt}{f:Addr}{fd:FuncData}{N ps:List Str}{k:Nat}{sp:Sp}(F:Fun K x qual st f fd)(S:FnScope N ps (aZ st))(len:∀ vs H Q E,sp vs H Q E->vs.length=ps.length)
    (hbody:∀ (cdv:Value) (A:Around) (outer:List Env) (s:Shared) (H:Hp) (vs:List V) (Q:VK) (E:XK),Room k (A.deeper (envOfC qual (aZ st) s.heap.objs.size f cdv))->sp vs H Q E ->
      ∃ t,PSs (iB (CX1 P w) P w K mg base N qual (aZ st) f cdv A outer s H E) (bM st) t/\t { nx:=fun _ H'=>Q .non H',rt:=Q } (start N vs) H):FnOk P w K mg base (CX1 P w) (k+1) f fd ps sp:=by
  obtain⟨oc,od,kV,doc,pm,an,cdv,ct,osl,rfl,lk,hcd⟩:=F.ex
  exact Sg lk hcd S len fun A outer s H vs Q E hr hsp=>hbody cdv A outer s H vs Q E hr hsp
theorem BW(X:Text K mg T):∀ (k:Nat) (f:Str) (fd:Fd) (t:Stmt) (a:Addr) (g:FuncData),T.defs.lookup f=some fd->Fun K f f t a g->fd.body=bM t->fd.sc=aZ t->FnScope fd.N fd.ps fd.sc->FnOk P w K mg base (CX1 P w) k a g fd.ps (spX K (vR (eV T F k)) (xR (eV T F k)) f fd.ps)
  | 0, f, fd, t, a, g, hf, Fn, hb, hs, S => by
    refine⟨fun vs H Q E h=>h.1,fun A outer s H args us vs Q E _ _ _ _ h=>?_⟩
    obtain⟨_,Hs,ds,_,_,⟨d,hc,_⟩ | ⟨c,hc,_⟩⟩:=h
    · have:=iM hc;simp[lY] at this
    · have:=iU hc;simp[lY] at this
  | k + 1, f, fd, t, a, g, hf, Fn, hb, hs, S => by
    refine Fun.okX (N:=fd.N) Fn (by rw[<- hs];exact S) (fun vs H Q E h=>h.1) fun cdv A outer s H vs Q E hr h=>?_
    obtain⟨hlv,Hs,ds,hsm,rl,hcase⟩:=h
    have hld:ds.length=fd.ps.length:=by
      rcases hcase with⟨d,hc,_⟩ | ⟨c,hc,_⟩
      · exact iV hf ds _ (iM hc)
      · exact iV hf ds _ (iU hc)
    have unf:eV T F (k+1) f ds=pD (T.cx (eV T F k)) F fd.sc fd.body (cH fd ds):=by
      simp only[lX,hf]
      rw[if_pos (by simpa using hld)]
    obtain⟨s1,s2,s3⟩:=ux S hld rl
    refine⟨gQ _ (bM t),dj,?_⟩
    have G:GoodS (T.cx (eV T F k)) k (iB (CX1 P w) P w K mg base fd.N f (aZ t) a cdv A outer s H E).nox fd.sc :=
      { good := { calm := rfl, room := hr, sce := hs.symm, kind := S.kind, nd := S.nd, cst := X.cst, blt := X.blt, exs := X.exs
                  fns:=fun f' hf'=>by
                    obtain⟨fd',hl'⟩:=jU (l:=T.defs) hf'
                    have FA:=X.fns f' fd' hl'
                    obtain⟨t',a',g',m1,m2,m3,m4,m5⟩:=FA.ex
                    exact⟨FA.nd,a',g',fd'.ps,fun ds d h=>iV hl' ds _ (iM h),fun ds c h=>iV hl' ds _ (iU h),m1,m2.kp,m3,BW X k f' fd' t' a' g' hl' m2 m4 m5 FA.fs⟩ }
        own:=⟨fun x hx=>⟨by
          unfold ownIn at hx
          rw[Bool.or_eq_true] at hx
          show(aZ t).names.lookup x=_\/(aZ t).names.lookup x=_
          rw[<- hs]
          exact hx.imp (fun q=>by simpa using q) (fun q=>by simpa using q),.inl rfl⟩⟩
        pass:=PassesOwn.never
        stk:=⟨rfl,rfl⟩ }
    have noow:∀ (i:Nat) (x:Str) (ds':List D),(cH fd ds)[i]?=some (x,.ow ds')->False:=fun i x ds' e=>by
      rcases s3 i x _ e with q | ⟨d',v,q,q1,q2⟩
      · cases q
      · cases q
    have hd:Hd K Hs H Hs H (cH fd ds) (start fd.N vs):=by
      refine⟨.refl hsm,s2,fun i x d e=>?_,fun i x ds' e=>(noow i x ds' e).elim,fun i j x y ds' es a' _ e=>(noow i x ds' e).elim,fun i x dss e=>by
        rcases s3 i x _ e with q | ⟨d',v,q,q1,q2⟩
        · cases q
        · cases q⟩
      rcases s3 i x _ e with q | ⟨d',v,q,q1,q2⟩
      · cases q
      · cases q
        exact⟨v,q1,q2⟩
    rcases hcase with⟨d,hc,hq⟩ | ⟨c,hc,hq⟩
    · have hc':=iM hc
      rw[unf] at hc'
      unfold pD at hc'
      intro pins s0 I
      have fin:∀ fl,jF (fun ρ s=>DE.st (T.cx (eV T F k)) F F fd.sc ρ s) fd.body (cH fd ds)=some fl->(match fl with | .ret d'=>d'=d | .nxt _=>d=.non)->gQ (iB (CX1 P w) P w K mg base fd.N f (aZ t) a cdv A outer s H E).nox (bM t) { nx:=fun _ H'=>Q .non H',rt:=Q } (start fd.N vs) H:=by
        intro fl hg hfl
        rw[hb] at hg
        refine zc (fun ρ s fl hN h=>rT _ F F G hN h) (bM t) (cH fd ds) fl s1 hg (start fd.N vs) H Hs _ hd s1 (fun ρ' σ' Hs' H' q _ _ hd'=>?_) fun d' v Hs' H' q E' r=>?_
        · subst q
          have e:d=.non:=hfl
          subst e
          exact hq .non H' Hs' hd'.ext (by simp[Rep])
        · subst q
          have e:d'=d:=hfl
          subst e
          exact hq v H' Hs' E' r
      have key:gQ (iB (CX1 P w) P w K mg base fd.N f (aZ t) a cdv A outer s H E).nox (bM t) { nx:=fun _ H'=>Q .non H',rt:=Q } (start fd.N vs) H:=by
        split at hc'
        · rename_i d' hg;cases hc';exact fin _ hg rfl
        · rename_i ρ' hg;cases hc';exact fin _ hg rfl
        · split at hc'<;>cases hc'
      exact wpAny_mono (key pins s0 (I.wish _)) (fun _ _ q=>q.unwish) fun _ _ z=>False.elim z
    · have hc':=iU hc
      rw[unf] at hc'
      unfold pD at hc'
      split at hc'
      · cases hc'
      · cases hc'
      · split at hc'
        · rename_i c' ρ' hg
          cases hc'
          rw[hb] at hg
          refine qO (rs:=true) (X:=iB (CX1 P w) P w K mg base fd.N f (aZ t) a cdv A outer s H E) (fun ρ s fl hN h=>rT _ F F G hN h) (fun ρ s c ρ' hN h=>uw _ F F G hN h) (bM t) (cH fd ds) s1 hg (start fd.N vs) H Hs _ hd s1 fun σ1 Hs1 H1 _ _ hd1=>?_
          refine⟨E,fun C H2 Hs2 q E2=>hq C H2 Hs2 q (hd1.ext.trans E2),fun pins H2 s2 e s3 I2 hcx=>uY pins σ1 H2 s2 e s3 I2 hcx,fun _ pins H2 s2 C e h' args I2 hm hE=>sy I2 hm hE⟩
        · cases hc'
theorem FnOk.calm{k:Nat}{f:Addr}{fd:FuncData}{ps:List Str}{sp:Sp}(F:FnOk P w K mg base (CX1 P w) k f fd ps sp)(h:∀ vs H Q E,sp vs H Q E->sp vs H Q E0):FnOk P w K mg base CX0 k f fd ps sp :=
  ⟨F.len,fun A outer s H args us vs Q E hr he hb hv hs=>codeAny_mono (F.run A outer s H args us vs Q E0 hr he hb hv (h _ _ _ _ hs)) fun r s' q=>by
    cases r with
    | error e=>obtain⟨_,_,_,_,_,_,z⟩:=(show CX1 P w outer H s E0 e s' from q);exact z.elim
    | ok fl=>cases fl<;>exact q⟩
def pZ(K:PySem.W.Frag):Sp:=fun vs H Q _=>∃ (a:Addr) (ns:List Int),vs=[.ref a]/\SqL K H a (ns.map V.int)/\ns.length<=63/\∀ H',Q (.bl true) H'
theorem JF{k:Nat}{f:Str}{fd:Fd}{t:Stmt}{a:Addr}{g:FuncData}(X:Text K mg T)(hf:T.defs.lookup f=some fd)(Fn:Fun K f f t a g)(hb:fd.body=bM t)(hs:fd.sc=aZ t)(S:FnScope fd.N fd.ps fd.sc)(h1:fd.ps.length=1)
  (hlaw:∀ ns:List Int,ns.length<=63->aK T F k f [.lst (ns.map D.int)]=some (.bl true)):FnOk P w K mg base CX0 k a g fd.ps (pZ K):=by
 refine FnOk.calm ((BW (F:=F) X k f fd t a g hf Fn hb hs S).imp fun vs H Q E h=>?_) fun _ _ _ _ h=>h
 obtain⟨p,ns,rfl,hS,hl,q⟩:=h
 refine⟨by rw[h1];rfl,H,[.lst (ns.map D.int)],.refl _,.cons ?_ .nil,.inl ⟨.bl true,by have:=hlaw ns hl;rw[gO] at this;exact this,fun v H' Hs' _ r=>by rw[cW r];exact q H'⟩⟩
 simp only[Rep]
 exact⟨p,ns.map V.int,rfl,hS,kW (fun x=>by simp[Rep]) ns⟩
end
end L2
namespace DE
open PySem
def Ls{α:Type}(m:Nat)(h:Nat->α):List α:=(List.range m).map h
theorem aY{α:Type}{m:Nat}{h:Nat->α}:(Ls m h).length=m:=by simp[Ls]
theorem cI{α:Type}{m i:Nat}{h:Nat->α}(hi:i<m):(Ls m h)[i]?=some (h i):=by simp[Ls,hi]
theorem rD{α:Type}{m:Nat}{h g:Nat->α}(e:∀ i,i<m->h i=g i):Ls m h=Ls m g:=by
 unfold Ls
 exact List.map_congr_left fun i hi=>e i (List.mem_range.mp hi)
theorem xr{α β:Type}{m:Nat}{h:Nat->α}{f:α->β}:(Ls m h).map f=Ls m fun i=>f (h i):=by
 unfold Ls;rw[List.map_map];rfl
theorem Kq{α β:Type}{m:Nat}{h:Nat->α}{g:Nat->β}:(Ls m h).zip (Ls m g)=Ls m fun i=>(h i,g i):=by
 apply List.ext_getElem?
 intro i
 by_cases hi:i<m
 ·rw[cI hi,List.getElem?_zip_eq_some]
  exact⟨cI hi,cI hi⟩
 ·rw[List.getElem?_eq_none (by rw[List.length_zip,aY,aY];omega),List.getElem?_eq_none (by rw[aY];omega)]
theorem xq{α:Type}{m:Nat}{h:Nat->α}:Ls (m+1) h=Ls m h++[h m]:=by
 unfold Ls;rw[List.range_succ,List.map_append];rfl
theorem xg{α:Type}{m k:Nat}{h:Nat->α}(hk:k<=m):(Ls m h).take k=Ls k h:=by
 apply List.ext_getElem?
 intro i
 rw[List.getElem?_take]
 split
 ·rw[cI (by omega),cI (by omega)]
 ·rw[List.getElem?_eq_none (by rw[aY];omega)]
theorem GF{α:Type}{m k:Nat}{h:Nat->α}:(Ls m h).drop k=Ls (m-k) fun i=>h (k+i):=by
 apply List.ext_getElem?
 intro i
 rw[List.getElem?_drop]
 by_cases hi:k+i<m
 ·rw[cI hi,cI (by omega)]
 ·rw[List.getElem?_eq_none (by rw[aY];omega),List.getElem?_eq_none (by rw[aY];omega)]
theorem BL{m:Nat}{h:Nat->D}{j:Nat}(hj:j<m):atD (Ls m h) (j:Int)=some (h j):=by
 unfold atD ixD
 rw[aY,if_pos (by omega),if_pos (by omega)]
 simp[cI hj]
theorem wW{l:List D}{j:Nat}{d:D}(h:l[j]?=some d):atD l (j:Int)=some d:=by
 have hj:=(List.getElem?_eq_some_iff.mp h).1
 unfold atD ixD
 rw[if_pos (by omega),if_pos (by omega)]
 simpa using h
theorem uK{lo hi:Int}:cB lo hi=Ls (hi-lo).toNat fun k=>.int (lo+(k:Int)):=rfl
theorem uL{n:Nat}:cB 0 (n:Int)=Ls n fun k=>.int (k:Int):=by
 unfold cB Ls
 simp
def Xv(cx:Cxt)(sc:Scope)(ρ:Rho)(x:Str):Option D:=if aA x then(match sc.names.lookup x with
        | some .local=>(match ρ.lookup x with | some (.sh d)=>some d | _=>none)
        | some .cell=>(match ρ.lookup x with | some (.sh d)=>some d | _=>none)
        | some .free=>(match ρ.lookup x with | some (.sh d)=>some d | _=>none)
        | some .globalImplicit=>cx.cst.lookup x
        | _=>none) else none
def X3(c:Const):Option D:=(match c with
        | .none=>some .non
        | .bool b=>some (.bl b)
        | .int i=>some (.int i)
        | .str x=>some (.str x)
        | _=>none)
section
variable {cx:Cxt} {n:Nat} {sc scope:Scope} {ρ:Rho} {a b c e:Expr} {es:List Expr} {p q:Pos} {x y z d:D} {ds:List D} {nm:Str} {op op':CmpOp}
theorem xName(h:Xv cx sc ρ nm=some d):ev cx (n+1) sc ρ (.Name nm p)=some d:=h
theorem aq{k:Const}{j:Nat}(h:X3 k=some d):ev cx (n+1) sc ρ (.Constant k j p)=some d:=h
theorem bR{o:Operator}(h1:ev cx n sc ρ a=some x)(h2:ev cx n sc ρ b=some y)(h:binop o x y=some d):ev cx (n+1) sc ρ (.BinOp a o b p)=some d:=by
 simp only[ev,h1,h2];exact h
theorem K4{t:Bool}(h1:ev cx n sc ρ a=some (.bl t)):ev cx (n+1) sc ρ (.UnaryOp .Not a p)=some (.bl (!t)):=by
 simp only[ev,h1];rfl
theorem eU(h1:ev cx n sc ρ a=some (.bl true)):ev cx (n+1) sc ρ (.UnaryOp .Not a p)=some (.bl false):=K4 h1
theorem Hf(h1:ev cx n sc ρ a=some (.bl false)):ev cx (n+1) sc ρ (.UnaryOp .Not a p)=some (.bl true):=K4 h1
theorem K5{i:Int}(h1:ev cx n sc ρ a=some (.int i)):ev cx (n+1) sc ρ (.UnaryOp .USub a p)=some (.int (-i)):=by
 simp only[ev,h1];rfl
theorem jD(h1:ev cx n sc ρ a=some (.bl true))(h2:bY .And (ev cx n sc ρ) (b::es)=some d):bY .And (ev cx n sc ρ) (a::b::es)=some d:=by
 simp only[bY,h1];exact h2
theorem tY(h1:ev cx n sc ρ a=some (.bl false)):bY .And (ev cx n sc ρ) (a::b::es)=some (.bl false):=by
 simp only[bY,h1];rfl
theorem tX(h1:ev cx n sc ρ a=some (.bl false))(h2:bY .Or (ev cx n sc ρ) (b::es)=some d):bY .Or (ev cx n sc ρ) (a::b::es)=some d:=by
 simp only[bY,h1];exact h2
theorem WR(h1:ev cx n sc ρ a=some (.bl true)):bY .Or (ev cx n sc ρ) (a::b::es)=some (.bl true):=by
 simp only[bY,h1];rfl
theorem mG{o:BoolOp}(h1:ev cx n sc ρ a=some d):bY o (ev cx n sc ρ) [a]=some d:=h1
theorem dU{o:BoolOp}(h:bY o (ev cx n sc ρ) es=some d):ev cx (n+1) sc ρ (.BoolOp o es p)=some d:=h
theorem cg(h1:ev cx n sc ρ a=some x)(h2:ev cx n sc ρ b=some y)(h:cmpop op x y=some d):ev cx (n+1) sc ρ (.Compare a [op] [b] p)=some d:=by
 simp only[ev,h1,h2];exact h
theorem Hl(h1:ev cx n sc ρ a=some x)(h2:ev cx n sc ρ b=some y)(h:cmpop op x y=some (.bl true))(h3:ev cx n sc ρ c=some z)(h4:cmpop op' y z=some d)(hp:aD c=true:=by rfl):ev cx (n+1) sc ρ (.Compare a [op,op'] [b,c] p)=some d:=by
 simp only[ev,h1,h2,h3,hp]
 show((cmpop op x y).bind asB).bind _=_
 rw[h];exact h4
theorem Hh(h1:ev cx n sc ρ c=some (.bl true))(h2:ev cx n sc ρ a=some d):ev cx (n+1) sc ρ (.IfExp c a b p)=some d:=by
 simp only[ev,h1];exact h2
theorem Hj(h1:ev cx n sc ρ c=some (.bl false))(h2:ev cx n sc ρ b=some d):ev cx (n+1) sc ρ (.IfExp c a b p)=some d:=by
 simp only[ev,h1];exact h2
theorem aX{f:Expr->Option D}:jK f []=some []:=rfl
theorem aj{f:Expr->Option D}(h1:f a=some x)(h2:jK f es=some ds):jK f (a::es)=some (x::ds):=by
 simp only[jK,h1,h2];rfl
theorem mF{j:Nat}(h1:jK (ev cx n sc ρ) es=some ds)(hz:szl ds.length=true):ev cx (n+1) sc ρ (.Tuple es j p)=some (.tup ds):=by
 simp only[ev,h1]
 show(if szl ds.length=true then _ else _)=_
 rw[if_pos hz]
theorem Td(h1:jK (ev cx n sc ρ) es=some ds)(hz:szl ds.length=true):ev cx (n+1) sc ρ (.List es p)=some (.lst ds):=by
 simp only[ev,h1]
 show(if szl ds.length=true then _ else _)=_
 rw[if_pos hz]
theorem Cr{x:D}{i:Int}{xs:List D}(h:items x=some xs):KH x (.int i)=atD xs i:=by cases x<;>simp[items] at h<;>subst h<;>rfl
theorem xIx{i:Int}{xs:List D}(h1:ev cx n sc ρ a=some x)(h2:ev cx n sc ρ b=some (.int i))(h3:items x=some xs)(h4:atD xs i=some d)(hs:aD b=true:=by rfl):ev cx (n+1) sc ρ (.Subscript a b p)=some d:=by
 simp only[ev,h1]
 show Option.bind _ _=_
 cases b<;>first | (simp[aD] at hs;done) | (simp only[h2];show KH x (.int i)=some d;rw[Cr h3];exact h4)
def oI(cx:Cxt)(n:Nat)(sc:Scope)(ρ:Rho):Option Expr->Option (Option Int)
 | none=>some none
 | some e=>(ev cx n sc ρ e).bind fun d=>(asI d).map some
theorem xSl{xs:List D}{lo hi:Option Expr}{l u:Option Int}(h1:ev cx n sc ρ a=some (.tup xs))(h2:oI cx n sc ρ lo=some l)(h3:oI cx n sc ρ hi=some u)(h4:(iQ xs.length 0 l==0&&iQ xs.length xs.length u==xs.length)=false) :
  ev cx (n+1) sc ρ (.Subscript a (.Slice lo hi none q) p)=some (.tup (tD xs l u)):=by
 unfold oI at h2 h3
 simp only[ev,h1,bind,Option.bind_some]
 have e:∀ (A B:Option (Option Int)),A=some l->B=some u->(A.bind fun l=>B.bind fun h=>if(iQ xs.length 0 l==0&&iQ xs.length xs.length h==xs.length)=true then some (D.tup xs) else some (D.tup (tD xs l h)))=some (.tup (tD xs l u)):=by
  intro A B ha hb
  subst ha hb
  simp only[Option.bind_some,h4,Bool.false_eq_true,if_false]
 exact e _ _ h2 h3
theorem Jq:oI cx n sc ρ none=some none:=rfl
theorem Jp{i:Int}(h:ev cx n sc ρ e=some (.int i)):oI cx n sc ρ (some e)=some (some i):=by
 simp only[oI,h];rfl
theorem GK{t:Expr}{T:String}(hg:bC cx sc nm=some "isinstance")(ht:tyOf cx sc t=some T)(hk:fV T=true)(h1:ev cx n sc ρ a=some x)(h:Bk T x=c')(hxo:xOf cx sc t=none:=by rfl)(hne:isExc x=false:=by rfl):ev cx (n+1) sc ρ (.Call (.Name nm q) [a,t] [] p)=some (.bl c'):=by
 unfold bC at hg
 split at hg
 ·rename_i hgl
  subst h
  simp only[ev,hgl,hg,h1,ht,if_true,hxo,bind,Option.bind_some]
  cases x<;>first | (show(if fV T=true then _ else _)=_;rw[if_pos hk]) | exact absurd hne (by simp[isExc])
 ·cases hg
theorem dH{B:String}(hg:bC cx sc nm=some B)(hw:Hr cx sc B es=.al)(hn:(B=="isinstance"||es.isEmpty)=false)(h1:jK (ev cx n sc ρ) es=some ds)(h:blt B ds=some d):ev cx (n+1) sc ρ (.Call (.Name nm q) es [] p)=some d:=by
 rw[Bool.or_eq_false_iff] at hn
 unfold bC at hg
 split at hg
 ·rename_i hgl
  simp only[ev,hgl,hg,if_true]
  split
  ·rename_i he;cases he;simp at hn
  ·rename_i he;cases he
   simp only[hw,hn.2,h1,Bool.false_eq_true,if_false]
   exact h
  ·rename_i he;cases he
 ·cases hg
def isFn(cx:Cxt)(sc:Scope)(nm:Str)(es:List Expr):Bool:=nu cx sc nm&&(cx.blt.lookup nm).isNone&&cx.fns.contains nm && !es.isEmpty
theorem aH(hf:isFn cx sc nm es=true)(h1:jK (ev cx n sc ρ) es=some ds)(h:cx.call nm ds=some d):ev cx (n+1) sc ρ (.Call (.Name nm q) es [] p)=some d:=by
 unfold isFn at hf
 rw[Bool.and_eq_true,Bool.and_eq_true,Bool.and_eq_true] at hf
 obtain⟨⟨⟨h2,h3⟩,h4⟩,h5⟩:=hf
 have h3':cx.blt.lookup nm=none:=by simpa using h3
 simp only[ev,h2,h3',h4,h5,Bool.and_self,if_true,h1]
 exact h
theorem wR1{tup:Bool}{j:Int}(hw:rG cx sc e=.r1 a)(h1:ev cx n sc ρ a=some (.int j))(hz:dh j=true):evI cx tup (ev cx n sc ρ) sc e=some (cB 0 j):=by
 unfold evI
 rw[hw]
 simp only[h1,Option.bind_some,asI]
 show(if dh j=true then _ else _)=_
 rw[if_pos hz]
theorem wR2{tup:Bool}{i j:Int}(hw:rG cx sc e=.r2 a b)(h1:ev cx n sc ρ a=some (.int i))(h2:ev cx n sc ρ b=some (.int j))(hz:(dh i&&dh j)=true):evI cx tup (ev cx n sc ρ) sc e=some (cB i j):=by
 unfold evI
 rw[hw]
 simp only[h1,h2,Option.bind_some,asI]
 show(if(dh i&&dh j)=true then _ else _)=_
 rw[if_pos hz]
theorem wZp{xs ys:List D}(hw:rG cx sc e=.zp a b)(h1:ev cx n sc ρ a=some (.tup xs))(h2:ev cx n sc ρ b=some (.tup ys)):evI cx true (ev cx n sc ρ) sc e=some ((xs.zip ys).map fun q=>.tup [q.1,q.2]):=by
 unfold evI
 rw[hw]
 simp only[h1,h2,bind,Option.bind_some]
 rfl
theorem wEn{xs:List D}(hw:rG cx sc e=.en a)(h1:ev cx n sc ρ a=some (.tup xs)):evI cx true (ev cx n sc ρ) sc e=some (enD xs):=by
 unfold evI
 rw[hw]
 simp only[h1,bind,Option.bind_some]
 rfl
theorem wSq{tup:Bool}{xs:List D}(hw:rG cx sc e=.sq)(h1:ev cx n sc ρ e=some x)(h2:items x=some xs):evI cx tup (ev cx n sc ρ) sc e=some xs:=by
 unfold evI
 rw[hw]
 simp only[h1,Option.bind_some]
 exact h2
theorem aW{f:D->Option (Option D)}{h g:Nat->D}:∀ {m:Nat},(∀ i,i<m->f (h i)=some (some (g i)))->bJ f (Ls m h)=some (Ls m g):=by
  have key:∀ (l:List Nat),(∀ i∈l,f (h i)=some (some (g i)))->bJ f (l.map h)=some (l.map g):=by
    intro l
    induction l with
    | nil=>intro _;rfl
    | cons i r ih =>
      intro hi
      simp only[List.map_cons,bJ,hi i List.mem_cons_self,ih fun j hj=>hi j (List.mem_cons_of_mem _ hj)]
      rfl
  intro m hm
  exact key _ fun i hi=>hm i (List.mem_range.mp hi)
def cF(cx:Cxt)(n:Nat)(sc scope:Scope)(ρ:Rho)(tg elt:Expr)(ifs:List Expr):D->Option (Option D):=fun d=>do
 let ρ1 <- fL scope tg d (bF scope ρ)
 let b <- lH (ev cx n (jC scope sc) ρ1) ifs
 if b then(ev cx n (jC scope sc) ρ1 elt).map some else some none
theorem cG{tg elt:Expr}{ρ1:Rho}(h1:fL scope tg x (bF scope ρ)=some ρ1)(h2:ev cx n (jC scope sc) ρ1 elt=some d):cF cx n sc scope ρ tg elt [] x=some (some d):=by
 simp only[cF,h1,lH]
 show Option.map some (ev cx n (jC scope sc) ρ1 elt)=_
 rw[h2];rfl
theorem Gw{tg elt:Expr}{ρ1:Rho}{t:Bool}(h1:fL scope tg x (bF scope ρ)=some ρ1)(h3:ev cx n (jC scope sc) ρ1 c=some (.bl t))(h2:ev cx n (jC scope sc) ρ1 elt=some d):cF cx n sc scope ρ tg elt [c] x=some (if t then some d else none):=by
 simp only[cF,h1,lH,h3,h2,bind,Option.bind_some,asB]
 cases t<;>rfl
theorem cu{tg elt iter:Expr}{ifs:List Expr}{l out:List D}(hok:fQ sc scope=true)(hI:evI cx (fu tg) (ev cx n sc ρ) sc iter=some l)(hz:szl l.length=true)(hgo:bJ (cF cx n sc scope ρ tg elt ifs) l=some out) :
  ev cx (n+1) sc ρ (.ListComp elt [⟨tg,iter,ifs,0⟩] scope p)=some (.lst out):=by
 simp only[ev,hok,hI]
 show(if szl l.length=true then(bJ (cF cx n sc scope ρ tg elt ifs) l).bind (fun out=>some (D.lst out)) else none)=some (D.lst out)
 rw[if_pos hz,hgo]
 rfl
variable {F:Nat} {f:Rho->Stmt->Option Fl} {r:List Stmt} {fl:Fl} {m:Nat}
abbrev blk(cx:Cxt)(F m:Nat)(sc:Scope):List Stmt->Rho->Option Fl:=jF (fun ρ s=>st cx F m sc ρ s)
theorem dB:blk cx F m sc [] ρ=some (.nxt ρ):=rfl
def rQ(cx:Cxt)(F m:Nat)(sc:Scope)(r:List Stmt):Fl->Option Fl
 | .ret d=>some (.ret d)
 | .nxt ρ'=>blk cx F m sc r ρ'
theorem gSt{s:Stmt}{fl1:Fl}(h:st cx F m sc ρ s=some fl1)(k:rQ cx F m sc r fl1=some fl):blk cx F m sc (s::r) ρ=some fl:=by
 show(st cx F m sc ρ s).bind _=_
 rw[h]
 cases fl1<;>exact k
theorem cN(h:ev cx F sc (frz F e ρ) e=some d):blk cx F (m+1) sc (.Return (some e) p::r) ρ=some (.ret d):=by
 refine gSt (fl1:=.ret d) ?_ rfl
 simp only[st,h];rfl
theorem zq{px:Pos}(ho:(ownIn sc nm&&(ρ.map (·.1)).contains nm)=true)(h:ev cx F sc (frz F e ρ) e=some d)(k:blk cx F (m+1) sc r (cD (frz F e ρ) nm (kj e d))=some fl)(hoo:(ooE cx sc e&&jH (frz F e ρ) nm)=false:=by rfl)(hno:(bf e && !xM (frz F e ρ) nm)=false:=by rfl)(hle:Bh cx sc e=false:=by rfl):blk cx F (m+1) sc (.Assign [.Name nm px] e p::r) ρ=some fl:=by
 refine gSt (fl1:=.nxt _) ?_ k
 simp only[st,h,if_pos ho,hoo,hno,hle,Bool.false_and,Bool.false_eq_true,if_false];rfl
theorem J1{px:Pos}{ρ':Rho}{dss:List (List D)}(hf:frz F e ρ=ρ')(ho:(ownIn sc nm&&(ρ.map (·.1)).contains nm)=true)(h:ev cx F sc ρ' e=some d)(hd:yN d=some dss)(hoo:(ooE cx sc e&&jH ρ' nm)=true)(k:blk cx F (m+1) sc r (cD ρ' nm (.oo dss))=some fl):blk cx F (m+1) sc (.Assign [.Name nm px] e p::r) ρ=some fl:=by
 subst hf
 refine gSt (fl1:=.nxt _) ?_ k
 simp only[st,h,if_pos ho,if_pos hoo,Option.bind_some,hd,Option.map_some]
theorem RZ{px tp tp2:Pos}{i1 i2:Expr}{dss:List (List D)}{ds:List D}{j1 j2:Int}{n1 n2:Nat}(hx:ρ.lookup nm=some (.oo dss))(ho:(ownIn sc nm&&aA nm && !bf e)=true)(h:ev cx F sc (frz F e ρ) e=some d)(h1:ev cx F sc (frz F i1 ρ) i1=some (.int j1))(h2:ixD dss.length j1=some n1)(h3:dss[n1]?=some ds)(h4:ev cx F sc (frz F i2 ρ) i2=some (.int j2))(h5:ixD ds.length j2=some n2)(h6:o9 d=true)(k:blk cx F (m+1) sc r (cD ρ nm (.oo (dss.set n1 (ds.set n2 d))))=some fl):blk cx F (m+1) sc (.Assign [.Subscript (.Subscript (.Name nm px) i1 tp) i2 tp2] e p::r) ρ=some fl:=by
 refine gSt (fl1:=.nxt _) ?_ k
 simp only[st,hx,ho,if_true,h,h1,h2,h3,h4,h5,h6,asI,bind,Option.bind_some]
theorem gTup{es:List Expr}{j:Nat}{ρ':Rho}{l:List D}(hs:(swp sc es e).isSome=true)(h:ev cx F sc (frz F e ρ) e=some d)(hl:items d=some l)(hb:bindNames sc es l (frz F e ρ)=some ρ')(k:blk cx F (m+1) sc r ρ'=some fl):blk cx F (m+1) sc (.Assign [.Tuple es j q] e p::r) ρ=some fl:=by
 refine gSt (fl1:=.nxt _) ?_ k
 simp only[st,h,hs,Bool.true_or,if_true,hl,bind,Option.bind_some,hb,Option.map_some]
def G7:Expr->Bool
 | .Call (.Name ..) _ _ _=>true
 | _=>false
theorem zj(hx:G7 e=true)(h:ev cx F sc (frz F e ρ) e=some d)(k:blk cx F (m+1) sc r (frz F e ρ)=some fl):blk cx F (m+1) sc (.Expr e p::r) ρ=some fl:=by
 unfold G7 at hx
 split at hx
 ·refine gSt (fl1:=.nxt _) ?_ k
  simp only[st,h,Option.map_some]
 ·cases hx
theorem Wt{px ap cp:Pos}{M:Str}{ds:List D}(hx:(frz F e ρ).lookup nm=some (.ow ds))(ho:(ownIn sc nm&&aA nm&&ap.endLine==cp.line)=true)(hM:(M=="append")=true)(hz:szl (ds.length+1)=true)(h:ev cx F sc (frz F e ρ) e=some d)(k:blk cx F (m+1) sc r (cD (frz F e ρ) nm (.ow (ds++[d])))=some fl) :
  blk cx F (m+1) sc (.Expr (.Call (.Attribute (.Name nm px) M ap) [e] [] cp) p::r) ρ=some fl:=by
 refine gSt (fl1:=.nxt _) ?_ k
 simp only[st,hx,ho,hM,hz,Bool.and_self,if_true,h,Option.map_some]
theorem Ws{px ap cp:Pos}{M:Str}{ds zs:List D}(hx:(frz F e ρ).lookup nm=some (.ow ds))(ho:(ownIn sc nm&&aA nm&&ap.endLine==cp.line)=true)(hM:(M=="append")=false)(hM2:(M=="extend")=true)(hz:szl (ds.length+zs.length)=true)(h:ev cx F sc (frz F e ρ) e=some (.lst zs))(k:blk cx F (m+1) sc r (cD (frz F e ρ) nm (.ow (ds++zs)))=some fl) :
  blk cx F (m+1) sc (.Expr (.Call (.Attribute (.Name nm px) M ap) [e] [] cp) p::r) ρ=some fl:=by
 refine gSt (fl1:=.nxt _) ?_ k
 simp only[st,hx,ho,hM,hM2,Bool.false_and,Bool.false_eq_true,if_false,if_true,h,bind,Option.bind_some,hz]
theorem EY{A B:List Stmt}{fl1:Fl}(h:ev cx F sc (frz F c ρ) c=some (.bl true))(k:blk cx F m sc A (frz F c ρ)=some fl1)(k2:rQ cx F (m+1) sc r fl1=some fl):blk cx F (m+1) sc (.If c A B p::r) ρ=some fl:=by
 refine gSt ?_ k2
 have k':jF (fun ρ s=>st cx F m sc ρ s) A (frz F c ρ)=some fl1:=k
 simp only[st,h,bind,Option.bind_some,asB,if_true,k']
theorem R3{A B:List Stmt}{fl1:Fl}(h:ev cx F sc (frz F c ρ) c=some (.bl false))(k:blk cx F m sc B (frz F c ρ)=some fl1)(k2:rQ cx F (m+1) sc r fl1=some fl):blk cx F (m+1) sc (.If c A B p::r) ρ=some fl:=by
 refine gSt ?_ k2
 have k':jF (fun ρ s=>st cx F m sc ρ s) B (frz F c ρ)=some fl1:=k
 simp only[st,h,bind,Option.bind_some,asB,Bool.false_eq_true,if_false,k']
theorem sU{A:List Stmt}(h:ev cx F sc (frz F c ρ) c=some (.bl false))(k:blk cx F (m+1) sc r (frz F c ρ)=some fl):blk cx F (m+1) sc (.If c A [] p::r) ρ=some fl :=
 R3 h dB k
theorem qR{f:D->Rho->Option Fl}{h:Nat->D}{R:Nat->Rho}{N:Nat}(hs:∀ i,i<N->f (h i) (R i)=some (.nxt (R (i+1)))):dG f (Ls N h) (R 0)=some (.nxt (R N)):=by
  have key:∀ (j i:Nat),i+j=N->dG f ((List.range' i j).map h) (R i)=some (.nxt (R N)):=by
    intro j
    induction j with
    | zero => intro i hi; have : i = N := by omega
              subst this;rfl
    | succ j ih =>
      intro i hi
      rw[List.range'_succ,List.map_cons]
      simp only[dG,hs i (by omega)]
      exact ih (i+1) (by omega)
  have:=key N 0 (by omega)
  rw[<- List.range_eq_range'] at this
  exact this
def fF(cx:Cxt)(F m:Nat)(sc:Scope)(tg:Expr)(body:List Stmt):D->Rho->Option Fl:=fun d ρ=>do let ρ1 <- fL sc tg d ρ;jF (fun ρ s=>st cx F m sc ρ s) body ρ1
theorem jr{tg:Expr}{body:List Stmt}{ρ1:Rho}(h1:fL sc tg d ρ=some ρ1)(h2:blk cx F m sc body ρ1=some fl):fF cx F m sc tg body d ρ=some fl:=by
 have h2':jF (fun ρ s=>st cx F m sc ρ s) body ρ1=some fl:=h2
 simp only[fF,h1];exact h2'
theorem J2{tg iter:Expr}{body:List Stmt}{l:List D}{fl1:Fl}(hI:evI cx (fu tg) (ev cx F sc (frz F iter ρ)) sc iter=some l)(hgo:dG (fF cx F m sc tg body) l (frz F iter ρ)=some fl1)(k2:rQ cx F (m+1) sc r fl1=some fl):blk cx F (m+1) sc (.For tg iter body [] p::r) ρ=some fl:=by
 refine gSt ?_ k2
 have hgo':dG (fun d ρ=>(fL sc tg d ρ).bind fun ρ1=>jF (fun ρ s=>st cx F m sc ρ s) body ρ1) l (frz F iter ρ)=some fl1:=hgo
 simp only[st,hI,bind,Option.bind_some,hgo']
theorem oY{c:Expr}{body:List Stmt}{ρ2:Rho}(hgo:pN (fun ρ=>((ev cx F sc (frz F c ρ) c).bind asB).map fun b=>(frz F c ρ,b)) (fun ρ=>blk cx F m sc body ρ) 10000000000000000000000000000000000000000000000000000000000000000000000000000000000000000000000000000 ρ=some (.nxt ρ2))(k2:blk cx F (m+1) sc r ρ2=some fl):blk cx F (m+1) sc (.While c body [] p::r) ρ=some fl:=by
 refine gSt (fl1:=.nxt ρ2) ?_ k2
 have hgo':pN (fun ρ=>((ev cx F sc (frz F c ρ) c).bind asB).map fun b=>(frz F c ρ,b)) (fun ρ=>jF (fun ρ s=>st cx F m sc ρ s) body ρ) 10000000000000000000000000000000000000000000000000000000000000000000000000000000000000000000000000000 ρ=some (.nxt ρ2):=hgo
 simp only[st,hgo']
theorem tZ{f:Rho->Option Fl}{c:Expr}{N:Nat}{ρ1 ρ2:Rho}(hc:frz F c ρ=ρ1)(h:ev cx F sc ρ1 c=some (.bl true))(hf:f ρ1=some (.nxt ρ2))(k:pN (fun ρ=>((ev cx F sc (frz F c ρ) c).bind asB).map fun b=>(frz F c ρ,b)) f N ρ2=some fl):pN (fun ρ=>((ev cx F sc (frz F c ρ) c).bind asB).map fun b=>(frz F c ρ,b)) f (N+1) ρ=some fl:=by
 subst hc
 simp only[pN,h,Option.bind_some,asB,Option.map_some,if_true,hf]
 exact k
theorem jO{f:Rho->Option Fl}{c:Expr}{N:Nat}{ρ1:Rho}(hc:frz F c ρ=ρ1)(h:ev cx F sc ρ1 c=some (.bl false)):pN (fun ρ=>((ev cx F sc (frz F c ρ) c).bind asB).map fun b=>(frz F c ρ,b)) f (N+1) ρ=some (.nxt ρ1):=by
 subst hc
 simp only[pN,h,Option.bind_some,asB,Option.map_some,Bool.false_eq_true,if_false]
abbrev cxN(P:Pg)(F k:Nat):Cxt:=⟨P.cst,P.blt,P.defs.map (·.1),P.exs,P.top,true,aK P F k,Gv P F k⟩
theorem Kl{P:Pg}{k:Nat}:P.cx (eV P F k)=cxN P F k:=by
 have e1:aK P F k=fun f ds=>Rs.val? (eV P F k f ds):=by funext f ds;exact gO
 have e2:Gv P F k=fun f ds=>Rs.exc? (eV P F k f ds):=by funext f ds;exact zY
 unfold cxN
 rw[e1,e2]
 rfl
theorem cj{P:Pg}{k:Nat}{f:Str}{fd:Fd}(hf:P.defs.lookup f=some fd)(hl:(ds.length==fd.ps.length)=true)(h:blk (cxN P F k) F F fd.sc fd.body (cH fd ds)=some (.ret d)):aK P F (k+1) f ds=some d:=by
 have h':jF (fun ρ s=>st (cxN P F k) F F fd.sc ρ s) fd.body (cH fd ds)=some (.ret d):=h
 rw[gO]
 simp only[lX,hf,hl,if_true,pD,Kl,h',Rs.val?]
theorem tV{P:Pg}{k:Nat}{f:Str}{fd:Fd}{ρ':Rho}(hf:P.defs.lookup f=some fd)(hl:(ds.length==fd.ps.length)=true)(h:blk (cxN P F k) F F fd.sc fd.body (cH fd ds)=some (.nxt ρ')):aK P F (k+1) f ds=some .non:=by
 have h':jF (fun ρ s=>st (cxN P F k) F F fd.sc ρ s) fd.body (cH fd ds)=some (.nxt ρ'):=h
 rw[gO]
 simp only[lX,hf,hl,if_true,pD,Kl,h',Rs.val?]
end
end DE
namespace DE
open PySem
abbrev row(n:Nat)(f:Nat->Int):D:=.tup (Ls n fun j=>.int (f j))
abbrev tbl(m n:Nat)(f:Nat->Nat->Int):D:=.tup (Ls m fun i=>.tup (Ls n fun j=>.int (f i j)))
def xJ:Nat->(Nat->Int)->Int
 | 0,_=>0
 | n+1,f=>xJ n f+f n
theorem Gz{f:Nat->Int}:∀ {n:Nat},iI (Ls n fun i=>D.int (f i))=some (Ls n f):=by
 have key:∀ l:List Nat,iI (l.map fun i=>D.int (f i))=some (l.map f):=by
  intro l
  induction l with
  | nil=>rfl
  | cons a r ih=>simp only[List.map_cons,iI,ih];rfl
 intro n
 exact key _
theorem Ab{f:Nat->Int}:∀ {n:Nat},(Ls n f).sum=xJ n f
 | 0=>rfl
 | n+1=>by rw[xq,List.sum_append,Ab];simp[xJ]
theorem Sw{n:Nat}{h:Nat->D}:blt "len" [.tup (Ls n h)]=some (.int (n:Int)):=by
 show some (D.int ((Ls n h).length:Int))=_
 rw[aY]
theorem WK{n:Nat}{f:Nat->Int}:blt "sum" [.lst (Ls n fun i=>.int (f i))]=some (.int (xJ n f)):=by
 show(iI (Ls n fun i=>D.int (f i))).bind (fun is=>some (D.int is.sum))=_
 rw[Gz,Option.bind_some,Ab]
theorem pG{l:List D}:blt "tuple" [.lst l]=some (.tup l):=rfl
theorem mz{n:Nat}(h:n<=100000):szl n=true:=by unfold szl;exact decide_eq_true h
theorem dY{α:Type}{n:Nat}{h:Nat->α}(hn:n<=100000):szl (Ls n h).length=true:=by rw[aY];exact mz hn
theorem Xa{n:Nat}(h:n<=100000):dh (n:Int)=true:=by
 unfold dh
 rw[decide_eq_true (by omega),decide_eq_true (by omega)];rfl
theorem oLe{i j:Int}(h:i<=j):cmpop .LtE (.int i) (.int j)=some (.bl true):=by
 show some (D.bl (decide (i<=j)))=_
 rw[decide_eq_true h]
theorem oLt{i j:Int}(h:i<j):cmpop .Lt (.int i) (.int j)=some (.bl true):=by
 show some (D.bl (decide (i<j)))=_
 rw[decide_eq_true h]
theorem Mx{i j:Int}(h:¬ i<j):cmpop .Lt (.int i) (.int j)=some (.bl false):=by
 show some (D.bl (decide (i<j)))=_
 rw[decide_eq_false h]
theorem G3{i j:Int}(h:i=j):cmpop .Eq (.int i) (.int j)=some (.bl true):=by
 subst h
 show some (D.bl (i==i))=_
 rw[beq_self_eq_true]
theorem G4{i j:Int}(h:i≠j):cmpop .Eq (.int i) (.int j)=some (.bl false):=by
 show some (D.bl (i==j))=_
 rw[beq_eq_false_iff_ne.mpr h]
theorem Tt{i j:Int}(h:i=j):cmpop .NotEq (.int i) (.int j)=some (.bl false):=by
 subst h
 show some (D.bl (!(i==i)))=_
 rw[beq_self_eq_true];rfl
theorem rA{i j:Int}(h:small i=true\/small j=true):binop .Mult (.int i) (.int j)=some (.int (i*j)):=by
 show(if(small i||small j||(mid i&&mid j))=true then _ else _)=_
 rw[if_pos (by rw[Bool.or_eq_true,Bool.or_eq_true];exact .inl h)]
theorem G6{i j:Int}(h:0<j):binop .Mod (.int i) (.int j)=some (.int (i%j)):=by
 show(if decide (0<j)=true then _ else _)=_
 rw[if_pos (decide_eq_true h)]
theorem X6{i j:Int}(h:0<j)(h':j<1073741824):binop .FloorDiv (.int i) (.int j)=some (.int (i / j)):=by
 show(if(decide (0<j)&&decide (j<1073741824))=true then _ else _)=_
 rw[if_pos (by rw[decide_eq_true h,decide_eq_true h'];rfl)]
mutual
theorem wg:∀ d:D,dep d<1000->deq d d=true
 | .non,_=>rfl
 | .bl b,_=>by simp[deq]
 | .int i,_=>by simp[deq]
 | .str x,_=>by simp[deq]
 | .tup xs,h=>by simp only[deq];exact lO xs (by simp only[dep] at h;omega)
 | .lst xs,h=>by simp only[deq];exact lO xs (by simp only[dep] at h;omega)
 | .exc c,h=>absurd h (by simp[dep])
 | .dic _ _,h=>absurd h (by simp[dep])
theorem lO:∀ ds:List D,deps ds<1000->nH ds ds=true
  | [],_=>rfl
  | d :: ds, h => by
    simp only[deps] at h
    simp only[nH,wg d (by omega),lO ds (by omega),Bool.and_self]
end
theorem oEq{x y:D}(h1:dep x<=50)(h2:dep y<=50):cmpop .Eq x y=some (.bl (deq x y)):=by
 show(if(decide (dep x<=50)&&decide (dep y<=50))=true then some (D.bl (deq x y)) else none)=_
 rw[decide_eq_true h1,decide_eq_true h2];rfl
theorem oNe{x y:D}(h1:dep x<=50)(h2:dep y<=50):cmpop .NotEq x y=some (.bl (!deq x y)):=by
 show(if(decide (dep x<=50)&&decide (dep y<=50))=true then some (D.bl (!deq x y)) else none)=_
 rw[decide_eq_true h1,decide_eq_true h2];rfl
theorem jw{b:Nat}:∀ {l:List D},(∀ d∈l,dep d<=b)->deps l<=b
  | [],_=>Nat.zero_le _
  | d :: r, h => by
    simp only[deps]
    exact Nat.max_le.mpr ⟨h d List.mem_cons_self,jw fun e he=>h e (List.mem_cons_of_mem _ he)⟩
theorem Gj{n:Nat}{f:Nat->Int}:dep (row n f)<=1:=by
 simp only[dep]
 have:=jw (b:=0) (l:=Ls n fun j=>D.int (f j)) fun d hd=>by
  unfold Ls at hd
  obtain⟨i,_,rfl⟩:=List.mem_map.mp hd
  simp[dep]
 omega
theorem wk{m n:Nat}{f:Nat->Nat->Int}:dep (tbl m n f)<=2:=by
 simp only[dep]
 have:=jw (b:=1) (l:=Ls m fun i=>D.tup (Ls n fun j=>D.int (f i j))) fun d hd=>by
  unfold Ls at hd
  obtain⟨i,_,rfl⟩:=List.mem_map.mp hd
  exact Gj (f:=f i)
 omega
section
variable {cx:Cxt} {n:Nat} {sc scope:Scope} {ρ:Rho} {a b c e:Expr} {es:List Expr} {p q:Pos} {x y z d:D} {ds:List D} {nm:Str}
theorem GR{tup:Bool}{j:Nat}(hw:rG cx sc e=.r1 a)(h1:ev cx n sc ρ a=some (.int (j:Int)))(hz:j<=100000):evI cx tup (ev cx n sc ρ) sc e=some (Ls j fun k=>.int (k:Int)):=by
 rw[wR1 hw h1 (Xa hz),uL]
theorem Te{m:Nat}{h g:Nat->D}(hw:rG cx sc e=.zp a b)(h1:ev cx n sc ρ a=some (.tup (Ls m h)))(h2:ev cx n sc ρ b=some (.tup (Ls m g))):evI cx true (ev cx n sc ρ) sc e=some (Ls m fun i=>.tup [h i,g i]):=by
 rw[wZp hw h1 h2,Kq,xr]
theorem xu{tup:Bool}{xs:List D}(hw:rG cx sc e=.sq)(h1:ev cx n sc ρ e=some (.tup xs)):evI cx tup (ev cx n sc ρ) sc e=some xs:=wSq hw h1 rfl
theorem Ky{m j:Nat}{h:Nat->D}(h1:ev cx n sc ρ a=some (.tup (Ls m h)))(h2:ev cx n sc ρ b=some (.int (j:Int)))(hj:j<m)(hs:aD b=true)(hd:h j=d):ev cx (n+1) sc ρ (.Subscript a b p)=some d:=hd▸xIx h1 h2 rfl (BL hj) hs
theorem K6{m:Nat}{h:Nat->D}(h1:ev cx n sc ρ a=some (.tup (Ls m h)))(h2:ev cx n sc ρ b=some (.int 0))(hj:0<m)(hs:aD b=true)(hd:h 0=d):ev cx (n+1) sc ρ (.Subscript a b p)=some d:=hd▸xIx h1 h2 rfl (BL (j:=0) hj) hs
end
abbrev plc(q:Nat)(c:Nat->Nat):D:=.tup (Ls q fun j=>.int ((c j:Nat):Int))
theorem Km{m a:Nat}{h:Nat->D}(ha:a<=m):tD (Ls m h) (some (a:Int)) none=Ls (m-a) fun i=>h (a+i):=by
 unfold tD
 have e1:iQ (Ls m h).length 0 (some (a:Int))=a:=by
  unfold iQ
  rw[aY]
  simp only
  rw[if_neg (by omega)]
  omega
 have e2:iQ (Ls m h).length (Ls m h).length none=m:=aY
 rw[e1,e2,GF,xg (Nat.le_refl _)]
theorem Ko{m a:Nat}{h:Nat->D}(ha:a<=m):tD (Ls m h) none (some (a:Int))=Ls a h:=by
 unfold tD
 have e1:iQ (Ls m h).length 0 none=0:=rfl
 have e2:iQ (Ls m h).length (Ls m h).length (some (a:Int))=a:=by
  unfold iQ
  rw[aY]
  simp only
  rw[if_neg (by omega)]
  omega
 rw[e1,e2,List.drop_zero,Nat.sub_zero,xg ha]
section
variable {cx:Cxt} {n:Nat} {sc scope:Scope} {ρ:Rho} {a b c e:Expr} {es:List Expr} {p q:Pos} {x y z d:D} {ds:List D} {nm:Str}
theorem K1{m j:Nat}{h:Nat->D}(h1:ev cx n sc ρ a=some (.tup (Ls m h)))(h2:ev cx n sc ρ b=some (.int (j:Int)))(hj:0<j)(hm:0<m)(hjm:j<=m):ev cx (n+1) sc ρ (.Subscript a (.Slice (some b) none none q) p)=some (.tup (Ls (m-j) fun i=>h (j+i))):=by
 rw[xSl h1 (Jp h2) Jq,Km hjm]
 have:(iQ (Ls m h).length 0 (some (j:Int))==0)=false:=by
  unfold iQ
  rw[aY]
  simp only
  rw[if_neg (by omega)]
  have:min (j:Int).toNat m≠0:=by omega
  exact beq_eq_false_iff_ne.mpr this
 rw[this];rfl
end
theorem Kd{m:Nat}{h:Nat->D}:enD (Ls m h)=Ls m fun i=>.tup [.int (i:Int),h i]:=by
 apply List.ext_getElem?
 intro i
 unfold enD
 rw[List.getElem?_map,List.getElem?_zipIdx]
 by_cases hi:i<m
 ·rw[cI hi,cI hi];simp
 ·rw[List.getElem?_eq_none (by rw[aY];omega),List.getElem?_eq_none (by rw[aY];omega)];rfl
theorem WW{cx:Cxt}{n:Nat}{sc:Scope}{ρ:Rho}{a e:Expr}{m:Nat}{h:Nat->D}(hw:rG cx sc e=.en a)(h1:ev cx n sc ρ a=some (.tup (Ls m h))):evI cx true (ev cx n sc ρ) sc e=some (Ls m fun i=>.tup [.int (i:Int),h i]):=by
 rw[wEn hw h1,Kd]
theorem SN{α β:Type}(d:α)(g:α->β)(l:List α):l.map g=Ls l.length fun i=>g (l.getD i d):=by
 apply List.ext_getElem?
 intro i
 by_cases hi:i<l.length
 ·rw[List.getElem?_map,cI hi,List.getElem?_eq_getElem hi,List.getD_eq_getElem?_getD,List.getElem?_eq_getElem hi];rfl
 ·rw[List.getElem?_eq_none (by rw[List.length_map];omega),List.getElem?_eq_none (by rw[aY];omega)]
end DE
namespace DE
open PySem
theorem Tw{i j:Int}(h:¬ i<=j):cmpop .LtE (.int i) (.int j)=some (.bl false):=by
 show some (D.bl (decide (i<=j)))=_
 rw[decide_eq_false h]
theorem oGt{i j:Int}:cmpop .Gt (.int i) (.int j)=some (.bl (decide (j<i))):=rfl
theorem Tz{i j:Int}:cmpop .LtE (.int i) (.int j)=some (.bl (decide (i<=j))):=rfl
section
variable {cx:Cxt} {n:Nat} {sc scope:Scope} {ρ:Rho} {a b c e:Expr} {es:List Expr} {p q:Pos} {x y z d:D} {ds:List D} {nm:Str} {F m:Nat} {r:List Stmt} {fl:Fl} {op op':CmpOp}
theorem Ho(h1:ev cx n sc ρ a=some x)(h2:ev cx n sc ρ b=some y)(h:cmpop op x y=some (.bl false))(hp:aD c=true:=by rfl):ev cx (n+1) sc ρ (.Compare a [op,op'] [b,c] p)=some (.bl false):=by
 simp only[ev,hp,Bool.not_true,Bool.false_eq_true,if_false,h1,h2,bind,Option.bind_some,h,asB]
theorem R6{px ap cp:Pos}{M:Str}{ds zs:List D}(hx:(frz F e ρ).lookup nm=some (.ow ds))(ho:(ownIn sc nm&&aA nm&&ap.endLine==cp.line)=true)(hM:(M=="append")=false)(hM2:(M=="extend")=true)(hz:szl (ds.length+zs.length)=true)(h:ev cx F sc (frz F e ρ) e=some (.tup zs))(k:blk cx F (m+1) sc r (cD (frz F e ρ) nm (.ow (ds++zs)))=some fl) :
  blk cx F (m+1) sc (.Expr (.Call (.Attribute (.Name nm px) M ap) [e] [] cp) p::r) ρ=some fl:=by
 refine gSt (fl1:=.nxt _) ?_ k
 simp only[st,hx,ho,hM,hM2,Bool.false_and,Bool.false_eq_true,if_false,if_true,h,bind,Option.bind_some,hz]
end
section
variable {cx:Cxt} {n:Nat} {sc scope:Scope} {ρ:Rho} {a b c e:Expr} {es:List Expr} {p q:Pos} {x y z d:D} {ds:List D} {nm:Str} {F m:Nat} {r:List Stmt} {fl:Fl}
end
section
variable {cx:Cxt} {n:Nat} {sc scope:Scope} {ρ:Rho} {a b c e:Expr} {p q:Pos}
end
theorem wu{x:D}:∀ {l:List D},x∈l->dep x<=deps l
  | y :: l, h => by
    simp only[deps]
    rcases List.mem_cons.mp h with rfl | h
    · omega
    · have:=wu h;omega
theorem bN{f:D->Option (Option D)}{g:D->D}:∀ {l:List D},(∀ x∈l,f x=some (some (g x)))->bJ f l=some (l.map g)
  | [],_=>rfl
  | x :: l, h => by
    simp only[bJ,h x List.mem_cons_self,bind,Option.bind_some,bN (l:=l) fun y hy=>h y (List.mem_cons_of_mem _ hy),Option.map_some,List.map_cons]
theorem pH{l:List D}{t:D->Bool}:blt "all" [.lst (l.map fun x=>.bl (t x))]=some (.bl (l.all t)):=by
 have key:∀ l:List D,mq (l.map fun x=>.bl (t x))=some (l.map t):=by
  intro l
  induction l with
  | nil=>rfl
  | cons a r ih=>simp only[List.map_cons,mq,ih];rfl
 show(mq (l.map fun x=>.bl (t x))).bind (fun bs=>some (D.bl (bs.all id)))=_
 rw[key,Option.bind_some,List.all_map];rfl
theorem nD{f:D->Rho->Option Fl}{R:List D->Rho}{whole:List D}(h:∀ pre x post,pre++x::post=whole->f x (R pre)=some (.nxt (R (pre++[x])))):∀ {l pre:List D},pre++l=whole->dG f l (R pre)=some (.nxt (R whole))
  | [],pre,e=>by rw[List.append_nil] at e;rw[e];rfl
  | x :: l, pre, e => by
    simp only[dG,h pre x l e]
    exact nD h (l:=l) (pre:=pre++[x]) (by rw[List.append_assoc];exact e)
def En:List D->Sl
 | []=>.no
 | x::r=>.sh (r.getLastD x)
theorem sO:∀ (l:List D) (x:D),En (l++[x])=.sh x
  | [],x=>rfl
  | y :: l, x => by
    show Sl.sh ((l++[x]).getLastD y)=_
    simp
theorem Xu{x:D}(h:dep x<1000):isExc x=false:=by cases x<;>first | rfl | exact absurd h (by simp[dep])
def nOw:Sl->Bool
 | .ow _=>false
 | .oo _=>false
 | _=>true
def gM(ρ:Rho):Bool:=ρ.all fun p=>nOw p.2
theorem cT{F:Nat}{e:Expr}{ρ:Rho}(h:gM ρ=true):frz F e ρ=ρ:=by
 unfold frz
 conv=>rhs;rw[<- List.map_id ρ]
 apply List.map_congr_left
 intro p hp
 have:=List.all_eq_true.mp h p hp
 obtain⟨x,s⟩:=p
 cases s<;>first | rfl | simp[nOw] at this
theorem wC{ρ:Rho}{x:Str}(h:gM ρ=true):xM ρ x=true:=by
 unfold xM
 rw[List.all_eq_true]
 intro p hp
 have:=List.all_eq_true.mp h p hp
 obtain⟨y,s⟩:=p
 cases s<;>first | (simp[nOw] at this;done) | simp[Wm]
section
variable {cx:Cxt} {sc:Scope} {ρ:Rho} {c e:Expr} {p:Pos} {d:D} {nm:Str} {F m:Nat} {r:List Stmt} {fl:Fl}
theorem Wz{px:Pos}(hc:gM ρ=true)(ho:(ownIn sc nm&&(ρ.map (·.1)).contains nm)=true)(h:ev cx F sc ρ e=some d)(k:blk cx F (m+1) sc r (cD ρ nm (kj e d))=some fl)(hoo:(ooE cx sc e&&jH ρ nm)=false:=by rfl)(hle:Bh cx sc e=false:=by rfl):blk cx F (m+1) sc (.Assign [.Name nm px] e p::r) ρ=some fl:=by
 refine zq ho (by rw[cT hc];exact h) ?_ (by rw[cT hc];exact hoo) (by rw[cT hc,wC hc];simp) hle
 rw[cT hc];exact k
theorem mZ(h:bf e=false):ooE cx sc e=false:=by
 cases e<;>first | rfl | exact absurd h (by simp[bf])
theorem mQ(h:bf e=false):kj e d=.sh d:=by
 unfold kj
 split
 ·rw[h];rfl
 ·rfl
theorem fY{px:Pos}{ρ':Rho}(hf:frz F e ρ=ρ')(ho:(ownIn sc nm&&(ρ.map (·.1)).contains nm)=true)(hfr:bf e=false)(h:ev cx F sc ρ' e=some d)(k:blk cx F (m+1) sc r (cD ρ' nm (.sh d))=some fl)(hle:Bh cx sc e=false:=by rfl):blk cx F (m+1) sc (.Assign [.Name nm px] e p::r) ρ=some fl:=by
 refine zq ho (by rw[hf];exact h) ?_ (by rw[mZ hfr];rfl) (by rw[hfr];rfl) hle
 rw[hf,mQ hfr];exact k
theorem lK{y:Str}{s:Sl}{ρ:Rho}:frz F e ((y,s)::ρ)=(match s with | .ow ds=>if d8 F y e then(y,.sh (.lst ds)) else(y,.ow ds) | .oo dss=>if d8 F y e then(y,.sh (.lst (dss.map .lst))) else(y,.oo dss) | s=>(y,s))::frz F e ρ:=by
 cases s<;>rfl
theorem zy{y:Str}{s:Sl}{ρ:Rho}(h:nOw s=true):frz F e ((y,s)::ρ)=(y,s)::frz F e ρ:=by
 cases s<;>first | rfl | simp[nOw] at h
theorem Fi{y:Str}{ds:List D}{ρ:Rho}(h:d8 F y e=true):frz F e ((y,.ow ds)::ρ)=(y,.sh (.lst ds))::frz F e ρ:=by
 show(if d8 F y e=true then _ else _)::_=_
 rw[if_pos h]
 rfl
theorem jM{px:Pos}(hc:gM ρ=true)(ho:(ownIn sc nm&&(ρ.map (·.1)).contains nm)=true)(hfr:bf e=false)(h:ev cx F sc ρ e=some d)(k:blk cx F (m+1) sc r (cD ρ nm (.sh d))=some fl)(hle:Bh cx sc e=false:=by rfl):blk cx F (m+1) sc (.Assign [.Name nm px] e p::r) ρ=some fl:=Wz hc ho h (by rw[mQ hfr];exact k) (by rw[mZ hfr];rfl) hle
theorem X4{A B:List Stmt}{fl1:Fl}(hc:gM ρ=true)(h:ev cx F sc ρ c=some (.bl true))(k:blk cx F m sc A ρ=some fl1)(k2:rQ cx F (m+1) sc r fl1=some fl):blk cx F (m+1) sc (.If c A B p::r) ρ=some fl:=EY (by rw[cT hc];exact h) (by rw[cT hc];exact k) k2
theorem X5{A B:List Stmt}{fl1:Fl}(hc:gM ρ=true)(h:ev cx F sc ρ c=some (.bl false))(k:blk cx F m sc B ρ=some fl1)(k2:rQ cx F (m+1) sc r fl1=some fl):blk cx F (m+1) sc (.If c A B p::r) ρ=some fl:=R3 (by rw[cT hc];exact h) (by rw[cT hc];exact k) k2
theorem BK{A:List Stmt}(hc:gM ρ=true)(h:ev cx F sc ρ c=some (.bl false))(k:blk cx F (m+1) sc r ρ=some fl):blk cx F (m+1) sc (.If c A [] p::r) ρ=some fl:=X5 hc h dB k
theorem tR(hc:gM ρ=true)(h:ev cx F sc ρ e=some d):blk cx F (m+1) sc (.Return (some e) p::r) ρ=some (.ret d):=cN (by rw[cT hc];exact h)
end
end DE
namespace DE
open PySem
theorem Tv{d:D}(h:dep d<=50):cmpop .NotEq d d=some (.bl false):=by
 rw[oNe h h,wg d (by omega)];rfl
theorem R5{cx:Cxt}{sc:Scope}{ρ ρ':Rho}{p:Pos}{F m:Nat}{r A:List Stmt}{c:Expr}{fl:Fl}(hf:frz F c ρ=ρ')(h:ev cx F sc ρ' c=some (.bl false))(k:blk cx F (m+1) sc r ρ'=some fl):blk cx F (m+1) sc (.If c A [] p::r) ρ=some fl:=sU (hf▸h) (hf▸k)
theorem Fe{cx:Cxt}{sc:Scope}{ρ ρ' ρ2:Rho}{p:Pos}{F m:Nat}{r A B:List Stmt}{c:Expr}{fl:Fl}(hf:frz F c ρ=ρ')(h:ev cx F sc ρ' c=some (.bl true))(k:blk cx F m sc A ρ'=some (.nxt ρ2))(k2:blk cx F (m+1) sc r ρ2=some fl):blk cx F (m+1) sc (.If c A B p::r) ρ=some fl:=EY (fl1:=.nxt ρ2) (hf▸h) (hf▸k) k2
def ifX:Stmt->Expr
 | .If c _ _ _=>c
 | _=>.Name "" ⟨0,0,0,0⟩
theorem JZ{cx:Cxt}{sc:Scope}{ρ ρ1 ρ2 ρ3:Rho}{e:Expr}{p:Pos}{d:D}{nm:Str}{F m:Nat}{r:List Stmt}{fl:Fl}{px tp tp2:Pos}{i1 i2:Expr}{dss:List (List D)}{ds:List D}{j1 j2:Int}{n1 n2:Nat}(f1:frz F e ρ=ρ1)(f2:frz F i1 ρ=ρ2)(f3:frz F i2 ρ=ρ3)(hx:ρ.lookup nm=some (.oo dss))(ho:(ownIn sc nm&&aA nm && !bf e)=true)(h:ev cx F sc ρ1 e=some d)(h1:ev cx F sc ρ2 i1=some (.int j1))(h2:ixD dss.length j1=some n1)(h3:dss[n1]?=some ds)(h4:ev cx F sc ρ3 i2=some (.int j2))(h5:ixD ds.length j2=some n2)(h6:o9 d=true)(k:blk cx F (m+1) sc r (cD ρ nm (.oo (dss.set n1 (ds.set n2 d))))=some fl):blk cx F (m+1) sc (.Assign [.Subscript (.Subscript (.Name nm px) i1 tp) i2 tp2] e p::r) ρ=some fl:=by
 subst f1 f2 f3
 exact RZ hx ho h h1 h2 h3 h4 h5 h6 k
abbrev lss(m n:Nat)(f:Nat->Nat->Int):List (List D):=Ls m fun i=>Ls n fun j=>.int (f i j)
theorem BX{α:Type}{m i:Nat}{h:Nat->α}{x:α}:(Ls m h).set i x=Ls m fun j=>if j=i then x else h j:=by
 apply List.ext_getElem?
 intro j
 rw[List.getElem?_set]
 by_cases hj:j<m
 ·rw[cI (h:=fun j=>if j=i then x else h j) hj]
  by_cases e:i=j
  ·subst e;simp[aY,hj]
  ·rw[if_neg e,cI hj,if_neg (fun q=>e q.symm)]
 ·by_cases e:i=j
  ·subst e;simp[aY,hj]
  ·rw[if_neg e,List.getElem?_eq_none (by rw[aY];omega),List.getElem?_eq_none (by rw[aY];omega)]
def upd(f:Nat->Nat->Int)(a b:Nat)(v:Int):Nat->Nat->Int:=fun i j=>if i=a then(if j=b then v else f i j) else f i j
theorem Ej{m n a b:Nat}{f:Nat->Nat->Int}{v:Int}(ha:a<m):(lss m n f).set a ((Ls n fun j=>D.int (f a j)).set b (.int v))=lss m n (upd f a b v):=by
 rw[BX,BX]
 refine rD fun i hi=>?_
 unfold upd
 by_cases e:i=a
 ·subst e
  rw[if_pos rfl]
  refine rD fun j hj=>?_
  simp only[if_true]
  split<;>rfl
 ·simp only[e,if_false]
theorem yM(l:List (List D)):yO (l.map D.lst)=some l:=by
 induction l with
 | nil=>rfl
 | cons a r ih=>simp only[List.map_cons,yO,ih,Option.map_some]
theorem vg{m n:Nat}{f:Nat->Nat->Int}:yN (.lst (Ls m fun i=>.lst (Ls n fun j=>.int (f i j))))=some (lss m n f):=by
 show yO (Ls m fun i=>D.lst (Ls n fun j=>.int (f i j)))=_
 rw[<- xr (h:=fun i=>Ls n fun j=>D.int (f i j)) (f:=D.lst),yM]
theorem R9{F:Nat}{e:Expr}{y:Str}{ρ ρ':Rho}{dss:List (List D)}(h:d8 F y e=false)(q:frz F e ρ=ρ'):frz F e ((y,.oo dss)::ρ)=(y,.oo dss)::ρ':=by
 rw[lK,q]
 simp only[h,Bool.false_eq_true,if_false]
theorem R8{F:Nat}{e:Expr}{y:Str}{ρ ρ':Rho}{dss:List (List D)}(h:d8 F y e=true)(q:frz F e ρ=ρ'):frz F e ((y,.oo dss)::ρ)=(y,.sh (.lst (dss.map .lst)))::ρ':=by
 rw[lK,q]
 simp only[h,if_true]
theorem DW{x:Str}:jH [] x=true:=rfl
theorem cJ{x y:Str}{s:Sl}{ρ:Rho}(h:nOw s=true)(q:jH ρ x=true):jH ((y,s)::ρ) x=true:=by
 unfold jH at q ⊢
 rw[List.all_cons,q,Bool.and_true]
 cases s<;>first | (simp[nOw] at h;done) | simp[tG]
theorem dsm{n:Nat}{f:Nat->Nat->Int}{m:Nat}:(lss m n f).map D.lst=Ls m fun i=>.lst (Ls n fun j=>.int (f i j)):=xr
theorem Wy{cx:Cxt}{sc:Scope}{ρ ρ':Rho}{e:Expr}{p q:Pos}{d:D}{F m j:Nat}{r:List Stmt}{fl:Fl}{es:List Expr}{l:List D}(hc:gM ρ=true)(hs:(swp sc es e).isSome=true)(h:ev cx F sc ρ e=some d)(hl:items d=some l)(hb:bindNames sc es l ρ=some ρ')(k:blk cx F (m+1) sc r ρ'=some fl):blk cx F (m+1) sc (.Assign [.Tuple es j q] e p::r) ρ=some fl:=gTup hs (by rw[cT hc];exact h) hl (by rw[cT hc];exact hb) k
theorem Sd{F:Nat}{e:Expr}{y:Str}{ρ ρ':Rho}{m n:Nat}{f:Nat->Nat->Int}(h:d8 F y e=true)(q:frz F e ρ=ρ'):frz F e ((y,.oo (lss m n f))::ρ)=(y,.sh (.lst (Ls m fun i=>.lst (Ls n fun j=>.int (f i j)))))::ρ':=by rw[R8 h q,dsm]
theorem Kp{a b:Bool}(ha:a=true)(hb:b=true):(a&&b)=true:=by rw[ha,hb];rfl
end DE
namespace DE
open PySem
def n6(u d:Int):Prop:=0<d/\Int.gcd u d=1
def gc(u d:Int):Int:=(Int.gcd u d:Int)
def oR(u d:Int):Int:=if d<0 then -(u / gc u d) else u / gc u d
def oU(u d:Int):Int:=if d<0 then -(d / gc u d) else d / gc u d
abbrev frD(u d:Int):D:=.tup [.int u,.int d]
abbrev loD(u d:Int):D:=frD (oR u d) (oU u d)
theorem nA{u d:Int}(h:d≠0):0<gc u d:=by
 have:=Int.gcd_pos_of_ne_zero_right u h
 unfold gc;omega
theorem JW{u d:Int}:gc u d ∣ u:=Int.gcd_dvd_left u d
theorem JX{u d:Int}:gc u d ∣ d:=Int.gcd_dvd_right u d
theorem XF{u d:Int}:gc u d*(u / gc u d)=u:=Int.mul_ediv_cancel' (Int.gcd_dvd_left u d)
theorem Wr{u d:Int}:gc u d*(d / gc u d)=d:=Int.mul_ediv_cancel' (Int.gcd_dvd_right u d)
theorem JB{u d:Int}(h:d≠0):n6 (oR u d) (oU u d):=by
 have g0:=nA (u:=u) h
 have g1:Int.gcd (u / gc u d) (d / gc u d)=1:=Int.gcd_ediv_gcd_ediv_gcd (by unfold gc at g0;omega)
 have e:=Wr (u:=u) (d:=d)
 unfold n6 oR oU
 by_cases q:d<0
 ·simp only[q,if_true,Int.neg_gcd,Int.gcd_neg]
  refine⟨?_,g1⟩
  have:d / gc u d<0:=by
   apply Classical.byContradiction
   intro hn
   have:=Int.mul_nonneg (show 0<=gc u d by omega) (show 0<=d / gc u d by omega)
   omega
  omega
 ·simp only[q,if_false]
  refine⟨?_,g1⟩
  apply Classical.byContradiction
  intro hn
  have:=Int.mul_nonneg (show 0<=gc u d by omega) (show 0 <= -(d / gc u d) by omega)
  rw[Int.mul_neg,e] at this
  omega
theorem JC{u d:Int}(h:d≠0):oR u d*d=u*oU u d:=by
 have g0:=nA (u:=u) h
 have a:=XF (u:=u) (d:=d)
 have b:=Wr (u:=u) (d:=d)
 have key:∀ g x y:Int,g*x=u->g*y=d->x*d=u*y:=fun g x y h1 h2=>by rw[<- h1,<- h2];grind
 have k:=key _ _ _ a b
 unfold oR oU
 split
 ·rw[Int.neg_mul,k,Int.mul_neg]
 ·exact k
theorem Jy{u d v e:Int}(h1:n6 u d)(h2:n6 v e)(q:u*e=v*d):u=v/\d=e:=by
 obtain⟨d0,g1⟩:=h1
 obtain⟨e0,g2⟩:=h2
 have a:d ∣ e:=by
  have z:Int.gcd d (u*e)=Int.gcd d e:=Int.gcd_mul_right_right_of_gcd_eq_one (by rw[Int.gcd_comm];exact g1)
  have w:d ∣ u*e:=⟨v,by rw[q];exact Int.mul_comm _ _⟩
  rw[Int.gcd_eq_natAbs_left w] at z
  exact Int.gcd_eq_natAbs_left_iff_dvd.mp z.symm
 have b:e ∣ d:=by
  have z:Int.gcd e (v*d)=Int.gcd e d:=Int.gcd_mul_right_right_of_gcd_eq_one (by rw[Int.gcd_comm];exact g2)
  have w:e ∣ v*d:=⟨u,by rw[<- q];exact Int.mul_comm _ _⟩
  rw[Int.gcd_eq_natAbs_left w] at z
  exact Int.gcd_eq_natAbs_left_iff_dvd.mp z.symm
 have de:d=e:=by
  have h1:=Int.le_of_dvd e0 a
  have h2:=Int.le_of_dvd d0 b
  omega
 subst de
 refine⟨?_,rfl⟩
 exact Int.eq_of_mul_eq_mul_right (by omega) q
theorem Jz{u d v e:Int}(h:d≠0)(hv:n6 v e)(q:u*e=v*d):oR u d=v/\oU u d=e:=by
 refine Jy (JB h) hv ?_
 have:=JC (u:=u) h
 have g:=nA (u:=u) h
 refine Int.eq_of_mul_eq_mul_right h ?_
 grind
theorem fdiv_neg{x g:Int}(hg:g≠0)(h:g ∣ x):x.fdiv (-g)=-(x / g):=by
 obtain⟨y,rfl⟩:=h
 rw[Int.mul_ediv_cancel_left _ hg,show g*y=-g * -y by grind,Int.mul_fdiv_cancel_left _ (by omega)]
theorem cY{x g:Int}(hg:0<g):x.fdiv g=x / g:=Int.fdiv_eq_ediv_of_nonneg x (by omega)
theorem lJ{a b:Int}:Int.gcd b (a.fmod b)=Int.gcd a b:=by
 have e:=Int.fmod_def a b
 have h:a.fmod b=a+b*(-(a.fdiv b)):=by rw[e];grind
 rw[h,Int.gcd_add_mul_left_right,Int.gcd_comm]
theorem o8{a b:Int}(h:b≠0):(a.fmod b).natAbs<b.natAbs:=by
 by_cases q:0<b
 ·have h1:=Int.fmod_nonneg_of_pos a q
  have h2:=Int.fmod_lt_of_pos a q
  omega
 ·have e:(-a).fmod (-b)=-(a.fmod b):=by simp
  have h1:=Int.fmod_nonneg_of_pos (-a) (b := -b) (by omega)
  have h2:=Int.fmod_lt_of_pos (-a) (b := -b) (by omega)
  omega
theorem Gx{i j:Int}(h:j≠0):binop .Mod (.int i) (.int j)=some (.int (i.fmod j)):=by
 show(if decide (0<j)=true then _ else _)=_
 by_cases q:0<j
 ·rw[if_pos (decide_eq_true q),Int.fmod_eq_emod_of_nonneg i (by omega)]
 ·rw[if_neg (by simpa using q),if_pos (decide_eq_true h)]
theorem jN{i j:Int}(h:j≠0)(h':j.natAbs.log2<9000):binop .FloorDiv (.int i) (.int j)=some (.int (i.fdiv j)):=by
 show(if(decide (0<j)&&decide (j<1073741824))=true then _ else _)=_
 by_cases q:0<j/\j<1073741824
 ·rw[if_pos (by rw[decide_eq_true q.1,decide_eq_true q.2];rfl),cY q.1]
 ·rw[if_neg (by rw[Bool.and_eq_true,decide_eq_true_eq,decide_eq_true_eq];exact q),if_pos (by rw[decide_eq_true h,decide_eq_true h'];rfl)]
theorem qH{n:Nat}(h:n<2^400):n.log2<9000:=by
 by_cases q:n=0
 ·subst q;decide
 ·have:=(Nat.log2_lt q).mpr h
  omega
end DE
namespace DE
open PySem
abbrev qD(q:Rat):D:=frD q.num (q.den:Int)
theorem Iu(q:Rat):0<(q.den:Int):=by have:=q.den_nz;omega
theorem CQ(q:Rat):n6 q.num (q.den:Int):=⟨Iu q,q.reduced⟩
theorem jG(q:Rat):(q.num:Rat)=q*(q.den:Rat):=by
 have h:(q.num:Rat) / (q.den:Rat)=q:=by rw[<- Rat.mkRat_eq_div,Rat.mkRat_self]
 have:(q.den:Rat)≠0:=by
  intro e
  have:=q.den_nz
  have e2:(q.den:Rat)=((0:Nat):Rat):=e
  exact this (Rat.natCast_inj.mp e2)
 grind
theorem mX(q:Rat):(q.den:Rat)≠0:=by
 intro e
 have e2:(q.den:Rat)=((0:Nat):Rat):=e
 exact q.den_nz (Rat.natCast_inj.mp e2)
theorem Wq{d:Int}(h:d≠0):(d:Rat)≠0:=by
 intro e
 have e2:(d:Rat)=((0:Int):Rat):=e
 exact h (Rat.intCast_inj.mp e2)
theorem RG{u d:Int}(h:d≠0):loD u d=qD ((u:Rat) / (d:Rat)):=by
 have hd:=Wq h
 have e:=jG ((u:Rat) / (d:Rat))
 have key:u*(((u:Rat) / (d:Rat)).den:Int)=((u:Rat) / (d:Rat)).num*d:=by
  apply Rat.intCast_inj.mp
  rw[Rat.intCast_mul,Rat.intCast_mul,e]
  show(u:Rat)*((((u:Rat) / (d:Rat)).den:Nat):Rat)=_
  grind
 obtain⟨a,b⟩:=Jz h (CQ _) key
 show frD (oR u d) (oU u d)=frD _ _
 rw[a,b]
def Qb(D B:Nat)(q:Rat):Prop:=∃ x:Int,q*(D:Rat)=(x:Rat)/\x.natAbs<=B
theorem Qb.num{D B:Nat}{q:Rat}(hD:0<D)(h:Qb D B q):q.num.natAbs<=B/\q.den<=D:=by
 obtain⟨x,h1,h2⟩:=h
 have e:=jG q
 have key:q.num*(D:Int)=x*(q.den:Int):=by
  apply Rat.intCast_inj.mp
  rw[Rat.intCast_mul,Rat.intCast_mul,e,<- h1]
  show q*(q.den:Rat)*(D:Rat)=q*(D:Rat)*(q.den:Rat)
  grind
 have k2:q.num.natAbs*D=x.natAbs*q.den:=by
  have:=congrArg Int.natAbs key
  rw[Int.natAbs_mul,Int.natAbs_mul] at this
  simpa using this
 have dv:q.den ∣ D:=by
  have:q.den ∣ q.num.natAbs*D:=⟨x.natAbs,by rw[k2,Nat.mul_comm]⟩
  exact(Nat.Coprime.symm q.reduced).dvd_of_dvd_mul_left this
 obtain⟨c,rfl⟩:=dv
 have c0:0<c:=by
  rcases Nat.eq_zero_or_pos c with e | e
  ·rw[e] at hD;omega
  ·exact e
 have dp:0<q.den:=Nat.pos_of_ne_zero q.den_nz
 refine⟨?_,Nat.le_mul_of_pos_right _ c0⟩
 have k3:q.num.natAbs*c=x.natAbs:=by
  have:q.den*(q.num.natAbs*c)=q.den*x.natAbs:=by
   rw[<- Nat.mul_assoc,Nat.mul_comm q.den q.num.natAbs,Nat.mul_assoc,k2,Nat.mul_comm]
  exact Nat.eq_of_mul_eq_mul_left dp this
 have:=Nat.le_mul_of_pos_right q.num.natAbs c0
 omega
theorem Qb.add{D B C:Nat}{p q:Rat}(h:Qb D B p)(k:Qb D C q):Qb D (B+C) (p+q):=by
 obtain⟨x,h1,h2⟩:=h
 obtain⟨y,k1,k2⟩:=k
 refine⟨x+y,?_,by omega⟩
 rw[Rat.intCast_add,<- h1,<- k1]
 grind
theorem Qb.mul{D E B C:Nat}{p q:Rat}(h:Qb D B p)(k:Qb E C q):Qb (D*E) (B*C) (p*q):=by
 obtain⟨x,h1,h2⟩:=h
 obtain⟨y,k1,k2⟩:=k
 refine⟨x*y,?_,by rw[Int.natAbs_mul];exact Nat.mul_le_mul h2 k2⟩
 rw[Rat.intCast_mul,<- h1,<- k1,Rat.natCast_mul]
 grind
theorem Qb.up{D B C:Nat}{p:Rat}(h:Qb D B p)(hc:B<=C):Qb D C p:=let ⟨x,h1,h2⟩:=h;⟨x,h1,Nat.le_trans h2 hc⟩
theorem Qb.zero{D:Nat}:Qb D 0 0:=⟨0,by grind,by decide⟩
theorem Qb.one{D:Nat}:Qb D D 1:=⟨(D:Int),by show(1:Rat)*(D:Rat)=(D:Rat);grind,by simp⟩
def Sq(q:Rat):Prop:=q.num.natAbs<=1000000000000000000/\q.den<=1000000000000000000
theorem Qb.sq{D B:Nat}{q:Rat}(h:Qb D B q)(hD:0<D)(h1:D<=1000000000000000000)(h2:B<=1000000000000000000):Sq q:=by
 have:=h.num hD
 exact⟨by omega,by omega⟩
def gP:Nat->(Nat->Rat)->Rat
 | 0,_=>0
 | n+1,g=>gP n g+g n
def mulQ(n:Nat)(F G:Nat->Nat->Rat):Nat->Nat->Rat:=fun i j=>gP n fun l=>F i l*G l j
theorem uq{D B:Nat}{g:Nat->Rat}:∀ {n:Nat},(∀ i,i<n->Qb D B (g i))->Qb D (n*B) (gP n g)
  | 0,_=>by rw[Nat.zero_mul];exact Qb.zero
  | n + 1, h => by
    rw[Nat.succ_mul]
    exact(uq fun i hi=>h i (by omega)).add (h n (by omega))
theorem HX{a b:Rat}:((a.num*(b.den:Int)+b.num*(a.den:Int):Int):Rat) / (((a.den:Int)*(b.den:Int):Int):Rat)=a+b:=by
 rw[Rat.intCast_add,Rat.intCast_mul,Rat.intCast_mul,Rat.intCast_mul,jG a,jG b]
 show(a*(a.den:Rat)*(b.den:Rat)+b*(b.den:Rat)*(a.den:Rat)) / ((a.den:Rat)*(b.den:Rat))=a+b
 have:=mX a
 have:=mX b
 grind
theorem Jt{a b:Rat}:((a.num*b.num:Int):Rat) / (((a.den:Int)*(b.den:Int):Int):Rat)=a*b:=by
 rw[Rat.intCast_mul,Rat.intCast_mul,jG a,jG b]
 show(a*(a.den:Rat)*(b*(b.den:Rat))) / ((a.den:Rat)*(b.den:Rat))=a*b
 have:=mX a
 have:=mX b
 grind
theorem Jr{b:Rat}(h:b≠0):b.num≠0:=fun e=>h (by
  have:=jG b
  rw[e] at this
  have h0:=mX b
  have:(0:Rat)=b*(b.den:Rat):=this
  grind)
theorem Az{q:Rat}(h:0<=q):0<=q.num:=Rat.num_nonneg.mpr h
theorem Rz{q:Rat}(h:0<q):0<q.num:=by
 have:=Az (Rat.le_of_lt h)
 have h2:=Jr (b:=q) (by intro e;rw[e] at h;exact absurd h (by decide))
 omega
end DE
namespace DE
open PySem
section
variable {cx:Cxt} {sc:Scope} {ρ ρ' ρ2:Rho} {e:Expr} {p:Pos} {d:D} {nm:Str} {F m:Nat} {r:List Stmt} {fl:Fl} {ds:List D}
theorem oZ{tg iter:Expr}{body:List Stmt}{l:List D}(hf:frz F iter ρ=ρ')(hI:evI cx (fu tg) (ev cx F sc ρ') sc iter=some l)(hgo:dG (fF cx F m sc tg body) l ρ'=some (.nxt ρ2))(k2:blk cx F (m+1) sc r ρ2=some fl):blk cx F (m+1) sc (.For tg iter body [] p::r) ρ=some fl:=by
 subst hf
 exact J2 hI hgo k2
theorem R0(hf:frz F e ρ=ρ')(h:ev cx F sc ρ' e=some d):blk cx F (m+1) sc (.Return (some e) p::r) ρ=some (.ret d):=cN (by rw[hf];exact h)
end
theorem gJ{f:D->Rho->Option Fl}{h:Nat->D}{P:Nat->Rho->Prop}{N:Nat}(hs:∀ i ρ,i<N->P i ρ->∃ ρ',P (i+1) ρ'/\f (h i) ρ=some (.nxt ρ')){ρ:Rho}(h0:P 0 ρ):∃ ρ',P N ρ'/\dG f (Ls N h) ρ=some (.nxt ρ'):=by
  have key:∀ (n a:Nat) (ρ:Rho),a+n<=N->P a ρ->∃ ρ',P (a+n) ρ'/\dG f ((List.range' a n).map h) ρ=some (.nxt ρ'):=by
    intro n
    induction n with
    | zero=>intro a ρ _ hp;exact⟨ρ,hp,rfl⟩
    | succ n ih =>
      intro a ρ ha hp
      obtain⟨ρ1,h1,h2⟩:=hs a ρ (by omega) hp
      obtain⟨ρ2,h3,h4⟩:=ih (a+1) ρ1 (by omega) h1
      refine⟨ρ2,by rw[show a+(n+1)=a+1+n by omega];exact h3,?_⟩
      rw[List.range'_succ,List.map_cons]
      simp only[dG,h2]
      exact h4
  obtain⟨ρ',h1,h2⟩:=key N 0 ρ (by omega) h0
  rw[Nat.zero_add] at h1
  refine⟨ρ',h1,?_⟩
  unfold Ls
  rw[List.range_eq_range']
  exact h2
end DE
namespace M31
open PySem L2 DE
def top(i:Nat):Stmt:=PySem.Challenge.pw_minortables_k31_whole_steps_good.main.body.getD i (.Pass ⟨0,0,0,0⟩)
def aR(t:Stmt):Fd:=⟨(dX t).args.map (·.arg),(dX t).args.map (·.arg)++(((aZ t).names.filter fun p=>(p.2==.local||p.2==.cell) && !((dX t).args.map (·.arg)).contains p.1).map (·.1)),aZ t,bM t⟩
def cs:List (Str×D):=[("MOST_LINES",.int 4),("UP",.str "up"),("DOWN",.str "down"),("SCALE",.str "scale")]
def bl:List (Str×String):=[("len","len"),("all","all"),("any","any"),("sum","sum"),("tuple","tuple"),("list","list"),("min","min"),("abs","abs"),("int","int"),("bool","bool"),("isinstance","isinstance"),("range","range"),("zip","zip"),("enumerate","enumerate")]
def df:List (Str×Fd):=[(("is_whole":Str),aR (top 7)),(("is_whole_within":Str),aR (top 8)),(("is_short_tuple":Str),aR (top 9)),(("has_lines":Str),aR (top 10)),(("numbers_of":Str),aR (top 11)),(("has_table_form":Str),aR (top 12)),(("is_square":Str),aR (top 13)),(("is_place":Str),aR (top 14)),(("need_table":Str),aR (top 15)),(("need_square":Str),aR (top 16)),(("need_size":Str),aR (top 17)),(("common_measure":Str),aR (top 19)),(("lowest":Str),aR (top 20)),(("has_fraction_form":Str),aR (top 21)),(("is_fraction":Str),aR (top 22)),(("sum_of":Str),aR (top 23)),(("times_of":Str),aR (top 24)),(("all_sum":Str),aR (top 25)),(("all_times":Str),aR (top 26)),(("need_fraction_table":Str),aR (top 27)),(("row_as_fractions":Str),aR (top 28)),(("as_fractions":Str),aR (top 29)),(("row_of_ups":Str),aR (top 30)),(("as_whole":Str),aR (top 31)),(("column_of":Str),aR (top 33)),(("columns_of":Str),aR (top 34)),(("picked":Str),aR (top 35)),(("part_at":Str),aR (top 36)),(("plain_row":Str),aR (top 37)),(("plain":Str),aR (top 38)),(("without":Str),aR (top 40)),(("worth_of":Str),aR (top 41)),(("rest_worth":Str),aR (top 42)),(("signed_rest":Str),aR (top 43)),(("row_with_rests":Str),aR (top 44)),(("with_behind":Str),aR (top 45)),(("rising_tuples":Str),aR (top 46)),(("greatest_size":Str),aR (top 47)),(("minors_of_rows":Str),aR (top 48)),(("minors_of_size":Str),aR (top 49)),(("minors_in":Str),aR (top 50)),(("all_minors":Str),aR (top 51)),(("whole_minor":Str),aR (top 52)),(("none_below":Str),aR (top 54)),(("is_good":Str),aR (top 55)),(("is_step_of":Str),aR (top 60)),(("is_step":Str),aR (top 61)),(("need_steps":Str),aR (top 62)),(("row_by_column":Str),aR (top 63)),(("row_by_columns":Str),aR (top 64)),(("product_of":Str),aR (top 65)),(("table_of_step":Str),aR (top 66)),(("made_by":Str),aR (top 67)),(("_law_cell":Str),aR (top 69)),(("_law_pick":Str),aR (top 70)),(("_law_share":Str),aR (top 78)),(("_law_steps":Str),aR (top 79)),(("_law_lowest":Str),aR (top 80)),(("_law_whole":Str),aR (top 84)),(("_law_gcd":Str),aR (top 85)),(("law":Str),aR (top 86))]
def xs:List Str:=["NoTable","NoFit","NoStep"]
def T:Pg:=⟨cs,bl,df,xs,"MinorError"⟩
def BnO(nm:Str)(t:Stmt):Prop:=∀ (kV doc pm:Value) (an:Option Addr) (cdv ct:Value) (us:List Value),us.length=(aR t).ps.length->bindArgs (PySem.W.fnOf nm nm (dX t) (bM t) (aZ t) .none kV doc pm an cdv ct) ⟨us,[]⟩=pure ((aR t).ps.zip us)
def fsB(fd:Fd):Bool:=decide (fd.sc.kind=.function) && !fd.sc.isCoroutine && !fd.sc.isGenerator&&decide fd.N.Nodup&&decide (fd.N.take fd.ps.length=fd.ps)&&fd.ps.all (fun x=>decide (fd.sc.names.lookup x=some .local)||decide (fd.sc.names.lookup x=some .cell))&&fd.sc.names.all fun y=>decide (y.2≠.free)
theorem J4{fd:Fd}(h:fsB fd=true):FnScope fd.N fd.ps fd.sc:=by
 unfold fsB at h
 simp only[Bool.and_eq_true,decide_eq_true_eq,Bool.not_eq_true',List.all_eq_true,Bool.or_eq_true] at h
 obtain⟨⟨⟨⟨⟨⟨h1,h2⟩,h3⟩,h4⟩,h5⟩,h6⟩,h7⟩:=h
 exact⟨h1,h2,h3,h4,h5,h6,h7⟩
theorem aM{K:PySem.W.Frag}{h:Heap}{mg:Str->Option Value}{nm:Str}{t:Stmt}(X:K.In h)(G:h.Ns mainGlobals mg)(f:Addr)(dc pm cd:Value)(hb:BnO nm t)(a:PySem.W.nsIn K mainGlobals nm=some (some (.ref f)))
  (l:K.lookup f=some ⟨.type "function",none,.func (PySem.W.fnOf nm nm (dX t) (bM t) (aZ t) .none .none dc pm none cd .none),#[]⟩) (c:(PySem.W.codeIn K cd nm&&PySem.W.keepIn K (.ref f)&&fsB (aR t) && !(nm==("__debug__":Str)))=true):FunAt K mg nm (aR t):=by
 simp only[Bool.and_eq_true,Bool.not_eq_true'] at c
 obtain⟨⟨⟨c,k⟩,hs⟩,hd⟩:=c
 exact⟨⟨t,f,_,PySem.W.mg_of X G a,vO l c k,(vO l c k).binds hb,rfl,rfl⟩,J4 hs,hd⟩
theorem len1{us:List Value}(h:us.length=1):∃ a,us=[a]:=List.length_eq_one_iff.mp h
theorem len2{us:List Value}(h:us.length=2):∃ a b,us=[a,b]:=by cases us with | nil=>cases h | cons a r=>obtain⟨b,e⟩:=len1 (us:=r) (Nat.succ.inj h);exact⟨a,b,congrArg (List.cons a) e⟩
theorem Ek{us:List Value}(h:us.length=3):∃ a b c,us=[a,b,c]:=by cases us with | nil=>cases h | cons a r=>obtain⟨b,c,e⟩:=len2 (us:=r) (Nat.succ.inj h);exact⟨a,b,c,congrArg (List.cons a) e⟩
theorem RJ{us:List Value}(h:us.length=4):∃ a b c d,us=[a,b,c,d]:=by cases us with | nil=>cases h | cons a r=>obtain⟨b,c,d,e⟩:=Ek (us:=r) (Nat.succ.inj h);exact⟨a,b,c,d,congrArg (List.cons a) e⟩
theorem b7:BnO "is_whole" (top 7):=fun _ _ _ _ _ _ _ h=>by obtain⟨_,rfl⟩:=len1 h;rfl
theorem b8:BnO "is_whole_within" (top 8):=fun _ _ _ _ _ _ _ h=>by obtain⟨_,_,_,rfl⟩:=Ek h;rfl
theorem b9:BnO "is_short_tuple" (top 9):=fun _ _ _ _ _ _ _ h=>by obtain⟨_,rfl⟩:=len1 h;rfl
theorem b10:BnO "has_lines" (top 10):=fun _ _ _ _ _ _ _ h=>by obtain⟨_,rfl⟩:=len1 h;rfl
theorem b11:BnO "numbers_of" (top 11):=fun _ _ _ _ _ _ _ h=>by obtain⟨_,rfl⟩:=len1 h;rfl
theorem b12:BnO "has_table_form" (top 12):=fun _ _ _ _ _ _ _ h=>by obtain⟨_,rfl⟩:=len1 h;rfl
theorem b13:BnO "is_square" (top 13):=fun _ _ _ _ _ _ _ h=>by obtain⟨_,rfl⟩:=len1 h;rfl
theorem b14:BnO "is_place" (top 14):=fun _ _ _ _ _ _ _ h=>by obtain⟨_,_,rfl⟩:=len2 h;rfl
theorem b15:BnO "need_table" (top 15):=fun _ _ _ _ _ _ _ h=>by obtain⟨_,rfl⟩:=len1 h;rfl
theorem b16:BnO "need_square" (top 16):=fun _ _ _ _ _ _ _ h=>by obtain⟨_,rfl⟩:=len1 h;rfl
theorem b17:BnO "need_size" (top 17):=fun _ _ _ _ _ _ _ h=>by obtain⟨_,_,rfl⟩:=len2 h;rfl
theorem b19:BnO "common_measure" (top 19):=fun _ _ _ _ _ _ _ h=>by obtain⟨_,_,rfl⟩:=len2 h;rfl
theorem b20:BnO "lowest" (top 20):=fun _ _ _ _ _ _ _ h=>by obtain⟨_,_,rfl⟩:=len2 h;rfl
theorem b21:BnO "has_fraction_form" (top 21):=fun _ _ _ _ _ _ _ h=>by obtain⟨_,rfl⟩:=len1 h;rfl
theorem b22:BnO "is_fraction" (top 22):=fun _ _ _ _ _ _ _ h=>by obtain⟨_,rfl⟩:=len1 h;rfl
theorem b23:BnO "sum_of" (top 23):=fun _ _ _ _ _ _ _ h=>by obtain⟨_,_,rfl⟩:=len2 h;rfl
theorem b24:BnO "times_of" (top 24):=fun _ _ _ _ _ _ _ h=>by obtain⟨_,_,rfl⟩:=len2 h;rfl
theorem b25:BnO "all_sum" (top 25):=fun _ _ _ _ _ _ _ h=>by obtain⟨_,rfl⟩:=len1 h;rfl
theorem b26:BnO "all_times" (top 26):=fun _ _ _ _ _ _ _ h=>by obtain⟨_,rfl⟩:=len1 h;rfl
theorem b27:BnO "need_fraction_table" (top 27):=fun _ _ _ _ _ _ _ h=>by obtain⟨_,rfl⟩:=len1 h;rfl
theorem b28:BnO "row_as_fractions" (top 28):=fun _ _ _ _ _ _ _ h=>by obtain⟨_,rfl⟩:=len1 h;rfl
theorem b29:BnO "as_fractions" (top 29):=fun _ _ _ _ _ _ _ h=>by obtain⟨_,rfl⟩:=len1 h;rfl
theorem b30:BnO "row_of_ups" (top 30):=fun _ _ _ _ _ _ _ h=>by obtain⟨_,rfl⟩:=len1 h;rfl
theorem b31:BnO "as_whole" (top 31):=fun _ _ _ _ _ _ _ h=>by obtain⟨_,rfl⟩:=len1 h;rfl
theorem b33:BnO "column_of" (top 33):=fun _ _ _ _ _ _ _ h=>by obtain⟨_,_,rfl⟩:=len2 h;rfl
theorem b34:BnO "columns_of" (top 34):=fun _ _ _ _ _ _ _ h=>by obtain⟨_,rfl⟩:=len1 h;rfl
theorem b35:BnO "picked" (top 35):=fun _ _ _ _ _ _ _ h=>by obtain⟨_,_,rfl⟩:=len2 h;rfl
theorem b36:BnO "part_at" (top 36):=fun _ _ _ _ _ _ _ h=>by obtain⟨_,_,_,rfl⟩:=Ek h;rfl
theorem b37:BnO "plain_row" (top 37):=fun _ _ _ _ _ _ _ h=>by obtain⟨_,_,rfl⟩:=len2 h;rfl
theorem b38:BnO "plain" (top 38):=fun _ _ _ _ _ _ _ h=>by obtain⟨_,rfl⟩:=len1 h;rfl
theorem b40:BnO "without" (top 40):=fun _ _ _ _ _ _ _ h=>by obtain⟨_,_,_,rfl⟩:=Ek h;rfl
theorem b41:BnO "worth_of" (top 41):=fun _ _ _ _ _ _ _ h=>by obtain⟨_,rfl⟩:=len1 h;rfl
theorem b42:BnO "rest_worth" (top 42):=fun _ _ _ _ _ _ _ h=>by obtain⟨_,_,_,rfl⟩:=Ek h;rfl
theorem b43:BnO "signed_rest" (top 43):=fun _ _ _ _ _ _ _ h=>by obtain⟨_,_,_,rfl⟩:=Ek h;rfl
theorem b44:BnO "row_with_rests" (top 44):=fun _ _ _ _ _ _ _ h=>by obtain⟨_,_,rfl⟩:=len2 h;rfl
theorem b45:BnO "with_behind" (top 45):=fun _ _ _ _ _ _ _ h=>by obtain⟨_,_,rfl⟩:=len2 h;rfl
theorem b46:BnO "rising_tuples" (top 46):=fun _ _ _ _ _ _ _ h=>by obtain⟨_,_,rfl⟩:=len2 h;rfl
theorem b47:BnO "greatest_size" (top 47):=fun _ _ _ _ _ _ _ h=>by obtain⟨_,rfl⟩:=len1 h;rfl
theorem b48:BnO "minors_of_rows" (top 48):=fun _ _ _ _ _ _ _ h=>by obtain⟨_,_,rfl⟩:=len2 h;rfl
theorem b49:BnO "minors_of_size" (top 49):=fun _ _ _ _ _ _ _ h=>by obtain⟨_,_,rfl⟩:=len2 h;rfl
theorem b50:BnO "minors_in" (top 50):=fun _ _ _ _ _ _ _ h=>by obtain⟨_,rfl⟩:=len1 h;rfl
theorem b51:BnO "all_minors" (top 51):=fun _ _ _ _ _ _ _ h=>by obtain⟨_,rfl⟩:=len1 h;rfl
theorem b52:BnO "whole_minor" (top 52):=fun _ _ _ _ _ _ _ h=>by obtain⟨_,rfl⟩:=len1 h;rfl
theorem b54:BnO "none_below" (top 54):=fun _ _ _ _ _ _ _ h=>by obtain⟨_,rfl⟩:=len1 h;rfl
theorem b55:BnO "is_good" (top 55):=fun _ _ _ _ _ _ _ h=>by obtain⟨_,rfl⟩:=len1 h;rfl
theorem b60:BnO "is_step_of" (top 60):=fun _ _ _ _ _ _ _ h=>by obtain⟨_,_,_,_,rfl⟩:=RJ h;rfl
theorem b61:BnO "is_step" (top 61):=fun _ _ _ _ _ _ _ h=>by obtain⟨_,_,rfl⟩:=len2 h;rfl
theorem b62:BnO "need_steps" (top 62):=fun _ _ _ _ _ _ _ h=>by obtain⟨_,_,rfl⟩:=len2 h;rfl
theorem b63:BnO "row_by_column" (top 63):=fun _ _ _ _ _ _ _ h=>by obtain⟨_,_,rfl⟩:=len2 h;rfl
theorem b64:BnO "row_by_columns" (top 64):=fun _ _ _ _ _ _ _ h=>by obtain⟨_,_,rfl⟩:=len2 h;rfl
theorem b65:BnO "product_of" (top 65):=fun _ _ _ _ _ _ _ h=>by obtain⟨_,_,rfl⟩:=len2 h;rfl
theorem b66:BnO "table_of_step" (top 66):=fun _ _ _ _ _ _ _ h=>by obtain⟨_,_,_,_,rfl⟩:=RJ h;rfl
theorem b67:BnO "made_by" (top 67):=fun _ _ _ _ _ _ _ h=>by obtain⟨_,_,rfl⟩:=len2 h;rfl
theorem b69:BnO "_law_cell" (top 69):=fun _ _ _ _ _ _ _ h=>by obtain⟨_,_,rfl⟩:=len2 h;rfl
theorem b70:BnO "_law_pick" (top 70):=fun _ _ _ _ _ _ _ h=>by obtain⟨_,_,_,rfl⟩:=Ek h;rfl
theorem b78:BnO "_law_share" (top 78):=fun _ _ _ _ _ _ _ h=>by obtain⟨_,_,rfl⟩:=len2 h;rfl
theorem b79:BnO "_law_steps" (top 79):=fun _ _ _ _ _ _ _ h=>by obtain⟨_,_,_,_,rfl⟩:=RJ h;rfl
theorem b80:BnO "_law_lowest" (top 80):=fun _ _ _ _ _ _ _ h=>by obtain⟨_,_,rfl⟩:=len2 h;rfl
theorem b84:BnO "_law_whole" (top 84):=fun _ _ _ _ _ _ _ h=>by obtain⟨_,rfl⟩:=len1 h;rfl
theorem b85:BnO "_law_gcd" (top 85):=fun _ _ _ _ _ _ _ h=>by obtain⟨_,_,rfl⟩:=len2 h;rfl
theorem b86:BnO "law" (top 86):=fun _ _ _ _ _ _ _ h=>by obtain⟨_,rfl⟩:=len1 h;rfl
theorem in_of{α:Type}{Q:Str->α->Prop}:∀ {l:List (Str×α)},(∀ p∈l,Q p.1 p.2)->∀ f fd,l.lookup f=some fd->Q f fd
  | (y, e) :: r, hp, f, fd, h => by
    rw[List.lookup_cons] at h
    cases hb:f==y with
    | true =>
      rw[hb] at h
      have e1:f=y:=by simpa using hb
      cases h
      subst e1
      exact hp _ List.mem_cons_self
    | false =>
      rw[hb] at h
      exact in_of (fun p hm=>hp p (List.mem_cons_of_mem _ hm)) f fd h
theorem aC{α:Type}{Q:α->Prop}{a:α}{l:List α}(h:Q a)(t:∀ p∈l,Q p):∀ p∈a::l,Q p:=List.forall_mem_cons.mpr ⟨h,t⟩
theorem aN{α:Type}{Q:α->Prop}:∀ p∈([]:List α),Q p:=List.forall_mem_nil _
theorem cA{K:PySem.W.Frag}{h:Heap}{mg:Str->Option Value}{x:Str}{i:Int}(X:K.In h)(G:h.Ns mainGlobals mg)(tk:Tok)(e:PySem.W.nsIn K mainGlobals x=some (some (.int i tk))):∃ v u,(∀ H,Rep K H (D.int i) v)/\mg x=some u/\RelV v u:=⟨.int i,_,fun _=>by simp[Rep],PySem.W.mg_of X G e,⟨_,rfl⟩⟩
theorem cS{K:PySem.W.Frag}{h:Heap}{mg:Str->Option Value}{x y:Str}(X:K.In h)(G:h.Ns mainGlobals mg)(tk:Tok)(e:PySem.W.nsIn K mainGlobals x=some (some (.str y tk))):∃ v u,(∀ H,Rep K H (D.str y) v)/\mg x=some u/\RelV v u:=⟨.str y,_,fun _=>by simp[Rep],PySem.W.mg_of X G e,⟨_,rfl⟩⟩
theorem bA{K:PySem.W.Frag}{h:Heap}{mg:Str->Option Value}{x:Str}{b:String}(X:K.In h)(G:h.Ns mainGlobals mg)(e:PySem.W.nsIn K mainGlobals x=some none)(q:x=Str.ofString b):mg x=none/\x=Str.ofString b:=⟨PySem.W.mg_none_of X G e,q⟩
theorem RK:T.defs.lookup ("law":Str)=some (aR (top 86)):=by kernel_rfl
theorem fin{l:PySem.W.OpenLaw}{w:World}{K:PySem.W.Frag}{h:Heap}{mg:Str->Option Value}{fa:Addr}(hlaw:∀ ns:List Int,ns.length<=63->aK T 60 40 "law" [.lst (ns.map D.int)]=some (.bl true))(TX:Text K mg T)(X:K.In h)(G:h.Ns mainGlobals mg)(hfa:mg "law"=some (.ref fa))(f:Addr)(dc pm cd:Value)(a:PySem.W.nsIn K mainGlobals "law"=some (some (.ref f)))
  (lk:K.lookup f=some ⟨.type "function",none,.func (PySem.W.fnOf "law" "law" (dX (top 86)) (bM (top 86)) (aZ (top 86)) .none .none dc pm none cd .none),#[]⟩) (c:PySem.W.codeIn K cd "law"=true) (kp:PySem.W.keepIn K (.ref f)=true) :
  ∃ fd:FuncData,(∀ (s:Shared) (v:Value),BindsTo s fd ⟨[v],[]⟩ [("_law_script",v)])/\∀ base:Heap,K.In base->base.Ns mainGlobals mg->FnOk l.prog w K mg base CX0 40 fa fd ["_law_script"] (pZ K):=by
 have e:=hfa.symm.trans (PySem.W.mg_of X G a)
 cases e
 refine⟨_,fun s v=>.of_eq (b86 .none dc pm none cd .none [v] rfl),fun base _ _=>?_⟩
 exact JF (fd:=aR (top 86)) (t:=top 86) (f:="law") TX RK (vO lk c kp) rfl rfl (J4 (by decide +kernel)) rfl hlaw
theorem walk{l:PySem.W.OpenLaw}{q:Program}{loose:List Str}{XP:(Str->Option Value)->Heap->Prop}{YP:World->Heap->Prop}{d:DefRec}{K:Params->PySem.W.Frag}(hn:l.most=some 63)(hdf:d.params.defaults=[])
    (hY:∀ (w:World) (h:Heap),YP w h->(K w.params).In h)
    (F:∀ (w:World) (mg:Str->Option Value) (fa:Addr) (h:Heap),(K w.params).In h->h.Ns mainGlobals mg->mg d.name=some (.ref fa) ->
      ∃ fd:FuncData,(∀ (s:Shared) (u:Value),BindsTo s fd ⟨[u],[]⟩ [("_law_script",u)])/\∀ base:Heap,(K w.params).In base->base.Ns mainGlobals mg->FnOk l.prog w (K w.params) mg base CX0 40 fa fd ["_law_script"] (pZ (K w.params))) :
    PySem.W.WalkO q loose XP YP l.row.toRowW d [] (fun f vs=>PySem.call f vs) :=
  L2.Cd (n:=63) (k:=40) (x:="_law_script") (CX:=fun _=>CX0) (sp:=fun w=>pZ (K w.params)) hn (by decide) hdf ⟨rfl,by decide,by decide⟩ hY F (fun _ _ a ns hl _ hS=>⟨a,ns,rfl,hS,hl,fun _=>rfl⟩) fun _ _ _ _ _ z=>z
end M31
local macro_rules | `(tactic| walk_at "xs") => `(tactic| first | exact DE.Sw | exact DE.bLenL | exact DE.WK | rfl | assumption | omega)
local macro_rules | `(tactic| walk_at "xm") => `(tactic| first | exact DE.aX | (refine' DE.aj ?hA ?hB; (case hA => walk_at "xv"); (case hB => walk_at "xm")))
local macro_rules | `(tactic| walk_at "xi") => `(tactic| first
  | (refine' DE.xu ?hA ?hB; (case hA => rfl); (case hB => walk_at "xv"))
  | (refine' DE.wSq ?hA ?hB ?hC; (case hA => rfl); (case hB => walk_at "xv"); (case hC => rfl))
  | (refine' DE.GR ?hA ?hB ?hC; (case hA => rfl); (case hB => walk_at "xv"); (case hC => omega))
  | (refine' DE.wR2 ?hA ?hB ?hC ?hD; (case hA => rfl); (case hB => walk_at "xv"); (case hC => walk_at "xv"); (case hD => walk_at "xs"))
  | (refine' DE.Te ?hA ?hB ?hC; (case hA => rfl); (case hB => walk_at "xv"); (case hC => walk_at "xv"))
  | (refine' DE.WW ?hA ?hB; (case hA => rfl); (case hB => walk_at "xv")))
local macro_rules | `(tactic| walk_at "xl") => `(tactic| (refine' DE.cu ?hA ?hB ?hC (DE.aW ?hD); (case hA => rfl); (case hB => walk_at "xi"); (case hC => (exact DE.dY (by omega))); (case hD => (intro i hi; refine' DE.cG ?hE ?hF; (case hE => rfl); (case hF => walk_at "xv")))))
local macro_rules | `(tactic| walk_at "xv") => `(tactic| first
  | exact DE.xName rfl
  | exact DE.aq rfl
  | (refine' DE.bR ?hA ?hB ?hC; (case hA => walk_at "xv"); (case hB => walk_at "xv"); (case hC => walk_at "xs"))
  | (refine' DE.cg ?hA ?hB ?hC; (case hA => walk_at "xv"); (case hB => walk_at "xv"); (case hC => walk_at "xs"))
  | (refine' DE.K6 ?hA ?hB ?hC ?hD ?hE; (case hA => walk_at "xv"); (case hB => walk_at "xv"); (case hC => omega); (case hD => rfl); (case hE => rfl))
  | (refine' DE.Ky ?hA ?hB ?hC ?hD ?hE; (case hA => walk_at "xv"); (case hB => walk_at "xv"); (case hC => omega); (case hD => rfl); (case hE => rfl))
  | (refine' DE.xIxLl ?hA ?hB ?hC ?hD ?hE; (case hA => walk_at "xv"); (case hB => walk_at "xv"); (case hC => omega); (case hD => rfl); (case hE => rfl))
  | (refine' DE.GK ?hA ?hB ?hC ?hD ?hE ?hF ?hG; (case hA => rfl); (case hB => rfl); (case hC => rfl); (case hD => walk_at "xv"); (case hE => rfl); (case hF => rfl); (case hG => rfl))
  | (refine' DE.dH ?hA ?hB ?hC ?hD ?hE; (case hA => rfl); (case hB => rfl); (case hC => rfl); (case hD => walk_at "xm"); (case hE => walk_at "xs"))
  | (refine' DE.aH ?hA ?hB ?hC; (case hA => rfl); (case hB => walk_at "xm"); (case hC => walk_at "xc"))
  | (refine' DE.xLr1n ?hA ?hB ?hC ?hD; (case hA => rfl); (case hB => rfl); (case hC => walk_at "xv"); (case hD => omega))
  | (refine' DE.mF ?hA ?hB; (case hA => walk_at "xm"); (case hB => rfl))
  | (refine' DE.Td ?hA ?hB; (case hA => walk_at "xm"); (case hB => rfl))
  | walk_at "xl"
  | (refine' DE.K5 ?hA; (case hA => walk_at "xv"))
  | (refine' DE.K4 ?hA; (case hA => walk_at "xv")))
namespace M31
open PySem DE
theorem Gu{P:Pg}{F:Nat}{f:Str}{ds:List D}:aK P F 0 f ds=none:=by rw[gO,lY];rfl
def whole:D->Bool
 | .int _=>true
 | _=>false
theorem is_whole(k:Nat){d:D}(h:dep d<1000):aK T 60 (k+1) "is_whole" [d]=some (.bl (whole d)):=by
 cases d with
 | exc c=>exact absurd h (by simp[dep])
 | dic _ _=>exact absurd h (by simp[dep])
 | _=>kernel_rfl
def within(l m:Int):D->Bool
 | .int i=>decide (l<=i)&&decide (i<=m)
 | _=>false
theorem vI(k:Nat){d:D}{l m:Int}(h:dep d<1000):aK T 60 (k+2) "is_whole_within" [d,.int l,.int m]=some (.bl (within l m d)):=by
  cases hw:whole d with
  | false =>
    have e:within l m d=false:=by cases d<;>first | rfl | simp[whole] at hw
    rw[e]
    refine cj (fd:=aR (top 8)) rfl rfl (cN (dU (tY ?_)))
    refine' aH ?L31a_1a ?L31a_1b ?L31a_1c;(case L31a_1a=>rfl);(case L31a_1b=>walk_at "xm");(case L31a_1c=>exact hw▸is_whole k h)
  | true =>
    cases d<;>simp[whole] at hw
    rename_i i
    refine cj (fd:=aR (top 8)) rfl rfl (cN (dU (jD ?_ (mG ?_))))
    · refine' aH ?L31a_2a ?L31a_2b ?L31a_2c;(case L31a_2a=>rfl);(case L31a_2b=>walk_at "xm");(case L31a_2c=>exact is_whole k (by simp[dep]))
    · by_cases h1:l<=i
      · have e:within l m (.int i)=decide (i<=m):=by simp[within,h1]
        rw[e]
        exact Hl (by walk_at "xv") (by walk_at "xv") (oLe h1) (by walk_at "xv") Tz
      · have e:within l m (.int i)=false:=by simp[within,h1]
        rw[e]
        exact Ho (by walk_at "xv") (by walk_at "xv") (Tw h1)
def bh:D->Bool
 | .tup us=>decide (1<=us.length)&&decide (us.length<=4)
 | _=>false
theorem zZ{us:List D}:blt "len" [.tup us]=some (.int (us.length:Int)):=rfl
theorem gH(k:Nat){d:D}(h:dep d<1000):aK T 60 (k+1) "is_short_tuple" [d]=some (.bl (bh d)):=by
  cases ht:Bk "tuple" d with
  | false =>
    have e:bh d=false:=by cases d<;>first | rfl | simp[Bk] at ht
    rw[e]
    exact cj (fd:=aR (top 9)) rfl rfl (cN (dU (tY (GK rfl rfl rfl (by walk_at "xv") ht rfl (Xu h)))))
  | true =>
    cases d<;>simp[Bk] at ht
    rename_i us
    refine cj (fd:=aR (top 9)) rfl rfl (cN (dU (jD (GK rfl rfl rfl (by walk_at "xv") rfl) (mG ?_))))
    by_cases h1:1<=us.length
    · have e:bh (.tup us)=decide ((us.length:Int)<=4):=by
        simp only[bh,h1,decide_true,Bool.true_and]
        exact decide_eq_decide.mpr (by omega)
      rw[e]
      refine Hl (by walk_at "xv") (y:=.int (us.length:Int)) ?_ (oLe (by omega)) (by walk_at "xv") Tz
      refine' dH ?L31a_3a ?L31a_3b ?L31a_3c ?L31a_3d ?L31a_3e;(case L31a_3a=>rfl);(case L31a_3b=>rfl);(case L31a_3c=>rfl);(case L31a_3d=>walk_at "xm");(case L31a_3e=>exact zZ)
    · have e:bh (.tup us)=false:=by simp only[bh];rw[decide_eq_false h1];rfl
      rw[e]
      refine Ho (by walk_at "xv") (y:=.int (us.length:Int)) ?_ (Tw (by omega))
      refine' dH ?L31a_4a ?L31a_4b ?L31a_4c ?L31a_4d ?L31a_4e;(case L31a_4a=>rfl);(case L31a_4b=>rfl);(case L31a_4c=>rfl);(case L31a_4d=>walk_at "xm");(case L31a_4e=>exact zZ)
theorem at0{z:D}{zs:List D}:atD (z::zs) 0=some z:=wW (j:=0) rfl
def G5:D->Nat
 | .tup us=>us.length
 | _=>0
def lens(us:List D):Bool:=us.all fun r=>G5 r==G5 (us.headD .non)
def dz:D->Bool
 | .tup us=>bh (.tup us)&&us.all bh&&lens us
 | _=>false
theorem dZ{d:D}(h:bh d=true):∃ us,d=.tup us/\1<=us.length/\us.length<=4:=by
 cases d<;>simp[bh] at h
 rename_i us
 exact⟨us,rfl,by omega,by omega⟩
theorem pB{us:List D}(h:dep (.tup us)<1000):∀ x∈us,dep x<1000:=fun x hx=>by
 have:=wu hx
 simp only[dep] at h
 omega
theorem has_lines(k:Nat){d:D}(h:dep d<1000):aK T 60 (k+2) "has_lines" [d]=some (.bl (dz d)):=by
  cases hs:bh d with
  | false =>
    have e:dz d=false:=by cases d<;>first | rfl | (simp only[dz,hs];rfl)
    rw[e]
    refine cj (fd:=aR (top 10)) rfl rfl (EY (fl1:=.ret (.bl false)) (dU (WR (Hf ?_))) (cN (by walk_at "xv")) rfl)
    refine' aH ?L31a_5a ?L31a_5b ?L31a_5c;(case L31a_5a=>rfl);(case L31a_5b=>walk_at "xm");(case L31a_5c=>exact hs▸gH k h)
  | true =>
    obtain⟨us,rfl,g1,g4⟩:=dZ hs
    have hd:=pB h
    cases ha:us.all bh with
    | false =>
      have e:dz (.tup us)=false:=by simp only[dz,ha,Bool.and_false,Bool.false_and]
      rw[e]
      refine cj (fd:=aR (top 10)) rfl rfl (EY (fl1:=.ret (.bl false)) (dU (tX (eU ?_) (mG (Hf ?_)))) (cN (by walk_at "xv")) rfl)
      · refine' aH ?L31a_6a ?L31a_6b ?L31a_6c;(case L31a_6a=>rfl);(case L31a_6b=>walk_at "xm");(case L31a_6c=>exact hs▸gH k h)
      · refine dH rfl rfl rfl (aj (cu (l:=us) rfl (wSq rfl (by walk_at "xv") rfl) (mz (by omega)) (bN (g:=fun x=>.bl (bh x)) fun x hx=>cG rfl ?_)) aX) (by rw[pH,ha])
        refine' aH ?L31a_7a ?L31a_7b ?L31a_7c;(case L31a_7a=>rfl);(case L31a_7b=>walk_at "xm");(case L31a_7c=>exact gH k (hd x hx))
    | true =>
      have e:dz (.tup us)=lens us:=by simp only[dz,ha,hs,Bool.true_and]
      rw[e]
      refine cj (fd:=aR (top 10)) rfl rfl (sU (dU (tX (eU ?_) (mG (eU ?_)))) (cN ?_))
      · refine' aH ?L31a_8a ?L31a_8b ?L31a_8c;(case L31a_8a=>rfl);(case L31a_8b=>walk_at "xm");(case L31a_8c=>exact hs▸gH k h)
      · refine dH rfl rfl rfl (aj (cu (l:=us) rfl (wSq rfl (by walk_at "xv") rfl) (mz (by omega)) (bN (g:=fun x=>.bl (bh x)) fun x hx=>cG rfl ?_)) aX) (by rw[pH,ha])
        refine' aH ?L31a_9a ?L31a_9b ?L31a_9c;(case L31a_9a=>rfl);(case L31a_9b=>walk_at "xm");(case L31a_9c=>exact gH k (hd x hx))
      · refine dH rfl rfl rfl (aj (cu (l:=us) rfl (wSq rfl (by walk_at "xv") rfl) (mz (by omega)) (bN (g:=fun x=>.bl (G5 x==G5 (us.headD .non))) fun x hx=>cG rfl ?_)) aX) pH
        obtain⟨ys,rfl,y1,y4⟩:=dZ (List.all_eq_true.mp ha x hx)
        cases us with
        | nil=>simp at g1
        | cons z zs =>
          obtain⟨ws,rfl,w1,w4⟩:=dZ (List.all_eq_true.mp ha z (by simp))
          refine cg (x:=.int (ys.length:Int)) (y:=.int (ws.length:Int)) ?_ ?_ ?_
          · refine' dH ?L31a_10a ?L31a_10b ?L31a_10c ?L31a_10d ?L31a_10e;(case L31a_10a=>rfl);(case L31a_10b=>rfl);(case L31a_10c=>rfl);(case L31a_10d=>walk_at "xm");(case L31a_10e=>exact zZ)
          · refine dH rfl rfl rfl (aj ?_ aX) zZ
            exact xIx (by walk_at "xv") (by walk_at "xv") rfl at0
          · show some (D.bl ((ys.length:Int)==(ws.length:Int)))=_
            congr 2
            show _=(ys.length==ws.length)
            rw[Bool.eq_iff_iff]
            simp only[beq_iff_eq]
            omega
def fP:D->List D
 | .tup us=>us
 | _=>[]
def nums:List D->List D
 | []=>[]
 | r::rs=>fP r++nums rs
theorem m7:∀ (a:List D) (r:D),nums (a++[r])=nums a++fP r
 | [],r=>by simp[nums]
 | x::a,r=>by simp[nums,m7 a r]
theorem fG:∀ {us:List D},us.all bh=true->(nums us).length<=4*us.length
  | [],_=>by simp[nums]
  | r :: us, h => by
    rw[List.all_cons,Bool.and_eq_true] at h
    obtain⟨ys,rfl,y1,y4⟩:=dZ h.1
    have:=fG h.2
    simp only[nums,fP,List.length_append,List.length_cons]
    omega
theorem numbers_of(k:Nat){us:List D}(h4:us.length<=4)(ha:us.all bh=true):aK T 60 (k+1) "numbers_of" [.tup us]=some (.lst (nums us)):=by
 have hl:=fG ha
 have key:∀ (s:Sl),(s=.no\/∃ d,s=.sh d)->blk (cxN T 60 k) 60 60 (aR (top 11)).sc ((aR (top 11)).body.drop 2) [("table",.sh (.tup us)),("told",.ow (nums us)),("row",s)]=some (.ret (.lst (nums us))):=by
  intro s hs
  rcases hs with rfl | ⟨d,rfl⟩
  ·exact cN (by walk_at "xv")
  ·exact cN (by walk_at "xv")
 refine cj (fd:=aR (top 11)) rfl rfl (zq rfl (d:=.lst []) (by walk_at "xv") (J2 (l:=us) (fl1:=.nxt [("table",.sh (.tup us)),("told",.ow (nums us)),("row",En us)]) (wSq rfl (by walk_at "xv") rfl) ?_ (key _ ?_)))
 ·refine nD (R:=fun pre=>[("table",.sh (.tup us)),("told",.ow (nums pre)),("row",En pre)]) (whole:=us) (fun pre x post e=>?_) (pre:=[]) rfl
  have hx:bh x=true:=List.all_eq_true.mp ha x (by rw[<- e];simp)
  have hp:pre.all bh=true:=by rw[<- e,List.all_append,Bool.and_eq_true] at ha;exact ha.1
  have hl2:=fG hp
  have hl3:pre.length<=us.length:=by rw[<- e];simp
  obtain⟨ys,rfl,y1,y4⟩:=dZ hx
  rw[m7,sO,show fP (.tup ys)=ys from rfl]
  exact jr rfl (R6 rfl rfl rfl rfl (mz (by omega)) (by walk_at "xv") dB)
 ·cases us with
  | nil=>exact .inl rfl
  | cons x r=>exact .inr ⟨_,rfl⟩
def jo(d:D):Bool:=dz d&&(nums (fP d)).all whole
theorem vo{d:D}(h:dz d=true):∃ us,d=.tup us/\1<=us.length/\us.length<=4/\us.all bh=true/\lens us=true:=by
 cases d<;>simp only[dz,Bool.and_eq_true] at h<;>try (cases h;done)
 rename_i us
 obtain⟨us',e,h1,h4⟩:=dZ h.1.1
 cases e
 exact⟨us,rfl,h1,h4,h.1.2,h.2⟩
theorem iR{x:D}:∀ {us:List D},x∈nums us->∃ r∈us,x∈fP r
  | r :: us, h => by
    simp only[nums,List.mem_append] at h
    rcases h with h | h
    · exact⟨r,by simp,h⟩
    · obtain⟨r',h1,h2⟩:=iR h
      exact⟨r',List.mem_cons_of_mem _ h1,h2⟩
theorem yJ{us:List D}(h:dep (.tup us)<1000):∀ x∈nums us,dep x<1000:=fun x hx=>by
 obtain⟨r,h1,h2⟩:=iR hx
 have h3:=pB h r h1
 cases r<;>simp only[fP] at h2<;>try (cases h2;done)
 exact pB h3 x h2
theorem yX(k:Nat){d:D}(h:dep d<1000):aK T 60 (k+3) "has_table_form" [d]=some (.bl (jo d)):=by
  cases hl:dz d with
  | false =>
    have e:jo d=false:=by simp only[jo,hl,Bool.false_and]
    rw[e]
    refine cj (fd:=aR (top 12)) rfl rfl (cN (dU (tY ?_)))
    refine' aH ?L31a_11a ?L31a_11b ?L31a_11c;(case L31a_11a=>rfl);(case L31a_11b=>walk_at "xm");(case L31a_11c=>exact hl▸has_lines k h)
  | true =>
    obtain⟨us,rfl,g1,g4,ga,_⟩:=vo hl
    have e:jo (.tup us)=(nums us).all whole:=by simp only[jo,hl,Bool.true_and,fP]
    have hn:=fG ga
    have hd:=yJ h
    rw[e]
    refine cj (fd:=aR (top 12)) rfl rfl (cN (dU (jD ?_ (mG ?_))))
    · refine' aH ?L31a_12a ?L31a_12b ?L31a_12c;(case L31a_12a=>rfl);(case L31a_12b=>walk_at "xm");(case L31a_12c=>exact hl▸has_lines k h)
    · refine dH rfl rfl rfl (aj (cu (l:=nums us) rfl (wSq rfl (aH rfl (by walk_at "xm") (numbers_of (k+1) g4 ga)) rfl) (mz (by omega)) (bN (g:=fun x=>.bl (whole x)) fun x hx=>cG rfl ?_)) aX) pH
      refine' aH ?L31a_13a ?L31a_13b ?L31a_13c;(case L31a_13a=>rfl);(case L31a_13b=>walk_at "xm");(case L31a_13c=>exact is_whole (k+1) (hd x hx))
theorem Ec(k:Nat){d:D}(h:dep d<1000)(hf:jo d=true):aK T 60 (k+4) "need_table" [d]=some .non:=by
 refine tV (fd:=aR (top 15)) rfl rfl (sU (eU ?_) dB)
 refine' aH ?L31a_14a ?L31a_14b ?L31a_14c;(case L31a_14a=>rfl);(case L31a_14b=>walk_at "xm");(case L31a_14c=>exact hf▸yX k h)
theorem d9{m:Nat}{h:Nat->D}:bh (.tup (Ls m h))=(decide (1<=m)&&decide (m<=4)):=by simp only[bh,aY]
theorem fO{m:Nat}{h:Nat->D}{x:D}(hx:x∈Ls m h):∃ i,i<m/\x=h i:=by
 unfold Ls at hx
 obtain⟨i,hi,rfl⟩:=List.mem_map.mp hx
 exact⟨i,List.mem_range.mp hi,rfl⟩
theorem vL{m:Nat}{h:Nat->D}(hm:1<=m):(Ls m h).headD .non=h 0:=by
 obtain⟨m',rfl⟩:∃ m',m=m'+1:=⟨m-1,by omega⟩
 unfold Ls
 rw[List.range_succ_eq_map];rfl
theorem zA{m n:Nat}{f:Nat->Nat->Int}(h1:1<=m)(h2:1<=n):jo (tbl m n f)=(decide (m<5)&&decide (n<5)):=by
 by_cases hm:m<=4
 ·by_cases hn:n<=4
  ·have e1:dz (tbl m n f)=true:=by
    show(bh (tbl m n f)&&(Ls m fun i=>row n (f i)).all bh&&lens (Ls m fun i=>row n (f i)))=true
    rw[d9,decide_eq_true h1,decide_eq_true hm]
    have a1:(Ls m fun i=>row n (f i)).all bh=true:=by
     rw[List.all_eq_true]
     intro x hx
     obtain⟨i,_,rfl⟩:=fO hx
     rw[d9,decide_eq_true h2,decide_eq_true hn];rfl
    have a2:lens (Ls m fun i=>row n (f i))=true:=by
     unfold lens
     rw[List.all_eq_true,vL h1]
     intro x hx
     obtain⟨i,_,rfl⟩:=fO hx
     simp[G5,aY]
    rw[a1,a2];rfl
   have e2:(nums (fP (tbl m n f))).all whole=true:=by
    rw[List.all_eq_true]
    intro x hx
    obtain⟨r,hr,hx⟩:=iR hx
    obtain⟨i,_,rfl⟩:=fO (show r∈Ls m fun i=>row n (f i) from hr)
    obtain⟨j,_,rfl⟩:=fO (show x∈Ls n fun j=>D.int (f i j) from hx)
    rfl
   unfold jo
   rw[e1,e2,decide_eq_true (show m<5 by omega),decide_eq_true (show n<5 by omega)]
  ·have e1:dz (tbl m n f)=false:=by
    show(bh (tbl m n f)&&(Ls m fun i=>row n (f i)).all bh&&lens (Ls m fun i=>row n (f i)))=false
    have a1:(Ls m fun i=>row n (f i)).all bh=false:=by
     rw[List.all_eq_false]
     refine⟨row n (f 0),?_,?_⟩
     ·unfold Ls;exact List.mem_map.mpr ⟨0,List.mem_range.mpr (by omega),rfl⟩
     ·rw[d9,decide_eq_false hn];simp
    rw[a1,Bool.and_false,Bool.false_and]
   unfold jo
   rw[e1,decide_eq_false (show ¬ n<5 by omega),Bool.and_false,Bool.false_and]
 ·have e1:dz (tbl m n f)=false:=by
   show(bh (tbl m n f)&&(Ls m fun i=>row n (f i)).all bh&&lens (Ls m fun i=>row n (f i)))=false
   rw[d9,decide_eq_false hm,Bool.and_false,Bool.false_and,Bool.false_and]
  unfold jo
  rw[e1,decide_eq_false (show ¬ m<5 by omega),Bool.false_and,Bool.false_and]
theorem Fj{m n:Nat}{f:Nat->Nat->Int}(h1:1<=m)(h2:m<=4)(h3:1<=n)(h4:n<=4):jo (tbl m n f)=true:=by rw[zA h1 h3,decide_eq_true (by omega),decide_eq_true (by omega)];rfl
theorem need_table(k:Nat){m n:Nat}{f:Nat->Nat->Int}(h1:1<=m)(h2:m<=4)(h3:1<=n)(h4:n<=4):aK T 60 (k+4) "need_table" [tbl m n f]=some .non :=
 Ec k (Nat.lt_of_le_of_lt wk (by decide)) (Fj h1 h2 h3 h4)
theorem eX(k:Nat){i l h:Int}(h1:l<=i)(h2:i<=h):aK T 60 (k+2) "is_whole_within" [.int i,.int l,.int h]=some (.bl true):=by
 rw[vI k (by simp[dep])]
 simp[within,h1,h2]
theorem picked(k:Nat){n q:Nat}{f:Nat->Int}{c:Nat->Nat}(h4:q<=4)(hc:∀ j,j<q->c j<n):aK T 60 (k+1) "picked" [row n f,plc q c]=some (row q fun j=>f (c j)):=by
 refine cj (fd:=aR (top 35)) rfl rfl (cN (dH rfl rfl rfl (aj ?_ aX) pG))
 refine' cu ?L31a_20a ?L31a_20b ?L31a_20c (aW ?L31a_20d);(case L31a_20a=>rfl);(case L31a_20b=>walk_at "xi");(case L31a_20c=>exact dY (by omega))
 case L31a_20d =>
  intro j hj
  refine' cG ?L31a_20e ?L31a_20f;(case L31a_20e=>rfl)
  case L31a_20f =>
   refine' Ky ?L31a_21a ?L31a_21b ?L31a_21c ?L31a_21d ?L31a_21e;(case L31a_21a=>walk_at "xv");(case L31a_21b=>walk_at "xv");(case L31a_21c=>exact hc j hj);(case L31a_21d=>rfl);(case L31a_21e=>rfl)
theorem part_at(k:Nat){m n q p:Nat}{f:Nat->Nat->Int}{r c:Nat->Nat}(g2:q<=4)(g4:p<=4)
  (hr:∀ j,j<q->r j<m) (hc:∀ j,j<p->c j<n):aK T 60 (k+2) "part_at" [tbl m n f,plc q r,plc p c]=some (tbl q p fun i j=>f (r i) (c j)):=by
 refine cj (fd:=aR (top 36)) rfl rfl (cN (dH rfl rfl rfl (aj ?_ aX) pG))
 ·refine' cu ?L31a_22a ?L31a_22b ?L31a_22c (aW ?L31a_22d);(case L31a_22a=>rfl);(case L31a_22b=>walk_at "xi");(case L31a_22c=>exact dY (by omega))
  case L31a_22d =>
   intro i hi
   refine' cG ?L31a_22e ?L31a_22f;(case L31a_22e=>rfl)
   case L31a_22f =>
    refine' aH ?a1 (aj ?a2 (aj ?a3 aX)) (picked _ g4 hc);(case a1=>rfl)
    ·refine' Ky ?L31a_23a ?L31a_23b ?L31a_23c ?L31a_23d ?L31a_23e;(case L31a_23a=>walk_at "xv");(case L31a_23b=>walk_at "xv");(case L31a_23c=>exact hr i hi);(case L31a_23d=>rfl);(case L31a_23e=>rfl)
    ·walk_at "xv"
def Sm(m n:Nat)(f:Nat->Nat->Int):Prop:=∀ i j,i<m->j<n->small (f i j)=true
def tE(ns:List Int)(k:Nat):Int:=if k<ns.length then ns.getD k 0 else if ns=[] then 0 else ns.getD (k%ns.length) 0*31+k
def dO(ns:List Int)(k:Nat):Int:=(tE ns k+6151*((k:Int)+1))*40692%2147483399
def pickN(ns:List Int)(k many:Nat):Nat:=((dO ns k*dO ns k+dO ns k / 31)%2147483629%(many:Int)).toNat
theorem bT{ns:List Int}{k many:Nat}(h:0<many):pickN ns k many<many:=by
 unfold pickN
 have h1:=Int.emod_nonneg ((dO ns k*dO ns k+dO ns k / 31)%2147483629) (show(many:Int)≠0 by omega)
 have h2:=Int.emod_lt_of_pos ((dO ns k*dO ns k+dO ns k / 31)%2147483629) (show(0:Int)<many by omega)
 omega
abbrev scr(ns:List Int):D:=.lst (ns.map D.int)
theorem kE{ns:List Int}:blt "len" [scr ns]=some (.int (ns.length:Int)):=by
 show some (D.int ((ns.map D.int).length:Int))=_
 rw[List.length_map]
theorem Ae{ns:List Int}{k:Nat}(h:k<ns.length):atD (ns.map D.int) (k:Int)=some (.int (ns.getD k 0)):=by
 refine wW ?_
 rw[List.getElem?_map,List.getElem?_eq_getElem h,List.getD_eq_getElem?_getD,List.getElem?_eq_getElem h];rfl
theorem CJ{ns:List Int}:dep (scr ns)<=50:=by
 simp only[dep]
 have:=jw (b:=0) (l:=ns.map D.int) fun d hd=>by
  obtain⟨i,_,rfl⟩:=List.mem_map.mp hd
  simp[dep]
 omega
theorem cell(k:Nat)(ns:List Int)(kk:Nat):aK T 60 (k+1) "_law_cell" [scr ns,.int (kk:Int)]=some (.int (tE ns kk)):=by
 unfold tE
 by_cases h:kk<ns.length
 ·rw[if_pos h]
  refine cj (fd:=aR (top 69)) rfl rfl (EY (fl1:=.ret (.int (ns.getD kk 0))) (cg (by walk_at "xv") (dH rfl rfl rfl (by walk_at "xm") kE) (oLt (by omega))) (cN ?_) rfl)
  exact xIx (by walk_at "xv") (by walk_at "xv") rfl (Ae h)
 ·rw[if_neg h]
  by_cases e:ns=[]
  ·subst e
   rw[if_pos rfl]
   refine cj (fd:=aR (top 69)) rfl rfl (sU (cg (by walk_at "xv") (dH rfl rfl rfl (by walk_at "xm") (kE (ns:=[]))) (Mx (by simp))) (EY (fl1:=.ret (.int 0)) (cg (by walk_at "xv") (by walk_at "xv") rfl) (cN (by walk_at "xv")) rfl))
  ·rw[if_neg e]
   have hl:0<ns.length:=List.length_pos_iff.mpr e
   refine cj (fd:=aR (top 69)) rfl rfl (sU (cg (by walk_at "xv") (dH rfl rfl rfl (by walk_at "xm") kE) (Mx (by omega))) (sU (cg (y:=.lst []) (by walk_at "xv") (by walk_at "xv") ?_) (cN ?_)))
   ·rw[oEq CJ (by simp[dep,deps])]
    cases ns with
    | nil=>exact absurd rfl e
    | cons a r=>rfl
   ·refine bR (bR (x:=.int (ns.getD (kk%ns.length) 0)) (xIx (i:=((kk%ns.length:Nat):Int)) (by walk_at "xv") ?_ rfl (Ae (Nat.mod_lt _ hl))) (by walk_at "xv") (rA (.inr (by decide)))) (by walk_at "xv") rfl
    refine bR (by walk_at "xv") (dH rfl rfl rfl (by walk_at "xm") kE) ?_
    rw[G6 (by omega)]
    rfl
theorem pick(k:Nat)(ns:List Int)(kk:Nat){many:Nat}(h:0<many):aK T 60 (k+2) "_law_pick" [scr ns,.int (kk:Int),.int (many:Int)]=some (.int ((pickN ns kk many:Nat):Int)):=by
 have d0:=Int.emod_nonneg ((tE ns kk+6151*((kk:Int)+1))*40692) (show(2147483399:Int)≠0 by decide)
 have d1:=Int.emod_lt_of_pos ((tE ns kk+6151*((kk:Int)+1))*40692) (show(0:Int)<2147483399 by decide)
 have e:((pickN ns kk many:Nat):Int)=(dO ns kk*dO ns kk+dO ns kk / 31)%2147483629%(many:Int):=by
  unfold pickN
  exact Int.toNat_of_nonneg (Int.emod_nonneg _ (by omega))
 rw[e]
 refine cj (fd:=aR (top 70)) rfl rfl (zq rfl (d:=.int (dO ns kk)) ?_ (cN ?_))
 ·refine bR (bR (bR (x:=.int (tE ns kk)) (y:=.int (6151*((kk:Int)+1))) ?_ ?_ rfl) (by walk_at "xv") (rA (.inr (by decide)))) (by walk_at "xv") (G6 (by decide))
  ·refine' aH ?L31a_24a ?L31a_24b ?L31a_24c;(case L31a_24a=>rfl);(case L31a_24b=>walk_at "xm");(case L31a_24c=>exact cell _ ns kk)
  ·exact bR (by walk_at "xv") (bR (by walk_at "xv") (by walk_at "xv") rfl) (rA (.inl (by decide)))
 ·refine bR (bR (bR (bR (by walk_at "xv") (by walk_at "xv") (rA (.inl ?_))) (bR (by walk_at "xv") (by walk_at "xv") (X6 (by decide) (by decide))) rfl) (by walk_at "xv") (G6 (by decide))) (by walk_at "xv") (G6 (by omega))
  unfold small
  unfold dO
  rw[decide_eq_true (by omega),decide_eq_true (by omega)];rfl
theorem n8{cx:Cxt}{n:Nat}{sc:Scope}{ρ:Rho}{e:Expr}{d d':D}(h:ev cx n sc ρ e=some d)(q:d=d'):ev cx n sc ρ e=some d':=q▸h
def mul(n:Nat)(f g:Nat->Nat->Int):Nat->Nat->Int:=fun i j=>xJ n fun l=>f i l*g l j
def dl(i j:Nat):Int:=if j=i then 1 else 0
theorem plain_row(k:Nat){n i:Nat}(h4:n<=4):aK T 60 (k+1) "plain_row" [.int (n:Int),.int (i:Int)]=some (row n (dl i)):=by
 refine cj (fd:=aR (top 37)) rfl rfl (cN (dH rfl rfl rfl (aj ?_ aX) pG))
 refine' cu ?L31a_25a ?L31a_25b ?L31a_25c (aW ?L31a_25d);(case L31a_25a=>rfl);(case L31a_25b=>walk_at "xi");(case L31a_25c=>exact dY (by omega))
 case L31a_25d =>
  intro j hj
  refine' cG ?L31a_25e ?L31a_25f;(case L31a_25e=>rfl)
  case L31a_25f =>
   by_cases e:j=i
   ·have:dl i j=1:=if_pos e
    rw[this]
    exact Hh (cg (by walk_at "xv") (by walk_at "xv") (G3 (by omega))) (by walk_at "xv")
   ·have:dl i j=0:=if_neg e
    rw[this]
    exact Hj (cg (by walk_at "xv") (by walk_at "xv") (G4 (by omega))) (by walk_at "xv")
theorem need_size(k:Nat){n:Nat}(h1:1<=n)(h4:n<=4):aK T 60 (k+3) "need_size" [.int (n:Int),.int 4]=some .non:=by
 refine tV (fd:=aR (top 17)) rfl rfl (sU (eU ?_) dB)
 refine' aH ?L31a_26a ?L31a_26b ?L31a_26c;(case L31a_26a=>rfl);(case L31a_26b=>walk_at "xm");(case L31a_26c=>exact eX k (by omega) (by omega))
theorem plain(k:Nat){n:Nat}(h1:1<=n)(h4:n<=4):aK T 60 (k+4) "plain" [.int (n:Int)]=some (tbl n n dl):=by
 refine cj (fd:=aR (top 38)) rfl rfl (zj rfl (d:=.non) ?_ (cN (dH rfl rfl rfl (aj ?_ aX) pG)))
 ·refine' aH ?L31a_27a ?L31a_27b ?L31a_27c;(case L31a_27a=>rfl);(case L31a_27b=>walk_at "xm");(case L31a_27c=>exact need_size k h1 h4)
 ·refine' cu ?L31a_28a ?L31a_28b ?L31a_28c (aW ?L31a_28d);(case L31a_28a=>rfl);(case L31a_28b=>walk_at "xi");(case L31a_28c=>exact dY (by omega))
  case L31a_28d =>
   intro i hi
   refine' cG ?L31a_28e ?L31a_28f;(case L31a_28e=>rfl)
   case L31a_28f =>
    refine' aH ?L31a_29a ?L31a_29b ?L31a_29c;(case L31a_29a=>rfl);(case L31a_29b=>walk_at "xm");(case L31a_29c=>exact plain_row (k+2) h4)
def skip(j b:Nat):Nat:=if b<j then b else b+1
def sg(b:Nat)(w:Int):Int:=if b%2=1 then -w else w
def sub(f:Nat->Nat->Int)(r c:Nat):Nat->Nat->Int:=fun a b=>f (skip r a) (skip c b)
def det:Nat->(Nat->Nat->Int)->Int
 | 0,_=>1
 | n+1,f=>xJ (n+1) fun j=>f 0 j*sg (0+j) (det n (sub f 0 j))
def cof(n:Nat)(f:Nat->Nat->Int)(r c:Nat):Int:=sg (r+c) (det (n-1) (sub f r c))
theorem Kr{m r:Nat}{h:Nat->D}(hr:r<m):Ls r h++Ls (m-(r+1)) (fun i=>h (r+1+i))=Ls (m-1) fun i=>h (skip r i):=by
 apply List.ext_getElem?
 intro i
 by_cases h1:i<r
 ·rw[List.getElem?_append_left (by rw[aY];exact h1),cI h1,cI (by omega)]
  simp[skip,h1]
 ·rw[List.getElem?_append_right (by rw[aY];omega),aY]
  by_cases h2:i<m-1
  ·rw[cI (by omega),cI h2]
   simp only[skip,h1,if_false]
   rw[show r+1+(i-r)=i+1 by omega]
  ·rw[List.getElem?_eq_none (by rw[aY];omega),List.getElem?_eq_none (by rw[aY];omega)]
section
variable {cx:Cxt} {n:Nat} {sc:Scope} {ρ:Rho} {a b a2 b2:Expr} {p p2 q q2:Pos} {op:Pos}
theorem K3{m j:Nat}{h:Nat->D}(h1:ev cx n sc ρ a=some (.tup (Ls m h)))(h2:ev cx n sc ρ b=some (.int (j:Int)))(hj:j<m):ev cx (n+1) sc ρ (.Subscript a (.Slice none (some b) none q) p)=some (.tup (Ls j h)):=by
 rw[xSl h1 Jq (Jp h2),Ko (by omega)]
 have:(iQ (Ls m h).length (Ls m h).length (some (j:Int))==(Ls m h).length)=false:=by
  unfold iQ
  rw[aY]
  simp only
  rw[if_neg (by omega)]
  exact beq_eq_false_iff_ne.mpr (by omega)
 rw[this,Bool.and_false]
theorem Tc{m r:Nat}{h:Nat->D}(h1:ev cx n sc ρ a=some (.tup (Ls m h)))(h2:ev cx n sc ρ b=some (.int (r:Int)))(h3:ev cx n sc ρ a2=some (.tup (Ls m h)))(h4:ev cx n sc ρ b2=some (.int ((r:Int)+1)))(hr:r<m)(hm:m<=100000) :
  ev cx (n+2) sc ρ (.BinOp (.Subscript a (.Slice none (some b) none q) p) .Add (.Subscript a2 (.Slice (some b2) none none q2) p2) op)=some (.tup (Ls (m-1) fun i=>h (skip r i))):=by
 refine bR (K3 h1 h2 hr) (K1 (j:=r+1) h3 (by rw[h4];rfl) (by omega) (by omega) (by omega)) ?_
 rw[<- Kr hr]
 show(if szl ((Ls r h).length+(Ls (m-(r+1)) _).length)=true then _ else _)=_
 rw[if_pos (by rw[aY,aY];exact mz (by omega))]
end
theorem without(k:Nat){m n r c:Nat}{f:Nat->Nat->Int}(hr:r<m)(hc:c<n)(h2:m<=4)(h4:n<=4):aK T 60 (k+1) "without" [tbl m n f,.int (r:Int),.int (c:Int)]=some (tbl (m-1) (n-1) (sub f r c)):=by
 refine cj (fd:=aR (top 40)) rfl rfl (zq rfl (d:=.tup (Ls (m-1) fun i=>row n (f (skip r i)))) ?_ (cN (dH rfl rfl rfl (aj ?_ aX) pG)))
 ·refine Tc (h:=fun i=>row n (f i)) ?_ ?_ ?_ ?_ hr (by omega)
  ·walk_at "xv"
  ·walk_at "xv"
  ·walk_at "xv"
  ·exact bR (by walk_at "xv") (by walk_at "xv") rfl
 ·refine' cu ?L31a_30a ?L31a_30b ?L31a_30c (aW ?L31a_30d);(case L31a_30a=>rfl);(case L31a_30b=>walk_at "xi");(case L31a_30c=>exact dY (by omega))
  case L31a_30d =>
   intro i hi
   refine' cG ?L31a_30e ?L31a_30f;(case L31a_30e=>rfl)
   case L31a_30f =>
    refine Tc (h:=fun j=>.int (f (skip r i) j)) ?_ ?_ ?_ ?_ hc (by omega)
    ·walk_at "xv"
    ·walk_at "xv"
    ·walk_at "xv"
    ·exact bR (by walk_at "xv") (by walk_at "xv") rfl
theorem rF(k:Nat){n:Nat}{f:Nat->Nat->Int}(h4:n+1<=4)(hs:Sm (n+1) (n+1) f)(ih:∀ r c,r<n+1->c<n+1->aK T 60 k "worth_of" [tbl n n (sub f r c)]=some (.int (det n (sub f r c)))) :
  (∀ r c,r<n+1->c<n+1->aK T 60 (k+2) "signed_rest" [tbl (n+1) (n+1) f,.int (r:Int),.int (c:Int)]=some (.int (cof (n+1) f r c)))/\aK T 60 (k+4) "worth_of" [tbl (n+1) (n+1) f]=some (.int (det (n+1) f)):=by
 have rest:∀ r c,r<n+1->c<n+1->aK T 60 (k+1) "rest_worth" [tbl (n+1) (n+1) f,.int (r:Int),.int (c:Int)]=some (.int (det n (sub f r c))):=by
  intro r c hr hc
  refine cj (fd:=aR (top 42)) rfl rfl (cN ?_)
  refine aH rfl (aj ?_ aX) (ih r c hr hc)
  cases k with
  | zero=>have:=ih r c hr hc;rw[Gu] at this;cases this
  | succ k=>refine' aH ?L31a_31a ?L31a_31b ?L31a_31c;(case L31a_31a=>rfl);(case L31a_31b=>walk_at "xm");(case L31a_31c=>exact without k hr hc h4 h4)
 have sgn:∀ r c,r<n+1->c<n+1->aK T 60 (k+2) "signed_rest" [tbl (n+1) (n+1) f,.int (r:Int),.int (c:Int)]=some (.int (cof (n+1) f r c)):=by
  intro r c hr hc
  refine cj (fd:=aR (top 43)) rfl rfl (zq rfl (d:=.int (det n (sub f r c))) ?_ (cN ?_))
  ·refine' aH ?L31a_32a ?L31a_32b ?L31a_32c;(case L31a_32a=>rfl);(case L31a_32b=>walk_at "xm");(case L31a_32c=>exact rest r c hr hc)
  ·unfold cof sg
   by_cases q:(r+c)%2=1
   ·rw[if_pos q]
    refine Hh (cg (x:=.int (((r+c)%2:Nat):Int)) (n8 (bR (bR (by walk_at "xv") (by walk_at "xv") rfl) (by walk_at "xv") (G6 (by decide))) (congrArg D.int (by omega))) (by walk_at "xv") (G3 (by omega))) (K5 ?_)
    walk_at "xv"
   ·rw[if_neg q]
    refine Hj (cg (x:=.int (((r+c)%2:Nat):Int)) (n8 (bR (bR (by walk_at "xv") (by walk_at "xv") rfl) (by walk_at "xv") (G6 (by decide))) (congrArg D.int (by omega))) (by walk_at "xv") (G4 (by omega))) ?_
    walk_at "xv"
 refine⟨sgn,?_⟩
 have rows:aK T 60 (k+3) "row_with_rests" [tbl (n+1) (n+1) f,.int 0]=some (.lst (Ls (n+1) fun c=>.tup [.int (f 0 c),.int (cof (n+1) f 0 c)])):=by
  refine cj (fd:=aR (top 44)) rfl rfl (cN ?_)
  refine' cu ?L31a_33a ?L31a_33b ?L31a_33c (aW ?L31a_33d);(case L31a_33a=>rfl);(case L31a_33b=>walk_at "xi");(case L31a_33c=>exact dY (by omega))
  case L31a_33d =>
   intro c hc
   refine' cG ?L31a_33e ?L31a_33f;(case L31a_33e=>rfl)
   case L31a_33f =>
    refine mF (aj (by walk_at "xv") (aj ?_ aX)) rfl
    refine aH rfl (aj ?_ (aj ?_ (aj ?_ aX))) (sgn 0 c (by omega) hc)
    ·walk_at "xv"
    ·walk_at "xv"
    ·walk_at "xv"
 refine cj (fd:=aR (top 41)) rfl rfl (sU (cg (x:=.int ((n+1:Nat):Int)) ?_ (by walk_at "xv") (G4 (by omega))) (cN ?_))
 ·walk_at "xv"
 ·have e:det (n+1) f=xJ (n+1) fun j=>f 0 j*cof (n+1) f 0 j:=rfl
  rw[e]
  refine dH rfl rfl rfl (aj ?_ aX) WK
  refine' cu ?a1 ?a2 ?a3 (aW ?a4);(case a1=>rfl)
  case a2 =>
   refine wSq rfl (x:=.lst (Ls (n+1) fun c=>.tup [.int (f 0 c),.int (cof (n+1) f 0 c)])) ?_ rfl
   refine' aH ?L31a_34a ?L31a_34b ?L31a_34c;(case L31a_34a=>rfl);(case L31a_34b=>walk_at "xm");(case L31a_34c=>exact rows)
  case a3=>exact dY (by omega)
  case a4 =>
   intro c hc
   refine' cG ?b1 (bR ?b2 ?b3 (rA (.inl (hs 0 c (by omega) hc))));(case b1=>rfl);(case b2=>walk_at "xv");(case b3=>walk_at "xv")
theorem worth:∀ (n k:Nat) {f:Nat->Nat->Int},n<=4->Sm n n f->aK T 60 (k+4*n+1) "worth_of" [tbl n n f]=some (.int (det n f))
  | 0, k, f, _, _ => by
    show aK T 60 (k+1) "worth_of" [.tup []]=some (.int 1)
    kernel_rfl
  | n + 1, k, f, h, hs => by
    have q:=rF (k+4*n+1) h hs fun r c hr hc=>worth n k (by omega) fun i j hi hj=>hs _ _ (by unfold skip;split<;>omega) (by unfold skip;split<;>omega)
    have e:k+4*(n+1)+1=k+4*n+1+4:=by omega
    rw[e]
    exact q.2
theorem whole_minor(k n:Nat){f:Nat->Nat->Int}(h1:1<=n)(h4:n<=4)(hs:Sm n n f):aK T 60 (k+4*n+5) "whole_minor" [tbl n n f]=some (.int (det n f)):=by
 have sq:aK T 60 (k+4*n+3) "is_square" [tbl n n f]=some (.bl true):=by
  refine cj (fd:=aR (top 13)) rfl rfl (cN (cg (x:=.int (n:Int)) ?_ ?_ (G3 rfl)))
  ·walk_at "xv"
  ·walk_at "xv"
 have ns:aK T 60 (k+4*n+4) "need_square" [tbl n n f]=some .non:=by
  refine tV (fd:=aR (top 16)) rfl rfl (sU (eU ?_) dB)
  refine' aH ?L31a_35a ?L31a_35b ?L31a_35c;(case L31a_35a=>rfl);(case L31a_35b=>walk_at "xm");(case L31a_35c=>exact sq)
 refine cj (fd:=aR (top 52)) rfl rfl (zj rfl (d:=.non) ?_ (zj rfl (d:=.non) ?_ (cN ?_)))
 ·refine' aH ?L31a_36a ?L31a_36b ?L31a_36c;(case L31a_36a=>rfl);(case L31a_36b=>walk_at "xm");(case L31a_36c=>exact need_table (k+4*n) h1 h4 h1 h4)
 ·refine' aH ?L31a_37a ?L31a_37b ?L31a_37c;(case L31a_37a=>rfl);(case L31a_37b=>walk_at "xm");(case L31a_37c=>exact ns)
 ·refine aH rfl (by walk_at "xm") ?_
  have q:=worth n (k+3) h4 hs
  rw[show k+3+4*n+1=k+4*n+4 by omega] at q
  exact q
end M31
namespace M31
open PySem DE
abbrev plL(l:List Nat):D:=.tup (l.map fun(k:Nat)=>D.int (k:Int))
theorem Am(l:List Nat):plL l=plc l.length fun i=>l.getD i 0:=by
 show D.tup _=D.tup _
 rw[SN 0]
def subs(many:Nat):Nat->List (List Nat)
 | 0=>[[]]
 | s+1=>(subs many s).flatMap fun a=>(List.range' ((a.getLast?.map (· + 1)).getD 0) (many-(a.getLast?.map (· + 1)).getD 0)).map fun x=>a++[x]
theorem mR(k:Nat){n s:Nat}(h1:1<=n)(h4:n<=4)(s1:1<=s)(sn:s<=n):aK T 60 (k+2) "rising_tuples" [.int (n:Int),.int (s:Int)]=some (.lst ((subs n s).map plL)):=by
 match n,s,h1,h4,s1,sn with
 | 1,1,_,_,_,_=>kernel_rfl
 | 2,1,_,_,_,_=>kernel_rfl
 | 2,2,_,_,_,_=>kernel_rfl
 | 3,1,_,_,_,_=>kernel_rfl
 | 3,2,_,_,_,_=>kernel_rfl
 | 3,3,_,_,_,_=>kernel_rfl
 | 4,1,_,_,_,_=>kernel_rfl
 | 4,2,_,_,_,_=>kernel_rfl
 | 4,3,_,_,_,_=>kernel_rfl
 | 4,4,_,_,_,_=>kernel_rfl
def okL(n:Nat)(l:List Nat):Bool:=l.all fun x=>decide (x<n)
theorem Ax{n:Nat}{l:List Nat}(h:okL n l=true):∀ j,j<l.length->l.getD j 0<n:=by
 unfold okL at h
 rw[List.all_eq_true] at h
 intro j hj
 have:=h l[j] (List.getElem_mem _)
 rw[List.getD_eq_getElem?_getD,List.getElem?_eq_getElem hj]
 simpa using this
def SJ(n s:Nat):Bool:=(subs n s).all fun S=>okL n S&&decide (S.length=s)
theorem fC{n s:Nat}(h1:1<=n)(h4:n<=4)(s1:1<=s)(sn:s<=n):SJ n s=true/\(subs n s).length<=6:=by
 match n,s,h1,h4,s1,sn with
 | 1,1,_,_,_,_=>decide
 | 2,1,_,_,_,_=>decide
 | 2,2,_,_,_,_=>decide
 | 3,1,_,_,_,_=>decide
 | 3,2,_,_,_,_=>decide
 | 3,3,_,_,_,_=>decide
 | 4,1,_,_,_,_=>decide
 | 4,2,_,_,_,_=>decide
 | 4,3,_,_,_,_=>decide
 | 4,4,_,_,_,_=>decide
theorem ur{n s:Nat}{S:List Nat}(h1:1<=n)(h4:n<=4)(s1:1<=s)(sn:s<=n)(hS:S∈subs n s):okL n S=true/\S.length=s:=by
 have q:=List.all_eq_true.mp (fC h1 h4 s1 sn).1 S hS
 simp only[Bool.and_eq_true,decide_eq_true_eq] at q
 exact q
def dM(f:Nat->Nat->Int)(R C:List Nat):Int:=det R.length fun i j=>f (R.getD i 0) (C.getD j 0)
def mnD(f:Nat->Nat->Int)(R C:List Nat):D:=.tup [plL R,plL C,.int (dM f R C)]
theorem lN{α:Type}{f:D->Rho->Option Fl}{g:α->D}{R:List α->Rho}{whole:List α}(h:∀ pre x post,pre++x::post=whole->f (g x) (R pre)=some (.nxt (R (pre++[x])))):∀ {l pre:List α},pre++l=whole->dG f (l.map g) (R pre)=some (.nxt (R whole))
  | [],pre,e=>by rw[List.append_nil] at e;rw[e];rfl
  | x :: l, pre, e => by
    simp only[List.map_cons,dG,h pre x l e]
    exact lN h (l:=l) (pre:=pre++[x]) (by rw[List.append_assoc];exact e)
def ji{α:Type}(g:α->D)(l:List α):Sl:=match l.getLast? with
 | none=>.no
 | some x=>.sh (g x)
theorem jV{α:Type}{g:α->D}{l:List α}{x:α}:ji g (l++[x])=.sh (g x):=by simp[ji]
theorem qL{α:Type}(g:α->D)(l:List α):ji g l=.no\/∃ d,ji g l=.sh d:=by
 unfold ji
 split
 ·exact .inl rfl
 ·exact .inr ⟨_,rfl⟩
structure Tb (m n:Nat) (f:Nat->Nat->Int):Prop where
 m1:1<=m
 m4:m<=4
 n1:1<=n
 n4:n<=4
 sm:Sm m n f
theorem jQ(k:Nat){m n:Nat}{f:Nat->Nat->Int}{R C:List Nat}(t:Tb m n f)(hR:okL m R=true)(hC:okL n C=true)(hl:C.length=R.length)(h4:R.length<=4) :
  aK T 60 (k+2) "part_at" [tbl m n f,plL R,plL C]=some (tbl R.length R.length fun i j=>f (R.getD i 0) (C.getD j 0))/\aK T 60 (k+4*R.length+1) "worth_of" [tbl R.length R.length fun i j=>f (R.getD i 0) (C.getD j 0)]=some (.int (dM f R C)):=by
 have r:=Ax hR
 have c:=Ax hC
 rw[hl] at c
 refine⟨?_,worth R.length k h4 fun i j hi hj=>t.sm _ _ (r i hi) (c j hj)⟩
 rw[Am R,Am C,hl]
 exact part_at k h4 h4 r c
theorem JD(l:List Nat):blt "len" [plL l]=some (.int (l.length:Int)):=by
 show some (D.int ((l.map fun(k:Nat)=>D.int (k:Int)).length:Int))=_
 rw[List.length_map]
def Ik(t R:D)(md:List D)(c:Sl):Rho:=[("table",.sh t),("rows",.sh R),("told",.ow md),("columns",c)]
theorem oO(k:Nat){m n:Nat}{f:Nat->Nat->Int}{R:List Nat}(t:Tb m n f)(hR:okL m R=true)(g1:1<=R.length)(gn:R.length<=n):aK T 60 (k+4*R.length+2) "minors_of_rows" [tbl m n f,plL R]=some (.lst ((subs n R.length).map fun C=>mnD f R C)):=by
 have t':=t
 obtain⟨m1,m4,n1,n4,hs⟩:=t'
 have key:∀ (s:Sl),(s=.no\/∃ d,s=.sh d)->blk (cxN T 60 (k+4*R.length+1)) 60 60 (aR (top 48)).sc ((aR (top 48)).body.drop 2) (Ik (tbl m n f) (plL R) ((subs n R.length).map fun C=>mnD f R C) s)=some (.ret (.lst ((subs n R.length).map fun C=>mnD f R C))):=by
  intro s hs
  rcases hs with rfl | ⟨d,rfl⟩
  ·exact cN (by walk_at "xv")
  ·exact cN (by walk_at "xv")
 refine cj (fd:=aR (top 48)) rfl rfl (zq rfl (d:=.lst []) (by walk_at "xv") (J2 (l:=(subs n R.length).map plL) (fl1:=.nxt (Ik (tbl m n f) (plL R) ((subs n R.length).map fun C=>mnD f R C) (ji plL (subs n R.length)))) (wSq (x:=.lst ((subs n R.length).map plL)) rfl ?_ rfl) ?_ (key _ (qL _ _))))
 ·refine aH rfl (aj (x:=.int (n:Int)) ?_ (aj (x:=.int (R.length:Int)) ?_ aX)) (mR (k+4*R.length-1+0) n1 n4 g1 gn |> fun q=>by rw[show k+4*R.length-1+0+2=k+4*R.length+1 by omega] at q;exact q)
  ·walk_at "xv"
  ·refine' dH ?L31n_1a ?L31n_1b ?L31n_1c ?L31n_1d ?L31n_1e;(case L31n_1a=>rfl);(case L31n_1b=>rfl);(case L31n_1c=>rfl);(case L31n_1d=>walk_at "xm");(case L31n_1e=>exact JD R)
 ·refine lN (R:=fun pre=>Ik (tbl m n f) (plL R) (pre.map fun C=>mnD f R C) (ji plL pre)) (whole:=subs n R.length) (fun pre C post e=>?_) (pre:=[]) rfl
  have hC:=ur n1 n4 g1 gn (S:=C) (by rw[<- e];simp)
  have hz:pre.length<=6:=by
   have h6:=(fC n1 n4 g1 gn).2
   rw[<- e] at h6
   simp at h6
   omega
  obtain⟨p1,p2⟩:=jQ (k+4*R.length-1) t hR hC.1 hC.2 (by omega)
  obtain⟨q1,q2⟩:=jQ k t hR hC.1 hC.2 (by omega)
  rw[show k+4*R.length-1+2=k+4*R.length+1 by omega] at p1
  refine jr (ρ1:=Ik (tbl m n f) (plL R) (pre.map fun C=>mnD f R C) (.sh (plL C))) rfl ?_
  show _=some (Fl.nxt (Ik (tbl m n f) (plL R) ((pre++[C]).map fun C=>mnD f R C) (ji plL (pre++[C]))))
  rw[List.map_append,jV]
  refine Wt (d:=mnD f R C) rfl rfl rfl (mz (by rw[List.length_map];omega)) ?_ rfl
  exact mF (aj (by walk_at "xv") (aj (by walk_at "xv") (aj (aH rfl (aj (aH rfl (by walk_at "xm") p1) aX) q2) aX))) rfl
theorem qJ{α β:Type}{g:α->List β}{b:Nat}:∀ {l:List α},(∀ x∈l,(g x).length<=b)->(l.flatMap g).length<=l.length*b
  | [],_=>by simp
  | x :: l, h => by
    have h1:=h x List.mem_cons_self
    have h2:=qJ (l:=l) fun y hy=>h y (List.mem_cons_of_mem _ hy)
    simp only[List.flatMap_cons,List.length_append,List.length_cons,Nat.succ_mul]
    omega
def mS(m n:Nat)(f:Nat->Nat->Int)(s:Nat):List D:=(subs m s).flatMap fun R=>(subs n s).map fun C=>mnD f R C
def mA(m n:Nat)(f:Nat->Nat->Int)(i:Nat):List D:=(List.range i).flatMap fun j=>mS m n f (j+1)
theorem Bd{m n s:Nat}{f:Nat->Nat->Int}(m1:1<=m)(m4:m<=4)(n1:1<=n)(n4:n<=4)(s1:1<=s)(sm:s<=m)(sn:s<=n):(mS m n f s).length<=36:=by
 have h1:=(fC m1 m4 s1 sm).2
 have h2:=(fC n1 n4 s1 sn).2
 have:=qJ (l:=subs m s) (g:=fun R=>(subs n s).map fun C=>mnD f R C) (b:=6) fun R _=>by rw[List.length_map];exact h2
 unfold mS
 omega
theorem Bf{m n i:Nat}{f:Nat->Nat->Int}(m1:1<=m)(m4:m<=4)(n1:1<=n)(n4:n<=4)(im:i<=m)(in':i<=n):(mA m n f i).length<=i*36:=by
 have:=qJ (l:=List.range i) (g:=fun j=>mS m n f (j+1)) (b:=36) fun j hj=>by
  have:=List.mem_range.mp hj
  exact Bd m1 m4 n1 n4 (by omega) (by omega) (by omega)
 rw[List.length_range] at this
 exact this
theorem Ei{m n i:Nat}{f:Nat->Nat->Int}:mA m n f (i+1)=mA m n f i++mS m n f (i+1):=by
 unfold mA
 rw[List.range_succ,List.flatMap_append]
 simp
theorem dist{α β:Type}{g:α->List β}{l:List α}{x:α}:(l++[x]).flatMap g=l.flatMap g++g x:=by
 rw[List.flatMap_append];simp
def Ij(t s:D)(md:List D)(c:Sl):Rho:=[("table",.sh t),("size",.sh s),("told",.ow md),("rows",c)]
theorem oN(k:Nat){m n s:Nat}{f:Nat->Nat->Int}(t:Tb m n f)(s1:1<=s)(hm:s<=m)(hn:s<=n):aK T 60 (k+4*s+3) "minors_of_size" [tbl m n f,.int (s:Int)]=some (.lst (mS m n f s)):=by
 have t':=t
 obtain⟨m1,m4,n1,n4,hs⟩:=t'
 have key:∀ (c:Sl),(c=.no\/∃ d,c=.sh d)->blk (cxN T 60 (k+4*s+2)) 60 60 (aR (top 49)).sc ((aR (top 49)).body.drop 2) (Ij (tbl m n f) (.int (s:Int)) (mS m n f s) c)=some (.ret (.lst (mS m n f s))):=by
  intro c hc
  rcases hc with rfl | ⟨d,rfl⟩
  ·exact cN (by walk_at "xv")
  ·exact cN (by walk_at "xv")
 refine cj (fd:=aR (top 49)) rfl rfl (zq rfl (d:=.lst []) (by walk_at "xv") (J2 (l:=(subs m s).map plL) (fl1:=.nxt (Ij (tbl m n f) (.int (s:Int)) (mS m n f s) (ji plL (subs m s)))) (wSq (x:=.lst ((subs m s).map plL)) rfl ?_ rfl) ?_ (key _ (qL _ _))))
 ·refine aH rfl (aj (x:=.int (m:Int)) ?_ (aj (x:=.int (s:Int)) ?_ aX)) (mR (k+4*s) m1 m4 s1 hm)
  ·walk_at "xv"
  ·walk_at "xv"
 ·refine lN (R:=fun pre=>Ij (tbl m n f) (.int (s:Int)) (pre.flatMap fun R=>(subs n s).map fun C=>mnD f R C) (ji plL pre)) (whole:=subs m s) (fun pre R post e=>?_) (pre:=[]) rfl
  have hR:=ur m1 m4 s1 hm (S:=R) (by rw[<- e];simp)
  have h6:=(fC n1 n4 s1 hn).2
  have hz:(pre.flatMap fun R=>(subs n s).map fun C=>mnD f R C).length<=36:=by
   have h1:=(fC m1 m4 s1 hm).2
   rw[<- e] at h1
   simp at h1
   have:=qJ (l:=pre) (g:=fun R=>(subs n s).map fun C=>mnD f R C) (b:=6) fun R _=>by rw[List.length_map];exact h6
   omega
  have mr:=oO k t hR.1 (by rw[hR.2];exact s1) (by rw[hR.2];exact hn)
  rw[hR.2] at mr
  refine jr (ρ1:=Ij (tbl m n f) (.int (s:Int)) (pre.flatMap fun R=>(subs n s).map fun C=>mnD f R C) (.sh (plL R))) rfl ?_
  show _=some (Fl.nxt (Ij (tbl m n f) (.int (s:Int)) ((pre++[R]).flatMap fun R=>(subs n s).map fun C=>mnD f R C) (ji plL (pre++[R]))))
  rw[dist,jV]
  refine Ws rfl rfl rfl rfl (mz (by rw[List.length_map];omega)) ?_ rfl
  exact aH rfl (by walk_at "xm") mr
theorem greatest(k:Nat){m n:Nat}{f:Nat->Nat->Int}(h:1<=m):aK T 60 (k+1) "greatest_size" [tbl m n f]=some (.int ((min m n:Nat):Int)):=by
 refine cj (fd:=aR (top 47)) rfl rfl (cN (n8 (dH (ds:=[.int (m:Int),.int (n:Int)]) rfl rfl rfl (aj ?_ (aj ?_ aX)) rfl) ?_))
 ·walk_at "xv"
 ·walk_at "xv"
 ·congr 1
  by_cases q:(n:Int)<(m:Int)
  ·rw[if_pos q];omega
  ·rw[if_neg q];omega
def Im(t:D)(md:List D)(c:Sl):Rho:=[("table",.sh t),("told",.ow md),("size",c)]
def szS:Nat->Sl
 | 0=>.no
 | i+1=>.sh (.int (1+(i:Int)))
theorem minors_in(k:Nat){m n:Nat}{f:Nat->Nat->Int}(t:Tb m n f):aK T 60 (k+20) "minors_in" [tbl m n f]=some (.lst (mA m n f (min m n))):=by
 have t':=t
 obtain⟨m1,m4,n1,n4,hs⟩:=t'
 have key:∀ (c:Sl),(c=.no\/∃ d,c=.sh d)->blk (cxN T 60 (k+19)) 60 60 (aR (top 50)).sc ((aR (top 50)).body.drop 2) (Im (tbl m n f) (mA m n f (min m n)) c)=some (.ret (.lst (mA m n f (min m n)))):=by
  intro c hc
  rcases hc with rfl | ⟨d,rfl⟩
  ·exact cN (by walk_at "xv")
  ·exact cN (by walk_at "xv")
 refine cj (fd:=aR (top 50)) rfl rfl (zq rfl (d:=.lst []) (by walk_at "xv") (J2 (l:=Ls (min m n) fun i=>.int (1+(i:Int))) (fl1:=.nxt (Im (tbl m n f) (mA m n f (min m n)) (szS (min m n)))) ?_ ?_ (key _ ?_)))
 ·have e:cB 1 (((min m n:Nat):Int)+1)=Ls (min m n) fun i=>.int (1+(i:Int)):=by
   rw[uK]
   congr 1
   omega
  rw[<- e]
  refine wR2 rfl (by walk_at "xv") (bR (x:=.int ((min m n:Nat):Int)) ?_ (by walk_at "xv") rfl) ?_
  ·refine' aH ?L31n_2a ?L31n_2b ?L31n_2c;(case L31n_2a=>rfl);(case L31n_2b=>walk_at "xm");(case L31n_2c=>exact greatest (k+18) m1)
  ·unfold dh
   simp only[Bool.and_eq_true,decide_eq_true_eq]
   omega
 ·refine qR (R:=fun i=>Im (tbl m n f) (mA m n f i) (szS i)) fun i hi=>?_
  have hl:=Bf (f:=f) m1 m4 n1 n4 (i:=i) (by omega) (by omega)
  have hl2:=Bd (f:=f) m1 m4 n1 n4 (s:=i+1) (by omega) (by omega) (by omega)
  refine jr (ρ1:=Im (tbl m n f) (mA m n f i) (.sh (.int (1+(i:Int))))) rfl ?_
  show _=some (Fl.nxt (Im (tbl m n f) (mA m n f (i+1)) (.sh (.int (1+(i:Int))))))
  rw[Ei]
  refine Ws rfl rfl rfl rfl (mz (by omega)) ?_ rfl
  refine aH rfl (aj (x:=tbl m n f) (by walk_at "xv") (aj (x:=.int ((i+1:Nat):Int)) (n8 (by walk_at "xv") (congrArg D.int (by omega))) aX)) ?_
  have q:=oN (k+16-4*(i+1)) t (s:=i+1) (by omega) (by omega) (by omega)
  rw[show k+16-4*(i+1)+4*(i+1)+3=k+19 by omega] at q
  exact q
 ·cases h:min m n with
  | zero=>exact .inl rfl
  | succ i=>exact .inr ⟨_,rfl⟩
def nb:D->Bool
 | .tup [_,_,.int w]=>decide (0<=w)
 | _=>false
theorem none_below(k:Nat){L:List D}(hL:∀ x∈L,∃ a b w,x=.tup [a,b,.int w])(hz:L.length<=1000):aK T 60 (k+1) "none_below" [.lst L]=some (.bl (L.all nb)):=by
 refine cj (fd:=aR (top 54)) rfl rfl (cN (dH rfl rfl rfl (aj (cu (l:=L) rfl (wSq (x:=.lst L) rfl (by walk_at "xv") rfl) (mz (by omega)) (bN (g:=fun x=>.bl (nb x)) fun x hx=>?_)) aX) pH))
 obtain⟨a,b,w,rfl⟩:=hL x hx
 exact cG rfl (cg (x:=.int w) (y:=.int 0) (by walk_at "xv") (by walk_at "xv") rfl)
theorem Jw{m n i:Nat}{f:Nat->Nat->Int}:∀ x∈mA m n f i,∃ a b w,x=.tup [a,b,.int w]:=fun x hx=>by
 obtain⟨j,_,h⟩:=List.mem_flatMap.mp hx
 obtain⟨R,_,h⟩:=List.mem_flatMap.mp h
 obtain⟨C,_,h⟩:=List.mem_map.mp h
 exact⟨_,_,_,h.symm⟩
def yZ(m n:Nat)(f:Nat->Nat->Int):Bool:=(mA m n f (min m n)).all nb
theorem all_minors(k:Nat){m n:Nat}{f:Nat->Nat->Int}(t:Tb m n f):aK T 60 (k+21) "all_minors" [tbl m n f]=some (.lst (mA m n f (min m n))):=by
 refine cj (fd:=aR (top 51)) rfl rfl (zj rfl (d:=.non) ?_ (cN ?_))
 ·refine' aH ?L31n_3a ?L31n_3b ?L31n_3c;(case L31n_3a=>rfl);(case L31n_3b=>walk_at "xm");(case L31n_3c=>exact need_table (k+16) t.m1 t.m4 t.n1 t.n4)
 ·refine' aH ?L31n_4a ?L31n_4b ?L31n_4c;(case L31n_4a=>rfl);(case L31n_4b=>walk_at "xm");(case L31n_4c=>exact minors_in k t)
theorem is_good(k:Nat){m n:Nat}{f:Nat->Nat->Int}(t:Tb m n f):aK T 60 (k+22) "is_good" [tbl m n f]=some (.bl (yZ m n f)):=by
 have hl:=Bf (f:=f) t.m1 t.m4 t.n1 t.n4 (i:=min m n) (by omega) (by omega)
 have:=t.m4
 refine cj (fd:=aR (top 55)) rfl rfl (cN (aH rfl (aj (aH rfl (by walk_at "xm") (all_minors k t)) aX) (none_below (k+20) Jw (by omega))))
def s3(g:Nat->D):Nat->Sl
 | 0=>.no
 | i+1=>.sh (g i)
section
variable {cx:Cxt} {sc:Scope} {ρ ρ':Rho} {e:Expr} {p:Pos} {d:D} {nm:Str} {F m:Nat} {r:List Stmt} {fl:Fl} {y:Str} {s:Sl} {ds:List D}
end
theorem Wv(f:Nat->Nat->Int):det 1 f=f 0 0:=by simp[det,xJ,sg]
theorem Kg(f:Nat->Nat->Int):det 2 f=f 0 0*f 1 1-f 0 1*f 1 0:=by
 simp[det,xJ,sg,sub,skip]
 grind
theorem Wu(f:Nat->Nat->Int):det 3 f=f 0 0*(f 1 1*f 2 2-f 1 2*f 2 1)-f 0 1*(f 1 0*f 2 2-f 1 2*f 2 0)+f 0 2*(f 1 0*f 2 1-f 1 1*f 2 0):=by
 have e:det 3 f=f 0 0*det 2 (sub f 0 0)+f 0 1 * -(det 2 (sub f 0 1))+f 0 2*det 2 (sub f 0 2):=by
  simp[det,xJ,sg]
 rw[e,Kg,Kg,Kg]
 simp[sub,skip]
 grind
theorem aB{y:Str}{s:Sl}{ρ:Rho}(h:nOw s=true)(r:gM ρ=true):gM ((y,s)::ρ)=true:=by
 unfold gM at r ⊢
 rw[List.all_cons,h,r];rfl
section
variable {cx:Cxt} {sc:Scope} {ρ ρ':Rho} {e:Expr} {p:Pos} {d:D} {nm:Str} {F m:Nat} {r:List Stmt} {fl:Fl} {y:Str} {s:Sl} {ds:List D}
theorem Fg:frz F e []=[]:=rfl
theorem bU(h:nOw s=true)(q:frz F e ρ=ρ'):frz F e ((y,s)::ρ)=(y,s)::ρ':=by rw[zy h,q]
theorem KR(h:d8 F y e=false)(q:frz F e ρ=ρ'):frz F e ((y,.ow ds)::ρ)=(y,.ow ds)::ρ':=by
 rw[lK,q]
 simp only[h,Bool.false_eq_true,if_false]
theorem XQ(h:d8 F y e=true)(q:frz F e ρ=ρ'):frz F e ((y,.ow ds)::ρ)=(y,.sh (.lst ds))::ρ':=by rw[Fi h,q]
theorem J3{px ap cp:Pos}{M:Str}(hf:frz F e ρ=ρ')(hx:ρ'.lookup nm=some (.ow ds))(ho:(ownIn sc nm&&aA nm&&ap.endLine==cp.line)=true)(hM:(M=="append")=true)(hz:szl (ds.length+1)=true)(h:ev cx F sc ρ' e=some d)(k:blk cx F (m+1) sc r (cD ρ' nm (.ow (ds++[d])))=some fl) :
  blk cx F (m+1) sc (.Expr (.Call (.Attribute (.Name nm px) M ap) [e] [] cp) p::r) ρ=some fl:=by
 subst hf
 exact Wt hx ho hM hz h k
end
end M31
namespace M31
open PySem DE
def eH(i j:Nat):Stmt:=(aR (top i)).body.getD j (.Pass ⟨0,0,0,0⟩)
def eF:Stmt->List Stmt
 | .For _ _ b _ _=>b
 | _=>[]
def nC:Stmt->Expr
 | .For t _ _ _ _=>t
 | _=>.Name "" ⟨0,0,0,0⟩
def whB:Stmt->List Stmt
 | .While _ b _ _=>b
 | _=>[]
def whC:Stmt->Expr
 | .While c _ _ _=>c
 | _=>.Name "" ⟨0,0,0,0⟩
abbrev whR(cx:Cxt)(sc:Scope)(s:Stmt)(N:Nat)(ρ:Rho):Option Fl:=pN (fun ρ=>((ev cx 60 sc (frz 60 (whC s) ρ) (whC s)).bind asB).map fun b=>(frz 60 (whC s) ρ,b)) (fun ρ=>blk cx 60 59 sc (whB s) ρ) N ρ
def yh(a b:Int)(r:Sl):Rho:=[("one",.sh (.int a)),("other",.sh (.int b)),("rest",r)]
theorem Mw{b:Int}:cmpop .NotEq (.int b) (.int 0)=some (.bl (decide (b≠0))):=by
 rw[oNe (by simp[dep]) (by simp[dep])]
 by_cases h:b=0
 ·subst h;rfl
 ·simp[deq,h]
theorem Ss(k:Nat):∀ (n:Nat) (a b:Int) (r:Sl) (N:Nat),nOw r=true->b.natAbs<=n->n<N->∃ a' r',nOw r'=true/\a'.natAbs=Int.gcd a b/\whR (cxN T 60 k) (aR (top 19)).sc (eH 19 0) N (yh a b r)=some (.nxt (yh a' 0 r')):=by
  intro n
  induction n with
  | zero =>
    intro a b r N hr hb hN
    have b0:b=0:=by omega
    subst b0
    obtain⟨N',rfl⟩:∃ N',N=N'+1:=⟨N-1,by omega⟩
    exact⟨a,r,hr,by simp,jO (cT (aB rfl (aB rfl (aB hr rfl)))) (cg (x:=.int 0) (y:=.int 0) (xName rfl) (aq rfl) rfl)⟩
  | succ n ih =>
    intro a b r N hr hb hN
    obtain⟨N',rfl⟩:∃ N',N=N'+1:=⟨N-1,by omega⟩
    by_cases b0:b=0
    · subst b0
      exact⟨a,r,hr,by simp,jO (cT (aB rfl (aB rfl (aB hr rfl)))) (cg (x:=.int 0) (y:=.int 0) (xName rfl) (aq rfl) rfl)⟩
    · have hl:=o8 (a:=a) b0
      obtain⟨a',r',h1,h2,h3⟩:=ih b (a.fmod b) (.sh (.int (a.fmod b))) N' rfl (by omega) (by omega)
      refine⟨a',r',h1,by rw[h2,lJ],tZ (ρ1:=yh a b r) (ρ2:=yh b (a.fmod b) (.sh (.int (a.fmod b)))) (cT (aB rfl (aB rfl (aB hr rfl)))) (cg (x:=.int b) (y:=.int 0) (xName rfl) (aq rfl) (by rw[Mw,decide_eq_true b0])) ?_ h3⟩
      refine jM (d:=.int (a.fmod b)) (aB rfl (aB rfl (aB hr rfl))) rfl rfl (bR (x:=.int a) (y:=.int b) (xName rfl) (xName rfl) (Gx b0)) ?_
      refine fY (ρ:=yh a b (.sh (.int (a.fmod b)))) (ρ':=yh a b (.sh (.int (a.fmod b)))) (d:=.int b) rfl rfl rfl (xName rfl) ?_
      exact fY (ρ:=yh b b (.sh (.int (a.fmod b)))) (ρ':=yh b b (.sh (.int (a.fmod b)))) (d:=.int (a.fmod b)) rfl rfl rfl (xName rfl) dB
theorem common(k:Nat){a b:Int}(hb:b.natAbs<10000000000000000000000000000000000000000000000000000000000000000000000000000000000000000000000000000):aK T 60 (k+1) "common_measure" [.int a,.int b]=some (.int (gc a b)):=by
 obtain⟨a',r',h1,h2,h3⟩:=Ss k b.natAbs a b .no 10000000000000000000000000000000000000000000000000000000000000000000000000000000000000000000000000000 rfl (Nat.le_refl _) hb
 refine cj (fd:=aR (top 19)) rfl rfl (oY (ρ2:=yh a' 0 r') h3 (tR (aB rfl (aB rfl (aB h1 rfl))) (n8 (dH (ds:=[.int a']) rfl rfl rfl (aj (xName rfl) aX) rfl) ?_)))
 congr 1
 unfold gc
 rw[<- h2]
 split<;>omega
theorem lowest(k:Nat){u d:Int}(hd:d≠0)(hb:d.natAbs<10000000000000000000000000000000000000000000000000000000000000000000000000000000000000000000000000000):aK T 60 (k+2) "lowest" [.int u,.int d]=some (loD u d):=by
 have g0:=nA (u:=u) hd
 have cm:=common k (a:=u) hb
 have gl:(gc u d).natAbs<=d.natAbs:=by
  have:=Nat.le_of_dvd (by omega) (Int.gcd_dvd_natAbs_right u d)
  unfold gc;omega
 have lg:(gc u d).natAbs.log2<9000:=qH (Nat.lt_of_le_of_lt gl (Nat.lt_of_lt_of_le hb (by decide +kernel)))
 refine cj (fd:=aR (top 20)) rfl rfl (fY (ρ':=[("up",.sh (.int u)),("down",.sh (.int d)),("measure",.no)]) (d:=.int (gc u d)) rfl rfl rfl (aH rfl (aj (xName rfl) (aj (xName rfl) aX)) cm) ?_)
 by_cases q:d<0
 ·refine Fe (ρ:=[("up",.sh (.int u)),("down",.sh (.int d)),("measure",.sh (.int (gc u d)))]) (ρ':=[("up",.sh (.int u)),("down",.sh (.int d)),("measure",.sh (.int (gc u d)))]) (ρ2:=[("up",.sh (.int u)),("down",.sh (.int d)),("measure",.sh (.int (-(gc u d))))]) rfl (cg (x:=.int d) (y:=.int 0) (xName rfl) (aq rfl) (oLt q)) (fY (ρ':=[("up",.sh (.int u)),("down",.sh (.int d)),("measure",.sh (.int (gc u d)))]) (d:=.int (-(gc u d))) rfl rfl rfl (K5 (xName rfl)) dB) (cN ?_)
  refine n8 (mF (ds:=[.int (u.fdiv (-(gc u d))),.int (d.fdiv (-(gc u d)))]) (aj (bR (xName rfl) (xName rfl) (jN (by omega) (by rw[Int.natAbs_neg];exact lg))) (aj (bR (xName rfl) (xName rfl) (jN (by omega) (by rw[Int.natAbs_neg];exact lg))) aX)) rfl) ?_
  show D.tup _=D.tup [.int (oR u d),.int (oU u d)]
  unfold oR oU
  rw[if_pos q,if_pos q,fdiv_neg (by omega) JW,fdiv_neg (by omega) JX]
 ·refine R5 (ρ:=[("up",.sh (.int u)),("down",.sh (.int d)),("measure",.sh (.int (gc u d)))]) (ρ':=[("up",.sh (.int u)),("down",.sh (.int d)),("measure",.sh (.int (gc u d)))]) rfl (cg (x:=.int d) (y:=.int 0) (xName rfl) (aq rfl) (Mx q)) (cN ?_)
  refine n8 (mF (ds:=[.int (u.fdiv (gc u d)),.int (d.fdiv (gc u d))]) (aj (bR (xName rfl) (xName rfl) (jN (by omega) lg)) (aj (bR (xName rfl) (xName rfl) (jN (by omega) lg)) aX)) rfl) ?_
  show D.tup _=D.tup [.int (oR u d),.int (oU u d)]
  unfold oR oU
  rw[if_neg q,if_neg q,cY g0,cY g0]
theorem Fp(k:Nat){u d:Int}(hb:d.natAbs<10000000000000000000000000000000000000000000000000000000000000000000000000000000000000000000000000000):aK T 60 (k+2) "has_fraction_form" [frD u d]=some (.bl (decide (0<d)&&decide (Int.gcd u d=1))):=by
 have w:∀ i,aK T 60 (k+1) "is_whole" [.int i]=some (.bl true):=fun i=>is_whole k (by simp[dep])
 refine cj (fd:=aR (top 21)) rfl rfl (sU (dU (tX (eU (GK rfl rfl rfl (xName rfl) rfl)) (mG (cg (x:=.int 2) (y:=.int 2) (dH rfl rfl rfl (aj (x:=frD u d) (xName rfl) aX) rfl) (aq rfl) (Tt rfl))))) (sU (dU (tX (eU (aH rfl (aj (x:=.int u) (xIx (x:=frD u d) (i:=0) (xName rfl) (aq rfl) rfl rfl) aX) (w u))) (mG (eU (aH rfl (aj (x:=.int d) (xIx (x:=frD u d) (i:=1) (xName rfl) (aq rfl) rfl rfl) aX) (w d)))))) (cN (dU ?_))))
 by_cases q:0<d
 ·rw[decide_eq_true q,Bool.true_and]
  refine jD (cg (x:=.int d) (y:=.int 0) (xIx (x:=frD u d) (i:=1) (xName rfl) (aq rfl) rfl rfl) (aq rfl) (by rw[oGt,decide_eq_true q])) (mG (cg (x:=.int (gc u d)) (y:=.int 1) (aH rfl (aj (x:=.int u) (xIx (x:=frD u d) (i:=0) (xName rfl) (aq rfl) rfl rfl) (aj (x:=.int d) (xIx (x:=frD u d) (i:=1) (xName rfl) (aq rfl) rfl rfl) aX)) (common k hb)) (aq rfl) ?_))
  by_cases e:Int.gcd u d=1
  ·rw[decide_eq_true e];exact G3 (by unfold gc;omega)
  ·rw[decide_eq_false e];exact G4 (by unfold gc;omega)
 ·rw[decide_eq_false q,Bool.false_and]
  exact tY (cg (x:=.int d) (y:=.int 0) (xIx (x:=frD u d) (i:=1) (xName rfl) (aq rfl) rfl rfl) (aq rfl) (by rw[oGt,decide_eq_false q]))
theorem qQ(k:Nat){u d:Int}(hb:d.natAbs<10000000000000000000000000000000000000000000000000000000000000000000000000000000000000000000000000000)(h:n6 u d):aK T 60 (k+2) "has_fraction_form" [frD u d]=some (.bl true):=by
 rw[Fp k hb,decide_eq_true h.1,decide_eq_true h.2];rfl
theorem RM(k:Nat){u d:Int}(hb:d.natAbs<10000000000000000000000000000000000000000000000000000000000000000000000000000000000000000000000000000)(h:n6 u d)(h0:0<=u):aK T 60 (k+3) "is_fraction" [frD u d]=some (.bl true):=by
 refine cj (fd:=aR (top 22)) rfl rfl (cN (dU (jD (aH rfl (aj (x:=frD u d) (xName rfl) aX) (qQ k hb h)) (mG (cg (x:=.int u) (y:=.int 0) (xIx (x:=frD u d) (i:=0) (xName rfl) (aq rfl) rfl rfl) (aq rfl) ?_)))))
 show some (D.bl (decide (0<=u)))=_
 rw[decide_eq_true h0]
theorem smN{x:Int}(h:x.natAbs<=1000000000000000000):small x=true:=by
 unfold small;rw[decide_eq_true (by omega),decide_eq_true (by omega)];rfl
theorem Wf{a b:Int}(h:a.natAbs<=1000000000000000000)(h':b.natAbs<=1000000000000000000):(a*b).natAbs<=1000000000000000000000000000000000000:=by
 rw[Int.natAbs_mul]
 exact Nat.mul_le_mul h h'
theorem Ba{a b:Int}(h:a≠0)(h':b≠0):a*b≠0:=Int.mul_ne_zero h h'
section
variable {a b c d:Int}
theorem sum_of(k:Nat)(hb:b≠0)(hd:d≠0)(ka:a.natAbs<=1000000000000000000)(kb:b.natAbs<=1000000000000000000)(kc:c.natAbs<=1000000000000000000)(kd:d.natAbs<=1000000000000000000):aK T 60 (k+3) "sum_of" [frD a b,frD c d]=some (loD (a*d+c*b) (b*d)):=by
 have z:=Wf kb kd
 refine cj (fd:=aR (top 23)) rfl rfl (cN (aH rfl (aj (bR (x:=.int (a*d)) (y:=.int (c*b)) (bR (x:=.int a) (y:=.int d) (xIx (x:=frD a b) (i:=0) (xName rfl) (aq rfl) rfl rfl) (xIx (x:=frD c d) (i:=1) (xName rfl) (aq rfl) rfl rfl) (rA (.inl (smN ka)))) (bR (x:=.int c) (y:=.int b) (xIx (x:=frD c d) (i:=0) (xName rfl) (aq rfl) rfl rfl) (xIx (x:=frD a b) (i:=1) (xName rfl) (aq rfl) rfl rfl) (rA (.inl (smN kc)))) rfl) (aj (bR (x:=.int b) (y:=.int d) (xIx (x:=frD a b) (i:=1) (xName rfl) (aq rfl) rfl rfl) (xIx (x:=frD c d) (i:=1) (xName rfl) (aq rfl) rfl rfl) (rA (.inl (smN kb)))) aX)) (lowest k (Ba hb hd) (by omega))))
theorem times_of(k:Nat)(hb:b≠0)(hd:d≠0)(ka:a.natAbs<=1000000000000000000)(kb:b.natAbs<=1000000000000000000)(kd:d.natAbs<=1000000000000000000):aK T 60 (k+3) "times_of" [frD a b,frD c d]=some (loD (a*c) (b*d)):=by
 have z:=Wf kb kd
 refine cj (fd:=aR (top 24)) rfl rfl (cN (aH rfl (aj (bR (x:=.int a) (y:=.int c) (xIx (x:=frD a b) (i:=0) (xName rfl) (aq rfl) rfl rfl) (xIx (x:=frD c d) (i:=0) (xName rfl) (aq rfl) rfl rfl) (rA (.inl (smN ka)))) (aj (bR (x:=.int b) (y:=.int d) (xIx (x:=frD a b) (i:=1) (xName rfl) (aq rfl) rfl rfl) (xIx (x:=frD c d) (i:=1) (xName rfl) (aq rfl) rfl rfl) (rA (.inl (smN kb)))) aX)) (lowest k (Ba hb hd) (by omega))))
end
def rZ(u d:Int)(a b:Sl):Rho:=[("_law_up",.sh (.int u)),("_law_down",.sh (.int d)),("_law_one",a),("_law_other",b)]
theorem RD(k:Nat){u d:Int}:∀ (n:Nat) (a b:Int) (N:Nat),0<=a->0<=b->b.natAbs<=n->n<N->∃ a':Int,0<=a'/\a'.natAbs=Int.gcd a b/\whR (cxN T 60 k) (aR (top 80)).sc (eH 80 1) N (rZ u d (.sh (.int a)) (.sh (.int b)))=some (.nxt (rZ u d (.sh (.int a')) (.sh (.int 0)))):=by
  intro n
  induction n with
  | zero =>
    intro a b N ha h0 hb hN
    have b0:b=0:=by omega
    subst b0
    obtain⟨N',rfl⟩:∃ N',N=N'+1:=⟨N-1,by omega⟩
    exact⟨a,ha,by simp,jO rfl (cg (x:=.int 0) (y:=.int 0) (xName rfl) (aq rfl) rfl)⟩
  | succ n ih =>
    intro a b N ha h0 hb hN
    obtain⟨N',rfl⟩:∃ N',N=N'+1:=⟨N-1,by omega⟩
    by_cases b0:b=0
    · subst b0
      exact⟨a,ha,by simp,jO rfl (cg (x:=.int 0) (y:=.int 0) (xName rfl) (aq rfl) rfl)⟩
    · have hl:=o8 (a:=a) b0
      have hn:=Int.fmod_nonneg_of_pos a (b:=b) (by omega)
      obtain⟨a',h1,h2,h3⟩:=ih b (a.fmod b) N' h0 hn (by omega) (by omega)
      refine⟨a',h1,by rw[h2,lJ],tZ (ρ1:=rZ u d (.sh (.int a)) (.sh (.int b))) (ρ2:=rZ u d (.sh (.int b)) (.sh (.int (a.fmod b)))) rfl (cg (x:=.int b) (y:=.int 0) (xName rfl) (aq rfl) (by rw[Mw,decide_eq_true b0])) ?_ h3⟩
      exact gTup (d:=.tup [.int b,.int (a.fmod b)]) rfl (mF (aj (xName rfl) (aj (bR (x:=.int a) (y:=.int b) (xName rfl) (xName rfl) (Gx b0)) aX)) rfl) rfl rfl dB
theorem Xw(k:Nat){u d:Int}(hd:d≠0)(hb:d.natAbs<10000000000000000000000000000000000000000000000000000000000000000000000000000000000000000000000000000):aK T 60 (k+1) "_law_lowest" [.int u,.int d]=some (loD u d):=by
 have g0:=nA (u:=u) hd
 obtain⟨a',h1,h2,h3⟩:=RD k (u:=u) (d:=d) d.natAbs (if u<0 then -u else u) (if d<0 then -d else d) 10000000000000000000000000000000000000000000000000000000000000000000000000000000000000000000000000000 (by split<;>omega) (by split<;>omega) (by split<;>omega) hb
 have e:a'=gc u d:=by
  have:Int.gcd (if u<0 then -u else u) (if d<0 then -d else d)=Int.gcd u d:=by
   split<;>split<;>simp
  rw[this] at h2
  unfold gc;omega
 subst e
 have gl:(gc u d).natAbs<=d.natAbs:=by
  have:=Nat.le_of_dvd (by omega) (Int.gcd_dvd_natAbs_right u d)
  unfold gc;omega
 have lg:(gc u d).natAbs.log2<9000:=qH (Nat.lt_of_le_of_lt gl (Nat.lt_of_lt_of_le hb (by decide +kernel)))
 refine cj (fd:=aR (top 80)) rfl rfl (gTup (d:=.tup [.int (if u<0 then -u else u),.int (if d<0 then -d else d)]) (ρ':=rZ u d (.sh (.int (if u<0 then -u else u))) (.sh (.int (if d<0 then -d else d)))) rfl (mF (aj (dH (ds:=[.int u]) rfl rfl rfl (aj (xName rfl) aX) rfl) (aj (dH (ds:=[.int d]) rfl rfl rfl (aj (xName rfl) aX) rfl) aX)) rfl) rfl rfl (oY h3 (cN ?_)))
 show ev _ _ _ (rZ u d (.sh (.int (gc u d))) (.sh (.int 0))) _=_
 by_cases q:0<d
 ·refine Hh (cg (x:=.int d) (y:=.int 0) (xName rfl) (aq rfl) (by rw[oGt,decide_eq_true q])) (n8 (mF (ds:=[.int (u.fdiv (gc u d)),.int (d.fdiv (gc u d))]) (aj (bR (xName rfl) (xName rfl) (jN (by omega) lg)) (aj (bR (xName rfl) (xName rfl) (jN (by omega) lg)) aX)) rfl) ?_)
  show D.tup _=D.tup [.int (oR u d),.int (oU u d)]
  unfold oR oU
  rw[if_neg (by omega),if_neg (by omega),cY g0,cY g0]
 ·refine Hj (cg (x:=.int d) (y:=.int 0) (xName rfl) (aq rfl) (by rw[oGt,decide_eq_false q])) (n8 (mF (ds:=[.int (0-u.fdiv (gc u d)),.int (0-d.fdiv (gc u d))]) (aj (bR (aq rfl) (bR (xName rfl) (xName rfl) (jN (by omega) lg)) rfl) (aj (bR (aq rfl) (bR (xName rfl) (xName rfl) (jN (by omega) lg)) rfl) aX)) rfl) ?_)
  show D.tup _=D.tup [.int (oR u d),.int (oU u d)]
  unfold oR oU
  rw[if_pos (by omega),if_pos (by omega),cY g0,cY g0,Int.zero_sub,Int.zero_sub]
theorem Sy{cx:Cxt}{N j:Nat}{sc:Scope}{ρ:Rho}{e:Expr}{p q:Pos}{u d:Int}(h:ev cx (N+1) sc ρ e=some (frD u d)):ev cx (N+2) sc ρ (.Subscript e (.Constant (.int 0) j q) p)=some (.int u):=xIx (x:=frD u d) (i:=0) h (aq rfl) rfl rfl
theorem Bw{m b:Nat}{h:Nat->D}(q:∀ i,i<m->dep (h i)<=b):deps (Ls m h)<=b:=jw fun x hx=>by
 obtain⟨i,hi,rfl⟩:=fO hx
 exact q i hi
theorem vp{m n:Nat}{h:Nat->Nat->D}(h1:1<=m)(hm:m<=4)(h2:1<=n)(hn:n<=4):dz (.tup (Ls m fun i=>.tup (Ls n (h i))))=true:=by
 show(bh (.tup (Ls m fun i=>.tup (Ls n (h i))))&&(Ls m fun i=>D.tup (Ls n (h i))).all bh&&lens (Ls m fun i=>D.tup (Ls n (h i))))=true
 rw[d9,decide_eq_true h1,decide_eq_true hm]
 have a1:(Ls m fun i=>D.tup (Ls n (h i))).all bh=true:=by
  rw[List.all_eq_true]
  intro x hx
  obtain⟨i,_,rfl⟩:=fO hx
  rw[d9,decide_eq_true h2,decide_eq_true hn];rfl
 have a2:lens (Ls m fun i=>D.tup (Ls n (h i)))=true:=by
  unfold lens
  rw[List.all_eq_true,vL h1]
  intro x hx
  obtain⟨i,_,rfl⟩:=fO hx
  simp[G5,aY]
 rw[a1,a2];rfl
theorem gb{m n:Nat}{h:Nat->Nat->D}(h2:1<=n)(hn:n<=4):(Ls m fun i=>D.tup (Ls n (h i))).all bh=true:=by
 rw[List.all_eq_true]
 intro x hx
 obtain⟨i,_,rfl⟩:=fO hx
 rw[d9,decide_eq_true h2,decide_eq_true hn];rfl
theorem yL{us:List D}{r x:D}(hr:r∈us)(hx:x∈fP r):x∈nums us:=by
  induction us with
  | nil=>cases hr
  | cons a l ih =>
    simp only[nums,List.mem_append]
    rcases List.mem_cons.mp hr with rfl | hr
    · exact .inl hx
    · exact .inr (ih hr)
end M31
namespace M31
open PySem DE
theorem zT(q:Rat):(q.den:Int)≠0:=by have:=q.den_nz;omega
theorem d_na(q:Rat):((q.den:Int)).natAbs=q.den:=rfl
section
variable {a b:Rat}
theorem Lk(k:Nat)(ha:Sq a)(hb:Sq b):aK T 60 (k+3) "sum_of" [qD a,qD b]=some (qD (a+b)):=by
 rw[sum_of k (zT a) (zT b) ha.1 ha.2 hb.1 hb.2,RG (Int.mul_ne_zero (zT a) (zT b)),HX]
theorem um(k:Nat)(ha:Sq a)(hb:Sq b):aK T 60 (k+3) "times_of" [qD a,qD b]=some (qD (a*b)):=by
 rw[times_of k (zT a) (zT b) ha.1 ha.2 hb.2,RG (Int.mul_ne_zero (zT a) (zT b)),Jt]
theorem Bm(k:Nat)(ha:Sq a)(h:0<=a):aK T 60 (k+3) "is_fraction" [qD a]=some (.bl true):=RM k (Nat.lt_of_le_of_lt ha.2 (by decide +kernel)) (CQ a) (Az h)
theorem J5(k:Nat)(ha:Sq a):aK T 60 (k+2) "has_fraction_form" [qD a]=some (.bl true):=qQ k (Nat.lt_of_le_of_lt ha.2 (by decide +kernel)) (CQ a)
end
def Ag(l:D)(t f:Sl):Rho:=[("some",.sh l),("told",t),("fraction",f)]
def yQ(g:Nat->Rat):Nat->Sl
 | 0=>.no
 | i+1=>.sh (qD (g i))
theorem Eo(g:Nat->Rat)(i:Nat):nOw (yQ g i)=true:=by cases i<;>rfl
theorem all_sum(k:Nat){n:Nat}{g:Nat->Rat}(hg:∀ i,i<n->Sq (g i))(hs:∀ i,i<n->Sq (gP i g)):aK T 60 (k+4) "all_sum" [.lst (Ls n fun i=>qD (g i))]=some (qD (gP n g)):=by
 refine cj (fd:=aR (top 25)) rfl rfl (fY (ρ':=Ag (.lst (Ls n fun i=>qD (g i))) .no .no) (d:=qD 0) rfl rfl rfl (mF (aj (aq rfl) (aj (aq rfl) aX)) rfl) ?_)
 refine oZ (ρ:=Ag (.lst (Ls n fun i=>qD (g i))) (.sh (qD (gP 0 g))) .no) (ρ':=Ag (.lst (Ls n fun i=>qD (g i))) (.sh (qD (gP 0 g))) (yQ g 0)) (ρ2:=Ag (.lst (Ls n fun i=>qD (g i))) (.sh (qD (gP n g))) (yQ g n)) rfl (wSq (x:=.lst (Ls n fun i=>qD (g i))) rfl (xName rfl) rfl) (qR (R:=fun i=>Ag (.lst (Ls n fun i=>qD (g i))) (.sh (qD (gP i g))) (yQ g i)) fun i hi=>?_) (tR (aB rfl (aB rfl (aB (Eo g n) rfl))) (xName rfl))
 refine jr (ρ1:=Ag (.lst (Ls n fun i=>qD (g i))) (.sh (qD (gP i g))) (.sh (qD (g i)))) rfl ?_
 exact fY (ρ:=Ag (.lst (Ls n fun i=>qD (g i))) (.sh (qD (gP i g))) (.sh (qD (g i)))) (ρ':=Ag (.lst (Ls n fun i=>qD (g i))) (.sh (qD (gP i g))) (.sh (qD (g i)))) (d:=qD (gP (i+1) g)) rfl rfl rfl (aH rfl (aj (xName rfl) (aj (xName rfl) aX)) (Lk k (hs i hi) (hg i hi))) dB
abbrev rwq(n:Nat)(f:Nat->Rat):D:=.tup (Ls n fun j=>qD (f j))
abbrev ftq(m n:Nat)(F:Nat->Nat->Rat):D:=.tup (Ls m fun i=>rwq n (F i))
theorem row_by_column(k:Nat){n:Nat}{f g:Nat->Rat}(h4:n<=4)(hf:∀ i,i<n->Sq (f i))(hg:∀ i,i<n->Sq (g i))(hp:∀ i,i<n->Sq (f i*g i))(hs:∀ i,i<n->Sq (gP i fun l=>f l*g l)):aK T 60 (k+5) "row_by_column" [rwq n f,rwq n g]=some (qD (gP n fun l=>f l*g l)):=by
 refine cj (fd:=aR (top 63)) rfl rfl (cN (aH rfl (aj (x:=.lst (Ls n fun i=>qD (f i*g i))) (cu rfl (Te (h:=fun j=>qD (f j)) (g:=fun j=>qD (g j)) rfl (xName rfl) (xName rfl)) (dY (by omega)) (aW (g:=fun i=>qD (f i*g i)) fun i hi=>cG rfl ?_)) aX) (all_sum k hp hs)))
 exact aH rfl (aj (x:=qD (f i)) (xName rfl) (aj (x:=qD (g i)) (xName rfl) aX)) (um (k+1) (hf i hi) (hg i hi))
theorem row_by_columns(k:Nat){n p:Nat}{f:Nat->Rat}{G:Nat->Nat->Rat}(h4:n<=4)(hp4:p<=4)(hf:∀ i,i<n->Sq (f i))(hg:∀ j i,j<p->i<n->Sq (G j i))(hp:∀ j i,j<p->i<n->Sq (f i*G j i))(hs:∀ j i,j<p->i<n->Sq (gP i fun l=>f l*G j l)):aK T 60 (k+6) "row_by_columns" [rwq n f,ftq p n G]=some (rwq p fun j=>gP n fun l=>f l*G j l):=by
 refine cj (fd:=aR (top 64)) rfl rfl (cN (dH rfl rfl rfl (aj (cu rfl (xu (xs:=Ls p fun i=>rwq n (G i)) rfl (xName rfl)) (dY (by omega)) (aW (g:=fun j=>qD (gP n fun l=>f l*G j l)) fun j hj=>cG rfl ?_)) aX) pG))
 exact aH rfl (aj (x:=rwq n f) (xName rfl) (aj (x:=rwq n (G j)) (xName rfl) aX)) (row_by_column k h4 hf (fun i hi=>hg j i hj hi) (fun i hi=>hp j i hj hi) (fun i hi=>hs j i hj hi))
theorem Gk{m n:Nat}{F:Nat->Nat->Rat}:dep (ftq m n F)<=3:=by
 have:∀ i,i<m->dep (rwq n (F i))<=2:=fun i _=>by
  have:=Bw (m:=n) (b:=1) (h:=fun j=>qD (F i j)) fun j _=>by simp[dep,deps]
  simp only[dep]
  omega
 have:=Bw this
 simp only[dep]
 omega
theorem oF{m n:Nat}{F:Nat->Nat->Rat}{x:D}(hx:x∈nums (Ls m fun i=>rwq n (F i))):∃ i j,i<m/\j<n/\x=qD (F i j):=by
 obtain⟨r,hr,hx⟩:=iR hx
 obtain⟨i,hi,rfl⟩:=fO hr
 obtain⟨j,hj,rfl⟩:=fO (show x∈Ls n fun j=>qD (F i j) from hx)
 exact⟨i,j,hi,hj,rfl⟩
theorem lD(k:Nat){m n:Nat}{F:Nat->Nat->Rat}(h1:1<=m)(h2:m<=4)(h3:1<=n)(h4:n<=4)(hl:∀ i j,i<m->j<n->Sq (F i j)):aK T 60 (k+3) "need_fraction_table" [ftq m n F]=some .non:=by
 have hz:(nums (Ls m fun i=>rwq n (F i))).length<=4*(Ls m fun i=>rwq n (F i)).length:=fG (gb (m:=m) (n:=n) (h:=fun i j=>qD (F i j)) h3 h4)
 rw[aY] at hz
 have hL:aK T 60 (k+2) "has_lines" [ftq m n F]=some (.bl true):=(vp (h:=fun i j=>qD (F i j)) h1 h2 h3 h4)▸has_lines k (Nat.lt_of_le_of_lt Gk (by decide))
 have hN:aK T 60 (k+2) "numbers_of" [ftq m n F]=some (.lst (nums (Ls m fun i=>rwq n (F i)))):=numbers_of (k+1) (by rw[aY];exact h2) (gb (h:=fun i j=>qD (F i j)) h3 h4)
 refine tV (fd:=aR (top 27)) rfl rfl (sU (dU (tX (eU (aH rfl (aj (xName rfl) aX) hL)) (mG (eU (dH (ds:=[.lst ((nums (Ls m fun i=>rwq n (F i))).map fun _=>.bl true)]) rfl rfl rfl (aj (cu (l:=nums (Ls m fun i=>rwq n (F i))) rfl (wSq (x:=.lst (nums (Ls m fun i=>rwq n (F i)))) rfl (aH rfl (aj (xName rfl) aX) hN) rfl) (mz (by omega)) (bN (g:=fun _=>.bl true) fun x hx=>?_)) aX) ?_))))) dB)
 ·obtain⟨i,j,hi,hj,rfl⟩:=oF hx
  exact cG rfl (aH rfl (aj (x:=qD (F i j)) (xName rfl) aX) (J5 k (hl i j hi hj)))
 ·have:=pH (l:=nums (Ls m fun i=>rwq n (F i))) (t:=fun _=>true)
  rw[this]
  congr 2
  simp
theorem zV(k:Nat){m n:Nat}{F:Nat->Nat->Rat}(h1:1<=m)(h2:m<=4)(h4:n<=4):aK T 60 (k+2) "columns_of" [ftq m n F]=some (ftq n m fun i j=>F j i):=by
 have col:∀ j,j<n->aK T 60 (k+1) "column_of" [ftq m n F,.int (j:Int)]=some (rwq m fun i=>F i j):=fun j hj=>by
  refine cj (fd:=aR (top 33)) rfl rfl (cN (dH rfl rfl rfl (aj (cu rfl (xu (xs:=Ls m fun i=>rwq n (F i)) rfl (xName rfl)) (dY (by omega)) (aW (g:=fun i=>qD (F i j)) fun i hi=>cG rfl ?_)) aX) pG))
  exact Ky (m:=n) (h:=fun j=>qD (F i j)) (xName rfl) (xName rfl) hj rfl rfl
 refine cj (fd:=aR (top 34)) rfl rfl (cN (dH rfl rfl rfl (aj (cu rfl (GR (j:=n) rfl (dH (ds:=[rwq n (F 0)]) rfl rfl rfl (aj (K6 (m:=m) (h:=fun i=>rwq n (F i)) (xName rfl) (aq rfl) (by omega) rfl rfl) aX) Sw) (by omega)) (dY (by omega)) (aW (g:=fun j=>rwq m fun i=>F i j) fun j hj=>cG rfl ?_)) aX) pG))
 exact aH rfl (aj (x:=ftq m n F) (xName rfl) (aj (x:=.int (j:Int)) (xName rfl) aX)) (col j hj)
def Bq(m n D B:Nat)(F:Nat->Nat->Rat):Prop:=∀ i j,i<m->j<n->Qb D B (F i j)
theorem Bq.mul{m n p D B E C:Nat}{F G:Nat->Nat->Rat}(hF:Bq m n D B F)(hG:Bq n p E C G):Bq m p (D*E) (n*(B*C)) (mulQ n F G):=fun i j hi hj=>uq fun l hl=>(hF i l hi hl).mul (hG l j hl hj)
theorem product(k:Nat){m n p D B E C:Nat}{F G:Nat->Nat->Rat}(h1:1<=m)(h2:m<=4)(h3:1<=n)(h4:n<=4)(h5:1<=p)(h6:p<=4)(hF:Bq m n D B F)(hG:Bq n p E C G)(d0:0<D)(e0:0<E)(hD:D*E<=1000000000000000000)(hB:4*(B*C)<=1000000000000000000)(hBB:B<=1000000000000000000)(hCC:C<=1000000000000000000):aK T 60 (k+7) "product_of" [ftq m n F,ftq n p G]=some (ftq m p (mulQ n F G)):=by
 have de:0<D*E:=Nat.mul_pos d0 e0
 have hD1:D<=D*E:=Nat.le_mul_of_pos_right _ e0
 have hE1:E<=D*E:=Nat.le_mul_of_pos_left _ d0
 have sF:∀ i j,i<m->j<n->Sq (F i j):=fun i j hi hj=>(hF i j hi hj).sq d0 (by omega) hBB
 have sG:∀ i j,i<n->j<p->Sq (G i j):=fun i j hi hj=>(hG i j hi hj).sq e0 (by omega) hCC
 let R (c:Sl):Rho:=[("one",.sh (ftq m n F)),("other",.sh (ftq n p G)),("columns",c)]
 refine cj (fd:=aR (top 65)) rfl rfl (zj rfl (d:=.non) (aH rfl (aj (xName rfl) aX) (lD (k+3) h1 h2 h3 h4 sF)) (zj rfl (d:=.non) (aH rfl (aj (xName rfl) aX) (lD (k+3) h3 h4 h5 h6 sG)) (sU (cg (x:=.int (n:Int)) (y:=.int (n:Int)) (dH (ds:=[rwq n (F 0)]) rfl rfl rfl (aj (K6 (m:=m) (h:=fun i=>rwq n (F i)) (xName rfl) (aq rfl) (by omega) rfl rfl) aX) Sw) (by walk_at "xv") (Tt rfl)) ?_)))
 refine fY (ρ:=R .no) (ρ':=R .no) (d:=ftq p n fun i j=>G j i) rfl rfl rfl (aH rfl (aj (xName rfl) aX) (zV (k+4) h3 h4 h6)) ?_
 refine cN (ρ:=R (.sh (ftq p n fun i j=>G j i))) (dH rfl rfl rfl (aj (cu rfl (xu (xs:=Ls m fun i=>rwq n (F i)) rfl (xName rfl)) (dY (by omega)) (aW (g:=fun i=>rwq p (mulQ n F G i)) fun i hi=>cG rfl ?_)) aX) pG)
 refine aH rfl (aj (x:=rwq n (F i)) (xName rfl) (aj (x:=ftq p n fun i j=>G j i) (xName rfl) aX)) (row_by_columns k h4 h6 (fun l hl=>sF i l hi hl) (fun j l hj hl=>sG l j hl hj) (fun j l hj hl=>((hF i l hi hl).mul (hG l j hl hj)).sq de hD (by omega)) (fun j l hj hl=>(uq (n:=l) fun q hq=>(hF i q hi (by omega)).mul (hG q j (by omega) hj)).sq de hD (Nat.le_trans (Nat.mul_le_mul_right _ (by omega:l<=4)) hB)))
end M31
namespace M31
open PySem DE
structure Stp where
 w:Nat
 p:Nat
 s:Rat
def wS:Nat->Str
 | 0=>"up"
 | 1=>"down"
 | _=>"scale"
def stD(x:Stp):D:=.tup [.str (wS x.w),.int (x.p:Int),qD x.s]
def spR(x:Stp):Nat:=match x.w with
 | 1=>x.p+1
 | _=>x.p
def spC(x:Stp):Nat:=match x.w with
 | 0=>x.p+1
 | _=>x.p
def idQ:Nat->Nat->Rat:=fun i j=>if i=j then 1 else 0
def stQ(x:Stp):Nat->Nat->Rat:=fun i j=>if i=spR x then(if j=spC x then x.s else idQ i j) else idQ i j
def okP(n w p:Nat):Bool:=match w with
 | 0=>decide (p+1<n)
 | 1=>decide (p+1<n)
 | 2=>decide (p<n)
 | _=>false
section
variable {s:Rat}
theorem Hz(k:Nat):∀ n,n<5->∀ w,w<3->∀ p,p<4->okP n w p=true->aK T 60 (k+6) "table_of_step" [.int (n:Int),.str (wS w),.int (p:Int),qD s]=some (ftq n n (stQ ⟨w,p,s⟩)):=by
 intro n hn w hw p hp h
 match n,hn,w,hw,p,hp,h with
 | 0,_,w,_,p,_,h=>exact absurd h (by unfold okP;split<;>simp)
 | 1,_,2,_,0,_,_=>kernel_rfl
 | 2,_,0,_,0,_,_=>kernel_rfl
 | 2,_,1,_,0,_,_=>kernel_rfl
 | 2,_,2,_,0,_,_=>kernel_rfl
 | 2,_,2,_,1,_,_=>kernel_rfl
 | 3,_,0,_,0,_,_=>kernel_rfl
 | 3,_,0,_,1,_,_=>kernel_rfl
 | 3,_,1,_,0,_,_=>kernel_rfl
 | 3,_,1,_,1,_,_=>kernel_rfl
 | 3,_,2,_,0,_,_=>kernel_rfl
 | 3,_,2,_,1,_,_=>kernel_rfl
 | 3,_,2,_,2,_,_=>kernel_rfl
 | 4,_,0,_,0,_,_=>kernel_rfl
 | 4,_,0,_,1,_,_=>kernel_rfl
 | 4,_,0,_,2,_,_=>kernel_rfl
 | 4,_,1,_,0,_,_=>kernel_rfl
 | 4,_,1,_,1,_,_=>kernel_rfl
 | 4,_,1,_,2,_,_=>kernel_rfl
 | 4,_,2,_,0,_,_=>kernel_rfl
 | 4,_,2,_,1,_,_=>kernel_rfl
 | 4,_,2,_,2,_,_=>kernel_rfl
 | 4,_,2,_,3,_,_=>kernel_rfl
theorem IV(k:Nat):∀ n,n<5->1<=n->aK T 60 (k+6) "as_fractions" [tbl n n dl]=some (ftq n n idQ):=by
 intro n hn h1
 match n,hn,h1 with
 | 1,_,_=>kernel_rfl
 | 2,_,_=>kernel_rfl
 | 3,_,_=>kernel_rfl
 | 4,_,_=>kernel_rfl
end
theorem m6{n w p:Nat}(h:okP n w p=true):p<n:=by
 unfold okP at h
 split at h<;>simp at h<;>omega
theorem sI{n w p:Nat}(h:okP n w p=true):w<3:=by
 unfold okP at h
 split at h<;>simp at h<;>omega
structure okS (n:Nat) (x:Stp):Prop where
 pl:okP n x.w x.p=true
 nn:0<=x.s
 ps:x.w=2->0<x.s
 sq:Sq x.s
theorem nq(k:Nat){v:Nat}{m:Int}(h:(v:Int)<m):aK T 60 (k+3) "is_place" [.int (v:Int),.int m]=some (.bl true) :=
 cj (fd:=aR (top 14)) rfl rfl (cN (aH rfl (aj (xName rfl) (aj (aq rfl) (aj (bR (x:=.int m) (y:=.int 1) (xName rfl) (aq rfl) rfl) aX))) (eX k (by omega) (by omega))))
theorem JN(k:Nat){n p:Nat}{s:Rat}(hp:p<n)(h:0<s)(hs:Sq s):aK T 60 (k+4) "is_step_of" [.int (n:Int),.str "scale",.int (p:Int),qD s]=some (.bl true):=by
 have hf:=Bm k hs (Rat.le_of_lt h)
 have ip:aK T 60 (k+3) "is_place" [.int (p:Int),.int (n:Int)]=some (.bl true):=nq k (by omega)
 refine cj (fd:=aR (top 60)) rfl rfl (X4 (ρ:=[("many",.sh (.int (n:Int))),("word",.sh (.str "scale")),("place",.sh (.int (p:Int))),("share",.sh (qD s))]) (fl1:=.ret (.bl true)) rfl (cg (x:=.str "scale") (y:=.str "scale") (xName rfl) (xName rfl) rfl) (tR rfl (dU (jD (aH rfl (aj (xName rfl) (aj (xName rfl) aX)) ip) (jD (aH rfl (aj (xName rfl) aX) hf) (mG (cg (x:=.int s.num) (y:=.int 0) (Sy (xName rfl)) (aq rfl) ?_)))))) rfl)
 rw[oGt,decide_eq_true (Rz h)]
theorem Bj(k:Nat){n p:Nat}{s:Rat}{w:Str}(hw:w="up"\/w="down")(hp:p+1<n)(h:0<=s)(hs:Sq s):aK T 60 (k+4) "is_step_of" [.int (n:Int),.str w,.int (p:Int),qD s]=some (.bl true):=by
 have hf:=Bm k hs h
 have ip:aK T 60 (k+3) "is_place" [.int (p:Int),.int ((n:Int)-1)]=some (.bl true):=nq k (by omega)
 have c1:cmpop .Eq (.str w) (.str "scale")=some (.bl false):=by rcases hw with rfl | rfl<;>kernel_rfl
 have c2:cmpop .In (.str w) (.tup [.str "up",.str "down"])=some (.bl true):=by rcases hw with rfl | rfl<;>kernel_rfl
 exact cj (fd:=aR (top 60)) rfl rfl (BK (ρ:=[("many",.sh (.int (n:Int))),("word",.sh (.str w)),("place",.sh (.int (p:Int))),("share",.sh (qD s))]) rfl (cg (x:=.str w) (y:=.str "scale") (xName rfl) (xName rfl) c1) (tR rfl (dU (jD (cg (x:=.str w) (y:=.tup [.str "up",.str "down"]) (xName rfl) (mF (aj (xName rfl) (aj (xName rfl) aX)) rfl) c2) (jD (aH rfl (aj (xName rfl) (aj (bR (x:=.int (n:Int)) (y:=.int 1) (xName rfl) (aq rfl) rfl) aX)) ip) (mG (aH rfl (aj (xName rfl) aX) hf)))))))
theorem is_step_of(k:Nat){n:Nat}{x:Stp}(h:okS n x):aK T 60 (k+4) "is_step_of" [.int (n:Int),.str (wS x.w),.int (x.p:Int),qD x.s]=some (.bl true):=by
 have hlt:=m6 h.pl
 have hw:=sI h.pl
 have pl:=h.pl
 obtain⟨w,p,s⟩:=x
 match w,hw with
 | 2,_=>exact JN k hlt (h.ps rfl) h.sq
 | 0,_=>exact Bj k (.inl rfl) (by simpa[okP] using pl) h.nn h.sq
 | 1,_=>exact Bj k (.inr rfl) (by simpa[okP] using pl) h.nn h.sq
theorem yd{α:Type}{P:List α->Prop}(h0:P [])(hs:∀ l a,P l->P (l++[a]))(l:List α):P l:=by
 rw[<- List.reverse_reverse l]
 induction l.reverse with
 | nil=>exact h0
 | cons a t ih=>rw[List.reverse_cons];exact hs _ _ ih
theorem is_step(k:Nat){n:Nat}{x:Stp}(h:okS n x):aK T 60 (k+5) "is_step" [.int (n:Int),stD x]=some (.bl true):=by
 have i1:aK T 60 (k+4) "is_whole" [.int (n:Int)]=some (.bl true):=is_whole (k+3) (by simp[dep])
 refine cj (fd:=aR (top 61)) rfl rfl (BK (ρ:=[("many",.sh (.int (n:Int))),("thing",.sh (stD x))]) rfl (dU (tX (eU (aH rfl (aj (xName rfl) aX) i1)) (tX (eU (GK rfl rfl rfl (x:=stD x) (xName rfl) rfl rfl rfl)) (mG (cg (x:=.int 3) (y:=.int 3) (dH (ds:=[stD x]) rfl rfl rfl (aj (xName rfl) aX) rfl) (aq rfl) rfl))))) ?_)
 exact tR (ρ:=[("many",.sh (.int (n:Int))),("thing",.sh (stD x))]) rfl (aH rfl (aj (xName rfl) (aj (xIx (x:=stD x) (i:=0) (xName rfl) (aq rfl) rfl rfl) (aj (xIx (x:=stD x) (i:=1) (xName rfl) (aq rfl) rfl rfl) (aj (xIx (x:=stD x) (i:=2) (xName rfl) (aq rfl) rfl rfl) aX)))) (is_step_of k h))
abbrev ssD(l:List Stp):D:=.lst (l.map stD)
theorem need_steps(k:Nat){n:Nat}{l:List Stp}(h1:1<=n)(h4:n<=4)(hl:∀ x∈l,okS n x)(hz:l.length<=100):aK T 60 (k+6) "need_steps" [.int (n:Int),ssD l]=some .non:=by
 have w1:aK T 60 (k+5) "is_whole_within" [.int (n:Int),.int 1,.int 4]=some (.bl true):=eX (k+3) (by omega) (by omega)
 refine tV (fd:=aR (top 62)) rfl rfl (BK (ρ:=[("many",.sh (.int (n:Int))),("steps",.sh (ssD l))]) rfl (eU (aH rfl (aj (xName rfl) (aj (aq rfl) (aj (xName rfl) aX))) w1)) (BK (ρ:=[("many",.sh (.int (n:Int))),("steps",.sh (ssD l))]) rfl (dU (tX (eU (GK rfl rfl rfl (x:=ssD l) (xName rfl) rfl rfl rfl)) (mG (eU (dH (ds:=[.lst ((l.map stD).map fun _=>.bl true)]) rfl rfl rfl (aj (cu (l:=l.map stD) rfl (wSq (x:=ssD l) rfl (xName rfl) rfl) (mz (by rw[List.length_map];omega)) (bN (g:=fun _=>.bl true) fun y hy=>?_)) aX) ?_))))) dB))
 ·obtain⟨x,hx,rfl⟩:=List.mem_map.mp hy
  exact cG rfl (aH rfl (aj (x:=.int (n:Int)) (xName rfl) (aj (x:=stD x) (xName rfl) aX)) (is_step k (hl x hx)))
 ·have:=pH (l:=l.map stD) (t:=fun _=>true)
  rw[this]
  congr 2
  simp
def mkQ(n:Nat)(l:List Stp):Nat->Nat->Rat:=l.foldl (fun M x=>mulQ n M (stQ x)) idQ
theorem iT{n:Nat}{l:List Stp}{x:Stp}:mkQ n (l++[x])=mulQ n (mkQ n l) (stQ x):=by simp[mkQ]
structure Sml (n E C:Nat) (l:List Stp):Prop where
 ok:∀ x∈l,okS n x
 bq:∀ x∈l,Bq n n E C (stQ x)
 e0:0<E
 h1:E^l.length<=1000000000000000000
 h2:(4*C)^l.length<=1000000000000000000
 c1:1<=C
 cc:C<=1000000000000000000
theorem Xy{n:Nat}:Bq n n 1 1 idQ:=fun i j _ _=>by
 unfold idQ
 split
 ·exact Qb.one
 ·exact Qb.zero.up (by decide)
theorem Wi{n E C:Nat}(h4:n<=4):∀ {l:List Stp},(∀ x∈l,Bq n n E C (stQ x))->Bq n n (E^l.length) ((4*C)^l.length) (mkQ n l):=by
 intro l
 refine yd (P:=fun l=>(∀ x∈l,Bq n n E C (stQ x))->Bq n n (E^l.length) ((4*C)^l.length) (mkQ n l)) (fun _=>Xy) (fun l x ih h=>?_) l
 rw[iT,List.length_append,List.length_singleton,Nat.pow_succ,Nat.pow_succ]
 have:=(ih fun y hy=>h y (by simp[hy])).mul (h x (by simp))
 refine fun i j hi hj=>(this i j hi hj).up ?_
 rw[show(4*C)^l.length*(4*C)=4*((4*C)^l.length*C) by rw[Nat.mul_left_comm]]
 exact Nat.mul_le_mul_right _ h4
end M31
namespace M31
open PySem DE
theorem jq{α:Type}{f:D->Rho->Option Fl}{g:α->D}{P:List α->Rho->Prop}{whole:List α}(h:∀ pre x post ρ,pre++x::post=whole->P pre ρ->∃ ρ',P (pre++[x]) ρ'/\f (g x) ρ=some (.nxt ρ')):∀ {l pre:List α} {ρ:Rho},pre++l=whole->P pre ρ->∃ ρ',P whole ρ'/\dG f (l.map g) ρ=some (.nxt ρ')
  | [],pre,ρ,e,hP=>⟨ρ,by rw[List.append_nil] at e;rw[<- e];exact hP,rfl⟩
  | x :: l, pre, ρ, e, hP => by
    obtain⟨ρ1,h1,h2⟩:=h pre x l ρ e hP
    obtain⟨ρ2,h3,h4⟩:=jq h (l:=l) (pre:=pre++[x]) (by rw[List.append_assoc];exact e) h1
    refine⟨ρ2,h3,?_⟩
    simp only[List.map_cons,dG,h2]
    exact h4
def kI(n:Nat)(l:List Stp)(md w p s:Sl):Rho:=[("many",.sh (.int (n:Int))),("steps",.sh (ssD l)),("made",md),("word",w),("place",p),("share",s)]
theorem uO{E:Nat}(h:0<E){i j:Nat}(hij:i<=j):E^i<=E^j:=Nat.pow_le_pow_right h hij
theorem Sml.bnd{n E C:Nat}{l:List Stp}(S:Sml n E C l){pre:List Stp}{x:Stp}{post:List Stp}(e:pre++x::post=l):E^pre.length*E<=1000000000000000000/\4*((4*C)^pre.length*C)<=1000000000000000000/\(4*C)^pre.length<=1000000000000000000:=by
 have hl:pre.length+1<=l.length:=by rw[<- e,List.length_append,List.length_cons];omega
 have c1:=S.c1
 refine⟨?_,?_,?_⟩
 ·rw[<- Nat.pow_succ];exact Nat.le_trans (uO S.e0 hl) S.h1
 ·rw[show 4*((4*C)^pre.length*C)=(4*C)^(pre.length+1) by rw[Nat.pow_succ,Nat.mul_left_comm]]
  exact Nat.le_trans (uO (by omega) hl) S.h2
 ·exact Nat.le_trans (uO (by omega) (by omega)) S.h2
theorem made_by(k:Nat){n E C:Nat}{l:List Stp}(h1:1<=n)(h4:n<=4)(S:Sml n E C l)(hz:l.length<=100):aK T 60 (k+8) "made_by" [.int (n:Int),ssD l]=some (ftq n n (mkQ n l)):=by
  have go:=jq (f:=fF (cxN T 60 (k+7)) 60 59 (aR (top 67)).sc (nC (eH 67 2)) (eF (eH 67 2))) (g:=stD) (whole:=l) (P:=fun pre ρ=>∃ w p s,nOw w=true/\nOw p=true/\nOw s=true/\ρ=kI n l (.sh (ftq n n (mkQ n pre))) w p s) (fun pre x post ρ e hP=>by
    obtain⟨w,p,s,_,_,_,rfl⟩:=hP
    have ok:=S.ok x (by rw[<- e];simp)
    obtain⟨b1,b2,b3⟩:=S.bnd e
    refine⟨_,⟨.sh (.str (wS x.w)),.sh (.int (x.p:Int)),.sh (qD x.s),rfl,rfl,rfl,rfl⟩,jr (ρ1:=kI n l (.sh (ftq n n (mkQ n pre))) (.sh (.str (wS x.w))) (.sh (.int (x.p:Int))) (.sh (qD x.s))) rfl ?_⟩
    have ts:aK T 60 (k+7) "table_of_step" [.int (n:Int),.str (wS x.w),.int (x.p:Int),qD x.s]=some (ftq n n (stQ x)):=Hz (k+1) n (by omega) x.w (sI ok.pl) x.p (by have:=m6 ok.pl;omega) ok.pl
    have pr:=product k (F:=mkQ n pre) (G:=stQ x) h1 h4 h1 h4 h1 h4 (Wi h4 fun y hy=>S.bq y (by rw[<- e];simp[hy])) (S.bq x (by rw[<- e];simp)) (Nat.pow_pos S.e0) S.e0 b1 b2 b3 S.cc
    rw[<- iT] at pr
    exact fY (ρ:=kI n l (.sh (ftq n n (mkQ n pre))) (.sh (.str (wS x.w))) (.sh (.int (x.p:Int))) (.sh (qD x.s))) (ρ':=kI n l (.sh (ftq n n (mkQ n pre))) (.sh (.str (wS x.w))) (.sh (.int (x.p:Int))) (.sh (qD x.s))) (d:=ftq n n (mkQ n (pre++[x]))) rfl rfl rfl (aH rfl (aj (xName rfl) (aj (aH rfl (aj (xName rfl) (aj (xName rfl) (aj (xName rfl) (aj (xName rfl) aX)))) ts) aX)) pr) dB) (l:=l) (pre:=[]) (ρ:=kI n l (.sh (ftq n n (mkQ n []))) .no .no .no) rfl ⟨.no,.no,.no,rfl,rfl,rfl,rfl⟩
  obtain⟨ρ',⟨w,p,s,c1,c2,c3,rfl⟩,hgo⟩:=go
  have pl:aK T 60 (k+7) "plain" [.int (n:Int)]=some (tbl n n dl):=plain (k+3) h1 h4
  refine cj (fd:=aR (top 67)) rfl rfl (zj rfl (d:=.non) (aH rfl (aj (xName rfl) (aj (xName rfl) aX)) (need_steps (k+1) h1 h4 S.ok hz)) ?_)
  refine fY (ρ:=kI n l .no .no .no .no) (ρ':=kI n l .no .no .no .no) (d:=ftq n n idQ) rfl rfl rfl (aH rfl (aj (aH rfl (aj (xName rfl) aX) pl) aX) (IV (k+1) n (by omega) h1)) ?_
  exact oZ (ρ:=kI n l (.sh (ftq n n (mkQ n []))) .no .no .no) (ρ':=kI n l (.sh (ftq n n (mkQ n []))) .no .no .no) rfl (wSq (x:=ssD l) rfl (xName rfl) rfl) hgo (tR (aB rfl (aB rfl (aB rfl (aB c1 (aB c2 (aB c3 rfl)))))) (xName rfl))
theorem smB{x:Int}(h:x.natAbs<=1000000000000000000):small x=true:=by
 unfold small;rw[decide_eq_true (by omega),decide_eq_true (by omega)];rfl
end M31
namespace M31
open PySem DE
def uI(a b:Sl):Rho:=[("_law_one",a),("_law_other",b)]
theorem RX(k:Nat):∀ (n:Nat) (a b:Int) (N:Nat),0<=a->0<=b->b.natAbs<=n->n<N->∃ a':Int,0<=a'/\a'.natAbs=Int.gcd a b/\whR (cxN T 60 k) (aR (top 85)).sc (eH 85 0) N (uI (.sh (.int a)) (.sh (.int b)))=some (.nxt (uI (.sh (.int a')) (.sh (.int 0)))):=by
  intro n
  induction n with
  | zero =>
    intro a b N ha h0 hb hN
    have b0:b=0:=by omega
    subst b0
    obtain⟨N',rfl⟩:∃ N',N=N'+1:=⟨N-1,by omega⟩
    exact⟨a,ha,by simp,jO rfl (cg (x:=.int 0) (y:=.int 0) (xName rfl) (aq rfl) rfl)⟩
  | succ n ih =>
    intro a b N ha h0 hb hN
    obtain⟨N',rfl⟩:∃ N',N=N'+1:=⟨N-1,by omega⟩
    by_cases b0:b=0
    · subst b0
      exact⟨a,ha,by simp,jO rfl (cg (x:=.int 0) (y:=.int 0) (xName rfl) (aq rfl) rfl)⟩
    · have hl:=o8 (a:=a) b0
      have hn:=Int.fmod_nonneg_of_pos a (b:=b) (by omega)
      obtain⟨a',h1,h2,h3⟩:=ih b (a.fmod b) N' h0 hn (by omega) (by omega)
      refine⟨a',h1,by rw[h2,lJ],tZ (ρ1:=uI (.sh (.int a)) (.sh (.int b))) (ρ2:=uI (.sh (.int b)) (.sh (.int (a.fmod b)))) rfl (cg (x:=.int b) (y:=.int 0) (xName rfl) (aq rfl) (by rw[Mw,decide_eq_true b0])) ?_ h3⟩
      exact gTup (d:=.tup [.int b,.int (a.fmod b)]) rfl (mF (aj (xName rfl) (aj (bR (x:=.int a) (y:=.int b) (xName rfl) (xName rfl) (Gx b0)) aX)) rfl) rfl rfl dB
theorem Em(k:Nat){a b:Nat}(hb:b<10000000000000000000000000000000000000000000000000000000000000000000000000000000000000000000000000000):aK T 60 (k+1) "_law_gcd" [.int (a:Int),.int (b:Int)]=some (.int (Nat.gcd a b:Nat)):=by
 obtain⟨a',h1,h2,h3⟩:=RX k b (a:Int) (b:Int) 10000000000000000000000000000000000000000000000000000000000000000000000000000000000000000000000000000 (by omega) (by omega) (by simp) hb
 have e:a'=((Nat.gcd a b:Nat):Int):=by
  have:Int.gcd (a:Int) (b:Int)=Nat.gcd a b:=rfl
  omega
 subst e
 exact cj (fd:=aR (top 85)) rfl rfl (oY (ρ2:=uI (.sh (.int (Nat.gcd a b:Nat))) (.sh (.int 0))) h3 (tR rfl (xName rfl)))
def El:Nat->(Nat->Rat)->Nat->Nat
 | 0,_,o=>o
 | n+1,f,o=>Nat.lcm (El n f o) (f n).den
def qK(m n:Nat)(F:Nat->Nat->Rat):Nat->Nat
 | 0=>1
 | i+1=>El n (F i) (qK m n F i)
theorem lF{D:Nat}{f:Nat->Rat}{o:Nat}(ho:o ∣ D):∀ {n:Nat},(∀ j,j<n->(f j).den ∣ D)->El n f o ∣ D
 | 0,_=>ho
 | n+1,h=>Nat.lcm_dvd (lF ho fun j hj=>h j (by omega)) (h n (by omega))
theorem gG{D m n:Nat}{F:Nat->Nat->Rat}:∀ {i:Nat},(∀ a j,a<i->j<n->(F a j).den ∣ D)->qK m n F i ∣ D
 | 0,_=>Nat.one_dvd D
 | i+1,h=>lF (gG fun a j ha hj=>h a j (by omega) hj) fun j hj=>h i j (by omega) hj
theorem m9{f:Nat->Rat}{o:Nat}:∀ {n:Nat},o ∣ El n f o/\∀ j,j<n->(f j).den ∣ El n f o
  | 0=>⟨Nat.dvd_refl _,fun j hj=>by omega⟩
  | n + 1 => by
    obtain⟨h1,h2⟩:=m9 (f:=f) (o:=o) (n:=n)
    refine⟨Nat.dvd_trans h1 (Nat.dvd_lcm_left _ _),fun j hj=>?_⟩
    by_cases q:j<n
    · exact Nat.dvd_trans (h2 j q) (Nat.dvd_lcm_left _ _)
    · have:j=n:=by omega
      subst this
      exact Nat.dvd_lcm_right _ _
theorem gF{m n:Nat}{F:Nat->Nat->Rat}:∀ {i:Nat},∀ a j,a<i->j<n->(F a j).den ∣ qK m n F i
  | i + 1, a, j, ha, hj => by
    obtain⟨h1,h2⟩:=m9 (f:=F i) (o:=qK m n F i) (n:=n)
    by_cases q:a<i
    · exact Nat.dvd_trans (gF a j q hj) h1
    · have:a=i:=by omega
      subst this
      exact h2 j hj
abbrev oft(n:Nat)(F:Nat->Nat->Rat):Nat:=qK n n F n
def wI(n:Nat)(F:Nat->Nat->Rat):Nat->Nat->Int:=fun i j=>(F i j).num*((oft n F / (F i j).den:Nat):Int)
def fW(t:D)(o:Nat)(r u d:Sl):Rho:=[("_law_table_here",.sh t),("_law_often",.sh (.int (o:Int))),("_law_row",r),("_law_up",u),("_law_down",d)]
theorem lcm_div{a b:Nat}(hb:0<b):(a*b) / Nat.gcd a b=Nat.lcm a b:=rfl
abbrev wSc:Scope:=(aR (top 84)).sc
abbrev w1:Stmt:=eH 84 1
abbrev w2:Stmt:=(eF w1).getD 0 (.Pass ⟨0,0,0,0⟩)
theorem Tp{x:Nat}(h:x<=1000000000000000000):small (x:Int)=true:=by
 unfold small;rw[decide_eq_true (by omega),decide_eq_true (by omega)];rfl
theorem vq(k:Nat){n D B:Nat}{F:Nat->Nat->Rat}(h1:1<=n)(h4:n<=4)(d0:0<D)(hD:D<=1000000000000000000)(hF:Bq n n D B F)(hB:B<=1000000000000000000):aK T 60 (k+2) "_law_whole" [ftq n n F]=some (.tup [tbl n n (wI n F),.int (oft n F:Nat)]):=by
  have dv:∀ i j,i<n->j<n->(F i j).den ∣ D:=fun i j hi hj=>by
    obtain⟨x,e1,e2⟩:=hF i j hi hj
    have e:=jG (F i j)
    have key:(F i j).num*(D:Int)=x*((F i j).den:Int):=by
      apply Rat.intCast_inj.mp
      rw[Rat.intCast_mul,Rat.intCast_mul,e,<- e1]
      show F i j*((F i j).den:Rat)*(D:Rat)=F i j*(D:Rat)*((F i j).den:Rat)
      grind
    have k2:(F i j).num.natAbs*D=x.natAbs*(F i j).den:=by
      have:=congrArg Int.natAbs key
      rw[Int.natAbs_mul,Int.natAbs_mul] at this
      simpa using this
    have:(F i j).den ∣ (F i j).num.natAbs*D:=⟨x.natAbs,by rw[k2,Nat.mul_comm]⟩
    exact(Nat.Coprime.symm (F i j).reduced).dvd_of_dvd_mul_left this
  have dle:∀ i j,i<n->j<n->(F i j).den<=D:=fun i j hi hj=>Nat.le_of_dvd d0 (dv i j hi hj)
  have ole:∀ i,i<=n->∀ j,j<=n->(i<n\/j=0)->El j (F i) (qK n n F i)<=D:=fun i hi j hj hq=>Nat.le_of_dvd d0 (lF (gG fun a b ha hb=>dv a b (by omega) hb) fun b hb=>dv i b (by omega) (by omega))
  have dpos:∀ i j,0<(F i j).den:=fun i j=>Nat.pos_of_ne_zero (F i j).den_nz
  have step:∀ (o d:Nat) {up:Int} {r u v:Sl},0<d->o<=D->d<=D->nOw r=true->fF (cxN T 60 (k+1)) 60 58 wSc (nC w2) (eF w2) (frD up (d:Int)) (fW (ftq n n F) o r u v)=some (.nxt (fW (ftq n n F) (Nat.lcm o d) r (.sh (.int up)) (.sh (.int (d:Int))))):=fun o d {up} {r u v} hd ho hdD hr=>by
    have g0:0<Nat.gcd o d:=Nat.gcd_pos_of_pos_right _ hd
    have gl:Nat.gcd o d<=d:=Nat.gcd_le_right _ hd
    have gg:=Em k (a:=o) (b:=d) (Nat.lt_of_le_of_lt hdD (Nat.lt_of_le_of_lt hD (by decide +kernel)))
    have lg:((Nat.gcd o d:Nat):Int).natAbs.log2<9000:=qH (Nat.lt_of_le_of_lt (Nat.le_trans gl (Nat.le_trans hdD hD)) (by decide +kernel))
    refine jr (ρ1:=fW (ftq n n F) o r (.sh (.int up)) (.sh (.int (d:Int)))) rfl ?_
    refine jM (ρ:=fW (ftq n n F) o r (.sh (.int up)) (.sh (.int (d:Int)))) (d:=.int ((Nat.lcm o d:Nat):Int)) (aB rfl (aB rfl (aB hr (aB rfl (aB rfl rfl))))) rfl rfl ?_ dB
    refine n8 (bR (x:=.int ((o:Int)*(d:Int))) (y:=.int (Nat.gcd o d:Nat)) (bR (x:=.int (o:Int)) (y:=.int (d:Int)) (xName rfl) (xName rfl) (rA (.inl (Tp (Nat.le_trans ho hD))))) (aH rfl (aj (xName rfl) (aj (xName rfl) aX)) gg) (jN (by omega) lg)) ?_
    congr 1
    rw[cY (by omega)]
    show((o:Int)*(d:Int)) / ((Nat.gcd o d:Nat):Int)=((o*d / Nat.gcd o d:Nat):Int)
    rw[Int.natCast_ediv,Int.natCast_mul]
  have inner:∀ i,i<n->∀ {u v:Sl},nOw u=true->nOw v=true->∃ u' v',nOw u'=true/\nOw v'=true/\dG (fF (cxN T 60 (k+1)) 60 58 wSc (nC w2) (eF w2)) (Ls n fun j=>qD (F i j)) (fW (ftq n n F) (qK n n F i) (.sh (rwq n (F i))) u v)=some (.nxt (fW (ftq n n F) (qK n n F (i+1)) (.sh (rwq n (F i))) u' v')):=fun i hi {u v} hu hv=>by
    obtain⟨ρ',⟨u',v',c1,c2,rfl⟩,hgo⟩:=gJ (f:=fF (cxN T 60 (k+1)) 60 58 wSc (nC w2) (eF w2)) (h:=fun j=>qD (F i j)) (N:=n) (P:=fun j ρ=>∃ u' v',nOw u'=true/\nOw v'=true/\ρ=fW (ftq n n F) (El j (F i) (qK n n F i)) (.sh (rwq n (F i))) u' v') (fun j ρ hj hP=>by
      obtain⟨u',v',_,_,rfl⟩:=hP
      exact⟨_,⟨.sh (.int (F i j).num),.sh (.int ((F i j).den:Int)),rfl,rfl,rfl⟩,step _ _ (dpos i j) (ole i (by omega) j (by omega) (.inl hi)) (dle i j hi hj) rfl⟩) (ρ:=fW (ftq n n F) (qK n n F i) (.sh (rwq n (F i))) u v) ⟨u,v,hu,hv,rfl⟩
    exact⟨u',v',c1,c2,hgo⟩
  obtain⟨ρ',⟨r,u,v,c1,c2,c3,rfl⟩,hgo⟩:=gJ (f:=fF (cxN T 60 (k+1)) 60 59 wSc (nC w1) (eF w1)) (h:=fun i=>rwq n (F i)) (N:=n) (P:=fun i ρ=>∃ r u v,nOw r=true/\nOw u=true/\nOw v=true/\ρ=fW (ftq n n F) (qK n n F i) r u v) (fun i ρ hi hP=>by
    obtain⟨r,u,v,_,q2,q3,rfl⟩:=hP
    obtain⟨u',v',e1,e2,hg⟩:=inner i hi q2 q3
    refine⟨_,⟨.sh (rwq n (F i)),u',v',rfl,e1,e2,rfl⟩,jr (ρ1:=fW (ftq n n F) (qK n n F i) (.sh (rwq n (F i))) u v) rfl ?_⟩
    exact oZ (ρ':=fW (ftq n n F) (qK n n F i) (.sh (rwq n (F i))) u v) (cT (aB rfl (aB rfl (aB rfl (aB q2 (aB q3 rfl)))))) (xu (xs:=Ls n fun j=>qD (F i j)) rfl (xName rfl)) hg dB) (ρ:=fW (ftq n n F) 1 .no .no .no) ⟨.no,.no,.no,rfl,rfl,rfl,rfl⟩
  have od:∀ i j,i<n->j<n->(F i j).den ∣ oft n F:=fun i j hi hj=>gF i j hi hj
  have oD:oft n F<=D:=Nat.le_of_dvd d0 (gG fun a b ha hb=>dv a b ha hb)
  refine cj (fd:=aR (top 84)) rfl rfl (fY (ρ':=[("_law_table_here",.sh (ftq n n F)),("_law_often",.no),("_law_row",.no),("_law_up",.no),("_law_down",.no)]) (d:=.int 1) rfl rfl rfl (aq rfl) ?_)
  refine oZ (ρ:=fW (ftq n n F) 1 .no .no .no) (ρ':=fW (ftq n n F) 1 .no .no .no) rfl (xu (xs:=Ls n fun i=>rwq n (F i)) rfl (xName rfl)) hgo ?_
  refine tR (ρ:=fW (ftq n n F) (oft n F) r u v) (aB rfl (aB rfl (aB c1 (aB c2 (aB c3 rfl))))) (mF (aj (x:=tbl n n (wI n F)) ?_ (aj (xName rfl) aX)) rfl)
  refine dH rfl rfl rfl (aj (cu rfl (xu (xs:=Ls n fun i=>rwq n (F i)) rfl (xName rfl)) (dY (by omega)) (aW (g:=fun i=>row n (wI n F i)) fun i hi=>cG rfl ?_)) aX) pG
  refine dH rfl rfl rfl (aj (cu rfl (xu (xs:=Ls n fun j=>qD (F i j)) rfl (xName rfl)) (dY (by omega)) (aW (g:=fun j=>.int (wI n F i j)) fun j hj=>cG rfl ?_)) aX) pG
  have nb:=(hF i j hi hj).num d0
  refine bR (x:=.int (F i j).num) (y:=.int ((oft n F / (F i j).den:Nat):Int)) (xName rfl) (n8 (bR (x:=.int (oft n F:Nat)) (y:=.int ((F i j).den:Int)) (xName rfl) (xName rfl) (jN (zT _) (qH (Nat.lt_of_le_of_lt (Nat.le_trans nb.2 hD) (by decide +kernel))))) ?_) (rA (.inl (smB (Nat.le_trans nb.1 hB))))
  congr 1
  rw[cY (Iu _),Int.natCast_ediv]
end M31
namespace M31
open PySem DE
def dn:D->Bool
 | .tup [_,.int w]=>decide (w≠1)
 | _=>false
theorem Xi{w:Int}:cmpop .NotEq (.int w) (.int 1)=some (.bl (decide (w≠1))):=by
 rw[oNe (by simp[dep]) (by simp[dep])]
 by_cases h:w=1
 ·subst h;rfl
 ·simp[deq,h]
theorem Sx{l:List D}{t:D->Bool}:blt "any" [.lst (l.map fun x=>.bl (t x))]=some (.bl (l.any t)):=by
 have h:∀ l:List D,mq (l.map fun x=>.bl (t x))=some (l.map t):=fun l=>by
  induction l with
  | nil=>rfl
  | cons x l ih=>simp only[List.map_cons,mq,ih,Option.map_some]
 show(mq (l.map fun x=>.bl (t x)) >>=fun bs=>some (D.bl (bs.any id)))=_
 rw[h]
 show some (D.bl ((l.map t).any id))=_
 rw[List.any_map];rfl
section
variable {m n:Nat} {F:Nat->Nat->Rat}
theorem BR(k:Nat)(h1:1<=m)(h2:m<=4)(h3:1<=n)(h4:n<=4):ev (cxN T 60 (k+1)) 60 (aR (top 31)).sc [("table",.sh (ftq m n F))] (ifX (eH 31 1))=some (.bl ((nums (Ls m fun i=>rwq n (F i))).any dn)):=by
 have hn:aK T 60 (k+1) "numbers_of" [ftq m n F]=some (.lst (nums (Ls m fun i=>rwq n (F i)))):=numbers_of k (by rw[aY];exact h2) (gb (h:=fun i j=>qD (F i j)) h3 h4)
 have ll:(nums (Ls m fun i=>rwq n (F i))).length<=4*(Ls m fun i=>rwq n (F i)).length:=fG (gb (h:=fun i j=>qD (F i j)) h3 h4)
 rw[aY] at ll
 refine dH rfl rfl rfl (aj (cu rfl (wSq (x:=.lst (nums (Ls m fun i=>rwq n (F i)))) rfl (aH rfl (aj (xName rfl) aX) hn) rfl) (mz (by omega)) (bN (g:=fun x=>.bl (dn x)) fun x hx=>?_)) aX) Sx
 obtain⟨i,j,hi,hj,rfl⟩:=oF hx
 exact cG rfl (cg (x:=.int ((F i j).den:Int)) (y:=.int 1) (xName rfl) (aq rfl) Xi)
theorem ups(k:Nat){f:Nat->Rat}(hn:n<=4):aK T 60 (k+1) "row_of_ups" [rwq n f]=some (row n fun j=>(f j).num):=by
 refine cj (fd:=aR (top 30)) rfl rfl (cN (dH rfl rfl rfl (aj (cu rfl (xu (xs:=Ls n fun j=>qD (f j)) rfl (xName rfl)) (dY (by omega)) (aW (g:=fun j=>.int (f j).num) fun j hj=>cG rfl ?_)) aX) pG))
 exact xName rfl
theorem xT(k:Nat)(h1:1<=m)(h2:m<=4)(h3:1<=n)(h4:n<=4)(hl:∀ i j,i<m->j<n->Sq (F i j))(hd:∀ i j,i<m->j<n->(F i j).den=1):aK T 60 (k+4) "as_whole" [ftq m n F]=some (tbl m n fun i j=>(F i j).num):=by
 have a:=BR (k+2) (F:=F) h1 h2 h3 h4
 have e:(nums (Ls m fun i=>rwq n (F i))).any dn=false:=by
  rw[List.any_eq_false]
  intro x hx
  obtain⟨i,j,hi,hj,rfl⟩:=oF hx
  simp[dn,hd i j hi hj]
 rw[e] at a
 refine cj (fd:=aR (top 31)) rfl rfl (zj rfl (d:=.non) (aH rfl (aj (xName rfl) aX) (lD k h1 h2 h3 h4 hl)) (R5 (ρ':=[("table",.sh (ftq m n F))]) rfl a (cN (dH rfl rfl rfl (aj (cu rfl (xu (xs:=Ls m fun i=>rwq n (F i)) rfl (xName rfl)) (dY (by omega)) (aW (g:=fun i=>row n fun j=>(F i j).num) fun i hi=>cG rfl ?_)) aX) pG))))
 exact aH rfl (aj (x:=rwq n (F i)) (xName rfl) aX) (ups (k+2) h4)
theorem xU(k:Nat)(h1:1<=m)(h2:m<=4)(h3:1<=n)(h4:n<=4)(hl:∀ i j,i<m->j<n->Sq (F i j)){i j:Nat}(hi:i<m)(hj:j<n)(hd:(F i j).den≠1):aK T 60 (k+4) "as_whole" [ftq m n F]=some .non:=by
 have a:=BR (k+2) (F:=F) h1 h2 h3 h4
 have e:(nums (Ls m fun i=>rwq n (F i))).any dn=true:=by
  rw[List.any_eq_true]
  refine⟨qD (F i j),yL (r:=rwq n (F i)) (List.mem_map.mpr ⟨i,List.mem_range.mpr hi,rfl⟩) (List.mem_map.mpr ⟨j,List.mem_range.mpr hj,rfl⟩),?_⟩
  have:((F i j).den:Int)≠1:=by omega
  simp[dn];omega
 rw[e] at a
 exact cj (fd:=aR (top 31)) rfl rfl (zj rfl (d:=.non) (aH rfl (aj (xName rfl) aX) (lD k h1 h2 h3 h4 hl)) (EY (fl1:=.ret .non) a (cN (aq rfl)) rfl))
end
def bZ:List Rat->Rat
 | l=>l.foldl (· * ·) 1
def oE(l:D)(t f:Sl):Rho:=[("some",.sh l),("told",t),("fraction",f)]
theorem all_times(k:Nat){l:List Rat}(hl:∀ q∈l,Qb 6 30 q)(hz:l.length<=10):aK T 60 (k+4) "all_times" [.lst (l.map qD)]=some (qD (bZ l)):=by
  have bd:∀ {pre post:List Rat},pre++post=l->Qb (6^pre.length) (30^pre.length) (bZ pre):=fun {pre}=>by
    refine yd (P:=fun pre=>∀ {post:List Rat},pre++post=l->Qb (6^pre.length) (30^pre.length) (bZ pre)) (fun {_} _=>Qb.one) (fun a x ih post e=>?_) pre
    have h1:=ih (post:=x::post) (by rw[<- e];simp)
    have h2:=hl x (by rw[<- e];simp)
    rw[show bZ (a++[x])=bZ a*x by simp[bZ],List.length_append,List.length_singleton,Nat.pow_succ,Nat.pow_succ]
    exact h1.mul h2
  obtain⟨ρ',⟨f,c1,rfl⟩,hgo⟩:=jq (f:=fF (cxN T 60 (k+3)) 60 59 (aR (top 26)).sc (nC (eH 26 1)) (eF (eH 26 1))) (g:=qD) (whole:=l) (P:=fun pre ρ=>∃ f,nOw f=true/\ρ=oE (.lst (l.map qD)) (.sh (qD (bZ pre))) f) (fun pre x post ρ e hP=>by
    obtain⟨f,_,rfl⟩:=hP
    have h1:=bd (pre:=pre) (post:=x::post) e
    have hlen:pre.length<=10:=by rw[<- e] at hz;simp at hz;omega
    have s1:Sq (bZ pre):=h1.sq (Nat.pow_pos (by decide)) (Nat.le_trans (Nat.pow_le_pow_right (by decide) hlen) (by decide)) (Nat.le_trans (Nat.pow_le_pow_right (by decide) hlen) (by decide))
    have s2:Sq x:=(hl x (by rw[<- e];simp)).sq (by decide) (by decide) (by decide)
    refine⟨_,⟨.sh (qD x),rfl,rfl⟩,jr (ρ1:=oE (.lst (l.map qD)) (.sh (qD (bZ pre))) (.sh (qD x))) rfl ?_⟩
    have tq:=um k s1 s2
    rw[show bZ (pre++[x])=bZ pre*x by simp[bZ]]
    exact jM (ρ:=oE (.lst (l.map qD)) (.sh (qD (bZ pre))) (.sh (qD x))) (d:=qD (bZ pre*x)) rfl rfl rfl (aH rfl (aj (xName rfl) (aj (xName rfl) aX)) tq) dB) (l:=l) (pre:=[]) (ρ:=oE (.lst (l.map qD)) (.sh (qD 1)) .no) rfl ⟨.no,rfl,rfl⟩
  refine cj (fd:=aR (top 26)) rfl rfl (fY (ρ':=oE (.lst (l.map qD)) .no .no) (d:=qD 1) rfl rfl rfl (mF (aj (aq rfl) (aj (aq rfl) aX)) rfl) ?_)
  exact oZ (ρ:=oE (.lst (l.map qD)) (.sh (qD 1)) .no) (ρ':=oE (.lst (l.map qD)) (.sh (qD 1)) .no) rfl (wSq (x:=.lst (l.map qD)) rfl (xName rfl) rfl) hgo (tR (aB rfl (aB rfl (aB c1 rfl))) (xName rfl))
end M31
namespace M31
open PySem DE
theorem pX{f g:Nat->Rat}:∀ n:Nat,gP n (fun l=>f l+g l)=gP n f+gP n g
 | 0=>by simp only[gP];grind
 | n+1=>by simp only[gP,pX n];grind
theorem Ac{f:Nat->Rat}:∀ {n:Nat},(∀ l,l<n->f l=0)->gP n f=0
 | 0,_=>rfl
 | n+1,h=>by rw[gP,Ac fun l hl=>h l (by omega),h n (by omega)];grind
theorem j9{f:Nat->Rat}{j:Nat}:∀ {n:Nat},j<n->gP n (fun l=>if l=j then f l else 0)=f j
  | n + 1, h => by
    rw[gP]
    by_cases q:j=n
    · subst q
      rw[Ac fun l hl=>if_neg (by omega),if_pos rfl];grind
    · rw[j9 (by omega),if_neg (by omega)];grind
section
variable {n:Nat} {M:Nat->Nat->Rat} {x:Stp} {i j:Nat}
theorem KY(hr:spR x<n)(hne:spR x≠spC x)(hj:j<n):mulQ n M (stQ x) i j=M i j+(if j=spC x then M i (spR x)*x.s else 0):=by
 have e:(fun l=>M i l*stQ x l j)=fun l=>(if l=j then M i l else 0)+(if l=spR x then(if j=spC x then M i l*x.s else 0) else 0):=by
  funext l
  unfold stQ idQ
  by_cases h1:l=spR x
  ·by_cases h2:j=spC x
   ·rw[if_pos h1,if_pos h2,if_neg (by omega),if_pos h1,if_pos h2];grind
   ·rw[if_pos h1,if_neg h2,if_pos h1,if_neg h2]
    by_cases h3:l=j
    ·rw[if_pos h3,if_pos h3];grind
    ·rw[if_neg h3,if_neg h3];grind
  ·rw[if_neg h1,if_neg h1]
   by_cases h3:l=j
   ·rw[if_pos h3,if_pos h3];grind
   ·rw[if_neg h3,if_neg h3];grind
 unfold mulQ
 rw[e,pX,j9 hj,j9 hr]
theorem Ww(hw:x.w=2)(hj:j<n):mulQ n M (stQ x) i j=if j=x.p then M i j*x.s else M i j:=by
 have e1:spR x=x.p:=by unfold spR;rw[hw];rfl
 have e2:spC x=x.p:=by unfold spC;rw[hw];rfl
 have e:(fun l=>M i l*stQ x l j)=fun l=>if l=j then(if j=x.p then M i l*x.s else M i l) else 0:=by
  funext l
  unfold stQ idQ
  rw[e1,e2]
  by_cases h1:l=x.p<;>by_cases h2:j=x.p<;>by_cases h3:l=j<;>simp only[h1,h2,h3,if_true,if_false]<;>grind
 unfold mulQ
 rw[e,j9 hj]
end
section
variable {n:Nat} {a b c:Rat} {w o f l i j:Nat}
end
def D2(F:Nat->Nat->Rat)(a b c d:Nat):Rat:=F a c*F b d-F a d*F b c
def D3(F:Nat->Nat->Rat)(a b c d e g:Nat):Rat:=F a d*D2 F b c e g-F a e*D2 F b c d g+F a g*D2 F b c d e
structure GQ (n:Nat) (F:Nat->Nat->Rat):Prop where
 g1:∀ i j,i<n->j<n->0<=F i j
 g2:∀ a b c d,a<b->b<n->c<d->d<n->0<=D2 F a b c d
 g3:n=3->0<=D3 F 0 1 2 0 1 2
theorem adN{a b:Rat}(h:0<=a)(k:0<=b):0<=a+b:=by grind
theorem mN{a b:Rat}(h:0<=a)(k:0<=b):0<=a*b:=Rat.mul_nonneg h k
theorem RN{n:Nat}(h3:n<=3):GQ n idQ:=by
 have e:∀ i j,0<=idQ i j:=fun i j=>by unfold idQ;split<;>decide
 refine⟨fun i j _ _=>e i j,fun a b c d hab hb hcd hd=>?_,fun _=>by decide +kernel⟩
 have z:idQ a d*idQ b c=0:=by
  unfold idQ
  by_cases h1:a=d
  ·rw[if_neg (by omega:¬ b=c)];grind
  ·rw[if_neg h1];grind
 unfold D2
 rw[z]
 have:=mN (e a c) (e b d)
 grind
theorem GQ.col{n:Nat}{M M':Nat->Nat->Rat}{r c:Nat}{s:Rat}(h3:n<=3)(hr:r<n)(hc:c<n)(hb:c=r+1\/r=c+1)(hs:0<=s)(G:GQ n M)(e:∀ i j,i<n->j<n->M' i j=M i j+(if j=c then M i r*s else 0)):GQ n M':=by
 have e1:∀ i,i<n->M' i c=M i c+M i r*s:=fun i hi=>by rw[e i c hi hc,if_pos rfl]
 have e2:∀ i j,i<n->j<n->j≠c->M' i j=M i j:=fun i j hi hj q=>by rw[e i j hi hj,if_neg q];grind
 refine⟨fun i j hi hj=>?_,fun a b x y hab hbn hxy hy=>?_,fun hn=>?_⟩
 ·by_cases q:j=c
  ·subst q
   rw[e1 i hi]
   exact adN (G.g1 i j hi hj) (mN (G.g1 i r hi hr) hs)
  ·rw[e2 i j hi hj q]
   exact G.g1 i j hi hj
 ·by_cases qx:x=c
  ·subst qx
   have:D2 M' a b x y=D2 M a b x y+D2 M a b r y*s:=by
    unfold D2
    rw[e1 a (by omega),e1 b hbn,e2 a y (by omega) hy (by omega),e2 b y hbn hy (by omega)]
    grind
   rw[this]
   refine adN (G.g2 a b x y hab hbn hxy hy) (mN ?_ hs)
   by_cases q:r=y
   ·subst q;unfold D2;grind
   ·exact G.g2 a b r y hab hbn (by omega) hy
  ·by_cases qy:y=c
   ·subst qy
    have:D2 M' a b x y=D2 M a b x y+D2 M a b x r*s:=by
     unfold D2
     rw[e1 a (by omega),e1 b hbn,e2 a x (by omega) (by omega) qx,e2 b x hbn (by omega) qx]
     grind
    rw[this]
    refine adN (G.g2 a b x y hab hbn hxy hy) (mN ?_ hs)
    by_cases q:x=r
    ·subst q;unfold D2;grind
    ·exact G.g2 a b x r hab hbn (by omega) hr
   ·have:D2 M' a b x y=D2 M a b x y:=by
     unfold D2
     rw[e2 a x (by omega) (by omega) qx,e2 b x hbn (by omega) qx,e2 a y (by omega) hy qy,e2 b y hbn hy qy]
    rw[this]
    exact G.g2 a b x y hab hbn hxy hy
 ·subst hn
  have g:=G.g3 rfl
  have:D3 M' 0 1 2 0 1 2=D3 M 0 1 2 0 1 2:=by
   unfold D3 D2
   rw[e 0 0 (by omega) (by omega),e 0 1 (by omega) (by omega),e 0 2 (by omega) (by omega),e 1 0 (by omega) (by omega),e 1 1 (by omega) (by omega),e 1 2 (by omega) (by omega),e 2 0 (by omega) (by omega),e 2 1 (by omega) (by omega),e 2 2 (by omega) (by omega)]
   match r,c,hr,hc,hb with
   | 0,1,_,_,_=>simp;grind
   | 1,2,_,_,_=>simp;grind
   | 1,0,_,_,_=>simp;grind
   | 2,1,_,_,_=>simp;grind
  rw[this];exact g
theorem GQ.scl{n:Nat}{M M':Nat->Nat->Rat}{p:Nat}{s:Rat}(h3:n<=3)(hs:0<=s)(G:GQ n M)(e:∀ i j,i<n->j<n->M' i j=if j=p then M i j*s else M i j):GQ n M':=by
 refine⟨fun i j hi hj=>?_,fun a b x y hab hbn hxy hy=>?_,fun hn=>?_⟩
 ·rw[e i j hi hj]
  split
  ·exact mN (G.g1 i j hi hj) hs
  ·exact G.g1 i j hi hj
 ·have g:=G.g2 a b x y hab hbn hxy hy
  have:D2 M' a b x y=D2 M a b x y*(if x=p then s else if y=p then s else 1):=by
   unfold D2
   rw[e a x (by omega) (by omega),e b y hbn hy,e a y (by omega) hy,e b x hbn (by omega)]
   by_cases q1:x=p
   ·rw[if_pos q1,if_pos q1,if_pos q1,if_neg (by omega),if_neg (by omega)];grind
   ·by_cases q2:y=p
    ·rw[if_neg q1,if_pos q2,if_pos q2,if_neg q1,if_neg q1,if_pos q2];grind
    ·rw[if_neg q1,if_neg q2,if_neg q2,if_neg q1,if_neg q1,if_neg q2];grind
  rw[this]
  refine mN g ?_
  split
  ·exact hs
  ·split
   ·exact hs
   ·decide
 ·subst hn
  have g:=G.g3 rfl
  have:D3 M' 0 1 2 0 1 2=D3 M 0 1 2 0 1 2*(if p<3 then s else 1):=by
   unfold D3 D2
   rw[e 0 0 (by omega) (by omega),e 0 1 (by omega) (by omega),e 0 2 (by omega) (by omega),e 1 0 (by omega) (by omega),e 1 1 (by omega) (by omega),e 1 2 (by omega) (by omega),e 2 0 (by omega) (by omega),e 2 1 (by omega) (by omega),e 2 2 (by omega) (by omega)]
   by_cases q0:p=0
   ·subst q0;simp;grind
   ·by_cases q1:p=1
    ·subst q1;simp;grind
    ·by_cases q2:p=2
     ·subst q2;simp;grind
     ·have n0:¬ 0=p:=by omega
      have n1:¬ 1=p:=by omega
      have n2:¬ 2=p:=by omega
      rw[if_neg n0,if_neg n1,if_neg n2,if_neg n0,if_neg n1,if_neg n2,if_neg n0,if_neg n1,if_neg n2,if_neg (by omega)];grind
  rw[this]
  refine mN g ?_
  split
  ·exact hs
  ·decide
theorem RB{n:Nat}(h3:n<=3):∀ l:List Stp,(∀ x∈l,okS n x)->GQ n (mkQ n l):=by
  refine yd (fun _=>RN h3) fun l x ih h=>?_
  have G:=ih fun y hy=>h y (by simp[hy])
  have ok:=h x (by simp)
  rw[iT]
  obtain⟨w,p,s⟩:=x
  have hw:=sI ok.pl
  have pl:=ok.pl
  match w,hw with
  | 0, _ =>
    have h2:p+1<n:=by simpa[okP] using pl
    exact G.col (r:=p) (c:=p+1) h3 (by omega) h2 (.inl rfl) ok.nn fun i j _ hj=>KY (x:=⟨0,p,s⟩) (by show p<n;omega) (by show p≠p+1;omega) hj
  | 1, _ =>
    have h2:p+1<n:=by simpa[okP] using pl
    exact G.col (r:=p+1) (c:=p) h3 h2 (by omega) (.inr rfl) ok.nn fun i j _ hj=>KY (x:=⟨1,p,s⟩) (by show p+1<n;omega) (by show p+1≠p;omega) hj
  | 2,_=>exact G.scl (p:=p) h3 ok.nn fun i j _ hj=>Ww (x:=⟨2,p,s⟩) rfl hj
end M31
namespace M31
open PySem DE
def d2(f:Nat->Nat->Int)(a b c d:Nat):Int:=f a c*f b d-f a d*f b c
def d3(f:Nat->Nat->Int)(a b c d e g:Nat):Int:=f a d*d2 f b c e g-f a e*d2 f b c d g+f a g*d2 f b c d e
structure GP (m n:Nat) (f:Nat->Nat->Int):Prop where
 g1:∀ i j,i<m->j<n->0<=f i j
 g2:∀ a b c d,a<b->b<m->c<d->d<n->0<=d2 f a b c d
 g3:∀ a b c d e g,a<b->b<c->c<m->d<e->e<g->g<n->0<=d3 f a b c d e g
theorem Tn:∀ n,n<5->∀ i,i<n->[i]∈subs n 1:=by decide
theorem Tj:∀ n,n<5->∀ b,b<n->∀ a,a<b->[a,b]∈subs n 2:=by decide
def Wx(n:Nat):Bool:=(List.range n).all fun c=>(List.range c).all fun b=>(List.range b).all fun a=>(subs n 3).contains [a,b,c]
theorem Gq:∀ n,n<5->Wx n=true:=by decide
theorem Ti(n:Nat)(hn:n<5)(c:Nat)(hc:c<n)(b:Nat)(hb:b<c)(a:Nat)(ha:a<b):[a,b,c]∈subs n 3:=by
 have h:=Gq n hn
 unfold Wx at h
 simp only[List.all_eq_true,List.mem_range] at h
 have:=h c hc b hb a ha
 simpa using this
theorem inv1:∀ n,n<5->∀ R∈subs n 1,R=[R.getD 0 0]/\R.getD 0 0<n:=by decide
theorem inv2:∀ n,n<5->∀ R∈subs n 2,R=[R.getD 0 0,R.getD 1 0]/\R.getD 0 0<R.getD 1 0/\R.getD 1 0<n:=by decide
theorem Wo:∀ n,n<5->∀ R∈subs n 3,R=[R.getD 0 0,R.getD 1 0,R.getD 2 0]/\R.getD 0 0<R.getD 1 0/\R.getD 1 0<R.getD 2 0/\R.getD 2 0<n:=by decide
theorem dM1{f:Nat->Nat->Int}{a b:Nat}:dM f [a] [b]=f a b:=by show det 1 _=_;rw[Wv];rfl
theorem dM2{f:Nat->Nat->Int}{a b c d:Nat}:dM f [a,b] [c,d]=d2 f a b c d:=by show det 2 _=_;rw[Kg];rfl
theorem dM3{f:Nat->Nat->Int}{a b c d e g:Nat}:dM f [a,b,c] [d,e,g]=d3 f a b c d e g:=by show det 3 _=_;rw[Wu];rfl
theorem Bg{m n i:Nat}{f:Nat->Nat->Int}{x:D}:x∈mA m n f i↔∃ s R C,s<i/\R∈subs m (s+1)/\C∈subs n (s+1)/\mnD f R C=x:=by
 unfold mA mS
 simp only[List.mem_flatMap,List.mem_map,List.mem_range]
 constructor
 ·rintro⟨s,hs,R,hR,C,hC,e⟩;exact⟨s,R,C,hs,hR,hC,e⟩
 ·rintro⟨s,R,C,hs,hR,hC,e⟩;exact⟨s,hs,R,hR,C,hC,e⟩
theorem Jx{m n i:Nat}{f:Nat->Nat->Int}{t:D->Bool}{P:Int->Prop}(ht:∀ R C,t (mnD f R C)=true↔P (dM f R C)):(mA m n f i).all t=true↔∀ s R C,s<i->R∈subs m (s+1)->C∈subs n (s+1)->P (dM f R C):=by
 rw[List.all_eq_true]
 constructor
 ·intro h s R C hs hR hC
  exact(ht R C).mp (h _ (Bg.mpr ⟨s,R,C,hs,hR,hC,rfl⟩))
 ·intro h x hx
  obtain⟨s,R,C,hs,hR,hC,rfl⟩:=Bg.mp hx
  exact(ht R C).mpr (h s R C hs hR hC)
theorem few{m n:Nat}{f:Nat->Nat->Int}{P:Int->Prop}(h1:m<=4)(h2:n<=4)(h3:min m n<=3):(∀ s R C,s<min m n->R∈subs m (s+1)->C∈subs n (s+1)->P (dM f R C)) ↔
    (∀ i j,i<m->j<n->P (f i j))/\(∀ a b c d,a<b->b<m->c<d->d<n->P (d2 f a b c d))/\∀ a b c d e g,a<b->b<c->c<m->d<e->e<g->g<n->P (d3 f a b c d e g):=by
  constructor
  · intro h
    refine⟨fun i j hi hj=>?_,fun a b c d ha hb hc hd=>?_,fun a b c d e g ha hb hc hd he hg=>?_⟩
    · have:=h 0 [i] [j] (by omega) (Tn m (by omega) i hi) (Tn n (by omega) j hj)
      rwa [dM1] at this
    · have:=h 1 [a,b] [c,d] (by omega) (Tj m (by omega) b hb a ha) (Tj n (by omega) d hd c hc)
      rwa [dM2] at this
    · have:=h 2 [a,b,c] [d,e,g] (by omega) (Ti m (by omega) c hc b hb a ha) (Ti n (by omega) g hg e he d hd)
      rwa [dM3] at this
  · rintro⟨p1,p2,p3⟩ s R C hs hR hC
    match s,(show s<3 by omega) with
    | 0, _ =>
      obtain⟨e1,q1⟩:=inv1 m (by omega) R hR
      obtain⟨e2,q2⟩:=inv1 n (by omega) C hC
      rw[e1,e2,dM1]
      exact p1 _ _ q1 q2
    | 1, _ =>
      obtain⟨e1,q1,q2⟩:=inv2 m (by omega) R hR
      obtain⟨e2,q3,q4⟩:=inv2 n (by omega) C hC
      rw[e1,e2,dM2]
      exact p2 _ _ _ _ q1 q2 q3 q4
    | 2, _ =>
      obtain⟨e1,q1,q2,q3⟩:=Wo m (by omega) R hR
      obtain⟨e2,q4,q5,q6⟩:=Wo n (by omega) C hC
      rw[e1,e2,dM3]
      exact p3 _ _ _ _ _ _ q1 q2 q3 q4 q5 q6
theorem vN{m n:Nat}{f:Nat->Nat->Int}(h1:m<=4)(h2:n<=4)(h3:min m n<=3):yZ m n f=true↔GP m n f:=by
 unfold yZ
 rw[Jx (P:=fun w=>0<=w) fun R C=>by simp[nb,mnD],few (P:=fun w=>0<=w) h1 h2 h3]
 exact⟨fun⟨a,b,c⟩=>⟨a,b,c⟩,fun⟨a,b,c⟩=>⟨a,b,c⟩⟩
section
variable {n:Nat} {M:Nat->Nat->Rat}
theorem xG{i j:Nat}(hi:i<n)(hj:j<n):((wI n M i j:Int):Rat)=M i j*((oft n M:Nat):Rat):=by
 obtain⟨c,hc⟩:=gF (m:=n) (F:=M) (i:=n) i j hi hj
 have hd:0<(M i j).den:=Nat.pos_of_ne_zero (M i j).den_nz
 have e:oft n M / (M i j).den=c:=by rw[show oft n M=(M i j).den*c from hc,Nat.mul_div_cancel_left _ hd]
 unfold wI
 rw[e,Rat.intCast_mul,jG (M i j),show oft n M=(M i j).den*c from hc,Rat.natCast_mul]
 show M i j*((M i j).den:Rat)*(c:Rat)=M i j*(((M i j).den:Rat)*(c:Rat))
 grind
theorem Jo:(0:Rat)<=((oft n M:Nat):Rat):=by exact Rat.natCast_nonneg
theorem RP{x:Int}(h:(0:Rat)<=(x:Rat)):0<=x:=by exact Rat.intCast_nonneg.mp h
theorem uc{a b c d:Nat}(ha:a<n)(hb:b<n)(hc:c<n)(hd:d<n):((d2 (wI n M) a b c d:Int):Rat)=D2 M a b c d*(((oft n M:Nat):Rat)*((oft n M:Nat):Rat)):=by
 unfold d2 D2
 rw[Rat.intCast_sub,Rat.intCast_mul,Rat.intCast_mul,xG ha hc,xG hb hd,xG ha hd,xG hb hc]
 grind
theorem Hv{a b c d e g:Nat}(ha:a<n)(hb:b<n)(hc:c<n)(hd:d<n)(he:e<n)(hg:g<n):((d3 (wI n M) a b c d e g:Int):Rat)=D3 M a b c d e g*(((oft n M:Nat):Rat)*((oft n M:Nat):Rat)*((oft n M:Nat):Rat)):=by
 unfold d3 D3
 rw[Rat.intCast_add,Rat.intCast_sub,Rat.intCast_mul,Rat.intCast_mul,Rat.intCast_mul,xG ha hd,xG ha he,xG ha hg,uc hb hc he hg,uc hb hc hd hg,uc hb hc hd he]
 grind
theorem K8(h3:n<=3)(G:GQ n M):GP n n (wI n M):=by
 have o:=Jo (n:=n) (M:=M)
 refine⟨fun i j hi hj=>RP (by rw[xG hi hj];exact mN (G.g1 i j hi hj) o),fun a b c d hab hb hcd hd=>RP (by rw[uc (by omega) hb (by omega) hd];exact mN (G.g2 a b c d hab hb hcd hd) (mN o o)),fun a b c d e g h1 h2 h4 h5 h6 h7=>?_⟩
 have hn:n=3:=by omega
 obtain⟨rfl,rfl,rfl,rfl,rfl,rfl⟩:a=0/\b=1/\c=2/\d=0/\e=1/\g=2:=by omega
 exact RP (by rw[Hv (by omega) (by omega) (by omega) (by omega) (by omega) (by omega)];exact mN (G.g3 hn) (mN (mN o o) o))
def dtQ:Nat->(Nat->Nat->Rat)->Rat
 | 1,F=>F 0 0
 | 2,F=>D2 F 0 1 0 1
 | _,F=>D3 F 0 1 2 0 1 2
def pwQ(o:Rat):Nat->Rat
 | 0=>1
 | n+1=>pwQ o n*o
theorem Hu(h1:1<=n)(h3:n<=3):((det n (wI n M):Int):Rat)=dtQ n M*pwQ ((oft n M:Nat):Rat) n:=by
  match n,h1,h3 with
  | 1,_,_=>rw[Wv,xG (by omega) (by omega)];show M 0 0*_=M 0 0*(1*_);grind
  | 2, _, _ =>
    rw[Kg]
    have:=uc (n:=2) (M:=M) (a:=0) (b:=1) (c:=0) (d:=1) (by omega) (by omega) (by omega) (by omega)
    unfold d2 at this
    rw[this]
    show D2 M 0 1 0 1*_=D2 M 0 1 0 1*(1*_*_)
    grind
  | 3, _, _ =>
    rw[Wu]
    have:=Hv (n:=3) (M:=M) (a:=0) (b:=1) (c:=2) (d:=0) (e:=1) (g:=2) (by omega) (by omega) (by omega) (by omega) (by omega) (by omega)
    unfold d3 d2 at this
    rw[this]
    show D3 M 0 1 2 0 1 2*_=D3 M 0 1 2 0 1 2*(1*_*_*_)
    grind
theorem Bu{M':Nat->Nat->Rat}{r c:Nat}{s:Rat}(h1:2<=n)(h3:n<=3)(hr:r<n)(hc:c<n)(hb:c=r+1\/r=c+1)(e:∀ i j,i<n->j<n->M' i j=M i j+(if j=c then M i r*s else 0)):dtQ n M'=dtQ n M:=by
  match n,h1,h3 with
  | 2, _, _ =>
    show D2 M' 0 1 0 1=D2 M 0 1 0 1
    unfold D2
    rw[e 0 0 (by omega) (by omega),e 0 1 (by omega) (by omega),e 1 0 (by omega) (by omega),e 1 1 (by omega) (by omega)]
    match r,c,hr,hc,hb with
    | 0,1,_,_,_=>simp;grind
    | 1,0,_,_,_=>simp;grind
  | 3, _, _ =>
    show D3 M' 0 1 2 0 1 2=D3 M 0 1 2 0 1 2
    unfold D3 D2
    rw[e 0 0 (by omega) (by omega),e 0 1 (by omega) (by omega),e 0 2 (by omega) (by omega),e 1 0 (by omega) (by omega),e 1 1 (by omega) (by omega),e 1 2 (by omega) (by omega),e 2 0 (by omega) (by omega),e 2 1 (by omega) (by omega),e 2 2 (by omega) (by omega)]
    match r,c,hr,hc,hb with
    | 0,1,_,_,_=>simp;grind
    | 1,2,_,_,_=>simp;grind
    | 1,0,_,_,_=>simp;grind
    | 2,1,_,_,_=>simp;grind
theorem Ke{M':Nat->Nat->Rat}{p:Nat}{s:Rat}(h1:1<=n)(h3:n<=3)(hp:p<n)(e:∀ i j,i<n->j<n->M' i j=if j=p then M i j*s else M i j):dtQ n M'=dtQ n M*s:=by
  match n,h1,h3 with
  | 1, _, _ =>
    show M' 0 0=M 0 0*s
    rw[e 0 0 (by omega) (by omega),if_pos (by omega)]
  | 2, _, _ =>
    show D2 M' 0 1 0 1=D2 M 0 1 0 1*s
    unfold D2
    rw[e 0 0 (by omega) (by omega),e 0 1 (by omega) (by omega),e 1 0 (by omega) (by omega),e 1 1 (by omega) (by omega)]
    match p,hp with
    | 0,_=>simp;grind
    | 1,_=>simp;grind
  | 3, _, _ =>
    show D3 M' 0 1 2 0 1 2=D3 M 0 1 2 0 1 2*s
    unfold D3 D2
    rw[e 0 0 (by omega) (by omega),e 0 1 (by omega) (by omega),e 0 2 (by omega) (by omega),e 1 0 (by omega) (by omega),e 1 1 (by omega) (by omega),e 1 2 (by omega) (by omega),e 2 0 (by omega) (by omega),e 2 1 (by omega) (by omega),e 2 2 (by omega) (by omega)]
    match p,hp with
    | 0,_=>simp;grind
    | 1,_=>simp;grind
    | 2,_=>simp;grind
end
def scl(l:List Stp):List Rat:=(l.filter fun x=>x.w==2).map fun x=>x.s
theorem Jv{n:Nat}(h1:1<=n)(h3:n<=3):∀ l:List Stp,(∀ x∈l,okS n x)->dtQ n (mkQ n l)=bZ (scl l):=by
  refine yd (fun _=>?_) fun l x ih h=>?_
  · match n,h1,h3 with
    | 1,_,_=>decide +kernel
    | 2,_,_=>decide +kernel
    | 3,_,_=>decide +kernel
  have E:=ih fun y hy=>h y (by simp[hy])
  have ok:=h x (by simp)
  rw[iT]
  obtain⟨w,p,s⟩:=x
  have hw:=sI ok.pl
  have pl:=ok.pl
  match w,hw with
  | 0, _ =>
    have h2:p+1<n:=by simpa[okP] using pl
    rw[Bu (r:=p) (c:=p+1) (by omega) h3 (by omega) h2 (.inl rfl) fun i j _ hj=>KY (x:=⟨0,p,s⟩) (by show p<n;omega) (by show p≠p+1;omega) hj,E]
    simp[scl]
  | 1, _ =>
    have h2:p+1<n:=by simpa[okP] using pl
    rw[Bu (r:=p+1) (c:=p) (by omega) h3 h2 (by omega) (.inr rfl) fun i j _ hj=>KY (x:=⟨1,p,s⟩) (by show p+1<n;omega) (by show p+1≠p;omega) hj,E]
    simp[scl]
  | 2, _ =>
    rw[Ke (p:=p) h1 h3 (m6 pl) fun i j _ hj=>Ww (x:=⟨2,p,s⟩) rfl hj,E]
    simp[scl,bZ]
end M31
namespace M31
open PySem DE
def shF:Nat->D
 | 0=>frD 0 1
 | 1=>frD 1 1
 | 2=>frD 2 1
 | 3=>frD 3 1
 | 4=>frD 1 2
 | 5=>frD 3 2
 | 6=>frD 2 3
 | _=>frD 5 1
theorem share(k:Nat)(ns:List Int)(a:Nat):aK T 60 (k+3) "_law_share" [scr ns,.int (a:Int)]=some (shF (pickN ns a 8)):=by
 have h:=bT (ns:=ns) (k:=a) (many:=8) (by omega)
 have pk:=pick k ns a (many:=8) (by omega)
 generalize pickN ns a 8=p at h pk
 refine cj (fd:=aR (top 78)) rfl rfl (tR (ρ:=[("_law_script",.sh (scr ns)),("_law_at",.sh (.int (a:Int)))]) rfl (xIx (x:=.lst [frD 0 1,frD 1 1,frD 2 1,frD 3 1,frD 1 2,frD 3 2,frD 2 3,frD 5 1]) (i:=(p:Int)) ?_ (aH rfl (aj (x:=scr ns) (xName rfl) (aj (xName rfl) (aj (aq rfl) aX))) pk) rfl ?_))
 ·rfl
 ·match p,h with
  | 0,_=>rfl
  | 1,_=>rfl
  | 2,_=>rfl
  | 3,_=>rfl
  | 4,_=>rfl
  | 5,_=>rfl
  | 6,_=>rfl
  | 7,_=>rfl
def shN:Nat->Nat
 | 0=>0
 | 1=>6
 | 2=>12
 | 3=>18
 | 4=>3
 | 5=>9
 | 6=>4
 | _=>30
def shQ(p:Nat):Rat:=(shN p:Rat) / 6
def scQ(p:Nat):Rat:=if p=0 then 4 else shQ p
theorem Lr:∀ p,p<8->shN p<=30:=by decide
theorem Lp{p:Nat}(h:p<8):qD (shQ p)=shF p:=by
 match p,h with
 | 0,_=>kernel_rfl
 | 1,_=>kernel_rfl
 | 2,_=>kernel_rfl
 | 3,_=>kernel_rfl
 | 4,_=>kernel_rfl
 | 5,_=>kernel_rfl
 | 6,_=>kernel_rfl
 | 7,_=>kernel_rfl
theorem uF{p:Nat}(h:p<8):0<=shQ p/\0<scQ p:=by
 match p,h with
 | 0,_=>decide +kernel
 | 1,_=>decide +kernel
 | 2,_=>decide +kernel
 | 3,_=>decide +kernel
 | 4,_=>decide +kernel
 | 5,_=>decide +kernel
 | 6,_=>decide +kernel
 | 7,_=>decide +kernel
theorem Ih{p:Nat}(h:p<8):Qb 6 30 (shQ p):=⟨(shN p:Int),by
  show shQ p*(6:Rat)=((shN p:Nat):Rat)
  unfold shQ;grind,by have:=Lr p h;omega⟩
theorem Lx{p:Nat}(h:p<8):Qb 6 30 (scQ p):=by
 unfold scQ
 split
 ·exact⟨24,by decide +kernel,by decide⟩
 ·exact Ih h
def Kz:Nat->Nat
 | 0=>0
 | 1=>1
 | 2=>0
 | 3=>1
 | _=>2
theorem Ca(p:Nat):Kz p<3:=by unfold Kz;split<;>omega
def wV(ns:List Int)(n b:Nat):Nat:=if 1<n then Kz (pickN ns b 5) else 2
def stV(ns:List Int)(at' n k:Nat):Stp:=⟨wV ns n (at'+1+4*k),if wV ns n (at'+1+4*k)=2 then pickN ns (at'+1+4*k+2) n else pickN ns (at'+1+4*k+2) (n-1),if wV ns n (at'+1+4*k)=2 then scQ (pickN ns (at'+1+4*k+1) 8) else shQ (pickN ns (at'+1+4*k+1) 8)⟩
def GZ(ns:List Int)(at' n m:Nat):List Stp:=(List.range m).map (stV ns at' n)
theorem Ht{ns:List Int}{n b:Nat}:wV ns n b<3:=by
 unfold wV
 split
 ·exact Ca _
 ·omega
theorem Ad{ns:List Int}{at' n k:Nat}(h1:1<=n):okS n (stV ns at' n k)/\Bq n n 6 30 (stQ (stV ns at' n k)):=by
 have hp:=bT (ns:=ns) (k:=at'+1+4*k+1) (many:=8) (by omega)
 have hw:=Ht (ns:=ns) (n:=n) (b:=at'+1+4*k)
 have qb:Qb 6 30 (stV ns at' n k).s:=by
  show Qb 6 30 (if wV ns n (at'+1+4*k)=2 then _ else _)
  split
  ·exact Lx hp
  ·exact Ih hp
 have pl:okP n (stV ns at' n k).w (stV ns at' n k).p=true:=by
  show okP n (wV ns n (at'+1+4*k)) (if wV ns n (at'+1+4*k)=2 then _ else _)=true
  by_cases q:wV ns n (at'+1+4*k)=2
  ·rw[if_pos q,q]
   have:=bT (ns:=ns) (k:=at'+1+4*k+2) (many:=n) (by omega)
   simp[okP];exact this
  ·rw[if_neg q]
   have n1:1<n:=by
    unfold wV at q
    by_cases z:1<n
    ·exact z
    ·rw[if_neg z] at q;exact absurd rfl q
   have:=bT (ns:=ns) (k:=at'+1+4*k+2) (many:=n-1) (by omega)
   generalize wV ns n (at'+1+4*k)=w at hw q
   match w,hw with
   | 0,_=>simp[okP];omega
   | 1,_=>simp[okP];omega
   | 2,_=>exact absurd rfl q
 refine⟨⟨pl,?_,fun hq=>?_,qb.sq (by decide) (by decide) (by decide)⟩,fun i j _ _=>?_⟩
 ·show 0<=(if wV ns n (at'+1+4*k)=2 then _ else _)
  split
  ·exact Rat.le_of_lt (uF hp).2
  ·exact(uF hp).1
 ·have hq:wV ns n (at'+1+4*k)=2:=hq
  show 0<(if wV ns n (at'+1+4*k)=2 then _ else _)
  rw[if_pos hq]
  exact(uF hp).2
 ·have i0:Qb 6 30 (idQ i j):=by
   unfold idQ
   split
   ·exact Qb.one.up (by decide)
   ·exact Qb.zero.up (Nat.zero_le _)
  unfold stQ
  split
  ·split
   ·exact qb
   ·exact i0
  ·exact i0
theorem vf{ns:List Int}{at' n m:Nat}{x:Stp}(h:x∈GZ ns at' n m):∃ k,x=stV ns at' n k:=by
 obtain⟨k,_,rfl⟩:=List.mem_map.mp h
 exact⟨k,rfl⟩
theorem qd{n:Nat}{l:List Stp}(h1:1<=n)(hl:l.length<=7)(h:∀ x∈l,∃ ns at' k,x=stV ns at' n k):Sml n 6 30 l:=by
 refine⟨fun x hx=>?_,fun x hx=>?_,by decide,Nat.le_trans (Nat.pow_le_pow_right (by decide) hl) (by decide),Nat.le_trans (Nat.pow_le_pow_right (by decide) hl) (by decide),by decide,by decide⟩
 ·obtain⟨ns,a,k,rfl⟩:=h x hx;exact(Ad h1).1
 ·obtain⟨ns,a,k,rfl⟩:=h x hx;exact(Ad h1).2
theorem R4{cx:Cxt}{sc:Scope}{ρ ρ' ρ2:Rho}{p:Pos}{F m:Nat}{r A B:List Stmt}{c:Expr}{fl:Fl}(hf:frz F c ρ=ρ')(h:ev cx F sc ρ' c=some (.bl false))(k:blk cx F m sc B ρ'=some (.nxt ρ2))(k2:blk cx F (m+1) sc r ρ2=some fl):blk cx F (m+1) sc (.If c A B p::r) ρ=some fl:=by
 subst hf
 exact R3 h k k2
def gW(ns:List Int)(a n m:Nat)(md k b w s:Sl):Rho:=[("_law_script",.sh (scr ns)),("_law_at",.sh (.int (a:Int))),("_law_many",.sh (.int (n:Int))),("_law_most",.sh (.int (m:Int))),("_law_made_here",md),("_law_k",k),("_law_base",b),("_law_word",w),("_law_share_here",s)]
theorem eqS{w:Nat}(h:w<3):cmpop .Eq (.str (wS w)) (.str "scale")=some (.bl (decide (w=2))):=by
 match w,h with
 | 0,_=>kernel_rfl
 | 1,_=>kernel_rfl
 | 2,_=>kernel_rfl
theorem gt0{p:Nat}(h:p<8):cmpop .Gt (.int (shQ p).num) (.int 0)=some (.bl (decide (p≠0))):=by
 match p,h with
 | 0,_=>kernel_rfl
 | 1,_=>kernel_rfl
 | 2,_=>kernel_rfl
 | 3,_=>kernel_rfl
 | 4,_=>kernel_rfl
 | 5,_=>kernel_rfl
 | 6,_=>kernel_rfl
 | 7,_=>kernel_rfl
abbrev sSc:Scope:=(aR (top 79)).sc
abbrev sF:Stmt:=eH 79 1
theorem ni(k:Nat)(ns:List Int)(a:Nat){n mo:Nat}(h1:1<=n)(h4:n<=4)(hmo:mo<=100):aK T 60 (k+4) "_law_steps" [scr ns,.int (a:Int),.int (n:Int),.int (mo:Int)]=some (ssD (GZ ns a n (pickN ns a (mo+1)))):=by
  have hm:=bT (ns:=ns) (k:=a) (many:=mo+1) (by omega)
  have pk:=pick (k+1) ns a (many:=mo+1) (by omega)
  generalize pickN ns a (mo+1)=m at hm pk
  obtain⟨ρ',⟨kk,b,w,s,c1,c2,c3,c4,rfl⟩,hgo⟩:=gJ (f:=fF (cxN T 60 (k+3)) 60 59 sSc (nC sF) (eF sF)) (h:=fun i=>.int (i:Int)) (N:=m) (P:=fun i ρ=>∃ kk b w s,nOw kk=true/\nOw b=true/\nOw w=true/\nOw s=true/\ρ=gW ns a n mo (.ow (Ls i fun j=>stD (stV ns a n j))) kk b w s) (fun i ρ hi hP=>by
    obtain⟨kk,b,w,s,q1,q2,q3,q4,rfl⟩:=hP
    let bb:Nat:=a+1+4*i
    let md:Sl:=.ow (Ls i fun j=>stD (stV ns a n j))
    have hp:=bT (ns:=ns) (k:=bb+1) (many:=8) (by omega)
    have sh:=share k ns (bb+1)
    rw[<- Lp hp] at sh
    refine⟨_,⟨.sh (.int (i:Int)),.sh (.int (bb:Nat)),.sh (.str (wS (wV ns n bb))),.sh (qD (shQ (pickN ns (bb+1) 8))),rfl,rfl,rfl,rfl,rfl⟩,?_⟩
    rw[xq (m:=i)]
    refine jr (ρ1:=gW ns a n mo md (.sh (.int (i:Int))) b w s) rfl (fY (ρ':=gW ns a n mo md (.sh (.int (i:Int))) b w s) (d:=.int (bb:Nat)) (bU rfl (bU rfl (bU rfl (bU rfl (KR rfl (bU rfl (bU q2 (bU q3 (bU q4 Fg))))))))) rfl rfl (n8 (bR (x:=.int ((a:Int)+1)) (y:=.int (4*(i:Int))) (bR (x:=.int (a:Int)) (y:=.int 1) (xName rfl) (aq rfl) rfl) (bR (x:=.int 4) (y:=.int (i:Int)) (aq rfl) (xName rfl) (rA (.inl rfl))) rfl) (congrArg D.int (by show(a:Int)+1+4*i=((a+1+4*i:Nat):Int);omega))) ?_)
    refine fY (ρ':=gW ns a n mo md (.sh (.int (i:Int))) (.sh (.int (bb:Nat))) w s) (d:=.str (wS (wV ns n bb))) (bU rfl (bU rfl (bU rfl (bU rfl (KR rfl (bU rfl (bU rfl (bU q3 (bU q4 Fg))))))))) rfl rfl ?_ ?_
    · by_cases z:1<n
      · have h5:=bT (ns:=ns) (k:=bb) (many:=5) (by omega)
        have p5:=pick (k+1) ns bb (many:=5) (by omega)
        have e:wV ns n bb=Kz (pickN ns bb 5):=if_pos z
        rw[e]
        generalize pickN ns bb 5=y at h5 p5
        refine Hh (cg (x:=.int (n:Int)) (y:=.int 1) (xName rfl) (aq rfl) (by rw[oGt,decide_eq_true (by omega)])) (xIx (x:=.lst [.str "up",.str "down",.str "up",.str "down",.str "scale"]) (i:=(y:Int)) rfl (aH rfl (aj (x:=scr ns) (xName rfl) (aj (xName rfl) (aj (aq rfl) aX))) p5) rfl ?_)
        match y,h5 with
        | 0,_=>rfl
        | 1,_=>rfl
        | 2,_=>rfl
        | 3,_=>rfl
        | 4,_=>rfl
      · have e:wV ns n bb=2:=if_neg z
        rw[e]
        exact Hj (cg (x:=.int (n:Int)) (y:=.int 1) (xName rfl) (aq rfl) (by rw[oGt,decide_eq_false (by omega)])) (aq rfl)
    refine fY (ρ':=gW ns a n mo md (.sh (.int (i:Int))) (.sh (.int (bb:Nat))) (.sh (.str (wS (wV ns n bb)))) s) (d:=qD (shQ (pickN ns (bb+1) 8))) (bU rfl (bU rfl (bU rfl (bU rfl (KR rfl (bU rfl (bU rfl (bU rfl (bU q4 Fg))))))))) rfl rfl (aH rfl (aj (x:=scr ns) (xName rfl) (aj (x:=.int ((bb+1:Nat):Int)) (bR (x:=.int (bb:Nat)) (y:=.int 1) (xName rfl) (aq rfl) rfl) aX)) sh) ?_
    let R:Rho:=gW ns a n mo md (.sh (.int (i:Int))) (.sh (.int (bb:Nat))) (.sh (.str (wS (wV ns n bb)))) (.sh (qD (shQ (pickN ns (bb+1) 8))))
    have fz:∀ e,d8 60 "_law_made_here" e=false->frz 60 e R=R:=fun e he=>bU rfl (bU rfl (bU rfl (bU rfl (KR he (bU rfl (bU rfl (bU rfl (bU rfl Fg))))))))
    have cnd:=eqS (Ht (ns:=ns) (n:=n) (b:=bb))
    by_cases q:wV ns n bb=2
    · have sd:stD (stV ns a n i)=.tup [.str (wS (wV ns n bb)),.int (pickN ns (bb+2) n:Nat),qD (scQ (pickN ns (bb+1) 8))]:=by
        show D.tup [.str (wS (wV ns n bb)),.int (((if wV ns n bb=2 then _ else _):Nat):Int),qD (if wV ns n bb=2 then _ else _)]=_
        rw[if_pos q,if_pos q]
      rw[sd]
      refine Fe (ρ:=R) (ρ':=R) (ρ2:=gW ns a n mo (.ow ((Ls i fun j=>stD (stV ns a n j))++[.tup [.str (wS (wV ns n bb)),.int (pickN ns (bb+2) n:Nat),qD (scQ (pickN ns (bb+1) 8))]])) (.sh (.int (i:Int))) (.sh (.int (bb:Nat))) (.sh (.str (wS (wV ns n bb)))) (.sh (qD (shQ (pickN ns (bb+1) 8))))) (fz _ rfl) (cg (x:=.str (wS (wV ns n bb))) (y:=.str "scale") (xName rfl) (aq rfl) (by rw[cnd,decide_eq_true q])) ?_ dB
      refine J3 (ρ:=R) (ρ':=R) (fz _ rfl) rfl rfl rfl (mz (by rw[aY];omega)) (mF (aj (xName rfl) (aj (aH rfl (aj (x:=scr ns) (xName rfl) (aj (x:=.int ((bb+2:Nat):Int)) (bR (x:=.int (bb:Nat)) (y:=.int 2) (xName rfl) (aq rfl) rfl) (aj (xName rfl) aX))) (pick (k+1) ns (bb+2) (many:=n) (by omega))) (aj ?_ aX))) rfl) dB
      have g:=gt0 hp
      by_cases z:pickN ns (bb+1) 8=0
      · rw[show scQ (pickN ns (bb+1) 8)=4 from if_pos z]
        exact Hj (cg (x:=.int (shQ (pickN ns (bb+1) 8)).num) (y:=.int 0) (Sy (xName rfl)) (aq rfl) (by rw[g,decide_eq_false (by omega)])) (mF (aj (aq rfl) (aj (aq rfl) aX)) rfl)
      · rw[show scQ (pickN ns (bb+1) 8)=shQ (pickN ns (bb+1) 8) from if_neg z]
        exact Hh (cg (x:=.int (shQ (pickN ns (bb+1) 8)).num) (y:=.int 0) (Sy (xName rfl)) (aq rfl) (by rw[g,decide_eq_true z])) (xName rfl)
    · have n1:1<n:=by
        unfold wV at q
        by_cases z:1<n
        · exact z
        · rw[if_neg z] at q;exact absurd rfl q
      have sd:stD (stV ns a n i)=.tup [.str (wS (wV ns n bb)),.int (pickN ns (bb+2) (n-1):Nat),qD (shQ (pickN ns (bb+1) 8))]:=by
        show D.tup [.str (wS (wV ns n bb)),.int (((if wV ns n bb=2 then _ else _):Nat):Int),qD (if wV ns n bb=2 then _ else _)]=_
        rw[if_neg q,if_neg q]
      rw[sd]
      refine R4 (ρ:=R) (ρ':=R) (ρ2:=gW ns a n mo (.ow ((Ls i fun j=>stD (stV ns a n j))++[.tup [.str (wS (wV ns n bb)),.int (pickN ns (bb+2) (n-1):Nat),qD (shQ (pickN ns (bb+1) 8))]])) (.sh (.int (i:Int))) (.sh (.int (bb:Nat))) (.sh (.str (wS (wV ns n bb)))) (.sh (qD (shQ (pickN ns (bb+1) 8))))) (fz _ rfl) (cg (x:=.str (wS (wV ns n bb))) (y:=.str "scale") (xName rfl) (aq rfl) (by rw[cnd,decide_eq_false q])) ?_ dB
      exact J3 (ρ:=R) (ρ':=R) (fz _ rfl) rfl rfl rfl (mz (by rw[aY];omega)) (mF (aj (xName rfl) (aj (aH rfl (aj (x:=scr ns) (xName rfl) (aj (x:=.int ((bb+2:Nat):Int)) (bR (x:=.int (bb:Nat)) (y:=.int 2) (xName rfl) (aq rfl) rfl) (aj (x:=.int ((n-1:Nat):Int)) (n8 (bR (x:=.int (n:Int)) (y:=.int 1) (xName rfl) (aq rfl) rfl) (congrArg D.int (by omega))) aX))) (pick (k+1) ns (bb+2) (many:=n-1) (by omega))) (aj (xName rfl) aX))) rfl) dB) (ρ:=gW ns a n mo (.ow []) .no .no .no .no) ⟨.no,.no,.no,.no,rfl,rfl,rfl,rfl,rfl⟩
  refine cj (fd:=aR (top 79)) rfl rfl (Wz (ρ:=gW ns a n mo .no .no .no .no .no) (d:=.lst []) rfl rfl (Td aX rfl) ?_)
  refine oZ (ρ:=gW ns a n mo (.ow []) .no .no .no .no) (ρ':=gW ns a n mo (.ow []) .no .no .no .no) rfl (GR (j:=m) rfl (aH rfl (aj (x:=scr ns) (xName rfl) (aj (xName rfl) (aj (x:=.int ((mo+1:Nat):Int)) (bR (x:=.int (mo:Int)) (y:=.int 1) (xName rfl) (aq rfl) rfl) aX))) pk) (by omega)) hgo ?_
  refine R0 (ρ':=gW ns a n mo (.sh (ssD (GZ ns a n m))) kk b w s) ?_ (xName rfl)
  have e:ssD (GZ ns a n m)=.lst (Ls m fun j=>stD (stV ns a n j)):=by
    show D.lst (((List.range m).map (stV ns a n)).map stD)=_
    rw[List.map_map];rfl
  rw[e]
  exact bU rfl (bU rfl (bU rfl (bU rfl (XQ rfl (bU c1 (bU c2 (bU c3 (bU c4 Fg))))))))
end M31
namespace M31
open PySem DE
theorem WT{n D B:Nat}{M:Nat->Nat->Rat}(d0:0<D)(hM:Bq n n D B M)(hd:oft n M ∣ D){i j:Nat}(hi:i<n)(hj:j<n):(wI n M i j).natAbs<=B:=by
 obtain⟨x,e1,e2⟩:=hM i j hi hj
 obtain⟨c,hc⟩:=hd
 have q:=xG (M:=M) hi hj
 have key:wI n M i j*(c:Int)=x:=by
  apply Rat.intCast_inj.mp
  rw[Rat.intCast_mul,q,<- e1,hc,Rat.natCast_mul]
  show M i j*((oft n M:Nat):Rat)*(c:Rat)=M i j*(((oft n M:Nat):Rat)*(c:Rat))
  grind
 have c0:0<c:=by
  rcases Nat.eq_zero_or_pos c with e | e
  ·rw[e] at hc;omega
  ·exact e
 have:=congrArg Int.natAbs key
 rw[Int.natAbs_mul] at this
 have h2:=Nat.le_mul_of_pos_right (wI n M i j).natAbs c0
 have:(wI n M i j).natAbs*c=x.natAbs:=by simpa using this
 omega
theorem Gm{D B:Nat}{q:Rat}(h:Qb D B q):q.den ∣ D:=by
 obtain⟨x,e1,e2⟩:=h
 have e:=jG q
 have key:q.num*(D:Int)=x*(q.den:Int):=by
  apply Rat.intCast_inj.mp
  rw[Rat.intCast_mul,Rat.intCast_mul,e,<- e1]
  show q*(q.den:Rat)*(D:Rat)=q*(D:Rat)*(q.den:Rat)
  grind
 have k2:q.num.natAbs*D=x.natAbs*q.den:=by
  have:=congrArg Int.natAbs key
  rw[Int.natAbs_mul,Int.natAbs_mul] at this
  simpa using this
 have:q.den ∣ q.num.natAbs*D:=⟨x.natAbs,by rw[k2,Nat.mul_comm]⟩
 exact(Nat.Coprime.symm q.reduced).dvd_of_dvd_mul_left this
structure Wh (n:Nat) (l:List Stp):Prop where
 tb:Tb n n (wI n (mkQ n l))
 gp:GP n n (wI n (mkQ n l))
 bq:Bq n n (6^l.length) (120^l.length) (mkQ n l)
 o1:1<=oft n (mkQ n l)
 oD:oft n (mkQ n l)<=279936
theorem xV{n:Nat}{l:List Stp}(h1:1<=n)(h3:n<=3)(hl:l.length<=7)(S:Sml n 6 30 l):Wh n l:=by
 have bq:=Wi (n:=n) (E:=6) (C:=30) (by omega) S.bq
 have dv:oft n (mkQ n l) ∣ 6^l.length:=gG fun a b ha hb=>Gm (bq a b ha hb)
 have p6:6^l.length<=279936:=Nat.le_trans (Nat.pow_le_pow_right (by decide) hl) (by decide)
 have pc:(4*30)^l.length<=1000000000000000000:=S.h2
 have d0:0<6^l.length:=Nat.pow_pos (by decide)
 refine⟨⟨h1,by omega,h1,by omega,fun i j hi hj=>?_⟩,K8 h3 (RB h3 l S.ok),bq,Nat.pos_of_dvd_of_pos dv d0,Nat.le_trans (Nat.le_of_dvd d0 dv) p6⟩
 have:=WT d0 bq dv hi hj
 exact smB (Nat.le_trans this pc)
theorem pL{n:Nat}{l:List Stp}(k:Nat)(h1:1<=n)(h3:n<=3)(hl:l.length<=7)(S:Sml n 6 30 l):aK T 60 (k+2) "_law_whole" [ftq n n (mkQ n l)]=some (.tup [tbl n n (wI n (mkQ n l)),.int (oft n (mkQ n l):Nat)]) :=
 vq k h1 (by omega) (Nat.pow_pos (by decide)) (Nat.le_trans (Nat.pow_le_pow_right (by decide) hl) (by decide)) (xV h1 h3 hl S).bq (Nat.le_trans (Nat.pow_le_pow_right (by decide) hl) (by decide))
theorem vM{n:Nat}{l:List Stp}(k:Nat)(h3:n<=3)(W:Wh n l):aK T 60 (k+22) "is_good" [tbl n n (wI n (mkQ n l))]=some (.bl true):=by
 have:=is_good k W.tb
 rwa [(vN (by omega) (by omega) (by omega)).mpr W.gp] at this
theorem nO{α:Type}{f:D->Option (Option D)}{g h:α->D}{p:α->Bool}:∀ {l:List α},(∀ x∈l,f (g x)=some (if p x then some (h x) else none))->bJ f (l.map g)=some ((l.filter p).map h)
  | [],_=>rfl
  | x :: l, q => by
    have ih:=nO (l:=l) fun y hy=>q y (List.mem_cons_of_mem _ hy)
    simp only[List.map_cons,bJ,q x List.mem_cons_self,bind,Option.bind_some]
    cases hp:p x with
    | true=>rw[List.filter_cons_of_pos hp];simp only[if_true,ih,Option.map_some,List.map_cons]
    | false=>rw[List.filter_cons_of_neg (by rw[hp];decide)];simp only[Bool.false_eq_true,if_false,ih]
def Il(ns:List Int)(n ss md tb of pl du sz ag mo la bd:Sl):Rho:=[("_law_script",.sh (scr ns)),("_law_many",n),("_law_steps_here",ss),("_law_made_here",md),("_law_table_here",tb),("_law_often",of),("_law_place",pl),("_law_due",du),("_law_size_here",sz),("_law_again",ag),("_law_more",mo),("_law_later",la),("_law_bad",bd)]
abbrev bdy(i:Nat):List Stmt:=(aR (top 86)).body.drop i
abbrev lSc:Scope:=(aR (top 86)).sc
abbrev nI(n:Nat):Sl:=.sh (.int (n:Int))
def pwI(o:Nat):Nat->Int
 | 0=>1
 | n+1=>pwI o n*(o:Int)
theorem CV(o:Nat):∀ n,((pwI o n:Int):Rat)=pwQ ((o:Nat):Rat) n
  | 0=>rfl
  | n + 1 => by
    show((pwI o n*(o:Int):Int):Rat)=pwQ ((o:Nat):Rat) n*((o:Nat):Rat)
    rw[Rat.intCast_mul,CV o n];rfl
theorem Mp{o:Nat}(h:1<=o)(ho:o<=279936):∀ n,n<=3->1<=pwI o n/\pwI o n<=279936^3:=by
 have h1:1<=(o:Int)/\(o:Int)<=279936:=by omega
 intro n hn
 have p1:pwI o 1=o:=by show 1*(o:Int)=o;omega
 have b2:1<=(o:Int)*o/\(o:Int)*o<=279936*279936:=⟨by have:=Int.mul_le_mul h1.1 h1.1 (by omega) (by omega);omega,Int.mul_le_mul h1.2 h1.2 (by omega) (by omega)⟩
 have b3:1<=(o:Int)*o*o/\(o:Int)*o*o<=279936*279936*279936:=⟨by have:=Int.mul_le_mul b2.1 h1.1 (by omega) (by omega);omega,Int.mul_le_mul b2.2 h1.2 (by omega) (by omega)⟩
 match n,hn with
 | 0,_=>show 1<=(1:Int)/\(1:Int)<=279936^3;omega
 | 1,_=>rw[p1];omega
 | 2,_=>show 1<=1*(o:Int)*o/\1*(o:Int)*o<=_;rw[Int.one_mul];omega
 | 3,_=>show 1<=1*(o:Int)*o*o/\1*(o:Int)*o*o<=_;rw[Int.one_mul];omega
section
variable {ns:List Int} {n:Nat} {l:List Stp} {mo la sz:D} {ag:Sl}
abbrev S5(ns:List Int)(n:Nat)(l:List Stp)(pl du sz ag mo la bd:Sl):Rho:=Il ns (nI n) (.sh (ssD l)) (.sh (ftq n n (mkQ n l))) (.sh (tbl n n (wI n (mkQ n l)))) (nI (oft n (mkQ n l))) pl du sz ag mo la bd
def idI:Nat->Nat->Int:=fun i j=>if i=j then 1 else 0
theorem t12{du:D}(h1:1<=n)(h3:n<=3)(ca:nOw ag=true):blk (cxN T 60 39) 60 60 lSc (bdy 12) (S5 ns n l .no (.sh du) (.sh sz) ag (.sh mo) (.sh la) .no)=some (.ret (.bl true)):=by
  have cm:∀ {pl bd:Sl},nOw pl=true->nOw bd=true->gM (S5 ns n l pl (.sh du) (.sh sz) ag (.sh mo) (.sh la) bd)=true:=fun hp hb=>aB rfl (aB rfl (aB rfl (aB rfl (aB rfl (aB rfl (aB hp (aB rfl (aB rfl (aB ca (aB rfl (aB rfl (aB hb rfl))))))))))))
  by_cases h:1<n
  · have hp:=bT (ns:=ns) (k:=70) (many:=n-1) (by omega)
    have pk:=pick 37 ns 70 (many:=n-1) (by omega)
    generalize pickN ns 70 (n-1)=p at hp pk
    have hv:=bT (ns:=ns) (k:=71) (many:=3) (by omega)
    have pv:=pick 37 ns 71 (many:=3) (by omega)
    generalize pickN ns 71 3=v at hv pv
    let Y:Nat->Nat->Int:=upd idI p (p+1) (0-1-(v:Int))
    have yb:∀ i j,-3<=Y i j/\Y i j<=1:=fun i j=>by
      show -3<=upd idI p (p+1) (0-1-(v:Int)) i j/\upd idI p (p+1) (0-1-(v:Int)) i j<=1
      unfold upd idI
      repeat' split
      all_goals omega
    have tb:Tb n n Y:=⟨h1,by omega,h1,by omega,fun i j _ _=>by have:=yb i j;unfold small;rw[decide_eq_true (by omega),decide_eq_true (by omega)];rfl⟩
    have gd:aK T 60 39 "is_good" [tbl n n Y]=some (.bl false):=by
      have:=is_good 17 tb
      cases hg:yZ n n Y with
      | false=>rwa [hg] at this
      | true =>
        have G:=(vN (by omega) (by omega) (by omega)).mp hg
        have:=G.g1 p (p+1) (by omega) (by omega)
        have e:Y p (p+1)=0-1-(v:Int):=by show upd idI p (p+1) _ p (p+1)=_;unfold upd;rw[if_pos rfl,if_pos rfl]
        omega
    refine Fe (ρ:=S5 ns n l .no (.sh du) (.sh sz) ag (.sh mo) (.sh la) .no) (ρ':=S5 ns n l .no (.sh du) (.sh sz) ag (.sh mo) (.sh la) .no) (ρ2:=S5 ns n l (nI p) (.sh du) (.sh sz) ag (.sh mo) (.sh la) (.sh (.lst (Ls n fun i=>.lst (Ls n fun j=>.int (Y i j)))))) (cT (cm rfl rfl)) (cg (x:=.int (n:Int)) (y:=.int 1) (xName rfl) (aq rfl) (by rw[oGt,decide_eq_true (by omega)])) ?_ (tR (cm rfl rfl) (aq rfl))
    refine J1 (ρ':=S5 ns n l .no (.sh du) (.sh sz) ag (.sh mo) (.sh la) .no) (d:=.lst (Ls n fun i=>.lst (Ls n fun j=>.int (idI i j)))) (dss:=lss n n idI) (cT (cm rfl rfl)) rfl ?_ vg (Kp rfl (cJ rfl (cJ rfl (cJ rfl (cJ rfl (cJ rfl (cJ rfl (cJ rfl (cJ rfl (cJ rfl (cJ ca (cJ rfl (cJ rfl (cJ rfl DW)))))))))))))) ?_
    · refine cu rfl (GR (j:=n) rfl (xName rfl) (by omega)) (dY (by omega)) (aW (g:=fun i=>.lst (Ls n fun j=>.int (idI i j))) fun i hi=>cG rfl ?_)
      refine cu rfl (GR (j:=n) rfl (xName rfl) (by omega)) (dY (by omega)) (aW (g:=fun j=>.int (idI i j)) fun j hj=>cG rfl ?_)
      by_cases q:i=j
      · rw[show idI i j=1 from if_pos q]
        exact dH (ds:=[.bl true]) rfl rfl rfl (aj (cg (x:=.int (i:Int)) (y:=.int (j:Int)) (xName rfl) (xName rfl) (G3 (by omega))) aX) rfl
      · rw[show idI i j=0 from if_neg q]
        exact dH (ds:=[.bl false]) rfl rfl rfl (aj (cg (x:=.int (i:Int)) (y:=.int (j:Int)) (xName rfl) (xName rfl) (G4 (by omega))) aX) rfl
    have fzk:∀ {pl:Sl} {X:Nat->Nat->Int} (e:Expr),nOw pl=true->d8 60 "_law_bad" e=false->frz 60 e (S5 ns n l pl (.sh du) (.sh sz) ag (.sh mo) (.sh la) (.oo (lss n n X)))=S5 ns n l pl (.sh du) (.sh sz) ag (.sh mo) (.sh la) (.oo (lss n n X)):=fun e hp he=>bU rfl (bU rfl (bU rfl (bU rfl (bU rfl (bU rfl (bU hp (bU rfl (bU rfl (bU ca (bU rfl (bU rfl (R9 he Fg))))))))))))
    refine fY (ρ:=S5 ns n l .no (.sh du) (.sh sz) ag (.sh mo) (.sh la) (.oo (lss n n idI))) (ρ':=S5 ns n l .no (.sh du) (.sh sz) ag (.sh mo) (.sh la) (.oo (lss n n idI))) (d:=.int (p:Int)) (fzk _ rfl rfl) rfl rfl (aH rfl (aj (x:=scr ns) (xName rfl) (aj (aq rfl) (aj (x:=.int ((n-1:Nat):Int)) (n8 (bR (x:=.int (n:Int)) (y:=.int 1) (xName rfl) (aq rfl) rfl) (congrArg D.int (by omega))) aX))) pk) ?_
    have ix:∀ {m i:Nat},i<m->ixD m (i:Int)=some i:=fun {m i} hi=>by
      unfold ixD
      rw[if_pos (by omega),if_pos (by omega)]
      congr 1
    refine JZ (ρ:=S5 ns n l (nI p) (.sh du) (.sh sz) ag (.sh mo) (.sh la) (.oo (lss n n idI))) (d:=.int (0-1-(v:Int))) (fzk _ rfl rfl) (fzk _ rfl rfl) (fzk _ rfl rfl) (dss:=lss n n idI) (j1:=(p:Int)) (j2:=((p+1:Nat):Int)) (n1:=p) (n2:=p+1) rfl rfl ?_ (xName rfl) (by rw[aY];exact ix (by omega)) (cI (by omega)) ?_ (by rw[aY];exact ix (by omega)) rfl ?_
    · exact bR (x:=.int (0-1)) (y:=.int (v:Int)) (bR (x:=.int 0) (y:=.int 1) (aq rfl) (aq rfl) rfl) (aH rfl (aj (x:=scr ns) (xName rfl) (aj (aq rfl) (aj (aq rfl) aX))) pv) rfl
    · exact n8 (bR (x:=.int (p:Int)) (y:=.int 1) (xName rfl) (aq rfl) rfl) (congrArg D.int (by omega))
    show blk _ _ _ _ _ (S5 ns n l (nI p) (.sh du) (.sh sz) ag (.sh mo) (.sh la) (.oo ((lss n n idI).set p ((Ls n fun j=>D.int (idI p j)).set (p+1) (.int (0-1-(v:Int)))))))=_
    rw[Ej (by omega)]
    refine R5 (ρ':=S5 ns n l (nI p) (.sh du) (.sh sz) ag (.sh mo) (.sh la) (.sh (.lst (Ls n fun i=>.lst (Ls n fun j=>.int (Y i j)))))) (bU rfl (bU rfl (bU rfl (bU rfl (bU rfl (bU rfl (bU rfl (bU rfl (bU rfl (bU ca (bU rfl (bU rfl (Sd rfl Fg))))))))))))) (aH rfl (aj (x:=tbl n n Y) ?_ aX) gd) dB
    refine dH rfl rfl rfl (aj (cu rfl (wSq (x:=.lst (Ls n fun i=>.lst (Ls n fun j=>.int (Y i j)))) rfl (xName rfl) rfl) (dY (by omega)) (aW (g:=fun i=>row n (Y i)) fun i hi=>cG rfl ?_)) aX) pG
    exact dH rfl rfl rfl (aj (x:=.lst (Ls n fun j=>.int (Y i j))) (xName rfl) aX) pG
  · exact BK (ρ:=S5 ns n l .no (.sh du) (.sh sz) ag (.sh mo) (.sh la) .no) (cm rfl rfl) (cg (x:=.int (n:Int)) (y:=.int 1) (xName rfl) (aq rfl) (by rw[oGt,decide_eq_false (by omega)])) (tR (cm rfl rfl) (aq rfl))
theorem t9{du:D}(h1:1<=n)(h3:n<=3)(ca:nOw ag=true)(hl:l.length<=5)(hd:∀ x∈l,∃ ns a k,x=stV ns a n k):blk (cxN T 60 39) 60 60 lSc (bdy 9) (S5 ns n l .no (.sh du) (.sh sz) ag .no .no .no)=some (.ret (.bl true)):=by
 have hq:=bT (ns:=ns) (k:=60) (many:=2) (by omega)
 have ls:=ni 35 ns 60 (n:=n) (mo:=1) h1 (by omega) (by decide)
 let m:List Stp:=GZ ns 60 n (pickN ns 60 2)
 have ml:m.length<=1:=by show((List.range _).map _).length<=1;rw[List.length_map,List.length_range];omega
 have hm:∀ x∈m,∃ ns a k,x=stV ns a n k:=fun x hx=>let ⟨k,e⟩:=vf hx;⟨ns,60,k,e⟩
 have hal:(m++l++m).length<=7:=by rw[List.length_append,List.length_append];omega
 have ha:∀ x∈m++l++m,∃ ns a k,x=stV ns a n k:=fun x hx=>by
  rw[List.mem_append,List.mem_append] at hx
  rcases hx with(hx | hx) | hx
  ·exact hm x hx
  ·exact hd x hx
  ·exact hm x hx
 have S:=qd h1 hal ha
 have W:=xV h1 h3 hal S
 have mb:=made_by 31 h1 (by omega) S (by omega)
 have wo:=pL 37 h1 h3 hal S
 have gd:=vM 17 h3 W
 have cm:∀ {mo la ag:Sl},nOw ag=true->nOw mo=true->nOw la=true->gM (S5 ns n l .no (.sh du) (.sh sz) ag mo la .no)=true:=fun ha hm hl=>aB rfl (aB rfl (aB rfl (aB rfl (aB rfl (aB rfl (aB rfl (aB rfl (aB rfl (aB ha (aB hm (aB hl (aB rfl rfl))))))))))))
 refine jM (ρ:=S5 ns n l .no (.sh du) (.sh sz) ag .no .no .no) (d:=ssD m) (cm ca rfl rfl) rfl rfl (aH rfl (aj (x:=scr ns) (xName rfl) (aj (aq rfl) (aj (xName rfl) (aj (aq rfl) aX)))) ls) ?_
 let T':=wI n (mkQ n (m++l++m))
 let o':Nat:=oft n (mkQ n (m++l++m))
 have bA:∀ {a b:List Stp},a.length<=100->b.length<=100->binop .Add (ssD a) (ssD b)=some (ssD (a++b)):=fun {a b} h h'=>by
  show(if szl ((a.map stD).length+(b.map stD).length)=true then some (D.lst (a.map stD++b.map stD)) else none)=_
  rw[if_pos (mz (by rw[List.length_map,List.length_map];omega)),<- List.map_append]
 refine Wy (ρ:=S5 ns n l .no (.sh du) (.sh sz) ag (.sh (ssD m)) .no .no) (ρ':=S5 ns n l .no (.sh du) (.sh sz) (nI o') (.sh (ssD m)) (.sh (tbl n n T')) .no) (d:=.tup [tbl n n T',.int (o':Int)]) (cm ca rfl rfl) rfl (aH rfl (aj (aH rfl (aj (xName rfl) (aj (x:=ssD (m++l++m)) (bR (x:=ssD (m++l)) (y:=ssD m) (bR (x:=ssD m) (y:=ssD l) (xName rfl) (xName rfl) (bA (by omega) (by omega))) (xName rfl) (bA (by rw[List.length_append];omega) (by omega))) aX)) mb) aX) wo) rfl rfl ?_
 exact BK (ρ:=S5 ns n l .no (.sh du) (.sh sz) (nI o') (.sh (ssD m)) (.sh (tbl n n T')) .no) (cm rfl rfl rfl) (eU (aH rfl (aj (xName rfl) aX) gd)) (t12 h1 h3 rfl)
theorem XR{w:Nat}(h:w<3):cmpop .Eq (.str (wS w)) (.str "scale")=some (.bl (w==2)):=by
 rw[eqS h]
 by_cases q:w=2
 ·subst q;rfl
 ·rw[decide_eq_false q];simp[q]
theorem t5(h1:1<=n)(h3:n<=3)(hl:l.length<=5)(hd:∀ x∈l,∃ ns a k,x=stV ns a n k):blk (cxN T 60 39) 60 60 lSc (bdy 5) (S5 ns n l .no .no .no .no .no .no .no)=some (.ret (.bl true)):=by
  have S:=qd h1 (show l.length<=7 by omega) hd
  have W:=xV h1 h3 (by omega) S
  have sb:∀ q∈scl l,Qb 6 30 q:=fun q hq=>by
    obtain⟨x,hx,rfl⟩:=List.mem_map.mp hq
    have hx:=(List.mem_filter.mp hx).1
    have okx:=S.ok x hx
    have:=S.bq x hx (spR x) (spC x)
    obtain⟨ns,a,k,e⟩:=hd x hx
    have lt:spR x<n/\spC x<n:=by
      obtain⟨w,p,s⟩:=x
      have hw:=sI okx.pl
      have pl:=okx.pl
      match w,hw with
      | 0, _ => have h2 : p + 1 < n := by simpa [okP] using pl
                exact⟨by show p<n;omega,h2⟩
      | 1, _ => have h2 : p + 1 < n := by simpa [okP] using pl
                exact⟨h2,by show p<n;omega⟩
      | 2,_=>exact⟨m6 pl,m6 pl⟩
    have:=this lt.1 lt.2
    have e2:stQ x (spR x) (spC x)=x.s:=by unfold stQ;rw[if_pos rfl,if_pos rfl]
    rwa [e2] at this
  have sl:(scl l).length<=10:=by
    unfold scl
    rw[List.length_map]
    have:=List.length_filter_le (fun x:Stp=>x.w==2) l
    omega
  have at':=all_times 35 sb sl
  have dt:=Hu (n:=n) (M:=mkQ n l) h1 h3
  rw[Jv h1 h3 l S.ok] at dt
  let o:Nat:=oft n (mkQ n l)
  have pb:=Mp (o:=o) W.o1 W.oD
  have wm:aK T 60 39 "whole_minor" [tbl n n (wI n (mkQ n l))]=some (.int (det n (wI n (mkQ n l)))):=by
    match n,h1,h3,W.tb.sm with
    | 1,_,_,sm=>exact whole_minor 30 1 (by omega) (by omega) sm
    | 2,_,_,sm=>exact whole_minor 26 2 (by omega) (by omega) sm
    | 3,_,_,sm=>exact whole_minor 22 3 (by omega) (by omega) sm
  have ll:aK T 60 39 "_law_lowest" [.int (det n (wI n (mkQ n l))),.int (pwI o n)]=some (qD (bZ (scl l))):=by
    have b:=pb n h3
    rw[Xw 38 (by omega) (Nat.lt_of_le_of_lt (show(pwI o n).natAbs<=279936^3 by omega) (by decide +kernel)),RG (by omega),dt,CV]
    congr 2
    have ne:pwQ ((o:Nat):Rat) n≠0:=by
      rw[<- CV]
      exact Wq (by omega)
    show bZ (scl l)*pwQ ((o:Nat):Rat) n / pwQ ((o:Nat):Rat) n=bZ (scl l)
    grind
  let R (du sz ag:Sl):Rho:=S5 ns n l .no du sz ag .no .no .no
  refine jM (ρ:=R .no .no .no) (d:=qD (bZ (scl l))) rfl rfl rfl (aH rfl (aj (x:=.lst ((scl l).map qD)) ?_ aX) at') ?_
  · have e:(scl l).map qD=(l.filter fun x=>x.w==2).map fun x=>qD x.s:=by unfold scl;rw[List.map_map];rfl
    rw[e]
    refine cu (l:=l.map stD) rfl (wSq (x:=ssD l) rfl (xName rfl) rfl) (mz (by rw[List.length_map];omega)) (nO fun x hx=>?_)
    exact Gw rfl (cg (x:=.str (wS x.w)) (y:=.str "scale") (xName rfl) (aq rfl) (XR (sI (S.ok x hx).pl))) (xName rfl)
  refine jM (ρ:=R (.sh (qD (bZ (scl l)))) .no .no) (d:=.int 1) rfl rfl rfl (aq rfl) ?_
  obtain⟨ρ',⟨ag,ca,rfl⟩,hgo⟩:=gJ (f:=fF (cxN T 60 39) 60 59 lSc (nC (eH 86 7)) (eF (eH 86 7))) (h:=fun i=>.int (i:Int)) (N:=n) (P:=fun i ρ=>∃ ag,nOw ag=true/\ρ=R (.sh (qD (bZ (scl l)))) (.sh (.int (pwI o i))) ag) (fun i ρ hi hP=>by
    obtain⟨ag,_,rfl⟩:=hP
    have b:=pb i (by omega)
    refine⟨_,⟨nI i,rfl,rfl⟩,jr (ρ1:=R (.sh (qD (bZ (scl l)))) (.sh (.int (pwI o i))) (nI i)) rfl ?_⟩
    exact jM (ρ:=R (.sh (qD (bZ (scl l)))) (.sh (.int (pwI o i))) (nI i)) (d:=.int (pwI o (i+1))) rfl rfl rfl (bR (x:=.int (pwI o i)) (y:=.int (o:Int)) (xName rfl) (xName rfl) (rA (.inr (Tp (by have:=W.oD;omega))))) dB) (ρ:=R (.sh (qD (bZ (scl l)))) (.sh (.int 1)) .no) ⟨.no,rfl,rfl⟩
  refine oZ (ρ:=R (.sh (qD (bZ (scl l)))) (.sh (.int 1)) .no) (ρ':=R (.sh (qD (bZ (scl l)))) (.sh (.int 1)) .no) rfl (GR (j:=n) rfl (xName rfl) (by omega)) hgo ?_
  exact BK (ρ:=R (.sh (qD (bZ (scl l)))) (.sh (.int (pwI o n))) ag) (aB rfl (aB rfl (aB rfl (aB rfl (aB rfl (aB rfl (aB rfl (aB rfl (aB rfl (aB ca (aB rfl (aB rfl (aB rfl rfl))))))))))))) (cg (x:=qD (bZ (scl l))) (y:=qD (bZ (scl l))) (aH rfl (aj (aH rfl (aj (xName rfl) aX) wm) (aj (xName rfl) aX)) ll) (xName rfl) (Tv (by simp[dep,deps]))) (t9 h1 h3 ca hl hd)
theorem t4(h1:1<=n)(h3:n<=3)(hl:l.length<=5)(hd:∀ x∈l,∃ ns a k,x=stV ns a n k):blk (cxN T 60 39) 60 60 lSc (bdy 4) (S5 ns n l .no .no .no .no .no .no .no)=some (.ret (.bl true)):=by
 have S:=qd h1 (show l.length<=7 by omega) hd
 have W:=xV h1 h3 (by omega) S
 have gd:=vM 17 h3 W
 have sq:∀ i j,i<n->j<n->Sq (mkQ n l i j):=fun i j hi hj=>(W.bq i j hi hj).sq (Nat.pow_pos (by decide)) S.h1 S.h2
 have o1:=W.o1
 refine BK (ρ:=S5 ns n l .no .no .no .no .no .no .no) rfl (dU (tX (eU (aH rfl (aj (xName rfl) aX) gd)) ?_)) (t5 h1 h3 hl hd)
 by_cases q:oft n (mkQ n l)=1
 ·have den1:∀ i j,i<n->j<n->(mkQ n l i j).den=1:=fun i j hi hj=>by
   have:=gF (m:=n) (F:=mkQ n l) (i:=n) i j hi hj
   rw[show qK n n (mkQ n l) n=1 from q] at this
   exact Nat.dvd_one.mp this
  have aw:=xT 35 (m:=n) (n:=n) (F:=mkQ n l) h1 (by omega) h1 (by omega) sq den1
  have e:tbl n n (fun i j=>(mkQ n l i j).num)=tbl n n (wI n (mkQ n l)):=by
   show D.tup ((List.range n).map fun i=>D.tup ((List.range n).map fun j=>.int (mkQ n l i j).num))=D.tup ((List.range n).map fun i=>D.tup ((List.range n).map fun j=>.int (wI n (mkQ n l) i j)))
   congr 1
   refine List.map_congr_left fun i hi=>?_
   congr 1
   refine List.map_congr_left fun j hj=>?_
   congr 1
   unfold wI
   rw[q,den1 i j (List.mem_range.mp hi) (List.mem_range.mp hj)]
   simp
  rw[e] at aw
  refine tX (cg (x:=.bl false) (y:=.bl false) (cg (x:=tbl n n (wI n (mkQ n l))) (y:=.non) (aH rfl (aj (xName rfl) aX) aw) (aq rfl) rfl) (cg (x:=.int (oft n (mkQ n l):Nat)) (y:=.int 1) (xName rfl) (aq rfl) (by rw[oGt,decide_eq_false (by omega)])) rfl) (mG (dU (jD (cg (x:=.int (oft n (mkQ n l):Nat)) (y:=.int 1) (xName rfl) (aq rfl) (G3 (by omega))) (mG (cg (x:=tbl n n (wI n (mkQ n l))) (y:=tbl n n (wI n (mkQ n l))) (aH rfl (aj (xName rfl) aX) aw) (xName rfl) (Tv (Nat.le_trans wk (by decide))))))))
 ·have ex:∃ i j,i<n/\j<n/\(mkQ n l i j).den≠1:=by
   apply Classical.byContradiction
   intro no
   apply q
   have:∀ i j,i<n->j<n->(mkQ n l i j).den ∣ 1:=fun i j hi hj=>by
    apply Classical.byContradiction
    intro z
    exact no ⟨i,j,hi,hj,fun e=>z (by rw[e];exact Nat.dvd_refl 1)⟩
   exact Nat.dvd_one.mp (gG this)
  obtain⟨i,j,hi,hj,hne⟩:=ex
  have aw:=xU 35 (m:=n) (n:=n) (F:=mkQ n l) h1 (by omega) h1 (by omega) sq hi hj hne
  exact tX (cg (x:=.bl true) (y:=.bl true) (cg (x:=.non) (y:=.non) (aH rfl (aj (xName rfl) aX) aw) (aq rfl) rfl) (cg (x:=.int (oft n (mkQ n l):Nat)) (y:=.int 1) (xName rfl) (aq rfl) (by rw[oGt,decide_eq_true (by omega)])) rfl) (mG (dU (tY (cg (x:=.int (oft n (mkQ n l):Nat)) (y:=.int 1) (xName rfl) (aq rfl) (G4 (by omega))))))
end
theorem law_true(ns:List Int)(_:ns.length<=63):aK T 60 40 "law" [.lst (ns.map D.int)]=some (.bl true):=by
 have hn:=bT (ns:=ns) (k:=0) (many:=3) (by omega)
 have p0:=pick 37 ns 0 (many:=3) (by omega)
 generalize pickN ns 0 3=m at hn p0
 have h1:1<=1+m:=by omega
 have ls:=ni 35 ns 10 (n:=1+m) (mo:=5) h1 (by omega) (by decide)
 have hq:=bT (ns:=ns) (k:=10) (many:=6) (by omega)
 let l:List Stp:=GZ ns 10 (1+m) (pickN ns 10 6)
 have hl:l.length<=5:=by show((List.range _).map _).length<=5;rw[List.length_map,List.length_range];omega
 have hd:∀ x∈l,∃ ns a k,x=stV ns a (1+m) k:=fun x hx=>let ⟨k,e⟩:=vf hx;⟨ns,10,k,e⟩
 have S:=qd h1 (show l.length<=7 by omega) hd
 have mb:=made_by 31 h1 (by omega) S (by omega)
 have wo:=pL 37 h1 (by omega) (by omega) S
 refine cj (fd:=aR (top 86)) rfl rfl (jM (ρ:=Il ns .no .no .no .no .no .no .no .no .no .no .no .no) (d:=.int ((1+m:Nat):Int)) rfl rfl rfl (n8 (bR (x:=.int 1) (y:=.int (m:Int)) (aq rfl) (aH rfl (aj (x:=scr ns) (xName rfl) (aj (aq rfl) (aj (aq rfl) aX))) p0) rfl) (congrArg D.int (by omega))) ?_)
 refine jM (ρ:=Il ns (nI (1+m)) .no .no .no .no .no .no .no .no .no .no .no) (d:=ssD l) rfl rfl rfl (aH rfl (aj (x:=scr ns) (xName rfl) (aj (aq rfl) (aj (xName rfl) (aj (aq rfl) aX)))) ls) ?_
 refine jM (ρ:=Il ns (nI (1+m)) (.sh (ssD l)) .no .no .no .no .no .no .no .no .no .no) (d:=ftq (1+m) (1+m) (mkQ (1+m) l)) rfl rfl rfl (aH rfl (aj (xName rfl) (aj (xName rfl) aX)) mb) ?_
 exact Wy (ρ:=Il ns (nI (1+m)) (.sh (ssD l)) (.sh (ftq (1+m) (1+m) (mkQ (1+m) l))) .no .no .no .no .no .no .no .no .no) (ρ':=S5 ns (1+m) l .no .no .no .no .no .no .no) (d:=.tup [tbl (1+m) (1+m) (wI (1+m) (mkQ (1+m) l)),.int (oft (1+m) (mkQ (1+m) l):Nat)]) rfl rfl (aH rfl (aj (xName rfl) aX) wo) rfl rfl (t4 h1 (by omega) hl hd)
end M31
noncomputable section
namespace HS
open PySem PySem.W
theorem goT{p:Program}{w:World}{m:Nat}{a:Option Value}{n:Nat}{x y:Shared}{u:Thread}{c:Code}{o:Pos}{l:List Frame}(h:Fast.tw15667345088766844465 Fast.tw14364793385576792824 p w m a n x u=some (y,⟨Fast.tw11892475500146522536 Fast.tw14364793385576792824 c,c,o,l⟩)):topGo treeTable p w m a n x u=some (y,⟨denote treeTable c,c,o,l⟩):=by
 rw[Fast.te15667345088766844465,Fast.te14364793385576792824,Fast.te11892475500146522536];exact h
theorem W9{p:Program}{w:World}{m:Nat}{a:Option Value}{k n:Nat}{x:Shared}{u:Thread}{y:Option (Flow×Shared×Code×Pos)}(h:Fast.tw14374325043358763698 Fast.tw14364793385576792824 p w m a k n x u=y):segRun treeTable p w m a k n x u=y:=by
 rw[Fast.te14374325043358763698,Fast.te14364793385576792824];exact h
theorem xK{p:Program}{w:World}{m:Nat}{a:Option Value}{k n:Nat}{x:SharedT}{u:Thread}{y:Option (Flow×SharedT×Code×Pos)}(h:Fast.tw10110043849684766642 Fast.tw14364793385576792824 p w m a k n x u=y):segRunT treeTable p w m a k n x u=y:=by
 rw[Fast.te10110043849684766642,Fast.te14364793385576792824];exact h
theorem WX{p:Program}{w:World}{m:Nat}{a:Option Value}{n:Nat}{x:Shared}{u:Thread}{y:Option Shared}(h:Fast.tw14082659384304107361 Fast.tw14364793385576792824 p w m a n x u=y):topRun treeTable p w m a n x u=y:=by
 rw[Fast.te14082659384304107361,Fast.te14364793385576792824];exact h
theorem Lz{p:Program}{w:World}{m:Nat}{a:Option Value}{n:Nat}{x:Shared}{b l:List Stmt}{E:Env}{c:Code}{o:Pos}{B:List Frame}{y:Option Shared}(e:b=l)(h:topRun treeTable p w m a n x (restOf l E c o B)=y):topRun treeTable p w m a n x (restOf b E c o B)=y:=by
 rw[e];exact h
end HS
namespace H31
open PySem PySem.W HS
abbrev p:Program:=PySem.Challenge.pw_minortables_k31_whole_steps_good
abbrev q:Program:=PySem.W.view p [1,2,3,4,6,7,8,9,10,11,12,13,14,15,16,17,19,20,21,22,23,24,25,26,27,28,29,30,31,33,34,35,36,37,38,40,41,42,43,44,45,46,47,48,49,50,51,52,54,55,57,58,59,60,61,62,63,64,65,66,67,69,70,71,72,73,74,75,76,77,78,79,80,81,82,83,84,85,86]
abbrev N:Nat:=6074
abbrev z:Value:=.none
abbrev r(a:Nat):Value:=.ref a
abbrev i(a:Int)(n:Nat):Value:=.int a n
abbrev s(x:Str)(n:Nat):Value:=.str x n
abbrev t(x:String):Value:=.type x
abbrev b(x:String):Value:=.builtin x
abbrev e(P:Params)(x:Str)(n:Nat)(v:Value):DictEntry:=⟨PyData.keyHash P x,.str x n,v⟩
def d(j:Nat):Stmt:=p.main.body.getD j (.Pass ⟨0,0,0,0⟩)
def m(j k:Nat):Stmt:=match d j with | .ClassDef _ _ _ l .. =>l.getD k (.Pass ⟨0,0,0,0⟩) | x=>x
def f(x:Stmt)(qn:Str)(g:Nat)(dV kV dc pm cd ct:Value):FuncData:=match x with | .FunctionDef n a l _ _ _ sc .. =>⟨n,qn,a,.stmts l,sc,g,[],dV,kV,dc,pm,none,cd,ct,0⟩ | _=>default
def y:Obj:=⟨.type "tuple",none,.seq #[] 0,#[]⟩
def x:Obj:=⟨.none,none,.fields #[],#[]⟩
def tnV:List Str->Nat->List Value | [],_=>[] | a::l,k=>.str a k::tnV l (k+1)
def tn(l:List Str)(k:Nat):Obj:=⟨.type "tuple",none,.seq (tnV l k).toArray 0,#[]⟩
def g(a:Stmt)(n:Str):Obj:=⟨.none,none,.func (f a n 0 z z z z z z),#[]⟩
def u(a:Stmt)(n:Str)(pm:Value)(c:Nat):Obj:=⟨.type "function",none,.func (f a n 3 z z z pm (r c) z),#[]⟩
def c(n:Str)(k:Nat)(l a fl:Int)(q:Nat)(bb:Bool)(h:Int)(q':Nat)(v w v':Value)(k':Nat):Obj:=⟨.type "code",none,.fields #[s n k,s n (k+1),s "/claim/cut.py" (k+2),i l 0,i a 0,i 0 0,i 0 0,i fl 0,r q,.bool bb,i h 0,r q',z,v,w,v',i k' 0,i l 0,s "/claim/cut.py" (k'+1)],#[]⟩
def I(t:BT):Nat->List Obj->BT | _,[]=>t | n,o::l=>I (t.ins n o) (n+1) l
def es(P:Params):List DictEntry:=[e P "__doc__" 166 z,
  e P "__package__" 167 z,
  e P "__loader__" 168 (b "__main__.__loader__#opaque"),
  e P "__spec__" 169 z,
  e P "__annotations__" 170 (r 6),
  e P "__builtins__" 171 (r 4),
  e P "__file__" 173 (s "/claim/cut.py" 172),
  e P "__cached__" 174 z,
  e P "MinorError" 206 (r 24),
  e P "NoTable" 222 (r 37),
  e P "NoFit" 238 (r 49),
  e P "NoStep" 254 (r 61),
  e P "MOST_LINES" 258 (i 4 257),
  e P "is_whole" 265 (r 70),
  e P "is_whole_within" 274 (r 77),
  e P "is_short_tuple" 281 (r 84),
  e P "has_lines" 287 (r 89),
  e P "numbers_of" 296 (r 96),
  e P "has_table_form" 302 (r 101),
  e P "is_square" 309 (r 108),
  e P "is_place" 317 (r 115),
  e P "need_table" 324 (r 122),
  e P "need_square" 331 (r 129),
  e P "need_size" 339 (r 136),
  e P "common_measure" 350 (r 143),
  e P "lowest" 359 (r 150),
  e P "has_fraction_form" 366 (r 157),
  e P "is_fraction" 373 (r 164),
  e P "sum_of" 381 (r 171),
  e P "times_of" 389 (r 178),
  e P "all_sum" 398 (r 185),
  e P "all_times" 407 (r 192),
  e P "need_fraction_table" 413 (r 197),
  e P "row_as_fractions" 419 (r 202),
  e P "as_fractions" 425 (r 207),
  e P "row_of_ups" 431 (r 212),
  e P "as_whole" 437 (r 217),
  e P "column_of" 445 (r 222),
  e P "columns_of" 451 (r 227),
  e P "picked" 457 (r 232),
  e P "part_at" 463 (r 237),
  e P "plain_row" 469 (r 242),
  e P "plain" 475 (r 247),
  e P "without" 483 (r 252),
  e P "worth_of" 489 (r 257),
  e P "rest_worth" 498 (r 264),
  e P "signed_rest" 508 (r 271),
  e P "row_with_rests" 514 (r 276),
  e P "with_behind" 520 (r 281),
  e P "rising_tuples" 532 (r 288),
  e P "greatest_size" 539 (r 295),
  e P "minors_of_rows" 549 (r 302),
  e P "minors_of_size" 559 (r 309),
  e P "minors_in" 568 (r 316),
  e P "all_minors" 575 (r 323),
  e P "whole_minor" 582 (r 330),
  e P "none_below" 590 (r 335),
  e P "is_good" 597 (r 342),
  e P "UP" 601 (s "up" 600),
  e P "DOWN" 603 (s "down" 602),
  e P "SCALE" 605 (s "scale" 604),
  e P "is_step_of" 615 (r 349),
  e P "is_step" 623 (r 356),
  e P "need_steps" 629 (r 361),
  e P "row_by_column" 635 (r 366),
  e P "row_by_columns" 641 (r 371),
  e P "product_of" 647 (r 376),
  e P "table_of_step" 653 (r 381),
  e P "made_by" 665 (r 388),
  e P "_law_cell" 675 (r 395),
  e P "_law_pick" 685 (r 402),
  e P "_law_table" 691 (r 407),
  e P "_law_size" 699 (r 414),
  e P "_law_times" 713 (r 421),
  e P "_law_worth" 719 (r 426),
  e P "_law_some" 725 (r 431),
  e P "_law_part" 731 (r 436),
  e P "_law_minors" 742 (r 443),
  e P "_law_share" 750 (r 450),
  e P "_law_steps" 765 (r 457),
  e P "_law_lowest" 775 (r 464),
  e P "_law_sum" 785 (r 471),
  e P "_law_step_table" 791 (r 476),
  e P "_law_made" 797 (r 481),
  e P "_law_whole" 803 (r 486),
  e P "_law_gcd" 811 (r 493),
  e P "law" 817 (r 498)]
def og(k n:Nat)(v:Value)(P:Params):Obj:=⟨.type "dict",none,.dict ((e P "__name__" 165 v::es P).take k).toArray n,#[]⟩
def fv:List Value:=[(i 2 0),(i 0 0),(r 20),(i 4 0),(i 0 0),(r 33),(i 6 0),(i 0 0),(r 45),(i 8 0),(i 0 0),(r 57),(i 12 0),(i 0 0),(r 69),(i 14 0),(i 0 0),(r 76),(i 16 0),(i 0 0),(r 83),(i 18 0),(i 0 0),(r 88),(i 22 0),(i 0 0),(r 95),(i 27 0),(i 0 0),(r 100),(i 29 0),(i 0 0),(r 107),(i 31 0),(i 0 0),(r 114),(i 33 0),(i 0 0),(r 121),(i 36 0),(i 0 0),(r 128),(i 39 0),(i 0 0),(r 135),(i 43 0),(i 0 0),(r 142),(i 49 0),(i 0 0),(r 149),(i 54 0),(i 0 0),(r 156),(i 60 0),(i 0 0),(r 163),(i 62 0),(i 0 0),(r 170),(i 64 0),(i 0 0),(r 177),(i 66 0),(i 0 0),(r 184),(i 71 0),(i 0 0),(r 191),(i 76 0),(i 0 0),(r 196),(i 79 0),(i 0 0),(r 201),(i 81 0),(i 0 0),(r 206),(i 84 0),(i 0 0),(r 211),(i 86 0),(i 0 0),(r 216),(i 92 0),(i 0 0),(r 221),(i 94 0),(i 0 0),(r 226),(i 96 0),(i 0 0),(r 231),(i 98 0),(i 0 0),(r 236),(i 100 0),(i 0 0),(r 241),(i 102 0),(i 0 0),(r 246),(i 106 0),(i 0 0),(r 251),(i 109 0),(i 0 0),(r 256),(i 113 0),(i 0 0),(r 263),(i 115 0),(i 0 0),(r 270),(i 118 0),(i 0 0),(r 275),(i 120 0),(i 0 0),(r 280),(i 123 0),(i 0 0),(r 287),(i 131 0),(i 0 0),(r 294),(i 133 0),(i 0 0),(r 301),(i 138 0),(i 0 0),(r 308),(i 143 0),(i 0 0),(r 315),(i 148 0),(i 0 0),(r 322),(i 151 0),(i 0 0),(r 329),(i 156 0),(i 0 0),(r 334),(i 158 0),(i 0 0),(r 341),(i 164 0),(i 0 0),(r 348),(i 168 0),(i 0 0),(r 355),(i 172 0),(i 0 0),(r 360),(i 177 0),(i 0 0),(r 365),(i 179 0),(i 0 0),(r 370),(i 181 0),(i 0 0),(r 375),(i 188 0),(i 0 0),(r 380),(i 194 0),(i 0 0),(r 387),(i 201 0),(i 0 0),(r 394),(i 207 0),(i 0 0),(r 401),(i 210 0),(i 0 0),(r 406),(i 216 0),(i 0 0),(r 413),(i 218 0),(i 0 0),(r 420),(i 229 0),(i 0 0),(r 425),(i 239 0),(i 0 0),(r 430),(i 247 0),(i 0 0),(r 435),(i 249 0),(i 0 0),(r 442),(i 256 0),(i 0 0),(r 449),(i 258 0),(i 0 0),(r 456),(i 269 0),(i 0 0),(r 463),(i 274 0),(i 0 0),(r 470),(i 279 0),(i 0 0),(r 475),(i 286 0),(i 0 0),(r 480),(i 299 0),(i 0 0),(r 485),(i 305 0),(i 0 0),(r 492),(i 309 0),(i 0 0),(r 497)]
def o12:Obj:=⟨z,none,.fields (fv.take 0).toArray,#[]⟩
def o13:Obj:=c "<module>" 182 1 0 0 11 false 181 12 z z z 185
def o14:Obj:=⟨(t "frame"),none,.plain,#[some (r 13),some (r 3),some (r 3),none,some (s "__main__" 164),none,some (r 0)]⟩
def Xr(P:Params):Obj:=og 10 10 (s "minortables.errors" 187) P
def Rk:Obj:=⟨z,none,.fields (fv.take 3).toArray,#[]⟩
def o15:Obj:=⟨(t "tuple"),none,(.seq #[(t "ValueError")] 0),#[]⟩
def o16:Obj:=⟨(t "builtin_function_or_method"),none,(.fields #[(b "type.__prepare__"),(t "type")]),#[]⟩
def o17(P:Params):Obj:=⟨(t "dict"),none,(.dict #[e P "__module__" 196 (s "minortables.errors" 187),e P "__qualname__" 198 (s "MinorError" 197),e P "__firstlineno__" 200 (i 2 199),e P "__static_attributes__" 201 (r 22)] 4),#[]⟩
def o20:Obj:=c "MinorError" 191 2 0 0 18 false 181 19 z z z 194
def o21:Obj:=⟨(t "frame"),none,.plain,#[some (r 20),some (r 3),some (r 17),none,some (s "minortables.errors" 187),none,some (r 0)]⟩
def o23(P:Params):Obj:=⟨(t "dict"),none,(.dict #[e P "__module__" 196 (s "minortables.errors" 187),e P "__firstlineno__" 200 (i 2 199),e P "__static_attributes__" 201 (r 22),e P "__weakref__" 203 (r 25),e P "__doc__" 204 z] 3),#[]⟩
def o24:Obj:=⟨(t "type"),none,(.cls ⟨"MinorError",[(t "ValueError")],[(r 24),(t "ValueError"),(t "Exception"),(t "BaseException"),(t "object")],23,"MinorError",true,[],[],false,none,false⟩),#[some (r 15),none,some (s "MinorError" 189),some (s "MinorError" 197),some (b "ValueError.__new__"),some (.bool true)]⟩
def o25:Obj:=⟨(t "getset_descriptor"),none,(.fields #[(s "__weakref__" 202),(r 24),(b "ExceptionGroup.__weakref__"),z]),#[]⟩
def o26:Obj:=⟨(t "super"),none,(.fields #[(r 24),(r 24),(r 24)]),#[]⟩
def o27:Obj:=⟨(t "builtin_function_or_method"),none,(.fields #[(b "object.__init_subclass__"),(r 24)]),#[]⟩
def Xq(P:Params):Obj:=og 11 11 (s "minortables.errors" 187) P
def Rj:Obj:=⟨z,none,.fields (fv.take 6).toArray,#[]⟩
def PL:Obj:=⟨(t "type"),none,(.cls ⟨"MinorError",[(t "ValueError")],[(r 24),(t "ValueError"),(t "Exception"),(t "BaseException"),(t "object")],23,"MinorError",true,[],[(r 37)],false,none,false⟩),#[some (r 15),none,some (s "MinorError" 189),some (s "MinorError" 197),some (b "ValueError.__new__"),some (.bool true)]⟩
def o28:Obj:=⟨(t "tuple"),none,(.seq #[(r 24)] 0),#[]⟩
def o29:Obj:=⟨(t "builtin_function_or_method"),none,(.fields #[(b "type.__prepare__"),(t "type")]),#[]⟩
def o30(P:Params):Obj:=⟨(t "dict"),none,(.dict #[e P "__module__" 214 (s "minortables.errors" 187),e P "__qualname__" 216 (s "NoTable" 215),e P "__firstlineno__" 218 (i 4 217),e P "__static_attributes__" 219 (r 35)] 4),#[]⟩
def o33:Obj:=c "NoTable" 209 4 0 0 31 false 181 32 z z z 212
def o34:Obj:=⟨(t "frame"),none,.plain,#[some (r 33),some (r 3),some (r 30),none,some (s "minortables.errors" 187),none,some (r 0)]⟩
def o36(P:Params):Obj:=⟨(t "dict"),none,(.dict #[e P "__module__" 214 (s "minortables.errors" 187),e P "__firstlineno__" 218 (i 4 217),e P "__static_attributes__" 219 (r 35),e P "__doc__" 220 z] 2),#[]⟩
def o37:Obj:=⟨(t "type"),none,(.cls ⟨"NoTable",[(r 24)],[(r 37),(r 24),(t "ValueError"),(t "Exception"),(t "BaseException"),(t "object")],36,"NoTable",true,[],[],false,none,false⟩),#[some (r 28),none,some (s "NoTable" 207),some (s "NoTable" 215),some (b "ValueError.__new__"),some (.bool true)]⟩
def o38:Obj:=⟨(t "super"),none,(.fields #[(r 37),(r 37),(r 37)]),#[]⟩
def o39:Obj:=⟨(t "builtin_function_or_method"),none,(.fields #[(b "object.__init_subclass__"),(r 37)]),#[]⟩
def Xp(P:Params):Obj:=og 12 12 (s "minortables.errors" 187) P
def Ri:Obj:=⟨z,none,.fields (fv.take 9).toArray,#[]⟩
def PK:Obj:=⟨(t "type"),none,(.cls ⟨"MinorError",[(t "ValueError")],[(r 24),(t "ValueError"),(t "Exception"),(t "BaseException"),(t "object")],23,"MinorError",true,[],[(r 37),(r 49)],false,none,false⟩),#[some (r 15),none,some (s "MinorError" 189),some (s "MinorError" 197),some (b "ValueError.__new__"),some (.bool true)]⟩
def o40:Obj:=⟨(t "tuple"),none,(.seq #[(r 24)] 0),#[]⟩
def o41:Obj:=⟨(t "builtin_function_or_method"),none,(.fields #[(b "type.__prepare__"),(t "type")]),#[]⟩
def o42(P:Params):Obj:=⟨(t "dict"),none,(.dict #[e P "__module__" 230 (s "minortables.errors" 187),e P "__qualname__" 232 (s "NoFit" 231),e P "__firstlineno__" 234 (i 6 233),e P "__static_attributes__" 235 (r 47)] 4),#[]⟩
def o45:Obj:=c "NoFit" 225 6 0 0 43 false 181 44 z z z 228
def o46:Obj:=⟨(t "frame"),none,.plain,#[some (r 45),some (r 3),some (r 42),none,some (s "minortables.errors" 187),none,some (r 0)]⟩
def o48(P:Params):Obj:=⟨(t "dict"),none,(.dict #[e P "__module__" 230 (s "minortables.errors" 187),e P "__firstlineno__" 234 (i 6 233),e P "__static_attributes__" 235 (r 47),e P "__doc__" 236 z] 2),#[]⟩
def o49:Obj:=⟨(t "type"),none,(.cls ⟨"NoFit",[(r 24)],[(r 49),(r 24),(t "ValueError"),(t "Exception"),(t "BaseException"),(t "object")],48,"NoFit",true,[],[],false,none,false⟩),#[some (r 40),none,some (s "NoFit" 223),some (s "NoFit" 231),some (b "ValueError.__new__"),some (.bool true)]⟩
def o50:Obj:=⟨(t "super"),none,(.fields #[(r 49),(r 49),(r 49)]),#[]⟩
def o51:Obj:=⟨(t "builtin_function_or_method"),none,(.fields #[(b "object.__init_subclass__"),(r 49)]),#[]⟩
def Xo(P:Params):Obj:=og 19 19 (s "minortables.checks" 255) P
def Rh:Obj:=⟨z,none,.fields (fv.take 27).toArray,#[]⟩
def Ea:Obj:=⟨(t "type"),none,(.cls ⟨"MinorError",[(t "ValueError")],[(r 24),(t "ValueError"),(t "Exception"),(t "BaseException"),(t "object")],23,"MinorError",true,[],[(r 37),(r 49),(r 61)],false,none,false⟩),#[some (r 15),none,some (s "MinorError" 189),some (s "MinorError" 197),some (b "ValueError.__new__"),some (.bool true)]⟩
def o52:Obj:=⟨(t "tuple"),none,(.seq #[(r 24)] 0),#[]⟩
def o53:Obj:=⟨(t "builtin_function_or_method"),none,(.fields #[(b "type.__prepare__"),(t "type")]),#[]⟩
def o54(P:Params):Obj:=⟨(t "dict"),none,(.dict #[e P "__module__" 246 (s "minortables.errors" 187),e P "__qualname__" 248 (s "NoStep" 247),e P "__firstlineno__" 250 (i 8 249),e P "__static_attributes__" 251 (r 59)] 4),#[]⟩
def o57:Obj:=c "NoStep" 241 8 0 0 55 false 181 56 z z z 244
def o58:Obj:=⟨(t "frame"),none,.plain,#[some (r 57),some (r 3),some (r 54),none,some (s "minortables.errors" 187),none,some (r 0)]⟩
def o60(P:Params):Obj:=⟨(t "dict"),none,(.dict #[e P "__module__" 246 (s "minortables.errors" 187),e P "__firstlineno__" 250 (i 8 249),e P "__static_attributes__" 251 (r 59),e P "__doc__" 252 z] 2),#[]⟩
def o61:Obj:=⟨(t "type"),none,(.cls ⟨"NoStep",[(r 24)],[(r 61),(r 24),(t "ValueError"),(t "Exception"),(t "BaseException"),(t "object")],60,"NoStep",true,[],[],false,none,false⟩),#[some (r 52),none,some (s "NoStep" 239),some (s "NoStep" 247),some (b "ValueError.__new__"),some (.bool true)]⟩
def o62:Obj:=⟨(t "super"),none,(.fields #[(r 61),(r 61),(r 61)]),#[]⟩
def o63:Obj:=⟨(t "builtin_function_or_method"),none,(.fields #[(b "object.__init_subclass__"),(r 61)]),#[]⟩
def o66:Obj:=tn ["thing"] 262
def o68:Obj:=g (d 7) "is_whole"
def o69:Obj:=c "is_whole" 259 12 1 3 64 true 181 65 (r 66) (r 67) (r 68) 263
def o70:Obj:=u (d 7) "is_whole" (s "minortables.checks" 255) 69
def o73:Obj:=tn ["thing","least","most"] 269
def o75:Obj:=g (d 8) "is_whole_within"
def o76:Obj:=c "is_whole_within" 266 14 3 3 71 true 181 72 (r 73) (r 74) (r 75) 272
def o77:Obj:=u (d 8) "is_whole_within" (s "minortables.checks" 255) 76
def o80:Obj:=tn ["thing"] 278
def o82:Obj:=g (d 9) "is_short_tuple"
def o83:Obj:=c "is_short_tuple" 275 16 1 3 78 true 181 79 (r 80) (r 81) (r 82) 279
def o84:Obj:=u (d 9) "is_short_tuple" (s "minortables.checks" 255) 83
def o87:Obj:=g (d 10) "has_lines"
def o88:Obj:=c "has_lines" 282 18 1 3 85 true 181 86 z z (r 87) 285
def o89:Obj:=u (d 10) "has_lines" (s "minortables.checks" 255) 88
def o92:Obj:=tn ["table","told","row"] 291
def o94:Obj:=g (d 11) "numbers_of"
def o95:Obj:=c "numbers_of" 288 22 1 3 90 true 181 91 (r 92) (r 93) (r 94) 294
def o96:Obj:=u (d 11) "numbers_of" (s "minortables.checks" 255) 95
def Xn(P:Params):Obj:=og 32 32 (s "minortables.fractions" 340) P
def Rg:Obj:=⟨z,none,.fields (fv.take 66).toArray,#[]⟩
def o99:Obj:=g (d 12) "has_table_form"
def o100:Obj:=c "has_table_form" 297 27 1 3 97 true 181 98 z z (r 99) 300
def Ry:Obj:=u (d 12) "has_table_form" (s "minortables.checks" 255) 100
def Rx:Obj:=tn ["table"] 306
def Wd:Obj:=g (d 13) "is_square"
def Rw:Obj:=c "is_square" 303 29 1 3 102 true 181 103 (r 104) (r 105) (r 106) 307
def Rv:Obj:=u (d 13) "is_square" (s "minortables.checks" 255) 107
def o111:Obj:=tn ["thing","many"] 313
def Wb:Obj:=g (d 14) "is_place"
def Ru:Obj:=c "is_place" 310 31 2 3 109 true 181 110 (r 111) (r 112) (r 113) 315
def Rt:Obj:=u (d 14) "is_place" (s "minortables.checks" 255) 114
def Rr:Obj:=tn ["thing"] 321
def Wa:Obj:=g (d 15) "need_table"
def Rq:Obj:=c "need_table" 318 33 1 3 116 true 181 117 (r 118) (r 119) (r 120) 322
def Rp:Obj:=u (d 15) "need_table" (s "minortables.checks" 255) 121
def Ro:Obj:=tn ["table"] 328
def V9:Obj:=g (d 16) "need_square"
def Rn:Obj:=c "need_square" 325 36 1 3 123 true 181 124 (r 125) (r 126) (r 127) 329
def Rm:Obj:=u (d 16) "need_square" (s "minortables.checks" 255) 128
def Q9:Obj:=tn ["thing","most"] 335
def V8:Obj:=g (d 17) "need_size"
def Q8:Obj:=c "need_size" 332 39 2 3 130 true 181 131 (r 132) (r 133) (r 134) 337
def Q7:Obj:=u (d 17) "need_size" (s "minortables.checks" 255) 135
def Q6:Obj:=tn ["one","other","rest"] 345
def V7:Obj:=g (d 19) "common_measure"
def Q5:Obj:=c "common_measure" 342 43 2 3 137 true 181 138 (r 139) (r 140) (r 141) 348
def Q0:Obj:=u (d 19) "common_measure" (s "minortables.fractions" 340) 142
def QZ:Obj:=tn ["up","down","measure"] 354
def V6:Obj:=g (d 20) "lowest"
def QX:Obj:=c "lowest" 351 49 2 3 144 true 181 145 (r 146) (r 147) (r 148) 357
def QW:Obj:=u (d 20) "lowest" (s "minortables.fractions" 340) 149
def QV:Obj:=tn ["thing"] 363
def V5:Obj:=g (d 21) "has_fraction_form"
def QT:Obj:=c "has_fraction_form" 360 54 1 3 151 true 181 152 (r 153) (r 154) (r 155) 364
def QS:Obj:=u (d 21) "has_fraction_form" (s "minortables.fractions" 340) 156
def QM:Obj:=tn ["thing"] 370
def V4:Obj:=g (d 22) "is_fraction"
def QL:Obj:=c "is_fraction" 367 60 1 3 158 true 181 159 (r 160) (r 161) (r 162) 371
def QK:Obj:=u (d 22) "is_fraction" (s "minortables.fractions" 340) 163
def QJ:Obj:=tn ["one","other"] 377
def V3:Obj:=g (d 23) "sum_of"
def QH:Obj:=c "sum_of" 374 62 2 3 165 true 181 166 (r 167) (r 168) (r 169) 379
def QG:Obj:=u (d 23) "sum_of" (s "minortables.fractions" 340) 170
def QF:Obj:=tn ["one","other"] 385
def V2:Obj:=g (d 24) "times_of"
def QD:Obj:=c "times_of" 382 64 2 3 172 true 181 173 (r 174) (r 175) (r 176) 387
def QC:Obj:=u (d 24) "times_of" (s "minortables.fractions" 340) 177
def QB:Obj:=tn ["some","told","fraction"] 393
def V1:Obj:=g (d 25) "all_sum"
def Qz:Obj:=c "all_sum" 390 66 1 3 179 true 181 180 (r 181) (r 182) (r 183) 396
def Qy:Obj:=u (d 25) "all_sum" (s "minortables.fractions" 340) 184
def Xm(P:Params):Obj:=og 46 46 (s "minortables.minors" 476) P
def Rf:Obj:=⟨z,none,.fields (fv.take 108).toArray,#[]⟩
def Qx:Obj:=tn ["some","told","fraction"] 402
def V0:Obj:=g (d 26) "all_times"
def Qw:Obj:=c "all_times" 399 71 1 3 186 true 181 187 (r 188) (r 189) (r 190) 405
def Qv:Obj:=u (d 26) "all_times" (s "minortables.fractions" 340) 191
def VR:Obj:=g (d 27) "need_fraction_table"
def Qu:Obj:=c "need_fraction_table" 408 76 1 3 193 true 181 194 z z (r 195) 411
def Qt:Obj:=u (d 27) "need_fraction_table" (s "minortables.fractions" 340) 196
def o200:Obj:=g (d 28) "row_as_fractions"
def Qs:Obj:=c "row_as_fractions" 414 79 1 3 198 true 181 199 z z (r 200) 417
def Qq:Obj:=u (d 28) "row_as_fractions" (s "minortables.fractions" 340) 201
def VP:Obj:=g (d 29) "as_fractions"
def Qp:Obj:=c "as_fractions" 420 81 1 3 203 true 181 204 z z (r 205) 423
def Qo:Obj:=u (d 29) "as_fractions" (s "minortables.fractions" 340) 206
def VN:Obj:=g (d 30) "row_of_ups"
def Qn:Obj:=c "row_of_ups" 426 84 1 3 208 true 181 209 z z (r 210) 429
def Qm:Obj:=u (d 30) "row_of_ups" (s "minortables.fractions" 340) 211
def VL:Obj:=g (d 31) "as_whole"
def Ql:Obj:=c "as_whole" 432 86 1 3 213 true 181 214 z z (r 215) 435
def Qk:Obj:=u (d 31) "as_whole" (s "minortables.fractions" 340) 216
def VJ:Obj:=g (d 33) "column_of"
def Qj:Obj:=c "column_of" 440 92 2 3 218 true 181 219 z z (r 220) 443
def Qi:Obj:=u (d 33) "column_of" (s "minortables.tables" 438) 221
def VH:Obj:=g (d 34) "columns_of"
def Qh:Obj:=c "columns_of" 446 94 1 3 223 true 181 224 z z (r 225) 449
def Qg:Obj:=u (d 34) "columns_of" (s "minortables.tables" 438) 226
def VG:Obj:=g (d 35) "picked"
def Qf:Obj:=c "picked" 452 96 2 3 228 true 181 229 z z (r 230) 455
def Qe:Obj:=u (d 35) "picked" (s "minortables.tables" 438) 231
def VF:Obj:=g (d 36) "part_at"
def Qd:Obj:=c "part_at" 458 98 3 3 233 true 181 234 z z (r 235) 461
def Qc:Obj:=u (d 36) "part_at" (s "minortables.tables" 438) 236
def VD:Obj:=g (d 37) "plain_row"
def Qa:Obj:=c "plain_row" 464 100 2 3 238 true 181 239 z z (r 240) 467
def P0:Obj:=u (d 37) "plain_row" (s "minortables.tables" 438) 241
def VB:Obj:=g (d 38) "plain"
def PX:Obj:=c "plain" 470 102 1 3 243 true 181 244 z z (r 245) 473
def PN:Obj:=u (d 38) "plain" (s "minortables.tables" 438) 246
def Vz:Obj:=g (d 40) "without"
def PJ:Obj:=c "without" 478 106 3 3 248 true 181 249 z z (r 250) 481
def PB:Obj:=u (d 40) "without" (s "minortables.minors" 476) 251
def Vy:Obj:=g (d 41) "worth_of"
def Pz:Obj:=c "worth_of" 484 109 1 3 253 true 181 254 z z (r 255) 487
def Py:Obj:=u (d 41) "worth_of" (s "minortables.minors" 476) 256
def Xl(P:Params):Obj:=og 59 59 (s "minortables.good" 583) P
def Rc:Obj:=⟨z,none,.fields (fv.take 147).toArray,#[]⟩
def Px:Obj:=tn ["table","row","column"] 493
def Vx:Obj:=g (d 42) "rest_worth"
def Pu:Obj:=c "rest_worth" 490 113 3 3 258 true 181 259 (r 260) (r 261) (r 262) 496
def Pr:Obj:=u (d 42) "rest_worth" (s "minortables.minors" 476) 263
def Pq:Obj:=tn ["table","row","column","worth"] 502
def Vw:Obj:=g (d 43) "signed_rest"
def Pn:Obj:=c "signed_rest" 499 115 3 3 265 true 181 266 (r 267) (r 268) (r 269) 506
def Pk:Obj:=u (d 43) "signed_rest" (s "minortables.minors" 476) 270
def Vv:Obj:=g (d 44) "row_with_rests"
def Pj:Obj:=c "row_with_rests" 509 118 2 3 272 true 181 273 z z (r 274) 512
def Ph:Obj:=u (d 44) "row_with_rests" (s "minortables.minors" 476) 275
def Vu:Obj:=g (d 45) "with_behind"
def Pb:Obj:=c "with_behind" 515 120 2 3 277 true 181 278 z z (r 279) 518
def Pa:Obj:=u (d 45) "with_behind" (s "minortables.minors" 476) 280
def O9:Obj:=tn ["many","size","told","length","longer","places"] 524
def Vt:Obj:=g (d 46) "rising_tuples"
def O8:Obj:=c "rising_tuples" 521 123 2 3 282 true 181 283 (r 284) (r 285) (r 286) 530
def O7:Obj:=u (d 46) "rising_tuples" (s "minortables.minors" 476) 287
def O6:Obj:=tn ["table"] 536
def Vs:Obj:=g (d 47) "greatest_size"
def O5:Obj:=c "greatest_size" 533 131 1 3 289 true 181 290 (r 291) (r 292) (r 293) 537
def O4:Obj:=u (d 47) "greatest_size" (s "minortables.minors" 476) 294
def O2:Obj:=tn ["table","rows","told","columns"] 543
def o300:Obj:=g (d 48) "minors_of_rows"
def O1:Obj:=c "minors_of_rows" 540 133 2 3 296 true 181 297 (r 298) (r 299) (r 300) 547
def OJ:Obj:=u (d 48) "minors_of_rows" (s "minortables.minors" 476) 301
def OD:Obj:=tn ["table","size","told","rows"] 553
def Vr:Obj:=g (d 49) "minors_of_size"
def Oz:Obj:=c "minors_of_size" 550 138 2 3 303 true 181 304 (r 305) (r 306) (r 307) 557
def Ox:Obj:=u (d 49) "minors_of_size" (s "minortables.minors" 476) 308
def Ow:Obj:=tn ["table","told","size"] 563
def Vq:Obj:=g (d 50) "minors_in"
def Ov:Obj:=c "minors_in" 560 143 1 3 310 true 181 311 (r 312) (r 313) (r 314) 566
def Ou:Obj:=u (d 50) "minors_in" (s "minortables.minors" 476) 315
def Ot:Obj:=tn ["table"] 572
def Vp:Obj:=g (d 51) "all_minors"
def Oq:Obj:=c "all_minors" 569 148 1 3 317 true 181 318 (r 319) (r 320) (r 321) 573
def Oo:Obj:=u (d 51) "all_minors" (s "minortables.minors" 476) 322
def Om:Obj:=tn ["table"] 579
def Vo:Obj:=g (d 52) "whole_minor"
def Ol:Obj:=c "whole_minor" 576 151 1 3 324 true 181 325 (r 326) (r 327) (r 328) 580
def Oj:Obj:=u (d 52) "whole_minor" (s "minortables.minors" 476) 329
def Vn:Obj:=g (d 54) "none_below"
def Oi:Obj:=c "none_below" 585 156 1 3 331 true 181 332 z z (r 333) 588
def Oh:Obj:=u (d 54) "none_below" (s "minortables.good" 583) 334
def Og:Obj:=tn ["table"] 594
def Vm:Obj:=g (d 55) "is_good"
def Oe:Obj:=c "is_good" 591 158 1 3 336 true 181 337 (r 338) (r 339) (r 340) 595
def Od:Obj:=u (d 55) "is_good" (s "minortables.good" 583) 341
def Xk(P:Params):Obj:=og 74 74 (s "law_minortables_k31_whole_steps_good" 666) P
def Rb:Obj:=⟨z,none,.fields (fv.take 183).toArray,#[]⟩
def Oc:Obj:=tn ["many","word","place","share"] 609
def Vl:Obj:=g (d 60) "is_step_of"
def Ob:Obj:=c "is_step_of" 606 164 4 3 343 true 181 344 (r 345) (r 346) (r 347) 613
def Oa:Obj:=u (d 60) "is_step_of" (s "minortables.steps" 598) 348
def N8:Obj:=tn ["many","thing"] 619
def Vk:Obj:=g (d 61) "is_step"
def N7:Obj:=c "is_step" 616 168 2 3 350 true 181 351 (r 352) (r 353) (r 354) 621
def N6:Obj:=u (d 61) "is_step" (s "minortables.steps" 598) 355
def Vj:Obj:=g (d 62) "need_steps"
def N5:Obj:=c "need_steps" 624 172 2 3 357 true 181 358 z z (r 359) 627
def NZ:Obj:=u (d 62) "need_steps" (s "minortables.steps" 598) 360
def Vi:Obj:=g (d 63) "row_by_column"
def NT:Obj:=c "row_by_column" 630 177 2 3 362 true 181 363 z z (r 364) 633
def NQ:Obj:=u (d 63) "row_by_column" (s "minortables.steps" 598) 365
def Vh:Obj:=g (d 64) "row_by_columns"
def NP:Obj:=c "row_by_columns" 636 179 2 3 367 true 181 368 z z (r 369) 639
def NK:Obj:=u (d 64) "row_by_columns" (s "minortables.steps" 598) 370
def Vg:Obj:=g (d 65) "product_of"
def Nz:Obj:=c "product_of" 642 181 2 3 372 true 181 373 z z (r 374) 645
def Ny:Obj:=u (d 65) "product_of" (s "minortables.steps" 598) 375
def Vf:Obj:=g (d 66) "table_of_step"
def Nx:Obj:=c "table_of_step" 648 188 4 3 377 true 181 378 z z (r 379) 651
def Nv:Obj:=u (d 66) "table_of_step" (s "minortables.steps" 598) 380
def Nu:Obj:=tn ["many","steps","made","word","place","share"] 657
def Ve:Obj:=g (d 67) "made_by"
def Nt:Obj:=c "made_by" 654 194 2 3 382 true 181 383 (r 384) (r 385) (r 386) 663
def Nr:Obj:=u (d 67) "made_by" (s "minortables.steps" 598) 387
def Nq:Obj:=tn ["_law_script","_law_k"] 671
def Vd:Obj:=g (d 69) "_law_cell"
def Np:Obj:=c "_law_cell" 668 201 2 3 389 true 181 390 (r 391) (r 392) (r 393) 673
def Nm:Obj:=u (d 69) "_law_cell" (s "law_minortables_k31_whole_steps_good" 666) 394
def Nk:Obj:=tn ["_law_script","_law_k","_law_many","_law_drawn"] 679
def o400:Obj:=g (d 70) "_law_pick"
def Nj:Obj:=c "_law_pick" 676 207 3 3 396 true 181 397 (r 398) (r 399) (r 400) 683
def Ni:Obj:=u (d 70) "_law_pick" (s "law_minortables_k31_whole_steps_good" 666) 401
def Vc:Obj:=g (d 71) "_law_table"
def Vb:Obj:=c "_law_table" 686 210 4 3 403 true 181 404 z z (r 405) 689
def Va:Obj:=u (d 71) "_law_table" (s "law_minortables_k31_whole_steps_good" 666) 406
def U9:Obj:=tn ["_law_script","_law_at"] 695
def U8:Obj:=g (d 72) "_law_size"
def U7:Obj:=c "_law_size" 692 216 2 3 408 true 181 409 (r 410) (r 411) (r 412) 697
def U4:Obj:=u (d 72) "_law_size" (s "law_minortables_k31_whole_steps_good" 666) 413
def Xj(P:Params):Obj:=og 87 87 (s "law_minortables_k31_whole_steps_good" 666) P
def Ra:Obj:=⟨z,none,.fields (fv.take 222).toArray,#[]⟩
def U3:Obj:=tn ["_law_one","_law_other","_law_made_here","_law_row","_law_line","_law_column","_law_total","_law_k"] 703
def UW:Obj:=g (d 73) "_law_times"
def UL:Obj:=c "_law_times" 700 218 2 3 415 true 181 416 (r 417) (r 418) (r 419) 711
def UJ:Obj:=u (d 73) "_law_times" (s "law_minortables_k31_whole_steps_good" 666) 420
def UG:Obj:=g (d 74) "_law_worth"
def Uz:Obj:=c "_law_worth" 714 229 1 3 422 true 181 423 z z (r 424) 717
def Uy:Obj:=u (d 74) "_law_worth" (s "law_minortables_k31_whole_steps_good" 666) 425
def Ux:Obj:=g (d 75) "_law_some"
def Uw:Obj:=c "_law_some" 720 239 2 3 427 true 181 428 z z (r 429) 723
def Uv:Obj:=u (d 75) "_law_some" (s "law_minortables_k31_whole_steps_good" 666) 430
def Uu:Obj:=g (d 76) "_law_part"
def Ut:Obj:=c "_law_part" 726 247 3 3 432 true 181 433 z z (r 434) 729
def Us:Obj:=u (d 76) "_law_part" (s "law_minortables_k31_whole_steps_good" 666) 435
def Ur:Obj:=tn ["_law_table_here","_law_made_here","_law_size_here","_law_some_here","_law_others"] 735
def Uq:Obj:=g (d 77) "_law_minors"
def Uo:Obj:=c "_law_minors" 732 249 1 3 437 true 181 438 (r 439) (r 440) (r 441) 740
def Um:Obj:=u (d 77) "_law_minors" (s "law_minortables_k31_whole_steps_good" 666) 442
def Nh:Obj:=tn ["_law_script","_law_at"] 746
def Ul:Obj:=g (d 78) "_law_share"
def Ng:Obj:=c "_law_share" 743 256 2 3 444 true 181 445 (r 446) (r 447) (r 448) 748
def Nf:Obj:=u (d 78) "_law_share" (s "law_minortables_k31_whole_steps_good" 666) 449
def Nb:Obj:=tn ["_law_script","_law_at","_law_many","_law_most","_law_made_here","_law_k","_law_base","_law_word","_law_share_here"] 754
def Uk:Obj:=g (d 79) "_law_steps"
def M9:Obj:=c "_law_steps" 751 258 4 3 451 true 181 452 (r 453) (r 454) (r 455) 763
def M8:Obj:=u (d 79) "_law_steps" (s "law_minortables_k31_whole_steps_good" 666) 456
def M7:Obj:=tn ["_law_up","_law_down","_law_one","_law_other"] 769
def Uj:Obj:=g (d 80) "_law_lowest"
def M6:Obj:=c "_law_lowest" 766 269 2 3 458 true 181 459 (r 460) (r 461) (r 462) 773
def M5:Obj:=u (d 80) "_law_lowest" (s "law_minortables_k31_whole_steps_good" 666) 463
def Ui:Obj:=tn ["_law_some_here","_law_up","_law_down","_law_one"] 779
def Uh:Obj:=g (d 81) "_law_sum"
def Ug:Obj:=c "_law_sum" 776 274 1 3 465 true 181 466 (r 467) (r 468) (r 469) 783
def Ue:Obj:=u (d 81) "_law_sum" (s "law_minortables_k31_whole_steps_good" 666) 470
def Ud:Obj:=g (d 82) "_law_step_table"
def Uc:Obj:=c "_law_step_table" 786 279 2 3 472 true 181 473 z z (r 474) 789
def Ub:Obj:=u (d 82) "_law_step_table" (s "law_minortables_k31_whole_steps_good" 666) 475
def Ua:Obj:=g (d 83) "_law_made"
def TY:Obj:=c "_law_made" 792 286 2 3 477 true 181 478 z z (r 479) 795
def TV:Obj:=u (d 83) "_law_made" (s "law_minortables_k31_whole_steps_good" 666) 480
def TQ:Obj:=g (d 84) "_law_whole"
def M4:Obj:=c "_law_whole" 798 299 1 3 482 true 181 483 z z (r 484) 801
def MP:Obj:=u (d 84) "_law_whole" (s "law_minortables_k31_whole_steps_good" 666) 485
def MN:Obj:=tn ["_law_one","_law_other"] 807
def TJ:Obj:=g (d 85) "_law_gcd"
def MK:Obj:=c "_law_gcd" 804 305 2 3 487 true 181 488 (r 489) (r 490) (r 491) 809
def MJ:Obj:=u (d 85) "_law_gcd" (s "law_minortables_k31_whole_steps_good" 666) 492
def DY(P:Params):Obj:=og 88 88 (s "law_minortables_k31_whole_steps_good" 666) P
def Ay:Obj:=⟨z,none,.fields (fv.take 225).toArray,#[]⟩
def TF:Obj:=g (d 86) "law"
def MF:Obj:=c "law" 812 309 1 3 494 true 181 495 z z (r 496) 815
def Mz:Obj:=u (d 86) "law" (s "law_minortables_k31_whole_steps_good" 666) 497
def Ha(P:Params):Heap:=⟨⟨[boot_o_0 P,boot_o_1 P,boot_o_2 P,boot_o_3 P,boot_o_4 P,boot_o_5 P,boot_o_6 P,boot_o_7 P,boot_o_8 P,boot_o_9 P,boot_o_10 P,y,o12,o13,o14]⟩,{}⟩
def T0(P:Params):BT:=I .nil 0 [boot_o_0 P,boot_o_1 P,boot_o_2 P,boot_o_3 P,boot_o_4 P,boot_o_5 P,boot_o_6 P,boot_o_7 P,boot_o_8 P,boot_o_9 P,boot_o_10 P,y,o12,o13,o14]
def T1(P:Params):BT:=I (T0 P) 15 [o15,o16,o17 P,y,x,o20,o21,y,o23 P,o24,o25,o26,o27] |>.set 3 (fun _=>Xr P) |>.set 12 (fun _=>Rk)
def T2(P:Params):BT:=I (T1 P) 28 [o28,o29,o30 P,y,x,o33,o34,y,o36 P,o37,o38,o39] |>.set 3 (fun _=>Xq P) |>.set 12 (fun _=>Rj) |>.set 24 (fun _=>PL)
def T3(P:Params):BT:=I (T2 P) 40 [o40,o41,o42 P,y,x,o45,o46,y,o48 P,o49,o50,o51] |>.set 3 (fun _=>Xp P) |>.set 12 (fun _=>Ri) |>.set 24 (fun _=>PK)
def T4(P:Params):BT:=I (T3 P) 52 [o52,o53,o54 P,y,x,o57,o58,y,o60 P,o61,o62,o63,y,x,o66,y,o68,o69,o70,y,x,o73,y,o75,o76,o77,y,x,o80,y,o82,o83,o84,y,x,o87,o88,o89,y,x,o92,y,o94,o95,o96] |>.set 3 (fun _=>Xo P) |>.set 12 (fun _=>Rh) |>.set 24 (fun _=>Ea)
def T5(P:Params):BT:=I (T4 P) 97 [y,x,o99,o100,Ry,y,x,Rx,y,Wd,Rw,Rv,y,x,o111,y,Wb,Ru,Rt,y,x,Rr,y,Wa,Rq,Rp,y,x,Ro,y,V9,Rn,Rm,y,x,Q9,y,V8,Q8,Q7,y,x,Q6,y,V7,Q5,Q0,y,x,QZ,y,V6,QX,QW,y,x,QV,y,V5,QT,QS,y,x,QM,y,V4,QL,QK,y,x,QJ,y,V3,QH,QG,y,x,QF,y,V2,QD,QC,y,x,QB,y,V1,Qz,Qy] |>.set 3 (fun _=>Xn P) |>.set 12 (fun _=>Rg)
def T6(P:Params):BT:=I (T5 P) 186 [y,x,Qx,y,V0,Qw,Qv,y,x,VR,Qu,Qt,y,x,o200,Qs,Qq,y,x,VP,Qp,Qo,y,x,VN,Qn,Qm,y,x,VL,Ql,Qk,y,x,VJ,Qj,Qi,y,x,VH,Qh,Qg,y,x,VG,Qf,Qe,y,x,VF,Qd,Qc,y,x,VD,Qa,P0,y,x,VB,PX,PN,y,x,Vz,PJ,PB,y,x,Vy,Pz,Py] |>.set 3 (fun _=>Xm P) |>.set 12 (fun _=>Rf)
def T7(P:Params):BT:=I (T6 P) 258 [y,x,Px,y,Vx,Pu,Pr,y,x,Pq,y,Vw,Pn,Pk,y,x,Vv,Pj,Ph,y,x,Vu,Pb,Pa,y,x,O9,y,Vt,O8,O7,y,x,O6,y,Vs,O5,O4,y,x,O2,y,o300,O1,OJ,y,x,OD,y,Vr,Oz,Ox,y,x,Ow,y,Vq,Ov,Ou,y,x,Ot,y,Vp,Oq,Oo,y,x,Om,y,Vo,Ol,Oj,y,x,Vn,Oi,Oh,y,x,Og,y,Vm,Oe,Od] |>.set 3 (fun _=>Xl P) |>.set 12 (fun _=>Rc)
def T8(P:Params):BT:=I (T7 P) 343 [y,x,Oc,y,Vl,Ob,Oa,y,x,N8,y,Vk,N7,N6,y,x,Vj,N5,NZ,y,x,Vi,NT,NQ,y,x,Vh,NP,NK,y,x,Vg,Nz,Ny,y,x,Vf,Nx,Nv,y,x,Nu,y,Ve,Nt,Nr,y,x,Nq,y,Vd,Np,Nm,y,x,Nk,y,o400,Nj,Ni,y,x,Vc,Vb,Va,y,x,U9,y,U8,U7,U4] |>.set 3 (fun _=>Xk P) |>.set 12 (fun _=>Rb)
def T9(P:Params):BT:=I (T8 P) 415 [y,x,U3,y,UW,UL,UJ,y,x,UG,Uz,Uy,y,x,Ux,Uw,Uv,y,x,Uu,Ut,Us,y,x,Ur,y,Uq,Uo,Um,y,x,Nh,y,Ul,Ng,Nf,y,x,Nb,y,Uk,M9,M8,y,x,M7,y,Uj,M6,M5,y,x,Ui,y,Uh,Ug,Ue,y,x,Ud,Uc,Ub,y,x,Ua,TY,TV,y,x,TQ,M4,MP,y,x,MN,y,TJ,MK,MJ] |>.set 3 (fun _=>Xj P) |>.set 12 (fun _=>Ra)
def T10(P:Params):BT:=I (T9 P) 494 [y,x,TF,MF,Mz] |>.set 3 (fun _=>DY P) |>.set 12 (fun _=>Ay)
def H1(P:Params):Heap:=⟨⟨[boot_o_0 P,boot_o_1 P,boot_o_2 P,DY P,boot_o_4 P,boot_o_5 P,boot_o_6 P,boot_o_7 P,boot_o_8 P,boot_o_9 P,boot_o_10 P,y,Ay,o13,o14,o15,o16,o17 P,y,x,o20,o21,y,o23 P,Ea,o25,o26,o27,o28,o29,o30 P,y,x,o33,o34,y,o36 P,o37,o38,o39,o40,o41,o42 P,y,x,o45,o46,y,o48 P,o49,o50,o51,o52,o53,o54 P,y,x,o57,o58,y,o60 P,o61,o62,o63,y,x,o66,y,o68,o69,o70,y,x,o73,y,o75,o76,o77,y,x,o80,y,o82,o83,o84,y,x,o87,o88,o89,y,x,o92,y,o94,o95,o96,y,x,o99,o100,Ry,y,x,Rx,y,Wd,Rw,Rv,y,x,o111,y,Wb,Ru,Rt,y,x,Rr,y,Wa,Rq,Rp,y,x,Ro,y,V9,Rn,Rm,y,x,Q9,y,V8,Q8,Q7,y,x,Q6,y,V7,Q5,Q0,y,x,QZ,y,V6,QX,QW,y,x,QV,y,V5,QT,QS,y,x,QM,y,V4,QL,QK,y,x,QJ,y,V3,QH,QG,y,x,QF,y,V2,QD,QC,y,x,QB,y,V1,Qz,Qy,y,x,Qx,y,V0,Qw,Qv,y,x,VR,Qu,Qt,y,x,o200,Qs,Qq,y,x,VP,Qp,Qo,y,x,VN,Qn,Qm,y,x,VL,Ql,Qk,y,x,VJ,Qj,Qi,y,x,VH,Qh,Qg,y,x,VG,Qf,Qe,y,x,VF,Qd,Qc,y,x,VD,Qa,P0,y,x,VB,PX,PN,y,x,Vz,PJ,PB,y,x,Vy,Pz,Py,y,x,Px,y,Vx,Pu,Pr,y,x,Pq,y,Vw,Pn,Pk,y,x,Vv,Pj,Ph,y,x,Vu,Pb,Pa,y,x,O9,y,Vt,O8,O7,y,x,O6,y,Vs,O5,O4,y,x,O2,y,o300,O1,OJ,y,x,OD,y,Vr,Oz,Ox,y,x,Ow,y,Vq,Ov,Ou,y,x,Ot,y,Vp,Oq,Oo,y,x,Om,y,Vo,Ol,Oj,y,x,Vn,Oi,Oh,y,x,Og,y,Vm,Oe,Od,y,x,Oc,y,Vl,Ob,Oa,y,x,N8,y,Vk,N7,N6,y,x,Vj,N5,NZ,y,x,Vi,NT,NQ,y,x,Vh,NP,NK,y,x,Vg,Nz,Ny,y,x,Vf,Nx,Nv,y,x,Nu,y,Ve,Nt,Nr,y,x,Nq,y,Vd,Np,Nm,y,x,Nk,y,o400,Nj,Ni,y,x,Vc,Vb,Va,y,x,U9,y,U8,U7,U4,y,x,U3,y,UW,UL,UJ,y,x,UG,Uz,Uy,y,x,Ux,Uw,Uv,y,x,Uu,Ut,Us,y,x,Ur,y,Uq,Uo,Um,y,x,Nh,y,Ul,Ng,Nf,y,x,Nb,y,Uk,M9,M8,y,x,M7,y,Uj,M6,M5,y,x,Ui,y,Uh,Ug,Ue,y,x,Ud,Uc,Ub,y,x,Ua,TY,TV,y,x,TQ,M4,MP,y,x,MN,y,TJ,MK,MJ,y,x,TF,MF,Mz]⟩,{}⟩
def S0(w:World)(os:OsState):SharedT:=⟨T0 w.params,15,{},⟨[]⟩,{},187,os⟩
def S1(w:World)(os:OsState):SharedT:=⟨T1 w.params,28,{},⟨[]⟩,{},207,os⟩
def S2(w:World)(os:OsState):SharedT:=⟨T2 w.params,40,{},⟨[]⟩,{},223,os⟩
def S3(w:World)(os:OsState):SharedT:=⟨T3 w.params,52,{},⟨[]⟩,{},239,os⟩
def S4(w:World)(os:OsState):SharedT:=⟨T4 w.params,97,{},⟨[]⟩,{},297,os⟩
def S5(w:World)(os:OsState):SharedT:=⟨T5 w.params,186,{},⟨[]⟩,{},399,os⟩
def S6(w:World)(os:OsState):SharedT:=⟨T6 w.params,258,{},⟨[]⟩,{},490,os⟩
def S7(w:World)(os:OsState):SharedT:=⟨T7 w.params,343,{},⟨[]⟩,{},598,os⟩
def S8(w:World)(os:OsState):SharedT:=⟨T8 w.params,415,{},⟨[]⟩,{},700,os⟩
def S9(w:World)(os:OsState):SharedT:=⟨T9 w.params,494,{},⟨[]⟩,{},812,os⟩
def S10(w:World)(os:OsState):SharedT:=⟨T10 w.params,499,{},⟨[]⟩,{},818,os⟩
def S(w:World)(os:OsState):Shared:=⟨H1 w.params,⟨[]⟩,{},818,os⟩
def E:Env:={ scope:=p.main.scope,locals:=mainNs,globals:=mainNs,cells:=[],code:=(r 13),frame:=some 14 }
abbrev C:Code:=.body (behindTheImports p) E
abbrev B:List Frame:=[topFrame ⟨0,0,0,0⟩]
def l1:List Stmt:=((behindTheImports p).drop 0).take 2
def l2:List Stmt:=((behindTheImports p).drop 2).take 1
def l3:List Stmt:=((behindTheImports p).drop 3).take 1
def l4:List Stmt:=((behindTheImports p).drop 4).take 8
def l5:List Stmt:=((behindTheImports p).drop 12).take 14
def l6:List Stmt:=((behindTheImports p).drop 26).take 16
def l7:List Stmt:=((behindTheImports p).drop 42).take 14
def l8:List Stmt:=((behindTheImports p).drop 56).take 17
def l9:List Stmt:=((behindTheImports p).drop 73).take 13
def l10:List Stmt:=((behindTheImports p).drop 86).take 1
theorem pre(w:World)(os:OsState):topGo treeTable p w 11 (some (r 6)) 12 ⟨boot_heap w.params,Array.mk [],boot_drawn,boot_toks,os⟩ (topStub p)=some (⟨Ha w.params,⟨[]⟩,{},187,os⟩,⟨denote treeTable C,C,⟨0,0,0,0⟩,B⟩):=goT (by kernel_rfl)
theorem blk(w:World)(os:OsState):segRun treeTable p w 11 (some (r 6)) 1 1 ⟨Ha w.params,⟨[]⟩,{},187,os⟩ (blockOf (behindTheImports p) E C ⟨0,0,0,0⟩ B)=some (.next,(S0 w os).abs,C,⟨0,0,0,0⟩):=W9 (by kernel_rfl)
theorem p1(w:World)(os:OsState):segRun treeTable p w 11 (some (r 6)) 1 196 (S0 w os).abs (piecesOf l1 E C ⟨0,0,0,0⟩ B)=some (.next,(S1 w os).abs,C,⟨2,0,3,8⟩):=segRun_of (xK (by kernel_rfl))
theorem p2(w:World)(os:OsState):segRun treeTable p w 11 (some (r 6)) 1 214 (S1 w os).abs (piecesOf l2 E C ⟨2,0,3,8⟩ B)=some (.next,(S2 w os).abs,C,⟨4,0,5,8⟩):=segRun_of (xK (by kernel_rfl))
theorem p3(w:World)(os:OsState):segRun treeTable p w 11 (some (r 6)) 1 214 (S2 w os).abs (piecesOf l3 E C ⟨4,0,5,8⟩ B)=some (.next,(S3 w os).abs,C,⟨6,0,7,8⟩):=segRun_of (xK (by kernel_rfl))
theorem p4(w:World)(os:OsState):segRun treeTable p w 11 (some (r 6)) 1 378 (S3 w os).abs (piecesOf l4 E C ⟨6,0,7,8⟩ B)=some (.next,(S4 w os).abs,C,⟨22,0,26,15⟩):=segRun_of (xK (by kernel_rfl))
theorem p5(w:World)(os:OsState):segRun treeTable p w 11 (some (r 6)) 1 394 (S4 w os).abs (piecesOf l5 E C ⟨22,0,26,15⟩ B)=some (.next,(S5 w os).abs,C,⟨66,0,70,15⟩):=segRun_of (xK (by kernel_rfl))
theorem p6(w:World)(os:OsState):segRun treeTable p w 11 (some (r 6)) 1 388 (S5 w os).abs (piecesOf l6 E C ⟨66,0,70,15⟩ B)=some (.next,(S6 w os).abs,C,⟨109,0,112,76⟩):=segRun_of (xK (by kernel_rfl))
theorem p7(w:World)(os:OsState):segRun treeTable p w 11 (some (r 6)) 1 396 (S6 w os).abs (piecesOf l7 E C ⟨109,0,112,76⟩ B)=some (.next,(S7 w os).abs,C,⟨158,0,159,40⟩):=segRun_of (xK (by kernel_rfl))
theorem p8(w:World)(os:OsState):segRun treeTable p w 11 (some (r 6)) 1 390 (S7 w os).abs (piecesOf l8 E C ⟨158,0,159,40⟩ B)=some (.next,(S8 w os).abs,C,⟨216,0,217,62⟩):=segRun_of (xK (by kernel_rfl))
theorem p9(w:World)(os:OsState):segRun treeTable p w 11 (some (r 6)) 1 387 (S8 w os).abs (piecesOf l9 E C ⟨216,0,217,62⟩ B)=some (.next,(S9 w os).abs,C,⟨305,0,308,19⟩):=segRun_of (xK (by kernel_rfl))
theorem p10(w:World)(os:OsState):segRun treeTable p w 11 (some (r 6)) 1 27 (S9 w os).abs (piecesOf l10 E C ⟨305,0,308,19⟩ B)=some (.next,(S10 w os).abs,C,⟨309,0,332,15⟩):=segRun_of (xK (by kernel_rfl))
theorem fin(w:World)(os:OsState):topRun treeTable p w 11 (some (r 6)) 2 (S10 w os).abs ⟨doneF .next,C,⟨309,0,332,15⟩,B⟩=some (S w os):=WX (by kernel_rfl)
abbrev M:Nat:=(12+(1+(196+(214+(214+(378+(394+(388+(396+(390+(387+(27+2))))))))))))
theorem lst:behindTheImports p=(l1++(l2++(l3++(l4++(l5++(l6++(l7++(l8++(l9++(l10++[])))))))))):=by kernel_rfl
theorem r10(w:World)(os:OsState):topRun treeTable p w 11 (some (r 6)) 2 (S10 w os).abs (restOf [] E C ⟨309,0,332,15⟩ B)=some (S w os):=fin w os
theorem r9(w:World)(os:OsState):topRun treeTable p w 11 (some (r 6)) (27+2) (S9 w os).abs (restOf (l10++[]) E C ⟨305,0,308,19⟩ B)=some (S w os):=piece_app (p10 w os) (r10 w os)
theorem r8(w:World)(os:OsState):topRun treeTable p w 11 (some (r 6)) (387+(27+2)) (S8 w os).abs (restOf (l9++(l10++[])) E C ⟨216,0,217,62⟩ B)=some (S w os):=piece_app (p9 w os) (r9 w os)
theorem r7(w:World)(os:OsState):topRun treeTable p w 11 (some (r 6)) (390+(387+(27+2))) (S7 w os).abs (restOf (l8++(l9++(l10++[]))) E C ⟨158,0,159,40⟩ B)=some (S w os):=piece_app (p8 w os) (r8 w os)
theorem r6(w:World)(os:OsState):topRun treeTable p w 11 (some (r 6)) (396+(390+(387+(27+2)))) (S6 w os).abs (restOf (l7++(l8++(l9++(l10++[])))) E C ⟨109,0,112,76⟩ B)=some (S w os):=piece_app (p7 w os) (r7 w os)
theorem r5(w:World)(os:OsState):topRun treeTable p w 11 (some (r 6)) (388+(396+(390+(387+(27+2))))) (S5 w os).abs (restOf (l6++(l7++(l8++(l9++(l10++[]))))) E C ⟨66,0,70,15⟩ B)=some (S w os):=piece_app (p6 w os) (r6 w os)
theorem r4(w:World)(os:OsState):topRun treeTable p w 11 (some (r 6)) (394+(388+(396+(390+(387+(27+2)))))) (S4 w os).abs (restOf (l5++(l6++(l7++(l8++(l9++(l10++[])))))) E C ⟨22,0,26,15⟩ B)=some (S w os):=piece_app (p5 w os) (r5 w os)
theorem r3(w:World)(os:OsState):topRun treeTable p w 11 (some (r 6)) (378+(394+(388+(396+(390+(387+(27+2))))))) (S3 w os).abs (restOf (l4++(l5++(l6++(l7++(l8++(l9++(l10++[]))))))) E C ⟨6,0,7,8⟩ B)=some (S w os):=piece_app (p4 w os) (r4 w os)
theorem r2(w:World)(os:OsState):topRun treeTable p w 11 (some (r 6)) (214+(378+(394+(388+(396+(390+(387+(27+2)))))))) (S2 w os).abs (restOf (l3++(l4++(l5++(l6++(l7++(l8++(l9++(l10++[])))))))) E C ⟨4,0,5,8⟩ B)=some (S w os):=piece_app (p3 w os) (r3 w os)
theorem r1(w:World)(os:OsState):topRun treeTable p w 11 (some (r 6)) (214+(214+(378+(394+(388+(396+(390+(387+(27+2))))))))) (S1 w os).abs (restOf (l2++(l3++(l4++(l5++(l6++(l7++(l8++(l9++(l10++[]))))))))) E C ⟨2,0,3,8⟩ B)=some (S w os):=piece_app (p2 w os) (r2 w os)
theorem r0(w:World)(os:OsState):topRun treeTable p w 11 (some (r 6)) (196+(214+(214+(378+(394+(388+(396+(390+(387+(27+2)))))))))) (S0 w os).abs (restOf (l1++(l2++(l3++(l4++(l5++(l6++(l7++(l8++(l9++(l10++[])))))))))) E C ⟨0,0,0,0⟩ B)=some (S w os):=piece_app (p1 w os) (r1 w os)
theorem run(w:World)(os:OsState):topRun treeTable p w 11 (some (r 6)) M ⟨boot_heap w.params,Array.mk [],boot_drawn,boot_toks,os⟩ (topStub p)=some (S w os):=go_top (pre w os) (piece_block (blk w os) (Lz lst (r0 w os)))
def K(P:Params):Frag:=[(2,boot_o_2 P),(3,DY P),(15,o15),(22,y),(23,o23 P),(24,Ea),(25,o25),(28,o28),(35,y),(36,o36 P),(37,o37),(40,o40),(47,y),(48,o48 P),(49,o49),(52,o52),(59,y),(60,o60 P),(61,o61),(64,y),(66,o66),(67,y),(69,o69),(70,o70),(71,y),(73,o73),(74,y),(76,o76),(77,o77),(78,y),(80,o80),(81,y),(83,o83),(84,o84),(85,y),(88,o88),(89,o89),(90,y),(92,o92),(93,y),(95,o95),(96,o96),(97,y),(100,o100),(101,Ry),(102,y),(104,Rx),(105,y),(107,Rw),(108,Rv),(109,y),(111,o111),(112,y),(114,Ru),(115,Rt),(116,y),(118,Rr),(119,y),(121,Rq),(122,Rp),(123,y),(125,Ro),(126,y),(128,Rn),(129,Rm),(130,y),(132,Q9),(133,y),(135,Q8),(136,Q7),(137,y),(139,Q6),(140,y),(142,Q5),(143,Q0),(144,y),(146,QZ),(147,y),(149,QX),(150,QW),(151,y),(153,QV),(154,y),(156,QT),(157,QS),(158,y),(160,QM),(161,y),(163,QL),(164,QK),(165,y),(167,QJ),(168,y),(170,QH),(171,QG),(172,y),(174,QF),(175,y),(177,QD),(178,QC),(179,y),(181,QB),(182,y),(184,Qz),(185,Qy),(186,y),(188,Qx),(189,y),(191,Qw),(192,Qv),(193,y),(196,Qu),(197,Qt),(198,y),(201,Qs),(202,Qq),(203,y),(206,Qp),(207,Qo),(208,y),(211,Qn),(212,Qm),(213,y),(216,Ql),(217,Qk),(218,y),(221,Qj),(222,Qi),(223,y),(226,Qh),(227,Qg),(228,y),(231,Qf),(232,Qe),(233,y),(236,Qd),(237,Qc),(238,y),(241,Qa),(242,P0),(243,y),(246,PX),(247,PN),(248,y),(251,PJ),(252,PB),(253,y),(256,Pz),(257,Py),(258,y),(260,Px),(261,y),(263,Pu),(264,Pr),(265,y),(267,Pq),(268,y),(270,Pn),(271,Pk),(272,y),(275,Pj),(276,Ph),(277,y),(280,Pb),(281,Pa),(282,y),(284,O9),(285,y),(287,O8),(288,O7),(289,y),(291,O6),(292,y),(294,O5),(295,O4),(296,y),(298,O2),(299,y),(301,O1),(302,OJ),(303,y),(305,OD),(306,y),(308,Oz),(309,Ox),(310,y),(312,Ow),(313,y),(315,Ov),(316,Ou),(317,y),(319,Ot),(320,y),(322,Oq),(323,Oo),(324,y),(326,Om),(327,y),(329,Ol),(330,Oj),(331,y),(334,Oi),(335,Oh),(336,y),(338,Og),(339,y),(341,Oe),(342,Od),(343,y),(345,Oc),(346,y),(348,Ob),(349,Oa),(350,y),(352,N8),(353,y),(355,N7),(356,N6),(357,y),(360,N5),(361,NZ),(362,y),(365,NT),(366,NQ),(367,y),(370,NP),(371,NK),(372,y),(375,Nz),(376,Ny),(377,y),(380,Nx),(381,Nv),(382,y),(384,Nu),(385,y),(387,Nt),(388,Nr),(389,y),(391,Nq),(392,y),(394,Np),(395,Nm),(396,y),(398,Nk),(399,y),(401,Nj),(402,Ni),(444,y),(446,Nh),(447,y),(449,Ng),(450,Nf),(451,y),(453,Nb),(454,y),(456,M9),(457,M8),(458,y),(460,M7),(461,y),(463,M6),(464,M5),(482,y),(485,M4),(486,MP),(487,y),(489,MN),(490,y),(492,MK),(493,MJ),(494,y),(497,MF),(498,Mz)]
abbrev as:List Addr:=[2,3,15,22,23,24,25,28,35,36,37,40,47,48,49,52,59,60,61,64,66,67,69,70,71,73,74,76,77,78,80,81,83,84,85,88,89,90,92,93,95,96,97,100,101,102,104,105,107,108,109,111,112,114,115,116,118,119,121,122,123,125,126,128,129,130,132,133,135,136,137,139,140,142,143,144,146,147,149,150,151,153,154,156,157,158,160,161,163,164,165,167,168,170,171,172,174,175,177,178,179,181,182,184,185,186,188,189,191,192,193,196,197,198,201,202,203,206,207,208,211,212,213,216,217,218,221,222,223,226,227,228,231,232,233,236,237,238,241,242,243,246,247,248,251,252,253,256,257,258,260,261,263,264,265,267,268,270,271,272,275,276,277,280,281,282,284,285,287,288,289,291,292,294,295,296,298,299,301,302,303,305,306,308,309,310,312,313,315,316,317,319,320,322,323,324,326,327,329,330,331,334,335,336,338,339,341,342,343,345,346,348,349,350,352,353,355,356,357,360,361,362,365,366,367,370,371,372,375,376,377,380,381,382,384,385,387,388,389,391,392,394,395,396,398,399,401,402,444,446,447,449,450,451,453,454,456,457,458,460,461,463,464,482,485,486,487,489,490,492,493,494,497,498]
abbrev m0:Nat:=11
abbrev tk:Nat:=818
abbrev ann:Option Value:=(some (r 6))
def Xt(s:Shared):Bool:=xlAt q [] s&&recOk PySem.Challenge.rw_minortables_k31_whole_steps_good.row.toRowW.records s
theorem lk0(w:World)(os:OsState):(staticsOk (importedModules p.main.body) (boot_heap w.params) (H1 w.params)&&namesBound p (H1 w.params)&&gensDone (S w os)&&laidKept (boot_heap w.params) (H1 w.params))=true:=by
 rw[Fast.te5923862056798008813];kernel_rfl
theorem lk1(w:World)(os:OsState):PyProof.Rows.seen ((PyProof.Rows.recsOf q).map (·.name)) (PyProof.Rows.ownsOf q) [] { S w os with gens := #[] }=PyProof.Rows.expectedOf q:=by
 rw[Fast.te5160383126252970620,Fast.te3399658132070893891,Fast.te5991557255702980513];kernel_rfl
theorem lk2(w:World)(os:OsState):(S w os).heap.bltView=bltViewBooted:=by kernel_rfl
theorem lk3(w:World)(os:OsState):((S w os).heap.keysOk (looseW q []) ((PyProof.Rows.recsOf q).map (·.name)) ((PyProof.Rows.litsOf q).map (·.1)) ((PyProof.Rows.clssOf q (looseW q [])).map (·.name))&&(S w os).heap.accountedOkI (importedModules p.main.body)&&(S w os).heap.isNs mainGlobals&&(S w os).heap.isNs builtinsNs&&PyProof.Rows.tablesOk q (S w os).heap&&Xt (S w os)&&(if true then(S w os).gens.size==0 else !leftWithCleanup (S w os).gens))=true:=by
 rw[Fast.te10880121769531294198,Fast.te821141287760084731,Fast.te3399658132070893891,Fast.te7409074990110511671,Fast.te13664370479719496447,Fast.te14722251495701143533,Fast.te5923862056798008813];kernel_rfl
theorem lk4(w:World)(os:OsState):PyProof.Rows.tabsOk q (S w os)=true:=by rw[Fast.te479339242167458305];kernel_rfl
theorem lk5(w:World)(os:OsState):pinSeenD q (PyProof.Rows.drecsOf q) (S w os)=pinGoodD (PyProof.Rows.drecsOf q):=by rw[Fast.te16090120013241838585,Fast.te3247288618530077131];kernel_rfl
theorem lk6(w:World)(os:OsState):PyProof.Rows.plainSeenE q (looseW q []) (S w os)=PyProof.Rows.plainGoodE q (looseW q []):=by rw[Fast.te2386780881361962483,Fast.te821141287760084731];kernel_rfl
theorem lk7(w:World)(os:OsState):PyProof.Rows.plainSeenD q [] (S w os)=PyProof.Rows.plainGoodD q []:=by rw[Fast.te11698064438423848299];kernel_rfl
theorem lk8(w:World)(os:OsState):wideSeen q (S w os)=wideGood q:=by rw[Fast.te7317090234206586261];kernel_rfl
theorem lk9(w:World)(os:OsState):clsSeenW q [] (S w os)=clsGoodW q []:=by rw[Fast.te7369524293546568484];kernel_rfl
theorem asK(P:Params):as=(K P).map (·.1):=by kernel_rfl
abbrev H:Hook:=kHook K as asK
theorem lkY(w:World)(os:OsState):H.obs (S w os)=H.val w:=by kernel_rfl
theorem looks(w:World):(fun os=>((staticsOk (importedModules p.main.body) (boot_heap w.params) (H1 w.params)&&namesBound p (H1 w.params)&&gensDone (S w os)&&laidKept (boot_heap w.params) (H1 w.params)),openSeen q [] (importedModules p.main.body) Xt true (S w os),H.obs (S w os)))=fun _=>(true,openGood q [],H.val w) :=
 funext fun os=>looks_pair (lk0 w os) (looks_pair (looks_pair (lk1 w os) (looks_pair (lk2 w os) (looks_pair (lk3 w os) (looks_pair (lk4 w os) (looks_pair (lk5 w os) (looks_pair (lk6 w os) (looks_pair (lk7 w os) (looks_pair (lk8 w os) (lk9 w os))))))))) (lkY w os))
theorem size(w:World):((boot_heap w.params).isNs mainGlobals&&(Array.mk ([]:List GenState)).size==0,(boot_heap w.params).objs.size,(boot_heap w.params).nsMap mainGlobals "__annotations__")=(true,m0,ann):=by
 rw[Fast.te8920871248978507458];kernel_rfl
theorem bt(w:World):(fencedOpening treeTable p w N).map (fun s=>(s.heap,s.gens,s.drawn,s.toks))=some (boot_heap w.params,Array.mk [],boot_drawn,boot_toks) :=
 boot_open (p:=p) (N:=N) (by kernel_rfl) (by kernel_rfl) (fun _=>rfl) w
theorem left:LeftO p q [] Xt H.obs H.val N :=
 LeftO.of_pieces (H₀:=boot_heap) (H₁:=H1) (m₀:=m0) (ann:=ann) (M:=M) (gs₀:=Array.mk []) (gs₁:=⟨[]⟩) (d₀:=boot_drawn) (d₁:={}) (k₀:=boot_toks) (k₁:=tk) bt size run (by kernel_rfl) looks
abbrev R:OpenLaw:=PySem.Challenge.rw_minortables_k31_whole_steps_good
theorem said:R.wellSaid=true:=by rw[Fast.te9446332074065402090];kernel_rfl
def dr:DefRec:=match d 86 with | .FunctionDef n a l _ _ _ sc _ _ o=>⟨n,a,l,sc,o⟩ | _=>⟨"",default,[],default,⟨0,0,0,0⟩⟩
theorem hdef:defOf q R.row.name=some (dr,[]):=by kernel_rfl
theorem hthe:R.row.prog.theDef R.row.name=some (dr.params,dr.body,dr.scope):=by kernel_rfl
theorem hkw:kwWritten? dr.params.kwonlyargs dr.params.kw_defaults=some []:=by kernel_rfl
theorem hok:(chainsOk q&&opensWell R.row.prog&&(frees R.row.toRowW&&R.row.within.isEmpty))=true:=by kernel_rfl
theorem hbare:R.row.prog.bare:=⟨rfl,rfl,rfl,rfl,rfl,by kernel_rfl⟩
theorem XD:R.row.toRowW.promised:=⟨[.list []],by kernel_rfl,by kernel_rfl⟩
theorem holds(call:WalkO q [] (XL q []) H.says R.row.toRowW dr [] fun f vs=>PySem.call f vs):R.Holds :=
 holds_law said fun k1=>holds_open (r:=R.row) (q:=q) (loose:=[]) (Xt:=Xt) (XP:=XL q []) (Yf:=H.obs) (Ya:=H.val) (YP:=H.says) (N:=N) left H.of H.keeps (fun s e=>xl_of s (Bool.and_eq_true_iff.mp e).1) XL.keeps hdef hthe hkw (fun s e=>recFacts_of (Bool.and_eq_true_iff.mp e).2) rfl k1 hok hbare XD call
end H31
end
namespace M31
open PySem PySem.W L2 DE
set_option maxHeartbeats 0 in
theorem txt(w:World){mg:Str->Option Value}{h:Heap}(X:(H31.K w.params).In h)(G:h.Ns mainGlobals mg):Text (H31.K w.params) mg T :=
  ⟨in_of (l:=cs) (Q:=fun(x:Str) (d:D)=>∃ v u,(∀ H',Rep (H31.K w.params) H' d v)/\mg x=some u/\RelV v u) (aC (cA X G 257 (by kernel_rfl)) (aC (cS X G 600 (by kernel_rfl)) (aC (cS X G 602 (by kernel_rfl)) (aC (cS X G 604 (by kernel_rfl)) (aN))))),
    in_of (l:=bl) (Q:=fun x b=>mg x=none/\x=Str.ofString b) (aC (bA X G (by kernel_rfl) rfl) (aC (bA X G (by kernel_rfl) rfl) (aC (bA X G (by kernel_rfl) rfl) (aC (bA X G (by kernel_rfl) rfl) (aC (bA X G (by kernel_rfl) rfl) (aC (bA X G (by kernel_rfl) rfl) (aC (bA X G (by kernel_rfl) rfl) (aC (bA X G (by kernel_rfl) rfl) (aC (bA X G (by kernel_rfl) rfl) (aC (bA X G (by kernel_rfl) rfl) (aC (bA X G (by kernel_rfl) rfl) (aC (bA X G (by kernel_rfl) rfl) (aC (bA X G (by kernel_rfl) rfl) (aC (bA X G (by kernel_rfl) rfl) (aN))))))))))))))),
    in_of (l:=df) (Q:=fun x fd=>FunAt (H31.K w.params) mg x fd) (
     aC (aM X G 70 .none (.str "minortables.checks" 255) (.ref 69) b7 (by kernel_rfl) (by kernel_rfl) (by kernel_rfl)) (
     aC (aM X G 77 .none (.str "minortables.checks" 255) (.ref 76) b8 (by kernel_rfl) (by kernel_rfl) (by kernel_rfl)) (
     aC (aM X G 84 .none (.str "minortables.checks" 255) (.ref 83) b9 (by kernel_rfl) (by kernel_rfl) (by kernel_rfl)) (
     aC (aM X G 89 .none (.str "minortables.checks" 255) (.ref 88) b10 (by kernel_rfl) (by kernel_rfl) (by kernel_rfl)) (
     aC (aM X G 96 .none (.str "minortables.checks" 255) (.ref 95) b11 (by kernel_rfl) (by kernel_rfl) (by kernel_rfl)) (
     aC (aM X G 101 .none (.str "minortables.checks" 255) (.ref 100) b12 (by kernel_rfl) (by kernel_rfl) (by kernel_rfl)) (
     aC (aM X G 108 .none (.str "minortables.checks" 255) (.ref 107) b13 (by kernel_rfl) (by kernel_rfl) (by kernel_rfl)) (
     aC (aM X G 115 .none (.str "minortables.checks" 255) (.ref 114) b14 (by kernel_rfl) (by kernel_rfl) (by kernel_rfl)) (
     aC (aM X G 122 .none (.str "minortables.checks" 255) (.ref 121) b15 (by kernel_rfl) (by kernel_rfl) (by kernel_rfl)) (
     aC (aM X G 129 .none (.str "minortables.checks" 255) (.ref 128) b16 (by kernel_rfl) (by kernel_rfl) (by kernel_rfl)) (
     aC (aM X G 136 .none (.str "minortables.checks" 255) (.ref 135) b17 (by kernel_rfl) (by kernel_rfl) (by kernel_rfl)) (
     aC (aM X G 143 .none (.str "minortables.fractions" 340) (.ref 142) b19 (by kernel_rfl) (by kernel_rfl) (by kernel_rfl)) (
     aC (aM X G 150 .none (.str "minortables.fractions" 340) (.ref 149) b20 (by kernel_rfl) (by kernel_rfl) (by kernel_rfl)) (
     aC (aM X G 157 .none (.str "minortables.fractions" 340) (.ref 156) b21 (by kernel_rfl) (by kernel_rfl) (by kernel_rfl)) (
     aC (aM X G 164 .none (.str "minortables.fractions" 340) (.ref 163) b22 (by kernel_rfl) (by kernel_rfl) (by kernel_rfl)) (
     aC (aM X G 171 .none (.str "minortables.fractions" 340) (.ref 170) b23 (by kernel_rfl) (by kernel_rfl) (by kernel_rfl)) (
     aC (aM X G 178 .none (.str "minortables.fractions" 340) (.ref 177) b24 (by kernel_rfl) (by kernel_rfl) (by kernel_rfl)) (
     aC (aM X G 185 .none (.str "minortables.fractions" 340) (.ref 184) b25 (by kernel_rfl) (by kernel_rfl) (by kernel_rfl)) (
     aC (aM X G 192 .none (.str "minortables.fractions" 340) (.ref 191) b26 (by kernel_rfl) (by kernel_rfl) (by kernel_rfl)) (
     aC (aM X G 197 .none (.str "minortables.fractions" 340) (.ref 196) b27 (by kernel_rfl) (by kernel_rfl) (by kernel_rfl)) (
     aC (aM X G 202 .none (.str "minortables.fractions" 340) (.ref 201) b28 (by kernel_rfl) (by kernel_rfl) (by kernel_rfl)) (
     aC (aM X G 207 .none (.str "minortables.fractions" 340) (.ref 206) b29 (by kernel_rfl) (by kernel_rfl) (by kernel_rfl)) (
     aC (aM X G 212 .none (.str "minortables.fractions" 340) (.ref 211) b30 (by kernel_rfl) (by kernel_rfl) (by kernel_rfl)) (
     aC (aM X G 217 .none (.str "minortables.fractions" 340) (.ref 216) b31 (by kernel_rfl) (by kernel_rfl) (by kernel_rfl)) (
     aC (aM X G 222 .none (.str "minortables.tables" 438) (.ref 221) b33 (by kernel_rfl) (by kernel_rfl) (by kernel_rfl)) (
     aC (aM X G 227 .none (.str "minortables.tables" 438) (.ref 226) b34 (by kernel_rfl) (by kernel_rfl) (by kernel_rfl)) (
     aC (aM X G 232 .none (.str "minortables.tables" 438) (.ref 231) b35 (by kernel_rfl) (by kernel_rfl) (by kernel_rfl)) (
     aC (aM X G 237 .none (.str "minortables.tables" 438) (.ref 236) b36 (by kernel_rfl) (by kernel_rfl) (by kernel_rfl)) (
     aC (aM X G 242 .none (.str "minortables.tables" 438) (.ref 241) b37 (by kernel_rfl) (by kernel_rfl) (by kernel_rfl)) (
     aC (aM X G 247 .none (.str "minortables.tables" 438) (.ref 246) b38 (by kernel_rfl) (by kernel_rfl) (by kernel_rfl)) (
     aC (aM X G 252 .none (.str "minortables.minors" 476) (.ref 251) b40 (by kernel_rfl) (by kernel_rfl) (by kernel_rfl)) (
     aC (aM X G 257 .none (.str "minortables.minors" 476) (.ref 256) b41 (by kernel_rfl) (by kernel_rfl) (by kernel_rfl)) (
     aC (aM X G 264 .none (.str "minortables.minors" 476) (.ref 263) b42 (by kernel_rfl) (by kernel_rfl) (by kernel_rfl)) (
     aC (aM X G 271 .none (.str "minortables.minors" 476) (.ref 270) b43 (by kernel_rfl) (by kernel_rfl) (by kernel_rfl)) (
     aC (aM X G 276 .none (.str "minortables.minors" 476) (.ref 275) b44 (by kernel_rfl) (by kernel_rfl) (by kernel_rfl)) (
     aC (aM X G 281 .none (.str "minortables.minors" 476) (.ref 280) b45 (by kernel_rfl) (by kernel_rfl) (by kernel_rfl)) (
     aC (aM X G 288 .none (.str "minortables.minors" 476) (.ref 287) b46 (by kernel_rfl) (by kernel_rfl) (by kernel_rfl)) (
     aC (aM X G 295 .none (.str "minortables.minors" 476) (.ref 294) b47 (by kernel_rfl) (by kernel_rfl) (by kernel_rfl)) (
     aC (aM X G 302 .none (.str "minortables.minors" 476) (.ref 301) b48 (by kernel_rfl) (by kernel_rfl) (by kernel_rfl)) (
     aC (aM X G 309 .none (.str "minortables.minors" 476) (.ref 308) b49 (by kernel_rfl) (by kernel_rfl) (by kernel_rfl)) (
     aC (aM X G 316 .none (.str "minortables.minors" 476) (.ref 315) b50 (by kernel_rfl) (by kernel_rfl) (by kernel_rfl)) (
     aC (aM X G 323 .none (.str "minortables.minors" 476) (.ref 322) b51 (by kernel_rfl) (by kernel_rfl) (by kernel_rfl)) (
     aC (aM X G 330 .none (.str "minortables.minors" 476) (.ref 329) b52 (by kernel_rfl) (by kernel_rfl) (by kernel_rfl)) (
     aC (aM X G 335 .none (.str "minortables.good" 583) (.ref 334) b54 (by kernel_rfl) (by kernel_rfl) (by kernel_rfl)) (
     aC (aM X G 342 .none (.str "minortables.good" 583) (.ref 341) b55 (by kernel_rfl) (by kernel_rfl) (by kernel_rfl)) (
     aC (aM X G 349 .none (.str "minortables.steps" 598) (.ref 348) b60 (by kernel_rfl) (by kernel_rfl) (by kernel_rfl)) (
     aC (aM X G 356 .none (.str "minortables.steps" 598) (.ref 355) b61 (by kernel_rfl) (by kernel_rfl) (by kernel_rfl)) (
     aC (aM X G 361 .none (.str "minortables.steps" 598) (.ref 360) b62 (by kernel_rfl) (by kernel_rfl) (by kernel_rfl)) (
     aC (aM X G 366 .none (.str "minortables.steps" 598) (.ref 365) b63 (by kernel_rfl) (by kernel_rfl) (by kernel_rfl)) (
     aC (aM X G 371 .none (.str "minortables.steps" 598) (.ref 370) b64 (by kernel_rfl) (by kernel_rfl) (by kernel_rfl)) (
     aC (aM X G 376 .none (.str "minortables.steps" 598) (.ref 375) b65 (by kernel_rfl) (by kernel_rfl) (by kernel_rfl)) (
     aC (aM X G 381 .none (.str "minortables.steps" 598) (.ref 380) b66 (by kernel_rfl) (by kernel_rfl) (by kernel_rfl)) (
     aC (aM X G 388 .none (.str "minortables.steps" 598) (.ref 387) b67 (by kernel_rfl) (by kernel_rfl) (by kernel_rfl)) (
     aC (aM X G 395 .none (.str "law_minortables_k31_whole_steps_good" 666) (.ref 394) b69 (by kernel_rfl) (by kernel_rfl) (by kernel_rfl)) (
     aC (aM X G 402 .none (.str "law_minortables_k31_whole_steps_good" 666) (.ref 401) b70 (by kernel_rfl) (by kernel_rfl) (by kernel_rfl)) (
     aC (aM X G 450 .none (.str "law_minortables_k31_whole_steps_good" 666) (.ref 449) b78 (by kernel_rfl) (by kernel_rfl) (by kernel_rfl)) (
     aC (aM X G 457 .none (.str "law_minortables_k31_whole_steps_good" 666) (.ref 456) b79 (by kernel_rfl) (by kernel_rfl) (by kernel_rfl)) (
     aC (aM X G 464 .none (.str "law_minortables_k31_whole_steps_good" 666) (.ref 463) b80 (by kernel_rfl) (by kernel_rfl) (by kernel_rfl)) (
     aC (aM X G 486 .none (.str "law_minortables_k31_whole_steps_good" 666) (.ref 485) b84 (by kernel_rfl) (by kernel_rfl) (by kernel_rfl)) (
     aC (aM X G 493 .none (.str "law_minortables_k31_whole_steps_good" 666) (.ref 492) b85 (by kernel_rfl) (by kernel_rfl) (by kernel_rfl)) (
     aC (aM X G 498 .none (.str "law_minortables_k31_whole_steps_good" 666) (.ref 497) b86 (by kernel_rfl) (by kernel_rfl) (by kernel_rfl)) (
     aN)))))))))))))))))))))))))))))))))))))))))))))))))))))))))))))),XText.of (fun x v h=>PySem.W.mg_of X G h) (by kernel_rfl)⟩
end M31
open PySem PySem.W PyProof.Rows
set_option maxRecDepth 100000 in
set_option maxHeartbeats 0 in
theorem PySem.Challenge.cw_minortables_k31_whole_steps_good_holds : PySem.Challenge.rw_minortables_k31_whole_steps_good.Holds :=
 H31.holds (M31.walk (l := PySem.Challenge.rw_minortables_k31_whole_steps_good) (K := H31.K) rfl (by kernel_rfl) (fun w h Y => PySem.W.kIn_of (e := H31.asK) Y) fun w mg fa h KX G hmg => M31.fin M31.law_true (M31.txt w KX G) KX G hmg 498 .none (.str "law_minortables_k31_whole_steps_good" 666) (.ref 497) (by kernel_rfl) (by kernel_rfl) (by kernel_rfl) (by kernel_rfl))
#print axioms PySem.Challenge.cw_minortables_k31_whole_steps_good_holds
