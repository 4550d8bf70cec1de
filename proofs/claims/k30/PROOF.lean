import PyProof.Rows.All
import Wide.All
import OpenK.AllK
import Wide.FinOn
import Lean
import PyProof.EqAt
import PyProof.EqKinds
import PyProof.TupleCall
import PyProof.ListRange
import PySem.Names
import PyProof.NeKinds
import PySem.Challenge.RW_minortables_k30_whole_steps
set_option Elab.async false
set_option linter.all false
set_option maxRecDepth 100000
namespace L2
open PySem PySem.Spec PyProof.Rows
abbrev Key:=Sum Int Str
def sU:Key->Value->Bool
 | .inl k,v=>Value.isInt k v
 | .inr x,v=>Value.isStrOf x v
def Ww(w:World):Key->Int
 | .inl k=>hashInt k
 | .inr x=>hashStr w x
theorem bO:∀ {k:Key} {v:Value},sU k v=true->(∃ i t,k=Sum.inl i/\v=Value.int i t)\/(∃ x t,k=Sum.inr x/\v=Value.str x t)
  | .inl i, v, h => by
    obtain⟨t,e⟩:=Value.isInt_shape (k:=i) (v:=v) h
    exact .inl ⟨i,t,rfl,e⟩
  | .inr x, v, h => by
    obtain⟨t,e⟩:=Value.isStrOf_shape (x:=x) (v:=v) h
    exact .inr ⟨x,t,rfl,e⟩
theorem vB(i:Int)(t:Tok):sU (.inl i) (.int i t)=true:=by simp[sU,Value.isInt]
theorem vA(x:Str)(t:Tok):sU (.inr x) (.str x t)=true:=by simp[sU,Value.isStrOf]
theorem Jh(a b:Int):decide ((Sum.inl a:Key)=Sum.inl b)=(a==b):=by
 by_cases e:a=b
 ·subst e;simp
 ·have h:¬ (Sum.inl a:Key)=Sum.inl b:=fun q=>e (Sum.inl.inj q)
  rw[decide_eq_false h]
  exact(beq_eq_false_iff_ne.mpr e).symm
theorem Je(a b:Str):decide ((Sum.inr a:Key)=Sum.inr b)=decide (a=b):=by
 by_cases e:a=b
 ·subst e;simp
 ·have h:¬ (Sum.inr a:Key)=Sum.inr b:=fun q=>e (Sum.inr.inj q)
  rw[decide_eq_false h,decide_eq_false e]
theorem Jg(a:Int)(b:Str):decide ((Sum.inl a:Key)=Sum.inr b)=false:=decide_eq_false (fun q=>nomatch q)
theorem Jf(a:Str)(b:Int):decide ((Sum.inr a:Key)=Sum.inl b)=false:=decide_eq_false (fun q=>nomatch q)
def cB(prog:Program)(w:World):PySem.KeyKind prog w Key where
 is:=sU
 hash:=Ww w
 inj:=fun v a b ha hb=>by
  rcases bO ha with⟨i,t,rfl,rfl⟩ | ⟨x,t,rfl,rfl⟩
  ·rcases bO hb with⟨j,u,rfl,e⟩ | ⟨y,u,rfl,e⟩
   ·injection e with e1 _;rw[e1]
   ·exact nomatch e
  ·rcases bO hb with⟨j,u,rfl,e⟩ | ⟨y,u,rfl,e⟩
   ·exact nomatch e
   ·injection e with e1 _;rw[e1]
 byValue:=fun k v h=>by
  rcases bO h with⟨i,t,rfl,rfl⟩ | ⟨x,t,rfl,rfl⟩<;>rfl
 pyHash:=fun hv h=>by
  rcases bO hv with⟨i,t,rfl,rfl⟩ | ⟨x,t,rfl,rfl⟩
  ·exact wpAny_pyHash_int h
  ·exact wpAny_pyHash_str h
 eqBool:=fun hu hv h=>by
  rcases bO hu with⟨i,t,rfl,rfl⟩ | ⟨x,t,rfl,rfl⟩
  ·rcases bO hv with⟨j,u,rfl,rfl⟩ | ⟨y,u,rfl,rfl⟩
   ·rw[Jh] at h;exact wpAny_eqBool_int h
   ·rw[Jg] at h;exact SeqAt.EqAt.int_str i t y u _ _ _ _ h
  ·rcases bO hv with⟨j,u,rfl,rfl⟩ | ⟨y,u,rfl,rfl⟩
   ·rw[Jf] at h;exact SeqAt.EqAt.str_int x t j u _ _ _ _ h
   ·rw[Je] at h;exact wpAny_eqBool_str h
 «strs» :=fun k x t v h=>by
  rcases bO h with⟨i,u,rfl,e⟩ | ⟨y,u,rfl,e⟩
  ·exact nomatch e
  ·injection e with e1 _
   subst e1
   cases v<;>rfl
theorem pH(prog:Program)(w:World)(i:Int)(t:Tok):(cB prog w).is (.inl i) (.int i t)=true:=vB i t
theorem pG(prog:Program)(w:World)(x:Str)(t:Tok):(cB prog w).is (.inr x) (.str x t)=true:=vA x t
end L2
namespace L2
open PySem PySem.Spec PyProof.Rows
inductive V where
 | non | bl (b:Bool) | int (i:Int) | str (x:Str) | byt (b:Array UInt8) | flt (b:UInt64) | ref (a:Addr) | ty (n:String)
 deriving DecidableEq
def RelV:V->Value->Prop
 | .non,u=>u=Value.none
 | .bl b,u=>u=Value.bool b
 | .int i,u=>∃ t,u=Value.int i t
 | .str x,u=>∃ t,u=Value.str x t
 | .byt b,u=>∃ t,u=Value.bytes b t
 | .flt b,u=>∃ t,u=Value.float b t
 | .ref a,u=>u=Value.ref a
 | .ty n,u=>u=Value.type n
abbrev Vals:List V->List Value->Prop:=Paired RelV
theorem Vals.length{xs:List V}{us:List Value}(r:Vals xs us):xs.length=us.length:=Paired.length r
theorem Vals.get:∀ {xs:List V} {us:List Value} {i:Nat} {x:V},Vals xs us->xs[i]?=some x->∃ u,us[i]?=some u/\RelV x u
  | _,_,_,_,.nil,e=>by simp at e
  | _,_,0,_,.cons r _,e=>by simp at e;subst e;exact⟨_,rfl,r⟩
  | _, _, i + 1, x, .cons _ t, e => by
    obtain⟨u,h1,h2⟩:=Vals.get (i:=i) (x:=x) t (by simpa using e)
    exact⟨u,by simpa using h1,h2⟩
theorem Vals.set{x:V}{u:Value}(r:RelV x u):∀ {xs:List V} {us:List Value} (i:Nat),Vals xs us->Vals (xs.set i x) (us.set i u)
 | _,_,_,.nil=>.nil
 | _,_,0,.cons _ t=>.cons r t
 | _,_,i+1,.cons q t=>.cons q (Vals.set r i t)
theorem Vals.append:∀ {xs ys:List V} {us ws:List Value},Vals xs us->Vals ys ws->Vals (xs++ys) (us++ws)
 | _,_,_,_,.nil,s=>s
 | _,_,_,_,.cons r t,s=>.cons r (Vals.append t s)
theorem Vals.take:∀ {xs:List V} {us:List Value} (n:Nat),Vals xs us->Vals (xs.take n) (us.take n)
 | _,_,0,_=>.nil
 | _,_,_+1,.nil=>.nil
 | _,_,n+1,.cons r t=>.cons r (Vals.take n t)
theorem Vals.drop:∀ {xs:List V} {us:List Value} (n:Nat),Vals xs us->Vals (xs.drop n) (us.drop n)
 | _,_,0,r=>r
 | _,_,_+1,.nil=>.nil
 | _,_,n+1,.cons _ t=>Vals.drop n t
def Gn:Option V->Option Value->Prop
 | some v,some u=>RelV v u
 | none,none=>True
 | _,_=>False
def KV{κ:Type}:List (κ×V)->List (κ×Value)->Prop:=Paired fun(p:κ×V) (q:κ×Value)=>p.1=q.1/\RelV p.2 q.2
def kV:Key->V
 | .inl i=>.int i
 | .inr x=>.str x
inductive HO where
 | lst (xs:List V)
 | tup (xs:List V)
 | dK (kvs:List (Key×V)) | dT (kvs:List (List Key×V))
 | set (S:Int->Bool) (n:Nat)
 | ins (C dx:Addr) (fs:List (Str×V))
 | own (x:Addr)
 | xd (fs:List (Str×V))
 | met (f x:Addr)
 | rng (lo hi:Int)
 | frz (o:Obj) (u:HO)
 | tbl (ps:Array Value)
 | ext (φ:Heap->Prop)
abbrev Hp:=Addr->Option HO
def upd(H:Hp)(a:Addr)(o:HO):Hp:=fun b=>if b=a then some o else H b
theorem aW{H:Hp}{a:Addr}{o:HO}:upd H a o a=some o:=by unfold upd;rw[if_pos rfl]
theorem aO{H:Hp}{a b:Addr}{o:HO}(h:b≠a):upd H a o b=H b:=by unfold upd;rw[if_neg h]
theorem aF{H:Hp}{a b:Addr}{o:HO}(h:H a=some o)(h':H b=none):a≠b:=by
 intro e;subst e;rw[h] at h';cases h'
section
variable (P:Program) (w:World)
def dF(H:Hp)(h:Heap)(a:Addr):HO->Prop
 | .lst xs=>xs.length<=sizeLine/\∃ (its:List Value) (n:Nat),Vals xs its/\h.get? a=some { cls:=.type "list",data:=.seq its.toArray n }
 | .tup xs=>xs.length<=sizeLine/\∃ its:List Value,Vals xs its/\IsTup h a its.toArray
 | .dK kvs=>kvs.length<=sizeLine/\(a==sysModules)=false/\∃ vs,KV kvs vs/\h.DictOf (cB P w) a vs
 | .dT kvs => kvs.length <= sizeLine /\ (a == sysModules) = false /\ ∃ xs : List (List Key × Addr × Value),
   Paired (fun(p:List Key×V) (q:List Key×Addr×Value)=>p.1=q.1/\H q.2.1=some (.tup (p.1.map kV))/\RelV p.2 q.2.2) kvs xs /\
   ∃ o es ep,h.get? a=some o/\o.ExactDict/\o.data=.dict es ep/\es.toList=xs.map (entryOfKey (tupleKind (cB P w)))/\(xs.map (·.1)).Nodup
 | .set S n=>h.SetOf (intKind P w) a S n
 | .ins C dx fs => H dx = some (.own a) /\ fs.length <= 1000 /\ dx ≠ a /\ h.get? a = some (PySem.W.instObj C dx) /\
   ∃ mA,h.Ns1 dx mA/\(∀ f,Gn (fs.lookup f) (mA f))/\PySem.Within mA (fs.map (·.1))
 | .own _=>∃ o,h.get? a=some o
 | .xd fs=>∃ mA,h.Ns1 a mA/\∀ f,Gn (fs.lookup f) (mA f)
 | .rng lo hi=>∃ t u v,h.get? a=some { cls:=.type "range",data:=.fields #[.int lo t,.int hi u,.int 1 v] }
 | .frz o u=>h.get? a=some o/\dF H h a u
 | .tbl ps=>h.get? a=some { cls:=.none,data:=.fields ps }
 | .met f x=>h.get? a=some (PySem.W.methodObj (.ref f) (.ref x))
 | .ext φ=>φ h/\(∃ o,h.get? a=some o)/\∀ h1 h2:Heap,φ h1->(∀ o,h1.get? a=some o->h2.get? a=some o)->φ h2
def HOk(H:Hp)(h:Heap):Prop:=∀ a o,H a=some o->dF P w H h a o
end
section
variable {P:Program} {w:World} {H H':Hp} {h h':Heap} {a:Addr} {o:HO}
theorem dF.lt(x:dF P w H h a o):a<h.objs.size:=by
 cases o with
 | lst xs=>obtain⟨_,_,_,_,e⟩:=x;exact Heap.lt_size e
 | tup xs=>obtain⟨_,_,_,p⟩:=x;exact p.lt
 | dK kvs=>obtain⟨_,_,_,_,o,_,_,e,_⟩:=x;exact Heap.lt_size e
 | dT kvs=>obtain⟨_,_,_,_,o,_,_,e,_⟩:=x;exact Heap.lt_size e
 | set S n=>obtain⟨o,_,_,_,e,_⟩:=x;exact Heap.lt_size e
 | ins C dx fs=>obtain⟨_,_,_,e,_⟩:=x;exact Heap.lt_size e
 | own y=>obtain⟨_,e⟩:=x;exact Heap.lt_size e
 | xd fs=>obtain⟨_,⟨_,_,_,e,_⟩,_⟩:=x;exact Heap.lt_size e
 | rng lo hi=>obtain⟨_,_,_,e⟩:=x;exact Heap.lt_size e
 | frz ob u=>obtain⟨e,_⟩:=x;exact Heap.lt_size e
 | tbl ps=>exact Heap.lt_size (show h.get? a=some _ from x)
 | met f y=>exact Heap.lt_size (show h.get? a=some _ from x)
 | ext φ=>obtain⟨_,⟨_,e⟩,_⟩:=x;exact Heap.lt_size e
theorem Paired.mapP{α β:Type}{F G:α->β->Prop}:∀ {l₁:List α} {l₂:List β},Paired F l₁ l₂->(∀ a b,F a b->G a b)->Paired G l₁ l₂
 | _,_,.nil,_=>.nil
 | _,_,.cons r t,f=>.cons (f _ _ r) (Paired.mapP t f)
theorem dF.stay(x:dF P w H h a o)(k:∀ b u,(b=a\/H b=some (.own a))->h.get? b=some u->h'.get? b=some u)
    (ho:∀ b,H b=some (.own a)->H' b=some (.own a)) (ht:∀ b xs,H b=some (.tup xs)->H' b=some (.tup xs)):dF P w H' h' a o:=by
  induction o with
  | lst xs=>obtain⟨z,its,n,r,e⟩:=x;exact⟨z,its,n,r,k _ _ (.inl rfl) e⟩
  | tup xs=>obtain⟨z,its,r,ob,e,c⟩:=x;exact⟨z,its,r,ob,k _ _ (.inl rfl) e,c⟩
  | dK kvs=>obtain⟨z,y,vs,r,ob,es,ep,e,c⟩:=x;exact⟨z,y,vs,r,ob,es,ep,k _ _ (.inl rfl) e,c⟩
  | dT kvs =>
    obtain⟨z,y,xs,r,ob,es,ep,e,c⟩:=x
    exact⟨z,y,xs,Paired.mapP r fun p q z=>⟨z.1,ht _ _ z.2.1,z.2.2⟩,ob,es,ep,k _ _ (.inl rfl) e,c⟩
  | set S n=>obtain⟨ob,es,ep,t,e,c⟩:=x;exact⟨ob,es,ep,t,k _ _ (.inl rfl) e,c⟩
  | ins C dx fs =>
    obtain⟨d,z,ne,e,mA,⟨od,es,ep,e2,c⟩,r⟩:=x
    exact⟨ho _ d,z,ne,k _ _ (.inl rfl) e,mA,⟨od,es,ep,k _ _ (.inr d) e2,c⟩,r⟩
  | own y=>obtain⟨ob,e⟩:=x;exact⟨ob,k _ _ (.inl rfl) e⟩
  | xd fs=>obtain⟨mA,⟨od,es,ep,e,c⟩,r⟩:=x;exact⟨mA,⟨od,es,ep,k _ _ (.inl rfl) e,c⟩,r⟩
  | rng lo hi=>obtain⟨t,u,v,e⟩:=x;exact⟨t,u,v,k _ _ (.inl rfl) e⟩
  | frz ob u ih=>obtain⟨e,q⟩:=x;exact⟨k _ _ (.inl rfl) e,ih q⟩
  | tbl ps =>
    have e:h.get? a=some { cls:=.none,data:=.fields ps }:=x
    show h'.get? a=some { cls:=.none,data:=.fields ps }
    exact k a _ (.inl rfl) e
  | met f y =>
    have e:h.get? a=some (PySem.W.methodObj (.ref f) (.ref y)):=x
    show h'.get? a=some (PySem.W.methodObj (.ref f) (.ref y))
    exact k a _ (.inl rfl) e
  | ext φ=>obtain⟨p,⟨o,e⟩,st⟩:=x;exact⟨st _ _ p fun o q=>k _ _ (.inl rfl) q,⟨o,k _ _ (.inl rfl) e⟩,st⟩
theorem HOk.lt(x:HOk P w H h)(e:H a=some o):a<h.objs.size:=(x a o e).lt
theorem HOk.fresh(x:HOk P w H h)(e:h.objs.size<=a):H a=none:=by
 cases q:H a with
 | none=>rfl
 | some u=>exact absurd (Nat.lt_of_lt_of_le (x.lt q) e) (Nat.lt_irrefl _)
theorem HOk.kept(x:HOk P w H h)(k:∀ b u,h.get? b=some u->h'.get? b=some u):HOk P w H h':=fun a o e =>
 (x a o e).stay (fun b u _ q=>k b u q) (fun _ q=>q) fun _ _ q=>q
theorem HOk.laid(x:HOk P w H h)(k:∀ b u,h.get? b=some u->h'.get? b=some u)(hp:h.objs.size<=a)(new:dF P w (upd H a o) h' a o):HOk P w (upd H a o) h':=fun b u e=>by
 have hn:=x.fresh hp
 by_cases hb:b=a
 ·subst hb;rw[aW] at e;cases e;exact new
 ·rw[aO hb] at e
  exact(x b u e).stay (fun c v _ q=>k c v q) (fun c q=>by rw[aO (aF q hn)];exact q) fun c xs q=>by rw[aO (aF q hn)];exact q
end
def Rd(H:Hp)(a:Addr)(u:HO):Prop:=H a=some u\/∃ o,H a=some (.frz o u)
theorem Rd.ok{P:Program}{w:World}{H:Hp}{h:Heap}{a:Addr}{u:HO}(r:Rd H a u)(x:HOk P w H h):dF P w H h a u:=by
 rcases r with r | ⟨o,r⟩
 ·exact x a u r
 ·obtain⟨_,q⟩:=x a _ r
  exact q
def Mut:Option HO->Prop
 | some (.lst _)=>True
 | some (.dK _)=>True
 | some (.dT _)=>True
 | some (.set _ _)=>True
 | some (.ins _ _ _)=>True
 | some (.ext _)=>True
 | _=>False
section
variable {P:Program} {w:World} {H:Hp} {h h':Heap} {x e:Addr} {o':HO}
theorem HOk.write(ok:HOk P w H h)(mu:Mut (H x))(he:e=x\/H e=some (.own x))(k:∀ b u,b≠e->h.get? b=some u->h'.get? b=some u)(heo:∃ u,h'.get? e=some u)
  (new:dF P w (upd H x o') h' x o'):HOk P w (upd H x o') h':=fun b u q=>by
 have nown:∀ c y,H c=some (.own y)->c≠x:=fun c y r z=>by subst z;rw[r] at mu;exact mu
 have ntup:∀ c xs,H c=some (.tup xs)->c≠x:=fun c xs r z=>by subst z;rw[r] at mu;exact mu
 by_cases hb:b=x
 ·subst hb;rw[aW] at q;cases q;exact new
 ·rw[aO hb] at q
  by_cases hbe:b=e
  ·have q':H b=some (.own x):=by
    rcases he with z | z
    ·exact absurd (hbe.trans z) hb
    ·rw[hbe];exact z
   rw[q] at q';cases q'
   obtain⟨v,hv⟩:=heo
   exact⟨v,by rw[hbe];exact hv⟩
  ·refine(ok b u q).stay (fun c v hc r=>k c v ?_ r) (fun c r=>by rw[aO (nown c b r)];exact r) fun c xs r=>by rw[aO (ntup c xs r)];exact r
   rcases hc with rfl | hc
   ·exact hbe
   ·rintro rfl
    rcases he with z | z
    ·exact nown c b hc z
    ·rw[hc] at z;cases z;exact hb rfl
end
structure Un (fs ex:List Addr) (H H':Hp) (h h':Heap):Prop where
 keep:∀ b o,h.get? b=some o->H b=none->b∉fs->b∉ex->h'.get? b=some o
 slot:∀ b o,h.get? b=some o->H b=none->b∈fs->b∉ex->∃ sl,h'.get? b=some { o with slots:=sl }
 free:∀ b o,h.get? b=some o->H b=none->b∉ex->H' b=none
 there:∀ b o,h.get? b=some o->b∉ex->∃ o',h'.get? b=some o'
 tups:∀ b xs,H b=some (.tup xs)->H' b=some (.tup xs)
 frzs:∀ b o u,H b=some (.frz o u)->H' b=some (.frz o u)
 tbls:∀ b ps,H b=some (.tbl ps)->∃ more,H' b=some (.tbl (ps++more))
section
variable {fs fs' ex ex':List Addr} {H H1 H2:Hp} {h h1 h2 h':Heap} {a x e:Addr} {o:HO}
theorem Un.any(u:Un fs ex H H1 h h1){b:Addr}{ob:Obj}(q:h.get? b=some ob)(n:H b=none)(hx:b∉ex):∃ sl,h1.get? b=some { ob with slots:=sl }:=by
 by_cases hb:b∈fs
 ·exact u.slot b ob q n hb hx
 ·exact⟨ob.slots,u.keep b ob q n hb hx⟩
theorem Un.trans(a:Un fs ex H H1 h h1)(b:Un fs ex H1 H2 h1 h2):Un fs ex H H2 h h2 where
 keep:=fun c ob q n hc hx=>b.keep c ob (a.keep c ob q n hc hx) (a.free c ob q n hx) hc hx
 slot:=fun c ob q n hc hx=>by
  obtain⟨sl,e1⟩:=a.slot c ob q n hc hx
  obtain⟨sl',e2⟩:=b.slot c _ e1 (a.free c ob q n hx) hc hx
  exact⟨sl',e2⟩
 free:=fun c ob q n hx=>by
  obtain⟨o',e1⟩:=a.there c ob q hx
  exact b.free c o' e1 (a.free c ob q n hx) hx
 there:=fun c ob q hx=>by
  obtain⟨o',e1⟩:=a.there c ob q hx
  exact b.there c o' e1 hx
 tups:=fun c xs q=>b.tups c xs (a.tups c xs q)
 frzs:=fun c ob xs q=>b.frzs c ob xs (a.frzs c ob xs q)
 tbls:=fun c ps q=>by
  obtain⟨m1,e1⟩:=a.tbls c ps q
  obtain⟨m2,e2⟩:=b.tbls c _ e1
  exact⟨m1++m2,by rw[e2,Array.append_assoc]⟩
theorem Un.kept(k:∀ b u,h.get? b=some u->h'.get? b=some u):Un fs ex H H h h' :=
 ⟨fun b ob q _ _ _=>k b ob q,fun b ob q _ _ _=>⟨ob.slots,k b ob q⟩,fun _ _ _ n _=>n,fun b ob q _=>⟨ob,k b ob q⟩,fun _ _ q=>q,fun _ _ _ q=>q,fun _ ps q=>⟨#[],by rw[q];simp⟩⟩
theorem Un.refl:Un fs ex H H h h:=Un.kept fun _ _ q=>q
theorem Un.laid(k:∀ b u,h.get? b=some u->h'.get? b=some u)(hp:h.objs.size<=a)(hn:H a=none):Un fs ex H (upd H a o) h h' where
 keep:=fun b u q _ _ _=>k b u q
 slot:=fun b u q _ _ _=>⟨u.slots,k b u q⟩
 free:=fun b u q n _=>by rw[aO (Nat.ne_of_lt (Nat.lt_of_lt_of_le (Heap.lt_size q) hp))];exact n
 there:=fun b u q _=>⟨u,k b u q⟩
 tups:=fun b xs q=>by rw[aO (aF q hn)];exact q
 frzs:=fun b u xs q=>by rw[aO (aF q hn)];exact q
 tbls:=fun b ps q=>⟨#[],by rw[aO (aF q hn),q];simp⟩
theorem Un.write(mu:Mut (H x))(he:e=x\/H e=some (.own x))(k:∀ b u,b≠e->h.get? b=some u->h'.get? b=some u)(heo:∃ u,h'.get? e=some u):Un fs ex H (upd H x o) h h':=by
  have hx:∀ b,H b=none->b≠x:=fun b n z=>by subst z;rw[n] at mu;exact mu
  have hb:∀ b,H b=none->b≠e:=fun b n z=>by
    subst z
    rcases he with r | r
    · exact hx b n r
    · rw[n] at r;cases r
  have hm:∀ b u,H b=some u->¬ Mut (some u)->b≠x:=fun b u q nm z=>by subst z;rw[q] at mu;exact nm mu
  refine⟨fun b u q n _ _=>k b u (hb b n) q,fun b u q n _ _=>⟨u.slots,k b u (hb b n) q⟩,fun b u q n _=>by rw[aO (hx b n)];exact n,fun b u q _=>?_,
    fun b xs q=>by rw[aO (hm b _ q fun z=>z)];exact q,fun b u xs q=>by rw[aO (hm b _ q fun z=>z)];exact q,fun b ps q=>⟨#[],by rw[aO (hm b _ q fun z=>z),q];simp⟩⟩
  by_cases hbe:b=e
  · subst hbe;exact heo
  · exact⟨u,k b u hbe q⟩
theorem Un.mono(u:Un fs ex H H1 h h1)(hs:∀ b∈fs,b∈fs')(hx:∀ b∈ex,b∈ex'):Un fs' ex' H H1 h h1 :=
 ⟨fun b ob q n hb he=>u.keep b ob q n (fun z=>hb (hs b z)) fun z=>he (hx b z),fun _ _ q n _ he=>u.any q n fun z=>he (hx _ z),fun b ob q n he=>u.free b ob q n fun z=>he (hx b z),fun b ob q he=>u.there b ob q fun z=>he (hx b z),u.tups,u.frzs,u.tbls⟩
end
def trk(h:Heap)(H:Hp):List Addr:=(List.range h.objs.size).filter fun a=>(H a).isSome
def yM(h:Heap)(H:Hp):Heap:=PySem.W.hideAll h (trk h H)
theorem vK(h:Heap)(H:Hp):(yM h H).objs.size=h.objs.size:=PySem.W.hideAll_size _ _
theorem yL{h:Heap}{H:Hp}{b:Addr}{o:Obj}(e:h.get? b=some o)(n:H b=none):(yM h H).get? b=some o :=
 PySem.W.hideAll_get _ e fun hm=>by
  have q:(H b).isSome=true:=(List.mem_filter.mp hm).2
  rw[n] at q;simp at q
theorem Dy{h:Heap}{H:Hp}{b:Addr}{o:Obj}(e:(yM h H).get? b=some o):h.get? b=some o/\H b=none:=by
  have e':h.get? b=some o:=PySem.W.of_hideAll (trk h H) e
  refine⟨e',?_⟩
  cases q:H b with
  | none=>rfl
  | some x =>
    have hm:b∈trk h H:=List.mem_filter.mpr ⟨List.mem_range.mpr (Heap.lt_size e'),by simp[q]⟩
    have z:(yM h H).get? b=none:=PySem.W.hideAll_none (trk h H) hm
    rw[z] at e;cases e
def Gd(g h:Heap)(L:Addr):List (Addr×Obj):=(List.range h.objs.size).filterMap fun a=>if a=L\/(g.get? a).isSome=true then none else(h.get? a).map fun o=>(a,o)
def rest(g h:Heap)(L d:Addr):List (Addr×Obj):=(Gd g h L).filter fun p=>decide (p.1≠d)
end L2
namespace L2
open PySem PySem.Spec PyProof.Rows
structure Mod (K:PySem.W.Frag) (mg:Str->Option Value) (base:Heap):Prop where
 kin:K.In base
 glob:base.Ns mainGlobals mg
 blt:∃ mb,base.Ns builtinsNs mb/\∀ x:Str,x≠"__name__"->mb x=bootBuiltins x
 nolimit:base.NoLimit
structure Cx where
 prog:Program
 w:World
 K:PySem.W.Frag
 mg:Str->Option Value
 base:Heap
 A:Around
 N:List Str
 s₀:Shared
 H₀:Hp
 env:Env
 outer:List Env
 stack:List Env
 ex:List Addr
 fn:Str->Bool
 calm:Bool
 pn:List (Addr×Obj)
 xe:Value->Shared->Prop
def frs(l:List Env):List Addr:=l.filterMap (·.frame)
abbrev Cx.fs(X:Cx):List Addr:=frs X.outer
def Vis(sc:Scope)(x:Str):Prop:=sc.names.lookup x=some .local\/sc.names.lookup x=some .cell\/sc.names.lookup x=some .free
def Loc(sc:Scope)(x:Str):Prop:=sc.names.lookup x=some .local\/sc.names.lookup x=some .cell
def Look(env:Env)(h:Heap)(m:Str->Option Value)(x:Str)(u:Value):Prop :=
 (env.kindOf x=some .local/\m x=some u)\/((env.kindOf x=some .cell\/env.kindOf x=some .free)/\∃ c,env.cells.lookup x=some c/\h.IsCell c (some u))
structure Cx.Ok (X:Cx):Prop where
 mod:Mod X.K X.mg X.base
 kind:X.env.scope.kind=.function
 glob:X.env.globals=mainGlobals
 blt:X.env.builtins=builtinsNs
 above:X.s₀.heap.objs.size<=X.env.locals
 inj:∀ x y c,X.env.cells.lookup x=some c->X.env.cells.lookup y=some c->x=y
 has:∀ x,(X.env.kindOf x=some .cell\/X.env.kindOf x=some .free)->∃ c,X.env.cells.lookup x=some c
 cab:∀ x c,X.fn x=true->X.env.cells.lookup x=some c->X.s₀.heap.objs.size<=c
 hd:X.calm=true->X.A.handled=none
 frames:X.A.frames=some X.stack
 stk:X.stack=X.outer\/(X.stack=X.env::X.outer/\X.env.frame=some X.env.locals)
 exf:∀ b∈X.ex,b≠X.env.locals/\∀ x c,X.env.cells.lookup x=some c->c≠b
 bs:∀ b o,X.base.get? b=some o->X.s₀.heap.get? b=some o/\X.H₀ b=none
 bsz:X.base.objs.size<=X.s₀.heap.objs.size
 noex:∀ b o,X.base.get? b=some o->b∉X.ex
 exfs:∀ b∈X.ex,b∉X.fs
 funs:X.s₀.heap.FunFrames X.base X.outer
 frf:∀ b∈X.fs,X.H₀ b=none
structure Inv (X:Cx) (pins:List (Addr×Obj)) (σ:List (Option V)) (H:Hp) (s:Shared):Prop where
 ok:X.Ok
 os:s.os=X.s₀.os
 bare:AllBare s.gens
 base:Un X.fs X.ex X.H₀ H X.s₀.heap s.heap
 loc:∃ m,s.heap.Ns X.env.locals m/\∀ (i:Nat) (x:Str) (v:V),X.N[i]?=some x->σ[i]?=some (some v)->Vis X.env.scope x->∃ u,RelV v u/\Look X.env s.heap m x u
 cell:∀ x c,X.env.cells.lookup x=some c->∃ v,s.heap.IsCell c v
 free:H X.env.locals=none
 freeC:∀ x c,X.env.cells.lookup x=some c->H c=none
 pin:∀ p∈X.pn++pins,s.heap.get? p.1=some p.2/\H p.1=none/\p.1≠X.env.locals/\p.1∉X.fs/\∀ v,p.2.data≠.cell v
 hok:HOk X.prog X.w H s.heap
 len:σ.length=X.N.length
section
variable {X:Cx} {pins:List (Addr×Obj)} {σ:List (Option V)} {H H':Hp} {s:Shared} {h':Heap}
theorem Cx.Ok.nofr(ok:X.Ok){b:Addr}{o:Obj}(e:X.base.get? b=some o):b∉X.fs:=fun hb=>by
 have:=(ok.funs.mem hb).1
 rw[e] at this;cases this
theorem Inv.bs(I:Inv X pins σ H s):∀ b o,X.base.get? b=some o->s.heap.get? b=some o/\H b=none:=fun b o e =>
 ⟨I.base.keep b o (I.ok.bs b o e).1 (I.ok.bs b o e).2 (I.ok.nofr e) (I.ok.noex b o e),I.base.free b o (I.ok.bs b o e).1 (I.ok.bs b o e).2 (I.ok.noex b o e)⟩
theorem Inv.bk(I:Inv X pins σ H s):∀ b o,X.base.get? b=some o->s.heap.get? b=some o:=fun b o e=>(I.bs b o e).1
theorem Inv.mod(I:Inv X pins σ H s):Mod X.K X.mg X.base:=I.ok.mod
theorem Inv.kIn(I:Inv X pins σ H s):X.K.In s.heap:=I.ok.mod.kin.keeps I.bk
theorem Inv.lt(I:Inv X pins σ H s):X.env.locals<s.heap.objs.size:=let ⟨_,hn,_⟩:=I.loc;hn.lt
theorem Inv.sz(I:Inv X pins σ H s):X.s₀.heap.objs.size<=s.heap.objs.size:=Nat.le_trans I.ok.above (Nat.le_of_lt I.lt)
theorem Inv.nofs(I:Inv X pins σ H s){a:Addr}(h:s.heap.objs.size<=a):a∉X.fs:=fun hb=>by
 obtain⟨_,o,ho,_⟩:=I.ok.funs.mem hb
 exact absurd (Nat.lt_of_lt_of_le (Heap.lt_size ho) (Nat.le_trans I.sz h)) (Nat.lt_irrefl _)
theorem Inv.cne(I:Inv X pins σ H s):∀ x c,X.env.cells.lookup x=some c->c≠X.env.locals:=fun x c e z=>by
 obtain⟨v,o,ho,hd⟩:=I.cell x c e
 obtain⟨m,⟨o',es,ep,ho',hd',_⟩,_⟩:=I.loc
 rw[z,ho'] at ho;cases ho;rw[hd'] at hd;cases hd
theorem Inv.funs(I:Inv X pins σ H s):s.heap.FunFrames X.base X.outer:=by
  have all:∀ (l:List Env),(∀ b∈frs l,b∈X.fs)->X.s₀.heap.FunFrames X.base l->s.heap.FunFrames X.base l:=by
    intro l
    induction l with
    | nil=>intro _ _;trivial
    | cons env r ih =>
      intro hs hl
      obtain⟨hk,⟨L,o,hf,hn,ho,hd⟩,hr⟩:=hl
      have hL:L∈X.fs:=hs L (by unfold frs;rw[List.filterMap_cons,hf];exact List.mem_cons_self)
      obtain⟨sl,e⟩:=I.base.slot L o ho (I.ok.frf L hL) hL fun z=>I.ok.exfs L z hL
      exact⟨hk,⟨L,_,hf,hn,e,hd⟩,ih (fun b hb=>hs b (by unfold frs;rw[List.filterMap_cons,hf];exact List.mem_cons_of_mem _ hb)) hr⟩
  exact all X.outer (fun _ hb=>hb) I.ok.funs
theorem Inv.stack(I:Inv X pins σ H s):s.heap.FunFrames X.base X.stack:=by
 rcases I.ok.stk with e | ⟨e,hf⟩
 ·rw[e];exact I.funs
 ·rw[e]
  obtain⟨m,hn,_⟩:=I.loc
  refine .cons (by rw[I.ok.kind];decide) hf hn ?_ I.funs
  exact Heap.get?_none_of_le (Nat.le_trans I.ok.bsz I.ok.above)
theorem Inv.stkSub(I:Inv X pins σ H s):∀ b∈frs X.stack,b∈X.env.locals::X.fs:=fun b hb=>by
 rcases I.ok.stk with e | ⟨e,hf⟩
 ·rw[e] at hb;exact List.mem_cons_of_mem _ hb
 ·rw[e] at hb
  unfold frs at hb
  rw[List.filterMap_cons,hf] at hb
  exact hb
theorem Inv.stkFree(I:Inv X pins σ H s):∀ b∈frs X.stack,H b=none:=fun b hb=>by
 rcases List.mem_cons.mp (I.stkSub b hb) with e | hb
 ·rw[e];exact I.free
 ·obtain⟨_,o,ho,_⟩:=I.ok.funs.mem hb
  exact I.base.free b o ho (I.ok.frf b hb) fun z=>I.ok.exfs b z hb
theorem Inv.step{g':Array GenState}{t':Nat}{d':Drawn}{ch:List Addr}(I:Inv X pins σ H s)
  (hch:∀ b∈ch,(b∈X.ex\/X.s₀.heap.objs.size<=b)/\b≠X.env.locals/\(∀ x c,X.env.cells.lookup x=some c->c≠b)/\∀ p∈X.pn++pins,p.1≠b)
  (keep:∀ b o,b≠X.env.locals->b∉X.fs->b∉ch->s.heap.get? b=some o->H b=none->h'.get? b=some o)
  (slot:∀ b o,b≠X.env.locals->b∈X.fs->b∉ch->s.heap.get? b=some o->H b=none->∃ sl,h'.get? b=some { o with slots:=sl }) (free:∀ b o,b∉ch->s.heap.get? b=some o->H b=none->H' b=none)
  (there:∀ b o,b∉ch->s.heap.get? b=some o->∃ o',h'.get? b=some o')
  (tups:∀ b xs,H b=some (.tup xs)->H' b=some (.tup xs)) (frzs:∀ b o u,H b=some (.frz o u)->H' b=some (.frz o u)) (tbls:∀ b ps,H b=some (.tbl ps)->∃ more,H' b=some (.tbl (ps++more)))
  (ns:∀ m,s.heap.Ns X.env.locals m->h'.Ns X.env.locals m) (hok:HOk X.prog X.w H' h') (hg:AllBare g') :
  Inv X pins σ H' { s with heap:=h',gens:=g',drawn:=d',toks:=t' }:=by
 have neL:∀ b o,X.s₀.heap.get? b=some o->b≠X.env.locals:=fun b o e=>Nat.ne_of_lt (Nat.lt_of_lt_of_le (Heap.lt_size e) I.ok.above)
 have neC:∀ b o,X.s₀.heap.get? b=some o->b∉X.ex->b∉ch:=fun b o e hx hb=>by
  rcases(hch b hb).1 with z | z
  ·exact hx z
  ·exact absurd (Nat.lt_of_lt_of_le (Heap.lt_size e) z) (Nat.lt_irrefl _)
 have cellK:∀ x c,X.env.cells.lookup x=some c->∀ v,s.heap.IsCell c v->h'.IsCell c v:=fun x c e v ⟨o,ho,hd⟩=>by
  have nch:c∉ch:=fun z=>(hch c z).2.2.1 x c e rfl
  by_cases hc:c∈X.fs
  ·obtain⟨sl,q⟩:=slot c o (I.cne x c e) hc nch ho (I.freeC x c e)
   exact⟨_,q,hd⟩
  ·exact⟨o,keep c o (I.cne x c e) hc nch ho (I.freeC x c e),hd⟩
 refine⟨I.ok,I.os,hg,⟨fun b o e n hb hx=>?_,fun b o e n hb hx=>?_,fun b o e n hx=>?_,fun b o e hx=>?_,fun b xs e=>tups b xs (I.base.tups b xs e),fun b o xs e=>frzs b o xs (I.base.frzs b o xs e),fun b ps e=>?_⟩,?_,fun x c e=>?_,?_,fun x c e=>?_,fun p hp=>?_,hok,I.len⟩
 ·exact keep b o (neL b o e) hb (neC b o e hx) (I.base.keep b o e n hb hx) (I.base.free b o e n hx)
 ·obtain⟨sl,e1⟩:=I.base.slot b o e n hb hx
  obtain⟨sl',e2⟩:=slot b _ (neL b o e) hb (neC b o e hx) e1 (I.base.free b o e n hx)
  exact⟨sl',e2⟩
 ·obtain⟨o',e1⟩:=I.base.there b o e hx
  exact free b o' (neC b o e hx) e1 (I.base.free b o e n hx)
 ·obtain⟨o',e1⟩:=I.base.there b o e hx
  exact there b o' (neC b o e hx) e1
 ·obtain⟨m1,e1⟩:=I.base.tbls b ps e
  obtain⟨m2,e2⟩:=tbls b _ e1
  exact⟨m1++m2,by rw[e2,Array.append_assoc]⟩
 ·obtain⟨m,hn,hl⟩:=I.loc
  refine⟨m,ns m hn,fun i x v e1 e2 e3=>?_⟩
  obtain⟨u,r,l⟩:=hl i x v e1 e2 e3
  refine⟨u,r,?_⟩
  rcases l with l | ⟨k,c,e,z⟩
  ·exact .inl l
  ·exact .inr ⟨k,c,e,cellK x c e _ z⟩
 ·obtain⟨v,z⟩:=I.cell x c e
  exact⟨v,cellK x c e v z⟩
 ·obtain⟨m,⟨o,_,_,ho,_⟩,_⟩:=I.loc
  exact free _ o (fun z=>(hch _ z).2.1 rfl) ho I.free
 ·obtain⟨v,o,ho,hd⟩:=I.cell x c e
  exact free c o (fun z=>(hch c z).2.2.1 x c e rfl) ho (I.freeC x c e)
 ·obtain⟨e,n,ne,nf,d⟩:=I.pin p hp
  have nch:p.1∉ch:=fun z=>(hch p.1 z).2.2.2 p hp rfl
  exact⟨keep p.1 p.2 ne nf nch e n,free p.1 p.2 nch e n,ne,nf,d⟩
theorem Inv.un{t':Nat}(I:Inv X pins σ H s)(u:Un X.fs [] H H' s.heap h')(hok:HOk X.prog X.w H' h'):Inv X pins σ H' { s with heap:=h',toks:=t' }:=by
  obtain⟨m,⟨o,es,ep,ho,r⟩,_⟩:=id I.loc
  obtain⟨sl,hL⟩:=u.any ho I.free (by simp)
  exact I.step (g':=s.gens) (d':=s.drawn) (ch:=[]) (fun _ z=>nomatch z) (fun b o _ hb _ e n=>u.keep b o e n hb (by simp)) (fun b o _ hb _ e n=>u.slot b o e n hb (by simp)) (fun b o _ e n=>u.free b o e n (by simp)) (fun b o _ e=>u.there b o e (by simp)) u.tups u.frzs u.tbls (fun m' hm=>by
    obtain⟨o',es',ep',ho',r'⟩:=hm
    rw[ho] at ho';cases ho'
    exact⟨_,es',ep',hL,r'⟩) hok I.bare
theorem Inv.call{g':Array GenState}{t':Nat}{d':Drawn}{ch:List Addr}(I:Inv X pins σ H s)(u:Un (frs X.stack) ch H H' s.heap h')(hok:HOk X.prog X.w H' h')(hg:AllBare g')
    (hch:∀ b∈ch,(b∈X.ex\/X.s₀.heap.objs.size<=b)/\b≠X.env.locals/\(∀ x c,X.env.cells.lookup x=some c->c≠b)/\∀ p∈X.pn++pins,p.1≠b) :
    Inv X pins σ H' { s with heap:=h',gens:=g',drawn:=d',toks:=t' }:=by
  obtain⟨m,⟨o,es,ep,ho,r⟩,_⟩:=id I.loc
  obtain⟨sl,hL⟩:=u.any ho I.free fun z=>(hch _ z).2.1 rfl
  exact I.step (ch:=ch) hch (fun b o hL hb hc e n=>u.keep b o e n (fun z=>(List.mem_cons.mp (I.stkSub b z)).elim hL hb) hc) (fun b o _ _ hc e n=>u.any e n hc) (fun b o hc e n=>u.free b o e n hc) (fun b o hc e=>u.there b o e hc) u.tups u.frzs u.tbls (fun m' hm=>by
    obtain⟨o',es',ep',ho',r'⟩:=hm
    rw[ho] at ho';cases ho'
    exact⟨_,es',ep',hL,r'⟩) hok hg
theorem Inv.turned{t':Nat}{it:Addr}(I:Inv X pins σ H s)(k:∀ b o,b≠it->s.heap.get? b=some o->h'.get? b=some o)(hn:H it=none)(hL:it≠X.env.locals)
  (h1:it∈X.ex\/X.s₀.heap.objs.size<=it) (h2:∀ x c,X.env.cells.lookup x=some c->c≠it) (h3:∀ p∈X.pn++pins,p.1≠it):Inv X pins σ H { s with heap:=h',toks:=t' }:=by
 have nit:∀ b u,H b=some u->b≠it:=fun b u e z=>by rw[z,hn] at e;cases e
 refine I.step (g':=s.gens) (d':=s.drawn) (ch:=[it]) (fun b hb=>?_) (fun b o _ _ hc e _=>k b o (fun z=>hc (by simp[z])) e) (fun b o _ _ hc e _=>⟨o.slots,k b o (fun z=>hc (by simp[z])) e⟩) (fun _ _ _ _ n=>n)
  (fun b o hc e=>⟨o,k b o (fun z=>hc (by simp[z])) e⟩) (fun _ _ e=>e) (fun _ _ _ e=>e) (fun b ps e=>⟨#[],by rw[e];simp⟩) (fun m hm=>?_) (fun b u e=>?_) I.bare
 ·have e:b=it:=by simpa using hb
  subst e
  exact⟨h1,hL,h2,h3⟩
 ·obtain⟨o,es,ep,ho,r⟩:=hm
  exact⟨o,es,ep,k _ o (Ne.symm hL) ho,r⟩
 ·refine(I.hok b u e).stay (fun c v hc q=>k c v ?_ q) (fun _ q=>q) fun _ _ q=>q
  rcases hc with z | z
  ·rw[z];exact nit b u e
  ·exact nit c _ z
theorem Inv.tok(I:Inv X pins σ H s)(t:Nat):Inv X pins σ H { s with toks:=t }:=I.un (h':=s.heap) (t':=t) Un.refl I.hok
theorem Inv.kept{t':Nat}(I:Inv X pins σ H s)(k:∀ b u,s.heap.get? b=some u->h'.get? b=some u):Inv X pins σ H { s with heap:=h',toks:=t' }:=I.un (Un.kept k) (I.hok.kept k)
theorem Inv.laid{a:Addr}{o:HO}{t':Nat}(I:Inv X pins σ H s)(k:∀ b u,s.heap.get? b=some u->h'.get? b=some u)(hp:s.heap.objs.size<=a)(new:dF X.prog X.w (upd H a o) h' a o) :
  Inv X pins σ (upd H a o) { s with heap:=h',toks:=t' }:=I.un (Un.laid k hp (I.hok.fresh hp)) (I.hok.laid k hp new)
theorem Inv.write{x e:Addr}{o:HO}{t':Nat}(I:Inv X pins σ H s)(mu:Mut (H x))(he:e=x\/H e=some (.own x))(k:∀ b u,b≠e->s.heap.get? b=some u->h'.get? b=some u)(heo:∃ u,h'.get? e=some u)
  (new:dF X.prog X.w (upd H x o) h' x o):Inv X pins σ (upd H x o) { s with heap:=h',toks:=t' }:=I.un (Un.write mu he k heo) (I.hok.write mu he k heo new)
theorem Inv.pins_of{pins':List (Addr×Obj)}(I:Inv X pins σ H s)(h:∀ p∈pins',s.heap.get? p.1=some p.2/\H p.1=none/\p.1≠X.env.locals/\p.1∉X.fs/\∀ v,p.2.data≠.cell v):Inv X pins' σ H s :=
 ⟨I.ok,I.os,I.bare,I.base,I.loc,I.cell,I.free,I.freeC,fun p hp=>(List.mem_append.mp hp).elim (fun z=>I.pin p (List.mem_append_left _ z)) (h p),I.hok,I.len⟩
theorem lU{N:List Str}(hN:N.Nodup){i j:Nat}{x:Str}(a:N[i]?=some x)(b:N[j]?=some x):i=j:=by
 obtain⟨h1,e1⟩:=List.getElem?_eq_some_iff.mp a
 obtain⟨h2,e2⟩:=List.getElem?_eq_some_iff.mp b
 exact(List.getElem_inj hN).mp (e1.trans e2.symm)
theorem mX{M:Model}{A:Around}{E:Value->Shared->Prop}{i:Nat}{x:Str}{v:V}{u:Value}{Q:Unit->Shared->Prop}(I:Inv X pins σ H s)(hN:X.N.Nodup)(hi:X.N[i]?=some x)(hx:Loc X.env.scope x)(r:RelV v u)
  (h:∀ s',Inv X pins (σ.set i (some v)) H s'->(∃ a,Heap.SameBut a s.heap s'.heap/\(a=X.env.locals\/X.env.cells.lookup x=some a))->Q () s') (hf:X.fn x=true\/X.env.scope.names.lookup x=some .local:=by first | exact .inl rfl | exact .inr rfl | assumption):wpAny M A (storeName X.env x u) Q E s:=by
 obtain⟨m,hn,hl⟩:=id I.loc
 have hcls:(X.env.scope.kind==.class||(X.env.scope.kind==.module&&X.env.locals !=X.env.globals))=false:=by rw[I.ok.kind];rfl
 have hiσ:i<σ.length:=by rw[I.len];exact(List.getElem?_eq_some_iff.mp hi).1
 have cne:=I.cne
 have tracked:∀ {a:Addr} {h':Heap},(∃ o,s.heap.get? a=some o/\H a=none)->Heap.SameBut a s.heap h'->HOk X.prog X.w H h':=fun {a h'} ha hs b ob e=>by
  obtain⟨_,_,hfree⟩:=ha
  refine(I.hok b ob e).stay (fun c w' hc q=>(hs.2 c ?_).trans q) (fun _ q=>q) fun _ _ q=>q
  rintro rfl
  rcases hc with rfl | hc
  ·rw[hfree] at e;cases e
  ·rw[hfree] at hc;cases hc
 rcases hx with hk | hk
 ·refine wpAny_storeName_local hk hn (fun h' hn' hs=>?_) hcls
  obtain⟨oL,_,_,hoL,_⟩:=id hn
  refine h _ ⟨I.ok,I.os,I.bare,⟨fun b o e n hb hx=>?_,fun b o e n hb hx=>?_,I.base.free,fun b o e hx=>?_,I.base.tups,I.base.frzs,I.base.tbls⟩,⟨_,hn',fun j y v' e1 e2 e3=>?_⟩,fun y c e=>?_,I.free,I.freeC,fun p hp=>?_,tracked ⟨oL,hoL,I.free⟩ hs,by simpa using I.len⟩ ⟨_,hs,.inl rfl⟩
  ·exact(hs.2 b (Nat.ne_of_lt (Nat.lt_of_lt_of_le (Heap.lt_size e) I.ok.above))).trans (I.base.keep b o e n hb hx)
  ·obtain⟨sl,e1⟩:=I.base.slot b o e n hb hx
   exact⟨sl,(hs.2 b (Nat.ne_of_lt (Nat.lt_of_lt_of_le (Heap.lt_size e) I.ok.above))).trans e1⟩
  ·obtain⟨o',e1⟩:=I.base.there b o e hx
   exact⟨o',(hs.2 b (Nat.ne_of_lt (Nat.lt_of_lt_of_le (Heap.lt_size e) I.ok.above))).trans e1⟩
  ·by_cases hj:j=i
   ·subst hj
    rw[hi] at e1;cases e1
    rw[List.getElem?_set_self hiσ] at e2
    cases e2
    exact⟨u,r,.inl ⟨hk,by simp⟩⟩
   ·rw[List.getElem?_set_ne (Ne.symm hj)] at e2
    obtain⟨u',r',q⟩:=hl j y v' e1 e2 e3
    refine⟨u',r',?_⟩
    rcases q with⟨k,e⟩ | ⟨k,c,e,z⟩
    ·refine .inl ⟨k,?_⟩
     have:y≠x:=fun e=>hj (lU hN e1 (e▸hi))
     simp[this,e]
    ·exact .inr ⟨k,c,e,z.sameBut hs (cne y c e)⟩
  ·obtain⟨w',z⟩:=I.cell y c e
   exact⟨w',z.sameBut hs (cne y c e)⟩
  ·obtain⟨e,n,ne,nf,d⟩:=I.pin p hp
   exact⟨(hs.2 p.1 ne).trans e,n,ne,nf,d⟩
 ·have hfn:X.fn x=true:=by
   rcases hf with z | z
   ·exact z
   ·rw[z] at hk;cases hk
  obtain⟨c,hc⟩:=I.ok.has x (.inl hk)
  obtain⟨w',z⟩:=I.cell x c hc
  refine wpAny_storeName_cell I.ok.kind hk hc z (fun h' hc' hs=>?_)
  obtain⟨oc,hoc,hocd⟩:=id z
  refine h { s with heap:=h' } ⟨I.ok,I.os,I.bare,⟨fun b o e n hb hx=>?_,fun b o e n hb hx=>?_,I.base.free,fun b o e hx=>?_,I.base.tups,I.base.frzs,I.base.tbls⟩,⟨m,hn.sameBut hs (Ne.symm (cne x c hc)),fun j y v' e1 e2 e3=>?_⟩,fun y c' e=>?_,I.free,I.freeC,fun p hp=>?_,tracked ⟨oc,hoc,I.freeC x c hc⟩ hs,by simpa using I.len⟩ ⟨c,hs,.inr hc⟩
  ·exact(hs.2 b (Nat.ne_of_lt (Nat.lt_of_lt_of_le (Heap.lt_size e) (I.ok.cab x c hfn hc)))).trans (I.base.keep b o e n hb hx)
  ·obtain⟨sl,e1⟩:=I.base.slot b o e n hb hx
   exact⟨sl,(hs.2 b (Nat.ne_of_lt (Nat.lt_of_lt_of_le (Heap.lt_size e) (I.ok.cab x c hfn hc)))).trans e1⟩
  ·obtain⟨o',e1⟩:=I.base.there b o e hx
   exact⟨o',(hs.2 b (Nat.ne_of_lt (Nat.lt_of_lt_of_le (Heap.lt_size e) (I.ok.cab x c hfn hc)))).trans e1⟩
  ·by_cases hj:j=i
   ·subst hj
    rw[hi] at e1;cases e1
    rw[List.getElem?_set_self hiσ] at e2
    cases e2
    exact⟨u,r,.inr ⟨.inl hk,c,hc,hc'⟩⟩
   ·rw[List.getElem?_set_ne (Ne.symm hj)] at e2
    obtain⟨u',r',q⟩:=hl j y v' e1 e2 e3
    refine⟨u',r',?_⟩
    rcases q with q | ⟨k,c',e,z'⟩
    ·exact .inl q
    ·refine .inr ⟨k,c',e,z'.sameBut hs ?_⟩
     rintro rfl
     exact hj (lU hN e1 (I.ok.inj _ _ _ e hc▸hi))
  ·by_cases hcc:c'=c
   ·subst hcc;exact⟨_,hc'⟩
   ·obtain⟨w2,z2⟩:=I.cell y c' e
    exact⟨w2,z2.sameBut hs hcc⟩
  ·obtain⟨e,n,ne,nf,d⟩:=I.pin p hp
   refine⟨(hs.2 p.1 ?_).trans e,n,ne,nf,d⟩
   intro q
   rw[q,hoc] at e
   have q':oc=p.2:=Option.some.inj e
   exact d w' (by rw[<- q'];exact hocd)
theorem dU{M:Model}{A:Around}{E:Value->Shared->Prop}{i:Nat}{x:Str}{v:V}{u:Value}{Q:Unit->Shared->Prop}(I:Inv X pins σ H s)(hN:X.N.Nodup)(hi:X.N[i]?=some x)(hx:Loc X.env.scope x)(r:RelV v u)
  (h:∀ s',Inv X pins (σ.set i (some v)) H s'->Q () s') (hf:X.fn x=true\/X.env.scope.names.lookup x=some .local:=by first | exact .inl rfl | exact .inr rfl | assumption):wpAny M A (storeName X.env x u) Q E s :=
 mX I hN hi hx r (fun s' I' _=>h s' I') hf
theorem Inv.call'{s':Shared}{ch:List Addr}(I:Inv X pins σ H s)(ho:s'.os=s.os)(u:Un (frs X.stack) ch H H' s.heap s'.heap)(hok:HOk X.prog X.w H' s'.heap)(hg:AllBare s'.gens)
  (hch:∀ b∈ch,(b∈X.ex\/X.s₀.heap.objs.size<=b)/\b≠X.env.locals/\(∀ x c,X.env.cells.lookup x=some c->c≠b)/\∀ p∈X.pn++pins,p.1≠b):Inv X pins σ H' s':=by
 obtain⟨h',g',d',t',o'⟩:=s'
 have e:o'=s.os:=ho
 subst e
 exact I.call (g':=g') (t':=t') (d':=d') u hok hg hch
end
abbrev XK:=Value->Option Addr->Hp->Prop
abbrev St:=List (Option V)
abbrev VK:=V->Hp->Prop
abbrev TE:=St->Hp->VK->Prop
abbrev TT:=St->Hp->(Bool->Hp->Prop)->Prop
abbrev TA:=St->Hp->(List V->Hp->Prop)->Prop
structure Ends where
 nx:St->Hp->Prop
 rt:VK
 bk:St->Hp->Prop:=fun _ _=>False
 ct:St->Hp->Prop:=fun _ _=>False
abbrev TS:=Ends->St->Hp->Prop
def EP(X:Cx)(pins:List (Addr×Obj))(σ:St)(Q:VK)(u:Value)(s':Shared):Prop:=∃ v H',Inv X pins σ H' s'/\RelV v u/\Q v H'
def TP(X:Cx)(pins:List (Addr×Obj))(σ:St)(Q:Bool->Hp->Prop)(b:Bool)(s':Shared):Prop:=∃ H',Inv X pins σ H' s'/\Q b H'
def AP(X:Cx)(pins:List (Addr×Obj))(σ:St)(Q:List V->Hp->Prop)(us:List Value)(s':Shared):Prop:=∃ vs H',Inv X pins σ H' s'/\Vals vs us/\Q vs H'
def SP(X:Cx)(pins:List (Addr×Obj))(D:Ends)(f:Flow)(s':Shared):Prop :=
 match f with
 | .next=>∃ σ' H',Inv X pins σ' H' s'/\D.nx σ' H'
 | .brk=>∃ σ' H',Inv X pins σ' H' s'/\D.bk σ' H'
 | .cont=>∃ σ' H',Inv X pins σ' H' s'/\D.ct σ' H'
 | .ret u=>∃ v σ' H',Inv X pins σ' H' s'/\RelV v u/\D.rt v H'
def PE(X:Cx)(e:Expr)(t:TE):Prop :=
 ∀ (pins:List (Addr×Obj)) (s:Shared) (σ:St) (H:Hp) (Q:VK),Inv X pins σ H s->t σ H Q->wpAny (model X.prog X.w) X.A (eval e X.env) (EP X pins σ Q) X.xe s
def PT(X:Cx)(e:Expr)(t:TT):Prop :=
 ∀ (pins:List (Addr×Obj)) (s:Shared) (σ:St) (H:Hp) (Q:Bool->Hp->Prop),Inv X pins σ H s->t σ H Q->wpAny (model X.prog X.w) X.A (isTrue e X.env (eval e X.env)) (TP X pins σ Q) X.xe s
def PW(X:Cx)(e:Expr)(t:TT):Prop :=
 ∀ (whole:Sem Value) (pins:List (Addr×Obj)) (s:Shared) (σ:St) (H:Hp) (Q:Bool->Hp->Prop),Inv X pins σ H s->t σ H Q->wpAny (model X.prog X.w) X.A (isTrue e X.env whole) (TP X pins σ Q) X.xe s
def PA(X:Cx)(es:List Expr)(t:TA):Prop :=
 ∀ (pos:Pos) (pins:List (Addr×Obj)) (s:Shared) (σ:St) (H:Hp) (Q:List V->Hp->Prop),Inv X pins σ H s->t σ H Q->wpAny (model X.prog X.w) X.A (spliced (backTo pos (starEach es X.env))) (AP X pins σ Q) X.xe s
def PS(X:Cx)(st:Stmt)(t:TS):Prop :=
 ∀ (pins:List (Addr×Obj)) (s:Shared) (σ:St) (H:Hp) (D:Ends),Inv X pins σ H s->t D σ H->wpAny (model X.prog X.w) X.A (exec st X.env) (SP X pins D) X.xe s
def PSs(X:Cx)(st:List Stmt)(t:TS):Prop :=
 ∀ (pins:List (Addr×Obj)) (s:Shared) (σ:St) (H:Hp) (D:Ends),Inv X pins σ H s->t D σ H->wpAny (model X.prog X.w) X.A (execs st X.env) (SP X pins D) X.xe s
theorem thn{α:Type}{t:Sem α}{Q Q':α->Shared->Prop}{M:Model}{A:Around}{E:Value->Shared->Prop}{s:Shared}(h:wpAny M A t Q E s)(hQ:∀ a s,Q a s->Q' a s):wpAny M A t Q' E s:=wpAny_mono h hQ fun _ _ x=>x
end L2
namespace L2
open PySem PySem.Spec PyProof.Rows
section
variable {X:Cx}
def GZ(i:Nat):TE:=fun σ H Q=>∃ v,σ[i]?=some (some v)/\Q v H
def tC(v:V):TE:=fun _ H Q=>Q v H
theorem gD{i:Nat}{x:Str}{pos:Pos}(hN:X.N[i]?=some x)(hv:Vis X.env.scope x)(hd:(x==("__debug__":Str))=false:=by decide)(hcd:(x==("__classdict__":Str))=false:=by decide):PE X (.Name x pos) (GZ i):=by
 intro pins s σ H Q I h
 obtain⟨v,e,h⟩:=h
 obtain⟨m,hn,hl⟩:=I.loc
 obtain⟨u,r,l⟩:=hl i x v hN e hv
 have fin:EP X pins σ Q u s:=⟨v,H,I,r,h⟩
 rcases l with⟨hk,hm⟩ | ⟨hk,c,hc,hcell⟩
 ·exact wpAny_Name (wpAny_loadName_local I.ok.kind hk hn hm fin) hd
 ·rcases hk with hk | hk
  ·exact wpAny_Name (wpAny_loadName_cell I.ok.kind hk hc hcell fin) hd
  ·exact wpAny_Name (wpAny_loadName_free I.ok.kind hk hc hcell fin hcd) hd
theorem Ii{i j pos}:PE X (.Constant (.int i) j pos) (tC (.int i)):=fun _ _ _ H _ I h=>wpAny_Constant_int ⟨.int i,H,I.tok _,⟨_,rfl⟩,h⟩
theorem LQ{b j pos}:PE X (.Constant (.bool b) j pos) (tC (.bl b)):=fun _ _ _ H _ I h=>Constant_bool ⟨.bl b,H,I,rfl,h⟩
theorem Ih{j pos}:PE X (.Constant .none j pos) (tC .non):=fun _ _ _ H _ I h=>Constant_none ⟨.non,H,I,rfl,h⟩
theorem Ac{x j pos}:PE X (.Constant (.str x) j pos) (tC (.str x)):=fun _ _ _ H _ I h=>Calls.Constant_str ⟨.str x,H,I.tok _,⟨_,rfl⟩,h⟩
def Gl(X:Cx)(x:Str):Prop:=X.env.kindOf x=some .globalImplicit
theorem jy{E:Value->Shared->Prop}{pins:List (Addr×Obj)}{s:Shared}{σ:St}{H:Hp}{x:Str}{u:Value}{pos:Pos}{Q:Value->Shared->Prop}(I:Inv X pins σ H s)(hg:Gl X x)(hm:X.mg x=some u)(h:Q u s)
  (hd:(x==("__debug__":Str))=false:=by decide):wpAny (model X.prog X.w) X.A (eval (.Name x pos) X.env) Q E s :=
 Calls.Name_function_global I.ok.kind hg (Calls.loadGlobal_global (by rw[I.ok.glob];exact I.mod.glob.keeps I.bk) hm h) hd
theorem eX{E:Value->Shared->Prop}{pins:List (Addr×Obj)}{s:Shared}{σ:St}{H:Hp}{x:Str}{u:Value}{pos:Pos}{Q:Value->Shared->Prop}(I:Inv X pins σ H s)(hg:Gl X x)(hm:X.mg x=none)(hv:bootBuiltins x=some u)(h:Q u s)
  (hn:x≠"__name__":=by decide) (hd:(x==("__debug__":Str))=false:=by decide):wpAny (model X.prog X.w) X.A (eval (.Name x pos) X.env) Q E s:=by
 obtain⟨mb,h1,h2⟩:=I.mod.blt
 exact Calls.Name_function_global I.ok.kind hg (Calls.loadGlobal_builtin (by rw[I.ok.glob];exact I.mod.glob.keeps I.bk) hm (by rw[I.ok.blt];exact h1.keeps I.bk) ((h2 x hn).trans hv) h) hd
theorem pA{x:Str}{v:V}{u:Value}{pos:Pos}(hg:Gl X x)(hm:X.mg x=some u)(r:RelV v u)(hd:(x==("__debug__":Str))=false:=by decide):PE X (.Name x pos) (tC v) :=
 fun _ _ _ H _ I h=>jy I hg hm ⟨v,H,I,r,h⟩ hd
theorem uR{x:Str}{v:V}{u:Value}{pos:Pos}(hg:Gl X x)(hm:X.mg x=none)(hv:bootBuiltins x=some u)(r:RelV v u)(hn:x≠"__name__":=by decide)(hd:(x==("__debug__":Str))=false:=by decide):PE X (.Name x pos) (tC v) :=
 fun _ _ _ H _ I h=>eX I hg hm hv ⟨v,H,I,r,h⟩ hn hd
variable {a b:Expr} {ta tb:TE} {pos:Pos}
def tB(t:TE):TT:=fun σ H Q=>t σ H fun x H1=>∃ c,x=.bl c/\Q c H1
theorem zZ{e:Expr}{t:TE}(h:PE X e t)(he:∀ whole,isTrue e X.env whole=(do let v <- whole;standAt e.pos;holding [v] (truthy v)):=by intro _;rfl):PT X e (tB t):=by
 intro pins s σ H Q I hw
 refine isTrue_plain (thn (h pins s σ H _ I hw) fun v s1 ⟨x,H1,I1,r1,q1⟩=>?_) (he _)
 obtain⟨d,rfl,q⟩:=q1
 cases r1
 exact wpAny_truthy_bool ⟨H1,I1,q⟩
variable {tA tB':TT} {rest:List Expr}
def V4(t u:TT):TT:=fun σ H Q=>t σ H fun c H1=>if c=true then u σ H1 Q else Q false H1
def tOr(t u:TT):TT:=fun σ H Q=>t σ H fun c H1=>if c=true then Q true H1 else u σ H1 Q
def V0(t:TT):TT:=fun σ H Q=>t σ H fun c H1=>Q (!c) H1
theorem CJ(ha:PT X a tA):PW X (.BoolOp .And [a] pos) tA:=by
 intro wh pins s σ H Q I h
 refine isTrue_and (thn (ha pins s σ H Q I h) fun c s1 e=>?_)
 cases c with
 | true=>exact isTrue_and_nil e
 | false=>exact e
theorem Hz(ha:PT X a tA):PW X (.BoolOp .Or [a] pos) tA:=by
 intro wh pins s σ H Q I h
 refine isTrue_or (thn (ha pins s σ H Q I h) fun c s1 e=>?_)
 cases c with
 | false=>exact isTrue_or_nil e
 | true=>exact e
theorem zX(ha:PT X a tA)(hb:PW X (.BoolOp .And (b::rest) pos) tB'):PW X (.BoolOp .And (a::b::rest) pos) (V4 tA tB'):=by
 intro wh pins s σ H Q I h
 refine isTrue_and (thn (ha pins s σ H _ I h) fun c s1 ⟨H1,I1,q1⟩=>?_)
 cases c with
 | true=>exact hb wh pins s1 σ H1 Q I1 q1
 | false=>exact⟨H1,I1,q1⟩
theorem HB(ha:PT X a tA)(hb:PW X (.BoolOp .Or (b::rest) pos) tB'):PW X (.BoolOp .Or (a::b::rest) pos) (tOr tA tB'):=by
 intro wh pins s σ H Q I h
 refine isTrue_or (thn (ha pins s σ H _ I h) fun c s1 ⟨H1,I1,q1⟩=>?_)
 cases c with
 | true=>exact⟨H1,I1,q1⟩
 | false=>exact hb wh pins s1 σ H1 Q I1 q1
theorem z6(ha:PT X a tA):PT X (.UnaryOp .Not a pos) (V0 tA):=by
 intro pins s σ H Q I h
 exact isTrue_not (ha pins s σ H (fun c H1=>Q (!c) H1) I h)
def K3(ta tb:TE):TE:=fun σ H Q=>ta σ H fun x H1=>∃ c,x=.bl c/\if c=true then tb σ H1 Q else Q (.bl false) H1
def VR(ta tb:TE):TE:=fun σ H Q=>ta σ H fun x H1=>∃ c,x=.bl c/\if c=true then Q (.bl true) H1 else tb σ H1 Q
def KQ(ta:TE):TE:=fun σ H Q=>ta σ H fun x H1=>∃ c,x=.bl c/\Q (.bl (!c)) H1
theorem Ie{op}{t:TE}(h:PE X a t):PE X (.BoolOp op [a] pos) t:=fun pins s σ H Q I hw=>BoolOp_one (h pins s σ H Q I hw)
theorem Ae(ha:PE X a ta)(hb:PE X (.BoolOp .And (b::rest) pos) tb):PE X (.BoolOp .And (a::b::rest) pos) (K3 ta tb):=by
 intro pins s σ H Q I h
 refine BoolOp_and (thn (ha pins s σ H _ I h) fun v s1 ⟨x,H1,I1,r1,q1⟩=>?_)
 obtain⟨c,rfl,q1⟩:=q1
 cases r1
 refine wpAny_truthy_bool ?_
 cases c with
 | true=>exact hb pins s1 σ H1 Q I1 q1
 | false=>exact⟨.bl false,H1,I1,rfl,q1⟩
theorem Ib(ha:PE X a ta)(hb:PE X (.BoolOp .Or (b::rest) pos) tb):PE X (.BoolOp .Or (a::b::rest) pos) (VR ta tb):=by
 intro pins s σ H Q I h
 refine BoolOp_or (thn (ha pins s σ H _ I h) fun v s1 ⟨x,H1,I1,r1,q1⟩=>?_)
 obtain⟨c,rfl,q1⟩:=q1
 cases r1
 refine wpAny_truthy_bool ?_
 cases c with
 | false=>exact hb pins s1 σ H1 Q I1 q1
 | true=>exact⟨.bl true,H1,I1,rfl,q1⟩
theorem Ig(ha:PE X a ta):PE X (.UnaryOp .Not a pos) (KQ ta):=by
 intro pins s σ H Q I h
 refine UnaryOp_ (thn (ha pins s σ H _ I h) fun v s1 ⟨x,H1,I1,r1,q1⟩=>?_)
 obtain⟨c,rfl,q1⟩:=q1
 cases r1
 exact not_of (wpAny_truthy_bool ⟨.bl (!c),H1,I1,rfl,q1⟩)
def tIf(t:TT)(ta tb:TE):TE:=fun σ H Q=>t σ H fun c H1=>if c=true then ta σ H1 Q else tb σ H1 Q
theorem lQ{c:Expr}(hc:PT X c tA)(ha:PE X a ta)(hb:PE X b tb):PE X (.IfExp c a b pos) (tIf tA ta tb):=by
 intro pins s σ H Q I h
 refine wpAny_IfExp (thn (hc pins s σ H _ I h) fun d s1 ⟨H1,I1,q1⟩=>?_)
 cases d with
 | true=>exact ha pins s1 σ H1 Q I1 q1
 | false=>exact hb pins s1 σ H1 Q I1 q1
end
end L2
namespace L2
open PySem PySem.Spec PyProof.Rows
def SqL(K:PySem.W.Frag)(H:Hp)(a:Addr)(xs:List V):Prop :=
 Rd H a (.lst xs) \/
  ∃ (o:Obj) (its:Array Value) (n:Nat),K.lookup a=some o/\o.cls=.type "list"/\o.dict=none/\o.data=.seq its n/\its.size<=sizeLine/\Vals xs its.toList
def SqT(K:PySem.W.Frag)(H:Hp)(a:Addr)(xs:List V):Prop :=
 Rd H a (.tup xs) \/
  ∃ (o:Obj) (its:Array Value) (n:Nat),K.lookup a=some o/\o.cls=.type "tuple"/\o.data=.seq its n/\its.size<=sizeLine/\Vals xs its.toList
def W5:Value->Option V
 | .none=>some .non
 | .bool b=>some (.bl b)
 | .int i _=>some (.int i)
 | .str x _=>some (.str x)
 | .bytes b _=>some (.byt b)
 | .float b _=>some (.flt b)
 | .ref a=>some (.ref a)
 | .type n=>some (.ty n)
 | _=>none
theorem RelV.abs{x:V}{u:Value}(r:RelV x u):W5 u=some x:=by
 cases x with
 | non=>cases r;rfl
 | bl _=>cases r;rfl
 | int _=>obtain⟨t,rfl⟩:=r;rfl
 | str _=>obtain⟨t,rfl⟩:=r;rfl
 | byt _=>obtain⟨t,rfl⟩:=r;rfl
 | flt _=>obtain⟨t,rfl⟩:=r;rfl
 | ref _=>cases r;rfl
 | ty _=>cases r;rfl
theorem RelV.inj{x y:V}{u:Value}(r:RelV x u)(q:RelV y u):x=y:=Option.some.inj (r.abs.symm.trans q.abs)
theorem Vals.inj:∀ {xs ys:List V} {us:List Value},Vals xs us->Vals ys us->xs=ys
 | _,_,_,.nil,.nil=>rfl
 | _,_,_,.cons r t,.cons r' t'=>by rw[r.inj r',Vals.inj t t']
section
variable {X:Cx} {pins:List (Addr×Obj)} {σ:St} {H:Hp} {s:Shared} {a:Addr} {xs ys:List V}
theorem SqL.of{K:PySem.W.Frag}(h:H a=some (.lst xs)):SqL K H a xs:=.inl (.inl h)
theorem SqT.of{K:PySem.W.Frag}(h:H a=some (.tup xs)):SqT K H a xs:=.inl (.inl h)
theorem Inv.list(I:Inv X pins σ H s)(h:SqL X.K H a xs):∃ its:List Value,Vals xs its/\PlainL s.heap a its.toArray/\xs.length<=sizeLine:=by
 rcases h with h | ⟨o,its,n,hk,hc,hd,hs,hz,r⟩
 ·obtain⟨z,its,n,r,e⟩:=h.ok I.hok
  exact⟨its,r,⟨_,n,e,rfl,rfl,rfl⟩,z⟩
 ·refine⟨its.toList,r,⟨o,n,I.kIn a o hk,hc,hd,by simpa using hs⟩,?_⟩
  have e:=r.length
  simp only[Array.length_toList] at e
  omega
theorem Inv.tuple(I:Inv X pins σ H s)(h:SqT X.K H a xs):∃ its:List Value,Vals xs its/\IsTup s.heap a its.toArray/\xs.length<=sizeLine:=by
 rcases h with h | ⟨o,its,n,hk,hc,hs,hz,r⟩
 ·obtain⟨z,its,r,p⟩:=h.ok I.hok
  exact⟨its,r,p,z⟩
 ·refine⟨its.toList,r,⟨o,I.kIn a o hk,hc,n,by simpa using hs⟩,?_⟩
  have e:=r.length
  simp only[Array.length_toList] at e
  omega
theorem Inv.list_inj(I:Inv X pins σ H s)(h:SqL X.K H a xs)(h':SqL X.K H a ys):xs=ys:=by
 obtain⟨its,r,⟨o,n,e,_,_,d⟩,_⟩:=I.list h
 obtain⟨its',r',⟨o',n',e',_,_,d'⟩,_⟩:=I.list h'
 rw[e] at e';cases e'
 rw[d] at d'
 injection d' with d1 _
 have:its=its':=by simpa using congrArg Array.toList d1
 subst this
 exact r.inj r'
theorem Inv.tuple_inj(I:Inv X pins σ H s)(h:SqT X.K H a xs)(h':SqT X.K H a ys):xs=ys:=by
 obtain⟨its,r,⟨o,e,_,n,d⟩,_⟩:=I.tuple h
 obtain⟨its',r',⟨o',e',_,n',d'⟩,_⟩:=I.tuple h'
 rw[e] at e';cases e'
 rw[d] at d'
 injection d' with d1 _
 have:its=its':=by simpa using congrArg Array.toList d1
 subst this
 exact r.inj r'
end
abbrev Cx.wish(X:Cx)(E:Value->Shared->Prop):Cx:={ X with xe:=E }
abbrev Cx.nox(X:Cx):Cx:=X.wish fun _ _=>False
theorem Cx.Ok.wish{X:Cx}(ok:X.Ok)(E:Value->Shared->Prop):(X.wish E).Ok :=
 ⟨ok.mod,ok.kind,ok.glob,ok.blt,ok.above,ok.inj,ok.has,ok.cab,ok.hd,ok.frames,ok.stk,ok.exf,ok.bs,ok.bsz,ok.noex,ok.exfs,ok.funs,ok.frf⟩
theorem Cx.Ok.unwish{X:Cx}{E:Value->Shared->Prop}(ok:(X.wish E).Ok):X.Ok :=
 ⟨ok.mod,ok.kind,ok.glob,ok.blt,ok.above,ok.inj,ok.has,ok.cab,ok.hd,ok.frames,ok.stk,ok.exf,ok.bs,ok.bsz,ok.noex,ok.exfs,ok.funs,ok.frf⟩
section
variable {X:Cx} {pins:List (Addr×Obj)} {σ:St} {H:Hp} {s:Shared} {E:Value->Shared->Prop}
theorem Inv.wish(I:Inv X pins σ H s)(E:Value->Shared->Prop):Inv (X.wish E) pins σ H s:=⟨I.ok.wish E,I.os,I.bare,I.base,I.loc,I.cell,I.free,I.freeC,I.pin,I.hok,I.len⟩
theorem Inv.unwish(I:Inv (X.wish E) pins σ H s):Inv X pins σ H s:=⟨I.ok.unwish,I.os,I.bare,I.base,I.loc,I.cell,I.free,I.freeC,I.pin,I.hok,I.len⟩
theorem SP.unwish{D:Ends}{f:Flow}{s':Shared}(h:SP (X.wish E) pins D f s'):SP X pins D f s':=by
 cases f with
 | next=>obtain⟨σ',H',I,q⟩:=h;exact⟨σ',H',I.unwish,q⟩
 | brk=>obtain⟨σ',H',I,q⟩:=h;exact⟨σ',H',I.unwish,q⟩
 | cont=>obtain⟨σ',H',I,q⟩:=h;exact⟨σ',H',I.unwish,q⟩
 | ret u=>obtain⟨v,σ',H',I,r,q⟩:=h;exact⟨v,σ',H',I.unwish,r,q⟩
end
section
variable {X:Cx} {st:Stmt} {rest:List Stmt} {t u:TS} {e:Expr} {te:TE} {pos:Pos}
def BX:TS:=fun D σ H=>D.nx σ H
def R6(t u:TS):TS:=fun D σ H=>t { D with nx:=u D } σ H
theorem uJ:PSs X [] BX:=fun _ _ σ H _ I h=>wpAny_execs_nil ⟨σ,H,I,h⟩
theorem lM(h1:PS X st t)(h2:PSs X rest u):PSs X (st::rest) (R6 t u):=by
  intro pins s σ H D I h
  refine wpAny_execs_cons (thn (h1 pins s σ H { D with nx:=u D } I h) fun f s1 q=>?_)
  cases f with
  | next =>
    obtain⟨σ',H',I',q⟩:=q
    exact h2 pins s1 σ' H' D I' q
  | ret v=>exact q
  | brk=>exact q
  | cont=>exact q
theorem CP:PS X (.Pass pos) BX:=fun _ _ σ H _ I h=>wpAny_Pass ⟨σ,H,I,h⟩
theorem Inv.quiet{pins:List (Addr×Obj)}{σ:St}{H:Hp}{s:Shared}(I:Inv X pins σ H s):interactive X.env=false:=by simp[interactive,I.ok.kind]
def KY(te:TE):TS:=fun D σ H=>te σ H fun _ H1=>D.nx σ H1
theorem iu(he:PE X e te)(hs:swapsWith e none pos.line X.env=pure false:=by rfl):PS X (.Expr e pos) (KY te):=by
 intro pins s σ H D I h
 exact wpAny_Expr_any (thn (he pins s σ H _ I h) fun v s1 ⟨x,H1,I1,r1,q1⟩=>⟨σ,H1,I1,q1⟩) I.quiet hs
def VN(te:TE):TS:=fun D σ H=>te σ H D.rt
theorem Aa(he:PE X e te):PS X (.Return (some e) pos) (VN te):=by
 intro pins s σ H D I h
 exact wpAny_Return_some (thn (he pins s σ H _ I h) fun v s1 ⟨x,H1,I1,r1,q1⟩=>⟨x,σ,H1,I1,r1,q1⟩)
def KH:TS:=fun D _ H=>D.rt .non H
theorem CN:PS X (.Return none pos) KH:=fun _ _ σ H _ I h=>wpAny_Return_none ⟨.non,σ,H,I,rfl,h⟩
def V2(c:TT)(t u:TS):TS:=fun D σ H=>c σ H fun b H1=>if b=true then t D σ H1 else u D σ H1
theorem CT{c:Expr}{a b:List Stmt}{tc:TT}(hc:PT X c tc)(ha:PSs X a t)(hb:PSs X b u):PS X (.If c a b pos) (V2 tc t u):=by
 intro pins s σ H D I h
 refine wpAny_If (thn (hc pins s σ H _ I h) fun d s1 ⟨H1,I1,q1⟩=>?_)
 cases d with
 | true=>exact ha pins s1 σ H1 D I1 q1
 | false=>exact hb pins s1 σ H1 D I1 q1
end
abbrev TG:=V->St->Hp->(St->Hp->Prop)->Prop
abbrev TGs:=List V->St->Hp->(St->Hp->Prop)->Prop
def PG(X:Cx)(target:Expr)(t:TG):Prop :=
  ∀ (pins : List (Addr × Obj)) (s : Shared) (σ : St) (H : Hp) (v : V) (u : Value) (Q : St -> Hp -> Prop), Inv X pins σ H s -> RelV v u -> t v σ H Q ->
    wpAny (model X.prog X.w) X.A (assign target X.env u) (fun _ s'=>∃ σ' H',Inv X pins σ' H' s'/\Q σ' H') X.xe s
def PGs(X:Cx)(ts:List Expr)(t:TGs):Prop :=
  ∀ (pins : List (Addr × Obj)) (s : Shared) (σ : St) (H : Hp) (vs : List V) (us : List Value) (Q : St -> Hp -> Prop), Inv X pins σ H s -> Vals vs us -> t vs σ H Q ->
    wpAny (model X.prog X.w) X.A (assignInOrder ((assignEach ts X.env).map (·.2)) us) (fun _ s'=>∃ σ' H',Inv X pins σ' H' s'/\Q σ' H') X.xe s
abbrev RX:=V->V->V->Hp->(Hp->Prop)->Prop
def VB(X:Cx)(t:RX):Prop :=
  ∀ (pins : List (Addr × Obj)) (s : Shared) (σ : St) (H : Hp) (o i v : V) (ov iv u : Value) (Q : Hp -> Prop), Inv X pins σ H s -> RelV o ov -> RelV i iv -> RelV v u -> t o i v H Q ->
    wpAny (model X.prog X.w) X.A (setItem ov iv u) (fun _ s'=>∃ H',Inv X pins σ H' s'/\Q H') X.xe s
section
variable {X:Cx} {pos:Pos}
def yQ(i:Nat):TG:=fun v σ H Q=>Q (σ.set i (some v)) H
theorem Df{i:Nat}{x:Str}(hN:X.N.Nodup)(hi:X.N[i]?=some x)(hx:Loc X.env.scope x)(hf:X.fn x=true\/X.env.scope.names.lookup x=some .local:=by first | exact .inl rfl | exact .inr rfl | assumption):PG X (.Name x pos) (yQ i):=by
 intro pins s σ H v u Q I r h
 exact wpAny_assign_Name (dU I hN hi hx r (fun s' I'=>⟨_,H,I',h⟩) hf)
def WM:TGs:=fun vs σ H Q=>vs=[]/\Q σ H
def RJ(t:TG)(u:TGs):TGs:=fun vs σ H Q=>∃ v r,vs=v::r/\t v σ H fun σ' H'=>u r σ' H' Q
theorem Dd:PGs X [] WM:=by
 intro pins s σ H vs us Q I r h
 obtain⟨e,h⟩:=h
 subst e
 cases r
 exact assignInOrder_nil ⟨σ,H,I,h⟩
theorem yp{e:Expr}{es:List Expr}{t:TG}{u:TGs}(h1:PG X e t)(h2:PGs X es u)
    (hs:(assignEach (e::es) X.env).map (·.2)=assign e X.env::(assignEach es X.env).map (·.2):=by rfl):PGs X (e::es) (RJ t u):=by
  intro pins s σ H vs us Q I r h
  obtain⟨v,vr,e1,h⟩:=h
  subst e1
  cases r with
  | cons r rr =>
    rw[hs]
    refine assignInOrder_cons (thn (h1 pins s σ H _ _ _ I r h) fun _ s1 ⟨σ1,H1,I1,q1⟩=>?_)
    exact h2 pins s1 σ1 H1 _ _ Q I1 rr q1
def gTup(K:PySem.W.Frag)(n:Nat)(t:TGs):TG:=fun v σ H Q=>∃ a xs,v=.ref a/\SqT K H a xs/\xs.length=n/\t xs σ H Q
theorem Ab{es:List Expr}{k:Nat}{t:TGs}{n:Nat}(hc:X.calm=true)(h:PGs X es t)
  (hn:(assignEach es X.env).length=n:=by rfl) (hst:(assignEach es X.env).findIdx? (·.1)=none:=by rfl):PG X (.Tuple es k pos) (gTup X.K n t):=by
 intro pins s σ H v u Q I r hw
 obtain⟨a,xs,e1,hq,hl,hw⟩:=hw
 subst e1
 cases r
 obtain⟨its,rv,ht,hz⟩:=I.tuple hq
 refine assign_Tuple_tuple (I.ok.hd hc) ht (by simp[hn,<- hl,rv.length]) hst fun h' hx=>?_
 have I1:Inv X pins σ H { s with heap:=h' }:=I.kept (t':=s.toks) fun b o e=>hx b o (Nat.ne_of_lt (Heap.lt_size e)) e
 exact h pins _ σ H xs _ Q I1 (by simpa using rv) hw
def WL(to ti:TE)(t:RX):TG:=fun v σ H Q=>to σ H fun o H1=>ti σ H1 fun i H2=>t o i v H2 fun H3=>Q σ H3
theorem uQ{o i:Expr}{to ti:TE}{t:RX}(ho:PE X o to)(hi:PE X i ti)(hs:VB X t)
    (ha:∀ v,assign (.Subscript o i pos) X.env v=(do
      let ov <- holding [v] (eval o X.env)
      let iv <- holding [v,ov] (eval i X.env)
      standAt pos
      holding [v,ov,iv] (setItem ov iv v)
      release [v,ov,iv] []):=by intro _;rfl):PG X (.Subscript o i pos) (WL to ti t):=by
  intro pins s σ H v u Q I r h
  rw[ha]
  refine wpAny_bind (wpAny_holding (thn (ho pins s σ H _ I h) fun ov s1 ⟨x,H1,I1,r1,q1⟩=>?_))
  refine wpAny_bind (wpAny_holding (thn (hi pins s1 σ H1 _ I1 q1) fun iv s2 ⟨y,H2,I2,r2,q2⟩=>?_))
  refine wpAny_bind (wpAny_standAt (wpAny_bind (wpAny_holding (thn (hs pins s2 σ H2 x y v ov iv u _ I2 r1 r2 r q2) fun _ s3 ⟨H3,I3,q3⟩=>?_))))
  exact wpAny_release ⟨σ,H3,I3,q3⟩
def J6(te:TE)(g:TG):TS:=fun D σ H=>te σ H fun x H1=>g x σ H1 D.nx
theorem qM{tg e:Expr}{te:TE}{g:TG}(he:PE X e te)(hg:PG X tg g)(hs:swapsWithSole [tg] e pos.line X.env=pure false:=by rfl)(hw:swappedStores [tg] e X.env=pure none:=by rfl)
  (h1:(assignEach [tg] X.env).map (·.2)=[assign tg X.env]:=by rfl):PS X (.Assign [tg] e pos) (J6 te g):=by
 intro pins s σ H D I h
 refine wpAny_Assign_stores (thn (he pins s σ H _ I h) fun v s1 ⟨x,H1,I1,r1,q1⟩=>?_) hs hw
 rw[h1]
 exact thn (hg pins s1 σ H1 x v _ I1 r1 q1) fun _ s2 q=>q
theorem jo{i:Nat}{x:Str}{e:Expr}{te:TE}{pos':Pos}(hN:X.N.Nodup)(hi:X.N[i]?=some x)(hx:Loc X.env.scope x)(he:PE X e te)(hs:swapsWith e (some (.Name x pos')) pos.line X.env=pure false:=by rfl)(hf:X.fn x=true\/X.env.scope.names.lookup x=some .local:=by first | exact .inl rfl | exact .inr rfl | assumption) :
  PS X (.Assign [.Name x pos'] e pos) (J6 te (yQ i)):=by
 intro pins s σ H D I h
 refine wpAny_Assign_Name (thn (he pins s σ H _ I h) fun v s1 ⟨y,H1,I1,r1,q1⟩=>?_) hs
 exact dU I1 hN hi hx r1 (fun s2 I2=>⟨_,H1,I2,q1⟩) hf
def VP(i j:Nat)(ta:TA):TS:=fun D σ H=>ta σ H fun vs H1=>∃ v w,vs=[v,w]/\D.nx ((σ.set i (some v)).set j (some w)) H1
theorem HD{i j:Nat}{x y:Str}{a b:Expr}{ta:TA}{px py pt:Pos}{kt k2 pt2}(hc:X.calm=true)(hN:X.N.Nodup)(hi:X.N[i]?=some x)(hj:X.N[j]?=some y)(hij:i≠j)
    (hx:X.env.scope.names.lookup x=some .local) (hy:X.env.scope.names.lookup y=some .local) (ha:PA X [a,b] ta)
    (hw:swappedStores [.Tuple [.Name x px,.Name y py] kt pt] (.Tuple [a,b] k2 pt2) X.env=pure (some [x,y]))
    (hs:swapsWithSole [.Tuple [.Name x px,.Name y py] kt pt] (.Tuple [a,b] k2 pt2) pos.line X.env=pure false:=by rfl) :
    PS X (.Assign [.Tuple [.Name x px,.Name y py] kt pt] (.Tuple [a,b] k2 pt2) pos) (VP i j ta):=by
  intro pins s σ H D I h
  rw[exec_Assign_arm]
  refine wpAny_bind (wpAny_standAt ?_)
  rw[hs]
  refine wpAny_bind (wpAny_pure ?_)
  rw[if_neg (by decide)]
  refine wpAny_bind (Tuple_ (thn (ha _ pins s σ H _ I h) fun us s1 ⟨vs,H1,I1,r1,q1⟩=>?_))
  obtain⟨v,w,e1,q1⟩:=q1
  subst e1
  obtain⟨u1,u2,rfl,rv,rw'⟩:∃ u1 u2,us=[u1,u2]/\RelV v u1/\RelV w u2:=by
    cases r1 with
    | cons p q =>
      cases q with
      | cons p' q' =>
        cases q'
        exact⟨_,_,rfl,p,p'⟩
  refine wpAny_newObj_type ?_ (by show 2<=sizeLine;decide)
  have I2:Inv X pins σ H1 { s1 with heap:=s1.heap.push { cls:=.type "tuple",data:=.seq [u1,u2].toArray } }:=I1.kept (t':=s1.toks) fun b o e=>Heap.get?_push_of_some _ e
  rw[hw]
  refine wpAny_bind (wpAny_pure ?_)
  show wpAny (model X.prog X.w) X.A (do rule "assign.swapped-stores";let items <- unpackItems (.ref s1.heap.objs.size) 2 none;assignInOrder [fun v=>bindName X.env y v,fun v=>bindName X.env x v] items.reverse;pure Flow.next) _ _ _
  refine wpAny_bind (wpAny_rule (wpAny_bind (unpackItems_tuple (items := #[u1,u2]) (I.ok.hd hc) (IsTup.new s1.heap _) fun h' hx'=>?_)))
  have I3:=I2.kept (h':=h') (t':=s1.toks) fun b o e=>hx' b o (Nat.ne_of_lt (Heap.lt_size e)) e
  show wpAny _ _ (assignInOrder [fun v=>bindName X.env y v,fun v=>bindName X.env x v] [u2,u1] >>=fun _=>pure Flow.next) _ _ _
  refine wpAny_bind (assignInOrder_cons (wpAny_bindName (dU I3 hN hj (.inl hy) rw' (fun s2 I4=>?_) (.inr hy))))
  refine assignInOrder_cons (wpAny_bindName (dU I4 hN hi (.inl hx) rv (fun s3 I5=>assignInOrder_nil (wpAny_pure ?_)) (.inr hx)))
  rw[List.set_comm _ _ (Ne.symm hij)] at I5
  exact⟨_,H1,I5,q1⟩
end
section
variable {X:Cx} {pos:Pos}
def GR(c:TT)(tb:TS):TS:=fun D σ H=>∃ W:Nat->St->Hp->Prop,(∃ m,W m σ H)/\∀ m σ H,W m σ H ->
 c σ H fun b H1=>if b=true then ∃ N:St->Hp->Prop,(∀ σ' H',N σ' H'->∃ m',m'<m/\W m' σ' H')/\tb { D with nx:=N,ct:=N,bk:=D.nx } σ H1 else D.nx σ H1
theorem xY{c:Expr}{body:List Stmt}{tc:TT}{tb:TS}(hp:PassesOwn (model X.prog X.w) X.A X.env X.xe)(hc:PT X c tc)(hb:PSs X body tb):PS X (.While c body [] pos) (GR tc tb):=by
  intro pins s σ H D I h
  obtain⟨W,⟨m0,w0⟩,turn⟩:=h
  refine wpAny_While (codeAny_whileLoop (fun n s'=>∃ σ' H',Inv X pins σ' H' s'/\W n σ' H') ?_ m0 ⟨σ,H,I,w0⟩)
  rintro n s1 ⟨σ1,H1,I1,w1⟩
  refine wpAny_passesOwn hp (thn (hc pins s1 σ1 H1 _ I1 (turn n σ1 H1 w1)) fun b s2 ⟨H2,I2,q2⟩=>?_)
  cases b with
  | true =>
    obtain⟨N,hN,q2⟩:=q2
    rw[if_pos rfl]
    refine wpAny_passesOwn hp (thn (hb pins s2 σ1 H2 _ I2 q2) fun f s3 q3=>?_)
    cases f with
    | next =>
      obtain⟨σ3,H3,I3,n3⟩:=q3
      obtain⟨m',hm,w3⟩:=hN σ3 H3 n3
      exact⟨m',hm,σ3,H3,I3,w3⟩
    | cont =>
      obtain⟨σ3,H3,I3,n3⟩:=q3
      obtain⟨m',hm,w3⟩:=hN σ3 H3 n3
      exact⟨m',hm,σ3,H3,I3,w3⟩
    | brk=>exact q3
    | ret v=>exact q3
  | false =>
    rw[if_neg Bool.false_ne_true]
    exact wpAny_execs_nil ⟨σ1,H2,I2,q2⟩
end
structure It where
 go:Nat->Hp->Prop
 yld:Nat->Hp->V->Hp->Prop
 stop:Nat->Hp->Prop
def tM(X:Cx)(pins:List (Addr×Obj))(H:Hp)(b:Addr):Prop :=
 H b=none/\b≠X.env.locals/\b∉X.fs/\(b∈X.ex\/X.s₀.heap.objs.size<=b)/\(∀ x c,X.env.cells.lookup x=some c->c≠b)/\∀ p∈X.pn++pins,p.1≠b
theorem Inv.fpOk{X:Cx}{pins:List (Addr×Obj)}{σ:St}{H H':Hp}{s:Shared}{b:Addr}(I:Inv X pins σ H s)(hb:s.heap.objs.size<=b)(hn:H' b=none):tM X pins H' b:=by
 refine⟨hn,Nat.ne_of_gt (Nat.lt_of_lt_of_le I.lt hb),I.nofs hb,.inr (Nat.le_trans I.sz hb),fun x c e z=>?_,fun p hp z=>?_⟩
 ·obtain⟨v,q⟩:=I.cell x c e
  exact absurd (Nat.lt_of_lt_of_le q.lt (by rw[z];exact hb)) (Nat.lt_irrefl _)
 ·exact absurd (Nat.lt_of_lt_of_le (Heap.lt_size (I.pin p hp).1) (by rw[z];exact hb)) (Nat.lt_irrefl _)
structure Turn (P:Program) (w:World) (K:PySem.W.Frag) (tg:Expr) (J:It) (fp:List Addr) (it:Addr) (tn:Nat->Heap->Prop):Prop where
  mem:it∈fp
  obj:∀ i h,tn i h->∀ b∈fp,∃ o,h.get? b=some o/\∀ v,o.data≠.cell v
  keep:∀ i h h',tn i h->(∀ b∈fp,∀ o,h.get? b=some o->h'.get? b=some o)->tn i h'
  item:∀ (X:Cx),X.prog=P->X.w=w->X.K=K->X.calm=true->∀ (i:Nat) (pins:List (Addr×Obj)) (s:Shared) (σ:St) (H:Hp) (E:Value->Shared->Prop),Inv X pins σ H s->(∀ b∈fp,tM X pins H b)->tn i s.heap->J.go i H ->
    wpAny (model P w) X.A (pyNext (.ref it)) (fun r s1=>∃ u,r=some u /\
      wpAny (model P w) X.A (letOwnedTupleGo tg (.ref it) u) (fun _ s2=>∃ x H',Inv X pins σ H' s2/\RelV x u/\J.yld i H x H'/\tn (i+1) s2.heap/\∀ b∈fp,H' b=none) E s1) E s
  done:∀ (X:Cx),X.prog=P->X.w=w->X.K=K->X.calm=true->∀ (i:Nat) (pins:List (Addr×Obj)) (s:Shared) (σ:St) (H:Hp) (E:Value->Shared->Prop),Inv X pins σ H s->(∀ b∈fp,tM X pins H b)->tn i s.heap->J.stop i H ->
    wpAny (model P w) X.A (pyNext (.ref it)) (fun r s1=>r=none/\Inv X pins σ H s1) E s
  self:∀ (A:Around) (i:Nat) (s:Shared) (Q:Value->Shared->Prop) (E:Value->Shared->Prop),tn i s.heap->Q (.ref it) s->wpAny (model P w) A (pyIter (.ref it)) Q E s
abbrev TI:=St->Hp->(It->Hp->Prop)->Prop
def PIE(X:Cx)(pins:List (Addr×Obj))(σ:St)(tg:Expr)(R:It->Hp->Prop)(itv:Value)(s2:Shared):Prop :=
 ∃ (it:Addr) (fp:List Addr) (tn:Nat->Heap->Prop) (J:It) (H':Hp),itv=.ref it/\Inv X pins σ H' s2/\Turn X.prog X.w X.K tg J fp it tn/\tn 0 s2.heap/\(∀ b∈fp,tM X pins H' b)/\R J H'
def PI(X:Cx)(tg iter:Expr)(wi:TI):Prop :=
  ∀ (pins : List (Addr × Obj)) (s : Shared) (σ : St) (H : Hp) (R : It -> Hp -> Prop), Inv X pins σ H s -> wi σ H R ->
    wpAny (model X.prog X.w) X.A (eval iter X.env) (fun v s1=>wpAny (model X.prog X.w) X.A (pyIter v) (PIE X pins σ tg R) X.xe s1) X.xe s
theorem yO{M:Model}{A:Around}{E:Value->Shared->Prop}{s:Shared}{tg:Expr}{it:Addr}{u:Value}{o:Obj}{n:String}{vs:Array Value}{Q:Unit->Shared->Prop}(ho:s.heap.get? it=some o)(hc:o.cls=.type n)(hd:o.data=.fields vs)
    (hn:["enumerate","zip","dict_itemiterator","dict_reverseitemiterator","odict_iterator","itertools.zip_longest","itertools.pairwise"].contains n=false) (hQ:Q () s):wpAny M A (letOwnedTupleGo tg (.ref it) u) Q E s:=by
  unfold letOwnedTupleGo
  cases tg<;>first
    | exact wpAny_pure hQ
    | (cases u<;>first
        | exact wpAny_pure hQ
        | (refine wpAny_bind (wpAny_load ho ?_)
           rw[hc,hd]
           show wpAny M A (if(["enumerate","zip","dict_itemiterator","dict_reverseitemiterator","odict_iterator","itertools.zip_longest","itertools.pairwise"].contains n&&vs[0]?==some (rawInt _))=true then _ else _) Q E s
           rw[if_neg (by intro h;rw[hn,Bool.false_and] at h;cases h)]
           exact wpAny_pure hQ))
def Itl(K:PySem.W.Frag)(a:Addr):It :=
 ⟨fun i H=>∃ xs x,SqL K H a xs/\xs[i]?=some x,fun i H x H'=>H'=H/\∀ xs,SqL K H a xs->xs[i]?=some x,fun i H=>∃ xs,SqL K H a xs/\xs.length<=i⟩
def Itt(K:PySem.W.Frag)(a:Addr):It :=
 ⟨fun i H=>∃ xs x,SqT K H a xs/\xs[i]?=some x,fun i H x H'=>H'=H/\∀ xs,SqT K H a xs->xs[i]?=some x,fun i H=>∃ xs,SqT K H a xs/\xs.length<=i⟩
def Itr(lo:Int)(n:Nat):It:=⟨fun i _=>i<n,fun i H x H'=>H'=H/\x=.int (lo+i),fun i _=>n<=i⟩
theorem um{P:Program}{w:World}{K:PySem.W.Frag}{tg:Expr}(a it:Addr):Turn P w K tg (Itl K a) [it] it (fun i h=>h.IsListIter it a i) where
 mem:=by simp
 obj:=fun i h st b hb=>by
  have e:b=it:=by simpa using hb
  subst e
  obtain⟨o,e,c,d⟩:=st
  exact⟨o,e,fun v z=>by rw[d] at z;cases z⟩
 keep:=fun i h h' st k=>st.at fun o e=>k it (by simp) o e
 item:=by
  intro X hP hw hK hc i pins s σ H E I hf st hg
  subst hP hw hK
  obtain⟨xs,x,hq,hx⟩:=hg
  obtain⟨its,rv,p,hz⟩:=I.list hq
  obtain⟨u,hu,ru⟩:=rv.get hx
  obtain⟨f0,f1,f2,f3,f4,f5⟩:=hf it (by simp)
  refine wpAny_pyNext_list_item st p.isList (x:=u) (by simpa using hu) fun h' st' sb=>?_
  have I1:Inv X pins σ H { s with heap:=h' }:=I.turned (t':=s.toks) (fun b o hb e=>(sb.2 b hb).trans e) f0 f1 f3 f4 f5
  obtain⟨o,e,c,d⟩:=id st'
  exact⟨u,rfl,yO (s:={ s with heap:=h' }) e c d (by decide) ⟨x,H,I1,ru,⟨rfl,fun ys hy=>by rw[I.list_inj hy hq];exact hx⟩,st',fun b hb=>(hf b hb).1⟩⟩
 done:=by
  intro X hP hw hK hc i pins s σ H E I hf st hg
  subst hP hw hK
  obtain⟨xs,hq,hx⟩:=hg
  obtain⟨its,rv,p,hz⟩:=I.list hq
  obtain⟨f0,f1,f2,f3,f4,f5⟩:=hf it (by simp)
  have hl:=rv.length
  exact wpAny_pyNext_list_end (I.ok.hd hc) st p.isList (by simp;omega) fun h' eb=>⟨rfl,I.turned (t':=s.toks) (fun b o hb e=>eb b o hb e) f0 f1 f3 f4 f5⟩
 self:=fun _ _ _ _ _ st h=>wpAny_pyIter_listiter st h
theorem rP{P:Program}{w:World}{K:PySem.W.Frag}{tg:Expr}(a it:Addr):Turn P w K tg (Itt K a) [it] it (fun i h=>h.IsTupleIter it a i) where
 mem:=by simp
 obj:=fun i h st b hb=>by
  have e:b=it:=by simpa using hb
  subst e
  obtain⟨o,e,c,d⟩:=st
  exact⟨o,e,fun v z=>by rw[d] at z;cases z⟩
 keep:=fun i h h' st k=>st.at fun o e=>k it (by simp) o e
 item:=by
  intro X hP hw hK hc i pins s σ H E I hf st hg
  subst hP hw hK
  obtain⟨xs,x,hq,hx⟩:=hg
  obtain⟨its,rv,p,hz⟩:=I.tuple hq
  obtain⟨u,hu,ru⟩:=rv.get hx
  obtain⟨f0,f1,f2,f3,f4,f5⟩:=hf it (by simp)
  refine wpAny_pyNext_tuple_item st (show s.heap.IsTuple a its.toArray from p) (x:=u) (by simpa using hu) fun h' st' sb=>?_
  have I1:Inv X pins σ H { s with heap:=h' }:=I.turned (t':=s.toks) (fun b o hb e=>(sb.2 b hb).trans e) f0 f1 f3 f4 f5
  obtain⟨o,e,c,d⟩:=id st'
  exact⟨u,rfl,yO (s:={ s with heap:=h' }) e c d (by decide) ⟨x,H,I1,ru,⟨rfl,fun ys hy=>by rw[I.tuple_inj hy hq];exact hx⟩,st',fun b hb=>(hf b hb).1⟩⟩
 done:=by
  intro X hP hw hK hc i pins s σ H E I hf st hg
  subst hP hw hK
  obtain⟨xs,hq,hx⟩:=hg
  obtain⟨its,rv,p,hz⟩:=I.tuple hq
  obtain⟨f0,f1,f2,f3,f4,f5⟩:=hf it (by simp)
  have hl:=rv.length
  exact wpAny_pyNext_tuple_end (I.ok.hd hc) st (show s.heap.IsTuple a its.toArray from p) (by simp;omega) fun h' eb=>⟨rfl,I.turned (t':=s.toks) (fun b o hb e=>eb b o hb e) f0 f1 f3 f4 f5⟩
 self:=fun _ _ _ _ _ st h=>wpAny_pyIter_tupleiter st h
theorem rQ{P:Program}{w:World}{K:PySem.W.Frag}{tg:Expr}(it:Addr)(lo:Int)(n:Nat):Turn P w K tg (Itr lo n) [it] it (fun i h=>IsRangeIter h it (lo+(i:Nat)*1) ((n:Int)-(i:Nat)) 1) where
  mem:=by simp
  obj:=fun i h st b hb=>by
    have e:b=it:=by simpa using hb
    subst e
    exact⟨_,st,fun v z=>by
      have z':Data.fields _=Data.cell v:=z
      cases z'⟩
  keep:=fun i h h' st k=>k it (by simp) _ st
  item:=by
    intro X hP hw hK hc i pins s σ H E I hf st hg
    subst hP hw hK
    obtain⟨f0,f1,f2,f3,f4,f5⟩:=hf it (by simp)
    have W:=Walks.range (prog:=X.prog) (w:=X.w) (I.ok.hd hc) it lo 1 n
    refine W.item i s _ _ hg st fun v h' tk hv st' kk=>?_
    obtain⟨t,rfl⟩:=hv
    have I1:Inv X pins σ H { s with heap:=h',toks:=tk }:=I.turned (fun b o hb e=>kk b o (by simpa using hb) e) f0 f1 f3 f4 f5
    refine⟨_,rfl,yO (s:={ s with heap:=h',toks:=tk }) (n:="range_iterator") st' rfl rfl (by decide) ⟨.int (lo+i),H,I1,⟨t,?_⟩,⟨rfl,rfl⟩,st',fun b hb=>(hf b hb).1⟩⟩
    rw[Int.mul_one]
  done:=by
    intro X hP hw hK hc i pins s σ H E I hf st hg
    subst hP hw hK
    obtain⟨f0,f1,f2,f3,f4,f5⟩:=hf it (by simp)
    exact wpAny_pyNext_range_end (I.ok.hd hc) st (by have:n<=i:=hg;omega) fun h' eb=>⟨rfl,I.turned (t':=s.toks) (fun b o hb e=>eb b o hb e) f0 f1 f3 f4 f5⟩
  self:=fun _ _ _ _ _ st h=>wpAny_pyIter_rangeiter st h
end L2
namespace L2
open PySem PySem.Spec PyProof.Rows
section
variable {X:Cx} {tg:Expr}
def Ru(K:PySem.W.Frag)(tl:TE):TI:=fun σ H R=>tl σ H fun x H1=>∃ a,x=.ref a/\(∃ xs,SqL K H1 a xs)/\R (Itl K a) H1
def Wz(K:PySem.W.Frag)(tl:TE):TI:=fun σ H R=>tl σ H fun x H1=>∃ a,x=.ref a/\(∃ xs,SqT K H1 a xs)/\R (Itt K a) H1
theorem Dc{l:Expr}{tl:TE}(hl:PE X l tl):PI X tg l (Ru X.K tl):=by
 intro pins s σ H R I h
 refine thn (hl pins s σ H _ I h) fun v s1 ⟨x,H1,I1,r1,q1⟩=>?_
 obtain⟨a,e,⟨xs,hq⟩,q⟩:=q1
 subst e
 cases r1
 obtain⟨its,rv,p,hz⟩:=I1.list hq
 refine wpAny_pyIter_list p.isList ?_
 refine⟨s1.heap.objs.size,[s1.heap.objs.size],_,_,H1,rfl,I1.kept (t':=s1.toks) fun b o e=>Heap.get?_push_of_some _ e,um a _,⟨_,Heap.get?_push_size _ rfl,rfl,rfl⟩,fun b hb=>?_,q⟩
 have e:b=s1.heap.objs.size:=by simpa using hb
 subst e
 exact I1.fpOk (Nat.le_refl _) (I1.hok.fresh (Nat.le_refl _))
theorem HX{l:Expr}{tl:TE}(hl:PE X l tl):PI X tg l (Wz X.K tl):=by
 intro pins s σ H R I h
 refine thn (hl pins s σ H _ I h) fun v s1 ⟨x,H1,I1,r1,q1⟩=>?_
 obtain⟨a,e,⟨xs,hq⟩,q⟩:=q1
 subst e
 cases r1
 obtain⟨its,rv,p,hz⟩:=I1.tuple hq
 refine wpAny_pyIter_tuple (show s1.heap.IsTuple a its.toArray from p) ?_
 refine⟨s1.heap.objs.size,[s1.heap.objs.size],_,_,H1,rfl,I1.kept (t':=s1.toks) fun b o e=>Heap.get?_push_of_some _ e,rP a _,⟨_,Heap.get?_push_size _ rfl,rfl,rfl⟩,fun b hb=>?_,q⟩
 have e:b=s1.heap.objs.size:=by simpa using hb
 subst e
 exact I1.fpOk (Nat.le_refl _) (I1.hok.fresh (Nat.le_refl _))
theorem qK{pins:List (Addr×Obj)}{σ:St}{H:Hp}{s:Shared}{R:It->Hp->Prop}{E:Value->Shared->Prop}{lo hi:Int}{t u v:Tok}{tk:Nat}(I:Inv X pins σ H s)(h1:-(2^62)<=lo)(h2:lo<2^62)(h3:-(2^62)<=hi)(h4:hi<2^62)
    (q:R (Itr lo (hi-lo).toNat) H):wpAny (model X.prog X.w) X.A (pyIter (.ref s.heap.objs.size)) (PIE X pins σ tg R) E { s with heap:=s.heap.push { cls:=.type "range",data:=.fields #[.int lo t,.int hi u,.int 1 v] },toks:=tk }:=by
  refine wpAny_pyIter_range (IsRange.new ..) (small_one h1 h2 h3 h4) ?_
  have I1:Inv X pins σ H { s with heap:=s.heap.push { cls:=.type "range",data:=.fields #[.int lo t,.int hi u,.int 1 v] },toks:=tk }:=I.kept fun b o e=>Heap.get?_push_of_some _ e
  refine⟨(s.heap.push { cls:=.type "range",data:=.fields #[.int lo t,.int hi u,.int 1 v] }).objs.size,[(s.heap.push { cls:=.type "range",data:=.fields #[.int lo t,.int hi u,.int 1 v] }).objs.size],_,_,H,rfl,
    I1.kept (t':=tk) fun b o e=>Heap.get?_push_of_some _ e,rQ _ lo (hi-lo).toNat,?_,fun b hb=>?_,q⟩
  · have e1:lo+((0:Nat):Int)*1=lo:=by simp
    have e2:(((hi-lo).toNat:Nat):Int)-((0:Nat):Int)=Builtin.Range.rangeSize lo hi 1:=by rw[rangeSize_one];split<;>omega
    show IsRangeIter _ _ (lo+((0:Nat):Int)*1) ((((hi-lo).toNat:Nat):Int)-((0:Nat):Int)) 1
    rw[e1,e2]
    exact Heap.get?_push_size _ rfl
  · have e:b=(s.heap.push { cls:=.type "range",data:=.fields #[.int lo t,.int hi u,.int 1 v] }).objs.size:=by simpa using hb
    subst e
    exact I1.fpOk (Nat.le_refl _) (I1.hok.fresh (Nat.le_refl _))
def Rr(ta:TA):TI:=fun σ H R=>ta σ H fun vs H1=>∃ j:Int,vs=[.int j] /\ -(2^62)<=j/\j<2^62/\R (Itr 0 j.toNat) H1
def Rq(ta:TA):TI:=fun σ H R=>ta σ H fun vs H1=>∃ i j:Int,vs=[.int i,.int j]/\(-(2^62)<=i/\i<2^62 /\ -(2^62)<=j/\j<2^62)/\R (Itr i (j-i).toNat) H1
theorem uP{a:Expr}{ta:TA}{p pos:Pos}(hg:Gl X "range")(hm:X.mg "range"=none)(ha:PA X [a] ta)(hs:starEach [a] X.env=[(false,eval a X.env)]:=by rfl):PI X tg (.Call (.Name "range" p) [a] [] pos) (Rr ta):=by
  intro pins s σ H R I h
  refine Call_ (eX I hg hm boot_range (PyProof.Rows.callWith_type1 (thn (ha pos pins s σ H _ I h) fun us s1 ⟨vs,H1,I1,r1,q1⟩=>?_) hs rfl))
  obtain⟨j,e,q1,q2,q⟩:=q1
  subst e
  cases r1 with
  | cons r rr =>
    cases rr
    obtain⟨t,rfl⟩:=r
    exact call_range_1 (qK I1 (by omega) (by omega) q1 q2 (by simpa using q))
theorem uO{a b:Expr}{ta:TA}{p pos:Pos}(hg:Gl X "range")(hm:X.mg "range"=none)(ha:PA X [a,b] ta)(hs:starEach [a,b] X.env=[(false,eval a X.env),(false,eval b X.env)]:=by rfl)(hs2:starEach [b] X.env=[(false,eval b X.env)]:=by rfl) :
    PI X tg (.Call (.Name "range" p) [a,b] [] pos) (Rq ta):=by
  intro pins s σ H R I h
  refine Call_ (eX I hg hm boot_range (PyProof.Rows.callWith_type1 (thn (ha pos pins s σ H _ I h) fun us s1 ⟨vs,H1,I1,r1,q1⟩=>?_) (by rw[hs,hs2]) (by rw[hs2];rfl)))
  obtain⟨i,j,e,⟨q1,q2,q3,q4⟩,q⟩:=q1
  subst e
  cases r1 with
  | cons r rr =>
    cases rr with
    | cons r' rr =>
      cases rr
      obtain⟨t,rfl⟩:=r
      obtain⟨t',rfl⟩:=r'
      exact call_range_2 (qK I1 q1 q2 q3 q4 q)
def V3(wi:TI)(g:TG)(tb:TS):TS:=fun D σ H=>wi σ H fun J H1=>∃ W:Nat->Nat->St->Hp->Prop,(∃ m,W 0 m σ H1)/\∀ i m σ H,W i m σ H ->
 (J.stop i H/\D.nx σ H)\/(J.go i H/\∃ N:St->Hp->Prop,(∀ σ' H',N σ' H'->∃ m',m'<m/\W (i+1) m' σ' H')/\∀ x H',J.yld i H x H'->g x σ H' fun σ2 H2=>tb { D with nx:=N,ct:=N,bk:=D.nx } σ2 H2)
def nq(fp:List Addr)(h:Heap):List (Addr×Obj):=fp.filterMap fun b=>(h.get? b).map fun o=>(b,o)
theorem fK{fp:List Addr}{h:Heap}{b:Addr}{o:Obj}(hb:b∈fp)(e:h.get? b=some o):(b,o)∈nq fp h:=List.mem_filterMap.mpr ⟨b,hb,by rw[e];rfl⟩
theorem uW{fp:List Addr}{h:Heap}{p:Addr×Obj}(hp:p∈nq fp h):p.1∈fp/\h.get? p.1=some p.2:=by
  obtain⟨b,hb,e⟩:=List.mem_filterMap.mp hp
  cases q:h.get? b with
  | none=>rw[q] at e;cases e
  | some o =>
    rw[q] at e
    have e':(b,o)=p:=Option.some.inj e
    subst e'
    exact⟨hb,q⟩
theorem Inv.pinned{pins:List (Addr×Obj)}{σ:St}{H:Hp}{s:Shared}{fp:List Addr}(I:Inv X pins σ H s)(hf:∀ b∈fp,tM X pins H b)(ho:∀ b∈fp,∃ o,s.heap.get? b=some o/\∀ v,o.data≠.cell v):Inv X (pins++nq fp s.heap) σ H s :=
 I.pins_of fun p hp=>(List.mem_append.mp hp).elim (fun z=>I.pin p (List.mem_append_right _ z)) fun z=>by
  obtain⟨hb,e⟩:=uW z
  obtain⟨f0,f1,f2,_⟩:=hf p.1 hb
  obtain⟨o,e',d⟩:=ho p.1 hb
  rw[e] at e';cases e'
  exact⟨e,f0,f1,f2,d⟩
theorem Inv.unpinned{pins pl:List (Addr×Obj)}{σ:St}{H:Hp}{s:Shared}(I:Inv X (pins++pl) σ H s):Inv X pins σ H s:=I.pins_of fun p hp=>I.pin p (List.mem_append_right _ (List.mem_append_left _ hp))
theorem HF{iter:Expr}{body:List Stmt}{wi:TI}{g:TG}{tb:TS}{pos:Pos}(hp:PassesOwn (model X.prog X.w) X.A X.env X.xe)(hc:X.calm=true)(hi:PI X tg iter wi)(hg:PG X tg g)(hb:PSs X body tb)
  (hs:∀ x,foldedSetIterable iter X.env x=pure x:=by intro _;rfl):PS X (.For tg iter body [] pos) (V3 wi g tb):=by
 intro pins s σ H D I h
 refine wpAny_For (thn (hi pins s σ H _ I h) fun v s1 h1=>thn h1 fun itv s2 h2=>?_) hs
 obtain⟨it,fp,tn,J,H2,e,I2,T,st2,f2,W,⟨m0,w0⟩,turn⟩:=h2
 subst e
 have stat:∀ {H':Hp},(∀ b∈fp,H' b=none)->∀ b∈fp,tM X pins H' b:=fun hn b hb=>⟨hn b hb,(f2 b hb).2⟩
 refine codeAny_forLoop_any (fun n s'=>∃ i σ' H',Inv X pins σ' H' s'/\tn i s'.heap/\(∀ b∈fp,H' b=none)/\W i n σ' H') ?_ m0 ⟨0,σ,H2,I2,st2,fun b hb=>(f2 b hb).1,w0⟩
 rintro n s3 ⟨i,σ3,H3,I3,st3,fr3,w3⟩
 rcases turn i n σ3 H3 w3 with⟨stop,qn⟩ | ⟨go,N,hN,step⟩
 ·refine wpAny_passesOwn hp (thn (T.done X rfl rfl rfl hc i pins s3 σ3 H3 X.xe I3 (stat fr3) st3 stop) fun r s4 ⟨hr,I4⟩=>?_)
  subst hr
  exact wpAny_execs_nil ⟨σ3,H3,I4,qn⟩
 ·refine wpAny_passesOwn hp (thn (T.item X rfl rfl rfl hc i pins s3 σ3 H3 X.xe I3 (stat fr3) st3 go) fun r s4 ⟨u,hr,h4⟩=>?_)
  subst hr
  refine wpAny_passesOwn hp (thn h4 fun _ s5 ⟨x,H5,I5,r5,y5,st5,fr5⟩=>?_)
  have I5':=I5.pinned (stat fr5) (T.obj _ _ st5)
  refine wpAny_passesOwn hp (thn (hg _ s5 σ3 H5 x u _ I5' r5 (step x H5 y5)) fun _ s6 ⟨σ6,H6,I6,q6⟩=>?_)
  refine wpAny_passesOwn hp (thn (hb _ s6 σ6 H6 _ I6 q6) fun f s7 q7=>?_)
  have again:∀ {σ7:St} {H7:Hp},Inv X (pins++nq fp s5.heap) σ7 H7 s7->N σ7 H7->∃ m,m<n/\∃ i σ' H',Inv X pins σ' H' s7/\tn i s7.heap/\(∀ b∈fp,H' b=none)/\W i m σ' H':=fun {σ7 H7} I7 n7=>by
   obtain⟨m',hm,w7⟩:=hN σ7 H7 n7
   refine⟨m',hm,i+1,σ7,H7,I7.unpinned,T.keep _ _ _ st5 fun b hb o e=>(I7.pin (b,o) (List.mem_append_right _ (List.mem_append_right _ (fK hb e)))).1,fun b hb=>?_,w7⟩
   obtain⟨o,e,d⟩:=T.obj _ _ st5 b hb
   exact(I7.pin (b,o) (List.mem_append_right _ (List.mem_append_right _ (fK hb e)))).2.1
  cases f with
  | next=>obtain⟨σ7,H7,I7,n7⟩:=q7;exact again I7 n7
  | cont=>obtain⟨σ7,H7,I7,n7⟩:=q7;exact again I7 n7
  | brk=>obtain⟨σ7,H7,I7,q7⟩:=q7;exact⟨σ7,H7,I7.unpinned,q7⟩
  | ret v=>obtain⟨x7,σ7,H7,I7,r7,q7⟩:=q7;exact⟨x7,σ7,H7,I7.unpinned,r7,q7⟩
end
end L2
namespace L2
open PySem PySem.Spec PyProof.Rows
abbrev R2:=V->V->Hp->VK->Prop
def OpR(X:Cx)(f:Value->Value->Sem Value)(r:R2):Prop :=
  ∀ (pins : List (Addr × Obj)) (s : Shared) (σ : St) (H : Hp) (x y : V) (v u : Value) (Q : VK), Inv X pins σ H s -> RelV x v -> RelV y u -> r x y H Q ->
    wpAny (model X.prog X.w) X.A (f v u) (EP X pins σ Q) X.xe s
def UnR(X:Cx)(f:Value->Sem Value)(r:V->Hp->VK->Prop):Prop :=
  ∀ (pins : List (Addr × Obj)) (s : Shared) (σ : St) (H : Hp) (x : V) (v : Value) (Q : VK), Inv X pins σ H s -> RelV x v -> r x H Q ->
    wpAny (model X.prog X.w) X.A (f v) (EP X pins σ Q) X.xe s
def eE(X:Cx)(f:Value)(r:List V->Hp->VK->Prop):Prop :=
  ∀ (pins : List (Addr × Obj)) (s : Shared) (σ : St) (H : Hp) (xs : List V) (us : List Value) (Q : VK), Inv X pins σ H s -> Vals xs us -> r xs H Q ->
    wpAny (model X.prog X.w) X.A (call f us) (EP X pins σ Q) X.xe s
def tOp(r:R2)(ta tb:TE):TE:=fun σ H Q=>ta σ H fun x H1=>tb σ H1 fun y H2=>r x y H2 Q
def tUn(r:V->Hp->VK->Prop)(ta:TE):TE:=fun σ H Q=>ta σ H fun x H1=>r x H1 Q
def rI(C:Int->Int->Prop)(g:Int->Int->V):R2:=fun x y H Q=>∃ i j,x=.int i/\y=.int j/\C i j/\Q (g i j) H
def rI0(g:Int->Int->V):R2:=fun x y H Q=>∃ i j,x=.int i/\y=.int j/\Q (g i j) H
def rU(g:Int->V):V->Hp->VK->Prop:=fun x H Q=>∃ i,x=.int i/\Q (g i) H
section
variable {X:Cx} {a b c:Expr} {ta tb tc:TE} {pos:Pos}
theorem RT(ha:PE X a ta)(hb:PE X b tb){pins:List (Addr×Obj)}{s:Shared}{σ:St}{H:Hp}{R:V->V->Hp->Prop}(I:Inv X pins σ H s)
  (h:ta σ H fun x H1=>tb σ H1 fun y H2=>R x y H2) {Q:Value->Shared->Prop} {f:Value->Value->Sem Value}
  (hf:∀ v u s2 x y H2,Inv X pins σ H2 s2->RelV x v->RelV y u->R x y H2->wpAny (model X.prog X.w) X.A (f v u) Q X.xe s2) :
  wpAny (model X.prog X.w) X.A (eval a X.env) (fun v s₁=>wpAny (model X.prog X.w) X.A (eval b X.env) (fun u s₂=>wpAny (model X.prog X.w) X.A (f v u) Q X.xe s₂) X.xe s₁) X.xe s:=by
 refine thn (ha pins s σ H _ I h) fun v s1 ⟨x,H1,I1,r1,q1⟩=>?_
 refine thn (hb pins s1 σ H1 _ I1 q1) fun u s2 ⟨y,H2,I2,r2,q2⟩=>?_
 exact hf v u s2 x y H2 I2 r1 r2 q2
theorem iT{op:Operator}{r:R2}(ho:OpR X (binaryOp op) r)(ha:PE X a ta)(hb:PE X b tb):PE X (.BinOp a op b pos) (tOp r ta tb):=by
 intro pins s σ H Q I h
 exact wpAny_BinOp (RT ha hb I h fun v u s2 x y H2 I2 rx ry q=>ho pins s2 σ H2 x y v u Q I2 rx ry q)
theorem LK{op:UnaryOp}{r:V->Hp->VK->Prop}(ho:UnR X (unaryOp op) r)(ha:PE X a ta):PE X (.UnaryOp op a pos) (tUn r ta):=by
 intro pins s σ H Q I h
 exact UnaryOp_ (thn (ha pins s σ H _ I h) fun v s1 ⟨x,H1,I1,r1,q1⟩=>ho pins s1 σ H1 x v Q I1 r1 q1)
theorem opI{f:Value->Value->Sem Value}{C:Int->Int->Prop}{g:Int->Int->Int}
  (rule:∀ (i j:Int) (t u:Tok) (s:Shared) (Q:Value->Shared->Prop) (E:Value->Shared->Prop),C i j->Q (.int (g i j) s.toks) { s with toks:=s.toks+1 }->wpAny (model X.prog X.w) X.A (f (.int i t) (.int j u)) Q E s) :
  OpR X f (rI C fun i j=>.int (g i j)):=by
 intro pins s σ H x y v u Q I rx ry h
 obtain⟨i,j,rfl,rfl,hc,q⟩:=h
 obtain⟨t,rfl⟩:=rx
 obtain⟨t',rfl⟩:=ry
 exact rule i j t t' s _ _ hc ⟨.int (g i j),H,I.tok _,⟨_,rfl⟩,q⟩
theorem Sg{f:Value->Value->Sem Value}{g:Int->Int->Int}
  (rule:∀ (i j:Int) (t u:Tok) (s:Shared) (Q:Value->Shared->Prop) (E:Value->Shared->Prop),Q (.int (g i j) s.toks) { s with toks:=s.toks+1 }->wpAny (model X.prog X.w) X.A (f (.int i t) (.int j u)) Q E s) :
  OpR X f (rI0 fun i j=>.int (g i j)):=by
 intro pins s σ H x y v u Q I rx ry h
 obtain⟨i,j,rfl,rfl,q⟩:=h
 obtain⟨t,rfl⟩:=rx
 obtain⟨t',rfl⟩:=ry
 exact rule i j t t' s _ _ ⟨.int (g i j),H,I.tok _,⟨_,rfl⟩,q⟩
theorem Kd{f:Value->Value->Sem Value}{g:Int->Int->Bool}
  (rule:∀ (i j:Int) (t u:Tok) (s:Shared) (Q:Value->Shared->Prop) (E:Value->Shared->Prop),Q (.bool (g i j)) s->wpAny (model X.prog X.w) X.A (f (.int i t) (.int j u)) Q E s) :
  OpR X f (rI0 fun i j=>.bl (g i j)):=by
 intro pins s σ H x y v u Q I rx ry h
 obtain⟨i,j,rfl,rfl,q⟩:=h
 obtain⟨t,rfl⟩:=rx
 obtain⟨t',rfl⟩:=ry
 exact rule i j t t' s _ _ ⟨.bl (g i j),H,I,rfl,q⟩
def W6(i j:Int):Prop:=0<j/\j<1073741824
def RZ(i j:Int):Prop:=(-(2^64)<i/\i<2^64)\/(-(2^64)<j/\j<2^64)
theorem RZ.ok{i j:Int}(h:RZ i j):IntMulOk i j:=by
 rcases h with⟨h1,h2⟩ | ⟨h1,h2⟩
 ·exact .of_left (intBits_le_64 h1 h2)
 ·exact .of_right (intBits_le_64 h1 h2)
theorem Ag:OpR X (binaryOp .Add) (rI0 fun i j=>.int (i+j)):=Sg fun _ _ _ _ _ _ _ q=>add_int q
theorem Ij:OpR X (binaryOp .Sub) (rI0 fun i j=>.int (i-j)):=Sg fun _ _ _ _ _ _ _ q=>sub_int q
theorem Dt:OpR X (binaryOp .FloorDiv) (rI W6 fun i j=>.int (i / j)):=opI fun i j _ _ _ _ _ hc q=>by
 have h1:(0:Int)<j:=hc.1
 have h2:j<1073741824:=hc.2
 exact floordiv_int (by omega) (by rw[Int.fdiv_eq_ediv_of_nonneg i (by omega)];exact q) (.inl (PyProof.noPylong_small (by omega)))
theorem Ik:OpR X (binaryOp .Mod) (rI (fun _ j=>0<j) fun i j=>.int (i%j)):=opI fun i j _ _ _ _ _ hc q=>by
 have h1:(0:Int)<j:=hc
 exact mod_int' (by omega) (by rw[Int.fmod_eq_emod_of_nonneg i (by omega)];exact q)
theorem Ds:OpR X (binaryOp .Mod) (rI (fun _ j=>j≠0) fun i j=>.int (i.fmod j)):=opI fun _ _ _ _ _ _ _ hc q=>mod_int' hc q
theorem unI{f:Value->Sem Value}{g:Int->Int}
  (rule:∀ (i:Int) (t:Tok) (s:Shared) (Q:Value->Shared->Prop) (E:Value->Shared->Prop),Q (.int (g i) s.toks) { s with toks:=s.toks+1 }->wpAny (model X.prog X.w) X.A (f (.int i t)) Q E s) :
  UnR X f (rU fun i=>.int (g i)):=by
 intro pins s σ H x v Q I rx h
 obtain⟨i,rfl,q⟩:=h
 obtain⟨t,rfl⟩:=rx
 exact rule i t s _ _ ⟨.int (g i),H,I.tok _,⟨_,rfl⟩,q⟩
theorem GK:UnR X (unaryOp .USub) (rU fun i=>.int (-i)):=unI fun _ _ _ _ _ q=>neg_int q
end
section
variable {X:Cx} {a b c:Expr} {ta tb tc:TE} {pos:Pos}
theorem Bc{pins:List (Addr×Obj)}{σ:St}{H:Hp}{s:Shared}{Q:VK}{k k':Bool}(I:Inv X pins σ H s)(q:Q (.bl k) H)(e:k=k'):EP X pins σ Q (.bool k') s:=by
 subst e
 exact⟨.bl k,H,I,rfl,q⟩
theorem Ma:OpR X (compareOp .Lt) (rI0 fun i j=>.bl (decide (i<j))):=Kd fun _ _ _ _ _ _ _ q=>lt_int q
theorem Mf:OpR X (compareOp .LtE) (rI0 fun i j=>.bl (decide (i<=j))):=Kd fun _ _ _ _ _ _ _ q=>le_int q
theorem Mg:OpR X (compareOp .Gt) (rI0 fun i j=>.bl (decide (j<i))):=Kd fun _ _ _ _ _ _ _ q=>gt_int q
theorem Mh:OpR X (compareOp .GtE) (rI0 fun i j=>.bl (decide (j<=i))):=Kd fun _ _ _ _ _ _ _ q=>ge_int q
theorem Il:OpR X (compareOp .Is) (fun x y H Q=>y=.non/\Q (.bl (decide (x=.non))) H):=by
 intro pins s σ H x y v u Q I rx ry h
 obtain⟨rfl,q⟩:=h
 cases ry
 refine is_none_gen (Bc I q ?_)
 cases x<;>first
  | (cases rx;rfl)
  | (obtain⟨t,rfl⟩:=rx;rfl)
theorem Dp:OpR X (compareOp .IsNot) (fun x y H Q=>y=.non/\Q (.bl (!decide (x=.non))) H):=by
 intro pins s σ H x y v u Q I rx ry h
 obtain⟨rfl,q⟩:=h
 cases ry
 refine isnot_none_gen (Bc I q ?_)
 cases x<;>first
  | (cases rx;rfl)
  | (obtain⟨t,rfl⟩:=rx;rfl)
theorem Dk{op:CmpOp}{r:R2}(ho:OpR X (compareOp op) r)(ha:PE X a ta)(hb:PE X b tb)(hm:behindInMarks op b=false):PE X (.Compare a [op] [b] pos) (tOp r ta tb):=by
 intro pins s σ H Q I h
 exact wpAny_Compare1 (RT ha hb I h fun v u s2 x y H2 I2 rx ry q=>ho pins s2 σ H2 x y v u Q I2 rx ry q) hm
def G3(t:TE):TT:=fun σ H Q=>t σ H fun x H'=>∃ k,x=.bl k/\Q k H'
theorem CK{op:CmpOp}{r:R2}(ho:OpR X (compareOp op) r)(ha:PE X a ta)(hb:PE X b tb)(hm:behindInMarks op b=false):PT X (.Compare a [op] [b] pos) (G3 (tOp r ta tb)):=by
  intro pins s σ H Q I h
  refine wpAny_isTrue_Compare1 (thn (ha pins s σ H _ I h) fun v s1 ⟨x,H1,I1,r1,q1⟩=>thn (hb pins s1 σ H1 _ I1 q1) fun u s2 ⟨y,H2,I2,r2,q2⟩ =>
    thn (ho pins s2 σ H2 x y v u _ I2 r1 r2 q2) fun c s3 ⟨z,H3,I3,r3,k,e,q3⟩=>?_) hm
  subst e
  cases r3
  exact wpAny_truthy_bool ⟨H3,I3,q3⟩
def uq(r r':R2)(ta tb tc:TE):TE:=fun σ H Q=>ta σ H fun x H1=>tb σ H1 fun y H2=>r x y H2 fun z H3=>∃ k,z=.bl k /\
 (if k=true then tc σ H3 fun w' H4=>r' y w' H4 Q else Q (.bl false) H3)
theorem yr{op op':CmpOp}{r r':R2}(ho:OpR X (compareOp op) r)(ho':OpR X (compareOp op') r')(ha:PE X a ta)(hb:PE X b tb)(hc:PE X c tc)
    (hm:lastMarks [op,op'] [b,c]=false:=by with_unfolding_all rfl):PE X (.Compare a [op,op'] [b,c] pos) (uq r r' ta tb tc):=by
  intro pins s σ H Q I h
  refine Compare_chain (thn (ha pins s σ H _ I h) fun v s1 ⟨x,H1,I1,r1,q1⟩=>chain_link (thn (hb pins s1 σ H1 _ I1 q1) fun u s2 ⟨y,H2,I2,r2,q2⟩ =>
    thn (ho pins s2 σ H2 x y v u _ I2 r1 r2 q2) fun d s3 ⟨z,H3,I3,r3,k,e,q3⟩=>?_)) hm
  subst e
  cases r3
  refine wpAny_truthy_bool ?_
  cases k with
  | false=>exact ite_ff ⟨.bl false,H3,I3,rfl,q3⟩
  | true=>exact ite_tt (chain_last (thn (hc pins s3 σ H3 _ I3 q3) fun w' s4 ⟨z',H4,I4,r4,q4⟩=>ho' pins s4 σ H4 y z' u w' Q I4 r2 r4 q4))
theorem xX{op op':CmpOp}{r r':R2}(ho:OpR X (compareOp op) r)(ho':OpR X (compareOp op') r')(ha:PE X a ta)(hb:PE X b tb)(hc:PE X c tc)
    (hm:lastMarks [op,op'] [b,c]=false:=by with_unfolding_all rfl):PT X (.Compare a [op,op'] [b,c] pos) (G3 (uq r r' ta tb tc)):=by
  intro pins s σ H Q I h
  refine isTrue_chain (thn (ha pins s σ H _ I h) fun v s1 ⟨x,H1,I1,r1,q1⟩=>test_link (thn (hb pins s1 σ H1 _ I1 q1) fun u s2 ⟨y,H2,I2,r2,q2⟩ =>
    thn (ho pins s2 σ H2 x y v u _ I2 r1 r2 q2) fun d s3 ⟨z,H3,I3,r3,k,e,q3⟩=>?_)) hm
  subst e
  cases r3
  refine wpAny_truthy_bool ?_
  cases k with
  | false =>
    obtain⟨k',e',q'⟩:=q3
    cases e'
    exact ite_ff ⟨H3,I3,q'⟩
  | true =>
    refine ite_tt (test_last (thn (hc pins s3 σ H3 _ I3 q3) fun w' s4 ⟨z',H4,I4,r4,q4⟩=>thn (ho' pins s4 σ H4 y z' u w' _ I4 r2 r4 q4) fun d' s5 ⟨z2,H5,I5,r5,k2,e2,q5⟩=>?_))
    subst e2
    cases r5
    exact wpAny_truthy_bool ⟨H5,I5,q5⟩
theorem nJ:(sizeLine:Nat)<2^63:=by rw[sizeLine_eq];decide
theorem vals1{x:V}{us:List Value}(r:Vals [x] us):∃ u,us=[u]/\RelV x u:=by
 cases r with
 | cons r1 r2=>cases r2;exact⟨_,rfl,r1⟩
theorem zJ:eE X (.builtin "abs") (fun xs H Q=>∃ i,xs=[.int i]/\Q (.int (if i<0 then -i else i)) H):=by
 intro pins s σ H xs us Q I r h
 obtain⟨i,rfl,q⟩:=h
 obtain⟨u,rfl,t,rfl⟩:=vals1 r
 exact call_abs_int fun u tk=>⟨.int (if i<0 then -i else i),H,I.tok _,⟨_,rfl⟩,q⟩
theorem oh:eE X (.type "int") (fun xs H Q=>(∃ i,xs=[.int i]/\Q (.int i) H)\/∃ k,xs=[.bl k]/\Q (.int (if k then 1 else 0)) H):=by
 intro pins s σ H xs us Q I r h
 rcases h with⟨i,rfl,q⟩ | ⟨k,rfl,q⟩
 ·obtain⟨u,rfl,t,rfl⟩:=vals1 r
  exact call_int_int ⟨.int i,H,I,⟨_,rfl⟩,q⟩
 ·obtain⟨u,rfl,r1⟩:=vals1 r
  cases r1
  exact call_int_bool ⟨.int (if k then 1 else 0),H,I.tok _,⟨_,rfl⟩,q⟩
end
end L2
namespace L2
open PySem PySem.Spec PyProof.Rows
section
variable {prog:Program} {w:World} {A:Around} {E:Value->Shared->Prop} {s:Shared} {K:PySem.W.Frag} {x dx C f:Addr} {mA:Str->Option Value} {name:Str} {v:Value}
end
theorem Gn.some_of{v:V}{o:Option Value}(r:Gn (some v) o):∃ u,o=some u/\RelV v u:=by
 cases o with
 | none=>exact(show False from r).elim
 | some u=>exact⟨u,rfl,r⟩
section
variable {P:Program} {w:World} {H H':Hp} {h h':Heap} {a C dx:Addr} {fs fs':List (Str×V)}
end
section
variable {X:Cx} {pins:List (Addr×Obj)} {σ:St} {H:Hp} {s:Shared} {a C dx:Addr} {fs:List (Str×V)} {f:Str} {v:V} {A:Around} {E:Value->Shared->Prop}
end
section
variable {X:Cx} {o e value:Expr} {f:Str} {pos pos' tpos:Pos} {ta tv:TE}
end
section
variable {X:Cx} {pins:List (Addr×Obj)} {σ:St} {H:Hp} {s:Shared} {A:Around} {E:Value->Shared->Prop} {Q:Value->Shared->Prop} {c:Value} {b:Bool}
end
end L2
namespace L2
open PySem PySem.Spec PyProof.Rows
structure Room (k:Nat) (A:Around):Prop where
 hd:A.handled=none
 dp:A.depth+3*k+5<recursionLimit
 un:A.units+16*k+200<cLine
theorem Room.deeper{k:Nat}{A:Around}(r:Room (k+1) A)(env:Env):Room k (A.deeper env) :=
 ⟨r.hd,by have:=r.dp;show A.depth+1+3*k+5<_;omega,by have:=r.un;show A.units+3+16*k+200<_;omega⟩
theorem Room.depth{k:Nat}{A:Around}(r:Room k A):A.depth<recursionLimit:=by have:=r.dp;omega
def R7:TA:=fun _ H Q=>Q [] H
def G4(ta:TE)(tr:TA):TA:=fun σ H Q=>ta σ H fun x H1=>tr σ H1 fun xs H2=>Q (x::xs) H2
section
variable {X:Cx} {e:Expr} {es:List Expr} {te:TE} {t:TA} {pos:Pos}
theorem cL:PA X [] R7:=fun _ _ _ _ H Q I h=>Calls.spliced_nil ⟨[],H,I,.nil,h⟩
theorem bf(ha:PE X e te)(hr:PA X es t)(hs:starEach (e::es) X.env=(false,eval e X.env)::starEach es X.env:=by rfl):PA X (e::es) (G4 te t):=by
 intro pos pins s σ H Q I h
 rw[hs]
 show wpAny _ _ (spliced ((false,eval e X.env)::backTo pos (starEach es X.env))) _ _ s
 refine Calls.spliced_cons (thn (ha pins s σ H _ I h) fun u s1 ⟨x,H1,I1,r1,q1⟩=>?_)
 exact thn (hr pos pins s1 σ H1 _ I1 q1) fun us s2 ⟨xs,H2,I2,r2,q2⟩=>⟨x::xs,H2,I2,.cons r1 r2,q2⟩
def VL(t:TA):TE:=fun σ H Q=>t σ H fun xs H1=>xs.length<=sizeLine/\∀ p,H1 p=none->Q (.ref p) (upd H1 p (.tup xs))
def V1(t:TA):TE:=fun σ H Q=>t σ H fun xs H1=>xs.length<=sizeLine/\∀ p,H1 p=none->Q (.ref p) (upd H1 p (.lst xs))
theorem Ia{x1}(h:PA X es t):PE X (.Tuple es x1 pos) (VL t):=by
 intro pins s σ H Q I hq
 refine wpAny_Tuple_spliced (thn (h pos pins s σ H _ I hq) fun us s1 ⟨xs,H1,I1,r,z,q⟩=>⟨by rw[<- r.length];exact z,?_⟩)
 have hf:H1 s1.heap.objs.size=none:=I1.hok.fresh (Nat.le_refl _)
 refine⟨.ref s1.heap.objs.size,upd H1 s1.heap.objs.size (.tup xs),I1.laid (t':=s1.toks) (fun b u e=>Heap.get?_push_of_some _ e) (Nat.le_refl _) ?_,rfl,q _ hf⟩
 exact⟨z,us,r,⟨_,Heap.get?_push_size _ rfl,rfl,_,rfl⟩⟩
theorem Ad(h:PA X es t):PE X (.List es pos) (V1 t):=by
 intro pins s σ H Q I hq
 refine wpAny_List_spliced (thn (h pos pins s σ H _ I hq) fun us s1 ⟨xs,H1,I1,r,z,q⟩=>⟨by rw[<- r.length];exact z,?_⟩)
 have hf:H1 s1.heap.objs.size=none:=I1.hok.fresh (Nat.le_refl _)
 refine⟨.ref s1.heap.objs.size,upd H1 s1.heap.objs.size (.lst xs),I1.laid (t':=s1.toks) (fun b u e=>Heap.get?_push_of_some _ e) (Nat.le_refl _) ?_,rfl,q _ hf⟩
 exact⟨z,us,0,r,Heap.get?_push_size _ rfl⟩
end
abbrev Sp:=List V->Hp->VK->XK->Prop
abbrev CXT:=List Env->Hp->Shared->XK->Value->Shared->Prop
structure Env0 (P:Program) (w:World) (K:PySem.W.Frag) (mg:Str->Option Value) (base:Heap) (A:Around) (outer:List Env) (s:Shared) (H:Hp):Prop where
 frames:A.frames=some outer
 mod:Mod K mg base
 bs:∀ b o,base.get? b=some o->s.heap.get? b=some o/\H b=none
 bsz:base.objs.size<=s.heap.objs.size
 funs:s.heap.FunFrames base outer
 frf:∀ b∈frs outer,H b=none
 hok:HOk P w H s.heap
 bare:AllBare s.gens
def CE(outer:List Env)(P:Program)(w:World)(H:Hp)(s:Shared)(Q:VK)(u:Value)(s':Shared):Prop :=
 ∃ v H',s'.os=s.os/\AllBare s'.gens/\Un (frs outer) [] H H' s.heap s'.heap/\HOk P w H' s'.heap/\RelV v u/\Q v H'
def CR(CX:CXT)(outer:List Env)(P:Program)(w:World)(H:Hp)(s:Shared)(Q:VK)(E:XK)(r:Result)(s':Shared):Prop :=
 match r with
 | .ok (.ret u)=>CE outer P w H s Q u s'
 | .ok _=>False
 | .error e=>CX outer H s E e s'
structure FnOk (P:Program) (w:World) (K:PySem.W.Frag) (mg:Str->Option Value) (base:Heap) (CX:CXT) (k:Nat) (f:Addr) (fd:FuncData) (ps:List Str) (sp:Sp):Prop where
 len:∀ vs H Q E,sp vs H Q E->vs.length=ps.length
 run:∀ (A:Around) (outer:List Env) (s:Shared) (H:Hp) (args:Args) (us:List Value) (vs:List V) (Q:VK) (E:XK),Room k A->Env0 P w K mg base A outer s H->BindsTo s fd args (ps.zip us)->Vals vs us->sp vs H Q E ->
  codeAny (model P w) A (.call (.ref f) args) (CR CX outer P w H s Q E) s
theorem FnOk.imp{P:Program}{w:World}{K:PySem.W.Frag}{mg:Str->Option Value}{base:Heap}{CX:CXT}{k:Nat}{f:Addr}{fd:FuncData}{ps:List Str}{sp sp':Sp}(F:FnOk P w K mg base CX k f fd ps sp)
  (h:∀ vs H Q E,sp' vs H Q E->sp vs H Q E):FnOk P w K mg base CX k f fd ps sp' :=
 ⟨fun vs H Q E q=>F.len vs H Q E (h _ _ _ _ q),fun A outer s H args us vs Q E hr he hb hv hs=>F.run A outer s H args us vs Q E hr he hb hv (h _ _ _ _ hs)⟩
section
variable {X:Cx} {pins:List (Addr×Obj)} {σ:St} {H:Hp} {s s':Shared}
theorem Inv.env0(I:Inv X pins σ H s):Env0 X.prog X.w X.K X.mg X.base X.A X.stack s H :=
 ⟨I.ok.frames,I.ok.mod,I.bs,Nat.le_trans I.ok.bsz I.sz,I.stack,I.stkFree,I.hok,I.bare⟩
theorem Inv.after{Q:VK}{u:Value}(I:Inv X pins σ H s)(h:CE X.stack X.prog X.w H s Q u s'):EP X pins σ Q u s':=by
 obtain⟨v,H',os,bare,un,hok,r,q⟩:=h
 obtain⟨hh,g,d,t,os'⟩:=s'
 obtain rfl:os'=s.os:=os
 exact⟨v,H',I.call (h':=hh) (g':=g) (d':=d) (t':=t) (ch:=[]) un hok bare (fun b z=>absurd z (by simp)),r,q⟩
end
def K1(sp:Sp)(dvs:List V)(E:XK)(t:TA):TE:=fun σ H Q=>t σ H fun vs H1=>sp (vs++dvs) H1 Q E
def Binds(K:PySem.W.Frag)(fd:FuncData)(ps:List Str)(ds:List Value):Prop :=
 ∀ (s:Shared) (us:List Value),K.In s.heap->(us++ds).length=ps.length->BindsTo s fd ⟨us,[]⟩ (ps.zip (us++ds))
theorem Binds.all{K:PySem.W.Frag}{fd:FuncData}{ps:List Str}(h:∀ us:List Value,us.length=ps.length->bindArgs fd ⟨us,[]⟩=pure (ps.zip us)):Binds K fd ps []:=fun s us _ hl=>by
 rw[List.append_nil] at hl ⊢
 exact .of_eq (h us hl)
def Passes(CX:CXT)(X:Cx)(E:XK):Prop:=∀ (pins:List (Addr×Obj)) (σ:St) (H:Hp) (s:Shared) (e:Value) (s':Shared),Inv X pins σ H s->CX X.stack H s E e s'->X.xe e s'
section
variable {X:Cx} {CX:CXT} {k:Nat} {f C:Addr} {fd:FuncData} {ps:List Str} {sp:Sp} {dvs:List V} {ds:List Value} {E:XK} {x m:Str} {p pos apos:Pos} {e o:Expr} {es:List Expr} {ta:TE} {t:TA}
theorem Hu{pins:List (Addr×Obj)}{σ:St}{H:Hp}{s:Shared}{Q:VK}{us:List Value}{vs:List V}(F:FnOk X.prog X.w X.K X.mg X.base CX k f fd ps sp)(hr:Room k X.A)(hb:Binds X.K fd ps ds)(hd:Vals dvs ds)(hx:Passes CX X E)
    (I:Inv X pins σ H s) (r:Vals vs us) (h:sp (vs++dvs) H Q E):wpAny (model X.prog X.w) X.A (call (.ref f) us) (EP X pins σ Q) X.xe s:=by
  have r2:Vals (vs++dvs) (us++ds):=r.append hd
  have hl:(us++ds).length=ps.length:=by rw[<- r2.length];exact F.len _ _ _ _ h
  refine wpAny_call (codeAny_mono (F.run X.A X.stack s H ⟨us,[]⟩ (us++ds) (vs++dvs) Q E hr I.env0 (hb s us I.kIn hl) r2 h) fun r s' hq=>?_)
  cases r with
  | error e=>exact hx pins σ H s e s' I hq
  | ok fl =>
    cases fl with
    | ret u=>exact I.after hq
    | next=>exact False.elim hq
    | brk=>exact False.elim hq
    | cont=>exact False.elim hq
theorem Dl(F:FnOk X.prog X.w X.K X.mg X.base CX k f fd ps sp)(hr:Room k X.A)(hg:Gl X x)(hm:X.mg x=some (.ref f))(hk:PySem.W.keepIn X.K (.ref f)=true)(hb:Binds X.K fd ps ds)(hd:Vals dvs ds)(hx:Passes CX X E)
  (ha:PA X (e::es) t) (hdb:(x==("__debug__":Str))=false:=by decide) (he:starEach (e::es) X.env=(false,eval e X.env)::starEach es X.env:=by rfl) (hpl:(backTo pos (starEach es X.env)).any (·.1)=false:=by rfl) :
  PE X (.Call (.Name x p) (e::es) [] pos) (K1 sp dvs E t):=by
 intro pins s σ H Q I h
 refine wpAny_Call_Name_kw (jy I hg hm ?_ hdb)
 refine PySem.W.callWith_K (h₀:=X.base) I.ok.mod.kin hk (thn (ha pos pins s σ H _ I h) fun us s1 ⟨vs,H1,I1,r,q⟩=>⟨I1.kIn,?_⟩) he hpl
 exact Hu F hr hb hd hx I1 r q
end
section
variable {X:Cx} {CX:CXT} {k:Nat} {f C:Addr} {fd:FuncData} {ps ks:List Str} {sp:Sp} {E:XK} {x m:Str} {p pos apos kpos:Pos} {e o:Expr} {es:List Expr} {kws:List Keyword} {te ta:TE} {t tk:TA} {nm:Option Str}
variable {g:List Value->List Value->List Value} {gV:List V->List V->List V}
end
structure FnScope (N P:List Str) (sc:Scope):Prop where
 kind:sc.kind=.function
 co:sc.isCoroutine=false
 gen:sc.isGenerator=false
 nd:N.Nodup
 pre:N.take P.length=P
 par:∀ x∈P,sc.names.lookup x=some .local\/sc.names.lookup x=some .cell
 nofree:∀ y∈sc.names,y.2≠.free
theorem oE{kindOf:Str->Option NameKind}{x:Str}:∀ {binds:List (Str×Value)} {m:Str->Option Value},(∀ v,(x,v)∉binds)->bindL kindOf binds m x=m x
  | [],_,_=>rfl
  | (n, v) :: r, m, h => by
    unfold bindL
    rw[oE fun w hw=>h w (List.mem_cons_of_mem _ hw)]
    split
    · have:x≠n:=by rintro rfl;exact h v List.mem_cons_self
      simp[this]
    · rfl
theorem oG{kindOf:Str->Option NameKind}{x:Str}:∀ {binds:List (Str×Value)} {m:Str->Option Value},(∀ v,(x,v)∉binds)->bindC kindOf binds m x=m x
  | [],_,_=>rfl
  | (n, v) :: r, m, h => by
    unfold bindC
    rw[oG fun w hw=>h w (List.mem_cons_of_mem _ hw)]
    split
    · rfl
    · have:x≠n:=by rintro rfl;exact h v List.mem_cons_self
      simp[this]
theorem oF{kindOf:Str->Option NameKind}{x:Str}{v:Value}:∀ {P:List Str} {vs:List Value} {i:Nat} {m:Str->Option Value},P.Nodup->P[i]?=some x->vs[i]?=some v->kindOf x=some .local ->
    bindL kindOf (P.zip vs) m x=some v
  | [],_,_,_,_,h,_,_=>by simp at h
  | _::_,[],_,_,_,_,h,_=>by simp at h
  | p :: P, w :: vs, 0, m, nd, h1, h2, hk => by
    simp at h1 h2;subst h1;subst h2
    show bindL kindOf ((p,w)::P.zip vs) m p=_
    unfold bindL
    rw[oE fun v hv=>(List.nodup_cons.mp nd).1 (List.of_mem_zip hv).1,if_pos hk]
    simp
  | p :: P, w :: vs, i + 1, m, nd, h1, h2, hk => by
    show bindL kindOf ((p,w)::P.zip vs) m x=_
    unfold bindL
    exact oF (i:=i) (List.nodup_cons.mp nd).2 (by simpa using h1) (by simpa using h2) hk
theorem oH{kindOf:Str->Option NameKind}{x:Str}{v:Value}:∀ {P:List Str} {vs:List Value} {i:Nat} {m:Str->Option Value},P.Nodup->P[i]?=some x->vs[i]?=some v->kindOf x≠some .local ->
    bindC kindOf (P.zip vs) m x=some v
  | [],_,_,_,_,h,_,_=>by simp at h
  | _::_,[],_,_,_,_,h,_=>by simp at h
  | p :: P, w :: vs, 0, m, nd, h1, h2, hk => by
    simp at h1 h2;subst h1;subst h2
    show bindC kindOf ((p,w)::P.zip vs) m p=_
    unfold bindC
    rw[oG fun v hv=>(List.nodup_cons.mp nd).1 (List.of_mem_zip hv).1,if_neg hk]
    simp
  | p :: P, w :: vs, i + 1, m, nd, h1, h2, hk => by
    show bindC kindOf ((p,w)::P.zip vs) m x=_
    unfold bindC
    exact oH (i:=i) (List.nodup_cons.mp nd).2 (by simpa using h1) (by simpa using h2) hk
def start(N:List Str)(vs:List V):St:=vs.map some++List.replicate (N.length-vs.length) none
def iC(CX:CXT)(P:Program)(w:World)(K:PySem.W.Frag)(mg:Str->Option Value)(base:Heap)(N:List Str)(qual:Str)(scope:Scope)(f:Addr)(cd:Value)(A:Around)(outer:List Env)(s:Shared)(H:Hp)(E:XK):Cx where
 prog:=P
 w:=w
 K:=K
 mg:=mg
 base:=base
 A:=A.deeper (envOfC qual scope s.heap.objs.size f cd)
 N:=N
 s₀:=s
 H₀:=H
 env:=envOfC qual scope s.heap.objs.size f cd
 outer:=outer
 stack:=envOfC qual scope s.heap.objs.size f cd::outer
 ex:=[]
 calm:=true
 fn:=fun _=>true
 pn:=[]
 xe:=fun e s'=>wpAny (model P w) (A.deeper (envOfC qual scope s.heap.objs.size f cd)) (leaving (envOfC qual scope s.heap.objs.size f cd) e) (fun _ s''=>CX outer H s E e s'') (fun e' s''=>CX outer H s E e' s'') s'
theorem rE{sc:Scope}{n:Nat}{x:Str}(h:sc.names.lookup x=some .cell):∃ c,(cellsFrom n sc.names []).lookup x=some c:=by
 have q:=PySem.W.cellsFrom_some sc.names n [] (.inl h)
 exact Option.isSome_iff_exists.mp q
theorem vI{CX:CXT}{P:Program}{w:World}{K:PySem.W.Frag}{mg:Str->Option Value}{base:Heap}{N ps:List Str}{qual:Str}{scope:Scope}{f:Addr}{cd:Value}{A:Around}{outer:List Env}{s s1:Shared}{H:Hp}{E:XK}{us:List Value}{vs:List V}
    (S:FnScope N ps scope) (hd:A.handled=none) (e0:Env0 P w K mg base A outer s H) (hl:vs.length=ps.length) (r:Vals vs us)
    (x:InCallC s s.heap.objs.size (bindL (envOfC qual scope s.heap.objs.size f cd).kindOf (ps.zip us) fun _=>none) (cellsFrom (s.heap.objs.size+1) scope.names []) (bindC (envOfC qual scope s.heap.objs.size f cd).kindOf (ps.zip us) fun _=>none) s1) :
    Inv (iC CX P w K mg base N qual scope f cd A outer s H E) [] (start N vs) H s1:=by
  have hpl:ps.length<=N.length:=by have:=congrArg List.length S.pre;rw[List.length_take] at this;omega
  obtain⟨h1,tk,rfl,hk⟩:=x.done
  have noA:∀ b:Addr,b∉(iC CX P w K mg base N qual scope f cd A outer s H E).ex:=fun b z=>absurd (show b∈([]:List Addr) from z) (by simp)
  refine⟨⟨e0.mod,S.kind,rfl,rfl,Nat.le_refl _,fun y z c h1 h2=>?_,fun y hy=>?_,fun y c _ h=>?_,fun _=>hd,Around.frames_deeper e0.frames,.inr ⟨rfl,rfl⟩,fun b z=>absurd z (noA b),e0.bs,e0.bsz,fun b _ _=>noA b,fun b z=>absurd z (noA b),e0.funs,e0.frf⟩,
    rfl,e0.bare,Un.kept hk,⟨_,x.toInCall.ns,fun i y v h1 h2 h3=>?_⟩,fun y c h=>⟨_,x.cell y c h⟩,e0.hok.fresh (Nat.le_refl _),fun y c h=>?_,fun p hp=>absurd (show p∈([]:List (Addr×Obj)) from hp) (by simp),e0.hok.kept hk,?_⟩
  · exact name_of_addr x.apart (PySem.mem_of_lookup h1) (PySem.mem_of_lookup h2)
  · have hy:scope.names.lookup y=some .cell\/scope.names.lookup y=some .free:=hy
    rcases hy with hy | hy
    · exact rE hy
    · exact absurd rfl (S.nofree _ (PySem.mem_of_lookup hy))
  · exact Nat.le_of_lt (x.above y c (PySem.mem_of_lookup h))
  · have hi:i<vs.length:=by
      unfold start at h2
      by_cases hi:i<vs.length
      · exact hi
      · rw[List.getElem?_append_right (by simpa using hi)] at h2
        rw[List.getElem?_replicate] at h2
        split at h2<;>cases h2
    have ha:vs[i]?=some v:=by
      unfold start at h2
      rw[List.getElem?_append_left (by simpa using hi),List.getElem?_map] at h2
      cases e:vs[i]? with
      | none=>rw[e] at h2;cases h2
      | some a=>rw[e] at h2;cases h2;rfl
    obtain⟨u,hu,rv⟩:=r.get ha
    have hp:ps[i]?=some y:=by
      rw[<- S.pre,List.getElem?_take_of_lt (by omega)];exact h1
    have ndP:ps.Nodup:=by rw[<- S.pre];exact S.nd.sublist (List.take_sublist _ _)
    refine⟨u,rv,?_⟩
    rcases S.par y (List.mem_of_getElem? hp) with k | k
    · exact .inl ⟨k,oF ndP hp hu k⟩
    · obtain⟨c,e⟩:=rE (n:=s.heap.objs.size+1) k
      refine .inr ⟨.inl k,c,e,?_⟩
      have q:=x.cell y c e
      rw[oH ndP hp hu (by show scope.names.lookup y≠_;rw[k];decide)] at q
      exact q
  · exact e0.hok.fresh (Nat.le_of_lt (x.above y c (PySem.mem_of_lookup h)))
  · unfold start
    show _=N.length
    rw[List.length_append,List.length_map,List.length_replicate]
    omega
theorem RM{CX:CXT}{P:Program}{w:World}{K:PySem.W.Frag}{mg:Str->Option Value}{base:Heap}{k:Nat}{f:Addr}{name qual:Str}{params:Arguments}{body:List Stmt}{scope:Scope}{dV kV doc pm cdv ct oc:Value}{an od:Option Addr}
    {osl:Array (Option Value)} {N ps:List Str} {sp:Sp} (lk:K.lookup f=some ⟨oc,od,.func (PySem.W.fnOf name qual params body scope dV kV doc pm an cdv ct),osl⟩) (hcd:PySem.W.codeIn K cdv qual=true) (S:FnScope N ps scope)
    (len:∀ vs H Q E,sp vs H Q E->vs.length=ps.length)
    (hbody:∀ (A:Around) (outer:List Env) (s:Shared) (H:Hp) (vs:List V) (Q:VK) (E:XK),Room k (A.deeper (envOfC qual scope s.heap.objs.size f cdv))->sp vs H Q E ->
      ∃ t,PSs (iC CX P w K mg base N qual scope f cdv A outer s H E) body t/\t { nx:=fun _ H'=>Q .non H',rt:=Q } (start N vs) H) :
    FnOk P w K mg base CX (k+1) f (PySem.W.fnOf name qual params body scope dV kV doc pm an cdv ct) ps sp:=by
  refine⟨len,fun A outer s H args us vs Q E hr e0 hb r hsp=>?_⟩
  have hl:=len _ _ _ _ hsp
  have KX:K.In s.heap:=e0.mod.kin.keeps fun b o e=>(e0.bs b o e).1
  have lim:s.heap.NoLimit:=e0.mod.nolimit.keeps fun b o e=>(e0.bs b o e).1
  have hkind:∀ y∈ps.zip us,scope.names.lookup y.1=some .local\/(scope.names.lookup y.1=some .cell/\((cellsFrom (s.heap.objs.size+1) scope.names []).lookup y.1).isSome=true):=fun⟨n,v⟩ hy=>by
    rcases S.par n (List.of_mem_zip hy).1 with q | q
    · exact .inl q
    · exact .inr ⟨q,PySem.W.cellsFrom_some _ _ _ (.inl q)⟩
  refine codeAny_call_function hr.depth (KX _ _ lk) rfl S.co S.gen rfl (PySem.W.codeRec_of KX hcd) (hb _ _ _ _ ?_)
  refine wpAny_newFunctionEnv_cells S.kind hkind fun env he s1 x=>?_
  subst he
  refine⟨lim.keeps x.toInCall.keep,codeAny_func ?_⟩
  obtain⟨t,ht,hq⟩:=hbody A outer s H vs Q E (hr.deeper _) hsp
  have I:Inv (iC CX P w K mg base N qual scope f cdv A outer s H E) [] (start N vs) H s1:=vI S hr.hd e0 hl r x
  refine wpAny_mono (ht [] s1 (start N vs) H _ I hq) (fun fl s' hs=>?_) fun e s' hs=>hs
  have fin:∀ {σ':St} {H':Hp} {v:V} {u:Value},Inv (iC CX P w K mg base N qual scope f cdv A outer s H E) [] σ' H' s'->RelV v u->Q v H'->CE outer P w H s Q u s' :=
    fun {σ' H' v u} J rv q=>⟨v,H',J.os,J.bare,J.base,J.hok,rv,q⟩
  cases fl with
  | ret u =>
    obtain⟨v,σ',H',J,rv,q⟩:=hs
    exact fin J rv q
  | next =>
    obtain⟨σ',H',J,q⟩:=hs
    exact fin (v:=V.non) (u:=Value.none) J rfl q
  | brk =>
    obtain⟨_,_,_,q⟩:=hs
    exact False.elim q
  | cont =>
    obtain⟨_,_,_,q⟩:=hs
    exact False.elim q
end L2
namespace L2
open PySem PySem.Spec PyProof.Rows
section
variable {X:Cx} {x:Str} {p pos:Pos} {e:Expr} {es:List Expr} {t:TA} {id T:String} {r:List V->Hp->VK->Prop}
def tCB(r:List V->Hp->VK->Prop)(t:TA):TE:=fun σ H Q=>t σ H fun vs H1=>r vs H1 Q
theorem dw(hc:eE X (.builtin id) r)(hg:Gl X x)(hm:X.mg x=none)(hv:bootBuiltins x=some (.builtin id))(ha:PA X (e::es) t)(hn:x≠"__name__":=by decide)(hdb:(x==("__debug__":Str))=false:=by decide)
  (he:starEach (e::es) X.env=(false,eval e X.env)::starEach es X.env:=by rfl) (hpl:(backTo pos (starEach es X.env)).any (·.1)=false:=by rfl):PE X (.Call (.Name x p) (e::es) [] pos) (tCB r t):=by
 intro pins s σ H Q I h
 refine wpAny_Call_Name_kw (eX I hg hm hv ?_ hn hdb)
 exact PyProof.Rows.callWith_builtin1 (thn (ha pos pins s σ H _ I h) fun us s1 ⟨vs,H1,I1,r1,q1⟩=>hc pins s1 σ H1 vs us Q I1 r1 q1) he hpl
theorem gF(hc:eE X (.type T) r)(hg:Gl X x)(hm:X.mg x=none)(hv:bootBuiltins x=some (.type T))(ha:PA X (e::es) t)(hn:x≠"__name__":=by decide)(hdb:(x==("__debug__":Str))=false:=by decide)
  (he:starEach (e::es) X.env=(false,eval e X.env)::starEach es X.env:=by rfl) (hpl:(backTo pos (starEach es X.env)).any (·.1)=false:=by rfl):PE X (.Call (.Name x p) (e::es) [] pos) (tCB r t):=by
 intro pins s σ H Q I h
 refine wpAny_Call_Name_kw (eX I hg hm hv ?_ hn hdb)
 exact PyProof.Rows.callWith_type1 (thn (ha pos pins s σ H _ I h) fun us s1 ⟨vs,H1,I1,r1,q1⟩=>hc pins s1 σ H1 vs us Q I1 r1 q1) he hpl
end
end L2
namespace HT
open PySem PyProof.Rows
section
open PySem.SeqAt
open PySem.AutoSeq1 (wpAny_loadPart')
open PySem.MeetsSeq PySem.MeetsSeq2 PySem.MeetsSeq3
end
section
variable {prog:Program} {w:World} {A:Around} {E:Value->Shared->Prop} {s:Shared}
theorem FZ{t b:Addr}{vs ws:List Value}{Q:Value->Shared->Prop}(ht:IsTup s.heap t vs.toArray)(hb:IsTup s.heap b ws.toArray)(hv:vs≠[])
  (h1:ws=[]->Q (.ref t) s) (h2:ws≠[]->Q (.ref s.heap.objs.size) { s with heap:=s.heap.push { cls:=.type "tuple",data:=.seq (vs++ws).toArray } })
  (hsz:vs.length+ws.length<=sizeLine):wpAny (model prog w) A (binaryOp .Add (.ref t) (.ref b)) Q E s:=by
 obtain⟨⟨cls,dd,data,sl⟩,ho,hc,n,hd⟩:=id ht
 obtain⟨⟨cls2,dd2,data2,sl2⟩,ho2,hc2,n2,hd2⟩:=id hb
 simp only at hc hd hc2 hd2
 subst hc hd hc2 hd2
 have e:vs.toArray++ws.toArray=(vs++ws).toArray:=by simp
 by_cases hw:ws=[]
 ·exact concat_meets ⟨_,ho,rfl⟩ ⟨_,ho2,rfl⟩ noFill_tuple_add seq_tuple_add PySem.F.slot_tuple_add PySem.F.entry_tuple_add (PySem.F.args_tuple_add_2 _ _)
   (tuple_addW1 t b vs.toArray ws.toArray n n2 dd dd2 sl sl2 (by simpa using hv) (by simp[hw])) ⟨ho,ho2,h1 hw⟩
 ·refine concat_meets ⟨_,ho,rfl⟩ ⟨_,ho2,rfl⟩ noFill_tuple_add seq_tuple_add PySem.F.slot_tuple_add PySem.F.entry_tuple_add (PySem.F.args_tuple_add_2 _ _)
   (tuple_addW2 t b vs.toArray ws.toArray n n2 dd dd2 sl sl2 (by simpa using hv) (by simpa using hw) (by rw[List.size_toArray,List.size_toArray];exact hsz)) ⟨ho,ho2,?_⟩
  rw[e]
  exact h2 hw
def sIx(n d:Nat):Option Int->Nat
 | none=>d
 | some v=>if v<0 then(v+(n:Int)).toNat else min v.toNat n
theorem Ht(n d:Nat)(hd:d<=n)(o:Option Int):sIx n d o<=n:=by
  cases o with
  | none=>exact hd
  | some v =>
    show(if v<0 then(v+(n:Int)).toNat else min v.toNat n)<=n
    by_cases hv:v<0
    · rw[if_pos hv];omega
    · rw[if_neg hv];exact Nat.min_le_right _ _
theorem wA(v:Int)(n d:Nat):(if v<0 then max (v+(n:Int)) 0 else min v (n:Int))=((sIx n d (some v):Nat):Int):=by
 show(if v<0 then max (v+(n:Int)) 0 else min v (n:Int))=(((if v<0 then(v+(n:Int)).toNat else min v.toNat n):Nat):Int)
 by_cases hv:v<0
 ·simp only[if_pos hv];omega
 ·simp only[if_neg hv];omega
theorem tL(lo hi:Option Int)(n:Nat):Builtin.Slice.sliceAdjust lo hi 1 (n:Int)=(((sIx n 0 lo:Nat):Int),((sIx n n hi:Nat):Int)):=by
 have h1:¬ ((1:Int)<0):=by omega
 unfold Builtin.Slice.sliceAdjust
 simp only[h1,if_false]
 refine Prod.ext ?_ ?_
 ·cases lo with
  | none=>rfl
  | some v=>exact wA v n 0
 ·cases hi with
  | none=>rfl
  | some v=>exact wA v n n
theorem sH(i j:Nat):Builtin.Slice.slicePlaces (i:Int) (j:Int) 1=j-i:=by
 unfold Builtin.Slice.slicePlaces
 have h1:(1:Int)>0:=by omega
 simp only[h1,if_true,Int.ediv_one]
 split<;>omega
theorem j8{v:Value}{o:Option Int}{Q:Option Int->Shared->Prop}(p:IsPart v o)(h:Q o s):wpAny (model prog w) A (Builtin.Slice.slicePartIndex v) Q E s:=by
 cases p with
 | none=>exact slicePart_none h
 | int i t=>exact slicePart_int h
theorem eV{sl:Addr}{vl vu:Value}{lo hi:Option Int}{n:Nat}{Q:Int×Int×Nat->Shared->Prop}(hs:s.heap.IsSliceOf sl vl vu .none)(pl:IsPart vl lo)(pu:IsPart vu hi)
  (h:Q (((sIx n 0 lo:Nat):Int),1,sIx n n hi-sIx n 0 lo) s):wpAny (model prog w) A (Builtin.Slice.sliceApplied (.ref sl) (pure (n:Int))) Q E s:=by
 obtain⟨os,hos,hcs,hds⟩:=id hs
 unfold Builtin.Slice.sliceApplied Builtin.Slice.sliceFields
 refine wpAny_bind (wpAny_bind (wpAny_field hos hds (x:=vl) rfl (wpAny_bind (wpAny_field hos hds (x:=vu) rfl (wpAny_bind (wpAny_field hos hds (x:=.none) rfl (wpAny_pure ?_)))))))
 refine wpAny_bind (slicePart_none ?_)
 show wpAny _ _ (if((1:Int)==0)=true then _ else _) _ _ s
 rw[if_neg (by decide)]
 refine wpAny_bind (j8 pl (wpAny_bind (j8 pu (wpAny_bind (wpAny_pure ?_)))))
 show wpAny _ _ (match Builtin.Slice.sliceAdjust lo hi 1 (n:Int) with | (lo,hi)=>pure (lo,(1:Int),Builtin.Slice.slicePlaces lo hi 1)) _ _ s
 rw[tL lo hi n]
 show wpAny _ _ (pure (((sIx n 0 lo:Nat):Int),(1:Int),Builtin.Slice.slicePlaces ((sIx n 0 lo:Nat):Int) ((sIx n n hi:Nat):Int) 1)) _ _ s
 rw[sH]
 exact wpAny_pure h
theorem yh(xs:Array Value)(i k:Nat):((List.range k).filterMap fun(m:Nat)=>xs[((i:Int)+(m:Int)*1).toNat]?).toArray=((xs.toList.drop i).take k).toArray:=by
 have e:(fun(m:Nat)=>xs[((i:Int)+(m:Int)*1).toNat]?)=fun m=>xs[i+m]?:=by
  funext m
  have:((i:Int)+(m:Int)*1).toNat=i+m:=by omega
  rw[this]
 rw[e]
 have:=pick_run xs i k
 rw[List.filterMap_map] at this
 have e2:((fun x=>xs[x]?)∘fun x=>i+x)=fun m=>xs[i+m]?:=rfl
 rw[e2] at this
 rw[this]
theorem iz{t sl:Addr}{items:Array Value}{vl vu:Value}{lo hi:Option Int}{Q:Value->Shared->Prop}(ht:IsTup s.heap t items)(hs:s.heap.IsSliceOf sl vl vu .none)(pl:IsPart vl lo)(pu:IsPart vu hi)
    (hw:¬ (sIx items.size 0 lo=0/\sIx items.size items.size hi=items.size))
    (h:Q (.ref s.heap.objs.size) { s with heap:=s.heap.push { cls:=.type "tuple",data:=.seq ((items.toList.drop (sIx items.size 0 lo)).take (sIx items.size items.size hi-sIx items.size 0 lo)).toArray } })
    (hsz:items.size<=sizeLine):wpAny (model prog w) A (getItem (.ref t) (.ref sl)) Q E s:=by
  have htake:sizeOk (.seq ((items.toList.drop (sIx items.size 0 lo)).take (sIx items.size items.size hi-sIx items.size 0 lo)).toArray):=by
    show((items.toList.drop (sIx items.size 0 lo)).take (sIx items.size items.size hi-sIx items.size 0 lo)).toArray.size<=sizeLine
    rw[List.size_toArray,List.length_take,List.length_drop,Array.length_toList]
    omega
  have hj:sIx items.size items.size hi<=items.size:=Ht _ _ (Nat.le_refl _) hi
  obtain⟨os,hos,hcs,hds⟩:=id hs
  have hTs:s.TypeIs (.ref sl) "slice":=⟨os,hos,hcs⟩
  unfold getItem
  try with_reducible refine wpAny_holding ?_
  first | refine wpAny_bind (wpAny_pure ?_) | skip
  refine wpAny_bind (wpAny_sequenceKey ht.typeIs (by decide) ?_)
  refine wpAny_bind (wpAny_callSpecial?_slot (name:=Str.ofString "__getitem__") ht.typeIs PyProof.Rows.slot_tuple_getitem
    (wpAny_call_entry PyProof.Rows.slot_tuple_getitem ht.typeIs entry_tuple_getitem ?_ (args_tuple_getitem _ _)))
  show wpAny _ _ (Builtin.Tuple.tupleItemsOf (.ref t) >>=_) _ _ s
  refine wpAny_bind (tupleItemsOf_ ht ?_)
  refine wpAny_bind (wpAny_typeOf hTs ?_)
  rw[if_pos (by decide)]
  refine wpAny_bind (eV hs pl pu ?_)
  have hno:¬ ((((sIx items.size 0 lo:Nat):Int)==0&&(1:Int)==1&&(sIx items.size items.size hi-sIx items.size 0 lo)==items.size)=true):=by
    intro q
    rw[Bool.and_eq_true,Bool.and_eq_true] at q
    have q1:((sIx items.size 0 lo:Nat):Int)=0:=eq_of_beq q.1.1
    have q2:sIx items.size items.size hi-sIx items.size 0 lo=items.size:=eq_of_beq q.2
    exact hw ⟨by omega,by omega⟩
  show wpAny _ _ (if(((sIx items.size 0 lo:Nat):Int)==0&&(1:Int)==1&&(sIx items.size items.size hi-sIx items.size 0 lo)==items.size)=true then _ else _) _ _ s
  rw[if_neg hno,yh]
  first
    | exact wpAny_bind (m:=Builtin.Tuple.tupleExact _) (wpAny_newObj_type (wpAny_pure ⟨_,rfl,wpAny_pure h⟩) htake)
    | exact wpAny_bind (m:=Builtin.Tuple.tupleExact _) (wpAny_newObj_type (wpAny_bind (wpAny_pure (wpAny_pure ⟨_,rfl,wpAny_pure h⟩))) htake)
    | exact wpAny_bind (wpAny_bind (m:=Builtin.Tuple.tupleExact _) (wpAny_newObj_type (wpAny_pure (wpAny_pure ⟨_,rfl,wpAny_pure h⟩)) htake))
    | exact wpAny_bind (wpAny_bind (m:=Builtin.Tuple.tupleExact _) (wpAny_newObj_type (wpAny_pure ⟨_,rfl,wpAny_pure h⟩) htake))
end
end HT
namespace L2
open PySem PySem.Spec PyProof.Rows
abbrev TO:=St->Hp->(Option Int->Hp->Prop)->Prop
def PO(X:Cx)(e:Option Expr)(t:TO):Prop :=
  ∀ (pins : List (Addr × Obj)) (s : Shared) (σ : St) (H : Hp) (Q : Option Int -> Hp -> Prop), Inv X pins σ H s -> t σ H Q ->
    wpAny (model X.prog X.w) X.A (evalPart e X.env) (fun u s'=>∃ o H',Inv X pins σ H' s'/\IsPart u o/\Q o H') X.xe s
def BW:TO:=fun _ H Q=>Q none H
def KJ(t:TE):TO:=fun σ H Q=>t σ H fun x H1=>∃ i,x=.int i/\Q (some i) H1
section
variable {X:Cx} {e:Expr} {te:TE} {lo hi:Option Expr} {tl th:TO} {pos p2:Pos}
theorem CZ:PO X none BW:=by
 intro pins s σ H Q I h
 rw[evalPart_none]
 exact wpAny_pure ⟨none,H,I,.none,h⟩
theorem CW(h:PE X e te):PO X (some e) (KJ te):=by
 intro pins s σ H Q I hw
 rw[evalPart_some]
 refine thn (h pins s σ H _ I hw) fun u s1 ⟨x,H1,I1,r1,q1⟩=>?_
 obtain⟨i,rfl,q⟩:=q1
 obtain⟨t,rfl⟩:=r1
 exact⟨some i,H1,I1,.int i t,q⟩
def SlR(X:Cx)(r:V->Option Int->Option Int->Hp->VK->Prop):Prop :=
  ∀ (pins : List (Addr × Obj)) (s : Shared) (σ : St) (H : Hp) (x : V) (v vl vu : Value) (lo hi : Option Int) (sl : Addr) (Q : VK), Inv X pins σ H s -> RelV x v -> s.heap.IsSliceOf sl vl vu .none -> IsPart vl lo -> IsPart vu hi -> r x lo hi H Q ->
    ∃ T id,typeLookup (.type T) "__getitem__"=pure (some (.builtin id))/\s.TypeIs v T/\wpAny (model X.prog X.w) X.A (getItem v (.ref sl)) (EP X pins σ Q) X.xe s
def tSl(r:V->Option Int->Option Int->Hp->VK->Prop)(te:TE)(tl th:TO):TE:=fun σ H Q=>te σ H fun x H1=>tl σ H1 fun l H2=>th σ H2 fun u H3=>r x l u H3 Q
theorem lO{r:V->Option Int->Option Int->Hp->VK->Prop}(hr:SlR X r)(he:PE X e te)(hl:PO X lo tl)(hu:PO X hi th):PE X (.Subscript e (.Slice lo hi none p2) pos) (tSl r te tl th):=by
 intro pins s σ H Q I h
 refine Subscript_ (thn (he pins s σ H _ I h) fun v s1 ⟨x,H1,I1,r1,q1⟩=>?_)
 refine wpAny_Slice (thn (hl pins s1 σ H1 _ I1 q1) fun vl s2 ⟨l,H2,I2,pl,q2⟩=>thn (hu pins s2 σ H2 _ I2 q2) fun vu s3 ⟨u,H3,I3,pu,q3⟩=>?_)
 rw[evalPart_none]
 refine wpAny_pure ?_
 have I4:Inv X pins σ H3 { s3 with heap:=s3.heap.push { cls:=.type "slice",data:=.fields #[vl,vu,.none] } }:=I3.kept (t':=s3.toks) fun b ob q=>Heap.get?_push_of_some _ q
 obtain⟨T,id,hT,ht,hg⟩:=hr pins { s3 with heap:=s3.heap.push { cls:=.type "slice",data:=.fields #[vl,vu,.none] } } σ H3 x v vl vu l u s3.heap.objs.size Q I4 r1 (Heap.IsSliceOf.new ..) pl pu q3
 show wpAny (model X.prog X.w) X.A (subscriptTail e (.Slice lo hi none p2) v (.ref s3.heap.objs.size)) (EP X pins σ Q) X.xe { s3 with heap:=s3.heap.push { cls:=.type "slice",data:=.fields #[vl,vu,.none] } }
 exact tail_any (ops:=[.ref s3.heap.objs.size,v]) ht hT hg (by with_unfolding_all rfl)
def Bk(xs:List V)(lo hi:Option Int):List V:=(xs.drop (HT.sIx xs.length 0 lo)).take (HT.sIx xs.length xs.length hi-HT.sIx xs.length 0 lo)
theorem jJ(xs:List V)(lo hi:Option Int):(Bk xs lo hi).length<=xs.length:=by
 unfold Bk
 rw[List.length_take,List.length_drop]
 omega
def V9(K:PySem.W.Frag):V->Option Int->Option Int->Hp->VK->Prop:=fun x lo hi H Q=>∃ a xs,x=.ref a/\SqT K H a xs /\
 ¬ (HT.sIx xs.length 0 lo=0/\HT.sIx xs.length xs.length hi=xs.length)/\∀ p,H p=none->Q (.ref p) (upd H p (.tup (Bk xs lo hi)))
theorem Hq:SlR X (V9 X.K):=by
 intro pins s σ H x v vl vu lo hi sl Q I rx hs pl pu h
 obtain⟨a,xs,rfl,hx,hw,q⟩:=h
 cases rx
 obtain⟨its,r,ht,hz⟩:=I.tuple hx
 have hlen:its.toArray.size=xs.length:=by rw[List.size_toArray];exact r.length.symm
 refine⟨"tuple",_,PyProof.Rows.slot_tuple_getitem.lookup,ht.typeIs,?_⟩
 refine HT.iz ht hs pl pu (by rw[hlen];exact hw) ?_ (by rw[hlen];exact hz)
 rw[hlen]
 refine⟨.ref s.heap.objs.size,_,I.laid (t':=s.toks) (o:=.tup (Bk xs lo hi)) (fun b ob q=>Heap.get?_push_of_some _ q) (Nat.le_refl _) ?_,rfl,q _ (I.hok.fresh (Nat.le_refl _))⟩
 exact⟨Nat.le_trans (jJ xs lo hi) hz,_,(r.drop (HT.sIx xs.length 0 lo)).take (HT.sIx xs.length xs.length hi-HT.sIx xs.length 0 lo),IsTup.new _ _⟩
def Lr(K:PySem.W.Frag):R2:=fun x y H Q=>∃ a b xs ys,x=.ref a/\y=.ref b/\SqT K H a xs/\SqT K H b ys/\xs≠[]/\xs.length+ys.length<=sizeLine /\
 (ys=[]->Q (.ref a) H)/\(ys≠[]->∀ p,H p=none->Q (.ref p) (upd H p (.tup (xs++ys))))
theorem Vals.nil_iff{xs:List V}{us:List Value}(r:Vals xs us):us=[]↔xs=[]:=by
 cases r with
 | nil=>simp
 | cons _ _=>simp
theorem Du:OpR X (binaryOp .Add) (Lr X.K):=by
 intro pins s σ H x y v u Q I rx ry h
 obtain⟨a,b,xs,ys,rfl,rfl,ha,hb,hx,hz,q1,q2⟩:=h
 cases rx
 cases ry
 obtain⟨its,r1,p1,_⟩:=I.tuple ha
 obtain⟨its2,r2,p2,_⟩:=I.tuple hb
 refine HT.FZ p1 p2 (fun z=>hx (r1.nil_iff.mp z)) (fun z=>⟨.ref a,H,I,rfl,q1 (r2.nil_iff.mp z)⟩) (fun z=>?_) (by rw[<- r1.length,<- r2.length];exact hz)
 refine⟨.ref s.heap.objs.size,_,I.laid (t':=s.toks) (o:=.tup (xs++ys)) (fun b ob q=>Heap.get?_push_of_some _ q) (Nat.le_refl _) ?_,rfl,q2 (fun w=>z (r2.nil_iff.mpr w)) _ (I.hok.fresh (Nat.le_refl _))⟩
 exact⟨by rw[List.length_append];exact hz,_,r1.append r2,IsTup.new _ _⟩
end
end L2
namespace L2
open PySem PySem.Spec PyProof.Rows
def ixN(n:Nat)(i:Int):Option Nat:=if 0<=i then(if i<n then some i.toNat else none) else if -(n:Int)<=i then some (i+n).toNat else none
def atI{α:Type}(xs:List α)(i:Int):Option α:=(ixN xs.length i).bind fun j=>xs[j]?
theorem vG{n:Nat}{i:Int}{j:Nat}(h:ixN n i=some j):seqIndex? i n=some j/\j<n /\ -(n:Int)<=i/\i<n:=by
 unfold ixN at h
 by_cases h0:0<=i
 ·rw[if_pos h0] at h
  by_cases h1:i<n
  ·rw[if_pos h1] at h
   have e:i.toNat=j:=Option.some.inj h
   exact⟨by rw[seqIndex_of h0 h1,e],by omega,by omega,h1⟩
  ·rw[if_neg h1] at h;cases h
 ·rw[if_neg h0] at h
  by_cases h1:-(n:Int)<=i
  ·rw[if_pos h1] at h
   have e:(i+n).toNat=j:=Option.some.inj h
   exact⟨by rw[seqIndex_neg (by omega) h1,e],by omega,h1,by omega⟩
  ·rw[if_neg h1] at h;cases h
theorem wI{α:Type}{xs:List α}{i:Int}{v:α}(h:atI xs i=some v):∃ j,seqIndex? i xs.length=some j/\xs[j]?=some v/\j<xs.length /\ -(xs.length:Int)<=i/\i<xs.length:=by
  unfold atI at h
  cases e:ixN xs.length i with
  | none=>rw[e] at h;cases h
  | some j =>
    rw[e] at h
    obtain⟨h1,h2,h3,h4⟩:=vG e
    exact⟨j,h1,h,h2,h3,h4⟩
def wO(b:Expr):Prop:=∀ o i,subscripted b false o i=operate [o,i] (getItem o i)
def IxR(X:Cx)(r:R2):Prop :=
  ∀ (value slice : Expr) (pins : List (Addr × Obj)) (s : Shared) (σ : St) (H : Hp) (x y : V) (v u : Value) (Q : VK), Inv X pins σ H s -> RelV x v -> RelV y u -> r x y H Q ->
    subscripted slice false v u=operate [v,u] (getItem v u)->wpAny (model X.prog X.w) X.A (subscriptTail value slice v u) (EP X pins σ Q) X.xe s
def MtR(X:Cx)(id:String)(r:V->List V->Hp->VK->Prop):Prop :=
  ∀ (pins : List (Addr × Obj)) (s : Shared) (σ : St) (H : Hp) (x : V) (xs : List V) (v : Value) (us : List Value) (Q : VK), Inv X pins σ H s -> RelV x v -> Vals xs us -> r x xs H Q ->
    wpAny (model X.prog X.w) X.A (call (.builtin id) (v::us)) (EP X pins σ Q) X.xe s
section
variable {X:Cx} {a b:Expr} {ta tb:TE} {pos:Pos}
theorem yq{r:R2}(hr:IxR X r)(ha:PE X a ta)(hb:PE X b tb)(hs:wO b):PE X (.Subscript a b pos) (tOp r ta tb):=by
 intro pins s σ H Q I h
 exact Subscript_ (RT ha hb I h fun v u s2 x y H2 I2 rx ry q=>hr a b pins s2 σ H2 x y v u Q I2 rx ry q (hs _ _))
def Wd(K:PySem.W.Frag):R2:=fun x y H Q=>∃ p xs i v,x=.ref p/\y=.int i/\SqL K H p xs/\atI xs i=some v/\Q v H
def Wb(K:PySem.W.Frag):R2:=fun x y H Q=>∃ p xs i v,x=.ref p/\y=.int i/\SqT K H p xs/\atI xs i=some v/\Q v H
theorem pL:IxR X (Wd X.K):=by
 intro value slice pins s σ H x y v u Q I rx ry h hs
 obtain⟨p,xs,i,z,rfl,rfl,hq,he,q⟩:=h
 cases rx
 obtain⟨t,rfl⟩:=ry
 obtain⟨its,r,pl,hz⟩:=I.list hq
 obtain⟨j,h1,h2,h3,h4,h5⟩:=wI he
 obtain⟨w,ew,rw'⟩:=r.get h2
 have hl:=r.length
 have hn:=nJ
 have fin:EP X pins σ Q w s:=⟨z,H,I,rw',q⟩
 by_cases h0:0<=i
 ·have hj:i.toNat=j:=by
   rw[seqIndex_of h0 h5] at h1
   exact Option.some.inj h1
  exact item_listR pl.isList h0 (by omega) (by rw[hj];simpa using ew) fin hs
 ·have hj:(i+(its.toArray.size:Int)).toNat=j:=by
   rw[seqIndex_neg (by omega) h4] at h1
   rw[List.size_toArray,<- hl]
   exact Option.some.inj h1
  exact subscriptTail_builtinR (x:=w) pl.isList.typeIs slot_list_getitem.lookup
   (wpAny_getItem_list_neg (Q:=fun r s'=>r=w/\EP X pins σ Q r s') pl.isList (by omega) (by rw[List.size_toArray]<;>omega) (by omega) (by rw[hj];simpa using ew) ⟨rfl,fin⟩) hs
theorem Jj:IxR X (Wb X.K):=by
 intro value slice pins s σ H x y v u Q I rx ry h hs
 obtain⟨p,xs,i,z,rfl,rfl,hq,he,q⟩:=h
 cases rx
 obtain⟨t,rfl⟩:=ry
 obtain⟨its,r,pl,hz⟩:=I.tuple hq
 obtain⟨j,h1,h2,h3,h4,h5⟩:=wI he
 obtain⟨w,ew,rw'⟩:=r.get h2
 have hl:=r.length
 have hn:=nJ
 have fin:EP X pins σ Q w s:=⟨z,H,I,rw',q⟩
 exact subscriptTail_builtinR (x:=w) pl.typeIs slot_tuple_getitem.lookup
  (getItem_tuple (j:=j) (Q:=fun r s'=>r=w/\EP X pins σ Q r s') pl (by omega) (by omega) (by rw[List.size_toArray,<- hl];exact h1) (by simpa using ew) ⟨rfl,fin⟩) hs
theorem sO(its:List Value)(n j:Nat)(u:Value):Obj.mapSeq (·.setIfInBounds j u) { cls:=.type "list",data:=.seq its.toArray n }={ cls:=.type "list",data:=.seq (its.set j u).toArray n }:=by
 simp[Obj.mapSeq]
theorem Inv.lst{pins:List (Addr×Obj)}{σ:St}{H:Hp}{s:Shared}{p:Addr}{xs:List V}(I:Inv X pins σ H s)(h:H p=some (.lst xs)) :
  ∃ (its:List Value) (n:Nat),Vals xs its/\s.heap.get? p=some { cls:=.type "list",data:=.seq its.toArray n }/\xs.length<=sizeLine:=by
 obtain⟨z,its,n,r,e⟩:=I.hok p _ h
 exact⟨its,n,r,e,z⟩
theorem Inv.lstUpd{pins:List (Addr×Obj)}{σ:St}{H:Hp}{s:Shared}{p:Addr}{xs ys:List V}{its its':List Value}{n n':Nat}{f:Obj->Obj}(I:Inv X pins σ H s)(h:H p=some (.lst xs))
  (ho:s.heap.get? p=some { cls:=.type "list",data:=.seq its.toArray n }) (hf:f { cls:=.type "list",data:=.seq its.toArray n }={ cls:=.type "list",data:=.seq its'.toArray n' }) (r:Vals ys its') (hz:ys.length<=sizeLine) (t:Nat) :
  Inv X pins σ (upd H p (.lst ys)) { s with heap:=s.heap.update p f,toks:=t }:=by
 have e:(s.heap.update p f).get? p=some { cls:=.type "list",data:=.seq its'.toArray n' }:=by
  rw[Heap.get?_update_self f ho (by rw[hf]<;>rfl),hf]
 refine I.write (x:=p) (e:=p) (by rw[h];trivial) (.inl rfl) (fun b u hb q=>(Heap.get?_update_other _ _ (Ne.symm hb)).trans q) ⟨_,e⟩ ?_
 exact⟨hz,its',n',r,e⟩
def Li:V->V->V->Hp->(Hp->Prop)->Prop:=fun o i v H Q=>∃ p xs k j,o=.ref p/\i=.int k/\H p=some (.lst xs)/\ixN xs.length k=some j/\Q (upd H p (.lst (xs.set j v)))
theorem set_list:VB X Li:=by
 intro pins s σ H o i v ov iv u Q I ro ri rv h
 obtain⟨p,xs,k,j,rfl,rfl,hp,hj,q⟩:=h
 cases ro
 obtain⟨t,rfl⟩:=ri
 obtain⟨its,n,r,ho,hz⟩:=I.lst hp
 obtain⟨h1,h2,h3,h4⟩:=vG hj
 have hl:=r.length
 have hn:=nJ
 have I':Inv X pins σ (upd H p (.lst (xs.set j v))) { s with heap:=s.heap.update p (Obj.mapSeq (·.setIfInBounds j u)) } :=
  I.lstUpd hp ho (sO its n j u) (r.set rv j) (by rw[List.length_set];exact hz) s.toks
 by_cases h0:0<=k
 ·have hk:k.toNat=j:=by
   rw[seqIndex_of h0 h4] at h1
   exact Option.some.inj h1
  exact PySem.W.ki_setAt ho h0 (by omega) (by rw[List.size_toArray,<- hl];exact h4) (by rw[hk];exact⟨_,I',q⟩)
 ·have hk:(k+(its.toArray.size:Int)).toNat=j:=by
   rw[seqIndex_neg (by omega) h3] at h1
   rw[List.size_toArray,<- hl]
   exact Option.some.inj h1
  exact PySem.W.ki_setBack ho (by omega) (by rw[List.size_toArray,<- hl];exact h3) (by omega) (by rw[hk];exact⟨_,I',q⟩)
theorem mY(lo hi:Option Int)(n:Nat):(sliceBounds lo hi none n).1=((HT.sIx n 0 lo:Nat):Int)/\(sliceBounds lo hi none n).2.1=((HT.sIx n n hi:Nat):Int)/\(sliceBounds lo hi none n).2.2=1:=by
  refine⟨?_,?_,rfl⟩
  · cases lo with
    | none=>simp[sliceBounds,HT.sIx]
    | some i =>
      simp only[sliceBounds,HT.sIx,Option.getD_none,show(1:Int)>0 by decide,if_true]
      by_cases h:i<0
      · simp only[h,if_true]<;>omega
      · simp only[h,if_false]<;>omega
  · cases hi with
    | none=>simp[sliceBounds,HT.sIx]
    | some i =>
      simp only[sliceBounds,HT.sIx,Option.getD_none,show(1:Int)>0 by decide,if_true]
      by_cases h:i<0
      · simp only[h,if_true]<;>omega
      · simp only[h,if_false]<;>omega
theorem lF(its:List Value)(lo hi:Option Int):slicePick its.toArray lo hi none=((its.drop (HT.sIx its.length 0 lo)).take (HT.sIx its.length its.length hi-HT.sIx its.length 0 lo)).toArray:=by
 obtain⟨h1,h2,h3⟩:=mY lo hi its.toArray.size
 unfold slicePick
 rw[h1,h2,h3]
 simp only[sliceRange_one,pick_run,List.size_toArray]<;>rfl
def Wa(K:PySem.W.Frag):V->Option Int->Option Int->Hp->VK->Prop:=fun x lo hi H Q=>∃ a xs,x=.ref a/\SqL K H a xs/\∀ p,H p=none->Q (.ref p) (upd H p (.lst (Bk xs lo hi)))
theorem Cp:SlR X (Wa X.K):=by
 intro pins s σ H x v vl vu lo hi sl Q I rx hs pl pu h
 obtain⟨a,xs,rfl,hx,q⟩:=h
 cases rx
 obtain⟨its,r,ht,hz⟩:=I.list hx
 have hlen:=r.length
 refine⟨"list",_,slot_list_getitem.lookup,ht.isList.typeIs,?_⟩
 refine wpAny_getItem_list_slice ht.isList hs pl pu .none (by simp) ?_ (by rw[List.size_toArray]<;>omega)
 rw[lF,<- hlen]
 refine⟨.ref s.heap.objs.size,_,I.laid (t':=s.toks) (o:=.lst (Bk xs lo hi)) (fun b ob q=>Heap.get?_push_of_some _ q) (Nat.le_refl _) ?_,rfl,q _ (I.hok.fresh (Nat.le_refl _))⟩
 exact⟨Nat.le_trans (jJ xs lo hi) hz,_,0,(r.drop (HT.sIx xs.length 0 lo)).take (HT.sIx xs.length xs.length hi-HT.sIx xs.length 0 lo),Heap.get?_push_size _ rfl⟩
theorem n8:eE X (.builtin "len") (fun xs H Q=>∃ p ys,xs=[.ref p]/\(SqL X.K H p ys\/SqT X.K H p ys)/\Q (.int ys.length) H):=by
 intro pins s σ H xs us Q I r h
 obtain⟨p,ys,rfl,hq,q⟩:=h
 obtain⟨u,rfl,rx⟩:=vals1 r
 cases rx
 have hn:=nJ
 rcases hq with hq | hq
 ·obtain⟨its,r',pl,hz⟩:=I.list hq
  have hlen:=r'.length
  exact Calls.call_len_list pl.isList (by simp only[List.size_toArray]<;>omega) ⟨.int ys.length,H,I.tok _,⟨s.toks+1,by rw[List.size_toArray,hlen]⟩,q⟩
 ·obtain⟨its,r',pl,hz⟩:=I.tuple hq
  have hlen:=r'.length
  exact len_tuple pl (by simp only[List.size_toArray]<;>omega) ⟨.int ys.length,H,I.tok _,⟨s.toks+1,by rw[List.size_toArray,hlen]⟩,q⟩
theorem iJ:eE X (.type "list") (fun xs H Q=>∃ p ys,xs=[.ref p]/\(SqL X.K H p ys\/SqT X.K H p ys)/\∀ l,H l=none->Q (.ref l) (upd H l (.lst ys))):=by
 intro pins s σ H xs us Q I r h
 obtain⟨p,ys,rfl,hq,q⟩:=h
 obtain⟨u,rfl,rx⟩:=vals1 r
 cases rx
 have fin:∀ (its:List Value),Vals ys its->ys.length<=sizeLine->∀ (h':Heap) (c':Nat),(∀ b o',s.heap.get? b=some o'->h'.get? b=some o') ->
   h'.get? s.heap.objs.size=some { cls:=.type "list",dict:=none,data:=.seq its.toArray c',slots := #[] }->EP X pins σ Q (.ref s.heap.objs.size) { s with heap:=h' }:=fun its r' hz h' c' kp e =>
  ⟨.ref s.heap.objs.size,_,I.laid (t':=s.toks) kp (Nat.le_refl _) (show dF X.prog X.w _ h' _ (.lst ys) from⟨hz,its,c',r',e⟩),rfl,q _ (I.hok.fresh (Nat.le_refl _))⟩
 rcases hq with hq | hq
 ·obtain⟨its,r',pl,hz⟩:=I.list hq
  have hlen:=r'.length
  obtain⟨o,ho,hc,n,hd⟩:=pl.isList
  exact call_list_seq p (.inl rfl) ho hc hd (fun h' c' kp e=>fin its r' hz h' c' kp e) (by simp only[List.size_toArray]<;>omega)
 ·obtain⟨its,r',pl,hz⟩:=I.tuple hq
  have hlen:=r'.length
  obtain⟨o,ho,hc,n,hd⟩:=pl
  exact call_list_seq p (.inr rfl) ho hc hd (fun h' c' kp e=>fin its r' hz h' c' kp e) (by simp only[List.size_toArray]<;>omega)
theorem mG:eE X (.type "tuple") (fun xs H Q=>∃ p ys,xs=[.ref p]/\((SqL X.K H p ys/\∀ l,H l=none->Q (.ref l) (upd H l (.tup ys)))\/(SqT X.K H p ys/\Q (.ref p) H))):=by
 intro pins s σ H xs us Q I r h
 obtain⟨p,ys,rfl,h⟩:=h
 obtain⟨u,rfl,rx⟩:=vals1 r
 cases rx
 rcases h with⟨hq,q⟩ | ⟨hq,q⟩
 ·obtain⟨its,r',pl,hz⟩:=I.list hq
  have hlen:=r'.length
  refine call_tuple_list pl.isList (fun h' kp=>?_) (by simp only[List.size_toArray]<;>omega)
  have I1:Inv X pins σ H { s with heap:=h' }:=I.kept (t':=s.toks) kp
  have I2:Inv X pins σ (upd H h'.objs.size (.tup ys)) { s with heap:=h'.push { cls:=.type "tuple",data:=.seq its.toArray } } :=
   I1.laid (t':=s.toks) (fun b o e=>Heap.get?_push_of_some _ e) (Nat.le_refl _) (show dF X.prog X.w _ _ _ (.tup ys) from⟨hz,its,r',IsTup.new _ _⟩)
  exact⟨.ref h'.objs.size,_,I2,rfl,q _ (I1.hok.fresh (Nat.le_refl _))⟩
 ·obtain⟨its,r',pl,hz⟩:=I.tuple hq
  exact call_tuple_same pl ⟨.ref p,H,I,rfl,q⟩
def tyV(K:PySem.W.Frag)(T:String)(x:V)(H:Hp):Prop:=match x with
 | .str _=>T="str"
 | .int _=>T="int"
 | .ref p => (T = "list" /\ ∃ xs, SqL K H p xs) \/ (T = "tuple" /\ ∃ o, K.lookup p = some o /\ o.cls = .type "tuple" /\ o.dict = none) \/
   (T="dict"/\((∃ kvs,H p=some (.dK kvs))\/∃ kvs,H p=some (.dT kvs)))\/(T="set"/\∃ S n,H p=some (.set S n))
 | _=>False
theorem GP{pins:List (Addr×Obj)}{σ:St}{H:Hp}{s:Shared}{T:String}{x:V}{v:Value}(I:Inv X pins σ H s)(r:RelV x v)(ty:tyV X.K T x H) :
    s.TypeIs v T/\∀ a,v=.ref a->∃ ob,s.heap.get? a=some ob/\ob.dict=none:=by
  cases x with
  | str z =>
    obtain⟨t,rfl⟩:=r
    cases (show T="str" from ty)
    exact⟨typeIs_str s z t,fun _ e=>nomatch e⟩
  | int i =>
    obtain⟨t,rfl⟩:=r
    cases (show T="int" from ty)
    exact⟨typeIs_int s i t,fun _ e=>nomatch e⟩
  | ref p =>
    cases r
    rcases ty with⟨rfl,xs,hq⟩ | ⟨rfl,o,hk,hc,hd⟩ | ⟨rfl,hk⟩ | ⟨rfl,S,n,hk⟩
    · obtain⟨its,_,pl,_⟩:=I.list hq
      refine⟨pl.isList.typeIs,fun a e=>?_⟩
      cases e
      obtain⟨o,n,e,c,hd,_⟩:=pl
      exact⟨o,e,hd⟩
    · refine⟨⟨o,I.kIn p o hk,hc⟩,fun a e=>?_⟩
      cases e
      exact⟨o,I.kIn _ o hk,hd⟩
    · have z:∃ o,s.heap.get? p=some o/\o.ExactDict:=by
        rcases hk with⟨kvs,hk⟩ | ⟨kvs,hk⟩
        · obtain⟨_,_,_,_,o,_,_,e,ex,_⟩:=I.hok p _ hk
          exact⟨o,e,ex⟩
        · obtain⟨_,_,_,_,o,_,_,e,ex,_⟩:=I.hok p _ hk
          exact⟨o,e,ex⟩
      obtain⟨o,e,ex⟩:=z
      refine⟨⟨o,e,ex.1⟩,fun a e2=>?_⟩
      cases e2
      exact⟨o,e,ex.2.1⟩
    · obtain⟨o,_,_,_,e,ex,_⟩:=I.hok p _ hk
      refine⟨⟨o,e,ex.1⟩,fun a e2=>?_⟩
      cases e2
      exact⟨o,e,ex.2.1⟩
  | _=>exact False.elim ty
def tBM(K:PySem.W.Frag)(T:String)(r:V->List V->Hp->VK->Prop)(to:TE)(t:TA):TE:=fun σ H Q=>to σ H fun x H1=>tyV K T x H1/\t σ H1 fun xs H2=>r x xs H2 Q
variable {o e:Expr} {es:List Expr} {to:TE} {t:TA} {name:Str} {apos cpos:Pos} {T id:String} {r:V->List V->Hp->VK->Prop}
theorem pB(pa:PlainAttrs T)(slot:Slot T name id)(hty:typeOf (.builtin id)=pure (.type "method_descriptor"))(hm:MtR X id r)(ho:PE X o to)(ha:PA X (e::es) t)
    (hbase:attributeBase o name X.env (eval o X.env)=eval o X.env:=by rfl)
    (hfew:((backTo cpos (starEach (e::es) X.env)).all (fun x => !x.1)&&(backToKw cpos (keywordEach [] X.env)).all (fun x=>x.1.isSome)
      && decide ((e::es).length+([]:List Keyword).length+(if([]:List Keyword).isEmpty then 0 else 1)<30))=true:=by rfl)
    (hline:(apos.endLine==cpos.line)=true:=by rfl) (hs:starEach (e::es) X.env=(false,eval e X.env)::starEach es X.env:=by rfl) (hplain:(backTo cpos (starEach es X.env)).any (·.1)=false:=by rfl) :
    PE X (.Call (.Attribute o name apos) (e::es) [] cpos) (tBM X.K T r to t):=by
  intro pins s σ H Q I h
  refine wpAny_Call_method_late hbase hfew hline rfl (thn (ho pins s σ H _ I h) fun v s1 ⟨x,H1,I1,r1,ty,q1⟩=>?_)
  obtain⟨h1,h2⟩:=GP I1 r1 ty
  refine⟨T,id,pa,slot,hty,h1,h2,?_⟩
  have hA:=ha cpos pins s1 σ H1 _ I1 q1
  rw[hs] at hA ⊢
  refine Calls.callWith_builtin (by show(false||(backTo cpos (starEach es X.env)).any (·.1))=false;rw[hplain]<;>rfl) (Calls.evalArgs_plain ?_)
  exact thn hA fun us s2 ⟨vs,H2,I2,r2,q2⟩=>hm pins s2 σ H2 x vs v us Q I2 r1 r2 q2
end
end L2
namespace L2
open PySem PySem.Spec PyProof.Rows
def MtM(X:Cx)(id:String)(r:V->List V->Hp->VK->Prop):Prop :=
  ∀ (pins : List (Addr × Obj)) (s : Shared) (σ : St) (H : Hp) (x : V) (xs : List V) (v : Value) (us : List Value) (Q : VK), Inv X pins σ H s -> RelV x v -> Vals xs us -> r x xs H Q ->
    wpAny (model X.prog X.w) X.A (call (.builtin id) (v::us)) (EP X pins σ Q) X.xe s
theorem Vals.one:∀ {x:V} {us:List Value},Vals [x] us->∃ u,us=[u]/\RelV x u
 | _,_,.cons r .nil=>⟨_,rfl,r⟩
theorem Vals.reverse{xs:List V}{us:List Value}(h:Vals xs us):Vals xs.reverse us.reverse:=by
 induction h with
 | nil=>exact .nil
 | cons r t ih=>rw[List.reverse_cons,List.reverse_cons];exact Vals.append ih (.cons r .nil)
theorem Vals.rep{xs:List V}{us:List Value}(h:Vals xs us):∀ k:Nat,Vals (List.replicate k xs).flatten (List.replicate k us).flatten
  | 0=>.nil
  | k + 1 => by
    rw[List.replicate_succ,List.replicate_succ,List.flatten_cons,List.flatten_cons]
    exact Vals.append h (Vals.rep h k)
theorem foldl_rep(its:List Value):∀ (k:Nat) (acc:List Value),
    List.foldl (fun x1 x2=>x1++x2) acc.toArray (List.replicate k its.toArray)=(acc++(List.replicate k its).flatten).toArray
  | 0,acc=>by simp
  | k + 1, acc => by
    have e:acc.toArray++its.toArray=(acc++its).toArray:=by simp
    have e2:(acc++its)++(List.replicate k its).flatten=acc++(List.replicate (k+1) its).flatten:=by
      rw[List.replicate_succ,List.flatten_cons,List.append_assoc]
    rw[<- e2,<- foldl_rep its k (acc++its),<- e,List.replicate_succ,List.foldl_cons]
section
variable {X:Cx} {pins:List (Addr×Obj)} {σ:St} {H:Hp} {s:Shared} {l b:Addr} {xs ys zs:List V}
theorem Inv.lset{its its':List Value}{n:Nat}{f:Array Value->Array Value}{t':Nat}(I:Inv X pins σ H s)(hH:H l=some (.lst xs))
  (e:s.heap.get? l=some { cls:=.type "list",data:=.seq its.toArray n }) (hf:f its.toArray=its'.toArray) (hv:Vals ys its') (hz:ys.length<=sizeLine) :
  Inv X pins σ (upd H l (.lst ys)) { s with heap:=s.heap.update l (Obj.mapSeq f),toks:=t' }:=by
 have q:=PySem.IsL.update e f
 rw[hf] at q
 refine I.write (x:=l) (e:=l) (by rw[hH];exact trivial) (.inl rfl) (fun b' u hb hu=>(Heap.get?_update_other s.heap (Obj.mapSeq f) (Ne.symm hb)).trans hu) ⟨_,q⟩ ?_
 exact⟨hz,its',_,hv,q⟩
theorem Inv.lnew{its:List Value}{t':Nat}(I:Inv X pins σ H s)(hv:Vals ys its)(hz:ys.length<=sizeLine) :
  Inv X pins σ (upd H s.heap.objs.size (.lst ys)) { s with heap:=s.heap.push { cls:=.type "list",data:=.seq its.toArray },toks:=t' } :=
 I.laid (fun _ _ q=>Heap.get?_push_of_some _ q) (Nat.le_refl _) ⟨hz,its,0,hv,Heap.get?_push_size _ rfl⟩
theorem Inv.fresh(I:Inv X pins σ H s):H s.heap.objs.size=none:=I.hok.fresh (Nat.le_refl _)
theorem Inv.lstM(I:Inv X pins σ H s)(hH:H l=some (.lst xs)):xs.length<=sizeLine/\∃ (its:List Value) (n:Nat),Vals xs its/\xs.length=its.length/\s.heap.get? l=some { cls:=.type "list",data:=.seq its.toArray n }:=by
 obtain⟨z,its,n,r,e⟩:=I.hok l _ hH
 exact⟨z,its,n,r,r.length,e⟩
theorem lR{n:Nat}(h:n<=sizeLine):Builtin.List.listTooLong n=false:=by
 unfold Builtin.List.listTooLong
 exact decide_eq_false (by omega)
end
section
variable {X:Cx}
def Cz:V->List V->Hp->VK->Prop:=fun x vs H Q=>∃ l xs y,x=.ref l/\vs=[y]/\H l=some (.lst xs)/\xs.length<sizeLine/\Q .non (upd H l (.lst (xs++[y])))
theorem jx:MtM X "list.append" Cz:=by
 intro pins s σ H x vs v us Q I rx rv h
 obtain⟨l,xs,y,rfl,rfl,hH,hz,q⟩:=h
 cases rx
 obtain⟨u,rfl,ru⟩:=rv.one
 obtain⟨z,its,n,r,hl,e⟩:=I.lstM hH
 refine call_meets F.slot_list_append ⟨_,e,rfl⟩ F.entry_list_append (F.args_list_append_2 _ _) (PySem.list_append l its.toArray n u (by rw[List.size_toArray];omega)) ⟨e,?_⟩
 refine⟨.non,_,I.lset (its':=its++[u]) hH e (by simp) (r.append (.cons ru .nil)) ?_,rfl,q⟩
 rw[List.length_append,List.length_singleton]
 omega
theorem len_rep{α:Type}(xs:List α)(k:Nat):(List.replicate k xs).flatten.length=k*xs.length:=by
 induction k with
 | zero=>simp
 | succ k ih=>rw[List.replicate_succ,List.flatten_cons,List.length_append,ih,Nat.succ_mul,Nat.add_comm]
end
section
variable {prog:Program} {w:World} {A:Around} {E:Value->Shared->Prop} {s:Shared}
set_option maxRecDepth 100000 in
end
section
variable {X:Cx}
end
end L2
namespace Att
open PySem PySem.W PySem.Calls PyProof.Rows
theorem jC{P:Params}{h:Heap}:∀ (ns:List Int) (vs:List Value),WellAll P h vs (ns.map WData.int)->IntsAre vs ns:=by
  intro ns
  induction ns with
  | nil =>
    intro vs w
    rw[List.map_nil] at w
    cases w
    exact .nil
  | cons n ns ih =>
    intro vs w
    rw[List.map_cons] at w
    cases w with
    | cons a b =>
      cases a
      exact .cons _ _ (ih _ b)
theorem uH{l:OpenLaw}{n:Nat}(hn:l.most=some n){P:Params}{h:Heap}{args:List WData}{vals:List Value}
    (hpre:l.row.toRowW.claim.pre args=true) (hwl:WellAll P h vals args) :
    ∃ a vs ns,vals=[Value.ref a]/\args=[WData.list (ns.map WData.int)]/\h.get? a=some { cls:=.type "list",data:=.seq vs.toArray }/\IntsAre vs ns/\ns.length<=n:=by
  have hsh:WShape.hasAll [] args [.list .int]=true:=(pre_splitW hpre).1
  have hc:l.pre.holds [] { args:=args }=true:=(pre_splitW hpre).2
  obtain⟨d,r,rfl,h1,h2⟩:=hasAllW_cons hsh
  obtain rfl:=hasAllW_nil h2
  obtain⟨xs,rfl,h3⟩:=hasW_list h1
  obtain⟨ns,rfl⟩:=items_int h3
  have hlen:ns.length<=n:=by
    unfold OpenLaw.pre at hc
    have h4:(WTm.not (.lt (.lit (.int (n:Int))) (.len (.arg 0)))).holds [] { args:=[.list (ns.map .int)] }=true:=by
      have h4:=(holds_andW hc).1
      rw[hn] at h4
      exact h4
    have h5:=condW_of h4 (w_not (w_lt w_lit (w_len_list (w_arg rfl))))
    rw[List.length_map] at h5
    refine Nat.le_of_not_lt fun q=>?_
    have q':(n:Int)<((ns.length:Nat):Int):=by omega
    first
      | (rw[decide_eq_true q'] at h5;exact absurd h5 (by decide))
      | (simp at h5;omega)
  cases hwl with
  | cons w1 w2 =>
    cases w2
    cases w1 with
    | list ho hall=>exact⟨_,_,ns,rfl,rfl,ho,jC ns _ hall,hlen⟩
theorem uL(l:OpenLaw)(args:List WData):l.row.toRowW.claim.post args (.bool true) args=true :=
 postW_of (r:=l.row.toRowW) (X:=(true==true))
  (show WShape.has [] (.bool true) .bool=true by first | rfl | decide | simp[WShape.has,WShape.arms,WShape.armsAll])
  (show(WTm.eq .res (.lit (.bool true))).value [] { args:=args,res:=some (.bool true),after:=args }=some (.bool (true==true)) from w_eq_bool (w_res rfl) w_lit) rfl
theorem pX{l:OpenLaw}{n:Nat}{q:Program}{loose:List Str}{XP:(Str->Option Value)->Heap->Prop}{YP:World->Heap->Prop}{d:DefRec}
    (hn:l.most=some n) (hdf:d.params.defaults=[])
    (call:∀ (w:World) (s₀ s₁:Shared) (mg mb:Str->Option Value) (fa:Addr) (o:Obj) (pm cd doc:Value) (a:Addr) (vs:List Value) (ns:List Int),
      Ground q loose [] XP w s₀ mg mb s₁.heap->YP w s₁.heap ->
      s₁.heap.get? fa=some o->o.data=.func (docDef d.name d.params d.body d.scope pm cd doc)->s₁.heap.CodeRec cd d.name->mg d.name=some (.ref fa) ->
      s₁.heap.get? a=some { cls:=.type "list",data:=.seq vs.toArray }->IntsAre vs ns->ns.length<=n->s₁.gens = #[] ->
      codeAny (model l.prog w) callerA (.call (.ref fa) ⟨[.ref a],[]⟩) (fun r s'=>r=.ok (.ret (.bool true))/\OldK s₁.heap s'.heap/\s'.os=s₁.os/\AllBare s'.gens) s₁) :
    WalkO q loose XP YP l.row.toRowW d [] (fun f vs=>PySem.call f vs):=by
  intro w s₀ s₁ mg mb G Y fa o pm cd doc dV kV ho hd hcd hD hmg hg args vals as hpre hlay hrd hwl hlo
  obtain rfl:dV=.none:=Dflts.none hD hdf
  obtain rfl:kV=.none:=Dflts.noKw hD
  obtain⟨a,vs,ns,rfl,rfl,hobj,hints,hlen⟩:=uH hn hpre hwl
  refine enter_call (codeAny_mono (call w s₀ s₁ mg mb fa o pm cd doc a vs ns G Y ho (fd_plain hd) hcd hmg hobj hints hlen hg) fun r s' hq=>?_)
  obtain⟨rfl,h2,h3,h4⟩:=hq
  exact⟨.inl ⟨.bool true,.bool true,[],rfl,fun _=>rfl,.bool true,uL l _,fun _=>⟨List.Pairwise.nil,fun _ hm=>(nomatch hm)⟩⟩,h2,h3,h4⟩
section
variable {prog:Program} {w:World} {A:Around} {E:Value->Shared->Prop} {s:Shared} {K:Frag}
def ledger(h:Heap)(L d:Addr):List (Addr×Obj):=(List.range h.objs.size).filterMap fun a=>if a=L\/a=d then none else(h.get? a).map fun o=>(a,o)
end
end Att
namespace L2
open PySem PySem.Spec PyProof.Rows
theorem mQ:∀ {vs:List Value} {ns:List Int},IntsAre vs ns->Vals (ns.map V.int) vs
 | _,_,.nil=>.nil
 | _,_,.cons n t h=>.cons ⟨t,rfl⟩ (mQ h)
def Only(H:Hp):Prop:=∀ b,H b=none\/∃ o xs,H b=some (.frz o (.lst xs))
theorem yH{P:Program}{w:World}{K:PySem.W.Frag}{mg mb:Str->Option Value}{CX:CXT}{k:Nat}{fa a:Addr}{fd:FuncData}{x:Str}{sp:Sp}{s₁:Shared}{vs:List Value}{ns:List Int}
    (KX:K.In s₁.heap) (hns:s₁.heap.Ns mainGlobals mg) (hb:s₁.heap.Ns builtinsNs mb) (hbb:∀ x:Str,x≠"__name__"->mb x=bootBuiltins x) (hlim:s₁.heap.NoLimit) (hg:s₁.gens = #[])
    (ha:s₁.heap.get? a=some { cls:=.type "list",data:=.seq vs.toArray }) (hi:IntsAre vs ns) (hl:ns.length<=sizeLine) (hr:Room k callerA)
    (F:∀ base:Heap,K.In base->base.Ns mainGlobals mg->FnOk P w K mg base CX k fa fd [x] sp) (hbind:∀ (s:Shared) (u:Value),BindsTo s fd ⟨[u],[]⟩ [(x,u)])
    (hsp:∀ H:Hp,Only H->SqL K H a (ns.map V.int)->sp [.ref a] H (fun v _=>v=.bl true) fun _ _ _=>False)
    (hCX:∀ H e s',CX [] H s₁ (fun _ _ _=>False) e s'->False) :
    codeAny (model P w) callerA (.call (.ref fa) ⟨[.ref a],[]⟩) (fun r s'=>r=.ok (.ret (.bool true))/\OldK s₁.heap s'.heap/\s'.os=s₁.os/\AllBare s'.gens) s₁:=by
  have rv:=mQ hi
  have lenV:=hi.length
  have core:∀ H:Hp,Only H->SqL K H a (ns.map V.int)->HOk P w H s₁.heap->(∀ b,H b≠none->b=a)->(H a≠none->K.lookup a=none) ->
      codeAny (model P w) callerA (.call (.ref fa) ⟨[.ref a],[]⟩) (fun r s'=>r=.ok (.ret (.bool true))/\OldK s₁.heap s'.heap/\s'.os=s₁.os/\AllBare s'.gens) s₁:=by
    intro H hO hS hok hA hK
    have base_of:∀ {b:Addr} {o:Obj},s₁.heap.get? b=some o->H b=none->(yM s₁.heap H).get? b=some o:=fun e n=>yL e n
    have noA:∀ {b:Addr} {o:Obj} {es:Array DictEntry} {ep:Nat},s₁.heap.get? b=some o->o.data=.dict es ep->H b=none:=fun {b o es ep} e d=>by
      cases q:H b with
      | none=>rfl
      | some u =>
        have e':b=a:=hA b (by rw[q];simp)
        subst e'
        rw[ha] at e;cases e
        have d':Data.seq vs.toArray _=Data.dict es ep:=d
        cases d'
    have nsK:∀ {b:Addr} {m:Str->Option Value},s₁.heap.Ns b m->(yM s₁.heap H).Ns b m:=fun {b m} ⟨o,es,ep,e,d,r⟩=>⟨o,es,ep,base_of e (noA e d),d,r⟩
    have hKb:K.In (yM s₁.heap H):=fun b o e=>base_of (KX b o e) (by
      cases q:H b with
      | none=>rfl
      | some u =>
        have e':b=a:=hA b (by rw[q];simp)
        subst e'
        rw[hK (by rw[q];simp)] at e;cases e)
    have hM:Mod K mg (yM s₁.heap H):=⟨hKb,nsK hns,⟨mb,nsK hb,hbb⟩,let ⟨mc,h1,h2⟩:=hlim;⟨mc,nsK h1,h2⟩⟩
    have e0:Env0 P w K mg (yM s₁.heap H) callerA [] s₁ H:=⟨rfl,hM,fun b o e=>Dy e,Nat.le_of_eq (vK _ _),trivial,fun b hb=>absurd (show b∈([]:List Addr) from hb) (by simp),hok,.of_eq hg⟩
    refine codeAny_mono ((F _ hKb (nsK hns)).run callerA [] s₁ H ⟨[.ref a],[]⟩ [.ref a] [.ref a] _ _ hr e0 (hbind s₁ (.ref a)) (.cons rfl .nil) (hsp H hO hS)) fun r s' h=>?_
    cases r with
    | error e=>exact(hCX H e s' h).elim
    | ok fl =>
      cases fl with
      | next=>exact False.elim h
      | brk=>exact False.elim h
      | cont=>exact False.elim h
      | ret u =>
        obtain⟨v,H',os,bare,un,hok',r',q⟩:=h
        have q':v=.bl true:=q
        subst q'
        obtain rfl:u=Value.bool true:=r'
        refine⟨rfl,OldK.of_keep fun b o e=>?_,os,bare⟩
        cases q:H b with
        | none=>exact un.keep b o e q (by intro z;exact absurd (show b∈([]:List Addr) from z) (by simp)) (by simp)
        | some u =>
          rcases hO b with z | ⟨ob,xs,z⟩
          · rw[q] at z;cases z
          · have z2:=un.frzs b ob _ z
            obtain⟨e1,_⟩:=hok b _ z
            obtain⟨e2,_⟩:=hok' b _ z2
            rw[e] at e1;cases e1
            exact e2
  cases hk:K.lookup a with
  | some o =>
    have e:=KX a o hk
    rw[ha] at e
    cases e
    refine core (fun _=>none) (fun _=>.inl rfl) (.inr ⟨_,vs.toArray,_,hk,rfl,rfl,rfl,by rw[List.size_toArray,lenV];exact hl,by simpa using rv⟩) (fun b u z=>by have z':(none:Option HO)=some u:=z;cases z') (fun b z=>absurd rfl z) fun z=>absurd rfl z
  | none =>
    refine core (fun b=>if b=a then some (.frz { cls:=.type "list",data:=.seq vs.toArray } (.lst (ns.map V.int))) else none) (fun b=>?_) (.inl (.inr ⟨{ cls:=.type "list",data:=.seq vs.toArray },if_pos rfl⟩)) (fun b u z=>?_) (fun b z=>?_) fun _=>hk
    · by_cases hb:b=a
      · exact .inr ⟨_,_,if_pos hb⟩
      · exact .inl (if_neg hb)
    · by_cases hb:b=a
      · have z':=(if_pos hb).symm.trans z
        cases z'
        subst hb
        exact⟨ha,by rw[List.length_map];exact hl,vs,_,rv,ha⟩
      · have z':=(if_neg hb).symm.trans z
        cases z'
    · by_cases hb:b=a
      · exact hb
      · exact absurd (if_neg hb) z
end L2
namespace L2
open PySem PySem.Spec PyProof.Rows
theorem BJ{l:PySem.W.OpenLaw}{n k:Nat}{q:Program}{loose:List Str}{XP:(Str->Option Value)->Heap->Prop}{YP:World->Heap->Prop}{d:DefRec}{K:Params->PySem.W.Frag}{CX:World->CXT}{sp:World->Sp}{x:Str}
    (hn:l.most=some n) (hn2:n<=sizeLine) (hdf:d.params.defaults=[]) (hr:Room k callerA)
    (hY:∀ (w:World) (h:Heap),YP w h->(K w.params).In h)
    (F:∀ (w:World) (mg:Str->Option Value) (fa:Addr) (h:Heap),(K w.params).In h->h.Ns mainGlobals mg->mg d.name=some (.ref fa) ->
      ∃ fd : FuncData, (∀ (s : Shared) (u : Value), BindsTo s fd ⟨[u], []⟩ [(x, u)]) /\
        ∀ base:Heap,(K w.params).In base->base.Ns mainGlobals mg->FnOk l.prog w (K w.params) mg base (CX w) k fa fd [x] (sp w))
    (hsp:∀ (w:World) (H:Hp) (a:Addr) (ns:List Int),ns.length<=n->Only H->SqL (K w.params) H a (ns.map V.int)->sp w [.ref a] H (fun v _=>v=.bl true) fun _ _ _=>False)
    (hCX:∀ (w:World) (H:Hp) (s:Shared) (e:Value) (s':Shared),CX w [] H s (fun _ _ _=>False) e s'->False) :
    PySem.W.WalkO q loose XP YP l.row.toRowW d [] (fun f vs=>PySem.call f vs):=by
  refine Att.pX hn hdf fun w s₀ s₁ mg mb fa o pm cd doc a vs ns G Y ho hd hcd hmg hobj hints hlen hg=>?_
  have KX:=hY w _ Y
  obtain⟨fd,hb,hF⟩:=F w mg fa _ KX G.T.g hmg
  exact yH KX G.T.g G.T.b G.T.builtins G.T.nolimit hg hobj hints (Nat.le_trans hlen hn2) hr hF hb (fun H hO hS=>hsp w H a ns hlen hO hS) fun H e s'=>hCX w H s₁ e s'
end L2
namespace L2
open PySem PySem.Spec PyProof.Rows
def d7(s:Stmt):Arguments:=match s with
 | .FunctionDef _ a _ _ _ _ _ _ _ _=>a
 | _=>{ posonlyargs:=[],args:=[],vararg:=none,kwonlyargs:=[],kw_defaults:=[],kwarg:=none,defaults:=[] }
def bV(s:Stmt):List Stmt:=match s with
 | .FunctionDef _ _ b _ _ _ _ _ _ _=>b
 | _=>[]
def aZ(s:Stmt):Scope:=match s with
 | .FunctionDef _ _ _ _ _ _ sc _ _ _=>sc
 | _=>{ kind:=.function,names:=[],isGenerator:=false,isCoroutine:=false }
abbrev CX0:CXT:=fun _ _ _ _ _ _=>False
abbrev E0:XK:=fun _ _ _=>False
structure Fun (K:PySem.W.Frag) (x qual:Str) (st:Stmt) (f:Addr) (fd:FuncData):Prop where
 ex:∃ (oc:Value) (od:Option Addr) (kV doc pm:Value) (an:Option Addr) (cdv ct:Value) (osl:Array (Option Value)),
  fd=PySem.W.fnOf x qual (d7 st) (bV st) (aZ st) .none kV doc pm an cdv ct/\K.lookup f=some ⟨oc,od,.func fd,osl⟩/\PySem.W.codeIn K cdv qual=true
 kp:PySem.W.keepIn K (.ref f)=true
section
variable {P:Program} {w:World} {K:PySem.W.Frag} {mg:Str->Option Value} {base:Heap}
theorem Fun.binds{x qual:Str}{st:Stmt}{f:Addr}{fd:FuncData}{ps:List Str}(F:Fun K x qual st f fd)
  (h:∀ (kV doc pm:Value) (an:Option Addr) (cdv ct:Value) (us:List Value),us.length=ps.length->bindArgs (PySem.W.fnOf x qual (d7 st) (bV st) (aZ st) .none kV doc pm an cdv ct) ⟨us,[]⟩=pure (ps.zip us)):Binds K fd ps []:=by
 obtain⟨oc,od,kV,doc,pm,an,cdv,ct,osl,rfl,lk,hcd⟩:=F.ex
 exact .all (h kV doc pm an cdv ct)
theorem vM{x qual:Str}{st:Stmt}{f:Addr}{oc:Value}{od an:Option Addr}{osl:Array (Option Value)}{kV doc pm cdv ct:Value}(l:K.lookup f=some ⟨oc,od,.func (PySem.W.fnOf x qual (d7 st) (bV st) (aZ st) .none kV doc pm an cdv ct),osl⟩)
  (c:PySem.W.codeIn K cdv qual=true) (k:PySem.W.keepIn K (.ref f)=true):Fun K x qual st f (PySem.W.fnOf x qual (d7 st) (bV st) (aZ st) .none kV doc pm an cdv ct):=⟨⟨oc,od,kV,doc,pm,an,cdv,ct,osl,rfl,l,c⟩,k⟩
end
section
variable {X:Cx}
end
theorem vH{A B:Prop}(h:B):if false=true then A else B:=by
 rw[if_neg Bool.false_ne_true]
 exact h
theorem tR{A B:Prop}(h:A):if true=true then A else B:=by
 rw[if_pos rfl]
 exact h
def Same(H H':Hp):Prop:=∀ b o,H b=some o->H' b=some o
theorem Same.refl(H:Hp):Same H H:=fun _ _ h=>h
theorem Same.trans{H H1 H2:Hp}(a:Same H H1)(b:Same H1 H2):Same H H2:=fun c o h=>b c o (a c o h)
theorem Same.free{H H':Hp}(e:Same H H'){l:Addr}(h:H' l=Option.none):H l=Option.none:=by
  cases q:H l with
  | none=>rfl
  | some o =>
    rw[e l o q] at h
    cases h
theorem Same.seq{K:PySem.W.Frag}{H H':Hp}{a:Addr}{xs:List V}(e:Same H H')(h:SqL K H a xs):SqL K H' a xs:=by
 rcases h with(h | ⟨o,h⟩) | h
 ·exact .inl (.inl (e _ _ h))
 ·exact .inl (.inr ⟨o,e _ _ h⟩)
 ·exact .inr h
end L2
namespace L2
open PySem PySem.Spec PyProof.Rows
def iI(cells:List (Str×Addr)):List (Str×NameKind)->List (Str×Addr)->List (Str×Addr)
 | [],acc=>acc
 | (x,k)::r,acc=>if k==.free then iI cells r ((x,(cells.lookup x).getD 0)::acc) else iI cells r acc
theorem lY{env:Env}(f:Str×NameKind->List (Str×Addr)->Sem (ForInStep (List (Str×Addr))))
    (hf:∀ name kind cs,f (name,kind) cs=if kind==.free then(do let a <- cellOf env name;pure (.yield ((name,a)::cs))) else pure (.yield cs)) :
    ∀ (l:List (Str×NameKind)) (acc:List (Str×Addr)),(∀ x,(x,NameKind.free)∈l->∃ c,env.cells.lookup x=some c)->(forIn l acc f:Sem (List (Str×Addr)))=pure (iI env.cells l acc)
  | [],acc,_=>by rw[List.forIn_nil];rfl
  | (x, k) :: r, acc, h => by
    rw[List.forIn_cons,hf]
    unfold iI
    cases hk:k==NameKind.free with
    | false =>
      simp only[Bool.false_eq_true,if_false]
      show(forIn r acc f:Sem _)=_
      exact lY f hf r acc fun y hy=>h y (List.mem_cons_of_mem _ hy)
    | true =>
      simp only[if_true]
      have ek:k=.free:=by simpa using hk
      obtain⟨c,hc⟩:=h x (by rw[ek];exact List.mem_cons_self)
      have e1:cellOf env x=pure c:=by unfold cellOf;rw[hc]
      rw[e1,hc]
      show(forIn r ((x,c)::acc) f:Sem _)=_
      exact lY f hf r _ fun y hy=>h y (List.mem_cons_of_mem _ hy)
theorem fJ{env:Env}{scope:Scope}(h:∀ x,(x,NameKind.free)∈scope.names->∃ c,env.cells.lookup x=some c):closureFor scope env=pure (iI env.cells scope.names []):=by
 simp only[closureFor]
 rw[lY (env:=env) _ (fun name kind cs=>by cases hk:kind==NameKind.free<;>simp[hk]) scope.names [] h]
 rfl
theorem pD{M:Model}{A:Around}{E:Value->Shared->Prop}{s:Shared}{scope:Scope}{globals:Addr}{closure:List (Str×Addr)}{qual:Str}{outer:Env}{Q:Env->Shared->Prop}
  (hQ:Q (newEnv scope s.heap.objs.size globals (cellsFrom (s.heap.objs.size+1) scope.names closure) qual none .none (some outer) builtinsNs) { s with heap:=pushCells (s.heap.push { cls:=.type "dict",data:=.dict #[] }) scope.names }) :
  wpAny M A (newFunctionEnv scope globals closure [] qual none .none (some outer)) Q E s:=by
 simp only[newFunctionEnv,Option.isSome_some,if_true]
 refine wpAny_bind (wpAny_alloc ?_)
 refine wpAny_bind (wpAny_layCells _ (fun name kind cells=>by cases hkc:kind==NameKind.cell<;>simp[hkc]) _ _ _ _ ?_)
 rw[show({ s with heap:=s.heap.push { cls:=.type "dict",data:=.dict #[] } }:Shared).heap.objs.size=s.heap.objs.size+1 from Heap.size_push ..]
 rw[List.forIn_nil]
 exact wpAny_bind (wpAny_pure (wpAny_pure hQ))
theorem gH{α:Type}:∀ {l:List (Str×α)} {x:Str} {c:α},(x,c)∈l->∃ d,l.lookup x=some d
  | (y, d) :: r, x, c, h => by
    rw[List.lookup_cons]
    cases hb:x==y with
    | true=>exact⟨d,rfl⟩
    | false =>
      rcases List.mem_cons.mp h with e | h
      · cases e;simp at hb
      · exact gH h
theorem bU{α:Type}:∀ {l:List (Str×α)} {x:Str} {c:α},(l.map (·.1)).Nodup->(x,c)∈l->l.lookup x=some c
  | (y, d) :: r, x, c, hn, h => by
    rw[List.map_cons,List.nodup_cons] at hn
    rw[List.lookup_cons]
    rcases List.mem_cons.mp h with e | h'
    · cases e;simp
    · have hne:(x==y)=false:=by
        rw[beq_eq_false_iff_ne]
        intro exy
        exact hn.1 (List.mem_map.mpr ⟨(x,c),h',exy⟩)
      rw[hne]
      exact bU hn.2 h'
theorem cZ{x:Str}{c:Addr}:∀ (names:List (Str×NameKind)) (n:Nat) (acc:List (Str×Addr)),(cellsFrom n names acc).lookup x=some c ->
    ((x,NameKind.cell)∈names/\n<=c)\/((x,NameKind.cell)∉names/\acc.lookup x=some c)
  | [],_,_,h=>.inr ⟨by simp,h⟩
  | (y, k) :: r, n, acc, h => by
    unfold cellsFrom at h
    cases hk:k==NameKind.cell with
    | true =>
      have ek:k=.cell:=by simpa using hk
      subst ek
      rw[if_pos (show(NameKind.cell==NameKind.cell)=true from rfl)] at h
      rcases cZ r _ _ h with⟨h1,h2⟩ | ⟨h1,h2⟩
      · exact .inl ⟨List.mem_cons_of_mem _ h1,by omega⟩
      · rw[List.lookup_cons] at h2
        cases hb:x==y with
        | true =>
          rw[hb] at h2
          cases h2
          have:x=y:=by simpa using hb
          subst this
          exact .inl ⟨List.mem_cons_self,Nat.le_refl _⟩
        | false =>
          rw[hb] at h2
          refine .inr ⟨fun hm=>?_,h2⟩
          rcases List.mem_cons.mp hm with e | hm
          · cases e;simp at hb
          · exact h1 hm
    | false =>
      rw[hk] at h
      simp only[Bool.false_eq_true,if_false] at h
      rcases cZ r _ _ h with⟨h1,h2⟩ | ⟨h1,h2⟩
      · exact .inl ⟨List.mem_cons_of_mem _ h1,h2⟩
      · refine .inr ⟨fun hm=>?_,h2⟩
        rcases List.mem_cons.mp hm with e | hm
        · cases e;simp at hk
        · exact h1 hm
theorem dJ:∀ (names:List (Str×NameKind)) (n:Nat) (acc:List (Str×Addr)),(acc.Pairwise fun x y=>x.2≠y.2)->(∀ p∈acc,p.2<n)->(cellsFrom n names acc).Pairwise fun x y=>x.2≠y.2
  | [],_,_,h,_=>h
  | (y, k) :: r, n, acc, h, hl => by
    unfold cellsFrom
    split
    · refine dJ r _ _ (List.pairwise_cons.mpr ⟨fun p hp e=>?_,h⟩) fun p hp=>?_
      · have e':n=p.2:=e
        have q:=hl p hp
        rw[<- e'] at q
        exact Nat.lt_irrefl _ q
      · rcases List.mem_cons.mp hp with e | hp
        · subst e;exact Nat.lt_succ_self _
        · exact Nat.lt_succ_of_lt (hl p hp)
    · exact dJ r _ _ h hl
theorem pQ{cells:List (Str×Addr)}(inj:∀ x y c,cells.lookup x=some c->cells.lookup y=some c->x=y):∀ (names:List (Str×NameKind)) (acc:List (Str×Addr)),(names.map (·.1)).Nodup->(∀ x,(x,NameKind.free)∈names->∃ c,cells.lookup x=some c) ->
    (acc.Pairwise fun x y=>x.2≠y.2)->(∀ p∈acc,cells.lookup p.1=some p.2/\p.1∉names.map (·.1))->((iI cells names acc).Pairwise fun x y=>x.2≠y.2)/\∀ p∈iI cells names acc,cells.lookup p.1=some p.2
  | [],acc,_,_,h1,h2=>⟨h1,fun p hp=>(h2 p hp).1⟩
  | (y, k) :: r, acc, hn, hf, h1, h2 => by
    rw[List.map_cons,List.nodup_cons] at hn
    have hf':∀ x,(x,NameKind.free)∈r->∃ c,cells.lookup x=some c:=fun x hx=>hf x (List.mem_cons_of_mem _ hx)
    unfold iI
    split
    · rename_i hk
      have ek:k=.free:=by simpa using hk
      subst ek
      obtain⟨c,hc⟩:=hf y List.mem_cons_self
      rw[hc]
      refine pQ inj r _ hn.2 hf' (List.pairwise_cons.mpr ⟨fun p hp e=>?_,h1⟩) fun p hp=>?_
      · have e':c=p.2:=e
        obtain⟨a1,a2⟩:=h2 p hp
        rw[<- e'] at a1
        have:=inj _ _ _ a1 hc
        exact a2 (by rw[this];simp)
      · rcases List.mem_cons.mp hp with e | hp
        · subst e;exact⟨hc,hn.1⟩
        · exact⟨(h2 p hp).1,fun z=>(h2 p hp).2 (List.mem_cons_of_mem _ z)⟩
    · exact pQ inj r _ hn.2 hf' h1 fun p hp=>⟨(h2 p hp).1,fun z=>(h2 p hp).2 (List.mem_cons_of_mem _ z)⟩
theorem mF{cells:List (Str×Addr)}{p:Str×Addr}:∀ (names:List (Str×NameKind)) (acc:List (Str×Addr)),p∈acc->p∈iI cells names acc
  | [],_,h=>h
  | (y, k) :: r, acc, h => by
    unfold iI
    split
    · exact mF r _ (List.mem_cons_of_mem _ h)
    · exact mF r _ h
theorem mD{cells:List (Str×Addr)}{x:Str}:∀ (names:List (Str×NameKind)) (acc:List (Str×Addr)),(x,NameKind.free)∈names->∃ c,(x,c)∈iI cells names acc
  | (y, k) :: r, acc, h => by
    unfold iI
    rcases List.mem_cons.mp h with e | h
    · cases e
      rw[if_pos (show(NameKind.free==NameKind.free)=true from rfl)]
      exact⟨_,mF r _ List.mem_cons_self⟩
    · split
      · exact mD r _ h
      · exact mD r _ h
theorem dZ{env:Env}{x:Str}:∀ (names:List (Str×NameKind)),
    (names.map fun(n,k)=>if(k==NameKind.free&&env.scope.kind==.function&&env.kindOf n==some .cell) then(n,NameKind.cell) else(n,k)).lookup x =
      (names.lookup x).map fun k=>if(k==NameKind.free&&env.scope.kind==.function&&env.kindOf x==some .cell) then NameKind.cell else k
  | []=>rfl
  | (y, k) :: r => by
    have ih:=dZ (x:=x) (env:=env) r
    by_cases hx:x=y
    · subst hx
      cases hc:(k==NameKind.free&&env.scope.kind==.function&&env.kindOf x==some .cell)<;>simp only[List.map_cons,hc,List.lookup_cons,beq_self_eq_true,Option.map_some,if_true,if_false,Bool.false_eq_true]
    · have hb:(x==y)=false:=by simpa using hx
      cases hc:(k==NameKind.free&&env.scope.kind==.function&&env.kindOf y==some .cell)<;>simp only[List.map_cons,hc,List.lookup_cons,hb,if_true,if_false,Bool.false_eq_true]<;>exact ih
def qI(N:List Str)(σ:St)(x:Str):Option V:=match N.idxOf? x with
 | some j=>(σ[j]?).getD none
 | none=>none
def pF(N:List Str)(names:List (Str×NameKind))(σ:St):St:=names.map fun p=>if p.2==.free then qI N σ p.1 else none
def rC(scope:Scope)(cells:List (Str×Addr))(C:Addr)(env:Env):Env :=
 { scope:=relabel scope env,locals:=C,globals:=env.globals,cells:=cells,qual:=env.qual,func:=none,code:=env.code,frame:=env.frame,builtins:=env.builtins }
structure CompOf (X:Cx) (scope:Scope) (Xc:Cx):Prop where
 prog:Xc.prog=X.prog
 w:Xc.w=X.w
 K:Xc.K=X.K
 mg:Xc.mg=X.mg
 base:Xc.base=X.base
 A:Xc.A=X.A
 N:Xc.N=scope.names.map (·.1)
 sc:Xc.env.scope=relabel scope X.env
 calm:Xc.calm=true
 fn:Xc.fn=fun x=>scope.names.lookup x==some .cell
 xe:Xc.xe=fun _ _=>False
def nY(X:Cx)(scope:Scope)(cells:List (Str×Addr))(C:Addr)(s:Shared)(H:Hp)(fp:List Addr):Cx where
 prog:=X.prog
 w:=X.w
 K:=X.K
 mg:=X.mg
 base:=X.base
 A:=X.A
 N:=scope.names.map (·.1)
 s₀:=s
 H₀:=H
 env:=rC scope cells C X.env
 outer:=X.stack
 stack:=X.stack
 ex:=fp
 fn:=fun x=>scope.names.lookup x==some .cell
 calm:=true
 pn:=[]
 xe:=fun _ _=>False
def wY(X:Cx)(ifs:List Expr)(t:TT):Prop :=
  ∀ (pins : List (Addr × Obj)) (s : Shared) (σ : St) (H : Hp) (Q : Bool -> Hp -> Prop), Inv X pins σ H s -> t σ H Q ->
    wpAny (model X.prog X.w) X.A (forIn ifs true fun c r=>if r=true then do let ok <- isTrue c X.env (eval c X.env);pure (ForInStep.yield ok) else pure (ForInStep.yield r)) (TP X pins σ Q) X.xe s
theorem yd{X:Cx}:wY X [] (fun _ H Q=>Q true H):=fun _ _ _ H _ I h=>wpAny_tests_nil ⟨H,I,h⟩
theorem yc{X:Cx}{c:Expr}{t:TT}(h:PT X c t):wY X [c] t:=fun pins s σ H Q I hw=>wpAny_tests_one (h pins s σ H Q I hw)
def o8(X:Cx)(scope:Scope)(wi:TI)(mk:St->St)(g:Cx->TG)(tc:Cx->TT)(te:Cx->TE):TE:=fun σ H Q=>wi σ H fun J H1=>∀ acc,H1 acc=none->∀ Xc,CompOf X scope Xc ->
  ∃ W : Nat -> Nat -> St -> Hp -> Prop, (∃ m, W 0 m (mk σ) (upd H1 acc (.lst []))) /\ ∀ i m σc H, W i m σc H ->
    (J.stop i H/\Q (.ref acc) H)\/(J.go i H/\∃ N:St->Hp->Prop,(∀ σ' H',N σ' H'->∃ m',m'<m/\W (i+1) m' σ' H')/\∀ x H',J.yld i H x H' ->
      g Xc x σc H' fun σ2 H2=>tc Xc σ2 H2 fun b H3=>if b=true then te Xc σ2 H3 fun v H4=>∃ ys,H4 acc=some (.lst ys)/\ys.length<sizeLine/\N σ2 (upd H4 acc (.lst (ys++[v]))) else N σ2 H3)
theorem fO{prog:Program}{w:World}{A:Around}{R:Result->Shared->Prop}{s:Shared}{elt target iter:Expr}{ifs:List Expr}{scope:Scope}{pos:Pos}{it acc:Value}{env:Env}(I:Nat->Shared->Prop)
    (turn:∀ n s,I n s->wpAny (model prog w) A (pyNext it) (fun r s₁=>match r with
      | none=>R (.ok .next) s₁
      | some v=>wpAny (model prog w) A (letOwnedTupleGo target it v) (fun _ s₁'=>wpAny (model prog w) A (assign target env v) (fun _ s₂ =>
          wpAny (model prog w) A (forIn ifs true fun c r=>if r=true then do let ok <- isTrue c env (eval c env);pure (ForInStep.yield ok) else pure (ForInStep.yield r)) (fun ok s₃ =>
            if ok=true then wpAny (model prog w) A (eval elt env) (fun x s₄ =>
              wpAny (model prog w) A (call (.builtin "list.append") [acc,x]) (fun _ s₅=>∃ m,m<n/\I m s₅) (fun _ _=>False) s₄) (fun _ _=>False) s₃
            else ∃ m,m<n/\I m s₃) (fun _ _=>False) s₂) (fun _ _=>False) s₁') (fun _ _=>False) s₁) (fun _ _=>False) s)
    (n:Nat) (h:I n s) :
    codeAny (model prog w) A (.compLoop (.ListComp elt [⟨target,iter,ifs,0⟩] scope pos) 0 it acc env) R s:=by
  refine codeAny_loop rfl I (fun n s hI=>?_) n h
  show wpAny _ A ((compTurn (.ListComp elt [⟨target,iter,ifs,0⟩] scope pos) 0 it acc env).onRaise (fun x=>do noteFrame x env;theTreesLotGoes x)) _ _ s
  refine wpAny_noted ?_
  rw[compTurn_list]
  refine wpAny_bind (wpAny_standAt (wpAny_bind (wpAny_mono (turn n s hI) (fun r s₁ h₁=>?_) fun _ _ h'=>h'.elim)))
  cases r with
  | none=>exact wpAny_pure h₁
  | some v =>
    refine wpAny_bind (wpAny_mono h₁ (fun _ s₁' h₁'=>?_) fun _ _ h'=>h'.elim)
    refine wpAny_bind (wpAny_mono h₁' (fun _ s₂ h₂=>wpAny_bind (wpAny_mono h₂ (fun ok s₃ h₃=>?_) fun _ _ h'=>h'.elim)) fun _ _ h'=>h'.elim)
    cases ok with
    | false=>exact wpAny_pure ⟨rfl,h₃⟩
    | true =>
      exact wpAny_bind (wpAny_bind (wpAny_mono h₃ (fun x s₄ h₄=>wpAny_bind (wpAny_mono h₄ (fun _ s₅ h₅=>wpAny_pure (wpAny_pure ⟨rfl,h₅⟩)) fun _ _ h'=>h'.elim)) fun _ _ h'=>h'.elim))
section
variable {X:Cx}
theorem iD{pins:List (Addr×Obj)}{σ:St}{H:Hp}{s:Shared}{scope:Scope}(I:Inv X pins σ H s)(hnd:(scope.names.map (·.1)).Nodup)
  (hcap:∀ x,(x,NameKind.free)∈scope.names->X.env.kindOf x=some .cell\/X.env.kindOf x=some .free) :
  (∀ x,(x,NameKind.free)∈scope.names->∃ c,X.env.cells.lookup x=some c) /\
  ((cellsFrom (s.heap.objs.size+1) scope.names (iI X.env.cells scope.names [])).Pairwise fun x y=>x.2≠y.2) /\
  (∀ x c,(cellsFrom (s.heap.objs.size+1) scope.names (iI X.env.cells scope.names [])).lookup x=some c->((x,NameKind.cell)∈scope.names/\s.heap.objs.size+1<=c)\/((x,NameKind.cell)∉scope.names/\X.env.cells.lookup x=some c/\c<s.heap.objs.size)) /\
  (∀ x,(x,NameKind.free)∈scope.names->(cellsFrom (s.heap.objs.size+1) scope.names (iI X.env.cells scope.names [])).lookup x=X.env.cells.lookup x):=by
 have hf:∀ x,(x,NameKind.free)∈scope.names->∃ c,X.env.cells.lookup x=some c:=fun x hx=>I.ok.has x (hcap x hx)
 have ok:=pQ I.ok.inj scope.names [] hnd hf List.Pairwise.nil (fun p hp=>absurd hp (by simp))
 have small:∀ x c,X.env.cells.lookup x=some c->c<s.heap.objs.size:=fun x c e=>by
  obtain⟨v,z⟩:=I.cell x c e
  exact z.lt
 refine⟨hf,dJ _ _ _ ok.1 fun p hp=>Nat.lt_succ_of_lt (small p.1 p.2 (ok.2 p hp)),fun x c e=>?_,fun x hx=>?_⟩
 ·rcases cZ _ _ _ e with h | ⟨h1,h2⟩
  ·exact .inl h
  ·have h3:=ok.2 _ (PySem.mem_of_lookup h2)
   exact .inr ⟨h1,h3,small _ _ h3⟩
 ·obtain⟨c,hc⟩:=hf x hx
  have nc:(x,NameKind.cell)∉scope.names:=fun z=>by
   have e1:=bU hnd z
   rw[bU hnd hx] at e1
   cases e1
  obtain⟨d,hd⟩:=mD (cells:=X.env.cells) scope.names [] hx
  obtain⟨d',hd'⟩:=gH hd
  have hs:((cellsFrom (s.heap.objs.size+1) scope.names (iI X.env.cells scope.names [])).lookup x).isSome=true:=PySem.W.cellsFrom_some _ _ _ (.inr (by rw[hd'];rfl))
  obtain⟨c',hc'⟩:=Option.isSome_iff_exists.mp hs
  rcases cZ _ _ _ hc' with⟨h,_⟩ | ⟨_,h2⟩
  ·exact absurd h nc
  ·rw[hc',ok.2 _ (PySem.mem_of_lookup h2)]
theorem Dn:∀ (names:List (Str×NameKind)) (h:Heap) (acc:List (Str×Addr)) {x:Str} {c:Addr},(cellsFrom h.objs.size names acc).lookup x=some c->(x,NameKind.cell)∈names->(pushCells h names).IsCell c none:=by
  intro names
  induction names with
  | nil=>intro h acc x c e hx;cases hx
  | cons p r ih =>
    obtain⟨y,k⟩:=p
    intro h acc x c e hx
    unfold cellsFrom at e
    unfold pushCells
    by_cases hin:(x,NameKind.cell)∈r
    · split at e
      · rename_i hk
        rw[if_pos hk]
        refine ih (h.push { cls:=.type "cell",data:=.cell none }) ((y,h.objs.size)::acc) ?_ hin
        rw[Heap.size_push];exact e
      · rename_i hk
        rw[if_neg hk]
        exact ih h acc e hin
    · rcases List.mem_cons.mp hx with ex | hx
      · cases ex
        rw[if_pos (show(NameKind.cell==NameKind.cell)=true from rfl)] at e ⊢
        rcases cZ _ _ _ e with⟨h1,_⟩ | ⟨_,h2⟩
        · exact absurd h1 hin
        · rw[List.lookup_cons] at h2
          simp at h2
          subst h2
          exact⟨_,pushCells_keeps _ _ _ _ (Heap.get?_push_size _ rfl),rfl⟩
      · exact absurd hx hin
theorem zF{pins:List (Addr×Obj)}{σ:St}{H:Hp}{s:Shared}{scope:Scope}{fp:List Addr}(I:Inv X pins σ H s)(hc:X.calm=true)(hk:scope.kind=.function)(hnd:(scope.names.map (·.1)).Nodup)
    (hcap:∀ x,(x,NameKind.free)∈scope.names->X.env.kindOf x=some .cell\/X.env.kindOf x=some .free) (hfp:∀ b∈fp,tM X pins H b) (hlt:∀ b∈fp,b<s.heap.objs.size) :
    Inv (nY X scope (cellsFrom (s.heap.objs.size+1) scope.names (iI X.env.cells scope.names [])) s.heap.objs.size s H fp) [] (pF X.N scope.names σ) H { s with heap:=pushCells (s.heap.push { cls:=.type "dict",data:=.dict #[] }) scope.names }:=by
  obtain⟨hf,apart,look,same⟩:=iD I hnd hcap
  have keep:∀ b o,s.heap.get? b=some o->(pushCells (s.heap.push { cls:=.type "dict",data:=.dict #[] }) scope.names).get? b=some o:=fun b o e=>pushCells_keeps _ _ b o (Heap.get?_push_of_some _ e)
  have ckd:=cellsFrom_ok scope.names (s.heap.push { cls:=.type "dict",data:=.dict #[] }) (s.heap.objs.size+1) [] ⟨fun _ _ hm=>(nomatch hm),List.Pairwise.nil⟩ (by rw[Heap.size_push];exact Nat.le_refl _)
  rw[Heap.size_push] at ckd
  have own:∀ x c,(cellsFrom (s.heap.objs.size+1) scope.names (iI X.env.cells scope.names [])).lookup x=some c->(x,NameKind.cell)∈scope.names->(pushCells (s.heap.push { cls:=.type "dict",data:=.dict #[] }) scope.names).IsCell c none:=fun x c e hx=>Dn scope.names (s.heap.push { cls:=.type "dict",data:=.dict #[] }) _ (by rw[Heap.size_push];exact e) hx
  have kinds:∀ x,(nY X scope (cellsFrom (s.heap.objs.size+1) scope.names (iI X.env.cells scope.names [])) s.heap.objs.size s H fp).env.kindOf x=(scope.names.lookup x).map fun k=>if(k==NameKind.free&&X.env.scope.kind==.function&&X.env.kindOf x==some .cell) then NameKind.cell else k:=fun x=>dZ scope.names
  have fresh:∀ {b:Addr},s.heap.objs.size<=b->H b=none:=fun hb=>I.hok.fresh hb
  refine⟨⟨I.ok.mod,hk,I.ok.glob,I.ok.blt,Nat.le_refl _,fun x y c e1 e2=>name_of_addr apart (PySem.mem_of_lookup e1) (PySem.mem_of_lookup e2),fun x hx=>?_,fun x c hx e=>?_,fun _=>I.ok.hd hc,I.ok.frames,.inl rfl,fun b hb=>⟨Nat.ne_of_lt (hlt b hb),fun x c e=>?_⟩,I.bs,Nat.le_trans I.ok.bsz I.sz,fun b o e hb=>?_,fun b hb z=>?_,I.stack,I.stkFree⟩,
    rfl,I.bare,Un.kept keep,⟨fun _=>none,?_,fun i x v e1 e2 e3=>?_⟩,fun x c e=>?_,fresh (Nat.le_refl _),fun x c e=>?_,fun p hp=>absurd (show p∈([]:List (Addr×Obj)) from hp) (by simp),I.hok.kept keep,?_⟩
  ·
    rw[kinds x] at hx
    cases hl:scope.names.lookup x with
    | none=>rw[hl] at hx;rcases hx with h | h<;>cases h
    | some k =>
      rw[hl] at hx
      have hm:=PySem.mem_of_lookup hl
      cases k with
      | cell=>exact Option.isSome_iff_exists.mp (PySem.W.cellsFrom_some _ _ _ (.inl hl))
      | free =>
        obtain⟨c,h⟩:=hf x hm
        exact⟨c,(same x hm).trans h⟩
      | _=>simp at hx
  · have hm:(x,NameKind.cell)∈scope.names:=PySem.mem_of_lookup (by simpa[nY] using hx)
    rcases look x c e with⟨_,h⟩ | ⟨h,_⟩
    · exact Nat.le_of_succ_le h
    · exact absurd hm h
  · rcases look x c e with⟨_,h⟩ | ⟨_,h,_⟩
    · exact Nat.ne_of_gt (Nat.lt_of_lt_of_le (hlt b hb) (Nat.le_of_succ_le h))
    · exact(hfp b hb).2.2.2.2.1 x c h
  · rcases(hfp b hb).2.2.2.1 with z | z
    · exact I.ok.noex b o e z
    · exact absurd (Nat.lt_of_lt_of_le (Heap.lt_size e) (Nat.le_trans I.ok.bsz z)) (Nat.lt_irrefl _)
  · rcases List.mem_cons.mp (I.stkSub b z) with h | h
    · exact(hfp b hb).2.1 h
    · exact(hfp b hb).2.2.1 h
  · exact(Heap.Ns.new s.heap (.type "dict")).keeps (pushCells_keeps _ _)
  ·
    have e1':(scope.names.map (·.1))[i]?=some x:=e1
    rw[List.getElem?_map] at e1'
    unfold pF at e2
    rw[List.getElem?_map] at e2
    cases hp:scope.names[i]? with
    | none=>rw[hp] at e2;cases e2
    | some p =>
      rw[hp] at e1' e2
      have ex:p.1=x:=Option.some.inj e1'
      have e2':(if p.2==.free then qI X.N σ p.1 else none)=some v:=Option.some.inj e2
      cases hk2:p.2==NameKind.free with
      | false=>rw[hk2] at e2';simp at e2'
      | true =>
        rw[hk2] at e2'
        simp only[if_true] at e2'
        have ek:p.2=.free:=by simpa using hk2
        have hm:(x,NameKind.free)∈scope.names:=by
          have:=List.mem_of_getElem? hp
          rw[<- ex,<- ek];exact this
        unfold qI at e2'
        rw[ex] at e2'
        cases hj:X.N.idxOf? x with
        | none=>rw[hj] at e2';cases e2'
        | some j =>
          rw[hj] at e2'
          have e3:(σ[j]?).getD none=some v:=e2'
          have hσ:σ[j]?=some (some v):=by
            cases q:σ[j]? with
            | none=>rw[q] at e3;simp at e3
            | some o=>rw[q] at e3;simp at e3;rw[e3]
          have hN:X.N[j]?=some x:=by
            rw[List.idxOf?,List.findIdx?_eq_some_iff_getElem] at hj
            obtain⟨h1,h2,_⟩:=hj
            rw[List.getElem?_eq_getElem h1]
            simpa using h2
          obtain⟨m,hn,hl⟩:=I.loc
          have kx:=hcap x hm
          obtain⟨u,r,l⟩:=hl j x v hN hσ (by rcases kx with k | k;exact .inr (.inl k);exact .inr (.inr k))
          refine⟨u,r,.inr ⟨?_,?_⟩⟩
          · rw[kinds x,bU hnd hm]
            simp only[Option.map_some]
            split
            · exact .inl rfl
            · exact .inr rfl
          · rcases l with⟨k,_⟩ | ⟨_,c,hc',z⟩
            · rcases kx with k' | k'<;>(rw[k'] at k;cases k)
            · exact⟨c,(same x hm).trans hc',z.keeps keep⟩
  · rcases look x c e with⟨h,_⟩ | ⟨_,h,_⟩
    · exact⟨_,own x c e h⟩
    · obtain⟨v,z⟩:=I.cell x c h
      exact⟨v,z.keeps keep⟩
  · rcases look x c e with⟨_,h⟩ | ⟨_,h,_⟩
    · exact fresh (Nat.le_of_succ_le h)
    · exact I.freeC x c h
  · show(pF X.N scope.names σ).length=(scope.names.map (·.1)).length
    unfold pF
    rw[List.length_map,List.length_map]
structure Blk (X:Cx) (pins:List (Addr×Obj)) (H:Hp) (s:Shared) (C:Addr):Prop where
 ns:∃ m,s.heap.Ns C m
 free:H C=none
 loc:C≠X.env.locals
 abv:X.s₀.heap.objs.size<=C
 cel:∀ x c,X.env.cells.lookup x=some c->c≠C
 pin:∀ p∈X.pn++pins,p.1≠C
theorem nZ{elt tg iter:Expr}{ifs:List Expr}{scope:Scope}{pos:Pos}{wi:TI}{g:Cx->TG}{tc:Cx->TT}{te:Cx->TE}(hc:X.calm=true)(hk:scope.kind=.function)(hnd:(scope.names.map (·.1)).Nodup)
    (hcap:∀ x,(x,NameKind.free)∈scope.names->X.env.kindOf x=some .cell\/X.env.kindOf x=some .free) (hi:PI X tg iter wi)
    (hin:∀ Xc:Cx,CompOf X scope Xc->PG Xc tg (g Xc)/\wY Xc ifs (tc Xc)/\PE Xc elt (te Xc)) {pins:List (Addr×Obj)} {s:Shared} {σ:St} {H:Hp} {Q:VK} (I:Inv X pins σ H s) (h:o8 X scope wi (pF X.N scope.names) g tc te σ H Q) {R:Value->Addr->Result->Shared->Prop}
    (fin:∀ acc C H' s',Inv X pins σ H' s'->Blk X pins H' s' C->Q (.ref acc) H'->R (.ref acc) C (.ok .next) s') :
    wpAny (model X.prog X.w) X.A (eval iter X.env) (fun x s₁=>wpAny (model X.prog X.w) X.A (pyIter x) (fun it s₂=>wpAny (model X.prog X.w) X.A (newList []) (fun acc s₃ =>
      wpAny (model X.prog X.w) X.A (newFunctionEnv scope X.env.globals (iI X.env.cells scope.names []) [] X.env.qual none .none (some X.env)) (fun cenv s₄ =>
        codeAny (model X.prog X.w) X.A (.compStart (.ListComp elt [⟨tg,iter,ifs,0⟩] scope pos) 0 it acc { cenv with scope:=relabel scope X.env }) (R acc cenv.locals) s₄) X.xe s₃) X.xe s₂) X.xe s₁) X.xe s:=by
  refine thn (hi pins s σ H _ I h) fun v s1 h1=>thn h1 fun itv s2 h2=>?_
  obtain⟨it,fp,tn,J,H2,rfl,I2,T,st2,f2,q2⟩:=h2
  refine wpAny_newObj_type ?_
  have hf:H2 s2.heap.objs.size=none:=I2.hok.fresh (Nat.le_refl _)
  have I3:=I2.lnew (ys:=[]) (its:=[]) (t':=s2.toks) .nil (Nat.zero_le _)
  generalize hs3:({ s2 with heap:=s2.heap.push { cls:=.type "list",data:=.seq ([]:List Value).toArray },toks:=s2.toks }:Shared)=s3 at I3
  have lt2:∀ b∈fp,b<s2.heap.objs.size:=fun b hb=>by
    obtain⟨o,e,_⟩:=T.obj _ _ st2 b hb
    exact Heap.lt_size e
  have f3:∀ b∈fp,tM X pins (upd H2 s2.heap.objs.size (.lst [])) b:=fun b hb=>⟨by rw[aO (Nat.ne_of_lt (lt2 b hb))];exact(f2 b hb).1,(f2 b hb).2⟩
  have sz3:s3.heap.objs.size=s2.heap.objs.size+1:=by rw[<- hs3];exact Heap.size_push ..
  have lt3:∀ b∈fp,b<s3.heap.objs.size:=fun b hb=>by rw[sz3];exact Nat.lt_succ_of_lt (lt2 b hb)
  have st3:tn 0 s3.heap:=T.keep _ _ _ st2 fun b hb o e=>by rw[<- hs3];exact Heap.get?_push_of_some _ e
  have J0:=zF I3 hc hk hnd hcap f3 lt3
  have cO:CompOf X scope (nY X scope (cellsFrom (s3.heap.objs.size+1) scope.names (iI X.env.cells scope.names [])) s3.heap.objs.size s3 (upd H2 s2.heap.objs.size (.lst [])) fp):=⟨rfl,rfl,rfl,rfl,rfl,rfl,rfl,rfl,rfl,rfl,rfl⟩
  obtain⟨hg,hif,he⟩:=hin _ cO
  obtain⟨W,⟨m0,w0⟩,turn⟩:=q2 s2.heap.objs.size hf _ cO
  refine pD ?_
  have st4:tn 0 (pushCells (s3.heap.push { cls:=.type "dict",data:=.dict #[] }) scope.names):=T.keep _ _ _ st3 fun b _ o e=>pushCells_keeps _ _ b o (Heap.get?_push_of_some _ e)
  generalize hXc:nY X scope (cellsFrom (s3.heap.objs.size+1) scope.names (iI X.env.cells scope.names [])) s3.heap.objs.size s3 (upd H2 s2.heap.objs.size (.lst [])) fp=Xc at J0 hg hif he turn
  have hprog:Xc.prog=X.prog:=by rw[<- hXc];rfl
  have hw:Xc.w=X.w:=by rw[<- hXc];rfl
  have hK:Xc.K=X.K:=by rw[<- hXc];rfl
  have hA:Xc.A=X.A:=by rw[<- hXc];rfl
  have hcm:Xc.calm=true:=by rw[<- hXc];rfl
  have hxe:Xc.xe=fun _ _=>False:=by rw[<- hXc];rfl
  have hen:Xc.env=rC scope (cellsFrom (s3.heap.objs.size+1) scope.names (iI X.env.cells scope.names [])) s3.heap.objs.size X.env:=by rw[<- hXc];rfl
  have hex:Xc.ex=fp:=by rw[<- hXc];rfl
  have hfs:Xc.fs=frs X.stack:=by rw[<- hXc];rfl
  have hs0:Xc.s₀=s3:=by rw[<- hXc];rfl
  have hH0:Xc.H₀=upd H2 s2.heap.objs.size (.lst []):=by rw[<- hXc];rfl
  have hpn:Xc.pn=[]:=by rw[<- hXc];rfl
  have stat:∀ {H':Hp},(∀ b∈fp,H' b=none)->∀ b∈fp,tM Xc [] H' b:=fun {H'} hn b hb=>by
    refine⟨hn b hb,(J0.ok.exf b (by rw[hex];exact hb)).1,fun z=>J0.ok.exfs b (by rw[hex];exact hb) z,.inl (by rw[hex];exact hb),(J0.ok.exf b (by rw[hex];exact hb)).2,fun p hp=>?_⟩
    rw[hpn] at hp
    exact absurd hp (by simp)
  have loop:codeAny (model X.prog X.w) X.A (.compLoop (.ListComp elt [⟨tg,iter,ifs,0⟩] scope pos) 0 (.ref it) (.ref s2.heap.objs.size) Xc.env)
      (R (.ref s2.heap.objs.size) s3.heap.objs.size) { s3 with heap:=pushCells (s3.heap.push { cls:=.type "dict",data:=.dict #[] }) scope.names }:=by
    refine fO (fun n s'=>∃ i σ' H',Inv Xc [] σ' H' s'/\tn i s'.heap/\(∀ b∈fp,H' b=none)/\W i n σ' H') ?_ m0 ⟨0,_,_,J0,st4,fun b hb=>(f3 b hb).1,w0⟩
    rintro n s5 ⟨i,σ5,H5,I5,st5,fr5,w5⟩
    rcases turn i n σ5 H5 w5 with⟨stop,qn⟩ | ⟨go,N,hN,step⟩
    · have q:=T.done Xc hprog hw hK hcm i [] s5 σ5 H5 (fun _ _=>False) I5 (stat fr5) st5 stop
      rw[hA] at q
      refine thn q fun r s6 ⟨hr,I6⟩=>?_
      subst hr
      have hL:Xc.env.locals=s3.heap.objs.size:=by rw[hen];rfl
      have ub:=I6.base
      rw[hfs,hex,hH0,hs0] at ub
      have IX:Inv X pins σ H5 s6:=by
        refine I3.call' (ch:=fp) ?_ ub ?_ I6.bare fun b hb=>⟨(f3 b hb).2.2.2.1,(f3 b hb).2.1,(f3 b hb).2.2.2.2.1,(f3 b hb).2.2.2.2.2⟩
        · have:=I6.os
          rw[hs0] at this
          exact this
        · have hok:=I6.hok
          rw[hprog,hw] at hok
          exact hok
      refine fin _ _ _ _ IX ⟨?_,?_,Nat.ne_of_gt I3.lt,I3.sz,fun x c e=>?_,fun p hp=>?_⟩ qn
      · obtain⟨m,hn,_⟩:=I6.loc
        rw[hL] at hn
        exact⟨m,hn⟩
      · have:=I6.free
        rw[hL] at this
        exact this
      · obtain⟨v,z⟩:=I3.cell x c e
        exact Nat.ne_of_lt z.lt
      · exact Nat.ne_of_lt (Heap.lt_size (I3.pin p hp).1)
    · have q:=T.item Xc hprog hw hK hcm i [] s5 σ5 H5 (fun _ _=>False) I5 (stat fr5) st5 go
      rw[hA] at q
      refine thn q fun r s6 ⟨u,hr,h6⟩=>?_
      subst hr
      refine thn h6 fun _ s7 ⟨x,H7,I7,r7,y7,st7,fr7⟩=>?_
      have I7':=I7.pinned (stat fr7) (T.obj _ _ st7)
      have q8:=hg _ s7 σ5 H7 x u _ I7' r7 (step x H7 y7)
      rw[hprog,hw,hA,hxe] at q8
      refine thn q8 fun _ s8 ⟨σ8,H8,I8,z8⟩=>?_
      have q9:=hif _ s8 σ8 H8 _ I8 z8
      rw[hprog,hw,hA,hxe] at q9
      refine thn q9 fun ok s9 ⟨H9,I9,z9⟩=>?_
      have again:∀ {s':Shared} {σ':St} {H':Hp},Inv Xc ([]++nq fp s7.heap) σ' H' s'->N σ' H'->∃ m,m<n/\∃ i σ' H',Inv Xc [] σ' H' s'/\tn i s'.heap/\(∀ b∈fp,H' b=none)/\W i m σ' H':=fun {s' σ' H'} I' n'=>by
        obtain⟨m',hm,w'⟩:=hN σ' H' n'
        refine⟨m',hm,i+1,σ',H',I'.unpinned,T.keep _ _ _ st7 fun b hb o e=>(I'.pin (b,o) (List.mem_append_right _ (List.mem_append_right _ (fK hb e)))).1,fun b hb=>?_,w'⟩
        obtain⟨o,e,d⟩:=T.obj _ _ st7 b hb
        exact(I'.pin (b,o) (List.mem_append_right _ (List.mem_append_right _ (fK hb e)))).2.1
      cases ok with
      | false =>
        rw[if_neg Bool.false_ne_true] at z9 ⊢
        exact again I9 z9
      | true =>
        rw[if_pos rfl] at z9 ⊢
        have q10:=he _ s9 σ8 H9 _ I9 z9
        rw[hprog,hw,hA,hxe] at q10
        refine thn q10 fun uv s10 ⟨v,H10,I10,r10,ys,hy,hz,z10⟩=>?_
        have q11:=jx (X:=Xc) _ s10 σ8 H10 (.ref s2.heap.objs.size) [v] (.ref s2.heap.objs.size) [uv] (fun _ H'=>N σ8 H') I10 rfl (.cons r10 .nil) ⟨_,ys,v,rfl,rfl,hy,hz,z10⟩
        rw[hprog,hw,hA,hxe] at q11
        exact thn q11 fun _ s11 ⟨_,H11,I11,_,z11⟩=>again I11 z11
  have eenv:({ (newEnv scope s3.heap.objs.size X.env.globals (cellsFrom (s3.heap.objs.size+1) scope.names (iI X.env.cells scope.names [])) X.env.qual none .none (some X.env) builtinsNs) with scope:=relabel scope X.env }:Env)=Xc.env:=by rw[hen];rfl
  rw[eenv]
  exact codeAny_compStart_list loop (T.self X.A 0 _ _ _ st4 loop)
theorem Blk.gone{pins:List (Addr×Obj)}{σ:St}{H:Hp}{s:Shared}{C:Addr}{h':Heap}(b:Blk X pins H s C)(I:Inv X pins σ H s)(hs:Heap.SameBut C s.heap h'):Inv X pins σ H { s with heap:=h' } :=
 I.turned (t':=s.toks) (fun c o hc e=>(hs.2 c hc).trans e) b.free b.loc (.inr b.abv) b.cel b.pin
theorem jr{elt tg iter:Expr}{ifs:List Expr}{scope:Scope}{pos:Pos}{wi:TI}{g:Cx->TG}{tc:Cx->TT}{te:Cx->TE}(hc:X.calm=true)(hk:scope.kind=.function)(hnd:(scope.names.map (·.1)).Nodup)
  (hcap:∀ x,(x,NameKind.free)∈scope.names->X.env.kindOf x=some .cell\/X.env.kindOf x=some .free) (hi:PI X tg iter wi)
  (hin:∀ Xc:Cx,CompOf X scope Xc->PG Xc tg (g Xc)/\wY Xc ifs (tc Xc)/\PE Xc elt (te Xc)) (hs:∀ x,foldedSetIterable iter X.env x=pure x) :
  PE X (.ListComp elt [⟨tg,iter,ifs,0⟩] scope pos) (o8 X scope wi (pF X.N scope.names) g tc te):=by
 intro pins s σ H Q I h
 rw[eval_ListComp]
 refine wpAny_comprehension_free (use:=none) (cl:=iI X.env.cells scope.names []) rfl hs (fJ (iD I hnd hcap).1) hk (fun x hx hl=>bU hnd (by rw[<- hl];exact hx)) ?_
 refine nZ hc hk hnd hcap hi hin I h fun acc C H' s' I' b q=>?_
 obtain⟨m,hn⟩:=b.ns
 exact⟨m,hn,fun h' hsb=>⟨.ref acc,H',b.gone I' hsb,rfl,q⟩⟩
theorem uK{i:Nat}{x:Str}{elt tg iter:Expr}{ifs:List Expr}{scope:Scope}{pos pos' spos:Pos}{wi:TI}{g:Cx->TG}{tc:Cx->TT}{te:Cx->TE}(hN:X.N.Nodup)(hix:X.N[i]?=some x)(hx:X.env.scope.names.lookup x=some .local)
    (hc:X.calm=true) (hk:scope.kind=.function) (hnd:(scope.names.map (·.1)).Nodup)
    (hcap:∀ x,(x,NameKind.free)∈scope.names->X.env.kindOf x=some .cell\/X.env.kindOf x=some .free) (hi:PI X tg iter wi)
    (hin:∀ Xc:Cx,CompOf X scope Xc->PG Xc tg (g Xc)/\wY Xc ifs (tc Xc)/\PE Xc elt (te Xc)) (hs:∀ x,foldedSetIterable iter X.env x=pure x)
    (hsw:swapsWith (.ListComp elt [⟨tg,iter,ifs,0⟩] scope pos) (some (.Name x pos')) spos.line X.env=pure true) :
    PS X (.Assign [.Name x pos'] (.ListComp elt [⟨tg,iter,ifs,0⟩] scope pos) spos) (J6 (o8 X scope wi (pF X.N scope.names) g tc te) (yQ i)):=by
  intro pins s σ H D I h
  rw[exec_Assign_Name_used _ _ _ _ hsw]
  refine wpAny_bind (wpAny_standAt (wpAny_bind ?_))
  show wpAny _ X.A (do let _ <- comprehension (.ListComp elt [⟨tg,iter,ifs,0⟩] scope pos) scope X.env _ (newList []) false (eval iter X.env) (some (assign (.Name x pos') X.env))) _ _ s
  refine wpAny_bind (thn (wpAny_comprehension_free (use:=some (assign (.Name x pos') X.env)) (Q:=fun _ s'=>SP X pins D .next s') (cl:=iI X.env.cells scope.names []) rfl hs (fJ (iD I hnd hcap).1) hk (fun x hx hl=>bU hnd (by rw[<- hl];exact hx))
    (nZ hc hk hnd hcap hi hin I h fun acc C H' s' I' b q=>?_)) fun _ s' hq=>wpAny_pure (wpAny_pure hq))
  show wpAny _ X.A (assign (.Name x pos') X.env (.ref acc)) _ _ s'
  refine wpAny_assign_Name (mX I' hN hix (.inl hx) (v:=.ref acc) rfl (fun s'' I'' ⟨a,hsb,ha⟩=>?_) (.inr hx))
  obtain⟨m,hn⟩:=b.ns
  have hCa:C≠a:=by
    rcases ha with ha | ha
    · rw[ha];exact b.loc
    · exact(b.cel x a ha).symm
  have b2:Blk X pins H' s'' C:=⟨⟨m,hn.sameBut hsb hCa⟩,b.free,b.loc,b.abv,b.cel,b.pin⟩
  exact⟨m,hn.sameBut hsb hCa,fun h' hsb'=>⟨_,H',b2.gone I'' hsb',q⟩⟩
end
end L2
namespace L2
open PySem PySem.Spec PyProof.Rows
section
variable {prog:Program} {w:World} {A:Around} {E:Value->Shared->Prop} {s:Shared}
theorem JN{it t:Addr}{i:Nat}{its:Array Value}{Q:Value->Shared->Prop}(hh:A.handled=none)(hit:s.heap.IsTupleIter it t i)(ht:s.heap.IsTuple t its)
    (hs:∀ x h',its[i]?=some x->h'.IsTupleIter it t (i+1)->Heap.SameBut it s.heap h'->Q x { s with heap:=h' })
    (he:∀ h' e,its[i]?=none->Heap.ExtBut it s.heap h'->(∃ o,h'.get? e=some o/\o.cls=.type "StopIteration")->E (.ref e) { s with heap:=h' }) :
    wpAny (model prog w) A (Builtin.SmallTypes.nextOf (.ref it)) Q E s:=by
  obtain⟨oi,hoi,hci,hdi⟩:=id hit
  obtain⟨ot,hot,_,nt,hdt⟩:=ht
  unfold Builtin.SmallTypes.nextOf
  refine wpAny_bind (wpAny_callSpecial?_slot (name:=Str.ofString "__next__") hit.typeIs F.slot_tuple_iterator_next (wpAny_call_entry F.slot_tuple_iterator_next hit.typeIs F.entry_tuple_iterator_next ?_ (F.args_tuple_iterator_next_1 _)))
  show wpAny _ _ (field (.ref it) 0 >>=_) _ _ s;refine wpAny_bind (wpAny_field hoi hdi (x:=.ref t) rfl ?_)
  have nn:¬ ((Value.ref t==Value.none)=true):=Bool.false_ne_true
  show wpAny _ _ (if(Value.ref t==Value.none)=true then _ else _) _ _ s;rw[if_neg nn]
  show wpAny _ _ (field (.ref it) 1 >>=_) _ _ s;refine wpAny_bind (wpAny_field hoi hdi (x:=.int i 0) rfl ?_)
  show wpAny _ _ (seqItems? (.ref t) >>=_) _ _ s;refine wpAny_bind (wpAny_seqItems hot hdt ?_)
  cases hx:its[i]? with
  | some x =>
    simp only[Int.toNat_natCast,hx]
    have fin:(s.heap.update it fun o=>o.mapFields (·.setIfInBounds 1 (rawInt ((i:Int)+1)))).IsTupleIter it t (i+1):=⟨_,Heap.get?_update_self _ hoi (Obj.isFreed_of_fields (Obj.data_mapFields hdi _)),(Obj.cls_mapFields ..).trans hci,by rw[Obj.data_mapFields hdi];simp[rawInt]⟩
    exact wpAny_bind (wpAny_setField hoi hdi (by simp) (wpAny_pure ⟨x,rfl,wpAny_pure (hs x _ hx fin (Heap.SameBut.update ..))⟩))
  | none =>
    simp only[Int.toNat_natCast,hx]
    refine wpAny_bind (wpAny_rule (wpAny_bind (wpAny_setField hoi hdi (by simp) (wpAny_bind (m:=newExc (.type "StopIteration") []) ?_))))
    simp only[newExc,newTuple]
    refine wpAny_bind (wpAny_newObj_type (wpAny_bind (m:=firstArgMember _ _) (wpAny_of_eq (a:=Value.none) (by first | rfl | (simp only[firstArgMember];rfl)) (wpAny_newObj_type ?_ (by size_fits)))) (by size_fits))
    simp only[raiseNew]
    refine wpAny_bind (wpAny_handled ?_)
    first | rw[show A.in1.handled=none from hh] | rw[hh]
    exact wpAny_bind (wpAny_pure (wpAny_throw (he _ _ hx (((Heap.SameBut.update ..).extBut.push _).push _) ⟨_,Heap.get?_push_size _ rfl,rfl⟩)))
structure ZT (h:Heap) (z ti to i1 i2 t1 t2:Addr) (k:Nat) (f:Value):Prop where
 hz:IsZip h z ti to f
 hi:IsPair h ti (.ref i1) (.ref i2)
 ho:∃ a b,IsPair h to a b
 h1:h.IsTupleIter i1 t1 k
 h2:h.IsTupleIter i2 t2 k
theorem ZT.keep{h h':Heap}{z ti to i1 i2 t1 t2:Addr}{k:Nat}{f:Value}(x:ZT h z ti to i1 i2 t1 t2 k f)(kp:∀ b∈[z,ti,to,i1,i2],∀ o,h.get? b=some o->h'.get? b=some o):ZT h' z ti to i1 i2 t1 t2 k f :=
 ⟨kp z (by simp) _ x.hz,kp ti (by simp) _ x.hi,let ⟨a,b,e⟩:=x.ho;⟨a,b,kp to (by simp) _ e⟩,x.h1.at fun o e=>kp i1 (by simp) o e,x.h2.at fun o e=>kp i2 (by simp) o e⟩
theorem tX{z ti to i1 i2 t1 t2:Addr}{k:Nat}{xs ys:Array Value}{Q:Fin->Shared->Prop}(hh:A.handled=none)(D:ZipApart z ti to i1 i2 t1 t2)(hZ:ZT s.heap z ti to i1 i2 t1 t2 k .none)
    (ht1:s.heap.IsTuple t1 xs) (ht2:s.heap.IsTuple t2 ys)
    (hs:∀ x y h',xs[k]?=some x->ys[k]?=some y->ZT h' z ti to i1 i2 t1 t2 (k+1) (rawInt s.heap.objs.size)->IsPair h' s.heap.objs.size x y->h'.objs.size=s.heap.objs.size+1 ->
      (∀ c o,c∉[z,to,i1,i2]->s.heap.get? c=some o->h'.get? c=some o)->Q (.done (.ret (.ref s.heap.objs.size))) { s with heap:=h' })
    (he:∀ h' e,(xs[k]?=none\/ys[k]?=none)->(∀ c o,c∉[z,to,i1,i2]->s.heap.get? c=some o->h'.get? c=some o)->(∃ o,h'.get? e=some o/\o.cls=.type "StopIteration")->E (.ref e) { s with heap:=h' }) :
    wpAny (model prog w) A (Builtin.«zip.__next__» ⟨[.ref z],[]⟩) Q E s:=by
  obtain⟨hz,hi,⟨a,b,ho⟩,h1,h2⟩:=hZ
  show wpAny _ _ (field (.ref z) 2 >>=_) _ _ _;refine wpAny_bind (wpAny_field hz rfl (x:=.bool false) rfl ?_)
  show wpAny _ _ (field (.ref z) 3 >>=_) _ _ _;refine wpAny_bind (wpAny_field hz rfl (x:=.ref ti) rfl (wpAny_bind (wpAny_seqItems hi rfl ?_)))
  show wpAny _ _ (Builtin.SmallTypes.ownedTupleIsFree (.ref z) >>=_) _ _ _
  unfold Builtin.SmallTypes.ownedTupleIsFree
  refine wpAny_bind (wpAny_bind (wpAny_field hz rfl (x:=.none) rfl (wpAny_pure ?_)))
  simp only[if_true]
  refine wpAny_bind (wpAny_rule (wpAny_bind (wpAny_field hz rfl (x:=.ref to) rfl (wpAny_bind (wpAny_setField_rec hz (by simp) fun ha za sa=>?_)))))
  replace za:IsZip ha z ti to .ellipsis:=za
  refine wpAny_bind ?_
  simp only[List.zipIdx_cons,List.zipIdx_nil,List.forIn_cons,List.forIn_nil]
  refine wpAny_bind (wpAny_bind (wpAny_onRaise ?_))
  have ne4:∀ {c:Addr},c∉[z,to,i1,i2]->c≠z/\c≠to/\c≠i1/\c≠i2:=fun hc=>by simpa using hc
  show wpAny _ _ (Builtin.SmallTypes.nextOf (.ref i1) >>=_) _ _ _
  refine wpAny_bind (JN hh (h1.extBut sa.extBut D.i1z) (ht1.extBut sa.extBut D.l1z) (fun x hb hx itb sb=>wpAny_pure ?_) fun hb e hx eb ⟨oe,oe1,oe2⟩=>?_)
  · have tob:IsPair hb to a b:=sb.extBut _ _ D.TOi1 (sa.extBut _ _ D.TOz ho)
    refine wpAny_bind (wpAny_seqItems tob rfl (wpAny_bind (wpAny_updateSeq_pair tob fun hc toc sc=>wpAny_bind (wpAny_letGo (wpAny_pure ?_)))))
    replace toc:IsPair hc to x b:=toc
    refine wpAny_bind (wpAny_bind (wpAny_onRaise ?_))
    have h2c:hc.IsTupleIter i2 t2 k:=((h2.extBut sa.extBut D.i2z).extBut sb.extBut D.i12.symm).extBut sc.extBut D.TOi2.symm
    have t2c:hc.IsTuple t2 ys:=((ht2.extBut sa.extBut D.l2z).extBut sb.extBut D.l2i1).extBut sc.extBut D.l2TO
    show wpAny _ _ (Builtin.SmallTypes.nextOf (.ref i2) >>=_) _ _ _
    refine wpAny_bind (JN hh h2c t2c (fun y hd hy itd sd=>wpAny_pure ?_) fun hd e hy ed ⟨oe,oe1,oe2⟩=>?_)
    · have tod:IsPair hd to x b:=sd.extBut _ _ D.TOi2 toc
      refine wpAny_bind (wpAny_seqItems tod rfl (wpAny_bind (wpAny_updateSeq_pair tod fun hf tof sf=>wpAny_bind (wpAny_letGo (wpAny_pure (wpAny_pure ?_))))))
      replace tof:IsPair hf to x y:=tof
      refine wpAny_bind (wpAny_seqItems tof rfl (wpAny_bind (wpAny_newTuple ?_)))
      have szf:hf.objs.size=s.heap.objs.size:=by rw[sf.1,sd.1,sc.1,sb.1,sa.1]
      have zf:IsZip hf z ti to .ellipsis:=sf.extBut _ _ D.TOz.symm (sd.extBut _ _ D.i2z.symm (sc.extBut _ _ D.TOz.symm (sb.extBut _ _ D.i1z.symm za)))
      have kf:∀ c o,c∉[z,to,i1,i2]->s.heap.get? c=some o->hf.get? c=some o:=fun c o hc' e=>by
        obtain⟨c1,c2,c3,c4⟩:=ne4 hc'
        exact sf.extBut _ _ c2 (sd.extBut _ _ c4 (sc.extBut _ _ c2 (sb.extBut _ _ c3 (sa.extBut _ _ c1 e))))
      have i1f:hf.IsTupleIter i1 t1 (k+1):=((itb.extBut sc.extBut D.TOi1.symm).extBut sd.extBut D.i12).extBut sf.extBut D.TOi1.symm
      have i2f:hf.IsTupleIter i2 t2 (k+1):=itd.extBut sf.extBut D.TOi2.symm
      have tif:IsPair hf ti (.ref i1) (.ref i2):=sf.extBut _ _ D.TITO (sd.extBut _ _ D.TIi2 (sc.extBut _ _ D.TITO (sb.extBut _ _ D.TIi1 (sa.extBut _ _ D.TIz hi))))
      have zlt:z<hf.objs.size:=Heap.lt_size zf
      show wpAny _ _ (Builtin.SmallTypes.ownedTupleHandOut (.ref z) (.ref hf.objs.size) >>=_) _ _ _
      unfold Builtin.SmallTypes.ownedTupleHandOut
      have zg:IsZip (hf.push { cls:=.type "tuple",data:=.seq #[x,y] }) z ti to .ellipsis:=Heap.get?_push_of_some _ zf
      refine wpAny_bind (wpAny_bind (wpAny_setField_rec zg (by simp) fun hk zk sk=>wpAny_setField_rec (show IsZip hk z ti to (rawInt hf.objs.size) from zk) (by simp) fun hm zm sm=>wpAny_pure ?_))
      replace zm:IsZip hm z ti to (rawInt hf.objs.size):=zm
      have up:∀ c o,c≠z->hf.get? c=some o->hm.get? c=some o:=fun c o c1 e=>sm.extBut _ _ c1 (sk.extBut _ _ c1 (Heap.get?_push_of_some _ e))
      have new:IsPair hm hf.objs.size x y:=sm.extBut _ _ (Nat.ne_of_gt zlt) (sk.extBut _ _ (Nat.ne_of_gt zlt) (Heap.get?_push_size _ rfl))
      have szm:hm.objs.size=hf.objs.size+1:=by rw[sm.1,sk.1,Heap.size_push]
      have q:=hs x y hm hx hy ⟨by rw[<- szf];exact zm,up _ _ D.TIz tif,⟨x,y,up _ _ D.TOz tof⟩,i1f.at fun o e=>up _ o D.i1z e,i2f.at fun o e=>up _ o D.i2z e⟩ (by rw[<- szf];exact new) (by rw[szm,szf]) fun c o hc' e=>up c o (ne4 hc').1 (kf c o hc' e)
      rw[<- szf] at q
      exact q
    · have zd:IsZip hd z ti to .ellipsis:=ed _ _ D.i2z.symm (sc.extBut _ _ D.TOz.symm (sb.extBut _ _ D.i1z.symm za))
      have ez:e≠z:=fun q=>by subst q;rw[zd] at oe1;cases oe1;simp at oe2
      refine wpAny_setField_rec zd (by simp) fun hf _ sf=>he hf e (.inr hy) (fun c o hc' q=>?_) ⟨oe,sf.extBut _ _ ez oe1,oe2⟩
      obtain⟨c1,c2,c3,c4⟩:=ne4 hc'
      exact sf.extBut _ _ c1 (ed _ _ c4 (sc.extBut _ _ c2 (sb.extBut _ _ c3 (sa.extBut _ _ c1 q))))
  · have zb:IsZip hb z ti to .ellipsis:=eb _ _ D.i1z.symm za
    have ez:e≠z:=fun q=>by subst q;rw[zb] at oe1;cases oe1;simp at oe2
    refine wpAny_setField_rec zb (by simp) fun hf _ sf=>he hf e (.inl hx) (fun c o hc' q=>?_) ⟨oe,sf.extBut _ _ ez oe1,oe2⟩
    obtain⟨c1,c2,c3,c4⟩:=ne4 hc'
    exact sf.extBut _ _ c1 (eb _ _ c3 (sa.extBut _ _ c1 q))
theorem jm{z ti to i1 i2 t1 t2:Addr}{k:Nat}{xs ys:Array Value}{Q:Option Value->Shared->Prop}(hh:A.handled=none)(D:ZipApart z ti to i1 i2 t1 t2)(hZ:ZT s.heap z ti to i1 i2 t1 t2 k .none)
    (ht1:s.heap.IsTuple t1 xs) (ht2:s.heap.IsTuple t2 ys)
    (hs:∀ x y h',xs[k]?=some x->ys[k]?=some y->ZT h' z ti to i1 i2 t1 t2 (k+1) (rawInt s.heap.objs.size)->IsPair h' s.heap.objs.size x y->h'.objs.size=s.heap.objs.size+1 ->
      (∀ c o,c∉[z,to,i1,i2]->s.heap.get? c=some o->h'.get? c=some o)->Q (some (.ref s.heap.objs.size)) { s with heap:=h' })
    (he:∀ h',(xs[k]?=none\/ys[k]?=none)->(∀ c o,c∉[z,to,i1,i2]->s.heap.get? c=some o->h'.get? c=some o)->Q none { s with heap:=h' }) :
    wpAny (model prog w) A (pyNext (.ref z)) Q E s:=by
  have hT:s.TypeIs (.ref z) "zip":=⟨_,hZ.hz,rfl⟩
  unfold pyNext
  refine wpAny_bind (wpAny_attempt (wpAny_callSpecial?_slot (name:=Str.ofString "__next__") hT F.slot_zip_next (wpAny_call_entry F.slot_zip_next hT F.entry_zip_next
    (tX hh D hZ ht1 ht2 (fun x y h' a1 a2 a3 a4 a5 a6=>⟨_,rfl,wpAny_pure (hs x y h' a1 a2 a3 a4 a5 a6)⟩) fun h' e a1 a2 ⟨o,e1,e2⟩=>?_) (F.args_zip_next_1 _))))
  exact wpAny_bind (wpAny_isInstance (T:="StopIteration") (b:=true) ⟨o,e1,e2⟩ isSubtype_stop (wpAny_pure (he h' a1 a2)))
abbrev itT(t:Addr):Obj:={ cls:=.type "tuple_iterator",data:=.fields #[.ref t,.int 0 0] }
theorem Bv(hp H1 H2 H3 H4 H5:Heap)(t1 t2:Addr)(e1:H1=hp.push (itT t1))(e2:H2=H1.push (itT t2))(e3:H3=H2.push { cls:=.type "tuple",data:=.seq #[.ref hp.objs.size,.ref H1.objs.size] })(e4:H4=H3.push { cls:=.type "tuple",data:=.seq #[.none,.none] })
  (e5:H5=H4.push { cls:=.type "zip",data:=.fields #[.none,.bool false,.bool false,.ref H2.objs.size,.ref H3.objs.size] }) :
  H4.objs.size=hp.objs.size+4/\H5.objs.size=hp.objs.size+5/\(∀ c o,hp.get? c=some o->H5.get? c=some o)/\ZT H5 (hp.objs.size+4) (hp.objs.size+2) (hp.objs.size+3) hp.objs.size (hp.objs.size+1) t1 t2 0 .none:=by
 have z1:H1.objs.size=hp.objs.size+1:=by rw[e1,Heap.size_push]
 have z2:H2.objs.size=hp.objs.size+2:=by rw[e2,Heap.size_push,z1]
 have z3:H3.objs.size=hp.objs.size+3:=by rw[e3,Heap.size_push,z2]
 have z4:H4.objs.size=hp.objs.size+4:=by rw[e4,Heap.size_push,z3]
 have z5:H5.objs.size=hp.objs.size+5:=by rw[e5,Heap.size_push,z4]
 have k5:∀ c o,H4.get? c=some o->H5.get? c=some o:=fun c o e=>by rw[e5];exact Heap.get?_push_of_some _ e
 have k4:∀ c o,H3.get? c=some o->H5.get? c=some o:=fun c o e=>k5 c o (by rw[e4];exact Heap.get?_push_of_some _ e)
 have k3:∀ c o,H2.get? c=some o->H5.get? c=some o:=fun c o e=>k4 c o (by rw[e3];exact Heap.get?_push_of_some _ e)
 have k2:∀ c o,H1.get? c=some o->H5.get? c=some o:=fun c o e=>k3 c o (by rw[e2];exact Heap.get?_push_of_some _ e)
 have k1:∀ c o,hp.get? c=some o->H5.get? c=some o:=fun c o e=>k2 c o (by rw[e1];exact Heap.get?_push_of_some _ e)
 refine⟨z4,z5,k1,?_,?_,⟨.none,.none,?_⟩,⟨_,k2 _ _ (by rw[e1];exact Heap.get?_push_size _ rfl),rfl,rfl⟩,⟨_,k3 _ _ (by rw[e2,<- z1];exact Heap.get?_push_size _ rfl),rfl,rfl⟩⟩
 ·have q:H5.get? H4.objs.size=some { cls:=.type "zip",data:=.fields #[.none,.bool false,.bool false,.ref H2.objs.size,.ref H3.objs.size] }:=by rw[e5];exact Heap.get?_push_size _ rfl
  rw[z2,z3,z4] at q
  exact q
 ·have q:H5.get? H2.objs.size=some { cls:=.type "tuple",data:=.seq #[.ref hp.objs.size,.ref H1.objs.size] }:=k4 _ _ (by rw[e3];exact Heap.get?_push_size _ rfl)
  rw[z1,z2] at q
  exact q
 ·have q:H5.get? H3.objs.size=some { cls:=.type "tuple",data:=.seq #[.none,.none] }:=k5 _ _ (by rw[e4];exact Heap.get?_push_size _ rfl)
  rw[z3] at q
  exact q
theorem wZ(t1 t2:Addr)(xs ys:Array Value) :
    Meets (Builtin.«zip.__new__» ⟨[.type "zip",.ref t1,.ref t2],[]⟩) (fun _ R s=>s.heap.IsTuple t1 xs/\s.heap.IsTuple t2 ys /\
      ∀ h', (∀ c o, s.heap.get? c = some o -> h'.get? c = some o) -> h'.objs.size = s.heap.objs.size + 5 -> ZT h' (s.heap.objs.size + 4) (s.heap.objs.size + 2) (s.heap.objs.size + 3) s.heap.objs.size (s.heap.objs.size + 1) t1 t2 0 .none ->
        R (.ok (.ret (.ref (s.heap.objs.size+4)))) { s with heap:=h' }) :=
  .of_wp fun prog w A R s h=>by
    obtain⟨hp,g,d,tk,os⟩:=s;obtain⟨hl1,hl2,h⟩:=h
    have hsub:=sub_zip
    have hL1:Heap.IsTuple (Shared.heap ⟨hp,g,d,tk,os⟩) t1 xs:=hl1
    have hL2:Heap.IsTuple (Shared.heap ⟨hp.push (itT t1),g,d,tk,os⟩) t2 ys:=let ⟨o,e,r⟩:=hl2;⟨o,Heap.get?_push_of_some _ e,r⟩
    wp_walk using wpAny_pyIter_tuple hL1,wpAny_pyIter_tuple hL2
    refine⟨_,rfl,?_⟩
    obtain⟨z4,z5,kp,Z⟩:=Bv hp _ _ _ _ _ t1 t2 rfl rfl rfl rfl rfl
    have q:=h _ kp z5 Z
    rw[<- z4] at q
    exact q
theorem wD{t1 t2:Addr}{xs ys:Array Value}{Q:Value->Shared->Prop}(hl1:s.heap.IsTuple t1 xs)(hl2:s.heap.IsTuple t2 ys)
    (h:∀ h',(∀ c o,s.heap.get? c=some o->h'.get? c=some o)->h'.objs.size=s.heap.objs.size+5->ZT h' (s.heap.objs.size+4) (s.heap.objs.size+2) (s.heap.objs.size+3) s.heap.objs.size (s.heap.objs.size+1) t1 t2 0 .none ->
      Q (.ref (s.heap.objs.size+4)) { s with heap:=h' }):wpAny (model prog w) A (call (.type "zip") [.ref t1,.ref t2]) Q E s:=by
  refine callType_new F.called_zip (by decide) (F.typeCall_zip_2 _ _) (F.newCall_zip_2 _ _) (fun obj=>F.args_object_init_3 obj _ _) F.entry_zip_new (wZ t1 t2 xs ys) ⟨hl1,hl2,fun h' kp z5 Z=>?_⟩
  exact⟨⟨_,Z.hz,rfl⟩,h h' kp z5 Z⟩
end
end L2
namespace L2
open PySem PySem.Spec PyProof.Rows
namespace RF
end RF
end L2
namespace L2
open PySem PySem.Spec PyProof.Rows
section
variable {prog:Program} {w:World} {A:Around} {E:Value->Shared->Prop} {s:Shared}
end
end L2
namespace L2
open PySem PySem.Spec PyProof.Rows PySem.SeqAt
section
variable {prog:Program} {w:World} {A:Around} {E:Value->Shared->Prop} {s:Shared}
end
end L2
namespace L2
open PySem PySem.Spec PyProof.Rows
def Itz(K:PySem.W.Frag)(t1 t2:Addr):It :=
  ⟨fun i H=>∃ xs ys x y,SqT K H t1 xs/\SqT K H t2 ys/\xs[i]?=some x/\ys[i]?=some y,
   fun i H v H'=>∃ p,H p=none/\v=.ref p/\∀ xs ys x y,SqT K H t1 xs->SqT K H t2 ys->xs[i]?=some x->ys[i]?=some y->H'=upd H p (.tup [x,y]),
   fun i H=>∃ xs ys,SqT K H t1 xs/\SqT K H t2 ys/\(xs.length<=i\/ys.length<=i)⟩
theorem Inv.turnedNew{X:Cx}{pins:List (Addr×Obj)}{σ:St}{H:Hp}{s:Shared}{h':Heap}{ch:List Addr}{o:HO}{t':Nat}(I:Inv X pins σ H s)(hf:∀ b∈ch,tM X pins H b)(k:∀ b u,b∉ch->s.heap.get? b=some u->h'.get? b=some u)
  (new:dF X.prog X.w (upd H s.heap.objs.size o) h' s.heap.objs.size o):Inv X pins σ (upd H s.heap.objs.size o) { s with heap:=h',toks:=t' }:=by
 have hn:H s.heap.objs.size=none:=I.hok.fresh (Nat.le_refl _)
 refine I.call' (s':={ s with heap:=h',toks:=t' }) (ch:=ch) rfl ?_ ?_ I.bare fun b hb=>⟨(hf b hb).2.2.2.1,(hf b hb).2.1,(hf b hb).2.2.2.2.1,(hf b hb).2.2.2.2.2⟩
 ·refine⟨fun b u e _ _ hc=>k b u hc e,fun b u e _ _ hc=>⟨u.slots,k b u hc e⟩,fun b u e n hc=>?_,fun b u e hc=>⟨u,k b u hc e⟩,fun b xs e=>?_,fun b u xs e=>?_,fun b ps e=>⟨#[],?_⟩⟩
  ·rw[aO (Nat.ne_of_lt (Heap.lt_size e))];exact n
  ·rw[aO (aF e hn)];exact e
  ·rw[aO (aF e hn)];exact e
  ·rw[aO (aF e hn),e];simp
 ·intro b u e
  by_cases hb:b=s.heap.objs.size
  ·subst hb;rw[aW] at e;cases e;exact new
  ·rw[aO hb] at e
   refine(I.hok b u e).stay (fun c v hc q=>k c v (fun z=>?_) q) (fun c q=>by rw[aO (aF q hn)];exact q) fun c xs q=>by rw[aO (aF q hn)];exact q
   have zn:=(hf c z).1
   rcases hc with rfl | hc
   ·rw[zn] at e;cases e
   ·rw[zn] at hc;cases hc
theorem Inv.turnedAll{X:Cx}{pins:List (Addr×Obj)}{σ:St}{H:Hp}{s:Shared}{h':Heap}{ch:List Addr}{t':Nat}(I:Inv X pins σ H s)(hf:∀ b∈ch,tM X pins H b)(k:∀ b u,b∉ch->s.heap.get? b=some u->h'.get? b=some u) :
  Inv X pins σ H { s with heap:=h',toks:=t' }:=by
 refine I.call' (s':={ s with heap:=h',toks:=t' }) (ch:=ch) rfl ?_ ?_ I.bare fun b hb=>⟨(hf b hb).2.2.2.1,(hf b hb).2.1,(hf b hb).2.2.2.2.1,(hf b hb).2.2.2.2.2⟩
 ·exact⟨fun b u e _ _ hc=>k b u hc e,fun b u e _ _ hc=>⟨u.slots,k b u hc e⟩,fun b u e n hc=>n,fun b u e hc=>⟨u,k b u hc e⟩,fun b xs e=>e,fun b u xs e=>e,fun b ps e=>⟨#[],by rw[e];simp⟩⟩
 ·intro b u e
  refine(I.hok b u e).stay (fun c v hc q=>k c v (fun z=>?_) q) (fun c q=>q) fun c xs q=>q
  have zn:=(hf c z).1
  rcases hc with rfl | hc
  ·rw[zn] at e;cases e
  ·rw[zn] at hc;cases hc
theorem xH{P:Program}{w:World}{K:PySem.W.Frag}{es:List Expr}{kt:Nat}{pt:Pos}{z ti to i1 i2 t1 t2:Addr}(D:ZipApart z ti to i1 i2 t1 t2) :
    Turn P w K (.Tuple es kt pt) (Itz K t1 t2) [z,ti,to,i1,i2] z (fun i h=>ZT h z ti to i1 i2 t1 t2 i .none) where
  mem:=by simp
  obj:=fun i h st b hb=>by
    simp at hb
    rcases hb with rfl | rfl | rfl | rfl | rfl
    · exact⟨_,st.hz,fun v q=>by have q':Data.fields _=Data.cell v:=q;cases q'⟩
    · exact⟨_,st.hi,fun v q=>by have q':Data.seq _ _=Data.cell v:=q;cases q'⟩
    · obtain⟨a,c,e⟩:=st.ho
      exact⟨_,e,fun v q=>by have q':Data.seq _ _=Data.cell v:=q;cases q'⟩
    · obtain⟨o,e,_,d⟩:=st.h1
      exact⟨o,e,fun v q=>by rw[d] at q;cases q⟩
    · obtain⟨o,e,_,d⟩:=st.h2
      exact⟨o,e,fun v q=>by rw[d] at q;cases q⟩
  keep:=fun i h h' st k=>st.keep k
  item:=by
    intro X hP hw hK hc i pins s σ H E I hf st hg
    subst hP hw hK
    obtain⟨xs,ys,x,y,hq1,hq2,hx,hy⟩:=hg
    obtain⟨its1,rv1,p1,_⟩:=I.tuple hq1
    obtain⟨its2,rv2,p2,_⟩:=I.tuple hq2
    obtain⟨u1,hu1,ru1⟩:=rv1.get hx
    obtain⟨u2,hu2,ru2⟩:=rv2.get hy
    refine jm (I.ok.hd hc) D st (show s.heap.IsTuple t1 its1.toArray from p1) (show s.heap.IsTuple t2 its2.toArray from p2) (fun a b h' ha hb Z pr sz kp=>?_) fun h' hn _=>?_
    · have ea : a = u1 := by have : its1[i]? = some a := by simpa using ha
                             rw[hu1] at this;exact(Option.some.inj this).symm
      have eb : b = u2 := by have : its2[i]? = some b := by simpa using hb
                             rw[hu2] at this;exact(Option.some.inj this).symm
      subst ea eb
      have szl:2<=sizeLine:=by decide
      have hf4:∀ c∈[z,to,i1,i2],tM X pins H c:=fun c hc'=>hf c (by simp at hc' ⊢;rcases hc' with h | h | h | h<;>simp[h])
      have I1:Inv X pins σ (upd H s.heap.objs.size (.tup [x,y])) { s with heap:=h',toks:=s.toks }:=I.turnedNew hf4 kp ⟨szl,[a,b],.cons ru1 (.cons ru2 .nil),⟨_,pr,rfl,_,rfl⟩⟩
      have fresh:H s.heap.objs.size=none:=I.hok.fresh (Nat.le_refl _)
      have ltf:∀ c∈[z,ti,to,i1,i2],c≠s.heap.objs.size:=fun c hc' e=>by
        have:H c=none:=(hf c hc').1
        simp at hc'
        have lt:c<s.heap.objs.size:=by
          rcases hc' with rfl | rfl | rfl | rfl | rfl
          · exact Heap.lt_size st.hz
          · exact Heap.lt_size st.hi
          · obtain⟨_,_,e'⟩:=st.ho;exact Heap.lt_size e'
          · obtain⟨o,e',_⟩:=st.h1;exact Heap.lt_size e'
          · obtain⟨o,e',_⟩:=st.h2;exact Heap.lt_size e'
        exact Nat.ne_of_lt lt e
      refine⟨_,rfl,wpAny_letOwnedTupleGo_zip (s:={ s with heap:=h' }) Z.hz fun h2 z2 sb=>?_⟩
      have fz:=hf z (by simp)
      have I2:Inv X pins σ (upd H s.heap.objs.size (.tup [x,y])) { s with heap:=h2 }:=I1.turned (t':=s.toks) (fun c o hc' e=>(sb.2 c hc').trans e) (by rw[aO (ltf z (by simp))];exact fz.1) fz.2.1 fz.2.2.2.1 fz.2.2.2.2.1 fz.2.2.2.2.2
      refine⟨.ref s.heap.objs.size,_,I2,rfl,⟨_,fresh,rfl,fun xs' ys' x' y' a1 a2 a3 a4=>?_⟩,?_,fun c hc'=>by rw[aO (ltf c hc')];exact(hf c hc').1⟩
      · have e1:=I.tuple_inj a1 hq1
        have e2:=I.tuple_inj a2 hq2
        subst e1 e2
        rw[hx] at a3;rw[hy] at a4
        cases a3;cases a4
        rfl
      · obtain⟨a',b',e'⟩:=Z.ho
        exact⟨z2,(sb.2 ti D.TIz).trans Z.hi,⟨a',b',(sb.2 to D.TOz).trans e'⟩,Z.h1.at fun o e=>(sb.2 i1 D.i1z).trans e,Z.h2.at fun o e=>(sb.2 i2 D.i2z).trans e⟩
    · rcases hn with hn | hn
      · have:its1[i]?=none:=by simpa using hn
        rw[hu1] at this;cases this
      · have:its2[i]?=none:=by simpa using hn
        rw[hu2] at this;cases this
  done:=by
    intro X hP hw hK hc i pins s σ H E I hf st hg
    subst hP hw hK
    obtain⟨xs,ys,hq1,hq2,hl⟩:=hg
    obtain⟨its1,rv1,p1,_⟩:=I.tuple hq1
    obtain⟨its2,rv2,p2,_⟩:=I.tuple hq2
    have l1:=rv1.length
    have l2:=rv2.length
    refine jm (I.ok.hd hc) D st (show s.heap.IsTuple t1 its1.toArray from p1) (show s.heap.IsTuple t2 its2.toArray from p2) (fun a b h' ha hb Z pr sz kp=>?_) fun h' _ kp=>⟨rfl,?_⟩
    · exfalso
      have h1 : i < its1.length := by have : its1[i]? = some a := by simpa using ha
                                      exact(List.getElem?_eq_some_iff.mp this).1
      have h2 : i < its2.length := by have : its2[i]? = some b := by simpa using hb
                                      exact(List.getElem?_eq_some_iff.mp this).1
      omega
    · have hf4:∀ c∈[z,to,i1,i2],tM X pins H c:=fun c hc'=>hf c (by simp at hc' ⊢;rcases hc' with h | h | h | h<;>simp[h])
      exact I.turnedAll (t':=s.toks) hf4 kp
  self:=fun _ _ _ _ _ st h=>wpAny_pyIter_zip st.hz h
section
variable {X:Cx}
def Wy(K:PySem.W.Frag)(ta:TA):TI:=fun σ H R=>ta σ H fun vs H1=>∃ a b,vs=[.ref a,.ref b]/\(∃ xs,SqT K H1 a xs)/\(∃ ys,SqT K H1 b ys)/\R (Itz K a b) H1
theorem HW{a b:Expr}{ta:TA}{p pos pt:Pos}{es:List Expr}{kt:Nat}(hg:Gl X "zip")(hm:X.mg "zip"=none)(ha:PA X [a,b] ta)(hs:starEach [a,b] X.env=[(false,eval a X.env),(false,eval b X.env)])(hs2:starEach [b] X.env=[(false,eval b X.env)]) :
    PI X (.Tuple es kt pt) (.Call (.Name "zip" p) [a,b] [] pos) (Wy X.K ta):=by
  intro pins s σ H R I h
  refine Call_ (eX I hg hm boot_zip (PyProof.Rows.callWith_type1 (thn (ha pos pins s σ H _ I h) fun us s1 ⟨vs,H1,I1,r1,q1⟩=>?_) (by rw[hs,hs2]) (by rw[hs2];rfl)))
  obtain⟨a1,b1,e,⟨xs,hx⟩,⟨ys,hy⟩,q⟩:=q1
  subst e
  cases r1 with
  | cons r rr =>
    cases rr with
    | cons r' rr =>
      cases rr
      cases (show _=Value.ref a1 from r)
      cases (show _=Value.ref b1 from r')
      obtain⟨its1,_,p1,_⟩:=I1.tuple hx
      obtain⟨its2,_,p2,_⟩:=I1.tuple hy
      refine wD (show s1.heap.IsTuple a1 its1.toArray from p1) (show s1.heap.IsTuple b1 its2.toArray from p2) fun h' kp sz Z=>?_
      refine wpAny_pyIter_zip (s:={ s1 with heap:=h' }) Z.hz ?_
      have I2:Inv X pins σ H1 { s1 with heap:=h' }:=I1.kept (t':=s1.toks) kp
      refine⟨s1.heap.objs.size+4,_,_,_,H1,rfl,I2,xH (zipApart_new p1.lt p2.lt),Z,fun c hc=>?_,q⟩
      have hc':s1.heap.objs.size<=c:=by
        simp at hc
        rcases hc with h | h | h | h | h<;>rw[h]<;>first | exact Nat.le_refl _ | exact Nat.le_add_right _ _
      exact I1.fpOk hc' (I1.hok.fresh hc')
end
end L2
namespace L2
open PySem PySem.Spec PyProof.Rows
def VF(K:PySem.W.Frag)(t:Addr)(n:Nat):It :=
 ⟨fun i H=>∃ ys,SqL K H t ys/\ys.length=n/\i<n,fun i H x H'=>H'=H/\∀ ys,SqL K H t ys->ys[n-1-i]?=some x,fun i _=>i=n⟩
theorem uh{P:Program}{w:World}{K:PySem.W.Frag}{tg:Expr}(t r:Addr)(n:Nat):Turn P w K tg (VF K t n) [r] r (fun i h=>h.IsRevIter r t ((n:Int)-1-(i:Int))) where
 mem:=by simp
 obj:=fun i h st b hb=>by
  have e:b=r:=by simpa using hb
  subst e
  obtain⟨o,h1,h2,h3⟩:=st
  exact⟨o,h1,fun v z=>by rw[h3] at z;cases z⟩
 keep:=fun i h h' st k=>st.at fun o e=>k r (by simp) o e
 item:=by
  intro X hP hw hK hc i pins s σ H E I hf st hg
  subst hP hw hK
  obtain⟨ys,hq,hl,hi⟩:=hg
  obtain⟨its,rv,p0,_⟩:=I.list hq
  have p:=p0.isList
  have hn:its.length=n:=by rw[<- rv.length,hl]
  obtain⟨f0,f1,f2,f3,f4,f5⟩:=hf r (by simp)
  have e1:(n:Int)-1-(i:Int)=((n-1-i:Nat):Int):=by omega
  have st':=st
  rw[e1] at st'
  have hlt:n-1-i<its.length:=by omega
  obtain⟨x,hx,rx⟩:∃ x,ys[n-1-i]?=some x/\RelV x its[n-1-i]:=by
   have hly:n-1-i<ys.length:=by omega
   obtain⟨u,hu,ru⟩:=rv.get (i:=n-1-i) (x:=ys[n-1-i]) (by simp)
   rw[List.getElem?_eq_getElem hlt] at hu
   cases hu
   exact⟨_,by simp,ru⟩
  refine wpAny_pyNext_rev_item st' p (x:=its[n-1-i]) (by simp[hlt]) fun h' st2 sb=>?_
  have I1:Inv X pins σ H { s with heap:=h' }:=I.turned (t':=s.toks) (fun b o hb e=>(sb.2 b hb).trans e) f0 f1 f3 f4 f5
  have e2:((n-1-i:Nat):Int)-1=(n:Int)-1-((i+1:Nat):Int):=by omega
  rw[e2] at st2
  obtain⟨o,g1,g2,g3⟩:=st2
  exact⟨_,rfl,yO (s:={ s with heap:=h' }) (n:="list_reverseiterator") g1 g2 g3 (by decide) ⟨x,H,I1,rx,⟨rfl,fun zs hy=>by rw[I.list_inj hy hq];exact hx⟩,⟨o,g1,g2,g3⟩,fun b hb=>(hf b hb).1⟩⟩
 done:=by
  intro X hP hw hK hc i pins s σ H E I hf st hg
  subst hP hw hK
  obtain⟨f0,f1,f2,f3,f4,f5⟩:=hf r (by simp)
  have hg':i=n:=hg
  have e1:(n:Int)-1-(i:Int)=-1:=by omega
  rw[e1] at st
  exact wpAny_pyNext_rev_end (I.ok.hd hc) st fun h' eb=>⟨rfl,I.turned (t':=s.toks) (fun b o hb e=>eb b o hb e) f0 f1 f3 f4 f5⟩
 self:=fun _ _ _ _ _ st h=>wpAny_pyIter_revIter st h
section
variable {X:Cx}
def Rt(K:PySem.W.Frag)(ta:TA):TI:=fun σ H R=>ta σ H fun vs H1=>∃ a xs,vs=[.ref a]/\SqL K H1 a xs/\R (VF K a xs.length) H1
theorem yj{a:Expr}{ta:TA}{p pos:Pos}{tg:Expr}(hg:Gl X "reversed")(hm:X.mg "reversed"=none)(ha:PA X [a] ta)(hs:starEach [a] X.env=[(false,eval a X.env)]) :
    PI X tg (.Call (.Name "reversed" p) [a] [] pos) (Rt X.K ta):=by
  intro pins s σ H R I h
  refine Call_ (eX I hg hm boot_reversed (PyProof.Rows.callWith_type1 (thn (ha pos pins s σ H _ I h) fun us s1 ⟨vs,H1,I1,r1,q1⟩=>?_) hs rfl))
  obtain⟨a1,xs,e,hx,q⟩:=q1
  subst e
  cases r1 with
  | cons r rr =>
    cases rr
    cases (show _=Value.ref a1 from r)
    obtain⟨its1,rv,p0,_⟩:=I1.list hx
    have p1:=p0.isList
    have hl:=rv.length
    refine call_reversed_list p1 ?_
    have st:(s1.heap.push (revObj a1 ((its1.toArray.size:Int)-1))).IsRevIter s1.heap.objs.size a1 ((xs.length:Int)-1-((0:Nat):Int)):=by
      have e0:((xs.length:Int)-1-((0:Nat):Int))=(its1.toArray.size:Int)-1:=by rw[List.size_toArray];omega
      rw[e0]
      exact⟨_,Heap.get?_push_size _ rfl,rfl,rfl⟩
    refine wpAny_pyIter_revIter (s:={ s1 with heap:=s1.heap.push (revObj a1 ((its1.toArray.size:Int)-1)) }) st ?_
    refine⟨s1.heap.objs.size,_,_,_,H1,rfl,I1.kept (t':=s1.toks) fun b o e=>Heap.get?_push_of_some _ e,uh a1 _ xs.length,st,fun c hc=>?_,q⟩
    have hc':c=s1.heap.objs.size:=by simpa using hc
    subst hc'
    exact I1.fpOk (Nat.le_refl _) (I1.hok.fresh (Nat.le_refl _))
end
end L2
namespace L2
open PySem PySem.Spec PyProof.Rows
section
variable {prog:Program} {w:World} {A:Around} {E:Value->Shared->Prop} {s:Shared}
end
section
variable {X:Cx}
end
end L2
namespace L2
open PySem PySem.Spec PyProof.Rows
section
variable {X:Cx}
end
end L2
namespace L2
open PySem PySem.Spec PyProof.Rows
section
variable {prog:Program} {w:World} {A:Around} {E:Value->Shared->Prop} {s:Shared}
end
section
variable {X:Cx}
end
end L2
namespace L2
open PySem PySem.Spec PyProof.Rows
section
variable {prog:Program} {w:World} {A:Around} {E:Value->Shared->Prop} {s:Shared}
end
section
variable {X:Cx}
end
end L2
namespace L2
open PySem PySem.Spec PyProof.Rows
section
variable {X:Cx}
end
end L2
namespace L2
open PySem PySem.Spec PyProof.Rows
end L2
namespace L2
open PySem PySem.Spec PyProof.Rows PySem.SeqAt
section
variable {X:Cx}
def Lw(K:PySem.W.Frag):R2:=fun x y H Q=>∃ l b us zs,x=.ref l/\y=.ref b/\SqL K H l us/\SqL K H b zs/\us.length+zs.length<=sizeLine/\∀ p,H p=none->Q (.ref p) (upd H p (.lst (us++zs)))
theorem Dv:OpR X (binaryOp .Add) (Lw X.K):=by
 intro pins s σ H x y v u Q I rx ry h
 obtain⟨l,b,us,zs,rfl,rfl,hH,hB,hz,q⟩:=h
 cases (show v=Value.ref l from rx)
 cases (show u=Value.ref b from ry)
 obtain⟨its,r,pl,z1⟩:=I.list hH
 obtain⟨its2,r2,pl2,z2⟩:=I.list hB
 have e1:=r.length
 have e2:=r2.length
 obtain⟨⟨c1,d1,w1,t1⟩,n1,o1,hc1,hd1,hs1⟩:=pl
 obtain⟨⟨c2,d2,w2,t2⟩,n2,o2,hc2,hd2,hs2⟩:=pl2
 simp only at hc1 hs1 hc2 hs2
 subst hc1 hs1 hc2 hs2
 refine concat_meets ⟨_,o1,rfl⟩ ⟨_,o2,rfl⟩ noFill_list_add seq_list_add PySem.F.slot_list_add PySem.F.entry_list_add (PySem.F.args_list_add_2 _ _) (list_addW l b its.toArray its2.toArray n1 n2 d1 d2 t1 t2 (by rw[List.size_toArray,List.size_toArray];omega)) ⟨o1,o2,?_⟩
 rw[show its.toArray++its2.toArray=(its++its2).toArray by simp]
 exact⟨.ref _,_,I.lnew (t':=s.toks) (r.append r2) (by rw[List.length_append];omega),rfl,q _ I.fresh⟩
def Lj(K:PySem.W.Frag):R2:=fun x y H Q=>∃ l k us,x=.ref l/\y=.int k/\SqL K H l us /\ -(2^63)<=k/\k<2^63/\us.length*k.toNat<=sizeLine /\
 ∀ p,H p=none->Q (.ref p) (upd H p (.lst (List.replicate k.toNat us).flatten))
theorem uU:OpR X (binaryOp .Mult) (Lj X.K):=by
 intro pins s σ H x y v u Q I rx ry h
 obtain⟨l,k,us,rfl,rfl,hH,h1,h2,hz,q⟩:=h
 cases (show v=Value.ref l from rx)
 obtain⟨t,rfl⟩:=ry
 obtain⟨its,r,pl,z1⟩:=I.list hH
 have hl:=r.length
 obtain⟨⟨c1,d1,w1,t1⟩,n1,e,hc1,hd1,hs1⟩:=pl
 simp only at hc1 hs1
 subst hc1 hs1
 have a1:its.toArray.size*k.toNat<=sizeLine:=by rw[List.size_toArray,<- hl];exact hz
 have a2:¬ its.toArray.size*k.toNat>(2^63-1) / 8:=by
  have:(sizeLine:Nat)<=(2^63-1) / 8:=by decide
  omega
 have a3:¬ (!Builtin.List.listFitsIndex k)=true:=by rw[fitsIndex_both h1 h2];exact Bool.false_ne_true
 have a4:¬ Builtin.List.listTooLong (its.toArray.size*k.toNat)=true:=by rw[lR a1];exact Bool.false_ne_true
 have a5:List.foldl (fun x1 x2=>x1++x2) #[] (List.replicate (if its.toArray.isEmpty=true then 0 else k.toNat) its.toArray)=(List.replicate k.toNat its).flatten.toArray:=by
  have f0:∀ m:Nat,List.foldl (fun x1 x2=>x1++x2) #[] (List.replicate m its.toArray)=(List.replicate m its).flatten.toArray:=fun m=>(foldl_rep its m []).trans (by rw[List.nil_append])
  rw[f0]
  cases its with
  | nil=>simp
  | cons a r'=>rw[if_neg (by simp)]
 refine wpAny_binaryOp_repeat_ref (T:="list") (U:="int") (by decide) ⟨_,e,rfl⟩ (fun s'=>typeIs_int s' k t) noFill_list_mul F.fills_int_mul F.slot_int_rmul repeat_list F.slot_int_index.lookup ?_
 refine call_meets F.slot_int_rmul (typeIs_int s k t) F.entry_int_rmul (F.args_int_rmul_2 _ _) (lm_int_rmul_list_any k t l its.toArray n1 d1 t1) ⟨e,rfl,⟨_,e,rfl⟩,?_⟩
 refine call_meets F.slot_list_mul ⟨_,e,rfl⟩ F.entry_list_mul (F.args_list_mul_2 _ _) (lm_list_mul_any l its.toArray n1 d1 t1 k t a3 a2 a4) ⟨e,?_⟩
 rw[a5]
 exact⟨.ref _,_,I.lnew (t':=s.toks) (r.rep k.toNat) (by rw[len_rep,Nat.mul_comm];exact hz),rfl,q _ I.fresh⟩
end
end L2
namespace L2
open PySem PySem.Spec PyProof.Rows PySem.SeqAt
theorem yg(its:List Value):slicePick its.toArray none none (some (-1))=its.reverse.toArray:=by
 have e1:sliceBounds none none (some (-1)) its.toArray.size=((its.length:Int)-1,-1,-1):=by
  simp[sliceBounds]
 have e2:sliceRange ((its.length:Int)-1) (-1) (-1)=(List.range its.length).map fun k=>its.length-1-k:=by
  unfold sliceRange
  have hc:(if(-1:Int)>0 then(if(its.length:Int)-1 < -1 then(-1-((its.length:Int)-1) + -1-1) / -1 else 0) else(if(its.length:Int)-1 > -1 then((its.length:Int)-1 - -1 - -1-1) / (- -1) else 0))=(its.length:Int):=by
   rw[if_neg (by decide)]
   by_cases h:(its.length:Int)-1 > -1
   ·rw[if_pos h,show(- -1:Int)=1 from rfl,Int.ediv_one];omega
   ·rw[if_neg h];omega
  simp only[hc,Int.toNat_natCast]
  refine List.map_congr_left fun k hk=>?_
  have:=List.mem_range.mp hk
  omega
 unfold slicePick
 rw[e1]
 simp only[e2]
 congr 1
 have e3:(List.range its.length).map (fun k=>its[its.length-1-k]?)=its.reverse.map some:=by
  apply List.ext_getElem?
  intro i
  by_cases h:i<its.length
  ·rw[List.getElem?_map,List.getElem?_range h,List.getElem?_map,List.getElem?_reverse h,Option.map_some,List.getElem?_eq_getElem (by omega),Option.map_some]
  ·rw[List.getElem?_eq_none (by simp;omega),List.getElem?_eq_none (by simp;omega)]
 have e4:((List.range its.length).map fun k=>its.length-1-k).filterMap (fun x=>its.toArray[x]?)=((List.range its.length).map fun k=>its[its.length-1-k]?).filterMap id:=by
  rw[List.filterMap_map,List.filterMap_map]
  refine congrArg (fun f=>List.filterMap f (List.range its.length)) (funext fun k=>?_)
  simp
 rw[e4,e3,List.filterMap_map]
 simp
section
variable {X:Cx}
theorem Dh{e c:Expr}{te tc:TE}{p2 pos:Pos}(he:PE X e te)(hc:PE X c tc) :
    PE X (.Subscript e (.Slice none none (some c) p2) pos) (fun σ H Q=>te σ H fun x H1=>tc σ H1 fun y H2=>∃ p us,x=.ref p/\y=.int (-1)/\SqL X.K H2 p us/\∀ q,H2 q=none->Q (.ref q) (upd H2 q (.lst us.reverse))):=by
  intro pins s σ H Q I h
  refine Subscript_ (thn (he pins s σ H _ I h) fun v s1 ⟨x,H1,I1,r1,q1⟩=>?_)
  refine wpAny_Slice ?_
  rw[evalPart_none,evalPart_some]
  refine wpAny_pure (wpAny_pure (thn (hc pins s1 σ H1 _ I1 q1) fun u s2 ⟨y,H2,I2,r2,q2⟩=>?_))
  obtain⟨p,us,rfl,rfl,hq,q⟩:=q2
  cases (show v=Value.ref p from r1)
  obtain⟨t,rfl⟩:=r2
  have I3:Inv X pins σ H2 { s2 with heap:=s2.heap.push { cls:=.type "slice",data:=.fields #[.none,.none,.int (-1) t] } }:=I2.kept (t':=s2.toks) fun b ob q=>Heap.get?_push_of_some _ q
  obtain⟨its,r,pl,hz⟩:=I3.list hq
  have hl:=r.length
  have hg:=wpAny_getItem_list_slice (prog:=X.prog) (w:=X.w) (A:=X.A) (E:=X.xe) (Q:=EP X pins σ Q) (vl:=.none) (vu:=.none) (vs:=.int (-1) t) (lo:=none) (hi:=none) (st:=some (-1)) pl.isList (Heap.IsSliceOf.new ..) .none .none (.int _ t) (by decide) (by
    rw[yg]
    exact⟨.ref _,_,I3.lnew (t':=s2.toks) r.reverse (by rw[List.length_reverse];omega),rfl,q _ I3.fresh⟩) (by rw[List.size_toArray];omega)
  show wpAny (model X.prog X.w) X.A (subscriptTail e (.Slice none none (some c) p2) (.ref p) (.ref s2.heap.objs.size)) (EP X pins σ Q) X.xe { s2 with heap:=s2.heap.push { cls:=.type "slice",data:=.fields #[.none,.none,.int (-1) t] } }
  exact tail_any (ops:=[.ref p,.ref s2.heap.objs.size]) pl.isList.typeIs list_getitem_lookup hg (by with_unfolding_all rfl)
end
end L2
namespace L2
open PySem PySem.Spec PyProof.Rows PySem.SeqAt
section
variable {prog:Program} {w:World} {A:Around} {E:Value->Shared->Prop} {s:Shared}
theorem tK(n:Nat):Builtin.Slice.sliceAdjust none none (-1) (n:Int)=((n:Int)-1,-1):=by
 unfold Builtin.Slice.sliceAdjust
 simp
theorem sE(n:Nat):Builtin.Slice.slicePlaces ((n:Int)-1) (-1) (-1)=n:=by
 unfold Builtin.Slice.slicePlaces
 have h1:¬ ((-1:Int)>0):=by omega
 simp only[h1,if_false]
 split
 ·rw[show(- -1:Int)=1 from rfl,Int.ediv_one];omega
 ·omega
theorem iR{sl:Addr}{n:Nat}{u:Tok}{Q:Int×Int×Nat->Shared->Prop}(hs:s.heap.IsSliceOf sl .none .none (.int (-1) u))(h:Q ((n:Int)-1,-1,n) s) :
  wpAny (model prog w) A (Builtin.Slice.sliceApplied (.ref sl) (pure (n:Int))) Q E s:=by
 obtain⟨os,hos,hcs,hds⟩:=id hs
 unfold Builtin.Slice.sliceApplied Builtin.Slice.sliceFields
 refine wpAny_bind (wpAny_bind (wpAny_field hos hds (x:=.none) rfl (wpAny_bind (wpAny_field hos hds (x:=.none) rfl (wpAny_bind (wpAny_field hos hds (x:=.int (-1) u) rfl (wpAny_pure ?_)))))))
 refine wpAny_bind (slicePart_int ?_)
 show wpAny _ _ (if((-1:Int)==0)=true then _ else _) _ _ s
 rw[if_neg (by decide)]
 refine wpAny_bind (slicePart_none (wpAny_bind (slicePart_none (wpAny_bind (wpAny_pure ?_)))))
 show wpAny _ _ (match Builtin.Slice.sliceAdjust none none (-1) (n:Int) with | (lo,hi)=>pure (lo,(-1:Int),Builtin.Slice.slicePlaces lo hi (-1))) _ _ s
 rw[tK n]
 show wpAny _ _ (pure ((n:Int)-1,(-1:Int),Builtin.Slice.slicePlaces ((n:Int)-1) (-1) (-1))) _ _ s
 rw[sE n]
 exact wpAny_pure h
theorem uN(its:List Value):((List.range its.length).filterMap fun(k:Nat)=>its.toArray[(((its.length:Int)-1)+(k:Int)*(-1)).toNat]?).toArray=its.reverse.toArray:=by
 congr 1
 have e3:(List.range its.length).map (fun(k:Nat)=>its.toArray[(((its.length:Int)-1)+(k:Int)*(-1)).toNat]?)=its.reverse.map some:=by
  apply List.ext_getElem?
  intro i
  by_cases h:i<its.length
  ·rw[List.getElem?_map,List.getElem?_range h,List.getElem?_map,List.getElem?_reverse h,Option.map_some,List.getElem?_toArray,show(((its.length:Int)-1)+(i:Int)*(-1)).toNat=its.length-1-i by omega,List.getElem?_eq_getElem (by omega),Option.map_some]
  ·rw[List.getElem?_eq_none (by simp;omega),List.getElem?_eq_none (by simp;omega)]
 have e4:(List.range its.length).filterMap (fun(k:Nat)=>its.toArray[(((its.length:Int)-1)+(k:Int)*(-1)).toNat]?)=((List.range its.length).map (fun(k:Nat)=>its.toArray[(((its.length:Int)-1)+(k:Int)*(-1)).toNat]?)).filterMap id:=by
  rw[List.filterMap_map];rfl
 rw[e4,e3,List.filterMap_map]
 simp
theorem iy{t sl:Addr}{its:List Value}{u:Tok}{Q:Value->Shared->Prop}(ht:IsTup s.heap t its.toArray)(hs:s.heap.IsSliceOf sl .none .none (.int (-1) u))
    (h:Q (.ref s.heap.objs.size) { s with heap:=s.heap.push { cls:=.type "tuple",data:=.seq its.reverse.toArray } })
    (hsz:its.length<=sizeLine):wpAny (model prog w) A (getItem (.ref t) (.ref sl)) Q E s:=by
  have hrev:sizeOk (.seq its.reverse.toArray):=by
    show its.reverse.toArray.size<=sizeLine
    rw[List.size_toArray,List.length_reverse]
    exact hsz
  obtain⟨os,hos,hcs,hds⟩:=id hs
  have hTs:s.TypeIs (.ref sl) "slice":=⟨os,hos,hcs⟩
  unfold getItem
  try with_reducible refine wpAny_holding ?_
  first | refine wpAny_bind (wpAny_pure ?_) | skip
  refine wpAny_bind (wpAny_sequenceKey ht.typeIs (by decide) ?_)
  refine wpAny_bind (wpAny_callSpecial?_slot (name:=Str.ofString "__getitem__") ht.typeIs slot_tuple_getitem
    (wpAny_call_entry slot_tuple_getitem ht.typeIs entry_tuple_getitem ?_ (args_tuple_getitem _ _)))
  show wpAny _ _ (Builtin.Tuple.tupleItemsOf (.ref t) >>=_) _ _ s
  refine wpAny_bind (tupleItemsOf_ ht ?_)
  refine wpAny_bind (wpAny_typeOf hTs ?_)
  rw[if_pos (by decide)]
  refine wpAny_bind (iR (n:=its.toArray.size) hs ?_)
  have hno:¬ ((((its.toArray.size:Nat):Int)-1==0&&(-1:Int)==1&&its.toArray.size==its.toArray.size)=true):=by
    rw[show((-1:Int)==1)=false from rfl];simp
  show wpAny _ _ (if(((its.toArray.size:Nat):Int)-1==0&&(-1:Int)==1&&its.toArray.size==its.toArray.size)=true then _ else _) _ _ s
  rw[if_neg hno,List.size_toArray,uN]
  first
    | exact wpAny_bind (m:=Builtin.Tuple.tupleExact _) (wpAny_newObj_type (wpAny_pure ⟨_,rfl,wpAny_pure h⟩) hrev)
    | exact wpAny_bind (m:=Builtin.Tuple.tupleExact _) (wpAny_newObj_type (wpAny_bind (wpAny_pure (wpAny_pure ⟨_,rfl,wpAny_pure h⟩))) hrev)
    | exact wpAny_bind (wpAny_bind (m:=Builtin.Tuple.tupleExact _) (wpAny_newObj_type (wpAny_pure (wpAny_pure ⟨_,rfl,wpAny_pure h⟩)) hrev))
    | exact wpAny_bind (wpAny_bind (m:=Builtin.Tuple.tupleExact _) (wpAny_newObj_type (wpAny_pure ⟨_,rfl,wpAny_pure h⟩) hrev))
end
section
variable {X:Cx}
theorem Dg{e c:Expr}{te tc:TE}{p2 pos:Pos}(he:PE X e te)(hc:PE X c tc) :
    PE X (.Subscript e (.Slice none none (some c) p2) pos) (fun σ H Q=>te σ H fun x H1=>tc σ H1 fun y H2=>∃ p us,x=.ref p/\y=.int (-1)/\SqT X.K H2 p us/\∀ q,H2 q=none->Q (.ref q) (upd H2 q (.tup us.reverse))):=by
  intro pins s σ H Q I h
  refine Subscript_ (thn (he pins s σ H _ I h) fun v s1 ⟨x,H1,I1,r1,q1⟩=>?_)
  refine wpAny_Slice ?_
  rw[evalPart_none,evalPart_some]
  refine wpAny_pure (wpAny_pure (thn (hc pins s1 σ H1 _ I1 q1) fun u s2 ⟨y,H2,I2,r2,q2⟩=>?_))
  obtain⟨p,us,rfl,rfl,hq,q⟩:=q2
  cases (show v=Value.ref p from r1)
  obtain⟨t,rfl⟩:=r2
  have I3:Inv X pins σ H2 { s2 with heap:=s2.heap.push { cls:=.type "slice",data:=.fields #[.none,.none,.int (-1) t] } }:=I2.kept (t':=s2.toks) fun b ob q=>Heap.get?_push_of_some _ q
  obtain⟨its,r,pt,hz⟩:=I3.tuple hq
  have hl:=r.length
  have hg:=iy (prog:=X.prog) (w:=X.w) (A:=X.A) (E:=X.xe) (Q:=EP X pins σ Q) (u:=t) pt (Heap.IsSliceOf.new ..) (by
    refine⟨.ref _,_,I3.laid (t':=s2.toks) (o:=.tup us.reverse) (fun b ob q=>Heap.get?_push_of_some _ q) (Nat.le_refl _) ?_,rfl,q _ (I3.hok.fresh (Nat.le_refl _))⟩
    exact⟨by rw[List.length_reverse];exact hz,its.reverse,r.reverse,IsTup.new _ _⟩) (by omega)
  show wpAny (model X.prog X.w) X.A (subscriptTail e (.Slice none none (some c) p2) (.ref p) (.ref s2.heap.objs.size)) (EP X pins σ Q) X.xe { s2 with heap:=s2.heap.push { cls:=.type "slice",data:=.fields #[.none,.none,.int (-1) t] } }
  exact tail_any (ops:=[.ref p,.ref s2.heap.objs.size]) pt.typeIs slot_tuple_getitem.lookup hg (by with_unfolding_all rfl)
end
end L2
namespace HT
open PySem PySem.Spec PyProof.Rows PySem.SeqAt L2
section
variable {prog:Program} {w:World} {A:Around} {E:Value->Shared->Prop} {s:Shared}
theorem gb{t sl:Addr}{items:Array Value}{vl vu:Value}{lo hi:Option Int}{Q:Value->Shared->Prop}(ht:IsTup s.heap t items)(hs:s.heap.IsSliceOf sl vl vu .none)(pl:IsPart vl lo)(pu:IsPart vu hi)
    (hw:sIx items.size 0 lo=0/\sIx items.size items.size hi=items.size) (h:Q (.ref t) s):wpAny (model prog w) A (getItem (.ref t) (.ref sl)) Q E s:=by
  obtain⟨os,hos,hcs,hds⟩:=id hs
  have hTs:s.TypeIs (.ref sl) "slice":=⟨os,hos,hcs⟩
  unfold getItem
  try with_reducible refine wpAny_holding ?_
  first | refine wpAny_bind (wpAny_pure ?_) | skip
  refine wpAny_bind (wpAny_sequenceKey ht.typeIs (by decide) ?_)
  refine wpAny_bind (wpAny_callSpecial?_slot (name:=Str.ofString "__getitem__") ht.typeIs PyProof.Rows.slot_tuple_getitem
    (wpAny_call_entry PyProof.Rows.slot_tuple_getitem ht.typeIs entry_tuple_getitem ?_ (args_tuple_getitem _ _)))
  show wpAny _ _ (Builtin.Tuple.tupleItemsOf (.ref t) >>=_) _ _ s
  refine wpAny_bind (tupleItemsOf_ ht ?_)
  refine wpAny_bind (wpAny_typeOf hTs ?_)
  rw[if_pos (by decide)]
  refine wpAny_bind (eV hs pl pu ?_)
  have hyes:(((sIx items.size 0 lo:Nat):Int)==0&&(1:Int)==1&&(sIx items.size items.size hi-sIx items.size 0 lo)==items.size)=true:=by
    rw[hw.1,hw.2];simp
  show wpAny _ _ (if(((sIx items.size 0 lo:Nat):Int)==0&&(1:Int)==1&&(sIx items.size items.size hi-sIx items.size 0 lo)==items.size)=true then _ else _) _ _ s
  rw[if_pos hyes]
  refine wpAny_bind (wpAny_bind (wpAny_typeOf ht.typeIs (wpAny_pure ?_)))
  rw[if_pos (by decide)]
  first
    | exact wpAny_bind (wpAny_rule (wpAny_bind (wpAny_pure (wpAny_pure ⟨_,rfl,wpAny_pure h⟩))))
    | exact wpAny_bind (wpAny_rule (wpAny_bind (wpAny_pure ⟨_,rfl,wpAny_pure h⟩)))
    | exact wpAny_bind (wpAny_rule (wpAny_pure ⟨_,rfl,wpAny_pure h⟩))
end
end HT
namespace L2
open PySem PyProof.Rows
section
variable {X:Cx}
def V8(K:PySem.W.Frag):V->Option Int->Option Int->Hp->VK->Prop:=fun x lo hi H Q=>∃ a xs,x=.ref a/\SqT K H a xs /\
 (HT.sIx xs.length 0 lo=0/\HT.sIx xs.length xs.length hi=xs.length)/\Q (.ref a) H
theorem Cm:SlR X (V8 X.K):=by
 intro pins s σ H x v vl vu lo hi sl Q I rx hs pl pu h
 obtain⟨a,xs,rfl,hx,hw,q⟩:=h
 cases rx
 obtain⟨its,r,ht,hz⟩:=I.tuple hx
 have hlen:its.toArray.size=xs.length:=by rw[List.size_toArray];exact r.length.symm
 refine⟨"tuple",_,PyProof.Rows.slot_tuple_getitem.lookup,ht.typeIs,?_⟩
 exact HT.gb ht hs pl pu (by rw[hlen];exact hw) ⟨.ref a,H,I,rfl,q⟩
end
end L2
namespace DE
open PySem
inductive D where
 | non | bl (b:Bool) | int (i:Int) | str (x:Str) | tup (xs:List D) | lst (xs:List D)
 | exc (c:Str)
 | dic (ks:List (Sum Int Str)) (xs:List D)
 deriving Inhabited
inductive Sl where
 | no | sh (d:D) | ow (ds:List D) | oo (dss:List (List D))
 deriving Inhabited
abbrev Rho:=List (Str×Sl)
inductive Fl where
 | nxt (ρ:Rho) | ret (d:D)
 deriving Inhabited
def b2i(b:Bool):Int:=if b then 1 else 0
mutual
def deq:D->D->Bool
 | .non,.non=>true
 | .bl a,.bl b=>a==b
 | .bl a,.int j=>b2i a==j
 | .int i,.bl b=>i==b2i b
 | .int i,.int j=>i==j
 | .str x,.str y=>x==y
 | .tup xs,.tup ys=>mq xs ys
 | .lst xs,.lst ys=>mq xs ys
 | _,_=>false
def mq:List D->List D->Bool
 | [],[]=>true
 | x::xs,y::ys=>deq x y&&mq xs ys
 | _,_=>false
end
mutual
def dep:D->Nat
 | .tup xs=>deps xs+1
 | .lst xs=>deps xs+1
 | .exc _=>1000
 | .dic _ _=>1000
 | _=>0
def deps:List D->Nat
 | []=>0
 | x::xs=>max (dep x) (deps xs)
end
def asB:D->Option Bool
 | .bl b=>some b
 | _=>none
def asI:D->Option Int
 | .int i=>some i
 | _=>none
def items:D->Option (List D)
 | .tup xs=>some xs
 | .lst xs=>some xs
 | _=>none
def DY:D->Option (List D)
 | .lst xs=>some xs
 | _=>none
def oM:List D->Option (List Int)
 | []=>some []
 | .int i::r=>(oM r).map (i::·)
 | _=>none
def oU:List D->Option (List Bool)
 | []=>some []
 | .bl i::r=>(oU r).map (i::·)
 | _=>none
def small(i:Int):Bool:=decide (-(2^64)<i)&&decide (i<2^64)
def mid(i:Int):Bool:=decide (i.natAbs.log2<10000)
def szl(n:Nat):Bool:=decide (n<=100000)
def binop:Operator->D->D->Option D
 | .Add,.int i,.int j=>some (.int (i+j))
 | .Add,.tup xs,.tup ys=>if szl (xs.length+ys.length) then some (.tup (xs++ys)) else none
 | .Add,.lst xs,.lst ys=>if szl (xs.length+ys.length) then some (.lst (xs++ys)) else none
 | .Sub,.int i,.int j=>some (.int (i-j))
 | .Mult,.int i,.int j=>if small i||small j||(mid i&&mid j) then some (.int (i*j)) else none
 | .Mult,.lst xs,.int j=>if decide (j<=1000)&&decide (-1000<=j)&&szl (xs.length*j.toNat) then some (.lst (List.replicate j.toNat xs).flatten) else none
 | .Mult,.tup xs,.int j=>if true then none else none
 | .FloorDiv,.int i,.int j=>if decide (0<j)&&decide (j<1073741824) then some (.int (i / j)) else if decide (j≠0)&&decide (j.natAbs.log2<9000) then some (.int (i.fdiv j)) else none
 | .Mod,.int i,.int j=>if decide (0<j) then some (.int (i%j)) else if decide (j≠0) then some (.int (i.fmod j)) else none
 | _,_,_=>none
def qd:List D->Option (List Str)
 | []=>some []
 | .str i::r=>(qd r).map (i::·)
 | _=>none
def inS(x:D)(ys:List D):Option Bool:=(qd ys).bind fun ss=>if decide (dep x<=50) then some (ss.any fun t=>deq (.str t) x) else none
def inT(x:D)(ys:List D):Option Bool:=match asI x,oM ys with
 | some i,some ns=>some (ns.any (· ==i))
 | _,_=>inS x ys
def Gk:D->Option (Sum Int Str)
 | .int i=>some (.inl i)
 | .str x=>some (.inr x)
 | _=>none
def putD(l:List (Sum Int Str×D))(k:Sum Int Str)(d:D):List (Sum Int Str×D):=if(l.any fun q=>decide (q.1=k))=true then l.map (fun q=>if q.1=k then(q.1,d) else q) else l++[(k,d)]
def Gf(ks:List (Sum Int Str))(ds:List D)(k:Sum Int Str):Option D:=((ks.zip ds).find? fun q=>decide (q.1=k)).map (·.2)
def FN(l:List (Sum Int Str×D)):D:=.dic (l.map (·.1)) (l.map (·.2))
def dI(f:Expr->Option D):List (Option Expr)->List Expr->Option (List (Sum Int Str×D))
 | [],[]=>some []
 | some k::ks,v::vs=>do let x <- (f k).bind Gk;let d <- f v;let r <- dI f ks vs;some ((x,d)::r)
 | _,_=>none
def Vu(l:List (Sum Int Str×D)):List (Sum Int Str×D):=l.foldl (fun a q=>putD a q.1 q.2) []
def Ej:D->Bool
 | .non=>true
 | _=>false
def cmpop:CmpOp->D->D->Option D
 | .Eq,x,y=>if decide (dep x<=50)&&decide (dep y<=50) then some (.bl (deq x y)) else none
 | .NotEq,x,y=>if decide (dep x<=50)&&decide (dep y<=50) then some (.bl (!deq x y)) else none
 | .Lt,.int i,.int j=>some (.bl (decide (i<j)))
 | .LtE,.int i,.int j=>some (.bl (decide (i<=j)))
 | .Gt,.int i,.int j=>some (.bl (decide (j<i)))
 | .GtE,.int i,.int j=>some (.bl (decide (j<=i)))
 | .Is,x,.non=>some (.bl (Ej x))
 | .IsNot,x,.non=>some (.bl (!Ej x))
 | .Is,.bl a,.bl b=>some (.bl (a==b))
 | .IsNot,.bl a,.bl b=>some (.bl (!(a==b)))
 | .In,x,.tup ys=>(inT x ys).map fun b=>.bl b
 | .NotIn,x,.tup ys=>(inT x ys).map fun b=>.bl (!b)
 | .NotIn,.int i,.lst ys=>(oM ys).map fun ns=>.bl (!ns.any (· ==i))
 | _,_,_=>none
def ixD(n:Nat)(i:Int):Option Nat:=if 0<=i then(if i<n then some i.toNat else none) else if -(n:Int)<=i then some (i+n).toNat else none
def atD(xs:List D)(i:Int):Option D:=(ixD xs.length i).bind fun j=>xs[j]?
def tO(n d:Nat):Option Int->Nat
 | none=>d
 | some v=>if v<0 then(v+(n:Int)).toNat else min v.toNat n
def tD(xs:List D)(lo hi:Option Int):List D:=(xs.drop (tO xs.length 0 lo)).take (tO xs.length xs.length hi-tO xs.length 0 lo)
def Gg:D->D->Option D
 | .tup xs,.int i=>atD xs i
 | .lst xs,.int i=>atD xs i
 | .dic ks ds,y=>(Gk y).bind (Gf ks ds)
 | _,_=>none
def scD:D->Bool
 | .non=>true
 | .bl _=>true
 | .int _=>true
 | .str _=>true
 | _=>false
def vQ:D->Bool
 | .tup ds=>ds.all scD
 | d=>scD d
def tU:String->D->Bool
 | "int",.int _=>true
 | "int",.bl _=>true
 | "bool",.bl _=>true
 | "tuple",.tup _=>true
 | "list",.lst _=>true
 | "str",.str _=>true
 | _,_=>false
def WY:Expr->Option Int
 | .Constant (.int c) _ _=>some c
 | _=>none
def Ro(k:Keyword):Option Int:=if k.arg==some "default" then WY k.value else none
def blt:String->List D->Option D
 | "len",[d]=>do let l <- items d;some (.int l.length)
 | "all",[.lst xs]=>do let bs <- oU xs;some (.bl (bs.all id))
 | "sum",[.lst xs]=>if true then none else none
 | "sum",[.tup xs]=>if true then none else none
 | "tuple",[d]=>do let l <- items d;some (.tup l)
 | "list",[d]=>do let l <- items d;some (.lst l)
 | "any",[.lst xs]=>if true then none else none
 | "min",[.tup xs]=>if true then none else none
 | "min",[.lst xs]=>if true then none else none
 | "max",[.lst xs]=>if true then none else none
 | "max",[.tup xs]=>if true then none else none
 | "min",[.int i,.int j]=>if true then none else none
 | "max",[.int i,.int j]=>if true then none else none
 | "abs",[.int i]=>some (.int (if i<0 then -i else i))
 | "int",[.bl b]=>some (.int (b2i b))
 | "int",[.int i]=>some (.int i)
 | _,_=>none
structure Cxt where
 cst:List (Str×D)
 blt:List (Str×String)
 fns:List Str
 exs:List Str
 top:Str
 rs:Bool
 call:Str->List D->Option D
 callx:Str->List D->Option Str
def isExc:D->Bool
 | .exc _=>true
 | .dic _ _=>true
 | _=>false
def Ge(top c c':Str):Bool:=c==c'||c'==top
def jU(scope sc:Scope):Scope :=
 { scope with names:=scope.names.map fun(n,k)=>if(k==.free&&sc.kind==.function&&sc.names.lookup n==some .cell) then(n,.cell) else(n,k) }
def K9:Option Sl->Sl
 | some (.sh d)=>.sh d
 | _=>.no
def bI(scope:Scope)(ρ:Rho):Rho:=scope.names.map fun p=>(p.1,if p.2==.free then K9 (ρ.lookup p.1) else .no)
def nD:List Str->Bool
 | []=>true
 | x::r => !r.contains x&&nD r
def fY(sc scope:Scope):Bool :=
 scope.kind==.function&&nD (scope.names.map (·.1))&&scope.names.all fun p=>p.2 !=.free||sc.names.lookup p.1==some .cell||sc.names.lookup p.1==some .free
def cC:Rho->Str->Sl->Rho
 | [],_,_=>[]
 | (y,s)::r,x,v=>if x==y then(y,v)::r else(y,s)::cC r x v
def aA(x:Str):Bool:=x !="__debug__"&&x !="__classdict__"
def ownIn(scope:Scope)(x:Str):Bool:=scope.names.lookup x==some .local||scope.names.lookup x==some .cell
def bindNames(scope:Scope):List Expr->List D->Rho->Option Rho
 | [],[],ρ=>some ρ
 | .Name x _::es,d::ds,ρ=>if ownIn scope x&&(ρ.map (·.1)).contains x then bindNames scope es ds (cC ρ x (.sh d)) else none
 | _,_,_=>none
def fP(scope:Scope):Expr->D->Rho->Option Rho
 | .Name x _,d,ρ=>if ownIn scope x&&(ρ.map (·.1)).contains x then some (cC ρ x (.sh d)) else none
 | .Tuple es _ _,.tup ds,ρ=>bindNames scope es ds ρ
 | _,_,_=>none
def mJ(cx:Cxt)(sc:Scope)(x:Str):Bool:=sc.names.lookup x==some .globalImplicit
def bx(cx:Cxt)(sc:Scope)(x:Str):Option String:=if mJ cx sc x then cx.blt.lookup x else none
def bK(f:D->Option (Option D)):List D->Option (List D)
  | []=>some []
  | x :: r => do
    match <- f x with
    | some v=>(bK f r).map (v::·)
    | none=>bK f r
def dj(lo hi:Int):List D:=(List.range (hi-lo).toNat).map fun(k:Nat)=>.int (lo+(k:Int))
def jX(f:Expr->Option D):List Expr->Option (List D)
 | []=>some []
 | e::r=>do let d <- f e;let ds <- jX f r;some (d::ds)
def bY(op:BoolOp)(f:Expr->Option D):List Expr->Option D
  | []=>none
  | [e]=>f e
  | e :: e' :: r => do
    let d <- f e
    let b <- asB d
    match op with
    | .And=>if b then bY op f (e'::r) else some (.bl false)
    | .Or=>if b then some (.bl true) else bY op f (e'::r)
def eZ(i:Int):Bool:=decide (-(2^62)<=i)&&decide (i<2^62)
def fX:Expr->Bool
 | .Tuple .. =>true
 | _=>false
inductive Wk where
 | r1 (a:Expr) | r2 (a b:Expr) | zp (a b:Expr) | rv (a:Expr) | en (a:Expr) | sq
def ud(cx:Cxt)(sc:Scope):Expr->Wk
  | .Call (.Name x _) args [] _ => (match bx cx sc x with
    | some "range"=>(match args with | [a]=>.r1 a | [a,b]=>.r2 a b | _=>.sq)
    | some "zip"=>(match args with | [a,b]=>.zp a b | _=>.sq)
    | some "reversed"=>(match args with | [a]=>.rv a | _=>.sq)
    | some "enumerate"=>(match args with | [a]=>.en a | _=>.sq)
    | _=>.sq)
  | _=>.sq
def J2:D->D->Option (List D)
 | .tup xs,.tup ys=>some ((xs.zip ys).map fun q=>.tup [q.1,q.2])
 | .lst xs,.lst ys=>if true then none else none
 | .lst xs,.tup ys=>if true then none else none
 | .tup xs,.lst ys=>if true then none else none
 | _,_=>none
def evI(cx:Cxt)(tup:Bool)(f:Expr->Option D)(sc:Scope)(e:Expr):Option (List D):=match ud cx sc e with
 | .r1 a=>do let j <- (f a).bind asI;if eZ j then some (dj 0 j) else none
 | .r2 a b=>do let i <- (f a).bind asI;let j <- (f b).bind asI;if eZ i&&eZ j then some (dj i j) else none
 | .zp a b=>do let x <- f a;let y <- f b;if tup then J2 x y else none
 | .rv a=>do let xs <- (f a).bind DY;some xs.reverse
 | .en a=>do let x <- f a;if tup then none else none
 | .sq=>(f e).bind items
inductive Wc where
 | lr1 (a:Expr) | lr2 (a b:Expr) | tv (a:Expr) | ls (a:Expr) | tr1 (a:Expr) | al
def Sd(cx:Cxt)(sc:Scope):Expr->Option Expr
 | .Call (.Name y _) [a] [] _=>if bx cx sc y==some "set" then some a else none
 | _=>none
def GF(cx:Cxt)(sc:Scope)(b:String)(args:List Expr):Wc:=match args with
  | [e] => (match b, ud cx sc e with
    | "list",.r1 a=>.lr1 a
    | "list",.r2 a b=>.lr2 a b
    | "tuple",.rv a=>.tv a
    | "tuple",.r1 a=>.tr1 a
    | "len",.sq=>(match Sd cx sc e with | some a=>.ls a | none=>.al)
    | _,_=>.al)
  | _=>.al
def f9:String->Bool
 | "int"=>true
 | "bool"=>true
 | "tuple"=>true
 | "list"=>true
 | "str"=>true
 | _=>false
def tyOf(cx:Cxt)(sc:Scope):Expr->Option String
 | .Name x _=>bx cx sc x
 | _=>none
def xOf(cx:Cxt)(sc:Scope):Expr->Option Str
 | .Name x _=>if mJ cx sc x&&(cx.exs.contains x||x==cx.top)&&aA x then some x else none
 | _=>none
def cntB(b:Bool)(bs:List Bool):Nat:=(bs.filter (· ==b)).length
def lW(f:Expr->Option D):List Expr->Option Bool
 | []=>some true
 | [c]=>(f c).bind asB
 | _=>none
def pI(m:Str):D->D->Option D
  | .lst xs, .bl b => do
    let bs <- oU xs
    if m=="count" then some (.int (cntB b bs)) else if m=="index"&&bs.contains b then some (.int (bs.idxOf b)) else none
  | .lst xs, .int i => do
    let ns <- oM xs
    if m=="count" then some (.int ((ns.filter (· ==i)).length:Nat)) else none
  | _,_=>none
def aB:Expr->Bool
 | .Starred .. =>false
 | .Set .. =>false
 | .Slice .. =>false
 | _=>true
def J9:D->Option Expr->Option Expr->Option Int->Option D
 | .lst xs,none,none,some i=>if i == -1 then some (.lst xs.reverse) else none
 | .tup xs,none,none,some i=>if i == -1 then some (.tup xs.reverse) else none
 | _,_,_,_=>none
def ev(cx:Cxt):Nat->Scope->Rho->Expr->Option D
  | 0,_,_,_=>none
  | n + 1, sc, ρ, e => match e with
    | .Name x _=>if aA x then(match sc.names.lookup x with
        | some .local=>(match ρ.lookup x with | some (.sh d)=>some d | _=>none)
        | some .cell=>(match ρ.lookup x with | some (.sh d)=>some d | _=>none)
        | some .free=>(match ρ.lookup x with | some (.sh d)=>some d | _=>none)
        | some .globalImplicit=>cx.cst.lookup x
        | _=>none) else none
    | .Constant c _ _=>(match c with
        | .none=>some .non
        | .bool b=>some (.bl b)
        | .int i=>some (.int i)
        | .str x=>some (.str x)
        | _=>none)
    | .BinOp a op b _=>do let x <- ev cx n sc ρ a;let y <- ev cx n sc ρ b;binop op x y
    | .UnaryOp op a _=>do
        let x <- ev cx n sc ρ a
        match op with
        | .USub=>(asI x).map fun i=>.int (-i)
        | .Not=>(asB x).map fun b=>.bl (!b)
        | _=>none
    | .BoolOp op es _=>bY op (ev cx n sc ρ) es
    | .Compare a ops bs _=>(match ops,bs with
        | [op],[b]=>do let x <- ev cx n sc ρ a;let y <- ev cx n sc ρ b;cmpop op x y
        | [op, op'], [b, c] => if !aB c then none else do
          let x <- ev cx n sc ρ a
          let y <- ev cx n sc ρ b
          let k <- (cmpop op x y).bind asB
          if k then do let z <- ev cx n sc ρ c;cmpop op' y z else some (.bl false)
        | _,_=>none)
    | .IfExp c a b _=>do
        let k <- (ev cx n sc ρ c).bind asB
        if k then ev cx n sc ρ a else ev cx n sc ρ b
    | .Tuple es _ _=>do let ds <- jX (ev cx n sc ρ) es;if szl ds.length then some (.tup ds) else none
    | .List es _=>do let ds <- jX (ev cx n sc ρ) es;if szl ds.length then some (.lst ds) else none
    | .Subscript a b _=>do
        let x <- ev cx n sc ρ a
        match b with
        | .Slice lo hi st _ => (match st with
          | none => do
            let l <- (match lo with | none=>some none | some e=>(ev cx n sc ρ e).bind fun d=>(asI d).map some)
            let h <- (match hi with | none=>some none | some e=>(ev cx n sc ρ e).bind fun d=>(asI d).map some)
            match x with
            | .tup xs=>if tO xs.length 0 l==0&&tO xs.length xs.length h==xs.length then some (.tup xs) else some (.tup (tD xs l h))
            | .lst xs=>some (.lst (tD xs l h))
            | _=>none
          | some c=>J9 x lo hi ((ev cx n sc ρ c).bind asI))
        | b => do
          let y <- ev cx n sc ρ b
          Gg x y
    | .Dict ks vs _=>if ks.isEmpty||decide (15<ks.length) then none else(dI (ev cx n sc ρ) ks vs).map fun l=>FN (Vu l)
    | .Call f args kws p=>(match f,kws with
        | .Name x _, [] =>
          if mJ cx sc x then
            match cx.blt.lookup x with
            | some "isinstance" => (match args with
              | [a, t] => do
                let d <- ev cx n sc ρ a
                match xOf cx sc t with
                | some c'=>(match d with | .exc c=>if cx.exs.contains c then some (.bl (Ge cx.top c c')) else none | _=>none)
                | none => do
                  let ty <- tyOf cx sc t
                  match d with
                  | .exc c=>if cx.exs.contains c&&ty=="ValueError" then some (.bl true) else none
                  | .dic _ _=>none
                  | d=>if f9 ty then some (.bl (tU ty d)) else none
              | _=>none)
            | some b => (match GF cx sc b args with
              | .lr1 a=>do let j <- (ev cx n sc ρ a).bind asI;if eZ j&&szl j.toNat then some (.lst (dj 0 j)) else none
              | .lr2 a a'=>do let i <- (ev cx n sc ρ a).bind asI;let j <- (ev cx n sc ρ a').bind asI;if eZ i&&eZ j&&szl (j-i).toNat then some (.lst (dj i j)) else none
              | .tr1 a=>if true then none else none
              | .tv a=>if true then none else none
              | .ls a=>if true then none else none
              | .al=>if args.isEmpty then none else do let ds <- jX (ev cx n sc ρ) args;blt b ds)
            | none=>if cx.fns.contains x && !args.isEmpty then do let ds <- jX (ev cx n sc ρ) args;cx.call x ds else none
          else none
        | .Name x _, [k] => (match args with
          | [a]=>if bx cx sc x==some "max" then none else none
          | _=>none)
        | .Attribute (.Name y py) m ap, [] => (match args with
          | [e]=>if ap.endLine==p.line then do
              let x <- ev cx n sc ρ (.Name y py)
              let z <- ev cx n sc ρ e
              pI m x z else none
          | _=>none)
        | .Attribute (.Dict ks vs dp) m ap,[]=>if true then none else none
        | .Subscript (.List es _) ix _,[]=>if true then none else none
        | _,_=>none)
    | .ListComp elt gens scope _=>(match gens with
        | [⟨tg,iter,ifs,a⟩]=>if a==0&&fY sc scope then do
            let l <- evI cx (fX tg) (ev cx n sc ρ) sc iter
            if szl l.length then do
              let out <- bK (fun d=>do
                let ρ1 <- fP scope tg d (bI scope ρ)
                let b <- lW (ev cx n (jU scope sc) ρ1) ifs
                if b then(ev cx n (jU scope sc) ρ1 elt).map some else some none) l
              some (.lst out)
            else none
          else none
        | _=>none)
    | _=>none
def wK(f:Expr->Option D)(g:Expr->Option Str):List Expr->Option Str
  | []=>none
  | e :: r => match f e with
    | some _=>wK f g r
    | none=>g e
def evx(cx:Cxt):Nat->Scope->Rho->Expr->Option Str
  | 0,_,_,_=>none
  | n + 1, sc, ρ, e => match e with
    | .Call (.Name x _) args [] _=>if mJ cx sc x && !args.isEmpty&&args.all aB&&cx.fns.contains x then
        (match jX (ev cx n sc ρ) args with
        | some ds=>cx.callx x ds
        | none=>wK (ev cx n sc ρ) (evx cx n sc ρ) args)
      else none
    | .Call (.Subscript (.List es _) ix _) args [] _=>if true then none else none
    | .Call (.Name x _) [a] [k] _=>if bx cx sc x==some "max"&&(Ro k).isSome&&aB a then evx cx n sc ρ a else none
    | .IfExp c a b _ => (match (ev cx n sc ρ c).bind asB with
      | some true=>evx cx n sc ρ a
      | some false=>evx cx n sc ρ b
      | none=>none)
    | .ListComp _ [⟨_,iter,_,a⟩] scope _=>if a==0&&fY sc scope&&aB iter then evx cx n sc ρ iter else none
    | _=>none
def eF:Nat->Str->Expr->Bool
  | 0,_,_=>true
  | n + 1, x, e => match e with
    | .Name y _=>x==y
    | .Constant .. =>false
    | .BinOp a _ b _=>eF n x a||eF n x b
    | .UnaryOp _ a _=>eF n x a
    | .BoolOp _ es _=>es.any (eF n x)
    | .Compare a _ bs _=>eF n x a||bs.any (eF n x)
    | .IfExp c a b _=>eF n x c||eF n x a||eF n x b
    | .Tuple es _ _=>es.any (eF n x)
    | .List es _=>es.any (eF n x)
    | .Subscript a b _=>eF n x a||eF n x b
    | .Slice lo hi st _=>(lo.map (eF n x)).getD false||(hi.map (eF n x)).getD false||(st.map (eF n x)).getD false
    | .Call f args kws _=>eF n x f||args.any (eF n x) || !kws.isEmpty
    | .ListComp elt gens _ _=>eF n x elt||gens.any fun g=>eF n x g.iter||g.ifs.any (eF n x)
    | _=>true
def frz(n:Nat)(e:Expr)(ρ:Rho):Rho:=ρ.map fun p=>match p.2 with
 | .ow ds=>if eF n p.1 e then(p.1,.sh (.lst ds)) else p
 | .oo dss=>if eF n p.1 e then(p.1,.sh (.lst (dss.map .lst))) else p
 | _=>p
def isL:Expr->Bool
 | .List .. =>true
 | _=>false
def Vv:Operator->Bool
 | .Mult=>true
 | _=>false
def aY:Expr->Bool
 | .List .. =>true
 | .ListComp .. =>true
 | .BinOp a op _ _=>isL a&&Vv op
 | _=>false
def wC:Sl->Bool
 | .no=>true
 | .sh _=>true
 | _=>false
def Kl:Sl->Bool
 | .oo _=>true
 | _=>false
def nA(ρ:Rho)(x:Str):Bool:=ρ.all fun p=>p.1==x||wC p.2
def iU(ρ:Rho)(x:Str):Bool:=ρ.all fun p=>p.1==x || !Kl p.2
def Kc(cx:Cxt)(sc:Scope):Expr->Bool
 | .Call (.Name l _) [.Name y _] [] _=>bx cx sc l==some "list"&&aA y&&sc.names.lookup y==some .local
 | .ListComp .. =>true
 | _=>false
def wX(cx:Cxt)(sc:Scope):Expr->Bool
 | .Call (.Name l _) [.Name y _] [] _=>bx cx sc l==some "list"&&aA y&&sc.names.lookup y==some .local
 | _=>false
def ooE(cx:Cxt)(sc:Scope):Expr->Bool
 | .ListComp elt [⟨.Name _ _,_,[],_⟩] scope _=>Kc cx (jU scope sc) elt
 | _=>false
def Aq:List D->Option (List (List D))
 | []=>some []
 | .lst ds::r=>(Aq r).map (ds::·)
 | _=>none
def yF:D->Option (List (List D))
 | .lst ds=>Aq ds
 | _=>none
def Gb(x:Str):Expr->Option (Expr×Expr)
 | .BinOp (.Subscript (.Name y _) i _) .Add e _=>if x==y then some (i,e) else none
 | _=>none
def jh(e:Expr)(d:D):Sl:=match d with
 | .lst ds=>if aY e then .ow ds else .sh (.lst ds)
 | d=>.sh d
def nc0:Expr->Bool
 | .Call .. =>true
 | .Name x _=>x !="__debug__"
 | .IfExp .. =>true
 | .ListComp .. =>true
 | .Compare .. =>true
 | _=>false
def Ek:Expr->Bool
 | .Compare .. =>true
 | _=>false
def nc1:Expr->Bool
 | .Subscript v _ _=>nc0 v
 | e=>nc0 e
def nc:Expr->Bool
 | .Subscript v i _=>nc0 v||nc0 i
 | .BinOp l _ r _=>nc1 l||nc1 r
 | e=>nc0 e
def yK:Expr->Bool
 | .Constant .. =>true
 | _=>false
def swp(sc:Scope)(ts:List Expr)(value:Expr):Option Bool:=match value with
  | .Tuple vs _ _ => (match ts, vs with
    | [.Name x px, .Name y py], [a, b] =>
      if sc.names.lookup x==some .local&&sc.names.lookup y==some .local then
        (if px.line==py.line&&x !=y&&(nc a||nc b)&&aB a&&aB b then some true else if yK a&&yK b then some false else none)
      else some false
    | [.Name x _,.Name y _,.Name z _],[_,_,_]=>if sc.names.lookup x==some .cell&&sc.names.lookup y==some .cell&&sc.names.lookup z==some .cell then some false else none
    | _,_=>none)
  | _=>some false
def J7(sc:Scope):List Expr->Expr->Bool
  | [.Name x px, .Name y py, .Name z pz], .Tuple [a, b, c] _ _ =>
    (sc.names.lookup x==some .local&&sc.names.lookup y==some .local&&sc.names.lookup z==some .local)&&(px.line==py.line&&px.line==pz.line)&&(x !=y&&x !=z&&y !=z)&&(nc a||nc b||nc c)&&(aB a&&aB b&&aB c)&&(!Ek a && !Ek b && !Ek c)
  | _,_=>false
def cY(f:D->Rho->Option Fl):List D->Rho->Option Fl
  | [],ρ=>some (.nxt ρ)
  | x :: r, ρ => do
    match <- f x ρ with
    | .ret d=>some (.ret d)
    | .nxt ρ'=>cY f r ρ'
def iQ(f:Rho->Stmt->Option Fl):List Stmt->Rho->Option Fl
  | [],ρ=>some (.nxt ρ)
  | s :: r, ρ => do
    match <- f ρ s with
    | .ret d=>some (.ret d)
    | .nxt ρ'=>iQ f r ρ'
def qm(c:Rho->Option (Rho×Bool))(f:Rho->Option Fl):Nat->Rho->Option Fl
  | 0,_=>none
  | m + 1, ρ => match c ρ with
    | none=>none
    | some (ρ1, b) => if b then (match f ρ1 with
      | none=>none
      | some (.ret d)=>some (.ret d)
      | some (.nxt ρ')=>qm c f m ρ') else some (.nxt ρ1)
def rR:List ExceptHandler->List Stmt->List Stmt->Option (Str×Str×Str)
 | [.ExceptHandler (some (.Name c _)) (some e) [.Assign [.Name kn _] (.Name e' _) _] _],[],[]=>if e==e' then some (c,e,kn) else none
 | _,_,_=>none
def uY:Expr->Option Expr
 | .UnaryOp .Not (.Call f as ks p) _=>some (.Call f as ks p)
 | _=>none
def gw(f:Rho->Stmt->Option Fl)(g:Rho->Stmt->Option (Str×Rho)):List Stmt->Rho->Option (Str×Rho)
  | [],_=>none
  | s :: r, ρ => match f ρ s with
    | some (.nxt ρ')=>gw f g r ρ'
    | some (.ret _)=>none
    | none=>g ρ s
mutual
def st(cx:Cxt)(F:Nat):Nat->Scope->Rho->Stmt->Option Fl
  | 0,_,_,_=>none
  | n + 1, sc, ρ, s => match s with
    | .Pass _=>some (.nxt ρ)
    | .Return v _=>(match v with
        | none=>some (.ret .non)
        | some e=>(ev cx F sc (frz F e ρ) e).map .ret)
    | .Assign tgs e _=>(match tgs with
        | [.Name x _]=>if ownIn sc x&&(ρ.map (·.1)).contains x then
            (if ooE cx sc e&&nA (frz F e ρ) x then(ev cx F sc (frz F e ρ) e).bind fun d=>(yF d).map fun dss=>.nxt (cC (frz F e ρ) x (.oo dss))
            else if wX cx sc e&&iU (frz F e ρ) x then(ev cx F sc (frz F e ρ) e).bind fun d=>(DY d).map fun ds=>.nxt (cC (frz F e ρ) x (.ow ds))
            else if aY e && !iU (frz F e ρ) x then(if iU (frz F e (frz 0 e ρ)) x then(ev cx F sc (frz F e (frz 0 e ρ)) e).map fun d=>.nxt (cC (frz F e (frz 0 e ρ)) x (jh e d)) else none)
            else(ev cx F sc (frz F e ρ) e).map fun d=>.nxt (cC (frz F e ρ) x (jh e d))) else none
        | [.Tuple es _ _]=>if(swp sc es e).isSome||J7 sc es e then do
            let d <- ev cx F sc (frz F e ρ) e
            let l <- items d
            (bindNames sc es l (frz F e ρ)).map .nxt
          else none
        | [.Subscript t ie _] => (match t with
          | .Name x _ => (match Gb x e with
            | some (i2, e2) => (match (frz F ie (frz F e2 (frz F i2 ρ))).lookup x with
              | some (.ow ds)=>if ownIn sc x&&aA x then do
                  let j2 <- (ev cx F sc (frz F ie (frz F e2 (frz F i2 ρ))) i2).bind asI
                  let a <- (atD ds j2).bind asI
                  let b <- (ev cx F sc (frz F ie (frz F e2 (frz F i2 ρ))) e2).bind asI
                  let j <- (ev cx F sc (frz F ie (frz F e2 (frz F i2 ρ))) ie).bind asI
                  let n <- ixD ds.length j
                  some (.nxt (cC (frz F ie (frz F e2 (frz F i2 ρ))) x (.ow (ds.set n (.int (a+b))))))
                else none
              | _=>none)
            | none => (match (frz F ie (frz F e ρ)).lookup x with
              | some (.ow ds)=>if ownIn sc x&&aA x && !aY e then do
                  let d <- ev cx F sc (frz F ie (frz F e ρ)) e
                  let j <- (ev cx F sc (frz F ie (frz F e ρ)) ie).bind asI
                  let n <- ixD ds.length j
                  some (.nxt (cC (frz F ie (frz F e ρ)) x (.ow (ds.set n d))))
                else none
              | _=>none))
          | .Subscript (.Name x _) i1 _ => (match ρ.lookup x with
            | some (.oo dss)=>if ownIn sc x&&aA x && !aY e then do
                let d <- ev cx F sc (frz F e ρ) e
                let j1 <- (ev cx F sc (frz F i1 ρ) i1).bind asI
                let n1 <- ixD dss.length j1
                let ds <- dss[n1]?
                let j2 <- (ev cx F sc (frz F ie ρ) ie).bind asI
                let n2 <- ixD ds.length j2
                if vQ d then some (.nxt (cC ρ x (.oo (dss.set n1 (ds.set n2 d))))) else none
              else none
            | _=>none)
          | _=>none)
        | _=>none)
    | .Expr v _=>(match v with
        | .Call (.Attribute (.Name x _) m ap) [e] [] cp=>(match (frz F e ρ).lookup x with
            | some (.ow ds)=>if ownIn sc x&&aA x&&ap.endLine==cp.line then
                if m=="append"&&szl (ds.length+1) then(ev cx F sc (frz F e ρ) e).map fun d=>.nxt (cC (frz F e ρ) x (.ow (ds++[d])))
                else if m=="extend" then do
                  let d <- ev cx F sc (frz F e ρ) e
                  (match d with
                  | .lst zs=>if szl (ds.length+zs.length) then some (.nxt (cC (frz F e ρ) x (.ow (ds++zs)))) else none
                  | .tup zs=>if szl (ds.length+zs.length) then some (.nxt (cC (frz F e ρ) x (.ow (ds++zs)))) else none
                  | _=>none)
                else none
              else none
            | some (.sh _) => (match ρ.lookup x with
              | some (.ow ds)=>if ownIn sc x&&aA x&&ap.endLine==cp.line&&(m=="append"&&szl (ds.length+1)) then do
                  let d <- ev cx F sc (frz F e ρ) e
                  if vQ d then some (.nxt (cC ρ x (.ow (ds++[d])))) else none
                else none
              | _=>none)
            | _=>none)
        | .ListComp .. =>none
        | .Constant .. =>none
        | e=>(ev cx F sc (frz F e ρ) e).map fun _=>.nxt (frz F e ρ))
    | .If c a b _=>do
        let k <- (ev cx F sc (frz F c ρ) c).bind asB
        if k then iQ (fun ρ s=>st cx F n sc ρ s) a (frz F c ρ) else iQ (fun ρ s=>st cx F n sc ρ s) b (frz F c ρ)
    | .For tg iter body orelse _=>(match orelse with
        | [] => do
          let l <- evI cx (fX tg) (ev cx F sc (frz F iter ρ)) sc iter
          cY (fun d ρ=>do let ρ1 <- fP sc tg d ρ;iQ (fun ρ s=>st cx F n sc ρ s) body ρ1) l (frz F iter ρ)
        | _=>none)
    | .While c body orelse _=>(match orelse with
        | []=>qm (fun ρ=>((ev cx F sc (frz F c ρ) c).bind asB).map fun b=>(frz F c ρ,b)) (fun ρ=>iQ (fun ρ s=>st cx F n sc ρ s) body ρ) 10000000000000000000000000000000000000000000000000000000000000000000000000000000000000000000000000000 ρ
        | _=>none)
    | .Try body hs orelse fin _ => (match rR hs orelse fin with
      | some (c, e, kn) => (match iQ (fun ρ s => st cx F n sc ρ s) body ρ with
        | some fl=>some fl
        | none => (match gw (fun ρ s => st cx F n sc ρ s) (fun ρ s => stx { cx with rs := false } F n sc ρ s) body ρ with
          | some (c',ρ')=>if mJ cx sc c&&c==cx.top&&cx.exs.contains c'&&e !=kn&&aA e&&sc.names.lookup e==some .local&&sc.names.lookup kn==some .local&&(ρ.map (·.1)).contains e&&(ρ.map (·.1)).contains kn&&aA c then
              some (.nxt (cC (cC ρ' kn (.sh (.exc c'))) e .no)) else none
          | none=>none))
      | none=>none)
    | _=>none
def stx(cx:Cxt)(F:Nat):Nat->Scope->Rho->Stmt->Option (Str×Rho)
  | 0,_,_,_=>none
  | n + 1, sc, ρ, s => match s with
    | .Raise (some (.Call (.Name c _) [.Constant (.str _) _ _] [] _)) none _=>if cx.rs&&mJ cx sc c&&cx.exs.contains c&&aA c then some (c,ρ) else none
    | .Expr e _=>if aY e then none else(evx cx F sc (frz F e ρ) e).map fun c=>(c,frz F e ρ)
    | .Return (some e) _=>(evx cx F sc (frz F e ρ) e).map fun c=>(c,frz F e ρ)
    | .Assign [.Name _ _] e _=>if aY e then none else(evx cx F sc (frz F e ρ) e).map fun c=>(c,frz F e ρ)
    | .If c a b _=>(match (ev cx F sc (frz F c ρ) c).bind asB with
        | some k=>gw (fun ρ s=>st cx F n sc ρ s) (fun ρ s=>stx cx F n sc ρ s) (if k then a else b) (frz F c ρ)
        | none => (match uY c with
          | some e=>(evx cx F sc (frz F c ρ) e).map fun x=>(x,frz F c ρ)
          | none=>none))
    | .For _ iter _ [] _=>if aB iter then(evx cx F sc (frz F iter ρ) iter).map fun c=>(c,frz F iter ρ) else none
    | _=>none
end
structure Fd where
 ps:List Str
 N:List Str
 sc:Scope
 body:List Stmt
def cJ(fd:Fd)(ds:List D):Rho:=(fd.ps.zip (ds.map Sl.sh))++(fd.N.drop fd.ps.length).map fun x=>(x,.no)
structure Pg where
 cst:List (Str×D)
 blt:List (Str×String)
 defs:List (Str×Fd)
 exs:List Str:=[]
 top:Str:="MinorError"
inductive Rs where
 | val (d:D) | exc (c:Str)
def Rs.val?:Option Rs->Option D
 | some (.val d)=>some d
 | _=>none
def Rs.exc?:Option Rs->Option Str
 | some (.exc c)=>some c
 | _=>none
def Pg.cx(P:Pg)(c:Str->List D->Option Rs):Cxt:=⟨P.cst,P.blt,P.defs.map (·.1),P.exs,P.top,true,fun f ds=>Rs.val? (c f ds),fun f ds=>Rs.exc? (c f ds)⟩
def ou(cx:Cxt)(F:Nat)(sc:Scope)(body:List Stmt)(ρ:Rho):Option Rs:=match iQ (fun ρ s=>st cx F F sc ρ s) body ρ with
  | some (.ret d)=>some (.val d)
  | some (.nxt _)=>some (.val .non)
  | none => (match gw (fun ρ s => st cx F F sc ρ s) (fun ρ s => stx cx F F sc ρ s) body ρ with
    | some (c,_)=>some (.exc c)
    | none=>none)
@[irreducible] def fj (P:Pg) (F:Nat):Nat->Str->List D->Option Rs
  | 0,_,_=>none
  | k + 1, f, ds => match P.defs.lookup f with
    | none=>none
    | some fd=>if ds.length==fd.ps.length then ou (P.cx (fj P F k)) F fd.sc fd.body (cJ fd ds) else none
theorem pR{P:Pg}{F:Nat}{f:Str}{ds:List D}:fj P F 0 f ds=none:=by with_unfolding_all rfl
theorem jQ{P:Pg}{F k:Nat}{f:Str}{ds:List D}:fj P F (k+1) f ds=(match P.defs.lookup f with
    | none=>none
    | some fd=>if ds.length==fd.ps.length then ou (P.cx (fj P F k)) F fd.sc fd.body (cJ fd ds) else none):=by with_unfolding_all rfl
@[irreducible] def aJ (P:Pg) (F k:Nat) (f:Str) (ds:List D):Option D:=Rs.val? (fj P F k f ds)
theorem gR{P:Pg}{F k:Nat}{f:Str}{ds:List D}:aJ P F k f ds=Rs.val? (fj P F k f ds):=by with_unfolding_all rfl
@[irreducible] def iV (P:Pg) (F k:Nat) (f:Str) (ds:List D):Option Str:=Rs.exc? (fj P F k f ds)
theorem rG{P:Pg}{F k:Nat}{f:Str}{ds:List D}:iV P F k f ds=Rs.exc? (fj P F k f ds):=by with_unfolding_all rfl
end DE
namespace L2
open PySem PySem.Spec PyProof.Rows PySem.SeqAt
section
variable {prog:Program} {w:World} {A:Around} {I:Addr} {fp wr:List Addr} {n:Nat} {P:Nat->Value->Prop} {St:Nat->Heap->Prop}
end
end L2
namespace L2
open PySem PySem.Spec PyProof.Rows
end L2
namespace L2
open PySem PySem.Spec PyProof.Rows
section
variable (P:Program) (w:World)
end
section
variable {P:Program} {w:World} {H H':Hp} {h h':Heap} {a:Addr} {o:HO}
end
section
variable {P:Program} {w:World} {H:Hp} {h h':Heap} {x e:Addr} {o':HO}
end
section
variable {fs fs' ex ex':List Addr} {H H1 H2:Hp} {h h1 h2 h':Heap} {a x e:Addr} {o:HO}
end
end L2
namespace L2
open PySem PySem.Spec PyProof.Rows
section
variable {X:Cx} {pins:List (Addr×Obj)} {σ:List (Option V)} {H H':Hp} {s:Shared} {h':Heap}
end
end L2
namespace L2
open PySem PySem.Spec PyProof.Rows
section
variable {X:Cx}
variable {a b:Expr} {ta tb:TE} {pos:Pos}
variable {tA tB':TT} {rest:List Expr}
end
end L2
namespace L2
open PySem PySem.Spec PyProof.Rows
section
variable {X:Cx} {pins:List (Addr×Obj)} {σ:St} {H:Hp} {s:Shared} {a:Addr} {xs ys:List V}
end
section
variable {X:Cx} {pins:List (Addr×Obj)} {σ:St} {H:Hp} {s:Shared} {E:Value->Shared->Prop}
end
section
variable {X:Cx} {st:Stmt} {rest:List Stmt} {t u:TS} {e:Expr} {te:TE} {pos:Pos}
end
section
variable {X:Cx} {pos:Pos}
end
section
variable {X:Cx} {pos:Pos}
end
end L2
namespace L2
open PySem PySem.Spec PyProof.Rows
section
variable {X:Cx} {tg:Expr}
end
end L2
namespace L2
open PySem PySem.Spec PyProof.Rows
section
variable {X:Cx} {a b c:Expr} {ta tb tc:TE} {pos:Pos}
end
section
variable {X:Cx} {a b c:Expr} {ta tb tc:TE} {pos:Pos}
end
end L2
namespace L2
open PySem PySem.Spec PyProof.Rows
section
variable {prog:Program} {w:World} {A:Around} {E:Value->Shared->Prop} {s:Shared} {K:PySem.W.Frag} {x dx C f:Addr} {mA:Str->Option Value} {name:Str} {v:Value}
end
section
variable {P:Program} {w:World} {H H':Hp} {h h':Heap} {a C dx:Addr} {fs fs':List (Str×V)}
end
section
variable {X:Cx} {pins:List (Addr×Obj)} {σ:St} {H:Hp} {s:Shared} {a C dx:Addr} {fs:List (Str×V)} {f:Str} {v:V} {A:Around} {E:Value->Shared->Prop}
end
section
variable {X:Cx} {o e value:Expr} {f:Str} {pos pos' tpos:Pos} {ta tv:TE}
end
section
variable {X:Cx} {pins:List (Addr×Obj)} {σ:St} {H:Hp} {s:Shared} {A:Around} {E:Value->Shared->Prop} {Q:Value->Shared->Prop} {c:Value} {b:Bool}
end
end L2
namespace L2
open PySem PySem.Spec PyProof.Rows
section
variable {X:Cx} {e:Expr} {es:List Expr} {te:TE} {t:TA} {pos:Pos}
end
section
variable {X:Cx} {pins:List (Addr×Obj)} {σ:St} {H:Hp} {s s':Shared}
end
section
variable {X:Cx} {CX:CXT} {k:Nat} {f C:Addr} {fd:FuncData} {ps:List Str} {sp:Sp} {dvs:List V} {ds:List Value} {E:XK} {x m:Str} {p pos apos:Pos} {e o:Expr} {es:List Expr} {ta:TE} {t:TA}
end
section
variable {X:Cx} {CX:CXT} {k:Nat} {f C:Addr} {fd:FuncData} {ps ks:List Str} {sp:Sp} {E:XK} {x m:Str} {p pos apos kpos:Pos} {e o:Expr} {es:List Expr} {kws:List Keyword} {te ta:TE} {t tk:TA} {nm:Option Str}
variable {g:List Value->List Value->List Value} {gV:List V->List V->List V}
end
end L2
namespace L2
open PySem PySem.Spec PyProof.Rows
section
variable {X:Cx} {x:Str} {p pos:Pos} {e:Expr} {es:List Expr} {t:TA} {id T:String} {r:List V->Hp->VK->Prop}
end
end L2
namespace L2
open PySem PySem.Spec PyProof.Rows
section
variable {κ:Type} [DecidableEq κ]
def wU(kvs:List (κ×V))(k:κ):Option V:=(kvs.find? fun kv=>decide (kv.1=k)).map (·.2)
def putK(kvs:List (κ×V))(k:κ)(v:V):List (κ×V) :=
 if(kvs.any fun kv=>decide (kv.1=k))=true then kvs.map (fun kv=>if kv.1=k then(kv.1,v) else kv) else kvs++[(k,v)]
theorem xu{p:κ×V}{r:List (κ×V)}{k:κ}(e:p.1=k):wU (p::r) k=some p.2:=by simp[wU,List.find?_cons,e]
theorem xG{p:κ×V}{r:List (κ×V)}{k:κ}(e:¬ p.1=k):wU (p::r) k=wU r k:=by simp[wU,List.find?_cons,e]
theorem pJ(kvs:List (κ×V))(k:κ)(v:V):(putK kvs k v).length<=kvs.length+1:=by
 unfold putK
 split
 ·rw[List.length_map];omega
 ·rw[List.length_append,List.length_cons,List.length_nil];omega
theorem KV.val{kvs:List (κ×V)}{vs:List (κ×Value)}(r:KV kvs vs)(k:κ):Gn (wU kvs k) (valueAt vs k):=by
  unfold KV at r
  induction r with
  | nil=>exact True.intro
  | @cons p q ps qs h t ih =>
    obtain⟨h1,h2⟩:=h
    by_cases e:p.1=k
    · have e':q.1=k:=h1.symm.trans e
      have b:valueAt (q::qs) k=some q.2:=by simp[valueAt,List.find?_cons,e']
      rw[xu e,b];exact h2
    · have e':¬ q.1=k:=fun z=>e (h1.trans z)
      have b:valueAt (q::qs) k=valueAt qs k:=by simp[valueAt,List.find?_cons,e']
      rw[xG e,b];exact ih
theorem KV.any{kvs:List (κ×V)}{vs:List (κ×Value)}(r:KV kvs vs)(k:κ):(kvs.any fun kv=>decide (kv.1=k))=vs.any fun kv=>decide (kv.1=k):=by
 unfold KV at r
 induction r with
 | nil=>rfl
 | cons h t ih=>rw[List.any_cons,List.any_cons,ih,h.1]
theorem KV.repl{kvs:List (κ×V)}{vs:List (κ×Value)}(r:KV kvs vs)(k:κ){y:V}{u:Value}(ry:RelV y u) :
    KV (kvs.map fun kv=>if kv.1=k then(kv.1,y) else kv) (vs.map fun kv=>if kv.1=k then(kv.1,u) else kv):=by
  unfold KV at r ⊢
  induction r with
  | nil=>exact .nil
  | @cons p q ps qs h t ih =>
    rw[List.map_cons,List.map_cons]
    refine .cons ?_ ih
    obtain⟨h1,h2⟩:=h
    by_cases e:p.1=k
    · rw[if_pos e,if_pos (h1.symm.trans e)];exact⟨h1,ry⟩
    · rw[if_neg e,if_neg (fun z=>e (h1.trans z))];exact⟨h1,h2⟩
theorem KV.put{kvs:List (κ×V)}{vs:List (κ×Value)}(r:KV kvs vs)(k:κ){y:V}{u:Value}(ry:RelV y u):KV (putK kvs k y) (stored vs k u):=by
 unfold putK stored
 rw[r.any k]
 by_cases e:(vs.any fun kv=>decide (kv.1=k))=true
 ·rw[if_pos e,if_pos e];exact r.repl k ry
 ·rw[if_neg e,if_neg e];exact Paired.snoc r ⟨rfl,ry⟩
end
theorem Ji{P:Program}{w:World}{k:Key}{u:Value}(r:RelV (kV k) u):(cB P w).is k u=true:=by
 cases k with
 | inl i=>obtain⟨t,e⟩:=(show ∃ t,u=Value.int i t from r);subst e;exact pH P w i t
 | inr x=>obtain⟨t,e⟩:=(show ∃ t,u=Value.str x t from r);subst e;exact pG P w x t
section
variable {P:Program} {w:World} {H:Hp} {h:Heap} {a:Addr}
theorem Lh{u:HO}(ok:HOk P w H h)(e:Rd H a u):dF P w H h a u:=e.ok ok
theorem JQ{kvs:List (Key×V)}(ok:HOk P w H h)(e:Rd H a (.dK kvs)):kvs.length<=sizeLine/\(a==sysModules)=false/\∃ vs,KV kvs vs/\h.DictOf (cB P w) a vs :=
 show dF P w H h a (.dK kvs) from Lh ok e
theorem RN{kvs:List (Key×V)}(ok:HOk P w H h)(e:H a=some (.dK kvs)):kvs.length<=sizeLine/\(a==sysModules)=false/\∃ vs,KV kvs vs/\h.DictOf (cB P w) a vs:=JQ ok (.inl e)
end
section
variable {X:Cx} {pins:List (Addr×Obj)} {σ:St} {H:Hp} {s:Shared} {a:Addr} {y v:V} {u r:Value} {o:Option V} {A:Around} {E:Value->Shared->Prop}
theorem Inv.big(I:Inv X pins σ H s):sysModules<s.heap.objs.size:=by
 have h:mainGlobals<s.heap.objs.size:=(I.mod.glob.keeps I.bk).lt
 exact Nat.lt_trans (by decide) h
theorem FQ{h':Heap}{t':Nat}{ob:HO}(I:Inv X pins σ H s)(mu:Mut (H a))(hs:Heap.SameBut a s.heap h')(he:∃ q,h'.get? a=some q)(new:dF X.prog X.w (upd H a ob) h' a ob) :
  Inv X pins σ (upd H a ob) { s with heap:=h',toks:=t' } :=
 I.write (x:=a) (e:=a) mu (.inl rfl) (fun b q hb z=>(hs.2 b hb).trans z) he new
theorem JR{P:Program}{w:World}{H':Hp}{h':Heap}{kvs:List (Key×V)}{vs:List (Key×Value)}(z:kvs.length<=sizeLine)(hd:(a==sysModules)=false)(rel:KV kvs vs)(dd:h'.DictOf (cB P w) a vs) :
  dF P w H' h' a (.dK kvs):=⟨z,hd,vs,rel,dd⟩
end
section
variable {X:Cx} {pins:List (Addr×Obj)} {σ:St} {H:Hp} {s:Shared} {a:Addr} {kvs:List (Key×V)} {k:Key} {u:Value} {A:Around} {E:Value->Shared->Prop}
end
def VD(i:Expr):Prop:=∀ ov iv,subscripted i false ov iv=operate [ov,iv] (getItem ov iv)
theorem Cd{prog:Program}{w:World}{A:Around}{E:Value->Shared->Prop}{s:Shared}{env:Env}{value slice:Expr}{pos:Pos}{T id:String}{Q:Value->Shared->Prop}
  (hl:typeLookup (.type T) "__getitem__"=pure (some (.builtin id))) (hs:VD slice)
  (h:wpAny (model prog w) A (eval value env) (fun o s₁=>wpAny (model prog w) A (eval slice env) (fun i s₂=>s₂.TypeIs o T/\wpAny (model prog w) A (getItem o i) Q E s₂) E s₁) E s) :
  wpAny (model prog w) A (eval (.Subscript value slice pos) env) Q E s:=by
 refine Subscript_ (wpAny_mono h (fun o s₁ h₁=>wpAny_mono h₁ (fun i s₂ h₂=>?_) fun _ _ x=>x) fun _ _ x=>x)
 obtain⟨hT,h₂⟩:=h₂
 unfold subscriptTail
 refine wpAny_bind ?_
 rw[getitemInPython_of_ne hT.not_modules]
 refine wpAny_bind (wpAny_specialOf hT hl ?_)
 have fin:wpAny (model prog w) A (subscripted slice false o i) (fun r s₃=>wpAny (model prog w) A (letTemporaryGo value o r >>=fun _=>pure r) Q E s₃) E s₂:=by
  rw[hs o i]
  exact wpAny_operating (wpAny_mono h₂ (fun r s₃ h₃=>wpAny_bind (wpAny_letTemporaryGo (wpAny_pure h₃))) fun _ _ x=>x)
 first
  | exact wpAny_pure (wpAny_bind fin)
  | exact wpAny_bind (wpAny_pure (wpAny_bind fin))
  | exact wpAny_bind fin
section
variable {X:Cx} {o i e value:Expr} {pos pos' tpos:Pos} {td ty tv:TE}
end
theorem zA{P:Program}{w:World}{H:Hp}(h:Heap)(hb:sysModules<h.objs.size):dF P w H (h.push { cls:=.type "dict",data:=.dict #[] }) h.objs.size (.dK []) :=
 ⟨Nat.zero_le _,beq_eq_false_iff_ne.mpr (Ne.symm (Nat.ne_of_lt hb)),[],.nil,Heap.DictOf.new h⟩
section
variable {X:Cx} {pos:Pos}
end
def qt:List (TE×TE)->St->Hp->(List (V×V)->Hp->Prop)->Prop
 | [],_,H,Q=>Q [] H
 | (tk,tv)::r,σ,H,Q=>tk σ H fun x H1=>tv σ H1 fun y H2=>qt r σ H2 fun ps H3=>Q ((x,y)::ps) H3
abbrev VV:List (V×V)->List (Value×Value)->Prop:=Paired fun p q=>RelV p.1 q.1/\RelV p.2 q.2
def PPs(X:Cx)(pos:Pos)(keys:List (Option Expr))(values:List Expr)(trs:List (TE×TE)):Prop :=
  ∀ (pins : List (Addr × Obj)) (s : Shared) (σ : St) (H : Hp) (Q : List (V × V) -> Hp -> Prop), Inv X pins σ H s -> qt trs σ H Q ->
    wpAny (model X.prog X.w) X.A (evalPairs (pairTrees keys values X.env pos)) (fun vs s'=>∃ ps H',Inv X pins σ H' s'/\VV ps vs/\Q ps H') X.xe s
theorem CV{X:Cx}{pos:Pos}:PPs X pos [] [] []:=fun pins s σ H Q I h=>pairTrees_nil_walk ⟨[],H,I,.nil,h⟩
theorem xZ{X:Cx}{pos:Pos}{k v:Expr}{ks:List (Option Expr)}{vs:List Expr}{tk tv:TE}{trs:List (TE×TE)}(hk:PE X k tk)(hv:PE X v tv)(hr:PPs X pos ks vs trs) :
    PPs X pos (some k::ks) (v::vs) ((tk,tv)::trs):=fun pins s σ H Q I h =>
  pairTrees_cons_walk (thn (hk pins s σ H _ I h) fun u s1 ⟨x,H1,I1,rx,q1⟩=>thn (hv pins s1 σ H1 _ I1 q1) fun w2 s2 ⟨y,H2,I2,ry,q2⟩ =>
    thn (hr pins s2 σ H2 _ I2 q2) fun ws s3 ⟨ps,H3,I3,rel,q3⟩=>⟨(x,y)::ps,H3,I3,.cons ⟨rx,ry⟩ rel,q3⟩)
def gG(kvs more:List (Key×V)):List (Key×V):=more.foldl (fun acc kv=>putK acc kv.1 kv.2) kvs
theorem KV.merge:∀ {more:List (Key×V)} {rs:List (Key×Value)} {kvs:List (Key×V)} {vs:List (Key×Value)},KV more rs->KV kvs vs->KV (gG kvs more) (merged vs rs):=by
  intro more rs kvs vs r
  unfold KV at r
  induction r generalizing kvs vs with
  | nil=>intro q;exact q
  | @cons p q ps qs h t ih =>
    intro r0
    have e:KV (putK kvs p.1 p.2) (stored vs q.1 q.2):=by
      have:=r0.put p.1 h.2
      rw[<- h.1];exact this
    exact ih e
theorem gK:∀ (more kvs:List (Key×V)),(gG kvs more).length<=kvs.length+more.length
  | [],kvs=>by show kvs.length<=kvs.length+0;omega
  | p :: r, kvs => by
    have h1:=gK r (putK kvs p.1 p.2)
    have h2:=pJ kvs p.1 p.2
    show(gG (putK kvs p.1 p.2) r).length<=_
    rw[List.length_cons];omega
theorem lq{P:Program}{w:World}:∀ {kvs:List (Key×V)} {ws:List (Value×Value)},VV (kvs.map fun kv=>(kV kv.1,kv.2)) ws->∃ rs,Carries (cB P w) ws rs/\KV kvs rs
  | [],_,r=>by rw[List.map_nil] at r;cases r;exact⟨[],True.intro,.nil⟩
  | p :: kvs, _, r => by
    rw[List.map_cons] at r
    cases r with
    | @cons a b as bs h t =>
      obtain⟨rs,c,q⟩:=lq (P:=P) (w:=w) t
      obtain⟨b1,b2⟩:=b
      exact⟨(p.1,b2)::rs,⟨Ji h.1,rfl,c⟩,.cons ⟨rfl,h.2⟩ q⟩
def KZ(trs:List (TE×TE)):TE:=fun σ H Q=>∀ p,H p=none->qt trs σ (upd H p (.dK [])) fun ps H2=>H2 p=some (.dK [])/\∃ kvs:List (Key×V),ps=kvs.map (fun kv=>(kV kv.1,kv.2))/\kvs.length<=15/\Q (.ref p) (upd H2 p (.dK (gG [] kvs)))
theorem Dj{X:Cx}{pos:Pos}{keys:List (Option Expr)}{values:List Expr}{trs:List (TE×TE)}(h:PPs X pos keys values trs)(hall:keys.all (·.isSome)=true)(hl:keys.length=values.length)(h0:keys≠[])
  (h15:keys.length<=15):PE X (.Dict keys values pos) (KZ trs):=by
 intro pins s σ H Q I q
 have hn:=I.hok.fresh (Nat.le_refl s.heap.objs.size)
 have I1:=I.laid (a:=s.heap.objs.size) (o:=.dK []) (h':=s.heap.push { cls:=.type "dict",data:=.dict #[] }) (t':=s.toks) (fun _ _ q=>Heap.get?_push_of_some _ q) (Nat.le_refl _) (zA s.heap I.big)
 refine wpAny_Dict_walk (knd:=cB X.prog X.w) hall hl h0 h15 (thn (h pins _ σ _ _ I1 (q _ hn)) fun ws s2 ⟨ps,H2,I2,rel,e,kvs,ep,lk,q2⟩=>?_)
 subst ep
 obtain⟨rs,c,rk⟩:=lq (P:=X.prog) (w:=X.w) rel
 obtain⟨z,hd,vs0,r0,dd⟩:=RN I2.hok e
 cases r0
 refine⟨rs,c,dd,fun h' dd' hs=>⟨.ref s.heap.objs.size,_,?_,rfl,q2⟩⟩
 have hz:(gG [] kvs).length<=sizeLine:=by
  have h1:=gK kvs []
  rw[List.length_nil] at h1
  rw[sizeLine_eq];omega
 have he:∃ q,h'.get? s.heap.objs.size=some q:=let ⟨q,_,_,hq,_⟩:=dd';⟨q,hq⟩
 exact FQ I2 (by rw[e];exact True.intro) hs he (JR hz hd (rk.merge .nil) dd')
section
variable {X:Cx} {pins:List (Addr×Obj)} {σ:St} {H:Hp} {s:Shared} {a:Addr} {y d:V} {u r:Value} {o:Option V} {A:Around} {E:Value->Shared->Prop}
end
section
variable {X:Cx} {o e f:Expr} {apos cpos:Pos} {td ty tx:TE}
end
section
variable {X:Cx} {pins:List (Addr×Obj)} {σ:St} {H:Hp} {s:Shared} {a:Addr} {kvs:List (Key×V)} {A:Around} {E:Value->Shared->Prop}
end
section
variable {X:Cx} {pins:List (Addr×Obj)} {σ:St} {H:Hp} {s:Shared} {a:Addr} {y:V} {u:Value} {A:Around} {E:Value->Shared->Prop}
end
end L2
namespace Att
open PySem PySem.W PySem.Calls PyProof.Rows
section
variable {prog:Program} {w:World} {A:Around} {E:Value->Shared->Prop} {s:Shared} {K:Frag}
end
end Att
namespace L2
open PySem PySem.Spec PyProof.Rows
end L2
namespace L2
open PySem PySem.Spec PyProof.Rows
end L2
namespace L2
open PySem PySem.Spec PyProof.Rows
section
variable {P:Program} {w:World} {K:PySem.W.Frag} {mg:Str->Option Value} {base:Heap}
end
section
variable {X:Cx}
end
section
variable {κ:Type} [DecidableEq κ]
end
end L2
namespace L2
open PySem PySem.Spec PyProof.Rows
def KDc(K:PySem.W.Frag)(a:Addr)(kvs:List (Key×V)):Prop:=∃ (o:Obj) (es:Array DictEntry) (n:Nat),K.lookup a=some o/\o.ExactDict/\o.data=.dict es n/\(a==sysModules)=false/\(kvs.map (·.1)).Nodup/\Paired (fun(p:Key×V) (e:DictEntry)=>(∃ x t,p.1=.inr x/\e.key=.str x t)/\RelV p.2 e.val) kvs es.toList
def hsO(o:Obj):List Int:=match o.data with | .dict es _=>es.toList.map (·.hash) | _=>[]
def hsX(w:World)(o:Obj):List Int:=match o.data with | .dict es _=>es.toList.map (fun e=>match e.key with | .str x _=>hashStr w x | _=>e.hash) | _=>[]
def KnW(K:PySem.W.Frag)(w:World):Prop:=K.map (fun p=>hsO p.2)=K.map (fun p=>hsX w p.2)
theorem lookup_mem{α:Type}:∀ {l:List (Addr×α)} {a:Addr} {o:α},l.lookup a=some o->(a,o)∈l
  | (b, u) :: r, a, o, h => by
    rw[List.lookup_cons] at h
    cases hb:a==b with
    | true =>
      rw[hb] at h
      have e1:a=b:=by simpa using hb
      cases h
      subst e1
      exact List.mem_cons_self
    | false =>
      rw[hb] at h
      exact List.mem_cons_of_mem _ (lookup_mem h)
theorem KnW.at{K:PySem.W.Frag}{w:World}{a:Addr}{o:Obj}{es:Array DictEntry}{n:Nat}(kw:KnW K w)(h:K.lookup a=some o)(hd:o.data=.dict es n):∀ e∈es.toList,∀ x t,e.key=.str x t->e.hash=hashStr w x:=by
 have:=List.map_inj_left.mp kw (a,o) (lookup_mem h)
 simp only[hsO,hsX,hd] at this
 intro e he x t hk
 have q:=List.map_inj_left.mp this e he
 rw[hk] at q
 exact q
theorem vC{P:Program}{w:World}{kvs:List (Key×V)}{es:List DictEntry}(p:Paired (fun(p:Key×V) (e:DictEntry)=>(∃ x t,p.1=.inr x/\e.key=.str x t)/\RelV p.2 e.val) kvs es)(hh:∀ e∈es,∀ x t,e.key=.str x t->e.hash=hashStr w x) :
    ∃ vs:List (Key×Value),KV kvs vs/\Pairs (cB P w) es vs/\vs.map (·.1)=kvs.map (·.1)/\∀ e∈es,∃ k,(cB P w).is k e.key=true/\e.hash=(cB P w).hash k:=by
  induction p with
  | nil=>exact⟨[],.nil,.nil,rfl,fun e he=>nomatch he⟩
  | @cons q e kvs es h t ih =>
    obtain⟨vs,h1,h2,h3,h4⟩:=ih fun e he=>hh e (List.mem_cons_of_mem _ he)
    obtain⟨⟨x,tk,g1,g2⟩,g3⟩:=h
    have gi:(cB P w).is q.1 e.key=true:=by
      rw[g1,g2]
      show Value.isStrOf x (.str x tk)=true
      simp[Value.isStrOf]
    refine⟨(q.1,e.val)::vs,.cons ⟨rfl,g3⟩ h1,.cons gi rfl h2,by simp[h3],fun e' he=>?_⟩
    rcases List.mem_cons.mp he with r | r
    · subst r
      refine⟨q.1,gi,?_⟩
      rw[hh _ List.mem_cons_self x tk g2,g1]
      rfl
    · exact h4 e' r
def DAt(K:PySem.W.Frag)(H:Hp)(a:Addr)(kvs:List (Key×V)):Prop:=Rd H a (.dK kvs)\/KDc K a kvs
section
variable {X:Cx} {pins:List (Addr×Obj)} {σ:St} {H:Hp} {s:Shared} {a:Addr} {kvs:List (Key×V)} {k:Key} {v d:V} {u r:Value} {A:Around} {E:Value->Shared->Prop} {o i e f:Expr} {td ty tx:TE} {pos apos cpos:Pos}
theorem zB(I:Inv X pins σ H s)(kw:KnW X.K X.w)(g:DAt X.K H a kvs):(a==sysModules)=false/\∃ vs,KV kvs vs/\s.heap.DictOf (cB X.prog X.w) a vs:=by
 rcases g with g | ⟨o,es,n,h1,h2,h3,h4,h5,h6⟩
 ·exact(JQ I.hok g).2
 ·obtain⟨vs,g1,g2,g3,g4⟩:=vC (P:=X.prog) h6 (kw.at h1 h3)
  exact⟨h4,vs,g1,o,es,n,I.kIn a o h1,h2,h3,fun e he=>g4 e (by simpa using he),g2,by rw[g3];exact h5⟩
theorem vD{Q:Value->Shared->Prop}(I:Inv X pins σ H s)(kw:KnW X.K X.w)(g:DAt X.K H a kvs)(l:some v=wU kvs k)(ry:RelV (kV k) u)(h:∀ w' s',Inv X pins σ H s'->RelV v w'->Q w' s') :
  s.TypeIs (.ref a) "dict"/\wpAny (model X.prog X.w) A (getItem (.ref a) u) Q E s:=by
 obtain⟨hd,vs,rel,dd⟩:=zB I kw g
 obtain⟨w',hw,rw'⟩:=Gn.some_of (v:=v) (o:=valueAt vs k) (by rw[l];exact rel.val k)
 exact⟨dd.typeIs,wpAny_getItem_of (Ji ry) dd.mapOf hw (h w' _ (I.tok _) rw')⟩
def KR(K:PySem.W.Frag)(td ty:TE):TE:=fun σ H Q=>td σ H fun x H1=>ty σ H1 fun y H2=>∃ a v kvs k,x=.ref a/\DAt K H2 a kvs/\y=kV k/\some v=wU kvs k/\Q v H2
theorem Di(kw:KnW X.K X.w)(ho:PE X o td)(hi:PE X i ty)(hs:VD i):PE X (.Subscript o i pos) (KR X.K td ty):=by
 intro pins s σ H Q I h
 refine Cd PySem.F.slot_dict_getitem.lookup hs (thn (ho pins s σ H _ I h) fun u s1 ⟨x,H1,I1,rx,q1⟩=>thn (hi pins s1 σ H1 _ I1 q1) fun iv s2 ⟨y,H2,I2,ry,a,v,kvs,k,ex,g,ey,l,q2⟩=>?_)
 subst ex
 subst ey
 obtain rfl:u=Value.ref a:=rx
 exact vD I2 kw g l ry fun w' s3 I3 rw'=>⟨v,H2,I3,rw',q2⟩
end
end L2
namespace L2
open PySem PySem.Spec PyProof.Rows
section
variable {P:Program} {w:World} {H H':Hp} {h h':Heap} {a:Addr} {o:HO}
theorem dF.there(x:dF P w H h a o):∃ ob,h.get? a=some ob:=by
 cases o with
 | lst xs=>obtain⟨_,_,_,_,e⟩:=x;exact⟨_,e⟩
 | tup xs=>obtain⟨_,_,_,ob,e,_⟩:=x;exact⟨_,e⟩
 | dK kvs=>obtain⟨_,_,_,_,o,_,_,e,_⟩:=x;exact⟨_,e⟩
 | dT kvs=>obtain⟨_,_,_,_,o,_,_,e,_⟩:=x;exact⟨_,e⟩
 | set S n=>obtain⟨o,_,_,_,e,_⟩:=x;exact⟨_,e⟩
 | ins C dx fs=>obtain⟨_,_,_,e,_⟩:=x;exact⟨_,e⟩
 | own y=>exact x
 | xd fs=>obtain⟨_,⟨_,_,_,e,_⟩,_⟩:=x;exact⟨_,e⟩
 | rng lo hi=>obtain⟨_,_,_,e⟩:=x;exact⟨_,e⟩
 | frz ob u=>obtain⟨e,_⟩:=x;exact⟨_,e⟩
 | tbl ps=>exact⟨_,(show h.get? a=some _ from x)⟩
 | met f y=>exact⟨_,(show h.get? a=some _ from x)⟩
 | ext φ=>exact x.2.1
theorem HOk.none_of(x:HOk P w H h)(e:h.get? a=none):H a=none:=by
  cases q:H a with
  | none=>rfl
  | some u =>
    obtain⟨ob,r⟩:=(x a u q).there
    rw[e] at r;cases r
theorem HOk.part{B:Heap}(x:HOk P w H h)(k:∀ b u ob,H b=some u->h.get? b=some ob->B.get? b=some ob):HOk P w H B:=fun b u e=>by
 refine(x b u e).stay (fun c v hc q=>?_) (fun _ q=>q) fun _ _ q=>q
 rcases hc with rfl | hc
 ·exact k _ _ _ e q
 ·exact k _ _ _ hc q
end
section
variable {fs fs' ex:List Addr} {H H':Hp} {h h1 h2 B:Heap}
theorem Un.fly(U:Un fs [] H H' h h1)(kB:∀ b o,h.get? b=some o->H b=none->b∉fs->B.get? b=some o)(tB:∀ b o,h.get? b=some o->b∉fs->∃ o',B.get? b=some o')(st:B.StaysIn h2)
  (nf:∀ b∈fs,∀ o,h1.get? b=some o->∀ vs,o.data≠.fields vs) (up:h1.UpToSlots h2):Un fs [] H H' h h2 where
 keep:=fun b o q n hb _=>st b o (kB b o q n hb)
 slot:=fun b o q n hb hx=>by
  obtain⟨sl,e⟩:=U.slot b o q n hb hx
  obtain⟨sl',e'⟩:=up b _ e (nf b hb _ e)
  exact⟨sl',e'⟩
 free:=U.free
 there:=fun b o q hx=>by
  by_cases hb:b∈fs
  ·obtain⟨o',e⟩:=U.there b o q hx
   obtain⟨sl,e'⟩:=up b _ e (nf b hb _ e)
   exact⟨_,e'⟩
  ·obtain⟨o',e⟩:=tB b o q hb
   exact⟨o',st b o' e⟩
 tups:=U.tups
 frzs:=U.frzs
 tbls:=U.tbls
theorem Un.restrict(U:Un fs' ex H H' h h1)(hs:∀ b o,b∈fs'->h.get? b=some o->b∈fs):Un fs ex H H' h h1 where
 keep:=fun b o q n hb hx=>U.keep b o q n (fun z=>hb (hs b o z q)) hx
 slot:=fun b o q n _ hx=>U.any q n hx
 free:=U.free
 there:=U.there
 tups:=U.tups
 frzs:=U.frzs
 tbls:=U.tbls
end
structure Fly (P:Program) (w:World) (outer:List Env) (H:Hp) (s:Shared) (H':Hp) (ea:Addr) (cls:Value) (s':Shared):Prop where
 os:s'.os=s.os
 bare:AllBare s'.gens
 un:Un (frs outer) [] H H' s.heap s'.heap
 fly:∃ B a0,Heap.FlyingW B outer ea cls a0 s'.heap/\HOk P w H' B/\(∀ b o,s.heap.get? b=some o->H b=none->b∉frs outer->B.get? b=some o)/\(∀ b o,s.heap.get? b=some o->b∉frs outer->∃ o',B.get? b=some o')
 fresh:s.heap.get? ea=none
def CX1(P:Program)(w:World):CXT:=fun outer H s E e s'=>∃ ea cls H',e=.ref ea/\Fly P w outer H s H' ea cls s'/\H' ea=none/\E cls none H'
theorem LR{P:Program}{w:World}{X:Cx}:Passes (CX1 P w) X E0:=fun _ _ _ _ _ _ _ h=>by obtain⟨_,_,_,_,_,_,z⟩:=h;exact z.elim
theorem yC{B h:Heap}{l:List Env}(f:h.FunFrames B l):∀ b∈frs l,∀ o,h.get? b=some o->∀ vs,o.data≠.fields vs:=fun b hb o e=>by
 obtain⟨_,o',e',hd⟩:=f.mem hb
 rw[e] at e';cases e'
 exact hd
section
variable {P:Program} {w:World} {K:PySem.W.Frag} {mg:Str->Option Value} {base:Heap} {N:List Str} {qual:Str} {scope:Scope} {f:Addr} {cd:Value} {A:Around} {outer:List Env} {s:Shared} {H:Hp} {E:XK}
theorem qY{env:Env}{L:Addr}(hf:env.frame=some L):frs (env::outer)=L::frs outer:=by
 unfold frs;rw[List.filterMap_cons,hf]
theorem uT:Passes (CX1 P w) (iC (CX1 P w) P w K mg base N qual scope f cd A outer s H E) E:=by
  intro pins σ H1 s1 e s' I h
  obtain⟨ea,cls,H',rfl,Fl,hn,hE⟩:=h
  obtain⟨B,a0,fl,hokB,kB,tB⟩:=Fl.fly
  have hfr:frs (iC (CX1 P w) P w K mg base N qual scope f cd A outer s H E).stack=s.heap.objs.size::frs outer:=qY rfl
  have nL:∀ b o,s.heap.get? b=some o->b≠s.heap.objs.size:=fun b o q=>Nat.ne_of_lt (Heap.lt_size q)
  have nin:∀ b o,s.heap.get? b=some o->b∉frs outer->b∉frs (iC (CX1 P w) P w K mg base N qual scope f cd A outer s H E).stack:=fun b o q hb z=>by
    rw[hfr] at z
    rcases List.mem_cons.mp z with z | z
    · exact nL b o q z
    · exact hb z
  have noex:∀ b:Addr,b∉(iC (CX1 P w) P w K mg base N qual scope f cd A outer s H E).ex:=fun b z=>absurd (show b∈([]:List Addr) from z) (by simp)
  show wpAny _ _ (leaving _ (.ref ea)) _ _ _
  refine wpAny_leaves_onW I.ok.frames rfl fl fun h2 fl2 up=>?_
  refine⟨ea,cls,H',rfl,⟨Fl.os.trans I.os,Fl.bare,?_,⟨B,a0,fl2,hokB,fun b o q n hb=>?_,fun b o q hb=>?_⟩,?_⟩,hn,hE⟩
  · have U1:=Un.fly Fl.un kB tB fl2.1 (yC fl.2.2.1) up
    have U0:Un (frs (iC (CX1 P w) P w K mg base N qual scope f cd A outer s H E).stack) [] H H1 s.heap s1.heap:=I.base.mono (fun b hb=>by rw[hfr];exact List.mem_cons_of_mem _ hb) (fun b hb=>hb)
    exact(U0.trans U1).restrict fun b o hb q=>by
      rw[hfr] at hb
      rcases List.mem_cons.mp hb with z | z
      · exact absurd z (nL b o q)
      · exact z
  · exact kB b o (I.base.keep b o q n hb (noex b)) (I.base.free b o q n (noex b)) (nin b o q hb)
  · obtain⟨o1,q1⟩:=I.base.there b o q (noex b)
    exact tB b o1 q1 (nin b o q hb)
  · cases q:s.heap.get? ea with
    | none=>rfl
    | some o =>
      obtain⟨o1,q1⟩:=I.base.there ea o q (noex ea)
      rw[Fl.fresh] at q1;cases q1
theorem sy{pins:List (Addr×Obj)}{σ:St}{H1:Hp}{s1:Shared}{C e:Addr}{h':Heap}{args:List Value}(I:Inv (iC (CX1 P w) P w K mg base N qual scope f cd A outer s H E) pins σ H1 s1)(hx:Heap.MadeExcOf s1.heap h' e (.ref C) args)(hE:E (.ref C) none H1) :
    (iC (CX1 P w) P w K mg base N qual scope f cd A outer s H E).xe (.ref e) { s1 with heap:=h' }:=by
  have hfr:frs (iC (CX1 P w) P w K mg base N qual scope f cd A outer s H E).stack=s.heap.objs.size::frs outer:=qY rfl
  have nL:∀ b o,s.heap.get? b=some o->b≠s.heap.objs.size:=fun b o q=>Nat.ne_of_lt (Heap.lt_size q)
  have nin:∀ b o,s.heap.get? b=some o->b∉frs outer->b∉frs (iC (CX1 P w) P w K mg base N qual scope f cd A outer s H E).stack:=fun b o q hb z=>by
    rw[hfr] at z
    rcases List.mem_cons.mp z with z | z
    · exact nL b o q z
    · exact hb z
  have noex:∀ b:Addr,b∉(iC (CX1 P w) P w K mg base N qual scope f cd A outer s H E).ex:=fun b z=>absurd (show b∈([]:List Addr) from z) (by simp)
  have hin:∀ env∈(iC (CX1 P w) P w K mg base N qual scope f cd A outer s H E).stack,∀ b,env.frame=some b->b∈frs (iC (CX1 P w) P w K mg base N qual scope f cd A outer s H E).stack:=fun env he b hb=>List.mem_filterMap.mpr ⟨env,he,hb⟩
  show wpAny _ _ (leaving _ (.ref e)) _ _ _
  have kB:∀ b o,s1.heap.get? b=some o->b∉frs (iC (CX1 P w) P w K mg base N qual scope f cd A outer s H E).stack->(PySem.W.hideAll s1.heap (frs (iC (CX1 P w) P w K mg base N qual scope f cd A outer s H E).stack)).get? b=some o:=fun b o q hb=>PySem.W.hideAll_get _ q hb
  refine wpAny_leaves_madeW I.ok.frames rfl (fun b o q=>PySem.W.of_hideAll _ q) (PySem.W.funFrames_hide I.stack hin) hx fun h2 t x1 x2 x3 x4=>?_
  have up:s1.heap.UpToSlots h2:=(Heap.UpToSlots.of_keeps hx.keeps).trans x4
  have hok:HOk P w H1 (PySem.W.hideAll s1.heap (frs (iC (CX1 P w) P w K mg base N qual scope f cd A outer s H E).stack)):=HOk.part I.hok fun b u ob hu q=>kB b ob q fun z=>by
    rw[I.stkFree b z] at hu;cases hu
  have hn:H1 e=none:=HOk.none_of I.hok hx.new
  refine⟨e,.ref C,H1,rfl,⟨I.os,I.bare,?_,⟨_,_,x1,hok,fun b o q n hb=>?_,fun b o q hb=>?_⟩,?_⟩,hn,hE⟩
  · have U1:Un (frs (iC (CX1 P w) P w K mg base N qual scope f cd A outer s H E).stack) [] H1 H1 s1.heap h2:=Un.fly Un.refl (fun b o q _ hb=>kB b o q hb) (fun b o q hb=>⟨o,kB b o q hb⟩) x1.1 (yC I.stack) up
    have U0:Un (frs (iC (CX1 P w) P w K mg base N qual scope f cd A outer s H E).stack) [] H H1 s.heap s1.heap:=I.base.mono (fun b hb=>by rw[hfr];exact List.mem_cons_of_mem _ hb) (fun b hb=>hb)
    exact(U0.trans U1).restrict fun b o hb q=>by
      rw[hfr] at hb
      rcases List.mem_cons.mp hb with z | z
      · exact absurd z (nL b o q)
      · exact z
  · exact kB b o (I.base.keep b o q n hb (noex b)) (nin b o q hb)
  · obtain⟨o1,q1⟩:=I.base.there b o q (noex b)
    exact⟨o1,kB b o1 q1 (nin b o q hb)⟩
  · cases q:s.heap.get? e with
    | none=>rfl
    | some o =>
      obtain⟨o1,q1⟩:=I.base.there e o q (noex e)
      have:=hx.new
      rw[this] at q1;cases q1
end
def nsOk(K:PySem.W.Frag)(N:Addr):Bool:=match K.lookup N with
 | some ⟨_,_,.dict es _,_⟩=>es.toList.all (fun e=>match e.key with | .str _ _=>true | _=>false)&&(PySem.W.nsIn K N "__init__"==some none)
 | _=>false
def xIn(K:PySem.W.Frag)(C M:Addr):Bool:=match K.lookup C,K.lookup M with
  | some ⟨.type "type", _, .cls cd, sl⟩, some ⟨_, _, .cls cdM, _⟩ =>
    (match sl.toList with | [_,_,_,_,some (.builtin n),_]=>n=="ValueError.__new__" | _=>false)&&cd.mro==[.ref C,.ref M,.type "ValueError",.type "Exception",.type "BaseException",.type "object"] && !cd.hasDel&&nsOk K cd.ns&&nsOk K cdM.ns
  | _,_=>false
theorem uX{K:PySem.W.Frag}{N:Addr}(e:nsOk K N=true):∃ mN:Str->Option Value,mN "__init__"=none/\∀ h:Heap,K.In h->h.Ns N mN:=by
 unfold nsOk at e
 split at e
 ·rename_i c d es n sl ho
  rw[Bool.and_eq_true] at e
  refine⟨nsFind es,?_,fun h X=>⟨_,es,n,X _ _ ho,rfl,fun en hen=>?_,fun _=>rfl⟩⟩
  ·have e2:PySem.W.nsIn K N "__init__"=some none:=by simpa using e.2
   unfold PySem.W.nsIn at e2
   rw[ho] at e2
   simp only at e2
   unfold nsFind findBy
   rw[<- Array.find?_toList]
   split at e2
   ·cases e2
   ·rename_i q
    rw[q];rfl
  ·have:=List.all_eq_true.mp e.1 en (by simpa using hen)
   split at this
   ·rename_i x t hk;exact⟨x,t,hk⟩
   ·cases this
 ·cases e
theorem Gv{K:PySem.W.Frag}{C M:Addr}(e:xIn K C M=true):∃ nm q N bs hdct sn sub ab col dd k0 k1 k2 k3 k5 mN,mN "__init__"=none/\∀ h:Heap,K.In h ->
  h.get? C=some (excClassObj nm q C N bs [.ref M,.type "ValueError",.type "Exception",.type "BaseException",.type "object"] hdct sn sub ab col dd k0 k1 k2 k3 k5 "ValueError.__new__")/\h.Ns N mN /\
   OwnTail h [.type "ValueError",.type "Exception",.type "BaseException",.type "object"] [.ref M,.type "ValueError",.type "Exception",.type "BaseException",.type "object"]:=by
 unfold xIn at e
 split at e
 ·rename_i dd cd sl cM dM cdM slM hC hM
  simp only[Bool.and_eq_true,Bool.not_eq_true'] at e
  obtain⟨⟨⟨⟨e1,e2⟩,e3⟩,e4⟩,e5⟩:=e
  split at e1
  ·rename_i k0 k1 k2 k3 n k5 hs
   have en:n="ValueError.__new__":=by simpa using e1
   subst en
   have hsl:sl = #[k0,k1,k2,k3,some (.builtin "ValueError.__new__"),k5]:=by
    obtain⟨l⟩:=sl
    simp only at hs
    rw[hs]
   have em:cd.mro=[.ref C,.ref M,.type "ValueError",.type "Exception",.type "BaseException",.type "object"]:=by simpa using e2
   obtain⟨nm,bs,mro,ns,qn,hd,sn,sub,ab,col,del⟩:=cd
   simp only at em e3 e4
   subst em e3 hsl
   obtain⟨mN,n2,n1⟩:=uX e4
   obtain⟨mM,m2,m1⟩:=uX e5
   exact⟨_,_,_,_,_,_,_,_,_,_,_,_,_,_,_,mN,n2,fun h X=>⟨X _ _ hC,n1 h X,.own (X _ _ hM) (m1 h X) m2 .base⟩⟩
  ·cases e1
 ·cases e
section
variable {X:Cx}
theorem xW{x:Str}{C M:Addr}{np cpos pos:Pos}{txt:Str}{j:Nat}{p1:Pos}{Q:Flow->Shared->Prop}{pins:List (Addr×Obj)}{σ:St}{H:Hp}{s:Shared}(I:Inv X pins σ H s)(hc:X.A.handled=none)(hg:Gl X x)(hm:X.mg x=some (.ref C))(hd:(x==("__debug__":Str))=false)(hx:xIn X.K C M=true)
  (k:∀ (s2:Shared) (h':Heap) (e:Addr) (args:List Value),Inv X pins σ H s2->Heap.MadeExcOf s2.heap h' e (.ref C) args->X.xe (.ref e) { s2 with heap:=h' }) :
  wpAny (model X.prog X.w) X.A (exec (.Raise (some (.Call (.Name x np) [.Constant (.str txt) j p1] [] cpos)) none pos) X.env) Q X.xe s:=by
 obtain⟨nm,q,N,bs,hdct,sn,sub,ab,col,dd,k0,k1,k2,k3,k5,mN,hni,fx⟩:=Gv hx
 refine wpAny_Raise_call_subU (C:=C) (nm:=nm) (q:=q) (N:=N) (bs:=bs) (bm:=[.ref M,.type "ValueError",.type "Exception",.type "BaseException",.type "object"]) (hdct:=hdct) (sn:=sn) (sub:=sub) (ab:=ab) (col:=col) (dd:=dd) (k0:=k0) (k1:=k1) (k2:=k2) (k3:=k3) (k5:=k5)
  F.excBase_ValueError (by decide) F.excBase_ValueError (mN:=mN) ((fx _ I.kIn).2.2.hasType F.excBase_ValueError.hasBase) hc rfl hni (jy I hg hm ⟨rfl,?_⟩ hd)
 have ha:PA X [.Constant (.str txt) j p1] (G4 (tC (.str txt)) R7):=bf Ac cL
 show wpAny _ _ (evalArgs (.ref C) true (backTo cpos ((false,eval (.Constant (.str txt) j p1) X.env)::starEach [] X.env)) []) _ _ _
 refine Calls.evalArgs_plain (wpAny_mono (ha cpos pins s σ H (fun vs H1=>vs.length<=1/\H1=H) I ⟨Nat.le_refl _,rfl⟩) (fun us s2 hq=>?_) fun _ _ y=>y)
 obtain⟨vs,H1,I1,r,q1,rfl⟩:=hq
 obtain⟨f1,f2,f3⟩:=fx _ I1.kIn
 have h1:(1:Nat)<=sizeLine:=by decide
 have h2:=r.length
 exact⟨rfl,(show us.length<=sizeLine by omega),f1,f2,f3,fun h' e hm'=>k s2 h' e us I1 hm'⟩
end
abbrev Cx.inSuite(X:Cx)(e:Value)(xe:Value->Shared->Prop):Cx:={ X with A:=X.A.mark (some e),calm:=false,xe:=xe }
section
variable {X:Cx} {pins:List (Addr×Obj)} {σ:St} {H H':Hp} {s s':Shared} {e:Value} {xe:Value->Shared->Prop}
theorem Inv.inSuite(I:Inv X pins σ H s)(e:Value)(xe:Value->Shared->Prop):Inv (X.inSuite e xe) pins σ H s :=
 ⟨⟨I.ok.mod,I.ok.kind,I.ok.glob,I.ok.blt,I.ok.above,I.ok.inj,I.ok.has,I.ok.cab,fun z=>(nomatch z),I.ok.frames,I.ok.stk,I.ok.exf,I.ok.bs,I.ok.bsz,I.ok.noex,I.ok.exfs,I.ok.funs,I.ok.frf⟩,I.os,I.bare,I.base,I.loc,I.cell,I.free,I.freeC,I.pin,I.hok,I.len⟩
theorem Inv.outSuite(ok:X.Ok)(I:Inv (X.inSuite e xe) pins σ H s):Inv X pins σ H s:=⟨ok,I.os,I.bare,I.base,I.loc,I.cell,I.free,I.freeC,I.pin,I.hok,I.len⟩
theorem Inv.unbound{i:Nat}{x:Str}{v:Option Value}{m:Str->Option Value}{h':Heap}{t':Nat}(I:Inv X pins σ H s)(hN:X.N.Nodup)(hi:X.N[i]?=some x)(hm:s.heap.Ns X.env.locals m)(hn:h'.Ns X.env.locals (fun y=>if y=x then v else m y))(hs:Heap.SameBut X.env.locals s.heap h') :
  Inv X pins (σ.set i none) H { s with heap:=h',toks:=t' }:=by
 have cne:=I.cne
 have hiσ:i<σ.length:=by rw[I.len];exact(List.getElem?_eq_some_iff.mp hi).1
 obtain⟨m0,hn0,hl⟩:=id I.loc
 have hmm:∀ y,m0 y=m y:=fun y=>by
  obtain⟨o1,es1,ep1,g1,g2,_,g3⟩:=hn0
  obtain⟨o2,es2,ep2,f1,f2,_,f3⟩:=hm
  rw[g1] at f1;cases f1
  rw[g2] at f2;cases f2
  rw[<- g3,<- f3]
 obtain⟨oL,_,_,hoL,_⟩:=id hn0
 have tracked:HOk X.prog X.w H h':=fun b ob e=>by
  refine(I.hok b ob e).stay (fun c w' hc q=>(hs.2 c ?_).trans q) (fun _ q=>q) fun _ _ q=>q
  rintro rfl
  rcases hc with rfl | hc
  ·rw[I.free] at e;cases e
  ·rw[I.free] at hc;cases hc
 refine⟨I.ok,I.os,I.bare,⟨fun b o e n hb hx=>?_,fun b o e n hb hx=>?_,I.base.free,fun b o e hx=>?_,I.base.tups,I.base.frzs,I.base.tbls⟩,⟨_,hn,fun j y v' e1 e2 e3=>?_⟩,fun y c e=>?_,I.free,I.freeC,fun p hp=>?_,tracked,by simpa using I.len⟩
 ·exact(hs.2 b (Nat.ne_of_lt (Nat.lt_of_lt_of_le (Heap.lt_size e) I.ok.above))).trans (I.base.keep b o e n hb hx)
 ·obtain⟨sl,e1⟩:=I.base.slot b o e n hb hx
  exact⟨sl,(hs.2 b (Nat.ne_of_lt (Nat.lt_of_lt_of_le (Heap.lt_size e) I.ok.above))).trans e1⟩
 ·obtain⟨o',e1⟩:=I.base.there b o e hx
  exact⟨o',(hs.2 b (Nat.ne_of_lt (Nat.lt_of_lt_of_le (Heap.lt_size e) I.ok.above))).trans e1⟩
 ·by_cases hj:j=i
  ·subst hj
   rw[List.getElem?_set_self hiσ] at e2
   cases e2
  ·rw[List.getElem?_set_ne (Ne.symm hj)] at e2
   obtain⟨u',r',q⟩:=hl j y v' e1 e2 e3
   refine⟨u',r',?_⟩
   rcases q with⟨k,e⟩ | ⟨k,c,e,z⟩
   ·refine .inl ⟨k,?_⟩
    have:y≠x:=fun e=>hj (lU hN e1 (e▸hi))
    simp only[this,if_false]
    rw[<- hmm];exact e
   ·exact .inr ⟨k,c,e,z.sameBut hs (cne y c e)⟩
 ·obtain⟨w',z⟩:=I.cell y c e
  exact⟨w',z.sameBut hs (cne y c e)⟩
 ·obtain⟨e,n,ne,nf,d⟩:=I.pin p hp
  exact⟨(hs.2 p.1 ne).trans e,n,ne,nf,d⟩
end
def isX(a:Addr)(cls:Value)(h:Heap):Prop:=∃ o,h.get? a=some o/\o.cls=cls/\∃ vs,o.data=.fields vs
theorem Jl{P:Program}{w:World}{H:Hp}{h:Heap}{a:Addr}{cls:Value}(x:isX a cls h):dF P w H h a (.ext (isX a cls)) :=
 ⟨x,let ⟨o,e,_⟩:=x;⟨o,e⟩,fun _ _ ⟨o,e,r⟩ k=>⟨o,k o e,r⟩⟩
section
variable {X:Cx} {pins:List (Addr×Obj)} {σ:St} {H H':Hp} {s s':Shared} {ea:Addr} {cls:Value}
theorem Fly.lands{h2:Heap}{B:Heap}{t':Nat}(I:Inv X pins σ H s)(Fl:Fly X.prog X.w X.stack H s H' ea cls s')(hokB:HOk X.prog X.w H' B)(U:Un (frs X.stack) [] H H' s.heap h2)(st:B.StaysIn h2):Inv X pins σ H' { s' with heap:=h2,toks:=t' } :=
 I.call' (s':={ s' with heap:=h2,toks:=t' }) Fl.os U (hokB.kept st) Fl.bare (fun b z=>absurd z (by simp))
end
def lB(K:PySem.W.Frag)(C:Addr):Bool :=
 PySem.W.findIn K (.ref C) "__getattribute__"==some (some (.builtin "BaseException.__getattribute__"))&&PySem.W.findIn K (.ref C) "__getattr__"==some none&&PySem.W.findIn K (.ref C) "__class__"==some (some (.builtin "object.__class__")) &&
  PySem.W.mroIn K C (.type "object")==some true&&PySem.W.mroIn K C (.type "BaseException")==some true&&(PySem.W.clsIn K C).isSome
section
open PySem.Builtin PySem.Builtin.ObjectAttr PySem.Builtin.Getset_descriptor
variable {prog:Program} {w:World} {A:Around} {E:Value->Shared->Prop} {K:PySem.W.Frag} {h:Heap} {g:Array GenState} {d:Drawn} {t:Nat} {os:OsState} {a C:Addr} {o:Obj}
theorem xty{M:Model}(hx:h.get? a=some o)(hc:o.cls=.ref C):PySem.W.Looks M h (typeOf (.ref a)) (.ref C):=hc▸(PySem.W.Looks.ld hx).andThen .now
theorem rO{R:Result->Shared->Prop}(X:K.In h)(hx:h.get? a=some o)(hc:o.cls=.ref C)(hm:PySem.W.mroIn K C (.type "object")=some true)(hq:R (.ok (.ret (.ref C))) ⟨h,g,d,t,os⟩) :
  codeAny (model prog w) A (.call (.builtin "getset_descriptor.__get__") ⟨[.builtin "object.__class__",.ref a,.ref C],[]⟩) R ⟨h,g,d,t,os⟩:=by
 have hT5:(⟨h,g,d,t,os⟩:Shared).TypeIs (.builtin "object.__class__") "getset_descriptor":=F.typeOf_object_class
 have L0:=xty (M:=model prog w) hx hc
 have L1:=PySem.W.looks_mroIn (M:=model prog w) X hm
 refine codeAny_call_builtin PySem.W.KF.slot_gs.plain PySem.W.KF.entry_gs (PySem.W.KF.slot_gs.check _ _ _ _ _ _ _ _ PySem.W.KF.type_class (PySem.W.KF.args_gs _ _ _) ?_)
 unfold Builtin.«getset_descriptor.__get__» descrGet
 rw[PySem.W.dga_obj]
 refine wpAny_bind (wpAny_pure ?_)
 unfold descrGetter descrCheckInstance descrNameAndClass isInstance
 simp only[PySem.W.KF.owner_class]
 repeat lk
 refine⟨Code.quiet_builtin _ (by decide +kernel),codeAny_builtin PySem.W.KF.entry_class ?_⟩
 unfold Builtin.«object.__class__» shownTypeOf
 repeat lk
 exact hq
theorem mL{tk:Tok}{Q:Fin->Shared->Prop}(X:K.In h)(hx:h.get? a=some o)(hc:o.cls=.ref C)(hm:PySem.W.mroIn K C (.type "object")=some true)(hf:PySem.W.findIn K (.ref C) "__class__"=some (some (.builtin "object.__class__")))(hq:Q (.done (.ret (.ref C))) ⟨h,g,d,t,os⟩) :
  wpAny (model prog w) A (Builtin.«object.__getattribute__» ⟨[.ref a,.str "__class__" tk],[]⟩) Q E ⟨h,g,d,t,os⟩:=by
 have hT5:(⟨h,g,d,t,os⟩:Shared).TypeIs (.builtin "object.__class__") "getset_descriptor":=F.typeOf_object_class
 have f5:=F.typeOf_object_class
 have f6:=F.slot_gs_get.lookup
 have f7:=F.slot_gs_set.lookup
 have LF:=PySem.W.looks_findIn (M:=model prog w) X hf
 repeat (any_goals (first | assumption | (with_reducible refine wpAny_loadPart_at hx ?_;rw[hc]) | with_reducible refine LF.at ?_ | wp_step))
 refine rO X hx hc hm ?_
 repeat (any_goals (first | assumption | wp_step))
theorem mO{M:Model}{nameV:Value}{Q:Unit->Shared->Prop}(X:K.In h)(hx:h.get? a=some o)(hc:o.cls=.ref C)(hm:PySem.W.mroIn K C (.type "BaseException")=some true)(hq:Q () ⟨h,g,d,t,os⟩):wpAny M A (checkBuiltinCall "BaseException.__getattribute__" ⟨[.ref a,nameV],[]⟩) Q E ⟨h,g,d,t,os⟩:=by
 have hk:builtinKind "BaseException.__getattribute__"=some .slot:=by decide +kernel
 have hsplit:splitId "BaseException.__getattribute__"=some ("BaseException","__getattribute__"):=by decide +kernel
 have ha:=F.args_bexc_ga (.ref a) nameV
 have LM:=PySem.W.looks_mroIn (M:=M) X hm
 simp only[checkBuiltinCall,hk,hsplit]
 refine wpAny_bind ?_
 ·unfold isInstance
  repeat (first | (with_reducible refine wpAny_loadPart_at hx ?_;rw[hc]) | with_reducible refine LM.at ?_ | wp_step)
  exact hq
theorem tY{tk:Tok}{fill expr:Bool}{Q:Value->Shared->Prop}(X:K.In h)(hx:h.get? a=some o)(hc:o.cls=.ref C)(hA:lB K C=true)(hq:Q (.ref C) ⟨h,g,d,t,os⟩) :
  wpAny (model prog w) A (getAttrBy (.ref a) (.str "__class__" tk) fill expr) Q E ⟨h,g,d,t,os⟩:=by
 unfold lB at hA
 simp only[Bool.and_eq_true,beq_iff_eq] at hA
 obtain⟨⟨⟨⟨⟨g1,g2⟩,g3⟩,g4⟩,g5⟩,g6⟩:=hA
 have f3:=F.excAttr_ValueError.ga.bind (.ref a)
 have hx0:(expr&&onTheHeap (Value.builtin "BaseException.__getattribute__"))=false:=by cases expr<;>rfl
 have hx2:(Value.builtin "BaseException.__getattribute__"==Value.builtin "object.__getattribute__")=false:=by decide +kernel
 have hx1:(onTheHeap (Value.ref C)&&Value.builtin "BaseException.__getattribute__"==Value.builtin "object.__getattribute__")=false:=by rw[hx2];rfl
 have L1:=PySem.W.looks_findIn (M:=model prog w) X g1
 have L2':=PySem.W.looks_findIn (M:=model prog w) X g2
 repeat (any_goals (first | assumption | (with_reducible refine wpAny_loadPart_at hx ?_;rw[hc]) | with_reducible refine L1.at ?_ | with_reducible refine L2'.at ?_ | wp_step))
 refine codeAny_call_builtin F.excAttr_ValueError.ga.plain F.entry_bexc_ga (mO X hx hc g5 (mL X hx hc g4 g3 ?_))
 repeat (any_goals (first | assumption | wp_step))
theorem Gp{Q:Option Value->Shared->Prop}(X:K.In h)(hx:h.get? a=some o)(hc:o.cls=.ref C)(hA:lB K C=true)(hq:Q (some (.ref C)) ⟨h,g,d,t+1,os⟩) :
  wpAny (model prog w) A (getAttr? (.ref a) "__class__") Q E ⟨h,g,d,t,os⟩:=by
 unfold getAttr? getAttrBy?
 repeat (any_goals (first | assumption | with_reducible apply tY X hx hc hA | wp_step))
end
theorem yJ{K:PySem.W.Frag}{a C:Addr}(hA:lB K C=true):PySem.W.KitX K (.ref a) (.ref C) (isX a (.ref C)) where
 ty:=fun _ _ _ ⟨o,e,c,_⟩=>xty e c
 it:=fun _ _ X _=>by
  unfold lB at hA
  rw[Bool.and_eq_true] at hA
  obtain⟨cdD,hcD⟩:=Option.isSome_iff_exists.mp hA.2
  unfold PySem.W.clsIn at hcD
  split at hcD
  ·rename_i c' d' cd' sl' ho
   intro A' Q' E' s' k q
   unfold isType loadHead
   exact wpAny_bind (wpAny_loadPart (k _ _ (X _ _ ho)) (wpAny_pure q))
  ·cases hcD
 ne:=fun h tp dd its n sl X htp=>by
  unfold lB at hA
  rw[Bool.and_eq_true] at hA
  obtain⟨cdD,hcD⟩:=Option.isSome_iff_exists.mp hA.2
  refine Bool.eq_false_iff.mpr fun q=>?_
  have e:C=tp:=Value.ref.inj (beq_iff_eq.mp q)
  subst e
  unfold PySem.W.clsIn at hcD
  split at hcD
  ·rename_i c' d' cd' sl' ho
   have z:=(X _ _ ho).symm.trans htp
   cases z
  ·cases hcD
 ca:=fun {prog w A E Q s} X p k=>by
  obtain⟨h,g,d,t,os⟩:=s
  obtain⟨o,e,c,_⟩:=p
  exact Gp X e c hA k
section
variable {X:Cx} {pins:List (Addr×Obj)} {σ:St} {H H':Hp} {s s':Shared} {ea C:Addr}
theorem caught{c n kn:Str}{Mc:Addr}{np p1 p2 p3 hp:Pos}{i j:Nat}{Q:Flow->Shared->Prop}(I:Inv X pins σ H s)(Fl:Fly X.prog X.w X.stack H s H' ea (.ref C) s')(hn:H' ea=none)(hst:X.stack=X.env::X.outer/\X.env.frame=some X.env.locals)
    (hg:Gl X c) (hm:X.mg c=some (.ref Mc)) (hcd:(c==("__debug__":Str))=false) (hx:PySem.W.exmOne X.K (.ref C) (.ref Mc)=some true) (nd:X.N.Nodup) (hi:X.N[i]?=some n) (hj:X.N[j]?=some kn) (hij:i≠j)
    (ln:X.env.scope.names.lookup n=some .local) (lk:X.env.scope.names.lookup kn=some .local) (d1:(n==("__debug__":Str))=false) (d2:(n==("__classdict__":Str))=false)
    (k:∀ s2,Inv X pins ((σ.set j (some (.ref ea))).set i none) (upd H' ea (.ext (isX ea (.ref C)))) s2->Q .next s2) :
    wpAny (model X.prog X.w) X.A (noteFrame (.ref ea) X.env) (fun _ s₂=>wpAny (model X.prog X.w) X.A (setFlight (.ref ea) none) (fun _ s₃ =>
      wpAny (model X.prog X.w) X.A (handleBy (.ref ea) X.env [.ExceptHandler (some (.Name c np)) (some n) [.Assign [.Name kn p1] (.Name n p2) p3] hp]) Q X.xe s₃) X.xe s₂) X.xe s':=by
  obtain⟨B,a0,fl,hokB,kB,tB⟩:=Fl.fly
  have hfr:X.A.frames=some (X.env::X.outer):=by rw[<- hst.1];exact I.ok.frames
  have fl':Heap.FlyingW B (X.env::X.outer) ea (.ref C) a0 s'.heap:=by rw[<- hst.1];exact fl
  refine wpAny_looks_onW hfr hst.2 fl' fun h4 held4 up4=>?_
  refine wpAny_landsW held4 fun h5 fl5 up5=>?_
  have U5:Un (frs X.stack) [] H H' s.heap h5:=Un.fly Fl.un kB tB fl5.1 (yC fl.2.2.1) (up4.trans up5)
  have I5:Inv X pins σ H' { s' with heap:=h5 }:=Fly.lands I Fl hokB U5 fl5.1
  refine wpAny_handleBy_cons (codeAny_handlers_test ?_) (by intro q;cases q)
  refine jy (I5.inSuite (.ref ea) X.xe) hg hm ?_ hcd
  have LT:PySem.W.Looks (model X.prog X.w) h5 (typeOf (.ref ea)) (.ref C):=by
    obtain⟨ob,hob,hoc⟩:=fl5.there
    exact xty hob hoc
  refine(PySem.W.exm_one I5.kIn LT hx).here ?_
  refine codeAny_handlers_suite_as ?_
  refine lands_againW fl5 fun h6 fl6 up6=>?_
  have U6:Un (frs X.stack) [] H H' s.heap h6:=Un.fly Fl.un kB tB fl6.1 (yC fl.2.2.1) ((up4.trans up5).trans up6)
  have hX6:isX ea (.ref C) h6:=by
    obtain⟨oe,ws,e1,e2,e3,_⟩:=fl6.first
    exact⟨oe,e1,e2,ws,e3⟩
  have hok6:HOk X.prog X.w (upd H' ea (.ext (isX ea (.ref C)))) h6:=fun b u e=>by
    by_cases hb:b=ea
    · subst hb;rw[aW] at e;cases e;exact Jl hX6
    · rw[aO hb] at e
      exact((hokB.kept fl6.1) b u e).stay (fun _ _ _ q=>q) (fun b' q=>by rw[aO (aF q hn)];exact q) fun b' xs q=>by rw[aO (aF q hn)];exact q
  have U6':Un (frs X.stack) [] H (upd H' ea (.ext (isX ea (.ref C)))) s.heap h6:=by
    refine⟨U6.keep,U6.slot,fun b o q n hx=>?_,U6.there,fun b xs q=>?_,fun b o u q=>?_,fun b ps q=>?_⟩
    · rw[aO (fun z=>by rw[z,Fl.fresh] at q;cases q)]
      exact U6.free b o q n hx
    · have:=U6.tups b xs q
      rw[aO (aF this hn)];exact this
    · have:=U6.frzs b o u q
      rw[aO (aF this hn)];exact this
    · obtain⟨more,e⟩:=U6.tbls b ps q
      exact⟨more,by rw[aO (aF e hn)];exact e⟩
  have I6:Inv X pins σ (upd H' ea (.ext (isX ea (.ref C)))) { s' with heap:=h6 }:=I.call' (s':={ s' with heap:=h6 }) Fl.os U6' hok6 Fl.bare (fun b z=>absurd z (by simp))
  refine dU (X:=X.inSuite (.ref ea) X.xe) (I6.inSuite (.ref ea) X.xe) nd hi (.inl ln) (v:=.ref ea) rfl (fun s7 I7=>?_) (.inr ln)
  have hiσ:i<σ.length:=by rw[I.len];exact(List.getElem?_eq_some_iff.mp hi).1
  have hps:PSs (X.inSuite (.ref ea) fun _ _=>False) [.Assign [.Name kn p1] (.Name n p2) p3] (R6 (J6 (GZ i) (yQ j)) BX):=lM (jo (X:=X.inSuite (.ref ea) fun _ _=>False) nd hj (.inl lk) (gD (X:=X.inSuite (.ref ea) fun _ _=>False) hi (.inl ln) d1 d2) rfl (.inr lk)) uJ
  have I7':Inv (X.inSuite (.ref ea) fun _ _=>False) pins (σ.set i (some (.ref ea))) (upd H' ea (.ext (isX ea (.ref C)))) s7:=(I7.outSuite I.ok).inSuite _ _
  refine wpAny_mono (hps pins s7 _ _ { nx:=fun σ' H''=>σ'=(σ.set i (some (.ref ea))).set j (some (.ref ea))/\H''=upd H' ea (.ext (isX ea (.ref C))),rt:=fun _ _=>False } I7' ⟨.ref ea,by rw[List.getElem?_set_self hiσ],rfl,rfl⟩) (fun f s8 h8=>?_) fun _ _ z=>z.elim
  cases f with
  | next =>
    obtain⟨σ8,H8,I8,rfl,rfl⟩:=h8
    have I8':Inv X pins ((σ.set i (some (.ref ea))).set j (some (.ref ea))) (upd H' ea (.ext (isX ea (.ref C)))) s8:=I8.outSuite I.ok
    obtain⟨m,hm8,_⟩:=id I8'.loc
    refine wpAny_nameGoes_keeps ln hm8 (by rw[I.ok.kind];rfl) fun h9 v hn9 hs9=>?_
    have I9:=I8'.unbound (t':=s8.toks+1) nd hi hm8 hn9 hs9
    have eσ:(((σ.set i (some (V.ref ea))).set j (some (.ref ea))).set i none)=((σ.set j (some (.ref ea))).set i none):=by
      rw[List.set_comm _ _ hij,List.set_set]
    rw[eσ] at I9
    exact k _ I9
  | brk=>obtain⟨_,_,_,z⟩:=h8;exact z.elim
  | cont=>obtain⟨_,_,_,z⟩:=h8;exact z.elim
  | ret u=>obtain⟨_,_,_,_,_,z⟩:=h8;exact z.elim
end
end L2
namespace L2
open PySem PySem.Spec PyProof.Rows DE PySem.SeqAt
theorem Same.tup{K:PySem.W.Frag}{H H':Hp}{a:Addr}{xs:List V}(e:Same H H')(h:SqT K H a xs):SqT K H' a xs:=by
 rcases h with(h | ⟨o,h⟩) | h
 ·exact .inl (.inl (e _ _ h))
 ·exact .inl (.inr ⟨o,e _ _ h⟩)
 ·exact .inr h
mutual
def Rep(K:PySem.W.Frag)(H:Hp):D->V->Prop
 | .non,v=>v=.non
 | .bl b,v=>v=.bl b
 | .int i,v=>v=.int i
 | .str x,v=>v=.str x
 | .tup ds,v=>∃ a vs,v=.ref a/\SqT K H a vs/\aM K H ds vs
 | .lst ds,v=>∃ a vs,v=.ref a/\SqL K H a vs/\aM K H ds vs
 | .exc c,v=>∃ a C,v=.ref a/\PySem.W.nsIn K mainGlobals c=some (some (.ref C))/\H a=some (.ext (isX a (.ref C)))
 | .dic ks ds,v=>∃ (a:Addr) (kvs:List (Key×V)),v=.ref a/\DAt K H a kvs/\kvs.map (·.1)=ks/\aM K H ds (kvs.map (·.2))
def aM(K:PySem.W.Frag)(H:Hp):List D->List V->Prop
 | [],vs=>vs=[]
 | d::ds,vs=>∃ v r,vs=v::r/\Rep K H d v/\aM K H ds r
end
mutual
theorem Rep.same{K:PySem.W.Frag}{H H':Hp}(e:Same H H'):∀ (d:D) (v:V),Rep K H d v->Rep K H' d v
  | .non,v,h=>by simpa[Rep] using h
  | .bl b,v,h=>by simpa[Rep] using h
  | .int i,v,h=>by simpa[Rep] using h
  | .str x,v,h=>by simpa[Rep] using h
  | .tup ds, v, h => by
    simp only[Rep] at h ⊢
    obtain⟨a,vs,h1,h2,h3⟩:=h
    exact⟨a,vs,h1,e.tup h2,aM.same e ds vs h3⟩
  | .lst ds, v, h => by
    simp only[Rep] at h ⊢
    obtain⟨a,vs,h1,h2,h3⟩:=h
    exact⟨a,vs,h1,e.seq h2,aM.same e ds vs h3⟩
  | .exc c, v, h => by
    simp only[Rep] at h ⊢
    obtain⟨a,C,h1,h2,h3⟩:=h
    exact⟨a,C,h1,h2,e _ _ h3⟩
  | .dic ks ds, v, h => by
    simp only[Rep] at h ⊢
    obtain⟨a,kvs,h1,h2,h3,h4⟩:=h
    refine⟨a,kvs,h1,?_,h3,aM.same e ds _ h4⟩
    rcases h2 with(h2 | ⟨o,h2⟩) | h2
    · exact .inl (.inl (e _ _ h2))
    · exact .inl (.inr ⟨o,e _ _ h2⟩)
    · exact .inr h2
theorem aM.same{K:PySem.W.Frag}{H H':Hp}(e:Same H H'):∀ (ds:List D) (vs:List V),aM K H ds vs->aM K H' ds vs
  | [],vs,h=>by simpa[aM] using h
  | d :: ds, vs, h => by
    simp only[aM] at h ⊢
    obtain⟨v,r,h1,h2,h3⟩:=h
    exact⟨v,r,h1,Rep.same e d v h2,aM.same e ds r h3⟩
end
theorem aM.length{K:PySem.W.Frag}{H:Hp}:∀ {ds:List D} {vs:List V},aM K H ds vs->ds.length=vs.length
  | [],vs,h=>by simp only[aM] at h;subst h;rfl
  | d :: ds, vs, h => by
    simp only[aM] at h
    obtain⟨v,r,rfl,_,h3⟩:=h
    simp[h3.length]
theorem aM.nil{K:PySem.W.Frag}{H:Hp}:aM K H [] []:=by simp[aM]
theorem aM.cons{K:PySem.W.Frag}{H:Hp}{d:D}{ds:List D}{v:V}{vs:List V}(h:Rep K H d v)(r:aM K H ds vs):aM K H (d::ds) (v::vs):=by
 simp only[aM];exact⟨v,vs,rfl,h,r⟩
theorem aM.append{K:PySem.W.Frag}{H:Hp}:∀ {ds es:List D} {vs us:List V},aM K H ds vs->aM K H es us->aM K H (ds++es) (vs++us)
  | [],es,vs,us,h,h'=>by simp only[aM] at h;subst h;exact h'
  | d :: ds, es, vs, us, h, h' => by
    simp only[aM] at h
    obtain⟨v,r,rfl,h2,h3⟩:=h
    exact .cons h2 (h3.append h')
theorem aM.get{K:PySem.W.Frag}{H:Hp}:∀ {ds:List D} {vs:List V} {i:Nat} {d:D},aM K H ds vs->ds[i]?=some d->∃ v,vs[i]?=some v/\Rep K H d v
  | [],vs,i,d,_,e=>by simp at e
  | d' :: ds, vs, 0, d, h, e => by
    simp only[aM] at h
    obtain⟨v,r,rfl,h2,h3⟩:=h
    simp at e;subst e
    exact⟨v,rfl,h2⟩
  | d' :: ds, vs, i + 1, d, h, e => by
    simp only[aM] at h
    obtain⟨v,r,rfl,h2,h3⟩:=h
    obtain⟨u,e1,e2⟩:=h3.get (i:=i) (d:=d) (by simpa using e)
    exact⟨u,by simpa using e1,e2⟩
theorem aM.take{K:PySem.W.Frag}{H:Hp}:∀ (n:Nat) {ds:List D} {vs:List V},aM K H ds vs->aM K H (ds.take n) (vs.take n)
  | 0,_,_,_=>by simpa using aM.nil
  | n+1,[],vs,h=>by simp only[aM] at h;subst h;simpa using aM.nil
  | n + 1, d :: ds, vs, h => by
    simp only[aM] at h
    obtain⟨v,r,rfl,h2,h3⟩:=h
    simpa using aM.cons h2 (h3.take n)
theorem aM.drop{K:PySem.W.Frag}{H:Hp}:∀ (n:Nat) {ds:List D} {vs:List V},aM K H ds vs->aM K H (ds.drop n) (vs.drop n)
  | 0,_,_,h=>by simpa using h
  | n+1,[],vs,h=>by simp only[aM] at h;subst h;simpa using aM.nil
  | n + 1, d :: ds, vs, h => by
    simp only[aM] at h
    obtain⟨v,r,rfl,h2,h3⟩:=h
    simpa using h3.drop n
theorem aM.reverse{K:PySem.W.Frag}{H:Hp}:∀ {ds:List D} {vs:List V},aM K H ds vs->aM K H ds.reverse vs.reverse
  | [],vs,h=>by simp only[aM] at h;subst h;simpa using aM.nil
  | d :: ds, vs, h => by
    simp only[aM] at h
    obtain⟨v,r,rfl,h2,h3⟩:=h
    simpa using h3.reverse.append (.cons h2 .nil)
structure Ext (Hs H Hs' H':Hp):Prop where
 vis:Same Hs Hs'
 all:Same H H'
 sub:Same Hs' H'
 hid:∀ b o,H b=some o->Hs b=none->Hs' b=none
theorem Ext.refl{Hs H:Hp}(h:Same Hs H):Ext Hs H Hs H:=⟨.refl _,.refl _,h,fun _ _ _ h=>h⟩
theorem Ext.trans{Hs H Hs1 H1 Hs2 H2:Hp}(a:Ext Hs H Hs1 H1)(b:Ext Hs1 H1 Hs2 H2):Ext Hs H Hs2 H2 :=
 ⟨a.vis.trans b.vis,a.all.trans b.all,b.sub,fun c o h1 h2=>b.hid c o (a.all c o h1) (a.hid c o h1 h2)⟩
theorem Ext.new{Hs H:Hp}(h:Same Hs H){p:Addr}(o:HO)(hp:H p=none):Ext Hs H (upd Hs p o) (upd H p o) where
 vis:=fun b u e=>by rw[aO (aF (h b u e) hp)];exact e
 all:=fun b u e=>by rw[aO (aF e hp)];exact e
 sub:=fun b u e=>by
  by_cases hb:b=p
  ·subst hb;rw[aW] at e ⊢;exact e
  ·rw[aO hb] at e ⊢;exact h b u e
 hid:=fun b u e n=>by rw[aO (aF e hp)];exact n
theorem isT{X:Cx}{pins:List (Addr×Obj)}{σ:St}{H:Hp}{s:Shared}{a:Addr}{vs:List V}(I:Inv X pins σ H s)(h:SqT X.K H a vs):∃ its:List Value,Vals vs its/\s.heap.IsTuple a its.toArray:=by
 obtain⟨its,r,p,_⟩:=I.tuple h
 exact⟨its,r,p⟩
theorem isL{X:Cx}{pins:List (Addr×Obj)}{σ:St}{H:Hp}{s:Shared}{a:Addr}{vs:List V}(I:Inv X pins σ H s)(h:SqL X.K H a vs):∃ its:List Value,Vals vs its/\s.heap.IsList a its.toArray:=by
 obtain⟨its,r,p,_⟩:=I.list h
 exact⟨its,r,p.isList⟩
mutual
theorem mz:∀ d:D,dep d<1000->deq d d=true
 | .non,_=>rfl
 | .bl b,_=>by simp[deq]
 | .int i,_=>by simp[deq]
 | .str x,_=>by simp[deq]
 | .tup xs,h=>by simp only[deq];exact jG xs (by simp only[dep] at h;omega)
 | .lst xs,h=>by simp only[deq];exact jG xs (by simp only[dep] at h;omega)
 | .exc c,h=>absurd h (by simp[dep])
 | .dic _ _,h=>absurd h (by simp[dep])
theorem jG:∀ ds:List D,deps ds<1000->mq ds ds=true
  | [],_=>rfl
  | d :: ds, h => by
    simp only[deps] at h
    simp only[mq,mz d (by omega),jG ds (by omega),Bool.and_self]
end
theorem rB:∀ {xs ys:List D} {e:Nat->Bool},(∀ (j:Nat) (x y:D),xs[j]?=some x->ys[j]?=some y->e j=deq x y)->((List.range (min xs.length ys.length)).all e&&xs.length==ys.length)=mq xs ys
  | [],[],_,_=>rfl
  | [],y::ys,_,_=>by simp[mq]
  | x::xs,[],_,_=>by simp[mq]
  | x :: xs, y :: ys, e, h => by
    have ih:=rB (xs:=xs) (ys:=ys) (e:=fun j=>e (j+1)) fun j a b e1 e2=>h (j+1) a b (by simpa using e1) (by simpa using e2)
    have h0:=h 0 x y rfl rfl
    simp only[mq,<- ih,<- h0,List.length_cons]
    rw[show min (xs.length+1) (ys.length+1)=min xs.length ys.length+1 by omega,List.range_succ_eq_map,List.all_cons,List.all_map]
    rw[Bool.and_assoc]
    congr 1
    congr 1
    simp
section
variable {X:Cx} {pins:List (Addr×Obj)} {σ:St} {H:Hp} {s:Shared}
mutual
theorem Rep.inj(I:Inv X pins σ H s):∀ (d d':D) (v:V),dep d<1000->dep d'<1000->Rep X.K H d v->Rep X.K H d' v->d=d'
  | .non,d',v,z,z',h,h'=>by simp only[Rep] at h;subst h;cases d'<;>simp[Rep] at h' ⊢
  | .bl b,d',v,z,z',h,h'=>by simp only[Rep] at h;subst h;cases d'<;>simp[Rep] at h' ⊢;exact h'
  | .int b,d',v,z,z',h,h'=>by simp only[Rep] at h;subst h;cases d'<;>simp[Rep] at h' ⊢;exact h'
  | .str b,d',v,z,z',h,h'=>by simp only[Rep] at h;subst h;cases d'<;>simp[Rep] at h' ⊢;exact h'
  | .tup ds, d', v, z, z', h, h' => by
    simp only[Rep] at h
    obtain⟨a,vs,rfl,h2,h3⟩:=h
    cases d' with
    | tup es =>
      simp only[Rep] at h'
      obtain⟨a',vs',e,h2',h3'⟩:=h'
      cases e
      have:=I.tuple_inj h2 h2'
      subst this
      rw[aM.inj I ds es vs (by simp only[dep] at z;omega) (by simp only[dep] at z';omega) h3 h3']
    | lst es =>
      simp only[Rep] at h'
      obtain⟨a',vs',e,h2',h3'⟩:=h'
      cases e
      obtain⟨i1,_,p1⟩:=isT I h2
      obtain⟨i2,_,p2⟩:=isL I h2'
      exact absurd rfl (ne_of_list_tuple p2 p1)
    | non=>simp[Rep] at h'
    | bl _=>simp[Rep] at h'
    | int _=>simp[Rep] at h'
    | str _=>simp[Rep] at h'
    | exc _=>exact absurd z' (by simp[dep])
    | dic _ _=>exact absurd z' (by simp[dep])
  | .lst ds, d', v, z, z', h, h' => by
    simp only[Rep] at h
    obtain⟨a,vs,rfl,h2,h3⟩:=h
    cases d' with
    | lst es =>
      simp only[Rep] at h'
      obtain⟨a',vs',e,h2',h3'⟩:=h'
      cases e
      have:=I.list_inj h2 h2'
      subst this
      rw[aM.inj I ds es vs (by simp only[dep] at z;omega) (by simp only[dep] at z';omega) h3 h3']
    | tup es =>
      simp only[Rep] at h'
      obtain⟨a',vs',e,h2',h3'⟩:=h'
      cases e
      obtain⟨i1,_,p1⟩:=isL I h2
      obtain⟨i2,_,p2⟩:=isT I h2'
      exact absurd rfl (ne_of_list_tuple p1 p2)
    | non=>simp[Rep] at h'
    | bl _=>simp[Rep] at h'
    | int _=>simp[Rep] at h'
    | str _=>simp[Rep] at h'
    | exc _=>exact absurd z' (by simp[dep])
    | dic _ _=>exact absurd z' (by simp[dep])
  | .exc c,d',v,z,z',h,h'=>absurd z (by simp[dep])
  | .dic _ _,d',v,z,z',h,h'=>absurd z (by simp[dep])
theorem aM.inj(I:Inv X pins σ H s):∀ (ds es:List D) (vs:List V),deps ds<1000->deps es<1000->aM X.K H ds vs->aM X.K H es vs->ds=es
  | [], es, vs, z, z', h, h' => by
    simp only[aM] at h;subst h
    cases es with
    | nil=>rfl
    | cons e es=>simp[aM] at h'
  | d :: ds, es, vs, z, z', h, h' => by
    simp only[aM] at h
    obtain⟨v,r,rfl,h2,h3⟩:=h
    cases es with
    | nil=>simp[aM] at h'
    | cons e es =>
      simp only[aM] at h'
      obtain⟨v',r',e',h2',h3'⟩:=h'
      cases e'
      simp only[deps] at z z'
      rw[Rep.inj I d e v (by omega) (by omega) h2 h2',aM.inj I ds es r (by omega) (by omega) h3 h3']
end
def eJ(ds es:List D)(j:Nat):Bool:=match ds[j]?,es[j]? with
 | some x,some y=>deq x y
 | _,_=>true
theorem v9(ds es:List D):((List.range (min ds.length es.length)).all (eJ ds es)&&ds.length==es.length)=mq ds es :=
 rB fun j x y e1 e2=>by unfold eJ;rw[e1,e2]
theorem v8(ds es:List D)(h:ds.length=es.length):(List.range ds.length).all (eJ ds es)=mq ds es:=by
 rw[<- v9 ds es,<- h];simp
theorem mj:∀ {xs ys:List D},xs.length≠ys.length->mq xs ys=false
  | [],[],h=>absurd rfl h
  | [],_::_,_=>rfl
  | _::_,[],_=>rfl
  | x :: xs, y :: ys, h => by
    simp only[mq,mj (xs:=xs) (ys:=ys) (by intro e;exact h (by simp[e])),Bool.and_false]
theorem gq{A:Around}:A.in1.units=A.units+1:=rfl
mutual
theorem v7(I:Inv X pins σ H s):∀ (d d':D) (v v':V) (u u':Value) (A:Around),Rep X.K H d v->Rep X.K H d' v'->RelV v u->RelV v' u'->A.units+dep d<cLine->dep d<1000->dep d'<1000->EqAt A s u u' (deq d d')
  | .non, d', v, v', u, u', A, h, h', r, r', hu, z, z' => by
    simp only[Rep] at h;subst h;cases (show u=Value.none from r)
    have hu0:A.units<cLine:=Nat.lt_of_le_of_lt (Nat.le_add_right _ _) hu
    cases d' with
    | exc _=>exact absurd z' (by simp[dep])
    | dic _ _=>exact absurd z' (by simp[dep])
    | non=>simp only[Rep] at h';subst h';cases (show u'=Value.none from r');exact EqAt.same _
    | bl b=>simp only[Rep] at h';subst h';cases (show u'=Value.bool b from r');exact EqAt.none_bool b
    | int i=>simp only[Rep] at h';subst h';obtain⟨t,rfl⟩:=r';exact EqAt.none_int i t
    | str x=>simp only[Rep] at h';subst h';obtain⟨t,rfl⟩:=r';exact EqAt.none_str x t
    | tup es=>simp only[Rep] at h';obtain⟨a,vs,rfl,h2,h3⟩:=h';cases (show u'=Value.ref a from r');obtain⟨its,_,p⟩:=isT I h2;exact EqAt.none_tuple p hu0
    | lst es=>simp only[Rep] at h';obtain⟨a,vs,rfl,h2,h3⟩:=h';cases (show u'=Value.ref a from r');obtain⟨its,_,p⟩:=isL I h2;exact EqAt.none_list p hu0
  | .bl c, d', v, v', u, u', A, h, h', r, r', hu, z, z' => by
    simp only[Rep] at h;subst h;cases (show u=Value.bool c from r)
    have hu0:A.units<cLine:=Nat.lt_of_le_of_lt (Nat.le_add_right _ _) hu
    cases d' with
    | exc _=>exact absurd z' (by simp[dep])
    | dic _ _=>exact absurd z' (by simp[dep])
    | non=>simp only[Rep] at h';subst h';cases (show u'=Value.none from r');exact EqAt.bool_none c
    | bl b=>simp only[Rep] at h';subst h';cases (show u'=Value.bool b from r');exact EqAt.bool_bool c b
    | int i=>simp only[Rep] at h';subst h';obtain⟨t,rfl⟩:=r';exact EqAt.bool_int c i t
    | str x=>simp only[Rep] at h';subst h';obtain⟨t,rfl⟩:=r';exact EqAt.bool_str c x t
    | tup es=>simp only[Rep] at h';obtain⟨a,vs,rfl,h2,h3⟩:=h';cases (show u'=Value.ref a from r');obtain⟨its,_,p⟩:=isT I h2;exact EqAt.bool_tuple c p hu0
    | lst es=>simp only[Rep] at h';obtain⟨a,vs,rfl,h2,h3⟩:=h';cases (show u'=Value.ref a from r');obtain⟨its,_,p⟩:=isL I h2;exact EqAt.bool_list c p hu0
  | .int c, d', v, v', u, u', A, h, h', r, r', hu, z, z' => by
    simp only[Rep] at h;subst h;obtain⟨t0,rfl⟩:=r
    have hu0:A.units<cLine:=Nat.lt_of_le_of_lt (Nat.le_add_right _ _) hu
    cases d' with
    | exc _=>exact absurd z' (by simp[dep])
    | dic _ _=>exact absurd z' (by simp[dep])
    | non=>simp only[Rep] at h';subst h';cases (show u'=Value.none from r');exact EqAt.int_none c t0
    | bl b=>simp only[Rep] at h';subst h';cases (show u'=Value.bool b from r');exact EqAt.int_bool c t0 b
    | int i=>simp only[Rep] at h';subst h';obtain⟨t,rfl⟩:=r';exact EqAt.int_int c t0 i t
    | str x=>simp only[Rep] at h';subst h';obtain⟨t,rfl⟩:=r';exact EqAt.int_str c t0 x t
    | tup es=>simp only[Rep] at h';obtain⟨a,vs,rfl,h2,h3⟩:=h';cases (show u'=Value.ref a from r');obtain⟨its,_,p⟩:=isT I h2;exact EqAt.int_tuple c t0 p hu0
    | lst es=>simp only[Rep] at h';obtain⟨a,vs,rfl,h2,h3⟩:=h';cases (show u'=Value.ref a from r');obtain⟨its,_,p⟩:=isL I h2;exact EqAt.int_list c t0 p hu0
  | .str c, d', v, v', u, u', A, h, h', r, r', hu, z, z' => by
    simp only[Rep] at h;subst h;obtain⟨t0,rfl⟩:=r
    have hu0:A.units<cLine:=Nat.lt_of_le_of_lt (Nat.le_add_right _ _) hu
    cases d' with
    | exc _=>exact absurd z' (by simp[dep])
    | dic _ _=>exact absurd z' (by simp[dep])
    | non=>simp only[Rep] at h';subst h';cases (show u'=Value.none from r');exact EqAt.str_none c t0
    | bl b=>simp only[Rep] at h';subst h';cases (show u'=Value.bool b from r');exact EqAt.str_bool c t0 b
    | int i=>simp only[Rep] at h';subst h';obtain⟨t,rfl⟩:=r';exact EqAt.str_int c t0 i t
    | str x=>simp only[Rep] at h';subst h';obtain⟨t,rfl⟩:=r';exact EqAt.str_str c t0 x t
    | tup es=>simp only[Rep] at h';obtain⟨a,vs,rfl,h2,h3⟩:=h';cases (show u'=Value.ref a from r');obtain⟨its,_,p⟩:=isT I h2;exact EqAt.str_tuple c t0 p hu0
    | lst es=>simp only[Rep] at h';obtain⟨a,vs,rfl,h2,h3⟩:=h';cases (show u'=Value.ref a from r');obtain⟨its,_,p⟩:=isL I h2;exact EqAt.str_list c t0 p hu0
  | .tup ds, d', v, v', u, u', A, h, h', r, r', hu, z, z' => by
    have hh:=h
    simp only[Rep] at h;obtain⟨a,vs,rfl,h2,h3⟩:=h;cases (show u=Value.ref a from r);obtain⟨its,rv,p⟩:=isT I h2
    have hu0:A.units<cLine:=Nat.lt_of_le_of_lt (Nat.le_add_right _ _) hu
    have hu1:A.in1.units+deps ds<cLine:=by have:dep (.tup ds)=deps ds+1:=rfl;rw[gq];omega
    cases d' with
    | exc _=>exact absurd z' (by simp[dep])
    | dic _ _=>exact absurd z' (by simp[dep])
    | non=>simp only[Rep] at h';subst h';cases (show u'=Value.none from r');exact EqAt.tuple_none p hu0
    | bl b=>simp only[Rep] at h';subst h';cases (show u'=Value.bool b from r');exact EqAt.tuple_bool b p hu0
    | int i=>simp only[Rep] at h';subst h';obtain⟨t,rfl⟩:=r';exact EqAt.tuple_int i t p hu0
    | str x=>simp only[Rep] at h';subst h';obtain⟨t,rfl⟩:=r';exact EqAt.tuple_str x t p hu0
    | tup es =>
      have hh':=h'
      simp only[Rep] at h';obtain⟨b,us,rfl,h2',h3'⟩:=h';cases (show u'=Value.ref b from r');obtain⟨its',rv',p'⟩:=isT I h2'
      by_cases hab:a=b
      · subst hab
        have:=Rep.inj I _ _ _ z z' hh hh'
        rw[<- this,mz _ z]
        exact EqAt.same _
      · have q:=RcAt.tuples p p' hu0 (e:=eJ ds es) fun j g1 g2=>gQ I ds es vs us its its' A.in1 h3 h3' rv rv' hu1 (by simp only[dep] at z;omega) (by simp only[dep] at z';omega) j _ _ (by simp at g1 ⊢) (by simp at g2 ⊢)
        have l1:=h3.length;have l2:=rv.length;have l3:=h3'.length;have l4:=rv'.length
        rw[List.size_toArray,List.size_toArray,<- l2,<- l1,<- l4,<- l3,v9] at q
        exact .of_refs hab q
    | lst es=>simp only[Rep] at h';obtain⟨a,vs,rfl,h2,h3⟩:=h';cases (show u'=Value.ref a from r');obtain⟨its,_,p'⟩:=isL I h2;exact EqAt.tuple_list p p' hu0
  | .lst ds, d', v, v', u, u', A, h, h', r, r', hu, z, z' => by
    have hh:=h
    simp only[Rep] at h;obtain⟨a,vs,rfl,h2,h3⟩:=h;cases (show u=Value.ref a from r);obtain⟨its,rv,p⟩:=isL I h2
    have hu0:A.units<cLine:=Nat.lt_of_le_of_lt (Nat.le_add_right _ _) hu
    have hu1:A.in1.units+deps ds<cLine:=by have:dep (.lst ds)=deps ds+1:=rfl;rw[gq];omega
    cases d' with
    | exc _=>exact absurd z' (by simp[dep])
    | dic _ _=>exact absurd z' (by simp[dep])
    | non=>simp only[Rep] at h';subst h';cases (show u'=Value.none from r');exact EqAt.list_none p hu0
    | bl b=>simp only[Rep] at h';subst h';cases (show u'=Value.bool b from r');exact EqAt.list_bool b p hu0
    | int i=>simp only[Rep] at h';subst h';obtain⟨t,rfl⟩:=r';exact EqAt.list_int i t p hu0
    | str x=>simp only[Rep] at h';subst h';obtain⟨t,rfl⟩:=r';exact EqAt.list_str x t p hu0
    | lst es =>
      have hh':=h'
      simp only[Rep] at h';obtain⟨b,us,rfl,h2',h3'⟩:=h';cases (show u'=Value.ref b from r');obtain⟨its',rv',p'⟩:=isL I h2'
      have l1:=h3.length;have l2:=rv.length;have l3:=h3'.length;have l4:=rv'.length
      by_cases hab:a=b
      · subst hab
        have:=Rep.inj I _ _ _ z z' hh hh'
        rw[<- this,mz _ z]
        exact EqAt.same _
      · by_cases hl:ds.length=es.length
        · have q:=RcAt.lists p p' (by simp;omega) hu0 (e:=eJ ds es) fun j g1 g2=>gQ I ds es vs us its its' A.in1 h3 h3' rv rv' hu1 (by simp only[dep] at z;omega) (by simp only[dep] at z';omega) j _ _ (by simp at g1 ⊢) (by simp at g2 ⊢)
          rw[List.size_toArray,<- l2,<- l1,v8 _ _ hl] at q
          exact .of_refs hab q
        · have q:=RcAt.lists_lengths p p' (by simp;omega) hu0
          rw[show deq (.lst ds) (.lst es)=mq ds es from rfl,mj hl]
          exact .of_refs hab q
    | tup es=>simp only[Rep] at h';obtain⟨a,vs,rfl,h2,h3⟩:=h';cases (show u'=Value.ref a from r');obtain⟨its,_,p'⟩:=isT I h2;exact EqAt.list_tuple p p' hu0
  | .exc c,d',v,v',u,u',A,h,h',r,r',hu,z,z'=>absurd z (by simp[dep])
  | .dic _ _,d',v,v',u,u',A,h,h',r,r',hu,z,z'=>absurd z (by simp[dep])
theorem gQ(I:Inv X pins σ H s):∀ (ds es:List D) (vs us:List V) (its its':List Value) (A:Around),aM X.K H ds vs->aM X.K H es us->Vals vs its->Vals us its'->A.units+deps ds<cLine->deps ds<1000->deps es<1000 ->
    ∀ (j:Nat) (u u':Value),its[j]?=some u->its'[j]?=some u'->EqAt A s u u' (eJ ds es j)
  | [], es, vs, us, its, its', A, h, h', r, r', hu, z, z', j, u, u', e1, e2 => by
    simp only[aM] at h;subst h;cases r;simp at e1
  | d :: ds, es, vs, us, its, its', A, h, h', r, r', hu, z, z', j, u, u', e1, e2 => by
    simp only[aM] at h
    obtain⟨v,vr,rfl,h2,h3⟩:=h
    cases r with
    | cons r rr =>
      cases es with
      | nil=>simp only[aM] at h';subst h';cases r';simp at e2
      | cons e es =>
        simp only[aM] at h'
        obtain⟨v',vr',rfl,h2',h3'⟩:=h'
        cases r' with
        | cons r' rr' =>
          have hd:dep d<=deps (d::ds):=Nat.le_max_left _ _
          have hds:deps ds<=deps (d::ds):=Nat.le_max_right _ _
          cases j with
          | zero =>
            simp at e1 e2;subst e1 e2
            exact v7 I d e v v' _ _ A h2 h2' r r' (by omega) (by simp only[deps] at z;omega) (by simp only[deps] at z';omega)
          | succ j =>
            have q:=gQ I ds es vr vr' _ _ A h3 h3' rr rr' (by omega) (by simp only[deps] at z;omega) (by simp only[deps] at z';omega) j u u' (by simpa using e1) (by simpa using e2)
            simpa[eJ] using q
end
theorem rD(I:Inv X pins σ H s){d d':D}{v v':V}{u u':Value}(A:Around)(h:Rep X.K H d v)(h':Rep X.K H d' v')(r:RelV v u)(r':RelV v' u')(hu:A.units+dep d<cLine)(z:dep d<1000)(z':dep d'<1000):RcAt A s u u' (deq d d')/\RcNeAt A s u u' (!deq d d'):=by
  have hu0:A.units<cLine:=Nat.lt_of_le_of_lt (Nat.le_add_right _ _) hu
  cases d with
  | exc _=>exact absurd z (by simp[dep])
  | dic _ _=>exact absurd z (by simp[dep])
  | non =>
    simp only[Rep] at h;subst h;cases (show u=Value.none from r)
    cases d' with
    | exc _=>exact absurd z' (by simp[dep])
    | dic _ _=>exact absurd z' (by simp[dep])
    | non=>simp only[Rep] at h';subst h';cases (show u'=Value.none from r');exact⟨RcAt.none_none,RcNeAt.none_none⟩
    | bl b=>simp only[Rep] at h';subst h';cases (show u'=Value.bool b from r');exact⟨RcAt.none_bool b,RcNeAt.none_bool b⟩
    | int i=>simp only[Rep] at h';subst h';obtain⟨t,rfl⟩:=r';exact⟨RcAt.none_int i t,RcNeAt.none_int i t⟩
    | str x=>simp only[Rep] at h';subst h';obtain⟨t,rfl⟩:=r';exact⟨RcAt.none_str x t,RcNeAt.none_str x t⟩
    | tup es=>simp only[Rep] at h';obtain⟨a,vs,rfl,h2,h3⟩:=h';cases (show u'=Value.ref a from r');obtain⟨its,_,p⟩:=isT I h2;exact⟨RcAt.none_tuple p hu0,RcNeAt.none_tuple p hu0⟩
    | lst es=>simp only[Rep] at h';obtain⟨a,vs,rfl,h2,h3⟩:=h';cases (show u'=Value.ref a from r');obtain⟨its,_,p⟩:=isL I h2;exact⟨RcAt.none_list p hu0,RcNeAt.none_list p hu0⟩
  | bl c =>
    simp only[Rep] at h;subst h;cases (show u=Value.bool c from r)
    cases d' with
    | exc _=>exact absurd z' (by simp[dep])
    | dic _ _=>exact absurd z' (by simp[dep])
    | non=>simp only[Rep] at h';subst h';cases (show u'=Value.none from r');exact⟨RcAt.bool_none c,RcNeAt.bool_none c⟩
    | bl b=>simp only[Rep] at h';subst h';cases (show u'=Value.bool b from r');exact⟨RcAt.bool_bool c b,RcNeAt.bool_bool c b⟩
    | int i=>simp only[Rep] at h';subst h';obtain⟨t,rfl⟩:=r';exact⟨RcAt.bool_int c i t,RcNeAt.bool_int c i t⟩
    | str x=>simp only[Rep] at h';subst h';obtain⟨t,rfl⟩:=r';exact⟨RcAt.bool_str c x t,RcNeAt.bool_str c x t⟩
    | tup es=>simp only[Rep] at h';obtain⟨a,vs,rfl,h2,h3⟩:=h';cases (show u'=Value.ref a from r');obtain⟨its,_,p⟩:=isT I h2;exact⟨RcAt.bool_tuple c p hu0,RcNeAt.bool_tuple c p hu0⟩
    | lst es=>simp only[Rep] at h';obtain⟨a,vs,rfl,h2,h3⟩:=h';cases (show u'=Value.ref a from r');obtain⟨its,_,p⟩:=isL I h2;exact⟨RcAt.bool_list c p hu0,RcNeAt.bool_list c p hu0⟩
  | int c =>
    simp only[Rep] at h;subst h;obtain⟨t0,rfl⟩:=r
    cases d' with
    | exc _=>exact absurd z' (by simp[dep])
    | dic _ _=>exact absurd z' (by simp[dep])
    | non=>simp only[Rep] at h';subst h';cases (show u'=Value.none from r');exact⟨RcAt.int_none c t0,RcNeAt.int_none c t0⟩
    | bl b=>simp only[Rep] at h';subst h';cases (show u'=Value.bool b from r');exact⟨RcAt.int_bool c t0 b,RcNeAt.int_bool c t0 b⟩
    | int i=>simp only[Rep] at h';subst h';obtain⟨t,rfl⟩:=r';exact⟨RcAt.int_int c t0 i t,RcNeAt.int_int c t0 i t⟩
    | str x=>simp only[Rep] at h';subst h';obtain⟨t,rfl⟩:=r';exact⟨RcAt.int_str c t0 x t,RcNeAt.int_str c t0 x t⟩
    | tup es=>simp only[Rep] at h';obtain⟨a,vs,rfl,h2,h3⟩:=h';cases (show u'=Value.ref a from r');obtain⟨its,_,p⟩:=isT I h2;exact⟨RcAt.int_tuple c t0 p hu0,RcNeAt.int_tuple c t0 p hu0⟩
    | lst es=>simp only[Rep] at h';obtain⟨a,vs,rfl,h2,h3⟩:=h';cases (show u'=Value.ref a from r');obtain⟨its,_,p⟩:=isL I h2;exact⟨RcAt.int_list c t0 p hu0,RcNeAt.int_list c t0 p hu0⟩
  | str c =>
    simp only[Rep] at h;subst h;obtain⟨t0,rfl⟩:=r
    cases d' with
    | exc _=>exact absurd z' (by simp[dep])
    | dic _ _=>exact absurd z' (by simp[dep])
    | non=>simp only[Rep] at h';subst h';cases (show u'=Value.none from r');exact⟨RcAt.str_none c t0,RcNeAt.str_none c t0⟩
    | bl b=>simp only[Rep] at h';subst h';cases (show u'=Value.bool b from r');exact⟨RcAt.str_bool c t0 b,RcNeAt.str_bool c t0 b⟩
    | int i=>simp only[Rep] at h';subst h';obtain⟨t,rfl⟩:=r';exact⟨RcAt.str_int c t0 i t,RcNeAt.str_int c t0 i t⟩
    | str x=>simp only[Rep] at h';subst h';obtain⟨t,rfl⟩:=r';exact⟨RcAt.str_str c t0 x t,RcNeAt.str_str c t0 x t⟩
    | tup es=>simp only[Rep] at h';obtain⟨a,vs,rfl,h2,h3⟩:=h';cases (show u'=Value.ref a from r');obtain⟨its,_,p⟩:=isT I h2;exact⟨RcAt.str_tuple c t0 p hu0,RcNeAt.str_tuple c t0 p hu0⟩
    | lst es=>simp only[Rep] at h';obtain⟨a,vs,rfl,h2,h3⟩:=h';cases (show u'=Value.ref a from r');obtain⟨its,_,p⟩:=isL I h2;exact⟨RcAt.str_list c t0 p hu0,RcNeAt.str_list c t0 p hu0⟩
  | tup ds =>
    simp only[Rep] at h;obtain⟨a,vs,rfl,h2,h3⟩:=h;cases (show u=Value.ref a from r);obtain⟨its,rv,p⟩:=isT I h2
    have hu1:A.in1.units+deps ds<cLine:=by have:dep (.tup ds)=deps ds+1:=rfl;rw[gq];omega
    cases d' with
    | exc _=>exact absurd z' (by simp[dep])
    | dic _ _=>exact absurd z' (by simp[dep])
    | non=>simp only[Rep] at h';subst h';cases (show u'=Value.none from r');exact⟨RcAt.tuple_none p hu0,RcNeAt.tuple_none p hu0⟩
    | bl b=>simp only[Rep] at h';subst h';cases (show u'=Value.bool b from r');exact⟨RcAt.tuple_bool b p hu0,RcNeAt.tuple_bool b p hu0⟩
    | int i=>simp only[Rep] at h';subst h';obtain⟨t,rfl⟩:=r';exact⟨RcAt.tuple_int i t p hu0,RcNeAt.tuple_int i t p hu0⟩
    | str x=>simp only[Rep] at h';subst h';obtain⟨t,rfl⟩:=r';exact⟨RcAt.tuple_str x t p hu0,RcNeAt.tuple_str x t p hu0⟩
    | tup es =>
      simp only[Rep] at h';obtain⟨b,us,rfl,h2',h3'⟩:=h';cases (show u'=Value.ref b from r');obtain⟨its',rv',p'⟩:=isT I h2'
      have l1:=h3.length;have l2:=rv.length;have l3:=h3'.length;have l4:=rv'.length
      have he:∀ j (g1:j<its.toArray.size) (g2:j<its'.toArray.size),EqAt A.in1 s its.toArray[j] its'.toArray[j] (eJ ds es j):=fun j g1 g2=>gQ I ds es vs us its its' A.in1 h3 h3' rv rv' hu1 (by simp only[dep] at z;omega) (by simp only[dep] at z';omega) j _ _ (by simp at g1 ⊢) (by simp at g2 ⊢)
      have q:=RcAt.tuples p p' hu0 he
      have q':=RcNeAt.tuples p p' hu0 he
      rw[List.size_toArray,List.size_toArray,<- l2,<- l1,<- l4,<- l3,v9] at q q'
      exact⟨q,q'⟩
    | lst es=>simp only[Rep] at h';obtain⟨a,vs,rfl,h2,h3⟩:=h';cases (show u'=Value.ref a from r');obtain⟨its,_,p'⟩:=isL I h2;exact⟨RcAt.tuple_list p p' hu0,RcNeAt.tuple_list p p' hu0⟩
  | lst ds =>
    simp only[Rep] at h;obtain⟨a,vs,rfl,h2,h3⟩:=h;cases (show u=Value.ref a from r);obtain⟨its,rv,p⟩:=isL I h2
    have hu1:A.in1.units+deps ds<cLine:=by have:dep (.lst ds)=deps ds+1:=rfl;rw[gq];omega
    cases d' with
    | exc _=>exact absurd z' (by simp[dep])
    | dic _ _=>exact absurd z' (by simp[dep])
    | non=>simp only[Rep] at h';subst h';cases (show u'=Value.none from r');exact⟨RcAt.list_none p hu0,RcNeAt.list_none p hu0⟩
    | bl b=>simp only[Rep] at h';subst h';cases (show u'=Value.bool b from r');exact⟨RcAt.list_bool b p hu0,RcNeAt.list_bool b p hu0⟩
    | int i=>simp only[Rep] at h';subst h';obtain⟨t,rfl⟩:=r';exact⟨RcAt.list_int i t p hu0,RcNeAt.list_int i t p hu0⟩
    | str x=>simp only[Rep] at h';subst h';obtain⟨t,rfl⟩:=r';exact⟨RcAt.list_str x t p hu0,RcNeAt.list_str x t p hu0⟩
    | lst es =>
      simp only[Rep] at h';obtain⟨b,us,rfl,h2',h3'⟩:=h';cases (show u'=Value.ref b from r');obtain⟨its',rv',p'⟩:=isL I h2'
      have l1:=h3.length;have l2:=rv.length;have l3:=h3'.length;have l4:=rv'.length
      by_cases hl:ds.length=es.length
      · have he:∀ j (g1:j<its.toArray.size) (g2:j<its'.toArray.size),EqAt A.in1 s its.toArray[j] its'.toArray[j] (eJ ds es j):=fun j g1 g2=>gQ I ds es vs us its its' A.in1 h3 h3' rv rv' hu1 (by simp only[dep] at z;omega) (by simp only[dep] at z';omega) j _ _ (by simp at g1 ⊢) (by simp at g2 ⊢)
        have q:=RcAt.lists p p' (by simp;omega) hu0 he
        have q':=RcNeAt.lists p p' (by simp;omega) hu0 he
        rw[List.size_toArray,<- l2,<- l1,v8 _ _ hl] at q q'
        exact⟨q,q'⟩
      · rw[show deq (.lst ds) (.lst es)=mq ds es from rfl,mj hl]
        exact⟨RcAt.lists_lengths p p' (by simp;omega) hu0,RcNeAt.lists_lengths p p' (by simp;omega) hu0⟩
    | tup es=>simp only[Rep] at h';obtain⟨a,vs,rfl,h2,h3⟩:=h';cases (show u'=Value.ref a from r');obtain⟨its,_,p'⟩:=isT I h2;exact⟨RcAt.list_tuple p p' hu0,RcNeAt.list_tuple p p' hu0⟩
end
end L2
namespace L2
open PySem PySem.Spec PyProof.Rows DE PySem.SeqAt
def mH(X:Cx)(e:Expr):TE:=fun σ H Q=>∀ pins s,Inv X pins σ H s->wpAny (model X.prog X.w) X.A (eval e X.env) (EP X pins σ Q) X.xe s
def xK(X:Cx)(e:Expr):TT:=fun σ H Q=>∀ pins s,Inv X pins σ H s->wpAny (model X.prog X.w) X.A (isTrue e X.env (eval e X.env)) (TP X pins σ Q) X.xe s
def uo(X:Cx)(es:List Expr):TA:=fun σ H Q=>∀ pos pins s,Inv X pins σ H s->wpAny (model X.prog X.w) X.A (spliced (backTo pos (starEach es X.env))) (AP X pins σ Q) X.xe s
def oZ(X:Cx)(tg iter:Expr):TI:=fun σ H R=>∀ pins s,Inv X pins σ H s->wpAny (model X.prog X.w) X.A (eval iter X.env) (fun v s1=>wpAny (model X.prog X.w) X.A (pyIter v) (PIE X pins σ tg R) X.xe s1) X.xe s
section
variable {X:Cx} {e:Expr}
theorem aq:PE X e (mH X e):=fun pins s σ H Q I h=>h pins s I
theorem dW:PT X e (xK X e):=fun pins s σ H Q I h=>h pins s I
theorem cT{es:List Expr}:PA X es (uo X es):=fun pos pins s σ H Q I h=>h pos pins s I
theorem iG{tg iter:Expr}:PI X tg iter (oZ X tg iter):=fun pins s σ H R I h=>h pins s I
theorem PE.sem{t:TE}{σ:St}{H:Hp}{Q:VK}(h:PE X e t)(q:t σ H Q):mH X e σ H Q:=fun pins s I=>h pins s σ H Q I q
theorem PT.sem{t:TT}{σ:St}{H:Hp}{Q:Bool->Hp->Prop}(h:PT X e t)(q:t σ H Q):xK X e σ H Q:=fun pins s I=>h pins s σ H Q I q
theorem PA.sem{es:List Expr}{t:TA}{σ:St}{H:Hp}{Q:List V->Hp->Prop}(h:PA X es t)(q:t σ H Q):uo X es σ H Q:=fun pos pins s I=>h pos pins s σ H Q I q
theorem PI.sem{tg iter:Expr}{t:TI}{σ:St}{H:Hp}{R:It->Hp->Prop}(h:PI X tg iter t)(q:t σ H R):oZ X tg iter σ H R:=fun pins s I=>h pins s σ H R I q
end
def cH(K:PySem.W.Frag)(Hs:Hp)(ρ:Rho)(σ:St):Prop:=∀ (i:Nat) (x:Str) (d:D),ρ[i]?=some (x,.sh d)->∃ v,σ[i]?=some (some v)/\Rep K Hs d v
theorem cH.same{K:PySem.W.Frag}{Hs Hs':Hp}{ρ:Rho}{σ:St}(h:cH K Hs ρ σ)(e:Same Hs Hs'):cH K Hs' ρ σ:=fun i x d q=>by
 obtain⟨v,e1,e2⟩:=h i x d q
 exact⟨v,e1,Rep.same e d v e2⟩
def JZ(K:PySem.W.Frag)(J:It)(Hs0:Hp)(ds:List D):Prop:=∀ Hs H,Same Hs0 Hs->Same Hs H->J.stop ds.length H/\∀ (i:Nat) (d:D),ds[i]?=some d->J.go i H/\∀ x H',J.yld i H x H'->∃ Hs',Ext Hs H Hs' H'/\Rep K Hs' d x
def Ev(X:Cx)(ρ:Rho)(e:Expr)(d:D):Prop:=∀ σ H Hs Q,Same Hs H->cH X.K Hs ρ σ->(∀ v H' Hs',Ext Hs H Hs' H'->Rep X.K Hs' d v->Q v H')->mH X e σ H Q
def EvT(X:Cx)(ρ:Rho)(e:Expr)(b:Bool):Prop:=∀ σ H Hs Q,Same Hs H->cH X.K Hs ρ σ->(∀ H' Hs',Ext Hs H Hs' H'->Q b H')->xK X e σ H Q
def EvA(X:Cx)(ρ:Rho)(es:List Expr)(ds:List D):Prop:=∀ σ H Hs Q,Same Hs H->cH X.K Hs ρ σ->(∀ vs H' Hs',Ext Hs H Hs' H'->aM X.K Hs' ds vs->Q vs H')->uo X es σ H Q
def EvI(X:Cx)(ρ:Rho)(tg iter:Expr)(ds:List D):Prop:=∀ σ H Hs R,Same Hs H->cH X.K Hs ρ σ->(∀ J H' Hs',Ext Hs H Hs' H'->JZ X.K J Hs' ds->R J H')->oZ X tg iter σ H R
def spX(K:PySem.W.Frag)(call:Str->List D->Option D)(callx:Str->List D->Option Str)(f:Str)(ps:List Str):Sp:=fun vs H Q E=>vs.length=ps.length/\∃ Hs ds,Same Hs H/\aM K Hs ds vs /\
 ((∃ d,call f ds=some d/\∀ v H' Hs',Ext Hs H Hs' H'->Rep K Hs' d v->Q v H')\/(∃ c,callx f ds=some c/\∀ C H' Hs',PySem.W.nsIn K mainGlobals c=some (some (.ref C))->Ext Hs H Hs' H'->E (.ref C) none H'))
def zO(K:PySem.W.Frag)(exs:List Str)(top:Str):Bool:=match PySem.W.nsIn K mainGlobals top with
  | some (some (.ref M)) => exs.all fun c => match PySem.W.nsIn K mainGlobals c with
    | some (some (.ref C)) => xIn K C M && lB K C && PySem.W.exmOne K (.ref C) (.ref M) == some true && PySem.W.kitOne K (.ref C) (.ref M) == some true && PySem.W.kitOne K (.ref C) (.type "ValueError") == some true &&
      exs.all fun c'=>match PySem.W.nsIn K mainGlobals c' with
        | some (some (.ref C'))=>PySem.W.kitOne K (.ref C) (.ref C')==some (c==c')
        | _=>false
    | _=>false
  | _=>exs.isEmpty
structure XText (K:PySem.W.Frag) (mg:Str->Option Value) (exs:List Str) (top:Str):Prop where
 glob:∀ x v,PySem.W.nsIn K mainGlobals x=some (some v)->mg x=some v
 cls:∀ c,exs.contains c=true->∃ C M,PySem.W.nsIn K mainGlobals c=some (some (.ref C))/\PySem.W.nsIn K mainGlobals top=some (some (.ref M))/\xIn K C M=true/\lB K C=true/\PySem.W.exmOne K (.ref C) (.ref M)=some true/\PySem.W.kitOne K (.ref C) (.ref M)=some true/\PySem.W.kitOne K (.ref C) (.type "ValueError")=some true
 sub:∀ c c',exs.contains c=true->exs.contains c'=true->∃ C C',PySem.W.nsIn K mainGlobals c=some (some (.ref C))/\PySem.W.nsIn K mainGlobals c'=some (some (.ref C'))/\PySem.W.kitOne K (.ref C) (.ref C')=some (c==c')
theorem XText.of{K:PySem.W.Frag}{mg:Str->Option Value}{exs:List Str}{top:Str}(hg:∀ x v,PySem.W.nsIn K mainGlobals x=some (some v)->mg x=some v)(h:zO K exs top=true):XText K mg exs top:=by
 unfold zO at h
 split at h
 ·rename_i M hM
  have all:=fun c (hc:exs.contains c=true)=>List.all_eq_true.mp h c (by simpa using hc)
  refine⟨hg,fun c hc=>?_,fun c c' hc hc'=>?_⟩
  ·have q:=all c hc
   split at q
   ·rename_i C hC
    simp only[Bool.and_eq_true,beq_iff_eq] at q
    exact⟨C,M,hC,hM,q.1.1.1.1.1,q.1.1.1.1.2,q.1.1.1.2,q.1.1.2,q.1.2⟩
   ·cases q
  ·have q:=all c hc
   split at q
   ·rename_i C hC
    simp only[Bool.and_eq_true] at q
    have q2:=List.all_eq_true.mp q.2 c' (by simpa using hc')
    split at q2
    ·rename_i C' hC'
     exact⟨C,C',hC,hC',by simpa using q2⟩
    ·cases q2
   ·cases q
 ·have e:exs=[]:=by simpa using h
  subst e
  exact⟨hg,fun c hc=>absurd hc (by simp),fun c c' hc=>absurd hc (by simp)⟩
structure Good (cx:Cxt) (k:Nat) (X:Cx) (sc:Scope):Prop where
 calm:X.calm=true
 room:Room k X.A
 sce:X.env.scope=sc
 kind:sc.kind=.function
 nd:X.N.Nodup
 cst:∀ x d,cx.cst.lookup x=some d->∃ v u,(∀ H,Rep X.K H d v)/\X.mg x=some u/\RelV v u
 blt:∀ x b,cx.blt.lookup x=some b->X.mg x=none/\x=Str.ofString b
 exs:XText X.K X.mg cx.exs cx.top
 fns:∀ f,cx.fns.contains f=true->(f==("__debug__":Str))=false/\∃ a fd ps,(∀ ds d,cx.call f ds=some d->ds.length=ps.length)/\(∀ ds c,cx.callx f ds=some c->ds.length=ps.length)/\X.mg f=some (.ref a)/\PySem.W.keepIn X.K (.ref a)=true/\Binds X.K fd ps []/\FnOk X.prog X.w X.K X.mg X.base (CX1 X.prog X.w) k a fd ps (spX X.K cx.call cx.callx f ps)
 kw:KnW X.K X.w
section
variable {X:Cx} {ρ:Rho} {cx:Cxt} {k:Nat} {sc:Scope}
theorem cg:∀ {ρ:Rho} {x:Str} {s:Sl},ρ.lookup x=some s->∃ i:Nat,ρ[i]?=some (x,s)/\(ρ.map (·.1)).idxOf? x=some i
  | (y, t) :: r, x, s, h => by
    rw[List.lookup_cons] at h
    cases hb:x==y with
    | true =>
      rw[hb] at h
      cases h
      have:x=y:=by simpa using hb
      subst this
      exact⟨0,rfl,by simp[List.idxOf?,List.findIdx?_cons]⟩
    | false =>
      rw[hb] at h
      obtain⟨i,h1,h2⟩:=cg h
      refine⟨i+1,by simpa using h1,?_⟩
      have hy:(y==x)=false:=by
        rw[beq_eq_false_iff_ne] at hb ⊢
        exact fun e=>hb e.symm
      simp only[List.map_cons,List.idxOf?,List.findIdx?_cons,hy,Bool.false_eq_true,if_false]
      simp only[List.idxOf?] at h2
      rw[h2];rfl
theorem EY{x:Str}{d:D}{pos:Pos}(hN:X.N=ρ.map (·.1))(hv:Vis X.env.scope x)(hp:aA x=true)(h:ρ.lookup x=some (.sh d)):Ev X ρ (.Name x pos) d:=by
 intro σ H Hs Q hs hr hq
 obtain⟨i,h1,_⟩:=cg h
 obtain⟨v,e1,e2⟩:=hr i x d h1
 unfold aA at hp
 rw[Bool.and_eq_true,bne_iff_ne,bne_iff_ne] at hp
 refine PE.sem (gD (i:=i) (by rw[hN,List.getElem?_map,h1];rfl) hv (by simpa using hp.1) (by simpa using hp.2)) ⟨v,e1,hq v H Hs (.refl hs) e2⟩
theorem JL{x:Str}{d:D}{v:V}{u:Value}{pos:Pos}(hg:Gl X x)(hd:∀ H,Rep X.K H d v)(hm:X.mg x=some u)(r:RelV v u)(hp:aA x=true):Ev X ρ (.Name x pos) d:=by
 intro σ H Hs Q hs hr hq
 unfold aA at hp
 rw[Bool.and_eq_true,bne_iff_ne,bne_iff_ne] at hp
 exact PE.sem (pA hg hm r (by simpa using hp.1)) (hq _ H Hs (.refl hs) (hd Hs))
theorem zc{c:Const}{d:D}{j:Nat}{pos:Pos}(h:(match c with | .none=>some D.non | .bool b=>some (.bl b) | .int i=>some (.int i) | .str x=>some (.str x) | _=>none)=some d):Ev X ρ (.Constant c j pos) d:=by
 intro σ H Hs Q hs hr hq
 cases c<;>simp at h<;>subst h
 ·exact PE.sem Ih (hq _ H Hs (.refl hs) (by simp[Rep]))
 ·exact PE.sem LQ (hq _ H Hs (.refl hs) (by simp[Rep]))
 ·exact PE.sem Ii (hq _ H Hs (.refl hs) (by simp[Rep]))
 ·exact PE.sem Ac (hq _ H Hs (.refl hs) (by simp[Rep]))
theorem d9{a b:Expr}{x y d:D}{r:R2}{e:Expr}(ha:Ev X ρ a x)(hb:Ev X ρ b y)(hp:PE X e (tOp r (mH X a) (mH X b)))
  (hr:∀ u v H Hs Q,Same Hs H->Rep X.K Hs x u->Rep X.K Hs y v->(∀ w H' Hs',Ext Hs H Hs' H'->Rep X.K Hs' d w->Q w H')->r u v H Q):Ev X ρ e d:=by
 intro σ H Hs Q hs hst hq
 refine hp.sem (ha σ H Hs _ hs hst fun u H1 Hs1 E1 r1=>hb σ H1 Hs1 _ E1.sub (hst.same E1.vis) fun v H2 Hs2 E2 r2=>?_)
 exact hr u v H2 Hs2 Q E2.sub (Rep.same E2.vis x u r1) r2 fun w H' Hs' E3 r3=>hq w H' Hs' (E1.trans (E2.trans E3)) r3
theorem qH{i:Int}(h:small i=true):-(2^64)<i/\i<2^64:=by
 unfold small at h
 rw[Bool.and_eq_true,decide_eq_true_eq,decide_eq_true_eq] at h
 exact h
theorem fV{n:Nat}(h:szl n=true):n<=sizeLine:=by
 unfold szl at h
 rw[decide_eq_true_eq] at h
 exact Nat.le_trans h (by rw[sizeLine_eq];decide)
theorem qw{n:Nat}(h:szl n=true):n<sizeLine:=by
 unfold szl at h
 rw[decide_eq_true_eq] at h
 exact Nat.lt_of_le_of_lt h (by rw[sizeLine_eq];decide)
theorem aG{K:PySem.W.Frag}{H:Hp}{i:Int}{v:V}(h:Rep K H (.int i) v):v=.int i:=by simpa[Rep] using h
theorem cQ{K:PySem.W.Frag}{H:Hp}{i:Bool}{v:V}(h:Rep K H (.bl i) v):v=.bl i:=by simpa[Rep] using h
theorem bL{K:PySem.W.Frag}{H:Hp}{ds:List D}{v:V}(h:Rep K H (.tup ds) v):∃ a vs,v=.ref a/\SqT K H a vs/\aM K H ds vs:=by simpa[Rep] using h
theorem bH{K:PySem.W.Frag}{H:Hp}{ds:List D}{v:V}(h:Rep K H (.lst ds) v):∃ a vs,v=.ref a/\SqL K H a vs/\aM K H ds vs:=by simpa[Rep] using h
theorem jw{Hs H:Hp}{ds:List D}{vs:List V}{p:Addr}{Q:VK}(hs:Same Hs H)(hr:aM X.K Hs ds vs)(hp:H p=none)(hq:∀ w H' Hs',Ext Hs H Hs' H'->Rep X.K Hs' (.tup ds) w->Q w H'):Q (.ref p) (upd H p (.tup vs)) :=
 hq _ _ _ (Ext.new hs (.tup vs) hp) (by simp only[Rep];exact⟨p,vs,rfl,.of aW,aM.same (Ext.new hs (.tup vs) hp).vis ds vs hr⟩)
theorem fH{Hs H:Hp}{ds:List D}{vs:List V}{p:Addr}{Q:VK}(hs:Same Hs H)(hr:aM X.K Hs ds vs)(hp:H p=none)(hq:∀ w H' Hs',Ext Hs H Hs' H'->Rep X.K Hs' (.lst ds) w->Q w H'):Q (.ref p) (upd H p (.lst vs)) :=
 hq _ _ _ (Ext.new hs (.lst vs) hp) (by simp only[Rep];exact⟨p,vs,rfl,.of aW,aM.same (Ext.new hs (.lst vs) hp).vis ds vs hr⟩)
def Lx(K:PySem.W.Frag):R2:=fun x y H Q=>∃ a b xs ys,x=.ref a/\y=.ref b/\SqT K H a xs/\SqT K H b ys/\xs.length+ys.length<=sizeLine /\
 (xs=[]->Q (.ref b) H)/\(xs≠[]->ys=[]->Q (.ref a) H)/\(xs≠[]->ys≠[]->∀ p,H p=none->Q (.ref p) (upd H p (.tup (xs++ys))))
theorem Dw:OpR X (binaryOp .Add) (Lx X.K):=by
 intro pins s σ H x y v u Q I rx ry h
 obtain⟨a,b,xs,ys,rfl,rfl,ha,hb,hz,q0,q1,q2⟩:=h
 by_cases hx:xs=[]
 ·subst hx
  cases (show v=Value.ref a from rx)
  cases (show u=Value.ref b from ry)
  obtain⟨its,r1,p1,_⟩:=I.tuple ha
  obtain⟨its2,r2,p2,_⟩:=I.tuple hb
  have e0:its=[]:=r1.nil_iff.mpr rfl
  subst e0
  obtain⟨⟨c,dd,data,sl⟩,ho,hc,n,hd⟩:=id p1
  obtain⟨⟨c2,dd2,data2,sl2⟩,ho2,hc2,n2,hd2⟩:=id p2
  simp only at hc hd hc2 hd2
  subst hc hd hc2 hd2
  exact concat_meets ⟨_,ho,rfl⟩ ⟨_,ho2,rfl⟩ noFill_tuple_add seq_tuple_add PySem.F.slot_tuple_add PySem.F.entry_tuple_add (PySem.F.args_tuple_add_2 _ _) (tuple_addW0 a b _ its2.toArray n n2 dd dd2 sl sl2 rfl) ⟨ho,ho2,.ref b,H,I,rfl,q0 rfl⟩
 ·exact Du pins s σ H (.ref a) (.ref b) v u Q I rx ry ⟨a,b,xs,ys,rfl,rfl,ha,hb,hx,hz,q1 hx,q2 hx⟩
theorem aM.rep{K:PySem.W.Frag}{H:Hp}{ds:List D}{vs:List V}(h:aM K H ds vs):∀ n:Nat,aM K H (List.replicate n ds).flatten (List.replicate n vs).flatten
  | 0=>by simp[aM]
  | n + 1 => by
    simp only[List.replicate_succ,List.flatten_cons]
    exact h.append (h.rep n)
def J1(i j:Int):Prop:=RZ i j\/(i.natAbs.log2<10000/\j.natAbs.log2<10000)
theorem Ao{i:Int}(h:mid i=true):i.natAbs.log2<10000:=by unfold mid at h;simpa using h
theorem rJ{i:Int}(h:i.natAbs.log2<10000):Builtin.Int.intBits i<=2^20:=by
 unfold Builtin.Int.intBits
 split<;>omega
theorem Dr:OpR X (binaryOp .Mult) (rI J1 fun i j=>.int (i*j)):=opI fun _ _ _ _ _ _ _ hc q=>mul_int q (hc.elim (fun z=>z.ok) fun z=>.of_bits (rJ z.1) (rJ z.2))
def R0(i j:Int):Prop:=j≠0/\j.natAbs.log2<9000
theorem yu:OpR X (binaryOp .FloorDiv) (rI R0 fun i j=>.int (i.fdiv j)):=opI fun _ _ _ _ _ _ _ hc q=>floordiv_int hc.1 q (.inl (PyProof.noPylong_of_log2 hc.2))
theorem zq{a b:Expr}{op:Operator}{x y d:D}{pos:Pos}(ha:Ev X ρ a x)(hb:Ev X ρ b y)(h:binop op x y=some d):Ev X ρ (.BinOp a op b pos) d:=by
 unfold binop at h
 split at h
 ·cases h
  exact d9 ha hb (iT Ag aq aq) fun u v H Hs Q hs r1 r2 hq=>⟨_,_,aG r1,aG r2,hq _ H Hs (.refl hs) (by simp[Rep])⟩
 ·split at h
  ·rename_i hz
   cases h
   refine d9 ha hb (iT Dw aq aq) fun u v H Hs Q hs r1 r2 hq=>?_
   obtain⟨p,us,rfl,h1,h2⟩:=bL r1
   obtain⟨q,ws,rfl,h3,h4⟩:=bL r2
   have l1:=h2.length
   have l2:=h4.length
   have nil:∀ (l:List D),l.length=0->l=[]:=fun l hl=>by cases l<;>simp at hl ⊢
   refine⟨p,q,us,ws,rfl,rfl,hs.tup h1,hs.tup h3,by have:=fV hz;omega,fun e=>?_,fun _ e=>?_,fun _ _ l hl=>jw hs (h2.append h4) hl hq⟩
   ·subst e
    have e2:=nil _ l1
    subst e2
    exact hq _ H Hs (.refl hs) r2
   ·subst e
    have e2:=nil _ l2
    subst e2
    refine hq _ H Hs (.refl hs) ?_
    rw[List.append_nil]
    exact r1
  ·cases h
 ·split at h
  ·rename_i hz
   cases h
   refine d9 ha hb (iT Dv aq aq) fun u v H Hs Q hs r1 r2 hq=>?_
   obtain⟨p,us,rfl,h1,h2⟩:=bH r1
   obtain⟨q,ws,rfl,h3,h4⟩:=bH r2
   have l1:=h2.length
   have l2:=h4.length
   exact⟨p,q,us,ws,rfl,rfl,hs.seq h1,hs.seq h3,by have:=fV hz;omega,fun l hl=>fH hs (h2.append h4) hl hq⟩
  ·cases h
 ·cases h
  exact d9 ha hb (iT Ij aq aq) fun u v H Hs Q hs r1 r2 hq=>⟨_,_,aG r1,aG r2,hq _ H Hs (.refl hs) (by simp[Rep])⟩
 ·split at h
  ·rename_i hz
   cases h
   rw[Bool.or_eq_true,Bool.or_eq_true,Bool.and_eq_true] at hz
   have hz':J1 _ _:=hz.elim (fun z=>z.elim (fun z=>.inl (.inl (qH z))) (fun z=>.inl (.inr (qH z)))) (fun z=>.inr ⟨Ao z.1,Ao z.2⟩)
   exact d9 ha hb (iT Dr aq aq) fun u v H Hs Q hs r1 r2 hq=>⟨_,_,aG r1,aG r2,hz',hq _ H Hs (.refl hs) (by simp[Rep])⟩
  ·cases h
 ·split at h
  ·rename_i hz
   cases h
   rw[Bool.and_eq_true,Bool.and_eq_true,decide_eq_true_eq,decide_eq_true_eq] at hz
   refine d9 ha hb (iT uU aq aq) fun u v H Hs Q hs r1 r2 hq=>?_
   obtain⟨p,us,rfl,h1,h2⟩:=bH r1
   have l1:=h2.length
   exact⟨p,_,us,rfl,aG r2,hs.seq h1,by omega,by omega,by have:=fV hz.2;rw[<- l1];exact this,fun l hl=>fH hs (h2.rep _) hl hq⟩
  ·cases h
 ·simp at h
 ·split at h
  ·rename_i hz
   cases h
   rw[Bool.and_eq_true,decide_eq_true_eq,decide_eq_true_eq] at hz
   exact d9 ha hb (iT Dt aq aq) fun u v H Hs Q hs r1 r2 hq=>⟨_,_,aG r1,aG r2,hz,hq _ H Hs (.refl hs) (by simp[Rep])⟩
  ·split at h
   ·rename_i hz
    cases h
    rw[Bool.and_eq_true,decide_eq_true_eq,decide_eq_true_eq] at hz
    exact d9 ha hb (iT yu aq aq) fun u v H Hs Q hs r1 r2 hq=>⟨_,_,aG r1,aG r2,hz,hq _ H Hs (.refl hs) (by simp[Rep])⟩
   ·cases h
 ·split at h
  ·rename_i hz
   cases h
   rw[decide_eq_true_eq] at hz
   exact d9 ha hb (iT Ik aq aq) fun u v H Hs Q hs r1 r2 hq=>⟨_,_,aG r1,aG r2,hz,hq _ H Hs (.refl hs) (by simp[Rep])⟩
  ·split at h
   ·rename_i hz
    cases h
    rw[decide_eq_true_eq] at hz
    exact d9 ha hb (iT Ds aq aq) fun u v H Hs Q hs r1 r2 hq=>⟨_,_,aG r1,aG r2,hz,hq _ H Hs (.refl hs) (by simp[Rep])⟩
   ·cases h
 ·cases h
end
end L2
namespace L2
open PySem PySem.Spec PyProof.Rows DE PySem.SeqAt
section
variable {X:Cx} {ρ:Rho} {cx:Cxt} {k:Nat} {sc:Scope}
theorem ao{e:Expr}{es:List Expr}{env:Env}(h:aB e=true):starEach (e::es) env=(false,eval e env)::starEach es env:=by
 cases e<;>first | rfl | (simp[aB] at h)
theorem gC{e:Expr}(h:aB e=true):wO e:=by
 intro o i
 cases e<;>first | rfl | (simp[aB] at h)
theorem cX{e:Expr}{env:Env}(h:aB e=true)(x:Value):foldedSetIterable e env x=pure x:=by
 cases e<;>first | rfl | (simp[aB] at h)
theorem iw{e:Expr}{op:CmpOp}(h:aB e=true):behindInMarks op e=false:=by
 cases e<;>first | rfl | (simp[aB] at h)
theorem fD{env:Env}{pos:Pos}:∀ {es:List Expr},(∀ e∈es,aB e=true)->(backTo pos (starEach es env)).any (·.1)=false
  | [],_=>rfl
  | e :: es, h => by
    rw[ao (h e List.mem_cons_self)]
    have ih:=fD (env:=env) (pos:=pos) fun e' he=>h e' (List.mem_cons_of_mem _ he)
    show((false:Bool)||(backTo pos (starEach es env)).any (·.1))=false
    rw[ih];rfl
theorem aX:∀ {n:Nat} {ρ:Rho} {e:Expr} {d:D},ev cx n sc ρ e=some d->aB e=true
  | 0,_,_,_,h=>by simp[ev] at h
  | n + 1, ρ, e, d, h => by
    cases e<;>first | rfl | (exact nomatch (show(Option.none:Option D)=some d from h))
def BR(X:Cx)(e:Expr):TT:=fun σ H Q=>∀ whole pins s,Inv X pins σ H s->wpAny (model X.prog X.w) X.A (isTrue e X.env whole) (TP X pins σ Q) X.xe s
def EvW(X:Cx)(ρ:Rho)(e:Expr)(b:Bool):Prop:=∀ σ H Hs Q,Same Hs H->cH X.K Hs ρ σ->(∀ H' Hs',Ext Hs H Hs' H'->Q b H')->BR X e σ H Q
theorem qL{e:Expr}:PW X e (BR X e):=fun whole pins s σ H Q I h=>h whole pins s I
theorem PW.sem{e:Expr}{t:TT}{σ:St}{H:Hp}{Q:Bool->Hp->Prop}(h:PW X e t)(q:t σ H Q):BR X e σ H Q:=fun whole pins s I=>h whole pins s σ H Q I q
theorem EvW.t{e:Expr}{b:Bool}(h:EvW X ρ e b):EvT X ρ e b:=fun σ H Hs Q hs hr hq pins s I=>h σ H Hs Q hs hr hq _ pins s I
theorem Fx{e:Expr}{b:Bool}(h:Ev X ρ e (.bl b))(he:∀ whole,isTrue e X.env whole=(do let v <- whole;standAt e.pos;holding [v] (truthy v))):EvT X ρ e b:=fun σ H Hs Q hs hr hq =>
 (zZ aq he).sem (h σ H Hs _ hs hr fun v H' Hs' E1 r1=>⟨b,cQ r1,hq H' Hs' E1⟩)
theorem JF{a:Expr}{b:Bool}{pos:Pos}(h:Ev X ρ a (.bl b)):Ev X ρ (.UnaryOp .Not a pos) (.bl (!b)):=fun σ H Hs Q hs hr hq =>
 (Ig aq).sem (h σ H Hs _ hs hr fun v H' Hs' E1 r1=>⟨b,cQ r1,hq _ H' Hs' E1 (by simp[Rep])⟩)
theorem Fy{a:Expr}{b:Bool}{pos:Pos}(h:EvT X ρ a b):EvT X ρ (.UnaryOp .Not a pos) (!b):=fun σ H Hs Q hs hr hq =>
 (z6 dW).sem (h σ H Hs _ hs hr fun H' Hs' E1=>hq H' Hs' E1)
theorem JG{a:Expr}{i:Int}{pos:Pos}(h:Ev X ρ a (.int i)):Ev X ρ (.UnaryOp .USub a pos) (.int (-i)):=fun σ H Hs Q hs hr hq =>
 (LK GK aq).sem (h σ H Hs _ hs hr fun v H' Hs' E1 r1=>⟨i,aG r1,hq _ H' Hs' E1 (by simp[Rep])⟩)
theorem nW{op:BoolOp}{f:Expr->Option D}{pos:Pos}:∀ {es:List Expr} {d:D},(∀ e∈es,∀ d,f e=some d->Ev X ρ e d/\∀ b,d=.bl b->EvT X ρ e b)->bY op f es=some d ->
    Ev X ρ (.BoolOp op es pos) d/\∀ b,d=.bl b->EvW X ρ (.BoolOp op es pos) b
  | [],d,_,h=>by simp[bY] at h
  | [e], d, hf, h => by
    obtain⟨h1,h2⟩:=hf e (by simp) d (by simpa[bY] using h)
    refine⟨fun σ H Hs Q hs hr hq=>(Ie aq).sem (h1 σ H Hs Q hs hr hq),fun b hb σ H Hs Q hs hr hq=>?_⟩
    cases op with
    | And=>exact(CJ dW).sem (h2 b hb σ H Hs Q hs hr hq)
    | Or=>exact(Hz dW).sem (h2 b hb σ H Hs Q hs hr hq)
  | e :: e' :: r, d, hf, h => by
    simp only[bY] at h
    cases he:f e with
    | none=>rw[he] at h;simp at h
    | some x =>
      rw[he] at h
      cases x with
      | bl c =>
        obtain⟨h1,h2⟩:=hf e (by simp) _ he
        have h2':=h2 c rfl
        simp only[asB,Option.bind_some,Option.bind_eq_bind,bind,Option.bind] at h
        have ih:=fun d' (q:bY op f (e'::r)=some d')=>nW (pos:=pos) (es:=e'::r) (fun a ha=>hf a (List.mem_cons_of_mem _ ha)) q
        cases op with
        | And =>
          cases c with
          | true =>
            simp only[if_true] at h
            obtain⟨i1,i2⟩:=ih d h
            refine⟨fun σ H Hs Q hs hr hq=>(Ae aq aq).sem (h1 σ H Hs _ hs hr fun v H' Hs' E1 r1=>⟨true,cQ r1,tR (i1 σ H' Hs' Q E1.sub (hr.same E1.vis) fun w H2 Hs2 E2 r2=>hq w H2 Hs2 (E1.trans E2) r2)⟩),fun b hb σ H Hs Q hs hr hq=>?_⟩
            exact(zX dW qL).sem (h2' σ H Hs _ hs hr fun H' Hs' E1=>tR (i2 b hb σ H' Hs' Q E1.sub (hr.same E1.vis) fun H2 Hs2 E2=>hq H2 Hs2 (E1.trans E2)))
          | false =>
            simp only[Bool.false_eq_true,if_false,Option.some.injEq] at h
            subst h
            refine⟨fun σ H Hs Q hs hr hq=>(Ae aq aq).sem (h1 σ H Hs _ hs hr fun v H' Hs' E1 r1=>⟨false,cQ r1,vH (hq _ H' Hs' E1 (by simp[Rep]))⟩),fun b hb σ H Hs Q hs hr hq=>?_⟩
            cases hb
            exact(zX dW qL).sem (h2' σ H Hs _ hs hr fun H' Hs' E1=>vH (hq H' Hs' E1))
        | Or =>
          cases c with
          | true =>
            simp only[if_true,Option.some.injEq] at h
            subst h
            refine⟨fun σ H Hs Q hs hr hq=>(Ib aq aq).sem (h1 σ H Hs _ hs hr fun v H' Hs' E1 r1=>⟨true,cQ r1,tR (hq _ H' Hs' E1 (by simp[Rep]))⟩),fun b hb σ H Hs Q hs hr hq=>?_⟩
            cases hb
            exact(HB dW qL).sem (h2' σ H Hs _ hs hr fun H' Hs' E1=>tR (hq H' Hs' E1))
          | false =>
            simp only[Bool.false_eq_true,if_false] at h
            obtain⟨i1,i2⟩:=ih d h
            refine⟨fun σ H Hs Q hs hr hq=>(Ib aq aq).sem (h1 σ H Hs _ hs hr fun v H' Hs' E1 r1=>⟨false,cQ r1,vH (i1 σ H' Hs' Q E1.sub (hr.same E1.vis) fun w H2 Hs2 E2 r2=>hq w H2 Hs2 (E1.trans E2) r2)⟩),fun b hb σ H Hs Q hs hr hq=>?_⟩
            exact(HB dW qL).sem (h2' σ H Hs _ hs hr fun H' Hs' E1=>vH (i2 b hb σ H' Hs' Q E1.sub (hr.same E1.vis) fun H2 Hs2 E2=>hq H2 Hs2 (E1.trans E2)))
      | _=>simp[asB] at h
def Lq(X:Cx)(op:CmpOp):R2:=fun u v H Q=>∃ Hs x y d,Same Hs H/\Rep X.K Hs x u/\Rep X.K Hs y v/\cmpop op x y=some d/\∃ b,d=.bl b/\Q (.bl b) H
theorem lJ{K:PySem.W.Frag}{H:Hp}{v:V}(h:Rep K H .non v):v=.non:=by simpa[Rep] using h
theorem qT{K:PySem.W.Frag}{H:Hp}{x:D}{v:V}(h:Rep K H x v):Ej x=decide (v=V.non):=by
  cases x with
  | non=>rw[lJ h];rfl
  | bl b=>rw[cQ h];rfl
  | int b=>rw[aG h];rfl
  | str b => have e : v = .str b := by simpa [Rep] using h
             rw[e];rfl
  | tup b=>obtain⟨a,vs,e,_⟩:=bL h;rw[e];rfl
  | lst b=>obtain⟨a,vs,e,_⟩:=bH h;rw[e];rfl
  | exc c=>simp only[Rep] at h;obtain⟨a,C,e,_⟩:=h;rw[e];rfl
  | dic k x=>simp only[Rep] at h;obtain⟨a,C,e,_⟩:=h;rw[e];rfl
theorem je{K:PySem.W.Frag}{H:Hp}:∀ {ds:List D} {ns:List Int} {vs:List V},oM ds=some ns->aM K H ds vs->vs=ns.map V.int
  | [], ns, vs, h, r => by
    simp only[oM,Option.some.injEq] at h;subst h
    simpa[aM] using r
  | .int i :: ds, ns, vs, h, r => by
    simp only[oM,Option.map_eq_some_iff] at h
    obtain⟨ms,h1,rfl⟩:=h
    simp only[aM] at r
    obtain⟨v,r',rfl,h2,h3⟩:=r
    rw[aG h2,je h1 h3]
    rfl
  | .non::ds,ns,vs,h,r=>by simp[oM] at h
  | .bl _::ds,ns,vs,h,r=>by simp[oM] at h
  | .str _::ds,ns,vs,h,r=>by simp[oM] at h
  | .tup _::ds,ns,vs,h,r=>by simp[oM] at h
  | .lst _::ds,ns,vs,h,r=>by simp[oM] at h
  | .exc _::ds,ns,vs,h,r=>by simp[oM] at h
  | .dic _ _::ds,ns,vs,h,r=>by simp[oM] at h
theorem any_ints(i:Int):∀ {ns:List Int} {us:List Value},Vals (ns.map V.int) us->us.any (fun y=>match y with | .int j _=>j==i | _=>false)=ns.any (· ==i)
  | [],us,r=>by rw[List.map_nil] at r;cases r;rfl
  | n :: ns, us, r => by
    rw[List.map_cons] at r
    cases r with
    | cons r1 r2 =>
      obtain⟨t,e⟩:=(show ∃ t,_=Value.int n t from r1)
      subst e
      simp only[List.any_cons,any_ints i r2]
theorem lV:∀ {ns:List Int} {us:List Value},Vals (ns.map V.int) us->∀ y∈us,∃ j t,y=Value.int j t
  | [],us,r,y,hy=>by rw[List.map_nil] at r;cases r;simp at hy
  | n :: ns, us, r, y, hy => by
    rw[List.map_cons] at r
    cases r with
    | cons r1 r2 =>
      obtain⟨t,e⟩:=(show ∃ t,_=Value.int n t from r1)
      subst e
      rcases List.mem_cons.mp hy with rfl | hy
      · exact⟨n,t,rfl⟩
      · exact lV r2 y hy
theorem Em{pins:List (Addr×Obj)}{σ:St}{H:Hp}{s:Shared}{i:Int}{ys:List D}{ns:List Int}{u v:V}{w z:Value}(I:Inv X pins σ H s)(A:Around)(hu:u=.int i)(hv:Rep X.K H (.tup ys) v)(hn:oM ys=some ns)(ru:RelV u w)(rv:RelV v z) :
  (∀ (Q:Value->Shared->Prop) (E:Value->Shared->Prop),Q (.bool (ns.any (· ==i))) s->wpAny (model X.prog X.w) A (compareOp .In w z) Q E s)/\(∀ (Q:Value->Shared->Prop) (E:Value->Shared->Prop),Q (.bool (!ns.any (· ==i))) s->wpAny (model X.prog X.w) A (compareOp .NotIn w z) Q E s):=by
 subst hu
 obtain⟨t,e⟩:=(show ∃ t,w=Value.int i t from ru)
 subst e
 obtain⟨a,vs,rfl,h1,h2⟩:=bL hv
 cases (show z=Value.ref a from rv)
 have e:=je hn h2
 subst e
 obtain⟨its,r,p⟩:=isT I h1
 have he:∀ y,y∈its.toArray->EqAt A.in1 s y (.int i t) (match y with | .int j _=>j==i | _=>false):=fun y hy=>by
  obtain⟨j,t',rfl⟩:=lV r y (by simpa using hy)
  exact fun P w Q E q=>wpAny_eqBool_int q
 have ea:its.toArray.any (fun y=>match y with | .int j _=>j==i | _=>false)=ns.any (· ==i):=by
  rw[List.any_toArray];exact any_ints i r
 refine⟨fun Q E q=>in_tupleAt _ p he (by rw[ea];exact q),fun Q E q=>notIn_tupleAt _ p he (by rw[ea];exact q)⟩
theorem rK{K:PySem.W.Frag}{H:Hp}:∀ {ds:List D} {ns:List Str} {vs:List V},qd ds=some ns->aM K H ds vs->vs=ns.map V.str
  | [], ns, vs, h, r => by
    simp only[qd,Option.some.injEq] at h;subst h
    simpa[aM] using r
  | .str i :: ds, ns, vs, h, r => by
    simp only[qd] at h
    obtain⟨ms,h1,rfl⟩:=Option.map_eq_some_iff.mp h
    simp only[aM] at r
    obtain⟨v,rr,rfl,h2,h3⟩:=r
    have e:v=.str i:=by simpa[Rep] using h2
    rw[rK h1 h3,e];rfl
  | .non::ds,ns,vs,h,r=>by simp[qd] at h
  | .bl _::ds,ns,vs,h,r=>by simp[qd] at h
  | .int _::ds,ns,vs,h,r=>by simp[qd] at h
  | .tup _::ds,ns,vs,h,r=>by simp[qd] at h
  | .lst _::ds,ns,vs,h,r=>by simp[qd] at h
  | .exc _::ds,ns,vs,h,r=>by simp[qd] at h
  | .dic _ _::ds,ns,vs,h,r=>by simp[qd] at h
def eS(x:D):Value->Bool
 | .str t _=>deq (.str t) x
 | _=>false
theorem rM(x:D):∀ {ns:List Str} {us:List Value},Vals (ns.map V.str) us->us.any (eS x)=ns.any fun t=>deq (.str t) x
  | [],us,r=>by rw[List.map_nil] at r;cases r;rfl
  | n :: ns, us, r => by
    rw[List.map_cons] at r
    cases r with
    | cons r1 r2 =>
      obtain⟨t,e⟩:=(show ∃ t,_=Value.str n t from r1)
      subst e
      simp only[List.any_cons,rM x r2,eS]
theorem qP:∀ {ns:List Str} {us:List Value},Vals (ns.map V.str) us->∀ y∈us,∃ j t,y=Value.str j t
  | [],us,r,y,hy=>by rw[List.map_nil] at r;cases r;simp at hy
  | n :: ns, us, r, y, hy => by
    rw[List.map_cons] at r
    cases r with
    | cons r1 r2 =>
      obtain⟨t,e⟩:=(show ∃ t,_=Value.str n t from r1)
      subst e
      rcases List.mem_cons.mp hy with rfl | hy
      · exact⟨n,t,rfl⟩
      · exact qP r2 y hy
theorem El{pins:List (Addr×Obj)}{σ:St}{H:Hp}{s:Shared}{x:D}{ys:List D}{ns:List Str}{u v:V}{w z:Value}(I:Inv X pins σ H s)(A:Around)(hA:A.units+2<cLine)(hx:Rep X.K H x u)(hd:dep x<=50)(hv:Rep X.K H (.tup ys) v)(hn:qd ys=some ns)(ru:RelV u w)(rv:RelV v z) :
  (∀ (Q:Value->Shared->Prop) (E:Value->Shared->Prop),Q (.bool (ns.any fun t=>deq (.str t) x)) s->wpAny (model X.prog X.w) A (compareOp .In w z) Q E s)/\(∀ (Q:Value->Shared->Prop) (E:Value->Shared->Prop),Q (.bool (!ns.any fun t=>deq (.str t) x)) s->wpAny (model X.prog X.w) A (compareOp .NotIn w z) Q E s):=by
 obtain⟨a,vs,rfl,h1,h2⟩:=bL hv
 cases (show z=Value.ref a from rv)
 have e:=rK hn h2
 subst e
 obtain⟨its,r,p⟩:=isT I h1
 have he:∀ y,y∈its.toArray->EqAt A.in1 s y w (eS x y):=fun y hy=>by
  obtain⟨j,t',rfl⟩:=qP r y (by simpa using hy)
  exact v7 I (.str j) x (.str j) u (.str j t') w A.in1 (by simp[Rep]) hx ⟨t',rfl⟩ ru (by rw[gq];simp only[dep];omega) (by simp[dep]) (by omega)
 have ea:its.toArray.any (eS x)=ns.any fun t=>deq (.str t) x:=by
  rw[List.any_toArray];exact rM x r
 refine⟨fun Q E q=>in_tupleAt _ p he (by rw[ea];exact q),fun Q E q=>notIn_tupleAt _ p he (by rw[ea];exact q)⟩
theorem Jm{x:D}{ys:List D}{b:Bool}(h:inT x ys=some b):(∃ i ns,x=.int i/\oM ys=some ns/\b=ns.any (· ==i))\/∃ ss,qd ys=some ss/\dep x<=50/\b=ss.any fun t=>deq (.str t) x:=by
 have hS:∀ {b},inS x ys=some b->∃ ss,qd ys=some ss/\dep x<=50/\b=ss.any fun t=>deq (.str t) x:=fun {b} h=>by
  unfold inS at h
  obtain⟨ss,h1,h2⟩:=Option.bind_eq_some_iff.mp h
  split at h2
  ·rename_i hd
   cases h2
   exact⟨ss,h1,by simpa using hd,rfl⟩
  ·cases h2
 unfold inT at h
 split at h
 ·rename_i i ns e1 e2
  cases x<;>simp[asI] at e1
  cases h
  subst e1
  exact .inl ⟨_,ns,rfl,e2,rfl⟩
 ·exact .inr (hS h)
theorem Az{pins:List (Addr×Obj)}{σ:St}{H:Hp}{s:Shared}{x:D}{ys:List D}{b:Bool}{u v:V}{w z:Value}(I:Inv X pins σ H s)(A:Around)(hA:A.units+2<cLine)(hx:Rep X.K H x u)(hv:Rep X.K H (.tup ys) v)(h:inT x ys=some b)(ru:RelV u w)(rv:RelV v z) :
  (∀ (Q:Value->Shared->Prop) (E:Value->Shared->Prop),Q (.bool b) s->wpAny (model X.prog X.w) A (compareOp .In w z) Q E s)/\(∀ (Q:Value->Shared->Prop) (E:Value->Shared->Prop),Q (.bool (!b)) s->wpAny (model X.prog X.w) A (compareOp .NotIn w z) Q E s):=by
 rcases Jm h with⟨i,ns,rfl,e1,rfl⟩ | ⟨ss,e1,e2,rfl⟩
 ·exact Em I A (aG hx) hv e1 ru rv
 ·exact El I A hA hx e2 hv e1 ru rv
theorem pC{pins:List (Addr×Obj)}{σ:St}{H:Hp}{s:Shared}{i:Int}{ys:List D}{ns:List Int}{u v:V}{w z:Value}(I:Inv X pins σ H s)(A:Around)(hu:u=.int i)(hv:Rep X.K H (.lst ys) v)(hn:oM ys=some ns)(ru:RelV u w)(rv:RelV v z) :
  ∀ (Q:Value->Shared->Prop) (E:Value->Shared->Prop),Q (.bool (!ns.any (· ==i))) s->wpAny (model X.prog X.w) A (compareOp .NotIn w z) Q E s:=by
 subst hu
 obtain⟨t,e⟩:=(show ∃ t,w=Value.int i t from ru)
 subst e
 obtain⟨a,vs,rfl,h1,h2⟩:=bH hv
 cases (show z=Value.ref a from rv)
 have e:=je hn h2
 subst e
 obtain⟨its,r,p,_⟩:=I.list h1
 have he:∀ y,y∈its.toArray->EqAt A.in1 s y (.int i t) (match y with | .int j _=>j==i | _=>false):=fun y hy=>by
  obtain⟨j,t',rfl⟩:=lV r y (by simpa using hy)
  exact fun P w Q E q=>wpAny_eqBool_int q
 have ea:its.toArray.any (fun y=>match y with | .int j _=>j==i | _=>false)=ns.any (· ==i):=by
  rw[List.any_toArray];exact any_ints i r
 exact fun Q E q=>notIn_listAt _ p.isList he (by rw[ea];exact q)
theorem Im:OpR X (compareOp .Is) (fun x y H Q=>∃ a b,x=.bl a/\y=.bl b/\Q (.bl (a==b)) H):=by
 intro pins s σ H x y v u Q I rx ry h
 obtain⟨a,b,rfl,rfl,q⟩:=h
 cases (show v=Value.bool a from rx)
 cases (show u=Value.bool b from ry)
 cases a<;>cases b<;>exact wpAny_pure ⟨.bl _,H,I,rfl,q⟩
theorem Dq:OpR X (compareOp .IsNot) (fun x y H Q=>∃ a b,x=.bl a/\y=.bl b/\Q (.bl (!(a==b))) H):=by
 intro pins s σ H x y v u Q I rx ry h
 obtain⟨a,b,rfl,rfl,q⟩:=h
 cases (show v=Value.bool a from rx)
 cases (show u=Value.bool b from ry)
 cases a<;>cases b<;>exact wpAny_pure ⟨.bl _,H,I,rfl,q⟩
theorem kE(hr:Room k X.A)(op:CmpOp):OpR X (compareOp op) (Lq X op):=by
 intro pins s σ H u v w z Q I ru rv h
 obtain⟨Hs,x,y,d,hs,rx,ry,hc,b,rfl,q⟩:=h
 have rx':=Rep.same hs x u rx
 have ry':=Rep.same hs y v ry
 unfold cmpop at hc
 split at hc
 ·split at hc
  ·rename_i hd
   rw[Bool.and_eq_true,decide_eq_true_eq,decide_eq_true_eq] at hd
   cases hc
   exact(rD I X.A rx' ry' ru rv (by have:=hr.un;omega) (by omega) (by omega)).1 _ _ _ _ ⟨.bl _,H,I,rfl,q⟩
  ·cases hc
 ·split at hc
  ·rename_i hd
   rw[Bool.and_eq_true,decide_eq_true_eq,decide_eq_true_eq] at hd
   cases hc
   exact(rD I X.A rx' ry' ru rv (by have:=hr.un;omega) (by omega) (by omega)).2 _ _ _ _ ⟨.bl _,H,I,rfl,q⟩
  ·cases hc
 ·cases hc;exact Ma pins s σ H u v w z Q I ru rv ⟨_,_,aG rx,aG ry,q⟩
 ·cases hc;exact Mf pins s σ H u v w z Q I ru rv ⟨_,_,aG rx,aG ry,q⟩
 ·cases hc;exact Mg pins s σ H u v w z Q I ru rv ⟨_,_,aG rx,aG ry,q⟩
 ·cases hc;exact Mh pins s σ H u v w z Q I ru rv ⟨_,_,aG rx,aG ry,q⟩
 ·cases hc;rw[qT rx] at q;exact Il pins s σ H u v w z Q I ru rv ⟨lJ ry,q⟩
 ·cases hc;rw[qT rx] at q;exact Dp pins s σ H u v w z Q I ru rv ⟨lJ ry,q⟩
 ·cases hc;exact Im pins s σ H u v w z Q I ru rv ⟨_,_,cQ rx,cQ ry,q⟩
 ·cases hc;exact Dq pins s σ H u v w z Q I ru rv ⟨_,_,cQ rx,cQ ry,q⟩
 ·obtain⟨ns,hn,he⟩:=Option.map_eq_some_iff.mp hc
  cases he
  exact(Az I X.A (by have:=hr.un;omega) rx' ry' hn ru rv).1 _ _ ⟨.bl _,H,I,rfl,q⟩
 ·obtain⟨ns,hn,he⟩:=Option.map_eq_some_iff.mp hc
  cases he
  exact(Az I X.A (by have:=hr.un;omega) rx' ry' hn ru rv).2 _ _ ⟨.bl _,H,I,rfl,q⟩
 ·obtain⟨ns,hn,he⟩:=Option.map_eq_some_iff.mp hc
  cases he
  exact pC I X.A (aG rx') ry' hn ru rv _ _ ⟨.bl _,H,I,rfl,q⟩
 ·cases hc
theorem Bm{op:CmpOp}{x y d:D}(h:cmpop op x y=some d):∃ b,d=.bl b:=by
 unfold cmpop at h
 split at h<;>first | (cases h;exact⟨_,rfl⟩) | (obtain⟨_,_,rfl⟩:=Option.map_eq_some_iff.mp h;exact⟨_,rfl⟩) | (split at h<;>first | (cases h;exact⟨_,rfl⟩) | cases h) | cases h
theorem Fv{a b:Expr}{op:CmpOp}{x y d:D}{pos:Pos}(hr:Room k X.A)(ha:Ev X ρ a x)(hb:Ev X ρ b y)(hm:aB b=true)(h:cmpop op x y=some d):Ev X ρ (.Compare a [op] [b] pos) d/\∀ c,d=.bl c->EvT X ρ (.Compare a [op] [b] pos) c:=by
 obtain⟨c,rfl⟩:=Bm h
 refine⟨d9 ha hb (Dk (kE hr op) aq aq (iw hm)) fun u v H Hs Q hs r1 r2 hq=>⟨Hs,x,y,_,hs,r1,r2,h,c,rfl,hq _ H Hs (.refl hs) (by simp[Rep])⟩,fun c' hc' σ H Hs Q hs hst hq=>?_⟩
 cases hc'
 refine(CK (kE hr op) aq aq (iw hm)).sem (ha σ H Hs _ hs hst fun u H1 Hs1 E1 r1=>hb σ H1 Hs1 _ E1.sub (hst.same E1.vis) fun v H2 Hs2 E2 r2=>?_)
 exact⟨Hs2,x,y,_,E2.sub,Rep.same E2.vis x u r1,r2,h,c,rfl,c,rfl,hq H2 Hs2 (E1.trans E2)⟩
theorem vo{op op':CmpOp}{b c:Expr}(h:aB c=true):lastMarks [op,op'] [b,c]=false:=iw h
theorem vX{a b e:Expr}{op op':CmpOp}{x y d:D}{c:Bool}{pos:Pos}(hr:Room k X.A)(ha:Ev X ρ a x)(hb:Ev X ρ b y)(hm:aB e=true)(h:cmpop op x y=some (.bl c))(hd:(c=true->∃ z,Ev X ρ e z/\cmpop op' y z=some d)/\(c=false->d=.bl false)) :
    Ev X ρ (.Compare a [op,op'] [b,e] pos) d/\∀ c,d=.bl c->EvT X ρ (.Compare a [op,op'] [b,e] pos) c:=by
  have core:∀ σ H Hs Q,Same Hs H->cH X.K Hs ρ σ->(∀ v H' Hs',Ext Hs H Hs' H'->Rep X.K Hs' d v->Q v H')->uq (Lq X op) (Lq X op') (mH X a) (mH X b) (mH X e) σ H Q:=by
    intro σ H Hs Q hs hst hq
    refine ha σ H Hs _ hs hst fun u H1 Hs1 E1 r1=>hb σ H1 Hs1 _ E1.sub (hst.same E1.vis) fun v H2 Hs2 E2 r2=>?_
    refine⟨Hs2,x,y,_,E2.sub,Rep.same E2.vis x u r1,r2,h,c,rfl,c,rfl,?_⟩
    cases c with
    | false=>rw[hd.2 rfl] at hq;exact vH (hq _ H2 Hs2 (E1.trans E2) (by simp[Rep]))
    | true =>
      obtain⟨z,hz,hc⟩:=hd.1 rfl
      obtain⟨c',rfl⟩:=Bm hc
      refine tR (hz σ H2 Hs2 _ E2.sub ((hst.same E1.vis).same E2.vis) fun w H3 Hs3 E3 r3=>?_)
      exact⟨Hs3,y,z,_,E3.sub,Rep.same E3.vis y v r2,r3,hc,c',rfl,hq _ H3 Hs3 (E1.trans (E2.trans E3)) (by simp[Rep])⟩
  refine⟨fun σ H Hs Q hs hst hq=>(yr (kE hr op) (kE hr op') aq aq aq (vo hm)).sem (core σ H Hs Q hs hst hq),fun c' hc' σ H Hs Q hs hst hq=>?_⟩
  subst hc'
  exact(xX (kE hr op) (kE hr op') aq aq aq (vo hm)).sem (core σ H Hs _ hs hst fun v H' Hs' E1 r1=>⟨c',cQ r1,hq H' Hs' E1⟩)
theorem JK{c a b:Expr}{t:Bool}{d:D}{pos:Pos}(hc:EvT X ρ c t)(ha:t=true->Ev X ρ a d)(hb:t=false->Ev X ρ b d):Ev X ρ (.IfExp c a b pos) d:=fun σ H Hs Q hs hst hq =>
  (lQ dW aq aq).sem (hc σ H Hs _ hs hst fun H1 Hs1 E1=>by
    cases t with
    | true=>exact tR (ha rfl σ H1 Hs1 Q E1.sub (hst.same E1.vis) fun v H' Hs' E2 r=>hq v H' Hs' (E1.trans E2) r)
    | false=>exact vH (hb rfl σ H1 Hs1 Q E1.sub (hst.same E1.vis) fun v H' Hs' E2 r=>hq v H' Hs' (E1.trans E2) r))
theorem Bh{c a b:Expr}{t r:Bool}{pos:Pos}(hc:EvT X ρ c t)(ha:t=true->EvT X ρ a r)(hb:t=false->EvT X ρ b r):EvT X ρ (.IfExp c a b pos) r:=by
 intro σ H Hs Q hs hst hq pins s I
 refine isTrue_IfExp (thn (hc σ H Hs (fun b' H'=>b'=t/\∃ Hs',Ext Hs H Hs' H') hs hst (fun H1 Hs1 E1=>⟨rfl,Hs1,E1⟩) pins s I) fun b' s2 ⟨H2,I2,e2,Hs2,E2⟩=>?_)
 subst e2
 cases b' with
 | true=>exact tR (ha rfl σ H2 Hs2 Q E2.sub (hst.same E2.vis) (fun H' Hs' E3=>hq H' Hs' (E2.trans E3)) pins s2 I2)
 | false=>exact vH (hb rfl σ H2 Hs2 Q E2.sub (hst.same E2.vis) (fun H' Hs' E3=>hq H' Hs' (E2.trans E3)) pins s2 I2)
theorem eO{f:Expr->Option D}:∀ {es:List Expr} {ds:List D},(∀ e∈es,∀ d,f e=some d->Ev X ρ e d/\aB e=true)->jX f es=some ds->EvA X ρ es ds/\(∀ e∈es,aB e=true)
  | [], ds, _, h => by
    simp only[jX,Option.some.injEq] at h
    subst h
    exact⟨fun σ H Hs Q hs hst hq=>cL.sem (hq [] H Hs (.refl hs) .nil),fun e he=>absurd he (by simp)⟩
  | e :: es, ds, hf, h => by
    simp only[jX,bind,Option.bind] at h
    cases he:f e with
    | none=>rw[he] at h;cases h
    | some d =>
      rw[he] at h
      simp only at h
      cases hr:jX f es with
      | none=>rw[hr] at h;cases h
      | some dr =>
        rw[hr] at h
        simp only[Option.some.injEq] at h
        subst h
        obtain⟨h1,hp⟩:=hf e (by simp) d he
        obtain⟨h2,hps⟩:=eO (fun a ha=>hf a (List.mem_cons_of_mem _ ha)) hr
        refine⟨fun σ H Hs Q hs hst hq=>(bf aq cT (ao hp)).sem (h1 σ H Hs _ hs hst fun v H1 Hs1 E1 r1=>h2 σ H1 Hs1 _ E1.sub (hst.same E1.vis) fun vs H2 Hs2 E2 r2=>?_),fun a ha=>?_⟩
        · exact hq _ H2 Hs2 (E1.trans E2) (.cons (Rep.same E2.vis d v r1) r2)
        · rcases List.mem_cons.mp ha with rfl | ha
          · exact hp
          · exact hps a ha
theorem yV{es:List Expr}{ds:List D}{j:Nat}{pos:Pos}(h:EvA X ρ es ds)(hz:szl ds.length=true):Ev X ρ (.Tuple es j pos) (.tup ds):=fun σ H Hs Q hs hst hq =>
 (Ia cT).sem (h σ H Hs _ hs hst fun vs H1 Hs1 E1 r1=>⟨by rw[<- r1.length];exact fV hz,fun p hp=>jw E1.sub r1 hp fun w H' Hs' E2 r2=>hq w H' Hs' (E1.trans E2) r2⟩)
theorem Fg{es:List Expr}{ds:List D}{pos:Pos}(h:EvA X ρ es ds)(hz:szl ds.length=true):Ev X ρ (.List es pos) (.lst ds):=fun σ H Hs Q hs hst hq =>
 (Ad cT).sem (h σ H Hs _ hs hst fun vs H1 Hs1 E1 r1=>⟨by rw[<- r1.length];exact fV hz,fun p hp=>fH E1.sub r1 hp fun w H' Hs' E2 r2=>hq w H' Hs' (E1.trans E2) r2⟩)
theorem nO(n:Nat)(i:Int):ixD n i=ixN n i:=rfl
theorem pY{K:PySem.W.Frag}{H:Hp}{ds:List D}{vs:List V}{i:Int}{d:D}(h:aM K H ds vs)(e:atD ds i=some d):∃ v,atI vs i=some v/\Rep K H d v:=by
  unfold atD at e
  rw[nO,h.length] at e
  cases q:ixN vs.length i with
  | none=>rw[q] at e;cases e
  | some j =>
    rw[q] at e
    obtain⟨v,h1,h2⟩:=h.get (i:=j) (d:=d) e
    exact⟨v,by unfold atI;rw[q];exact h1,h2⟩
theorem Cw{K:PySem.W.Frag}{H:Hp}{ks:List (Sum Int Str)}{ds:List D}{v:V}(h:Rep K H (.dic ks ds) v):∃ (a:Addr) (kvs:List (Key×V)),v=.ref a/\DAt K H a kvs/\kvs.map (·.1)=ks/\aM K H ds (kvs.map (·.2)):=by simpa[Rep] using h
theorem ug{K:PySem.W.Frag}{H:Hp}{k:Key}{d:D}:∀ {kvs:List (Key×V)} {ds:List D},aM K H ds (kvs.map (·.2))->Gf (kvs.map (·.1)) ds k=some d->∃ v,wU kvs k=some v/\Rep K H d v
  | [],ds,r,h=>by simp[Gf] at h
  | (k', v') :: kvs, ds, r, h => by
    cases ds with
    | nil=>simp[Gf] at h
    | cons d' ds =>
      simp only[List.map_cons,aM] at r
      obtain⟨v,rr,e,h2,h3⟩:=r
      cases e
      unfold Gf at h
      simp only[List.map_cons,List.zip_cons_cons,List.find?_cons] at h
      unfold wU
      rw[List.find?_cons]
      by_cases q:k'=k
      · simp only[q,decide_true] at h ⊢
        simp only[Option.map_some,Option.some.injEq] at h ⊢
        subst h
        exact⟨v',rfl,h2⟩
      · simp only[q,decide_false] at h ⊢
        exact ug h3 h
theorem vq{K:PySem.W.Frag}{H:Hp}{d:D}{v:V}{k:Key}(h:Gk d=some k)(r:Rep K H d v):v=kV k:=by
 cases d<;>simp[Gk] at h
 ·subst h;exact aG r
 ·subst h
  rename_i x
  have e:v=.str x:=by simpa[Rep] using r
  exact e
theorem Fp{a b:Expr}{ks:List (Sum Int Str)}{ds:List D}{y d:D}{k':Key}{pos:Pos}(kw:KnW X.K X.w)(ha:Ev X ρ a (.dic ks ds))(hb:Ev X ρ b y)(hp:aB b=true)(hk:Gk y=some k')(hd:Gf ks ds k'=some d):Ev X ρ (.Subscript a b pos) d:=by
 intro σ H Hs Q hs hst hq
 refine PE.sem (Di kw aq aq fun ov iv=>gC hp ov iv) (ha σ H Hs _ hs hst fun v H1 Hs1 E1 r1=>hb σ H1 Hs1 _ E1.sub (hst.same E1.vis) fun u H2 Hs2 E2 r2=>?_)
 have rdE:∀ {H1 H2:Hp} {a:Addr} {u:List (Key×V)},Same H1 H2->DAt X.K H1 a u->DAt X.K H2 a u:=fun e r=>r.elim (fun r=>.inl (r.elim (fun q=>.inl (e _ _ q)) fun⟨o,q⟩=>.inr ⟨o,e _ _ q⟩)) .inr
 obtain⟨p,kvs,rfl,h1,rfl,h3⟩:=Cw (Rep.same E2.vis _ v r1)
 obtain⟨w,h4,h5⟩:=ug h3 hd
 exact⟨p,w,kvs,k',rfl,rdE E2.sub h1,vq hk r2,h4.symm,hq w H2 Hs2 (E1.trans E2) h5⟩
theorem obd{α β:Type}{x:Option α}{f:α->Option β}{b:β}(h:(x >>=f)=some b):∃ a,x=some a/\f a=some b:=Option.bind_eq_some_iff.mp h
def Lb(X:Cx):List (Option Expr)->List Expr->List (TE×TE)
 | some k::ks,v::vs=>(mH X k,mH X v)::Lb X ks vs
 | _,_=>[]
theorem jt{f:Expr->Option D}:∀ {ks:List (Option Expr)} {vs:List Expr} {l:List (Sum Int Str×D)} {pos:Pos},dI f ks vs=some l->PPs X pos ks vs (Lb X ks vs)/\ks.all (·.isSome)=true/\ks.length=vs.length/\l.length=ks.length
  | [],[],l,pos,h=>by simp only[dI,Option.some.injEq] at h;subst h;exact⟨CV,rfl,rfl,rfl⟩
  | some k :: ks, v :: vs, l, pos, h => by
    simp only[dI] at h
    obtain⟨x,h1,h⟩:=obd h
    obtain⟨d,h2,h⟩:=obd h
    obtain⟨r,h3,h⟩:=obd h
    cases h
    obtain⟨a1,a2,a3,a4⟩:=jt (pos:=pos) h3
    exact⟨xZ aq aq a1,by simpa using a2,by simp[a3],by simp[a4]⟩
  | [],_::_,l,pos,h=>by simp[dI] at h
  | none::ks,vs,l,pos,h=>by cases vs<;>simp[dI] at h
  | some k::ks,[],l,pos,h=>by simp[dI] at h
def fZ(K:PySem.W.Frag)(H:Hp)(l:List (Sum Int Str×D))(kvs:List (Key×V)):Prop:=kvs.map (·.1)=l.map (·.1)/\aM K H (l.map (·.2)) (kvs.map (·.2))
theorem fZ.nil{K:PySem.W.Frag}{H:Hp}:fZ K H [] []:=⟨rfl,.nil⟩
theorem fZ.cons{K:PySem.W.Frag}{H:Hp}{l:List (Sum Int Str×D)}{kvs:List (Key×V)}{k:Key}{d:D}{v:V}(h:Rep K H d v)(r:fZ K H l kvs):fZ K H ((k,d)::l) ((k,v)::kvs):=⟨by simp[r.1],.cons h r.2⟩
theorem fZ.inv{K:PySem.W.Frag}{H:Hp}{k:Key}{d:D}{l:List (Sum Int Str×D)}{kvs:List (Key×V)}(r:fZ K H ((k,d)::l) kvs):∃ v kvs',kvs=(k,v)::kvs'/\Rep K H d v/\fZ K H l kvs':=by
  obtain⟨r1,r2⟩:=r
  cases kvs with
  | nil=>simp at r1
  | cons q kvs =>
    obtain⟨k',v⟩:=q
    simp only[List.map_cons,List.cons.injEq] at r1
    simp only[List.map_cons,aM] at r2
    obtain⟨v',rr,e,h2,h3⟩:=r2
    cases e
    exact⟨v,kvs,by rw[r1.1],h2,r1.2,h3⟩
theorem fZ.nil_inv{K:PySem.W.Frag}{H:Hp}{kvs:List (Key×V)}(r:fZ K H [] kvs):kvs=[]:=by
 have:=r.1
 simpa using this
theorem fZ.any{K:PySem.W.Frag}{H:Hp}(k:Key):∀ {l:List (Sum Int Str×D)} {kvs:List (Key×V)},fZ K H l kvs->(l.any fun q=>decide (q.1=k))=kvs.any fun q=>decide (q.1=k)
  | [],kvs,r=>by rw[r.nil_inv];rfl
  | (k', d) :: l, kvs, r => by
    obtain⟨v,kvs',rfl,_,r'⟩:=r.inv
    simp only[List.any_cons,fZ.any k r']
theorem fZ.repl{K:PySem.W.Frag}{H:Hp}{k:Key}{d:D}{v:V}(hd:Rep K H d v):∀ {l:List (Sum Int Str×D)} {kvs:List (Key×V)},fZ K H l kvs->fZ K H (l.map fun q=>if q.1=k then(q.1,d) else q) (kvs.map fun q=>if q.1=k then(q.1,v) else q)
  | [],kvs,r=>by rw[r.nil_inv];exact .nil
  | (k', d') :: l, kvs, r => by
    obtain⟨v',kvs',rfl,h,r'⟩:=r.inv
    simp only[List.map_cons]
    by_cases q:k'=k
    · rw[if_pos q,if_pos q];exact .cons hd (fZ.repl hd r')
    · rw[if_neg q,if_neg q];exact .cons h (fZ.repl hd r')
theorem fZ.snoc{K:PySem.W.Frag}{H:Hp}{k:Key}{d:D}{v:V}(hd:Rep K H d v):∀ {l:List (Sum Int Str×D)} {kvs:List (Key×V)},fZ K H l kvs->fZ K H (l++[(k,d)]) (kvs++[(k,v)])
  | [],kvs,r=>by rw[r.nil_inv];exact .cons hd .nil
  | (k', d') :: l, kvs, r => by
    obtain⟨v',kvs',rfl,h,r'⟩:=r.inv
    exact .cons h (fZ.snoc hd r')
theorem fZ.put{K:PySem.W.Frag}{H:Hp}{k:Key}{d:D}{v:V}{l:List (Sum Int Str×D)}{kvs:List (Key×V)}(hd:Rep K H d v)(r:fZ K H l kvs):fZ K H (putD l k d) (putK kvs k v):=by
 unfold putD putK
 rw[r.any k]
 split
 ·exact r.repl hd
 ·exact r.snoc hd
theorem fZ.mrg{K:PySem.W.Frag}{H:Hp}:∀ {l:List (Sum Int Str×D)} {kvs:List (Key×V)} {a:List (Sum Int Str×D)} {b:List (Key×V)},fZ K H l kvs->fZ K H a b->fZ K H (l.foldl (fun a q=>putD a q.1 q.2) a) (gG b kvs)
  | [],kvs,a,b,r,r2=>by rw[r.nil_inv];exact r2
  | (k', d') :: l, kvs, a, b, r, r2 => by
    obtain⟨v',kvs',rfl,h,r'⟩:=r.inv
    exact fZ.mrg (l:=l) (kvs:=kvs') r' (r2.put h)
theorem kj{f:Expr->Option D}(hf:∀ e d,f e=some d->Ev X ρ e d):∀ {ks:List (Option Expr)} {vs:List Expr} {l:List (Sum Int Str×D)},dI f ks vs=some l->∀ σ H Hs (Q:List (V×V)->Hp->Prop),Same Hs H->cH X.K Hs ρ σ ->
    (∀ kvs H' Hs',Ext Hs H Hs' H'->fZ X.K Hs' l kvs->Q (kvs.map fun q=>(kV q.1,q.2)) H')->qt (Lb X ks vs) σ H Q
  | [], [], l, h, σ, H, Hs, Q, hs, hst, hq => by
    simp only[dI,Option.some.injEq] at h;subst h
    exact hq [] H Hs (.refl hs) .nil
  | some k :: ks, v :: vs, l, h, σ, H, Hs, Q, hs, hst, hq => by
    simp only[dI] at h
    obtain⟨x,h1,h⟩:=obd h
    obtain⟨d,h2,h⟩:=obd h
    obtain⟨r,h3,h⟩:=obd h
    cases h
    obtain⟨kd,h4,h5⟩:=obd (show(f k >>=Gk)=some x from h1)
    refine hf _ _ h4 σ H Hs _ hs hst fun u H1 Hs1 E1 r1=>hf _ _ h2 σ H1 Hs1 _ E1.sub (hst.same E1.vis) fun w H2 Hs2 E2 r2=>?_
    refine kj hf h3 σ H2 Hs2 _ E2.sub ((hst.same E1.vis).same E2.vis) fun kvs H3 Hs3 E3 r3=>?_
    have:=hq ((x,w)::kvs) H3 Hs3 (E1.trans (E2.trans E3)) (.cons (Rep.same E3.vis _ _ r2) r3)
    rw[List.map_cons,<- vq h5 r1] at this
    exact this
  | [],_::_,l,h,_,_,_,_,_,_,_=>by simp[dI] at h
  | none::ks,vs,l,h,_,_,_,_,_,_,_=>by cases vs<;>simp[dI] at h
  | some k::ks,[],l,h,_,_,_,_,_,_,_=>by simp[dI] at h
theorem Fq{f:Expr->Option D}{ks:List (Option Expr)}{vs:List Expr}{l:List (Sum Int Str×D)}{pos:Pos}(hf:∀ e d,f e=some d->Ev X ρ e d)(h0:ks.isEmpty=false)(h15:ks.length<=15)(h:dI f ks vs=some l):Ev X ρ (.Dict ks vs pos) (FN (Vu l)):=by
  intro σ H Hs Q hs hst hq
  obtain⟨a1,a2,a3,a4⟩:=jt (X:=X) (pos:=pos) h
  refine PE.sem (Dj a1 a2 a3 (by intro e;rw[e] at h0;simp at h0) h15) fun p hp=>?_
  have Hn:Hs p=none:=by
    cases e:Hs p with
    | none=>rfl
    | some u=>rw[hs _ _ e] at hp;cases hp
  have hs1:Same Hs (upd H p (.dK [])):=fun b u e=>by rw[aO (aF e Hn)];exact hs b u e
  refine kj hf h σ _ Hs _ hs1 hst fun kvs H' Hs' E r=>?_
  have hH':H' p=some (.dK []):=E.all _ _ aW
  have Hn':Hs' p=none:=E.hid _ _ aW Hn
  have hz:kvs.length=l.length:=by have:=congrArg List.length r.1;simpa using this
  refine⟨hH',kvs,rfl,by omega,?_⟩
  have E2:Ext Hs H (upd Hs' p (.dK (gG [] kvs))) (upd H' p (.dK (gG [] kvs))) :=
    { vis := fun b u e => by rw [aO (aF e Hn)]; exact E.vis b u e
      all:=fun b u e=>by rw[aO (aF e hp)];exact E.all b u (by rw[aO (aF e hp)];exact e)
      sub:=fun b u e=>by
        by_cases hb:b=p
        · subst hb;rw[aW] at e ⊢;exact e
        · rw[aO hb] at e ⊢;exact E.sub b u e
      hid:=fun b u e n=>by rw[aO (aF e hp)];exact E.hid b u (by rw[aO (aF e hp)];exact e) n }
  refine hq _ _ _ E2 ?_
  have r2:=fZ.mrg (a:=[]) (b:=[]) r .nil
  simp only[FN,Rep]
  refine⟨p,gG [] kvs,rfl,.inl (.inl aW),r2.1,aM.same (fun b u e=>?_) _ _ r2.2⟩
  rw[aO (aF e Hn')];exact e
theorem rA{a b:Expr}{x d:D}{i:Int}{xs:List D}{pos:Pos}(ha:Ev X ρ a x)(hb:Ev X ρ b (.int i))(hp:aB b=true)(hx:items x=some xs)(hd:atD xs i=some d):Ev X ρ (.Subscript a b pos) d:=by
  cases x with
  | tup ys =>
    simp only[items,Option.some.injEq] at hx
    subst hx
    refine d9 ha hb (yq Jj aq aq (gC hp)) fun u v H Hs Q hs r1 r2 hq=>?_
    obtain⟨p,vs,rfl,h1,h2⟩:=bL r1
    obtain⟨w,h3,h4⟩:=pY h2 hd
    exact⟨p,vs,i,w,rfl,aG r2,hs.tup h1,h3,hq w H Hs (.refl hs) h4⟩
  | lst ys =>
    simp only[items,Option.some.injEq] at hx
    subst hx
    refine d9 ha hb (yq pL aq aq (gC hp)) fun u v H Hs Q hs r1 r2 hq=>?_
    obtain⟨p,vs,rfl,h1,h2⟩:=bH r1
    obtain⟨w,h3,h4⟩:=pY h2 hd
    exact⟨p,vs,i,w,rfl,aG r2,hs.seq h1,h3,hq w H Hs (.refl hs) h4⟩
  | _=>simp[items] at hx
theorem g8(n d:Nat)(o:Option Int):tO n d o=HT.sIx n d o:=by cases o<;>rfl
theorem wu{K:PySem.W.Frag}{H:Hp}{ds:List D}{vs:List V}(lo hi:Option Int)(h:aM K H ds vs):aM K H (tD ds lo hi) (Bk vs lo hi):=by
 unfold tD Bk
 rw[g8,g8,h.length]
 exact(h.drop _).take _
def EvO(X:Cx)(ρ:Rho)(e:Option Expr)(o:Option Int):Prop:=∃ t:TO,PO X e t/\∀ σ H Hs Q,Same Hs H->cH X.K Hs ρ σ->(∀ H' Hs',Ext Hs H Hs' H'->Q o H')->t σ H Q
theorem zy:EvO X ρ none none:=⟨_,CZ,fun σ H Hs Q hs hst hq=>hq H Hs (.refl hs)⟩
theorem zx{e:Expr}{i:Int}(h:Ev X ρ e (.int i)):EvO X ρ (some e) (some i):=⟨_,CW aq,fun σ H Hs Q hs hst hq=>h σ H Hs _ hs hst fun v H' Hs' E1 r1=>⟨i,aG r1,hq H' Hs' E1⟩⟩
theorem yX{a:Expr}{lo hi:Option Expr}{l u:Option Int}{xs:List D}{p2 pos:Pos}(ha:Ev X ρ a (.tup xs))(hl:EvO X ρ lo l)(hu:EvO X ρ hi u)(hw:¬ (tO xs.length 0 l=0/\tO xs.length xs.length u=xs.length)) :
  Ev X ρ (.Subscript a (.Slice lo hi none p2) pos) (.tup (tD xs l u)):=by
 obtain⟨tl,pl,ql⟩:=hl
 obtain⟨tu,pu,qu⟩:=hu
 intro σ H Hs Q hs hst hq
 refine(lO Hq aq pl pu).sem (ha σ H Hs _ hs hst fun v H1 Hs1 E1 r1=>ql σ H1 Hs1 _ E1.sub (hst.same E1.vis) fun H2 Hs2 E2=>qu σ H2 Hs2 _ E2.sub ((hst.same E1.vis).same E2.vis) fun H3 Hs3 E3=>?_)
 obtain⟨p,vs,rfl,h1,h2⟩:=bL (Rep.same (E2.trans E3).vis _ _ r1)
 refine⟨p,vs,rfl,E3.sub.tup h1,?_,fun q hq'=>jw E3.sub (wu l u h2) hq' fun w H' Hs' E4 r4=>hq w H' Hs' (E1.trans (E2.trans (E3.trans E4))) r4⟩
 rw[g8,g8,h2.length] at hw
 exact hw
theorem vV{a:Expr}{lo hi:Option Expr}{l u:Option Int}{xs:List D}{p2 pos:Pos}(ha:Ev X ρ a (.tup xs))(hl:EvO X ρ lo l)(hu:EvO X ρ hi u)(hw:tO xs.length 0 l=0/\tO xs.length xs.length u=xs.length) :
  Ev X ρ (.Subscript a (.Slice lo hi none p2) pos) (.tup xs):=by
 obtain⟨tl,pl,ql⟩:=hl
 obtain⟨tu,pu,qu⟩:=hu
 intro σ H Hs Q hs hst hq
 refine(lO Cm aq pl pu).sem (ha σ H Hs _ hs hst fun v H1 Hs1 E1 r1=>ql σ H1 Hs1 _ E1.sub (hst.same E1.vis) fun H2 Hs2 E2=>qu σ H2 Hs2 _ E2.sub ((hst.same E1.vis).same E2.vis) fun H3 Hs3 E3=>?_)
 have r3:=Rep.same (E2.trans E3).vis _ _ r1
 obtain⟨p,vs,rfl,h1,h2⟩:=bL r3
 refine⟨p,vs,rfl,E3.sub.tup h1,?_,hq _ H3 Hs3 (E1.trans (E2.trans E3)) r3⟩
 rw[g8,g8,h2.length] at hw
 exact hw
theorem Cv{x d:D}{lo hi:Option Expr}{oi:Option Int}(h:J9 x lo hi oi=some d):lo=none/\hi=none/\oi=some (-1)/\∃ us,(x=.lst us/\d=.lst us.reverse)\/(x=.tup us/\d=.tup us.reverse):=by
 unfold J9 at h
 split at h
 ·split at h
  ·rename_i i q
   cases h
   have e:i=(-1:Int):=by simpa using q
   subst e
   exact⟨rfl,rfl,rfl,_,.inl ⟨rfl,rfl⟩⟩
  ·cases h
 ·split at h
  ·rename_i i q
   cases h
   have e:i=(-1:Int):=by simpa using q
   subst e
   exact⟨rfl,rfl,rfl,_,.inr ⟨rfl,rfl⟩⟩
  ·cases h
 ·cases h
theorem aM.rev{K:PySem.W.Frag}{H:Hp}:∀ {ds:List D} {vs:List V},aM K H ds vs->aM K H ds.reverse vs.reverse
  | [], vs, h => by
    have:vs=[]:=by simpa[aM] using h
    subst this
    simpa[aM] using h
  | d :: ds, vs, h => by
    simp only[aM] at h
    obtain⟨w,r,rfl,h1,h2⟩:=h
    rw[List.reverse_cons,List.reverse_cons]
    exact(aM.rev h2).append (.cons h1 .nil)
theorem Ez{a c:Expr}{us:List D}{p2 pos:Pos}(ha:Ev X ρ a (.lst us))(hc:Ev X ρ c (.int (-1))):Ev X ρ (.Subscript a (.Slice none none (some c) p2) pos) (.lst us.reverse):=by
 intro σ H Hs Q hs hst hq
 refine(Dh aq aq).sem (ha σ H Hs _ hs hst fun u H1 Hs1 E1 r1=>hc σ H1 Hs1 _ E1.sub (hst.same E1.vis) fun v H2 Hs2 E2 r2=>?_)
 obtain⟨p,ws,rfl,g1,g2⟩:=bH (Rep.same E2.vis _ _ r1)
 exact⟨p,ws,rfl,aG r2,E2.sub.seq g1,fun q hq'=>fH E2.sub g2.rev hq' fun w H' Hs' E r=>hq w H' Hs' ((E1.trans E2).trans E) r⟩
theorem Ey{a c:Expr}{us:List D}{p2 pos:Pos}(ha:Ev X ρ a (.tup us))(hc:Ev X ρ c (.int (-1))):Ev X ρ (.Subscript a (.Slice none none (some c) p2) pos) (.tup us.reverse):=by
 intro σ H Hs Q hs hst hq
 refine(Dg aq aq).sem (ha σ H Hs _ hs hst fun u H1 Hs1 E1 r1=>hc σ H1 Hs1 _ E1.sub (hst.same E1.vis) fun v H2 Hs2 E2 r2=>?_)
 obtain⟨p,ws,rfl,g1,g2⟩:=bL (Rep.same E2.vis _ _ r1)
 exact⟨p,ws,rfl,aG r2,E2.sub.tup g1,fun q hq'=>jw E2.sub g2.rev hq' fun w H' Hs' E r=>hq w H' Hs' ((E1.trans E2).trans E) r⟩
theorem vW{a:Expr}{lo hi:Option Expr}{l u:Option Int}{xs:List D}{p2 pos:Pos}(ha:Ev X ρ a (.lst xs))(hl:EvO X ρ lo l)(hu:EvO X ρ hi u) :
  Ev X ρ (.Subscript a (.Slice lo hi none p2) pos) (.lst (tD xs l u)):=by
 obtain⟨tl,pl,ql⟩:=hl
 obtain⟨tu,pu,qu⟩:=hu
 intro σ H Hs Q hs hst hq
 refine(lO Cp aq pl pu).sem (ha σ H Hs _ hs hst fun v H1 Hs1 E1 r1=>ql σ H1 Hs1 _ E1.sub (hst.same E1.vis) fun H2 Hs2 E2=>qu σ H2 Hs2 _ E2.sub ((hst.same E1.vis).same E2.vis) fun H3 Hs3 E3=>?_)
 obtain⟨p,vs,rfl,h1,h2⟩:=bH (Rep.same (E2.trans E3).vis _ _ r1)
 exact⟨p,vs,rfl,E3.sub.seq h1,fun q hq'=>fH E3.sub (wu l u h2) hq' fun w H' Hs' E4 r4=>hq w H' Hs' (E1.trans (E2.trans (E3.trans E4))) r4⟩
theorem Fw{f:Str}{es:List Expr}{ds:List D}{d:D}{p pos:Pos}(G:Good cx k X sc)(hg:Gl X f)(hf:cx.fns.contains f=true)(hne:es≠[])(h:EvA X ρ es ds)(hp:∀ e∈es,aB e=true)(hc:cx.call f ds=some d) :
    Ev X ρ (.Call (.Name f p) es [] pos) d:=by
  obtain⟨hdb,a,fd,ps,har,_,hm,hk,hb,F⟩:=G.fns f hf
  cases es with
  | nil=>exact absurd rfl hne
  | cons e es =>
    intro σ H Hs Q hs hst hq
    refine(Dl F G.room hg hm hk hb .nil LR cT hdb (ao (hp e (by simp))) (fD fun e' he=>hp e' (List.mem_cons_of_mem _ he))).sem (h σ H Hs _ hs hst fun vs H1 Hs1 E1 r1=>?_)
    refine⟨?_,Hs1,ds,E1.sub,?_,.inl ⟨d,hc,fun v H' Hs' E2 r2=>hq v H' Hs' (E1.trans E2) r2⟩⟩
    · rw[List.append_nil,<- r1.length,har ds d hc]
    · rw[List.append_nil];exact r1
def Ka(X:Cx)(f:Value):List V->Hp->VK->Prop:=fun vs H Q=>∀ pins s σ us,Inv X pins σ H s->Vals vs us->wpAny (model X.prog X.w) X.A (call f us) (EP X pins σ Q) X.xe s
theorem cV{f:Value}:eE X f (Ka X f):=fun pins s σ H xs us Q I r h=>h pins s σ us I r
theorem eE.sem{f:Value}{r:List V->Hp->VK->Prop}{vs:List V}{H:Hp}{Q:VK}(h:eE X f r)(q:r vs H Q):Ka X f vs H Q:=fun pins s σ us I rv=>h pins s σ H vs us Q I rv q
def EvC(X:Cx)(f:Value)(ds:List D)(d:D):Prop:=∀ vs H Hs Q,Same Hs H->aM X.K Hs ds vs->(∀ v H' Hs',Ext Hs H Hs' H'->Rep X.K Hs' d v->Q v H')->Ka X f vs H Q
theorem pq{K:PySem.W.Frag}{H:Hp}{d:D}{vs:List V}(h:aM K H [d] vs):∃ v,vs=[v]/\Rep K H d v:=by
 simp only[aM] at h
 obtain⟨v,r,rfl,h1,h2⟩:=h
 subst h2
 exact⟨v,rfl,h1⟩
theorem Lg{K:PySem.W.Frag}{H:Hp}{d e:D}{vs:List V}(h:aM K H [d,e] vs):∃ v w,vs=[v,w]/\Rep K H d v/\Rep K H e w:=by
 simp only[aM] at h
 obtain⟨v,r,rfl,h1,w,r2,rfl,h2,h3⟩:=h
 subst h3
 exact⟨v,w,rfl,h1,h2⟩
theorem ji{K:PySem.W.Frag}{H:Hp}{d:D}{l:List D}{v:V}(h:Rep K H d v)(e:items d=some l):∃ a vs,v=.ref a/\(SqL K H a vs\/SqT K H a vs)/\aM K H l vs:=by
 cases d with
 | tup xs=>simp only[items,Option.some.injEq] at e;subst e;obtain⟨a,vs,e1,e2,e3⟩:=bL h;exact⟨a,vs,e1,.inr e2,e3⟩
 | lst xs=>simp only[items,Option.some.injEq] at e;subst e;obtain⟨a,vs,e1,e2,e3⟩:=bH h;exact⟨a,vs,e1,.inl e2,e3⟩
 | _=>simp[items] at e
theorem jf{K:PySem.W.Frag}{H:Hp}:∀ {ds:List D} {bs:List Bool} {vs:List V},oU ds=some bs->aM K H ds vs->vs=bs.map V.bl
  | [], ns, vs, h, r => by
    simp only[oU,Option.some.injEq] at h;subst h
    simpa[aM] using r
  | .bl i :: ds, ns, vs, h, r => by
    simp only[oU,Option.map_eq_some_iff] at h
    obtain⟨ms,h1,rfl⟩:=h
    simp only[aM] at r
    obtain⟨v,r',rfl,h2,h3⟩:=r
    rw[cQ h2,jf h1 h3]
    rfl
  | .non::ds,ns,vs,h,r=>by simp[oU] at h
  | .int _::ds,ns,vs,h,r=>by simp[oU] at h
  | .str _::ds,ns,vs,h,r=>by simp[oU] at h
  | .tup _::ds,ns,vs,h,r=>by simp[oU] at h
  | .lst _::ds,ns,vs,h,r=>by simp[oU] at h
  | .exc _::ds,ns,vs,h,r=>by simp[oU] at h
  | .dic _ _::ds,ns,vs,h,r=>by simp[oU] at h
theorem jT:∀ {bs:List Bool} {us:List Value},Vals (bs.map V.bl) us->LSm.BoolsAre us bs
  | [],us,r=>by rw[List.map_nil] at r;cases r;exact .nil
  | b :: bs, us, r => by
    rw[List.map_cons] at r
    cases r with
    | cons r1 r2 =>
      cases (show _=Value.bool b from r1)
      exact .cons b (jT r2)
theorem wG(hc:X.calm=true):eE X (.builtin "all") (fun xs H Q=>∃ (p:Addr) (bs:List Bool),xs=[.ref p]/\SqL X.K H p (bs.map V.bl)/\Q (.bl (bs.all id)) H):=by
 intro pins s σ H xs us Q I r h
 obtain⟨p,bs,rfl,hq,q⟩:=h
 obtain⟨u,rfl,rx⟩:=vals1 r
 cases (show u=Value.ref p from rx)
 obtain⟨its,r',pl,hz⟩:=I.list hq
 have hb:=jT r'
 have hl:=pl.isList
 have hlt:p<s.heap.objs.size:=by obtain⟨_,e,_⟩:=hl;exact Heap.lt_size e
 refine call_all_walk (wpAny_pyIter_list hl ⟨s.heap.objs.size,[s.heap.objs.size,p],[s.heap.objs.size],its.toArray.size,_,_,fun i=>(bs[i]?).getD true,rfl,Walks.list (A:=X.A.in1) (I.ok.hd hc) _ p (Nat.ne_of_lt hlt) its.toArray,⟨⟨_,Heap.get?_push_size _ rfl,rfl,rfl⟩,hl.push _⟩,fun i v s' Q' E' hP hQ=>?_,fun h' tk hk=>?_⟩)
 ·obtain⟨b,e,rfl⟩:=hb.get i v (by simpa using hP)
  simp only[e,Option.getD_some] at hQ
  exact wpAny_truthy_bool hQ
 ·have e:((List.range its.toArray.size).all fun i=>(bs[i]?).getD true)=bs.all id:=by rw[List.size_toArray,hb.length];exact LSm.range_all bs
  rw[e]
  exact⟨.bl _,H,I.kept (LSm.kept_iter hk),rfl,q⟩
theorem Ew{d0:D}{l:List D}(hl:items d0=some l):EvC X (.type "tuple") [d0] (.tup l):=by
  intro vs H Hs Q hs hr hq
  obtain⟨v,rfl,r1⟩:=pq hr
  refine eE.sem mG ?_
  cases d0 with
  | tup xs =>
    simp only[items,Option.some.injEq] at hl;subst hl
    obtain⟨a,us,rfl,h1,h2⟩:=bL r1
    exact⟨a,us,rfl,.inr ⟨hs.tup h1,hq _ H Hs (.refl hs) r1⟩⟩
  | lst xs =>
    simp only[items,Option.some.injEq] at hl;subst hl
    obtain⟨a,us,rfl,h1,h2⟩:=bH r1
    exact⟨a,us,rfl,.inl ⟨hs.seq h1,fun p hp=>jw hs h2 hp hq⟩⟩
  | _=>simp[items] at hl
def Vz:String->Value
 | "tuple"=>.type "tuple"
 | "list"=>.type "list"
 | "int"=>.type "int"
 | b=>.builtin b
theorem JM{b:String}{ds:List D}{d:D}(hc:X.calm=true)(h:DE.blt b ds=some d):EvC X (Vz b) ds d:=by
 intro vs H Hs Q hs hr hq
 unfold DE.blt at h
 split at h
 ·simp only[bind,Option.bind] at h
  split at h
  ·cases h
  ·rename_i l hl
   cases h
   obtain⟨v,rfl,r1⟩:=pq hr
   obtain⟨a,us,rfl,h1,h2⟩:=ji r1 hl
   refine eE.sem n8 ⟨a,us,rfl,h1.imp hs.seq hs.tup,?_⟩
   rw[<- h2.length]
   exact hq _ H Hs (.refl hs) (by simp[Rep])
 ·simp only[bind,Option.bind] at h
  split at h
  ·cases h
  ·rename_i l hl
   cases h
   obtain⟨v,rfl,r1⟩:=pq hr
   obtain⟨a,us,rfl,h1,h2⟩:=bH r1
   have e:=jf hl h2
   subst e
   exact eE.sem (wG hc) ⟨a,_,rfl,hs.seq h1,hq _ H Hs (.refl hs) (by simp[Rep])⟩
 ·simp at h
 ·simp at h
 ·simp only[bind,Option.bind] at h
  split at h
  ·cases h
  ·rename_i l hl
   cases h
   exact Ew hl vs H Hs Q hs hr hq
 ·simp only[bind,Option.bind] at h
  split at h
  ·cases h
  ·rename_i l hl
   cases h
   obtain⟨v,rfl,r1⟩:=pq hr
   obtain⟨a,us,rfl,h1,h2⟩:=ji r1 hl
   exact eE.sem iJ ⟨a,us,rfl,h1.imp hs.seq hs.tup,fun p hp=>fH hs h2 hp hq⟩
 ·simp at h
 ·simp at h
 ·simp at h
 ·simp at h
 ·simp at h
 ·simp at h
 ·simp at h
 ·cases h
  obtain⟨v,rfl,r1⟩:=pq hr
  exact eE.sem zJ ⟨_,by rw[aG r1],hq _ H Hs (.refl hs) (by simp[Rep])⟩
 ·cases h
  obtain⟨v,rfl,r1⟩:=pq hr
  exact eE.sem oh (.inr ⟨_,by rw[cQ r1],hq _ H Hs (.refl hs) (by simp[Rep,DE.b2i])⟩)
 ·cases h
  obtain⟨v,rfl,r1⟩:=pq hr
  exact eE.sem oh (.inl ⟨_,by rw[aG r1],hq _ H Hs (.refl hs) (by simp[Rep])⟩)
 ·cases h
end
end L2
namespace L2
open PySem PySem.Spec PyProof.Rows DE PySem.SeqAt
section
variable {X:Cx} {ρ:Rho} {cx:Cxt} {k:Nat} {sc:Scope}
theorem bQ{x:Str}{b:String}(G:Good cx k X sc)(h:bx cx sc x=some b):Gl X x/\X.mg x=none/\x=Str.ofString b:=by
 unfold bx mJ at h
 split at h
 ·rename_i hg
  have e:sc.names.lookup x=some .globalImplicit:=by simpa using hg
  refine⟨?_,G.blt x b h⟩
  show X.env.scope.names.lookup x=_
  rw[G.sce,e]
 ·cases h
theorem wH{b:String}{ds:List D}{d:D}(h:DE.blt b ds=some d):b="len"\/b="all"\/b="sum"\/b="tuple"\/b="list"\/b="min"\/b="max"\/b="abs"\/b="int"\/b="any":=by
 unfold DE.blt at h
 split at h<;>first | (simp;done) | cases h
theorem zu{x:Str}{b:String}{e:Expr}{es:List Expr}{ds:List D}{d:D}{p pos:Pos}(G:Good cx k X sc)(hx:bx cx sc x=some b)(h:EvA X ρ (e::es) ds)(hp:∀ a∈e::es,aB a=true)(hd:DE.blt b ds=some d) :
  Ev X ρ (.Call (.Name x p) (e::es) [] pos) d:=by
 obtain⟨hg,hm,rfl⟩:=bQ G hx
 have c:=JM (X:=X) G.calm hd
 have s1:=ao (env:=X.env) (es:=es) (hp e (by simp))
 have s2:=fD (env:=X.env) (pos:=pos) fun a ha=>hp a (List.mem_cons_of_mem _ ha)
 have fin:∀ f:Value,Vz b=f->PE X (.Call (.Name (Str.ofString b) p) (e::es) [] pos) (tCB (Ka X f) (uo X (e::es)))->Ev X ρ (.Call (.Name (Str.ofString b) p) (e::es) [] pos) d:=by
  intro f hf hpe σ H Hs Q hs hst hq
  rw[hf] at c
  refine hpe.sem (h σ H Hs _ hs hst fun vs H1 Hs1 E1 r1=>?_)
  exact c vs H1 Hs1 Q E1.sub r1 fun v H' Hs' E2 r2=>hq v H' Hs' (E1.trans E2) r2
 rcases wH hd with rfl | rfl | rfl | rfl | rfl | rfl | rfl | rfl | rfl | rfl
 ·exact fin (.builtin "len") rfl (dw cV hg hm (by decide +kernel) cT (by decide) (by decide) s1 s2)
 ·exact fin (.builtin "all") rfl (dw cV hg hm (by decide +kernel) cT (by decide) (by decide) s1 s2)
 ·exact fin (.builtin "sum") rfl (dw cV hg hm (by decide +kernel) cT (by decide) (by decide) s1 s2)
 ·exact fin (.type "tuple") rfl (gF cV hg hm (by decide +kernel) cT (by decide) (by decide) s1 s2)
 ·exact fin (.type "list") rfl (gF cV hg hm (by decide +kernel) cT (by decide) (by decide) s1 s2)
 ·exact fin (.builtin "min") rfl (dw cV hg hm (by decide +kernel) cT (by decide) (by decide) s1 s2)
 ·exact fin (.builtin "max") rfl (dw cV hg hm (by decide +kernel) cT (by decide) (by decide) s1 s2)
 ·exact fin (.builtin "abs") rfl (dw cV hg hm (by decide +kernel) cT (by decide) (by decide) s1 s2)
 ·exact fin (.type "int") rfl (gF cV hg hm (by decide +kernel) cT (by decide) (by decide) s1 s2)
 ·exact fin (.builtin "any") rfl (dw cV hg hm (by decide +kernel) cT (by decide) (by decide) s1 s2)
def Wf(K:PySem.W.Frag)(T:String):List V->Hp->VK->Prop:=fun xs H Q=>∃ x d,xs=[x,.ty T]/\Rep K H d x/\isExc d=false/\Q (.bl (tU T d)) H
theorem qp{T:String}(h:f9 T=true):T="int"\/T="bool"\/T="tuple"\/T="list"\/T="str":=by
 unfold f9 at h
 split at h<;>first | (simp;done) | cases h
theorem gW{x:V}{vs:List V}{us:List Value}(r:Vals (x::vs) us):∃ u w,us=u::w/\RelV x u/\Vals vs w:=by
 cases r with
 | cons r rr=>exact⟨_,_,rfl,r,rr⟩
theorem zH{T:String}(hk:f9 T=true):eE X (.builtin "isinstance") (Wf X.K T):=by
  intro pins s σ H xs us Q I r h
  obtain⟨x,d,rfl,rd,hne,q⟩:=h
  obtain⟨u,w1,rfl,rx,rr⟩:=gW r
  obtain⟨c,w2,rfl,rc,rr2⟩:=gW rr
  cases rr2
  cases (show c=Value.type T from rc)
  have fin:∀ b,b=tU T d->∀ tk,EP X pins σ Q (.bool b) { s with toks:=tk }:=fun b hb tk=>⟨.bl _,H,I.tok _,by rw[hb];rfl,q⟩
  have ks:=qp hk
  cases d with
  | exc c=>exact absurd hne (by simp[isExc])
  | dic _ _=>exact absurd hne (by simp[isExc])
  | non =>
    cases lJ rd;cases (show u=Value.none from rx)
    rcases ks with rfl | rfl | rfl | rfl | rfl<;>exact PySem.W.kia_one (b:=false) PySem.W.kitx_none I.kIn True.intro rfl (fun z=>nomatch z) (fin _ rfl)
  | bl y =>
    cases cQ rd;cases (show u=Value.bool y from rx)
    rcases ks with rfl | rfl | rfl | rfl | rfl
    · exact PySem.W.kia_one (b:=true) PySem.W.kitx_bool I.kIn True.intro rfl (fun z=>nomatch z) (fin _ rfl)
    · exact PySem.W.kia_one (b:=true) PySem.W.kitx_bool I.kIn True.intro rfl (fun z=>nomatch z) (fin _ rfl)
    · exact PySem.W.kia_one (b:=false) PySem.W.kitx_bool I.kIn True.intro rfl (fun z=>nomatch z) (fin _ rfl)
    · exact PySem.W.kia_one (b:=false) PySem.W.kitx_bool I.kIn True.intro rfl (fun z=>nomatch z) (fin _ rfl)
    · exact PySem.W.kia_one (b:=false) PySem.W.kitx_bool I.kIn True.intro rfl (fun z=>nomatch z) (fin _ rfl)
  | int y =>
    cases aG rd
    obtain⟨t,e⟩:=(show ∃ t,u=Value.int y t from rx)
    cases e
    rcases ks with rfl | rfl | rfl | rfl | rfl
    · exact PySem.W.kia_one (b:=true) PySem.W.kitx_int I.kIn True.intro rfl (fun z=>nomatch z) (fin _ rfl)
    · exact PySem.W.kia_one (b:=false) PySem.W.kitx_int I.kIn True.intro rfl (fun z=>nomatch z) (fin _ rfl)
    · exact PySem.W.kia_one (b:=false) PySem.W.kitx_int I.kIn True.intro rfl (fun z=>nomatch z) (fin _ rfl)
    · exact PySem.W.kia_one (b:=false) PySem.W.kitx_int I.kIn True.intro rfl (fun z=>nomatch z) (fin _ rfl)
    · exact PySem.W.kia_one (b:=false) PySem.W.kitx_int I.kIn True.intro rfl (fun z=>nomatch z) (fin _ rfl)
  | str y =>
    have ev:x=.str y:=by simpa[Rep] using rd
    subst ev
    obtain⟨t,e⟩:=(show ∃ t,u=Value.str y t from rx)
    cases e
    rcases ks with rfl | rfl | rfl | rfl | rfl
    · exact PySem.W.kia_one (b:=false) PySem.W.kitx_str I.kIn True.intro rfl (fun z=>nomatch z) (fin _ rfl)
    · exact PySem.W.kia_one (b:=false) PySem.W.kitx_str I.kIn True.intro rfl (fun z=>nomatch z) (fin _ rfl)
    · exact PySem.W.kia_one (b:=false) PySem.W.kitx_str I.kIn True.intro rfl (fun z=>nomatch z) (fin _ rfl)
    · exact PySem.W.kia_one (b:=false) PySem.W.kitx_str I.kIn True.intro rfl (fun z=>nomatch z) (fin _ rfl)
    · exact PySem.W.kia_one (b:=true) PySem.W.kitx_str I.kIn True.intro rfl (fun z=>nomatch z) (fin _ rfl)
  | tup ds =>
    obtain⟨a,vs,rfl,h1,h2⟩:=bL rd
    cases (show u=Value.ref a from rx)
    obtain⟨its,_,o,g1,g2,_⟩:=isT I h1
    rcases ks with rfl | rfl | rfl | rfl | rfl
    · exact PySem.W.kia_one (b:=false) PySem.W.kitx_tuple I.kIn ⟨o,g1,g2⟩ rfl (fun z=>nomatch z) (fin _ rfl)
    · exact PySem.W.kia_one (b:=false) PySem.W.kitx_tuple I.kIn ⟨o,g1,g2⟩ rfl (fun z=>nomatch z) (fin _ rfl)
    · exact PySem.W.kia_one (b:=true) PySem.W.kitx_tuple I.kIn ⟨o,g1,g2⟩ rfl (fun z=>nomatch z) (fin _ rfl)
    · exact PySem.W.kia_one (b:=false) PySem.W.kitx_tuple I.kIn ⟨o,g1,g2⟩ rfl (fun z=>nomatch z) (fin _ rfl)
    · exact PySem.W.kia_one (b:=false) PySem.W.kitx_tuple I.kIn ⟨o,g1,g2⟩ rfl (fun z=>nomatch z) (fin _ rfl)
  | lst ds =>
    obtain⟨a,vs,rfl,h1,h2⟩:=bH rd
    cases (show u=Value.ref a from rx)
    obtain⟨its,_,o,g1,g2,_⟩:=isL I h1
    rcases ks with rfl | rfl | rfl | rfl | rfl
    · exact PySem.W.kia_one (b:=false) PySem.W.kitx_list I.kIn ⟨o,g1,g2⟩ rfl (fun z=>nomatch z) (fin _ rfl)
    · exact PySem.W.kia_one (b:=false) PySem.W.kitx_list I.kIn ⟨o,g1,g2⟩ rfl (fun z=>nomatch z) (fin _ rfl)
    · exact PySem.W.kia_one (b:=false) PySem.W.kitx_list I.kIn ⟨o,g1,g2⟩ rfl (fun z=>nomatch z) (fin _ rfl)
    · exact PySem.W.kia_one (b:=true) PySem.W.kitx_list I.kIn ⟨o,g1,g2⟩ rfl (fun z=>nomatch z) (fin _ rfl)
    · exact PySem.W.kia_one (b:=false) PySem.W.kitx_list I.kIn ⟨o,g1,g2⟩ rfl (fun z=>nomatch z) (fin _ rfl)
theorem JH{x t:Str}{T:String}{a:Expr}{d:D}{p pt pos:Pos}(G:Good cx k X sc)(hx:bx cx sc x=some "isinstance")(ht:bx cx sc t=some T)(hk:f9 T=true)(ha:Ev X ρ a d)(hp:aB a=true)(hne:isExc d=false) :
  Ev X ρ (.Call (.Name x p) [a,.Name t pt] [] pos) (.bl (tU T d)):=by
 obtain⟨hg,hm,rfl⟩:=bQ G hx
 obtain⟨hg2,hm2,rfl⟩:=bQ G ht
 have htv:PE X (.Name (Str.ofString T) pt) (tC (.ty T)):=by
  rcases qp hk with rfl | rfl | rfl | rfl | rfl<;>exact uR hg2 hm2 (by decide +kernel) rfl
 intro σ H Hs Q hs hst hq
 refine(dw (zH (X:=X) hk) hg hm (by decide +kernel) (bf aq (bf htv cL (ao rfl)) (ao hp)) (by decide) (by decide) (ao hp) rfl).sem ?_
 exact ha σ H Hs _ hs hst fun v H1 Hs1 E1 r1=>⟨v,d,rfl,Rep.same E1.sub d v r1,hne,hq _ H1 Hs1 E1 (by simp[Rep])⟩
def Lk(K:PySem.W.Frag)(cv:V)(C:Addr)(b:Bool):List V->Hp->VK->Prop:=fun xs H Q=>∃ a,xs=[.ref a,cv]/\H a=some (.ext (isX a (.ref C)))/\Q (.bl b) H
theorem wF{cv:V}{c:Value}{C:Addr}{b:Bool}(hA:lB X.K C=true)(hc:∀ u,RelV cv u->u=c)(e:PySem.W.kitOne X.K (.ref C) c=some b):eE X (.builtin "isinstance") (Lk X.K cv C b):=by
 intro pins s σ H xs us Q I r h
 obtain⟨a,rfl,ha,q⟩:=h
 obtain⟨u,w1,rfl,rx,rr⟩:=gW r
 obtain⟨u2,w2,rfl,rc,rr2⟩:=gW rr
 cases rr2
 cases (show u=Value.ref a from rx)
 cases hc u2 rc
 exact PySem.W.kia_one (yJ hA) I.kIn (I.hok _ _ ha).1 e (fun z=>nomatch z) fun tk=>⟨.bl _,H,I.tok _,rfl,q⟩
theorem pP{x c:Str}{t a:Expr}{tv:TE}{cv:V}{cw:Value}{b:Bool}{p pos:Pos}(G:Good cx k X sc)(hx:bx cx sc x=some "isinstance")(hc:cx.exs.contains c=true)(ht:PE X t (tC cv))(hpt:aB t=true)(hcv:∀ u,RelV cv u->u=cw)
  (hk:∀ C,PySem.W.nsIn X.K mainGlobals c=some (some (.ref C))->PySem.W.kitOne X.K (.ref C) cw=some b) (ha:Ev X ρ a (.exc c)) (hp:aB a=true):Ev X ρ (.Call (.Name x p) [a,t] [] pos) (.bl b):=by
 obtain⟨hg,hm,rfl⟩:=bQ G hx
 obtain⟨C,M,e1,_,_,e2,_⟩:=G.exs.cls c hc
 intro σ H Hs Q hs hst hq
 refine(dw (wF (X:=X) (cv:=cv) e2 hcv (hk C e1)) hg hm (by decide +kernel) (bf aq (bf ht cL (ao hpt)) (ao hp)) (by decide) (by decide) (ao hp) (by rw[ao hpt];rfl)).sem ?_
 refine ha σ H Hs _ hs hst fun v H1 Hs1 E1 r1=>?_
 have r2:=Rep.same E1.sub _ v r1
 simp only[Rep] at r2
 obtain⟨a0,C0,rfl,f1,f2⟩:=r2
 rw[e1] at f1
 cases f1
 exact⟨a0,rfl,f2,hq _ H1 Hs1 E1 (by simp[Rep])⟩
theorem Fj{x t c:Str}{a:Expr}{p pt pos:Pos}(G:Good cx k X sc)(hx:bx cx sc x=some "isinstance")(ht:bx cx sc t=some "ValueError")(hc:cx.exs.contains c=true)(ha:Ev X ρ a (.exc c))(hp:aB a=true):Ev X ρ (.Call (.Name x p) [a,.Name t pt] [] pos) (.bl true):=by
 obtain⟨hg2,hm2,rfl⟩:=bQ G ht
 refine pP (tv:=tC (.ty "ValueError")) (cv:=.ty "ValueError") (cw:=.type "ValueError") G hx hc (uR hg2 hm2 (by decide +kernel) rfl) rfl (fun u r=>r) (fun C e=>?_) ha hp
 obtain⟨C',M,e1,_,_,_,_,_,e2⟩:=G.exs.cls c hc
 rw[e] at e1
 cases e1
 exact e2
theorem Gs{t:Expr}{c':Str}(h:xOf cx sc t=some c'):∃ pt,t=.Name c' pt/\mJ cx sc c'=true/\(cx.exs.contains c'=true\/c'=cx.top)/\(c'==("__debug__":Str))=false:=by
 unfold xOf at h
 split at h
 ·rename_i y pt
  split at h
  ·rename_i q
   cases h
   rw[Bool.and_eq_true,Bool.and_eq_true,Bool.or_eq_true] at q
   have q2:=q.2
   unfold aA at q2
   rw[Bool.and_eq_true,bne_iff_ne] at q2
   exact⟨pt,rfl,q.1.1,q.1.2.imp id (fun z=>by simpa using z),by simpa using q2.1⟩
  ·cases h
 ·cases h
theorem Fi{x c c':Str}{t a:Expr}{p pos:Pos}(G:Good cx k X sc)(hx:bx cx sc x=some "isinstance")(ht:xOf cx sc t=some c')(hc:cx.exs.contains c=true)(ha:Ev X ρ a (.exc c))(hp:aB a=true):Ev X ρ (.Call (.Name x p) [a,t] [] pos) (.bl (Ge cx.top c c')):=by
 obtain⟨pt,rfl,hgl,hin,hd⟩:=Gs ht
 have hg:Gl X c':=by
  have e:sc.names.lookup c'=some .globalImplicit:=by unfold mJ at hgl;simpa using hgl
  show X.env.scope.names.lookup c'=_
  rw[G.sce,e]
 by_cases htop:c'=cx.top
 ·subst htop
  obtain⟨C,M,e1,e2,_,_,_,e3,_⟩:=G.exs.cls c hc
  have:Ge cx.top c cx.top=true:=by unfold Ge;simp
  rw[this]
  refine pP (tv:=tC (.ref M)) (cv:=.ref M) (cw:=.ref M) G hx hc (pA hg (G.exs.glob _ _ e2) rfl hd) rfl (fun u r=>r) (fun C' e=>?_) ha hp
  rw[e] at e1;cases e1
  exact e3
 ·have hin':cx.exs.contains c'=true:=hin.resolve_right htop
  obtain⟨C,C',e1,e2,e3⟩:=G.exs.sub c c' hc hin'
  have:Ge cx.top c c'=(c==c'):=by
   unfold Ge
   have:(c'==cx.top)=false:=by simpa using htop
   rw[this,Bool.or_false]
  rw[this]
  refine pP (tv:=tC (.ref C')) (cv:=.ref C') (cw:=.ref C') G hx hc (pA hg (G.exs.glob _ _ e2) rfl hd) rfl (fun u r=>r) (fun C'' e=>?_) ha hp
  rw[e] at e1;cases e1
  exact e3
end
end L2
namespace L2
open PySem PySem.Spec PyProof.Rows DE PySem.SeqAt
section
variable {X:Cx} {ρ:Rho} {cx:Cxt} {k:Nat} {sc:Scope}
theorem uf:∀ {vs:List V} {us:List Value},vs.length=us.length->(∀ (i:Nat) (v:V) (u:Value),vs[i]?=some v->us[i]?=some u->RelV v u)->Vals vs us
 | [],[],_,_=>.nil
 | [],u::us,h,_=>by simp at h
 | v::vs,[],h,_=>by simp at h
 | v::vs,u::us,h,hr=>.cons (hr 0 v u rfl rfl) (uf (by simpa using h) fun i a b e1 e2=>hr (i+1) a b (by simpa using e1) (by simpa using e2))
def jk(lo hi:Int):List V:=(List.range (hi-lo).toNat).map fun(k:Nat)=>V.int (lo+(k:Int))
theorem lK{α:Type}{K:PySem.W.Frag}{H:Hp}{f:α->D}{g:α->V}(h:∀ x,Rep K H (f x) (g x)):∀ l:List α,aM K H (l.map f) (l.map g)
 | []=>.nil
 | x::r=>.cons (h x) (lK h r)
theorem m8{K:PySem.W.Frag}{H:Hp}{lo hi:Int}:aM K H (dj lo hi) (jk lo hi):=lK (fun x=>by simp[Rep]) _
theorem gB{i:Int}(h:eZ i=true):-(2^62)<=i/\i<2^62:=by
 unfold eZ at h
 rw[Bool.and_eq_true,decide_eq_true_eq,decide_eq_true_eq] at h
 exact h
theorem gJ{pins:List (Addr×Obj)}{σ:St}{H:Hp}{s:Shared}{Q:VK}{E:Value->Shared->Prop}{lo hi:Int}{t u v:Tok}{tk:Nat}(hc:X.calm=true)(I:Inv X pins σ H s)(h1:-(2^62)<=lo/\lo<2^62)(h3:-(2^62)<=hi/\hi<2^62)
  (hz:szl (hi-lo).toNat=true) (q:∀ p,H p=none->Q (.ref p) (upd H p (.lst (jk lo hi)))) :
  wpAny (model X.prog X.w) X.A (call (.type "list") [.ref s.heap.objs.size]) (EP X pins σ Q) E { s with heap:=s.heap.push { cls:=.type "range",data:=.fields #[.int lo t,.int hi u,.int 1 v] },toks:=tk }:=by
 have hz':(hi-lo).toNat<=100000:=by unfold szl at hz;simpa using hz
 refine call_list_range (n:=(hi-lo).toNat) (I.ok.hd hc) (IsRange.new ..) (small_one h1.1 h1.2 h3.1 h3.2) (by rw[rangeSize_one];split<;>omega) (by omega) fun h' tk' acc' c' kp e its=>?_
 have I1:Inv X pins σ H { s with heap:=s.heap.push { cls:=.type "range",data:=.fields #[.int lo t,.int hi u,.int 1 v] },toks:=tk }:=I.kept fun b o e=>Heap.get?_push_of_some _ e
 have hl:(jk lo hi).length=(hi-lo).toNat:=by simp[jk]
 have hv:Vals (jk lo hi) acc'.toList:=by
  refine uf (by rw[hl,Array.length_toList,its.1]) fun i v u e1 e2=>?_
  obtain⟨t,rfl⟩:=its.2 i u (by simpa using e2)
  unfold jk at e1
  rw[List.getElem?_map] at e1
  obtain⟨j,e3,rfl⟩:=Option.map_eq_some_iff.mp e1
  rw[List.getElem?_eq_some_iff] at e3
  obtain⟨_,e3⟩:=e3
  rw[List.getElem_range] at e3
  subst e3
  exact⟨t,by rw[Int.mul_one]⟩
 refine⟨.ref _,_,I1.laid (t':=tk') kp (Nat.le_refl _) (show dF X.prog X.w _ h' _ (.lst (jk lo hi)) from⟨by rw[hl];exact fV hz,acc'.toList,c',hv,e⟩),rfl,q _ (I1.hok.fresh (Nat.le_refl _))⟩
theorem sX{x y:Str}{a:Expr}{j:Int}{p q q' pos:Pos}(G:Good cx k X sc)(hx:bx cx sc x=some "list")(hy:bx cx sc y=some "range")(ha:Ev X ρ a (.int j))(hp:aB a=true)(hj:eZ j=true)(hz:szl j.toNat=true) :
  Ev X ρ (.Call (.Name x p) [.Call (.Name y q) [a] [] q'] [] pos) (.lst (dj 0 j)):=by
 obtain⟨hg,hm,rfl⟩:=bQ G hx
 obtain⟨hg2,hm2,rfl⟩:=bQ G hy
 intro σ H Hs Q hs hst hq pins s I
 refine Call_ (eX I hg hm (show bootBuiltins "list"=some (.type "list") by decide +kernel) (PyProof.Rows.callWith_type1 ?_ rfl rfl))
 show wpAny _ _ (spliced [(false,eval (.Call (.Name _ q) [a] [] q') X.env)]) _ _ _
 refine Calls.spliced_cons ?_
 refine Call_ (eX I hg2 hm2 boot_range (PyProof.Rows.callWith_type1 ?_ (ao hp) rfl))
 refine thn ((bf aq cL (ao hp)) q' pins s σ H (fun vs H1=>∃ Hs1,vs=[.int j]/\Ext Hs H Hs1 H1) I (ha σ H Hs _ hs hst fun v H1 Hs1 E1 r1=>⟨Hs1,by rw[aG r1],E1⟩)) fun us s1 ⟨vs,H1,I1,r1,Hs1,e1,E1⟩=>?_
 subst e1
 obtain⟨u,w1,rfl,rx,rr⟩:=gW r1
 cases rr
 obtain⟨t,rfl⟩:=(show ∃ t,u=Value.int j t from rx)
 refine call_range_1 (Calls.spliced_nil ?_)
 exact gJ G.calm I1 (by decide) (gB hj) (by simpa using hz) fun p hp=>fH E1.sub m8 hp fun w H' Hs' E2 r2=>hq w H' Hs' (E1.trans E2) r2
theorem sW{x y:Str}{a b:Expr}{i j:Int}{p q q' pos:Pos}(G:Good cx k X sc)(hx:bx cx sc x=some "list")(hy:bx cx sc y=some "range")(ha:Ev X ρ a (.int i))(hp:aB a=true)(hb:Ev X ρ b (.int j))(hpb:aB b=true)(hi:eZ i=true)(hj:eZ j=true)(hz:szl (j-i).toNat=true) :
  Ev X ρ (.Call (.Name x p) [.Call (.Name y q) [a,b] [] q'] [] pos) (.lst (dj i j)):=by
 obtain⟨hg,hm,rfl⟩:=bQ G hx
 obtain⟨hg2,hm2,rfl⟩:=bQ G hy
 intro σ H Hs Q hs hst hq pins s I
 refine Call_ (eX I hg hm (show bootBuiltins "list"=some (.type "list") by decide +kernel) (PyProof.Rows.callWith_type1 ?_ rfl rfl))
 show wpAny _ _ (spliced [(false,eval (.Call (.Name _ q) [a,b] [] q') X.env)]) _ _ _
 refine Calls.spliced_cons ?_
 refine Call_ (eX I hg2 hm2 boot_range (PyProof.Rows.callWith_type1 ?_ (ao hp) (fD fun e he=>by rw[List.mem_singleton.mp he];exact hpb)))
 refine thn ((bf aq (bf aq cL (ao hpb)) (ao hp)) q' pins s σ H (fun vs H1=>∃ Hs1,vs=[.int i,.int j]/\Ext Hs H Hs1 H1) I (ha σ H Hs _ hs hst fun v H1 Hs1 E1 r1=>hb σ H1 Hs1 _ E1.sub (hst.same E1.vis) fun v' H2 Hs2 E2 r2=>⟨Hs2,by rw[aG r1,aG r2],E1.trans E2⟩)) fun us s1 ⟨vs,H1,I1,r1,Hs1,e1,E1⟩=>?_
 subst e1
 obtain⟨u,w1,rfl,rx,rr⟩:=gW r1
 obtain⟨u2,w2,rfl,rx2,rr2⟩:=gW rr
 cases rr2
 obtain⟨t,rfl⟩:=(show ∃ t,u=Value.int i t from rx)
 obtain⟨t2,rfl⟩:=(show ∃ t,u2=Value.int j t from rx2)
 refine call_range_2 (Calls.spliced_nil ?_)
 exact gJ G.calm I1 (gB hi) (gB hj) hz fun p hp=>fH E1.sub m8 hp fun w H' Hs' E2 r2=>hq w H' Hs' (E1.trans E2) r2
variable {tg iter a b:Expr}
theorem FJ{d:D}{l:List D}(h:Ev X ρ iter d)(hl:items d=some l):EvI X ρ tg iter l:=by
  intro σ H Hs R hs hst hq
  cases d with
  | lst xs =>
    simp only[items,Option.some.injEq] at hl;subst hl
    refine(Dc (tg:=tg) aq).sem (h σ H Hs _ hs hst fun v H1 Hs1 E1 r1=>?_)
    obtain⟨p,vs,rfl,h1,h2⟩:=bH r1
    refine⟨p,rfl,⟨vs,E1.sub.seq h1⟩,hq _ H1 Hs1 E1 fun Hs' H' e1 e2=>⟨⟨vs,e2.seq (e1.seq h1),by rw[h2.length];exact Nat.le_refl _⟩,fun i d hd=>?_⟩⟩
    obtain⟨v,g1,g2⟩:=h2.get hd
    refine⟨⟨vs,v,e2.seq (e1.seq h1),g1⟩,fun x H2 y=>?_⟩
    obtain⟨rfl,y⟩:=y
    have:=y vs (e2.seq (e1.seq h1))
    rw[g1] at this;cases this
    exact⟨Hs',.refl e2,Rep.same e1 d v g2⟩
  | tup xs =>
    simp only[items,Option.some.injEq] at hl;subst hl
    refine(HX (tg:=tg) aq).sem (h σ H Hs _ hs hst fun v H1 Hs1 E1 r1=>?_)
    obtain⟨p,vs,rfl,h1,h2⟩:=bL r1
    refine⟨p,rfl,⟨vs,E1.sub.tup h1⟩,hq _ H1 Hs1 E1 fun Hs' H' e1 e2=>⟨⟨vs,e2.tup (e1.tup h1),by rw[h2.length];exact Nat.le_refl _⟩,fun i d hd=>?_⟩⟩
    obtain⟨v,g1,g2⟩:=h2.get hd
    refine⟨⟨vs,v,e2.tup (e1.tup h1),g1⟩,fun x H2 y=>?_⟩
    obtain⟨rfl,y⟩:=y
    have:=y vs (e2.tup (e1.tup h1))
    rw[g1] at this;cases this
    exact⟨Hs',.refl e2,Rep.same e1 d v g2⟩
  | _=>simp[items] at hl
theorem jz{K:PySem.W.Frag}{Hs0:Hp}{lo hi:Int}{n:Nat}(hn:n=(hi-lo).toNat):JZ K (Itr lo n) Hs0 (dj lo hi):=by
 have hl:(dj lo hi).length=n:=by rw[hn];simp[dj]
 intro Hs H e1 e2
 refine⟨by show n<=_;rw[hl];exact Nat.le_refl _,fun i d hd=>?_⟩
 have hi:i<n:=by have:=(List.getElem?_eq_some_iff.mp hd).1;rw[hl] at this;exact this
 refine⟨hi,fun x H' y=>?_⟩
 obtain⟨rfl,rfl⟩:=y
 refine⟨Hs,.refl e2,?_⟩
 unfold dj at hd
 rw[List.getElem?_map] at hd
 obtain⟨j,e3,rfl⟩:=Option.map_eq_some_iff.mp hd
 rw[List.getElem?_eq_some_iff] at e3
 obtain⟨_,e3⟩:=e3
 rw[List.getElem_range] at e3
 subst e3
 simp[Rep]
theorem sZ{x:Str}{j:Int}{p pos:Pos}(G:Good cx k X sc)(hx:bx cx sc x=some "range")(ha:Ev X ρ a (.int j))(hp:aB a=true)(hj:eZ j=true):EvI X ρ tg (.Call (.Name x p) [a] [] pos) (dj 0 j):=by
 obtain⟨hg,hm,rfl⟩:=bQ G hx
 intro σ H Hs R hs hst hq
 have q:=uP (tg:=tg) (p:=p) (pos:=pos) hg hm (bf (aq (X:=X) (e:=a)) cL (ao hp)) (ao hp)
 refine PI.sem q (ha σ H Hs _ hs hst fun v H1 Hs1 E1 r1=>?_)
 exact⟨j,by rw[aG r1],(gB hj).1,(gB hj).2,hq _ H1 Hs1 E1 (jz (by simp))⟩
theorem sY{x:Str}{i j:Int}{p pos:Pos}(G:Good cx k X sc)(hx:bx cx sc x=some "range")(ha:Ev X ρ a (.int i))(hp:aB a=true)(hb:Ev X ρ b (.int j))(hpb:aB b=true)(hi:eZ i=true)(hj:eZ j=true):EvI X ρ tg (.Call (.Name x p) [a,b] [] pos) (dj i j):=by
 obtain⟨hg,hm,rfl⟩:=bQ G hx
 intro σ H Hs R hs hst hq
 have q:=uO (tg:=tg) (p:=p) (pos:=pos) hg hm (bf (aq (X:=X) (e:=a)) (bf (aq (X:=X) (e:=b)) cL (ao hpb)) (ao hp)) (by rw[ao hp,ao hpb];rfl) (ao hpb)
 refine PI.sem q (ha σ H Hs _ hs hst fun v H1 Hs1 E1 r1=>hb σ H1 Hs1 _ E1.sub (hst.same E1.vis) fun v' H2 Hs2 E2 r2=>?_)
 exact⟨i,j,by rw[aG r1,aG r2],⟨(gB hi).1,(gB hi).2,(gB hj).1,(gB hj).2⟩,hq _ H2 Hs2 (E1.trans E2) (jz rfl)⟩
theorem vY{x:Str}{xs:List D}{p pos:Pos}(G:Good cx k X sc)(hx:bx cx sc x=some "reversed")(ha:Ev X ρ a (.lst xs))(hp:aB a=true):EvI X ρ tg (.Call (.Name x p) [a] [] pos) xs.reverse:=by
 obtain⟨hg,hm,rfl⟩:=bQ G hx
 intro σ H Hs R hs hst hq
 have q:=yj (tg:=tg) (p:=p) (pos:=pos) hg hm (bf (aq (X:=X) (e:=a)) cL (ao hp)) (ao hp)
 refine PI.sem q (ha σ H Hs _ hs hst fun v H1 Hs1 E1 r1=>?_)
 obtain⟨b,vs,rfl,h1,h2⟩:=bH r1
 have hl:=h2.length
 refine⟨b,vs,rfl,E1.sub.seq h1,hq _ H1 Hs1 E1 fun Hs' H' e1 e2=>⟨by show _=_;rw[List.length_reverse,hl],fun i d hd=>?_⟩⟩
 have hi:i<xs.length:=by have:=(List.getElem?_eq_some_iff.mp hd).1;simpa using this
 rw[List.getElem?_reverse hi] at hd
 obtain⟨v,g1,g2⟩:=h2.get hd
 rw[hl] at g1
 refine⟨⟨vs,e2.seq (e1.seq h1),rfl,by rw[<- hl];exact hi⟩,fun x H2 y=>?_⟩
 obtain⟨rfl,y⟩:=y
 have:=y vs (e2.seq (e1.seq h1))
 rw[g1] at this;cases this
 exact⟨Hs',.refl e2,Rep.same e1 d v g2⟩
theorem Fz{x:Str}{xs ys:List D}{p pos pt:Pos}{es:List Expr}{kt:Nat}(G:Good cx k X sc)(hx:bx cx sc x=some "zip")(ha:Ev X ρ a (.tup xs))(hp:aB a=true)(hb:Ev X ρ b (.tup ys))(hpb:aB b=true) :
  EvI X ρ (.Tuple es kt pt) (.Call (.Name x p) [a,b] [] pos) ((xs.zip ys).map fun q=>.tup [q.1,q.2]):=by
 obtain⟨hg,hm,rfl⟩:=bQ G hx
 intro σ H Hs R hs hst hq
 have q:=HW (es:=es) (kt:=kt) (pt:=pt) (p:=p) (pos:=pos) hg hm (bf (aq (X:=X) (e:=a)) (bf (aq (X:=X) (e:=b)) cL (ao hpb)) (ao hp)) (by rw[ao hp,ao hpb];rfl) (ao hpb)
 refine PI.sem q (ha σ H Hs _ hs hst fun v H1 Hs1 E1 r1=>hb σ H1 Hs1 _ E1.sub (hst.same E1.vis) fun v' H2 Hs2 E2 r2=>?_)
 obtain⟨c,vs,rfl,h1,h2⟩:=bL (Rep.same E2.vis _ _ r1)
 obtain⟨d,us,rfl,h3,h4⟩:=bL r2
 have l1:=h2.length
 have l2:=h4.length
 refine⟨c,d,rfl,⟨vs,E2.sub.tup h1⟩,⟨us,E2.sub.tup h3⟩,hq _ H2 Hs2 (E1.trans E2) fun Hs' H' e1 e2=>⟨⟨vs,us,e2.tup (e1.tup h1),e2.tup (e1.tup h3),?_⟩,fun i z hz=>?_⟩⟩
 ·rw[List.length_map,List.length_zip]
  omega
 ·rw[List.getElem?_map] at hz
  obtain⟨⟨x1,y1⟩,e3,rfl⟩:=Option.map_eq_some_iff.mp hz
  rw[List.getElem?_zip_eq_some] at e3
  obtain⟨v1,g1,g2⟩:=h2.get e3.1
  obtain⟨v2,g3,g4⟩:=h4.get e3.2
  refine⟨⟨vs,us,v1,v2,e2.tup (e1.tup h1),e2.tup (e1.tup h3),g1,g3⟩,fun w H3 y=>?_⟩
  obtain⟨p,hp',rfl,y⟩:=y
  rw[y vs us v1 v2 (e2.tup (e1.tup h1)) (e2.tup (e1.tup h3)) g1 g3]
  refine⟨_,Ext.new e2 (.tup [v1,v2]) hp',?_⟩
  have sm:=(Ext.new e2 (.tup [v1,v2]) hp').vis
  simp only[Rep]
  exact⟨p,[v1,v2],rfl,.of aW,.cons (Rep.same sm _ _ (Rep.same e1 _ _ g2)) (.cons (Rep.same sm _ _ (Rep.same e1 _ _ g4)) .nil)⟩
end
end L2
namespace L2
open PySem PySem.Spec PyProof.Rows DE PySem.SeqAt
theorem aP{α β:Type}{x:Option α}{f:α->Option β}{y:β}(h:(x >>=f)=some y):∃ a,x=some a/\f a=some y:=by
 cases x with
 | none=>cases h
 | some a=>exact⟨a,rfl,h⟩
def yP(X:Cx)(tg:Expr):TG:=fun v σ H Q=>∀ pins s u,Inv X pins σ H s->RelV v u->wpAny (model X.prog X.w) X.A (assign tg X.env u) (fun _ s'=>∃ σ' H',Inv X pins σ' H' s'/\Q σ' H') X.xe s
def Eo(X:Cx)(es:List Expr):TGs:=fun vs σ H Q=>∀ pins s us,Inv X pins σ H s->Vals vs us->wpAny (model X.prog X.w) X.A (assignInOrder ((assignEach es X.env).map (·.2)) us) (fun _ s'=>∃ σ' H',Inv X pins σ' H' s'/\Q σ' H') X.xe s
section
variable {X:Cx} {tg:Expr} {es:List Expr}
theorem fW:PG X tg (yP X tg):=fun pins s σ H v u Q I r h=>h pins s u I r
theorem PG.sem{t:TG}{v:V}{σ:St}{H:Hp}{Q:St->Hp->Prop}(h:PG X tg t)(q:t v σ H Q):yP X tg v σ H Q:=fun pins s u I r=>h pins s σ H v u Q I r q
theorem lN:PGs X es (Eo X es):=fun pins s σ H v u Q I r h=>h pins s u I r
theorem PGs.sem{t:TGs}{v:List V}{σ:St}{H:Hp}{Q:St->Hp->Prop}(h:PGs X es t)(q:t v σ H Q):Eo X es v σ H Q:=fun pins s u I r=>h pins s σ H v u Q I r q
end
theorem au:∀ (ρ:Rho) (x:Str) (v:Sl),(cC ρ x v).map (·.1)=ρ.map (·.1)
  | [],_,_=>rfl
  | (y, s) :: r, x, v => by
    unfold cC
    split
    · rfl
    · simp[au r x v]
theorem aQ:∀ {ρ:Rho} {x:Str} {v:Sl} {i:Nat},(ρ.map (·.1)).Nodup->(ρ.map (·.1))[i]?=some x->∀ j:Nat,(cC ρ x v)[j]?=if j=i then some (x,v) else ρ[j]?
  | [],x,v,i,_,h,_=>by simp at h
  | (y, s) :: r, x, v, 0, hn, h, j => by
    simp at h;subst h
    cases j with
    | zero=>simp[cC]
    | succ j=>simp[cC]
  | (y, s) :: r, x, v, i + 1, hn, h, j => by
    rw[List.map_cons,List.nodup_cons] at hn
    have h':(r.map (·.1))[i]?=some x:=by simpa using h
    have hne:(x==y)=false:=by
      rw[beq_eq_false_iff_ne]
      intro e
      subst e
      exact hn.1 (List.mem_of_getElem? h')
    simp only[cC,hne,Bool.false_eq_true,if_false]
    cases j with
    | zero=>simp
    | succ j =>
      have:=aQ (v:=v) hn.2 h' j
      simp only[List.getElem?_cons_succ,this,Nat.add_right_cancel_iff]
theorem bw{l:List Str}{x:Str}(h:l.contains x=true):∃ i:Nat,l[i]?=some x:=by
 have:=List.mem_of_elem_eq_true h
 exact List.mem_iff_getElem?.mp this
structure Owns (X:Cx) (scope:Scope):Prop where
 own:∀ x,ownIn scope x=true->Loc X.env.scope x/\(X.fn x=true\/X.env.scope.names.lookup x=some .local)
def lA(K:PySem.W.Frag)(Hs:Hp)(scope:Scope)(P:Rho->St->Prop):Prop:=∀ ρ σ (i:Nat) x d v,(ρ.map (·.1)).Nodup->(ρ.map (·.1))[i]?=some x->ownIn scope x=true->P ρ σ->Rep K Hs d v->P (cC ρ x (.sh d)) (σ.set i (some v))
section
variable {X:Cx} {scope:Scope} {Hs H:Hp} {P:Rho->St->Prop} {Q:St->Hp->Prop}
theorem oA{x:Str}{pos:Pos}{ρ ρ':Rho}{σ:St}{d:D}{v:V}(hO:Owns X scope)(hnd:X.N.Nodup)(hN:X.N=ρ.map (·.1))(KE:lA X.K Hs scope P)(hb:(if ownIn scope x&&(ρ.map (·.1)).contains x then some (cC ρ x (.sh d)) else none)=some ρ')(hp:P ρ σ)(rd:Rep X.K Hs d v)
  (hq:∀ σ',X.N=ρ'.map (·.1)->P ρ' σ'->Q σ' H):yP X (.Name x pos) v σ H Q:=by
 split at hb
 ·rename_i hc
  cases hb
  rw[Bool.and_eq_true] at hc
  obtain⟨i,hi⟩:=bw hc.2
  obtain⟨h1,h2⟩:=hO.own x hc.1
  exact PG.sem (Df (i:=i) hnd (by rw[hN];exact hi) h1 h2) (hq _ (by rw[au];exact hN) (KE ρ σ i x d v (by rw[<- hN];exact hnd) hi hc.1 hp rd))
 ·cases hb
theorem d8{env:Env}:∀ {es:List Expr} {ds:List D} {ρ ρ':Rho},bindNames scope es ds ρ=some ρ'->(assignEach es env).length=es.length/\(assignEach es env).findIdx? (·.1)=none/\es.length=ds.length
  | [],[],_,_,_=>⟨rfl,rfl,rfl⟩
  | [],d::ds,ρ,ρ',h=>by simp[bindNames] at h
  | e::es,[],ρ,ρ',h=>by cases e<;>simp[bindNames] at h
  | e :: es, d :: ds, ρ, ρ', h => by
    cases e<;>try (simp[bindNames] at h;done)
    rename_i x pos
    simp only[bindNames] at h
    split at h
    · obtain⟨h1,h2,h3⟩:=d8 (env:=env) h
      refine⟨by show(assignEach es env).length+1=_;rw[h1];rfl,?_,by simp[h3]⟩
      show((false,assign (.Name x pos) env)::assignEach es env).findIdx? (·.1)=none
      rw[List.findIdx?_cons]
      simp only[Bool.false_eq_true,if_false,h2]
      rfl
    · cases h
theorem fL(hO:Owns X scope)(hnd:X.N.Nodup)(KE:lA X.K Hs scope P):∀ {es:List Expr} {ds:List D} {vs:List V} {ρ ρ':Rho} {σ:St},X.N=ρ.map (·.1)->bindNames scope es ds ρ=some ρ'->P ρ σ->aM X.K Hs ds vs->(∀ σ',X.N=ρ'.map (·.1)->P ρ' σ'->Q σ' H)->Eo X es vs σ H Q
  | [], [], vs, ρ, ρ', σ, hN, h, hp, rd, hq => by
    simp only[bindNames,Option.some.injEq] at h
    subst h
    simp only[aM] at rd
    exact PGs.sem Dd ⟨rd,hq _ hN hp⟩
  | [],d::ds,vs,ρ,ρ',σ,hN,h,hp,rd,hq=>by simp[bindNames] at h
  | e::es,[],vs,ρ,ρ',σ,hN,h,hp,rd,hq=>by cases e<;>simp[bindNames] at h
  | e :: es, d :: ds, vs, ρ, ρ', σ, hN, h, hp, rd, hq => by
    cases e<;>try (simp[bindNames] at h;done)
    rename_i x pos
    simp only[bindNames] at h
    split at h
    · rename_i hc
      simp only[aM] at rd
      obtain⟨v,r,rfl,r1,r2⟩:=rd
      refine PGs.sem (yp fW lN) ⟨v,r,rfl,?_⟩
      exact oA hO hnd hN KE (ρ':=cC ρ x (.sh d)) (by rw[if_pos hc]) hp r1 fun σ' hN' hp'=>fL hO hnd KE hN' h hp' r2 hq
    · cases h
theorem pU{tg:Expr}{ρ ρ':Rho}{σ:St}{d:D}{v:V}(hc:X.calm=true)(hO:Owns X scope)(hnd:X.N.Nodup)(hs:Same Hs H)(hN:X.N=ρ.map (·.1))(KE:lA X.K Hs scope P)(hb:fP scope tg d ρ=some ρ')(hp:P ρ σ)(rd:Rep X.K Hs d v)
  (hq:∀ σ',X.N=ρ'.map (·.1)->P ρ' σ'->Q σ' H):yP X tg v σ H Q:=by
 unfold fP at hb
 split at hb
 ·exact oA hO hnd hN KE hb hp rd hq
 ·rename_i es k pos ds
  obtain⟨a,vs,rfl,h1,h2⟩:=bL rd
  obtain⟨e1,e2,e3⟩:=d8 (env:=X.env) hb
  exact PG.sem (Ab hc lN e1 e2) ⟨a,vs,rfl,hs.tup h1,by rw[<- h2.length,e3],fL hO hnd KE hN hb hp h2 hq⟩
 ·cases hb
end
section
variable {X Xc:Cx} {scope sc:Scope} {cx:Cxt} {k:Nat} {ρ:Rho}
theorem ju:∀ {l:List Str},nD l=true->l.Nodup
  | [],_=>.nil
  | x :: r, h => by
    unfold nD at h
    rw[Bool.and_eq_true] at h
    refine List.nodup_cons.mpr ⟨fun hm=>?_,ju h.2⟩
    have:r.contains x=true:=by simpa using hm
    rw[this] at h
    exact absurd h.1 (by decide)
theorem cP(G:Good cx k X sc)(h:fY sc scope=true):scope.kind=.function/\(scope.names.map (·.1)).Nodup/\∀ x,(x,NameKind.free)∈scope.names->X.env.kindOf x=some .cell\/X.env.kindOf x=some .free:=by
 unfold fY at h
 rw[Bool.and_eq_true,Bool.and_eq_true] at h
 refine⟨by simpa using h.1.1,ju h.1.2,fun x hx=>?_⟩
 have:=List.all_eq_true.mp h.2 _ hx
 show X.env.scope.names.lookup x=_\/X.env.scope.names.lookup x=_
 rw[G.sce]
 simpa using this
theorem Hv(G:Good cx k X sc):relabel scope X.env=jU scope sc:=by
 unfold relabel jU Env.kindOf
 rw[G.sce]
theorem Good.comp(G:Good cx k X sc)(C:CompOf X scope Xc)(h:fY sc scope=true):Good cx k Xc (jU scope sc) where
 calm:=C.calm
 room:=by rw[C.A];exact G.room
 sce:=by rw[C.sc,Hv G]
 kind:=(cP G h).1
 nd:=by rw[C.N];exact(cP G h).2.1
 cst:=by rw[C.mg,C.K];exact G.cst
 blt:=by rw[C.mg];exact G.blt
 exs:=by rw[C.mg,C.K];exact G.exs
 fns:=by rw[C.mg,C.prog,C.w,C.K,C.base];exact G.fns
 kw:=by rw[C.K,C.w];exact G.kw
theorem Owns.comp(G:Good cx k X sc)(C:CompOf X scope Xc):Owns Xc scope where
 own:=fun x hx=>by
  unfold ownIn at hx
  rw[Bool.or_eq_true] at hx
  have look:∀ kd,scope.names.lookup x=some kd->kd≠.free->Xc.env.scope.names.lookup x=some kd:=fun kd e hne=>by
   rw[C.sc]
   show(scope.names.map _).lookup x=_
   rw[dZ,e]
   simp[hne]
  rcases hx with hx | hx
  ·have e:scope.names.lookup x=some .local:=by simpa using hx
   have e2:=look _ e (by decide)
   exact⟨.inl e2,.inr e2⟩
  ·have e:scope.names.lookup x=some .cell:=by simpa using hx
   have e2:=look _ e (by decide)
   refine⟨.inr e2,.inl ?_⟩
   rw[C.fn]
   show(scope.names.lookup x==some .cell)=true
   rw[e];rfl
theorem dB:(bI scope ρ).map (·.1)=scope.names.map (·.1):=by
 unfold bI
 rw[List.map_map]
 rfl
theorem jM{K:PySem.W.Frag}{Hs:Hp}{σ:St}{N:List Str}(hN:N=ρ.map (·.1))(h:cH K Hs ρ σ):cH K Hs (bI scope ρ) (pF N scope.names σ):=by
  intro i x d e
  unfold bI at e
  rw[List.getElem?_map] at e
  obtain⟨p,e1,e2⟩:=Option.map_eq_some_iff.mp e
  cases hk:p.2==NameKind.free with
  | false=>rw[hk] at e2;simp at e2
  | true =>
    rw[hk] at e2
    simp only[if_true,Prod.mk.injEq] at e2
    obtain⟨rfl,e2⟩:=e2
    have e3:ρ.lookup p.1=some (.sh d):=by
      cases q:ρ.lookup p.1 with
      | none=>rw[q] at e2;simp[K9] at e2
      | some sl =>
        rw[q] at e2
        cases sl<;>simp[K9] at e2
        rw[e2]
    obtain⟨j,g1,g2⟩:=cg e3
    obtain⟨v,g3,g4⟩:=h j _ d g1
    refine⟨v,?_,g4⟩
    unfold pF
    rw[List.getElem?_map,e1]
    simp only[Option.map_some,hk,if_true]
    unfold qI
    rw[hN,g2]
    simp[g3]
def CSt(K:PySem.W.Frag)(Hs:Hp)(n:Nat)(ρ0:Rho):Rho->St->Prop:=fun ρ σ=>σ.length=n/\cH K Hs ρ σ/\cH K Hs ρ0 σ
theorem m7{K:PySem.W.Frag}{Hs:Hp}{ρ:Rho}{σ:St}{i:Nat}{x:Str}{d:D}{v:V}(hn:(ρ.map (·.1)).Nodup)(hi:(ρ.map (·.1))[i]?=some x)(hl:i<σ.length)(h:cH K Hs ρ σ)(r:Rep K Hs d v):cH K Hs (cC ρ x (.sh d)) (σ.set i (some v)):=by
 intro j y d' e
 rw[aQ hn hi j] at e
 split at e
 ·rename_i hj
  subst hj
  cases e
  exact⟨v,by rw[List.getElem?_set_self hl],r⟩
 ·rename_i hj
  obtain⟨w,h1,h2⟩:=h j y d' e
  exact⟨w,by rw[List.getElem?_set_ne (fun z=>hj z.symm)];exact h1,h2⟩
theorem kW{K:PySem.W.Frag}{Hs:Hp}{n:Nat}(hnd:(scope.names.map (·.1)).Nodup)(hn:n=scope.names.length):lA K Hs scope (fun ρ1 σ=>ρ1.map (·.1)=scope.names.map (·.1)/\CSt K Hs n (bI scope ρ) ρ1 σ):=by
  intro ρ1 σ i x d v h1 h2 h3 ⟨h4,h5,h6,h7⟩ r
  refine⟨by rw[au];exact h4,by rw[List.length_set];exact h5,?_,?_⟩
  · have hi:i<σ.length:=by
      rw[h5,hn]
      have:=(List.getElem?_eq_some_iff.mp h2).1
      rw[h4] at this
      simpa using this
    exact m7 h1 h2 hi h6 r
  · intro j y d' e
    obtain⟨w,g1,g2⟩:=h7 j y d' e
    refine⟨w,?_,g2⟩
    have hj:i≠j:=by
      intro z
      subst z
      rw[h4] at h2
      unfold bI at e
      rw[List.getElem?_map] at e
      rw[List.getElem?_map] at h2
      obtain⟨p,e1,e2⟩:=Option.map_eq_some_iff.mp e
      rw[e1] at h2
      have ex:p.1=x:=by simpa using h2
      cases hk:p.2==NameKind.free with
      | false=>rw[hk] at e2;simp at e2
      | true =>
        have ek:p.2=.free:=by simpa using hk
        have hm:=List.mem_of_getElem? e1
        have:=bU (c:=p.2) hnd (by rw[show p=(x,p.2) from by rw[<- ex]] at hm;exact hm)
        unfold ownIn at h3
        rw[this,ek] at h3
        exact absurd h3 (by decide)
    rw[List.getElem?_set_ne hj]
    exact g1
def pN(X:Cx)(ifs:List Expr):TT:=fun σ H Q=>∀ pins s,Inv X pins σ H s->wpAny (model X.prog X.w) X.A (forIn ifs true fun c r=>if r=true then do let ok <- isTrue c X.env (eval c X.env);pure (ForInStep.yield ok) else pure (ForInStep.yield r)) (TP X pins σ Q) X.xe s
theorem eH{ifs:List Expr}:wY X ifs (pN X ifs):=fun pins s σ H Q I h=>h pins s I
theorem wY.sem{ifs:List Expr}{t:TT}{σ:St}{H:Hp}{Q:Bool->Hp->Prop}(h:wY X ifs t)(q:t σ H Q):pN X ifs σ H Q:=fun pins s I=>h pins s σ H Q I q
theorem Bg{f:Expr->Option D}{ifs:List Expr}{b:Bool}(hf:∀ e d,f e=some d->Ev X ρ e d/\∀ b,d=.bl b->EvT X ρ e b)(h:lW f ifs=some b){σ:St}{H Hs:Hp}{Q:Bool->Hp->Prop}(hs:Same Hs H)(hst:cH X.K Hs ρ σ)(hq:∀ H' Hs',Ext Hs H Hs' H'->Q b H'):pN X ifs σ H Q:=by
  unfold lW at h
  split at h
  · cases h
    exact wY.sem yd (hq H Hs (.refl hs))
  · rename_i c
    cases hc:f c with
    | none=>rw[hc] at h;cases h
    | some d =>
      rw[hc] at h
      cases d<;>simp[asB] at h
      subst h
      exact wY.sem (yc dW) ((hf c _ hc).2 _ rfl σ H Hs Q hs hst hq)
  · cases h
theorem Ext.acc{Hs H Hs' H':Hp}{acc:Addr}{o:HO}(E:Ext Hs H Hs' H')(h:H acc=none)(h':Hs' acc=none):Ext Hs H Hs' (upd H' acc o) where
 vis:=E.vis
 all:=fun b u e=>by rw[aO (aF e h)];exact E.all b u e
 sub:=fun b u e=>by rw[aO (aF e h')];exact E.sub b u e
 hid:=E.hid
theorem jP{f:D->Option (Option D)}{d:D}{r out:List D}(h:bK f (d::r)=some out):(∃ v o',f d=some (some v)/\bK f r=some o'/\out=v::o')\/(f d=some none/\bK f r=some out):=by
  simp only[bK,bind,Option.bind] at h
  cases hf:f d with
  | none=>rw[hf] at h;cases h
  | some o =>
    rw[hf] at h
    cases o with
    | none=>exact .inr ⟨rfl,h⟩
    | some v =>
      simp only[Option.map_eq_some_iff] at h
      obtain⟨o',h1,rfl⟩:=h
      exact .inl ⟨v,o',rfl,h1,rfl⟩
def n6(cx:Cxt)(n:Nat)(sc scope:Scope)(ρ:Rho)(tg elt:Expr)(ifs:List Expr):D->Option (Option D):=fun d=>do
 let ρ1 <- fP scope tg d (bI scope ρ)
 let b <- lW (ev cx n (jU scope sc) ρ1) ifs
 if b then(ev cx n (jU scope sc) ρ1 elt).map some else some none
theorem jK{tg iter elt:Expr}{ifs:List Expr}{l out:List D}{n:Nat}(G:Good cx k X sc)(hN:X.N=ρ.map (·.1))(hok:fY sc scope=true)(hI:EvI X ρ tg iter l)(hz:szl l.length=true)(hgo:bK (n6 cx n sc scope ρ tg elt ifs) l=some out)
    (hE:∀ Xc,CompOf X scope Xc->∀ ρ1:Rho,Xc.N=ρ1.map (·.1)->∀ e d,ev cx n (jU scope sc) ρ1 e=some d->Ev Xc ρ1 e d/\∀ b,d=.bl b->EvT Xc ρ1 e b)
    {σ:St} {H Hs:Hp} {Q:VK} (hs:Same Hs H) (hst:cH X.K Hs ρ σ) (hq:∀ acc vs Hs' H',Ext Hs H Hs' H'->H acc=none->Hs' acc=none->H' acc=some (.lst vs)->aM X.K Hs' out vs->Q (.ref acc) H') :
    o8 X scope (oZ X tg iter) (pF X.N scope.names) (fun Xc=>yP Xc tg) (fun Xc=>pN Xc ifs) (fun Xc=>mH Xc elt) σ H Q:=by
  obtain⟨ok1,ok2,ok3⟩:=cP G hok
  refine hI σ H Hs _ hs hst fun J H1 Hs1 E1 hJ acc hacc Xc C=>?_
  have GC:=G.comp C hok
  have OC:=Owns.comp (scope:=scope) G C
  have hNc:∀ ρ1:Rho,ρ1.map (·.1)=scope.names.map (·.1)->Xc.N=ρ1.map (·.1):=fun ρ1 h=>by rw[C.N,h]
  have a1:Hs1 acc=none:=E1.sub.free hacc
  have a0:H acc=none:=E1.all.free hacc
  let W:Nat->Nat->St->Hp->Prop:=fun i m σc H=>m=l.length-i/\i<=l.length/\∃ Hs3 ys pre rest,Ext Hs1 H1 Hs3 H/\Hs3 acc=none/\H acc=some (.lst ys)/\aM X.K Hs3 pre ys/\bK (n6 cx n sc scope ρ tg elt ifs) (l.drop i)=some rest/\pre++rest=out/\pre.length<=i/\σc.length=scope.names.length/\cH X.K Hs3 (bI scope ρ) σc
  refine⟨W,⟨l.length,rfl,Nat.zero_le _,Hs1,[],[],out,Ext.acc (.refl E1.sub) hacc a1,a1,aW,.nil,by simpa using hgo,rfl,Nat.le_refl _,by simp[pF],jM hN (hst.same E1.vis)⟩,?_⟩
  rintro i m σc H3 ⟨rfl,hi,Hs3,ys,pre,rest,E3,b3,c3,r3,g3,p3,q3,l3,s3⟩
  obtain⟨st3,go3⟩:=hJ Hs3 H3 E3.vis E3.sub
  by_cases hlt:i<l.length
  · have hd:l[i]?=some l[i]:=List.getElem?_eq_getElem hlt
    obtain⟨gi,yi⟩:=go3 i l[i] hd
    refine .inr ⟨gi,fun σ' H'=>W (i+1) (l.length-(i+1)) σ' H',fun σ' H' w=>⟨_,by omega,w⟩,fun x H4 y4=>?_⟩
    obtain⟨Hs4,E4,rx⟩:=yi x H4 y4
    have b4:Hs4 acc=none:=E4.hid acc _ c3 b3
    have c4:H4 acc=some (.lst ys):=E4.all _ _ c3
    rw[List.drop_eq_getElem_cons hlt] at g3
    have key:∃ ρ1,fP scope tg l[i] (bI scope ρ)=some ρ1/\∃ b,lW (ev cx n (jU scope sc) ρ1) ifs=some b/\((b=true/\∃ v o',ev cx n (jU scope sc) ρ1 elt=some v/\bK (n6 cx n sc scope ρ tg elt ifs) (l.drop (i+1))=some o'/\rest=v::o')\/(b=false/\bK (n6 cx n sc scope ρ tg elt ifs) (l.drop (i+1))=some rest)):=by
      have inv:∀ o,n6 cx n sc scope ρ tg elt ifs l[i]=some o->∃ ρ1,fP scope tg l[i] (bI scope ρ)=some ρ1/\∃ b,lW (ev cx n (jU scope sc) ρ1) ifs=some b/\(if b then(ev cx n (jU scope sc) ρ1 elt).map some else some none)=some o:=by
        intro o h
        obtain⟨ρ1,h1,h⟩:=aP h
        obtain⟨b,h2,h⟩:=aP h
        exact⟨ρ1,h1,b,h2,h⟩
      rcases jP g3 with⟨v,o',f1,f2,f3⟩ | ⟨f1,f2⟩
      · obtain⟨ρ1,h1,b,h2,h3⟩:=inv _ f1
        refine⟨ρ1,h1,b,h2,?_⟩
        cases b with
        | false=>simp at h3
        | true =>
          simp only[if_true,Option.map_eq_some_iff] at h3
          obtain⟨w,h3,h4⟩:=h3
          have h5:w=v:=Option.some.inj h4
          subst h5
          exact .inl ⟨rfl,w,o',h3,f2,f3⟩
      · obtain⟨ρ1,h1,b,h2,h3⟩:=inv _ f1
        refine⟨ρ1,h1,b,h2,?_⟩
        cases b with
        | true=>simp at h3
        | false=>exact .inr ⟨rfl,f2⟩
    obtain⟨ρ1,k1,b,k2,k3⟩:=key
    have s4:cH X.K Hs4 (bI scope ρ) σc:=s3.same E4.vis
    have KE:=kW (K:=Xc.K) (Hs:=Hs4) (ρ:=ρ) (n:=scope.names.length) ok2 rfl
    refine pU (X:=Xc) (scope:=scope) (Hs:=Hs4) GC.calm OC GC.nd E4.sub (hNc _ dB) KE k1 ⟨dB,l3,by rw[C.K];exact s4,by rw[C.K];exact s4⟩ (by rw[C.K];exact rx) fun σ5 hN5 p5=>?_
    obtain⟨_,l5,s5,s5'⟩:=p5
    have hev:=hE Xc C ρ1 hN5
    refine Bg hev k2 E4.sub s5 fun H6 Hs6 E6=>?_
    have b6:Hs6 acc=none:=E6.hid acc _ c4 b4
    have c6:H6 acc=some (.lst ys):=E6.all _ _ c4
    have s6:cH X.K Hs6 (bI scope ρ) σ5:=by rw[<- C.K];exact s5'.same E6.vis
    rcases k3 with⟨rfl,v,o',k3,k4,k5⟩ | ⟨rfl,k3⟩
    · refine tR ((hev elt v k3).1 σ5 H6 Hs6 _ E6.sub (s5.same E6.vis) fun w H7 Hs7 E7 r7=>?_)
      have b7:Hs7 acc=none:=E7.hid acc _ c6 b6
      have c7:H7 acc=some (.lst ys):=E7.all _ _ c6
      refine⟨ys,c7,?_,rfl,hlt,Hs7,ys++[w],pre++[v],o',Ext.acc (E3.trans (E4.trans (E6.trans E7))) hacc b7,b7,aW,?_,k4,?_,by simp;omega,l5,s6.same E7.vis⟩
      · have:=r3.length
        have:=qw hz
        omega
      · rw[<- C.K]
        refine aM.append ?_ (.cons r7 .nil)
        rw[C.K]
        exact aM.same (E4.trans (E6.trans E7)).vis pre ys r3
      · rw[<- p3,k5];simp
    · refine vH ?_
      exact⟨rfl,hlt,Hs6,ys,pre,rest,E3.trans (E4.trans E6),b6,c6,aM.same (E4.trans E6).vis pre ys r3,k3,p3,by omega,l5,s6⟩
  · have hi':i=l.length:=by omega
    subst hi'
    refine .inl ⟨st3,?_⟩
    rw[List.drop_length] at g3
    simp only[bK,Option.some.injEq] at g3
    subst g3
    rw[List.append_nil] at p3
    subst p3
    exact hq acc ys Hs3 H3 (E1.trans E3) a0 b3 c3 r3
end
end L2
namespace L2
open PySem PySem.Spec PyProof.Rows DE PySem.SeqAt
def bIs(b:Bool):Value->Bool
 | .bool y=>y==b
 | _=>false
theorem oX:∀ {bs:List Bool} {its:List Value},Vals (bs.map V.bl) its->its=bs.map Value.bool
  | [],its,r=>by cases r;rfl
  | b :: bs, its, r => by
    obtain⟨u,w,rfl,r1,r2⟩:=gW r
    cases (show u=Value.bool b from r1)
    rw[oX r2];rfl
theorem Bl(b:Bool):∀ bs:List Bool,(bs.map Value.bool).countP (bIs b)=cntB b bs
  | []=>rfl
  | c :: bs => by
    rw[List.map_cons,List.countP_cons,Bl b bs]
    unfold cntB
    rw[List.filter_cons]
    show _+(if(c==b)=true then 1 else 0)=_
    cases c==b<;>simp
theorem Vs{b:Bool}:∀ (bs:List Bool) (m:Nat) (h:m<bs.length),m<bs.idxOf b->(bs[m]==b)=false
  | [],m,h,_=>absurd h (by simp)
  | c :: bs, m, h, hl => by
    rw[List.idxOf_cons] at hl
    cases hc:c==b with
    | true=>rw[hc] at hl;simp at hl
    | false =>
      cases m with
      | zero=>simpa using hc
      | succ m =>
        rw[hc] at hl
        simp only[cond_false] at hl
        simpa using Vs bs m (by simpa using h) (by omega)
section
variable {X:Cx} {ρ:Rho} {cx:Cxt} {k:Nat} {sc scope:Scope}
def Hy(K:PySem.W.Frag):V->List V->Hp->VK->Prop:=fun x vs H Q=>∃ (l:Addr) (bs:List Bool) (b:Bool),x=.ref l/\vs=[.bl b]/\SqL K H l (bs.map V.bl)/\Q (.int (cntB b bs:Nat)) H
theorem yE:MtM X "list.count" (Hy X.K):=by
 intro pins s σ H x vs v us Q I rx rv h
 obtain⟨l,bs,b,rfl,rfl,hB,q⟩:=h
 cases (show v=Value.ref l from rx)
 obtain⟨u,rfl,ru⟩:=rv.one
 cases (show u=Value.bool b from ru)
 obtain⟨its2,r2,pl,hz2⟩:=I.list hB
 have ei:=oX r2
 subst ei
 obtain⟨⟨c2,dd2,data2,sl2⟩,n2,e2,hc2,hd2,hs2⟩:=pl
 simp only at hc2 hs2
 obtain⟨h3,h4⟩:=(show dd2=none/\data2=.seq (bs.map Value.bool).toArray n2 from⟨hd2,hs2⟩)
 subst hc2 h4
 refine call_meets F.slot_list_count ⟨_,e2,rfl⟩ F.entry_list_count (F.args_list_count_2 _ _) (list_countAt l (bs.map Value.bool).toArray n2 dd2 sl2 (.bool b) (bIs b)) ⟨e2,fun y hy=>?_,?_⟩
 ·have hy':y∈bs.map Value.bool:=by simpa using hy
  obtain⟨c,_,rfl⟩:=List.mem_map.mp hy'
  exact EqAt.bool_bool c b
 ·rw[show(bs.map Value.bool).toArray.toList=bs.map Value.bool from rfl,Bl]
  exact⟨.int _,H,I.tok _,⟨_,rfl⟩,q⟩
def Hw(K:PySem.W.Frag):V->List V->Hp->VK->Prop:=fun x vs H Q=>∃ (l:Addr) (bs:List Bool) (b:Bool),x=.ref l/\vs=[.bl b]/\SqL K H l (bs.map V.bl)/\bs.contains b=true/\Q (.int (bs.idxOf b:Nat)) H
theorem yD:MtM X "list.index" (Hw X.K):=by
 intro pins s σ H x vs v us Q I rx rv h
 obtain⟨l,bs,b,rfl,rfl,hB,hin,q⟩:=h
 cases (show v=Value.ref l from rx)
 obtain⟨u,rfl,ru⟩:=rv.one
 cases (show u=Value.bool b from ru)
 obtain⟨its2,r2,pl,hz2⟩:=I.list hB
 have ei:=oX r2
 subst ei
 obtain⟨⟨c2,dd2,data2,sl2⟩,n2,e2,hc2,hd2,hs2⟩:=pl
 simp only at hc2 hs2
 obtain⟨h3,h4⟩:=(show dd2=none/\data2=.seq (bs.map Value.bool).toArray n2 from⟨hd2,hs2⟩)
 subst hc2 h4
 have hj:bs.idxOf b<bs.length:=List.idxOf_lt_length_iff.mpr (by simpa using hin)
 have hn:=nJ
 have hz3:bs.length<=sizeLine:=by simpa using hz2
 refine call_meets F.slot_list_index ⟨_,e2,rfl⟩ F.entry_list_index (F.args_list_index_2 _ _) (list_indexAt l (bs.map Value.bool).toArray n2 dd2 sl2 (.bool b) (bIs b) (bs.idxOf b) (by simpa using hj) (by omega) ?_ ?_) ⟨e2,fun y hy=>?_,?_⟩
 ·simp only[List.getElem_toArray,List.getElem_map,bIs]
  simpa using List.getElem_idxOf hj
 ·intro m hm hlt
  simp only[List.getElem_toArray,List.getElem_map,bIs]
  exact Vs bs m (by simpa using hm) hlt
 ·have hy':y∈bs.map Value.bool:=by simpa using hy
  obtain⟨c,_,rfl⟩:=List.mem_map.mp hy'
  exact EqAt.bool_bool c b
 ·exact⟨.int _,H,I.tok _,⟨_,rfl⟩,q⟩
def iIs(i:Int):Value->Bool
 | .int j _=>j==i
 | _=>false
theorem wz(i:Int):∀ {ns:List Int} {its:List Value},Vals (ns.map V.int) its->its.countP (iIs i)=(ns.filter (· ==i)).length
  | [],its,r=>by rw[List.map_nil] at r;cases r;rfl
  | n :: ns, its, r => by
    rw[List.map_cons] at r
    obtain⟨u,w,rfl,r1,r2⟩:=gW r
    obtain⟨t,e⟩:=(show ∃ t,u=Value.int n t from r1)
    subst e
    rw[List.countP_cons,wz i r2,List.filter_cons]
    show _+(if(n==i)=true then 1 else 0)=_
    cases n==i<;>simp
theorem vJ:∀ {ns:List Int} {its:List Value},Vals (ns.map V.int) its->∀ y∈its,∃ n t,y=Value.int n t
  | [],its,r,y,hy=>by rw[List.map_nil] at r;cases r;simp at hy
  | n :: ns, its, r, y, hy => by
    rw[List.map_cons] at r
    obtain⟨u,w,rfl,r1,r2⟩:=gW r
    obtain⟨t,e⟩:=(show ∃ t,u=Value.int n t from r1)
    subst e
    rcases List.mem_cons.mp hy with rfl | hy
    · exact⟨n,t,rfl⟩
    · exact vJ r2 y hy
def Cy(K:PySem.W.Frag):V->List V->Hp->VK->Prop:=fun x vs H Q=>∃ (l:Addr) (ns:List Int) (i:Int),x=.ref l/\vs=[.int i]/\SqL K H l (ns.map V.int)/\Q (.int ((ns.filter (· ==i)).length:Nat)) H
theorem u5:MtM X "list.count" (Cy X.K):=by
 intro pins s σ H x vs v us Q I rx rv h
 obtain⟨l,ns,i,rfl,rfl,hB,q⟩:=h
 cases (show v=Value.ref l from rx)
 obtain⟨u,rfl,ru⟩:=rv.one
 obtain⟨tu,eu⟩:=(show ∃ t,u=Value.int i t from ru)
 subst eu
 obtain⟨its2,r2,pl,hz2⟩:=I.list hB
 obtain⟨⟨c2,dd2,data2,sl2⟩,n2,e2,hc2,hd2,hs2⟩:=pl
 simp only at hc2 hs2
 obtain⟨h3,h4⟩:=(show dd2=none/\data2=.seq its2.toArray n2 from⟨hd2,hs2⟩)
 subst hc2 h4
 refine call_meets F.slot_list_count ⟨_,e2,rfl⟩ F.entry_list_count (F.args_list_count_2 _ _) (list_countAt l its2.toArray n2 dd2 sl2 (.int i tu) (iIs i)) ⟨e2,fun y hy=>?_,?_⟩
 ·obtain⟨n,t,rfl⟩:=vJ r2 y (by simpa using hy)
  exact fun P w Q E q=>wpAny_eqBool_int q
 ·rw[show its2.toArray.toList=its2 from rfl,wz i r2]
  exact⟨.int _,H,I.tok _,⟨_,rfl⟩,q⟩
theorem yZ{y:Str}{m:Str}{e:Expr}{x z d:D}{py ap cp:Pos}(ha:Ev X ρ (.Name y py) x)(he:Ev X ρ e z)(hp:aB e=true)(hline:(ap.endLine==cp.line)=true)(h:pI m x z=some d):Ev X ρ (.Call (.Attribute (.Name y py) m ap) [e] [] cp) d:=by
 unfold pI at h
 split at h
 ·rename_i xs b
  obtain⟨bs,hb,h2⟩:=aP h
  clear h
  intro σ H Hs Q hs hst hq
  split at h2
  ·rename_i hm
   have em:m="count":=by simpa using hm
   subst em
   cases h2
   refine(pB PySem.F.plainAttrs_list PySem.F.slot_list_count PySem.F.type_list_count yE aq (bf aq cL (ao hp)) rfl (by rw[ao hp];rfl) hline (ao hp) rfl).sem ?_
   refine ha σ H Hs _ hs hst fun v H1 Hs1 E1 r1=>?_
   obtain⟨l,vs,rfl,g1,g2⟩:=bH r1
   have ev:=jf hb g2
   subst ev
   refine⟨.inl ⟨rfl,_,E1.sub.seq g1⟩,?_⟩
   refine he σ H1 Hs1 _ E1.sub (hst.same E1.vis) fun v2 H2 Hs2 E2 r2=>?_
   rw[cQ r2]
   exact⟨l,bs,b,rfl,rfl,E2.sub.seq (E2.vis.seq g1),hq _ H2 Hs2 (E1.trans E2) (by simp[Rep])⟩
  ·split at h2
   ·rename_i hm
    rw[Bool.and_eq_true] at hm
    have em:m="index":=by simpa using hm.1
    subst em
    cases h2
    refine(pB PySem.F.plainAttrs_list PySem.F.slot_list_index PySem.F.type_list_index yD aq (bf aq cL (ao hp)) rfl (by rw[ao hp];rfl) hline (ao hp) rfl).sem ?_
    refine ha σ H Hs _ hs hst fun v H1 Hs1 E1 r1=>?_
    obtain⟨l,vs,rfl,g1,g2⟩:=bH r1
    have ev:=jf hb g2
    subst ev
    refine⟨.inl ⟨rfl,_,E1.sub.seq g1⟩,?_⟩
    refine he σ H1 Hs1 _ E1.sub (hst.same E1.vis) fun v2 H2 Hs2 E2 r2=>?_
    rw[cQ r2]
    exact⟨l,bs,b,rfl,rfl,E2.sub.seq (E2.vis.seq g1),hm.2,hq _ H2 Hs2 (E1.trans E2) (by simp[Rep])⟩
   ·cases h2
 ·rename_i xs i
  obtain⟨ns,hb,h2⟩:=aP h
  clear h
  intro σ H Hs Q hs hst hq
  split at h2
  ·rename_i hm
   have em:m="count":=by simpa using hm
   subst em
   cases h2
   refine(pB PySem.F.plainAttrs_list PySem.F.slot_list_count PySem.F.type_list_count u5 aq (bf aq cL (ao hp)) rfl (by rw[ao hp];rfl) hline (ao hp) rfl).sem ?_
   refine ha σ H Hs _ hs hst fun v H1 Hs1 E1 r1=>?_
   obtain⟨l,vs,rfl,g1,g2⟩:=bH r1
   have ev:=je hb g2
   subst ev
   refine⟨.inl ⟨rfl,_,E1.sub.seq g1⟩,?_⟩
   refine he σ H1 Hs1 _ E1.sub (hst.same E1.vis) fun v2 H2 Hs2 E2 r2=>?_
   rw[aG r2]
   exact⟨l,ns,i,rfl,rfl,E2.sub.seq (E2.vis.seq g1),hq _ H2 Hs2 (E1.trans E2) (by simp[Rep])⟩
  ·cases h2
 ·cases h
end
end L2
namespace L2
open PySem PySem.Spec PyProof.Rows DE PySem.SeqAt
theorem Ext.shown{Hs H Hs' H':Hp}{acc:Addr}{o:HO}(E:Ext Hs H Hs' H')(h:H acc=none)(h1:Hs' acc=none)(h2:H' acc=some o):Ext Hs H (upd Hs' acc o) H' where
 vis:=fun b u e=>by rw[aO (aF (E.vis b u e) h1)];exact E.vis b u e
 all:=E.all
 sub:=fun b u e=>by
  by_cases hb:b=acc
  ·subst hb;rw[aW] at e;rw[h2];exact e
  ·rw[aO hb] at e;exact E.sub b u e
 hid:=fun b u e n=>by rw[aO (aF e h)];exact E.hid b u e n
section
variable {X:Cx} {ρ:Rho} {cx:Cxt} {k:Nat} {sc scope:Scope}
theorem Ft{tg iter elt:Expr}{ifs:List Expr}{l out:List D}{n:Nat}{pos:Pos}(G:Good cx k X sc)(hN:X.N=ρ.map (·.1))(hok:fY sc scope=true)(hI:EvI X ρ tg iter l)(hp:aB iter=true)(hz:szl l.length=true)(hgo:bK (n6 cx n sc scope ρ tg elt ifs) l=some out)
  (hE:∀ Xc,CompOf X scope Xc->∀ ρ1:Rho,Xc.N=ρ1.map (·.1)->∀ e d,ev cx n (jU scope sc) ρ1 e=some d->Ev Xc ρ1 e d/\∀ b,d=.bl b->EvT Xc ρ1 e b) :
  Ev X ρ (.ListComp elt [⟨tg,iter,ifs,0⟩] scope pos) (.lst out):=by
 obtain⟨ok1,ok2,ok3⟩:=cP G hok
 intro σ H Hs Q hs hst hq
 refine PE.sem (jr G.calm ok1 ok2 ok3 iG (fun Xc C=>⟨fW,eH,aq⟩) (cX hp)) (jK G hN hok hI hz hgo hE hs hst fun acc vs Hs' H' E1 h1 h2 h3 r=>?_)
 have E2:=E1.shown h1 h2 h3
 refine hq _ H' _ E2 ?_
 simp only[Rep]
 refine⟨acc,vs,rfl,.of aW,aM.same (fun b u e=>?_) out vs r⟩
 rw[aO (aF e h2)];exact e
def WkP (cx : Cxt) (sc : Scope) (e : Expr) : Wk -> Prop
    | .r1 a=>∃ x p pos,e=.Call (.Name x p) [a] [] pos/\bx cx sc x=some "range"
    | .r2 a b=>∃ x p pos,e=.Call (.Name x p) [a,b] [] pos/\bx cx sc x=some "range"
    | .zp a b=>∃ x p pos,e=.Call (.Name x p) [a,b] [] pos/\bx cx sc x=some "zip"
    | .rv a=>∃ x p pos,e=.Call (.Name x p) [a] [] pos/\bx cx sc x=some "reversed"
    | .en a=>∃ x p pos,e=.Call (.Name x p) [a] [] pos/\bx cx sc x=some "enumerate"
    | .sq=>True
theorem GD{e:Expr}:WkP cx sc e (ud cx sc e):=by
 unfold ud
 split
 ·rename_i x p args pos
  split
  ·rename_i h
   split
   ·exact⟨x,p,pos,rfl,h⟩
   ·exact⟨x,p,pos,rfl,h⟩
   ·trivial
  ·rename_i h
   split
   ·exact⟨x,p,pos,rfl,h⟩
   ·trivial
  ·rename_i h
   split
   ·exact⟨x,p,pos,rfl,h⟩
   ·trivial
  ·rename_i h
   split
   ·exact⟨x,p,pos,rfl,h⟩
   ·trivial
  ·trivial
 ·trivial
theorem bR{x:Option D}{i:Int}(h:x.bind asI=some i):x=some (.int i):=by
 obtain⟨d,h1,h2⟩:=aP (show(x >>=asI)=some i from h)
 cases d<;>simp[asI] at h2
 subst h2;exact h1
theorem eU{x:Option D}{i:Bool}(h:x.bind asB=some i):x=some (.bl i):=by
 obtain⟨d,h1,h2⟩:=aP (show(x >>=asB)=some i from h)
 cases d<;>simp[asB] at h2
 subst h2;exact h1
theorem vd{x:Option D}{i:List D}(h:x.bind DY=some i):x=some (.lst i):=by
 obtain⟨d,h1,h2⟩:=aP (show(x >>=DY)=some i from h)
 cases d<;>simp[DY] at h2
 subst h2;exact h1
theorem vZ{f:Expr->Option D}{tg e:Expr}{l:List D}(G:Good cx k X sc)(hf:∀ e d,f e=some d->Ev X ρ e d/\aB e=true)(h:evI cx (fX tg) f sc e=some l):EvI X ρ tg e l/\aB e=true:=by
 unfold evI at h
 have w:=GD (cx:=cx) (sc:=sc) (e:=e)
 split at h
 ·rename_i a hw
  rw[hw] at w
  obtain⟨x,p,pos,rfl,hx⟩:=w
  obtain⟨j,h1,h⟩:=aP h
  split at h
  ·rename_i hj
   cases h
   obtain⟨ha,hp⟩:=hf _ _ (bR h1)
   exact⟨sZ G hx ha hp hj,rfl⟩
  ·cases h
 ·rename_i a b hw
  rw[hw] at w
  obtain⟨x,p,pos,rfl,hx⟩:=w
  obtain⟨i,h1,h⟩:=aP h
  obtain⟨j,h2,h⟩:=aP h
  split at h
  ·rename_i hj
   cases h
   rw[Bool.and_eq_true] at hj
   obtain⟨ha,hp⟩:=hf _ _ (bR h1)
   obtain⟨hb,hpb⟩:=hf _ _ (bR h2)
   exact⟨sY G hx ha hp hb hpb hj.1 hj.2,rfl⟩
  ·cases h
 ·rename_i a b hw
  rw[hw] at w
  obtain⟨x,p,pos,rfl,hx⟩:=w
  obtain⟨d1,h1,h⟩:=aP h
  obtain⟨d2,h2,h⟩:=aP (show(f b >>=fun y=>if fX tg=true then J2 d1 y else none)=some l from h)
  have h':(if fX tg=true then J2 d1 d2 else none)=some l:=h
  clear h
  split at h'
  ·rename_i ht
   obtain⟨ha,hp⟩:=hf _ _ h1
   obtain⟨hb,hpb⟩:=hf _ _ h2
   cases tg<;>simp[fX] at ht
   unfold J2 at h'
   split at h'
   ·cases h';exact⟨Fz G hx ha hp hb hpb,rfl⟩
   ·simp at h'
   ·simp at h'
   ·simp at h'
   ·cases h'
  ·cases h'
 ·rename_i a hw
  rw[hw] at w
  obtain⟨x,p,pos,rfl,hx⟩:=w
  obtain⟨xs,h1,h⟩:=aP h
  cases h
  obtain⟨ha,hp⟩:=hf _ _ (vd h1)
  exact⟨vY G hx ha hp,rfl⟩
 ·rename_i a hw
  rw[hw] at w
  obtain⟨x,p,pos,rfl,hx⟩:=w
  obtain⟨d1,h1,h⟩:=aP h
  split at h
  ·cases h
  ·cases h
 ·obtain⟨d,h1,h2⟩:=aP (show(f e >>=items)=some l from h)
  obtain⟨ha,hp⟩:=hf _ _ h1
  exact⟨FJ ha h2,hp⟩
theorem BK{t:Expr}{T:String}(h:tyOf cx sc t=some T):∃ x p,t=.Name x p/\bx cx sc x=some T:=by
 unfold tyOf at h
 split at h
 ·exact⟨_,_,rfl,h⟩
 ·cases h
def WcP (cx : Cxt) (sc : Scope) (b : String) (args : List Expr) : Wc -> Prop
    | .lr1 a=>∃ x p pos,args=[.Call (.Name x p) [a] [] pos]/\bx cx sc x=some "range"/\b="list"
    | .lr2 a a'=>∃ x p pos,args=[.Call (.Name x p) [a,a'] [] pos]/\bx cx sc x=some "range"/\b="list"
    | .tv a=>∃ x p pos,args=[.Call (.Name x p) [a] [] pos]/\bx cx sc x=some "reversed"/\b="tuple"
    | .tr1 a=>∃ x p pos,args=[.Call (.Name x p) [a] [] pos]/\bx cx sc x=some "range"/\b="tuple"
    | .ls a=>∃ x p pos,args=[.Call (.Name x p) [a] [] pos]/\bx cx sc x=some "set"/\b="len"
    | .al=>True
theorem Ky{b:String}{args:List Expr}:WcP cx sc b args (GF cx sc b args):=by
 unfold GF
 split
 ·rename_i e
  have w:=GD (cx:=cx) (sc:=sc) (e:=e)
  split
  ·rename_i hw
   rw[hw] at w
   obtain⟨x,p,pos,rfl,hx⟩:=w
   exact⟨x,p,pos,rfl,hx,rfl⟩
  ·rename_i hw
   rw[hw] at w
   obtain⟨x,p,pos,rfl,hx⟩:=w
   exact⟨x,p,pos,rfl,hx,rfl⟩
  ·rename_i hw
   rw[hw] at w
   obtain⟨x,p,pos,rfl,hx⟩:=w
   exact⟨x,p,pos,rfl,hx,rfl⟩
  ·rename_i hw
   rw[hw] at w
   obtain⟨x,p,pos,rfl,hx⟩:=w
   exact⟨x,p,pos,rfl,hx,rfl⟩
  ·split
   ·rename_i a ha
    unfold Sd at ha
    split at ha
    ·rename_i y q a' q' _
     split at ha
     ·rename_i hb
      cases ha
      exact⟨y,q,q',rfl,by simpa using hb,rfl⟩
     ·cases ha
    ·cases ha
   ·trivial
  ·trivial
 ·trivial
end
theorem cU(cx:Cxt):∀ (n:Nat) {k:Nat} {X:Cx} {sc:Scope} {ρ:Rho} {e:Expr} {d:D},Good cx k X sc->X.N=ρ.map (·.1)->ev cx n sc ρ e=some d->Ev X ρ e d/\∀ b,d=.bl b->EvT X ρ e b
  | 0,k,X,sc,ρ,e,d,_,_,h=>by exact nomatch (show(Option.none:Option D)=some d from h)
  | n + 1, k, X, sc, ρ, e, d, G, hN, h => by
    have ih:∀ e d,ev cx n sc ρ e=some d->Ev X ρ e d/\∀ b,d=.bl b->EvT X ρ e b:=fun e d h=>cU cx n G hN h
    have ihp:∀ e d,ev cx n sc ρ e=some d->Ev X ρ e d/\aB e=true:=fun e d h=>⟨(ih e d h).1,aX h⟩
    have val:∀ {e d},(∀ whole,isTrue e X.env whole=(do let v <- whole;standAt e.pos;holding [v] (truthy v)))->Ev X ρ e d->Ev X ρ e d/\∀ b,d=.bl b->EvT X ρ e b:=fun he h1=>⟨h1,fun b hb=>by subst hb;exact Fx h1 he⟩
    cases e with
    | Name x pos =>
      simp only[ev] at h
      split at h
      · rename_i hp
        refine val (fun _=>rfl) ?_
        have fin:∀ kd,sc.names.lookup x=some kd->(kd=.local\/kd=.cell\/kd=.free)->(match ρ.lookup x with | some (.sh d)=>some d | _=>none)=some d->Ev X ρ (.Name x pos) d:=by
          intro kd hk hkd hm
          split at hm
          · rename_i d' hl
            cases hm
            refine EY hN ?_ hp hl
            unfold Vis
            rw[G.sce,hk]
            rcases hkd with rfl | rfl | rfl
            · exact .inl rfl
            · exact .inr (.inl rfl)
            · exact .inr (.inr rfl)
          · cases hm
        split at h
        · rename_i hk;exact fin _ hk (.inl rfl) h
        · rename_i hk;exact fin _ hk (.inr (.inl rfl)) h
        · rename_i hk;exact fin _ hk (.inr (.inr rfl)) h
        · rename_i hk
          obtain⟨v,u,h0,h1,h2⟩:=G.cst x d h
          exact JL (show X.env.scope.names.lookup x=_ by rw[G.sce];exact hk) h0 h1 h2 hp
        · cases h
      · cases h
    | Constant c j pos =>
      simp only[ev] at h
      exact val (fun _=>rfl) (zc h)
    | BinOp a op b pos =>
      simp only[ev] at h
      obtain⟨x,h1,h⟩:=aP h
      obtain⟨y,h2,h⟩:=aP h
      exact val (fun _=>rfl) (zq (ih _ _ h1).1 (ih _ _ h2).1 h)
    | UnaryOp op a pos =>
      simp only[ev] at h
      obtain⟨x,h1,h⟩:=aP h
      cases op<;>simp only[Option.map_eq_some_iff] at h<;>try (cases h;done)
      · obtain⟨b,h2,rfl⟩:=h
        cases x<;>simp[asB] at h2
        subst h2
        refine⟨JF (ih _ _ h1).1,fun c hc=>?_⟩
        cases hc
        exact Fy ((ih _ _ h1).2 _ rfl)
      · obtain⟨i,h2,rfl⟩:=h
        cases x<;>simp[asI] at h2
        subst h2
        exact val (fun _=>rfl) (JG (ih _ _ h1).1)
    | BoolOp op es pos =>
      simp only[ev] at h
      obtain⟨h1,h2⟩:=nW (pos:=pos) (fun e _ d hd=>ih e d hd) h
      exact⟨h1,fun b hb=>(h2 b hb).t⟩
    | Compare a ops bs pos =>
      simp only[ev] at h
      split at h
      · obtain⟨x,h1,h⟩:=aP h
        obtain⟨y,h2,h⟩:=aP h
        exact Fv G.room (ih _ _ h1).1 (ih _ _ h2).1 (aX h2) h
      · split at h
        · cases h
        rename_i e3 hpl
        have hpl':aB e3=true:=by simpa using hpl
        obtain⟨x,h1,h⟩:=aP h
        obtain⟨y,h2,h⟩:=aP h
        obtain⟨c,h3,h⟩:=aP h
        have h3':=eU h3
        cases c with
        | false =>
          simp only[Bool.false_eq_true,if_false,Option.some.injEq] at h
          subst h
          exact vX G.room (ih _ _ h1).1 (ih _ _ h2).1 hpl' h3' ⟨fun q=>(nomatch q),fun _=>rfl⟩
        | true =>
          simp only[if_true] at h
          obtain⟨z,h4,h⟩:=aP h
          exact vX G.room (ih _ _ h1).1 (ih _ _ h2).1 (aX h4) h3' ⟨fun _=>⟨z,(ih _ _ h4).1,h⟩,fun q=>nomatch q⟩
      · cases h
    | IfExp c a b pos =>
      simp only[ev] at h
      obtain⟨t,h1,h⟩:=aP h
      have h1':=(ih _ _ (eU h1)).2 _ rfl
      cases t with
      | true =>
        simp only[if_true] at h
        refine⟨JK h1' (fun _=>(ih _ _ h).1) (fun q=>nomatch q),fun r hr=>Bh h1' (fun _=>(ih _ _ h).2 r hr) (fun q=>nomatch q)⟩
      | false =>
        simp only[Bool.false_eq_true,if_false] at h
        refine⟨JK h1' (fun q=>nomatch q) (fun _=>(ih _ _ h).1),fun r hr=>Bh h1' (fun q=>nomatch q) (fun _=>(ih _ _ h).2 r hr)⟩
    | Tuple es j pos =>
      simp only[ev] at h
      obtain⟨ds,h1,h⟩:=aP h
      split at h
      · rename_i hz
        cases h
        exact val (fun _=>rfl) (yV (eO (fun e _ d hd=>ihp e d hd) h1).1 hz)
      · cases h
    | List es pos =>
      simp only[ev] at h
      obtain⟨ds,h1,h⟩:=aP h
      split at h
      · rename_i hz
        cases h
        exact val (fun _=>rfl) (Fg (eO (fun e _ d hd=>ihp e d hd) h1).1 hz)
      · cases h
    | Subscript a b pos =>
      simp only[ev] at h
      obtain⟨x,h1,h⟩:=aP h
      split at h
      · split at h
        · obtain⟨l,h2,h⟩:=aP h
          obtain⟨u,h3,h⟩:=aP h
          have hl:∀ {o:Option Expr} {l:Option Int},(match o with | none=>some none | some e=>(ev cx n sc ρ e).bind fun d=>(asI d).map some)=some l->EvO X ρ o l:=by
            intro o l h2
            cases o with
            | none=>cases h2;exact zy
            | some e =>
              simp only at h2
              obtain⟨d',g1,g2⟩:=Option.bind_eq_some_iff.mp h2
              obtain⟨i,g3,rfl⟩:=Option.map_eq_some_iff.mp g2
              cases d'<;>simp[asI] at g3
              subst g3
              exact zx (ih _ _ g1).1
          split at h
          · rename_i xs
            split at h
            · rename_i hw
              cases h
              rw[Bool.and_eq_true] at hw
              exact val (fun _=>rfl) (vV (ih _ _ h1).1 (hl h2) (hl h3) ⟨by simpa using hw.1,by simpa using hw.2⟩)
            · rename_i hw
              cases h
              refine val (fun _=>rfl) (yX (ih _ _ h1).1 (hl h2) (hl h3) fun q=>hw ?_)
              rw[q.1,q.2]
              simp
          · cases h
            exact val (fun _=>rfl) (vW (ih _ _ h1).1 (hl h2) (hl h3))
          · cases h
        · obtain⟨rfl,rfl,hc,us,⟨rfl,rfl⟩ | ⟨rfl,rfl⟩⟩:=Cv h
          · exact val (fun _=>rfl) (Ez (ih _ _ h1).1 (ih _ _ (bR hc)).1)
          · exact val (fun _=>rfl) (Ey (ih _ _ h1).1 (ih _ _ (bR hc)).1)
      · obtain⟨y,h2,h⟩:=aP h
        have hp2:=aX h2
        have hr:=G.room
        unfold Gg at h
        split at h
        · exact val (fun _=>rfl) (rA (ih _ _ h1).1 (ih _ _ h2).1 hp2 rfl h)
        · exact val (fun _=>rfl) (rA (ih _ _ h1).1 (ih _ _ h2).1 hp2 rfl h)
        · obtain⟨k',h3,h4⟩:=Option.bind_eq_some_iff.mp h
          exact val (fun _=>rfl) (Fp G.kw (ih _ _ h1).1 (ih _ _ h2).1 hp2 h3 h4)
        · cases h
    | Dict ks vs pos =>
      simp only[ev] at h
      split at h
      · cases h
      · rename_i hz
        obtain⟨l,h1,rfl⟩:=Option.map_eq_some_iff.mp h
        simp only[Bool.or_eq_true,decide_eq_true_eq,not_or,Bool.not_eq_true] at hz
        exact val (fun _=>rfl) (Fq (fun e d hd=>(ih e d hd).1) hz.1 (by omega) h1)
    | Call f args kws pos =>
      refine val (fun _=>rfl) ?_
      simp only[ev] at h
      split at h
      · rename_i x p
        split at h
        · rename_i hg
          have hb:∀ {b},cx.blt.lookup x=some b->bx cx sc x=some b:=fun q=>by unfold bx;rw[if_pos hg];exact q
          split at h
          · rename_i hx
            split at h
            · obtain⟨d',h1,h⟩:=aP h
              split at h
              · rename_i c' hxo
                split at h
                · rename_i c
                  split at h
                  · rename_i hin
                    cases h
                    exact Fi G (hb hx) hxo hin (ih _ _ h1).1 (aX h1)
                  · cases h
                · cases h
              · obtain⟨T,h2,h5⟩:=aP h
                clear h
                obtain⟨t,pt,rfl,ht⟩:=BK h2
                split at h5
                · rename_i c
                  split at h5
                  · rename_i hc
                    rw[Bool.and_eq_true] at hc
                    have eT:T="ValueError":=by simpa using hc.2
                    subst eT
                    cases h5
                    exact Fj G (hb hx) ht hc.1 (ih _ _ h1).1 (aX h1)
                  · cases h5
                · cases h5
                · rename_i hne hne2
                  split at h5
                  · rename_i hk
                    cases h5
                    refine JH G (hb hx) ht hk (ih _ _ h1).1 (aX h1) ?_
                    cases d'<;>first | rfl | exact absurd rfl (hne _) | exact absurd rfl (hne2 _ _)
                  · cases h5
            · cases h
          · rename_i b _ hx
            have wc:=Ky (cx:=cx) (sc:=sc) (b:=b) (args:=args)
            split at h
            · rename_i a hw
              rw[hw] at wc
              obtain⟨y,q,q',rfl,hy,rfl⟩:=wc
              obtain⟨j,h1,h⟩:=aP h
              split at h
              · rename_i hz
                rw[Bool.and_eq_true] at hz
                cases h
                have h1':=bR h1
                exact sX G (hb hx) hy (ih _ _ h1').1 (aX h1') hz.1 hz.2
              · cases h
            · rename_i a a' hw
              rw[hw] at wc
              obtain⟨y,q,q',rfl,hy,rfl⟩:=wc
              obtain⟨i,h1,h⟩:=aP h
              obtain⟨j,h2,h⟩:=aP h
              split at h
              · rename_i hz
                rw[Bool.and_eq_true,Bool.and_eq_true] at hz
                cases h
                have h1':=bR h1
                have h2':=bR h2
                exact sW G (hb hx) hy (ih _ _ h1').1 (aX h1') (ih _ _ h2').1 (aX h2') hz.1.1 hz.1.2 hz.2
              · cases h
            · rename_i a hw
              rw[hw] at wc
              obtain⟨y,q,q',rfl,hy,rfl⟩:=wc
              simp at h
            · rename_i a hw
              rw[hw] at wc
              obtain⟨y,q,q',rfl,hy,rfl⟩:=wc
              simp at h
            · rename_i a hw
              rw[hw] at wc
              obtain⟨y,q,q',rfl,hy,rfl⟩:=wc
              simp at h
            · split at h
              · cases h
              · rename_i hne
                obtain⟨ds,h1,h2⟩:=aP h
                obtain⟨ha,hp⟩:=eO (fun e _ d hd=>ihp e d hd) h1
                cases args with
                | nil=>exact absurd rfl hne
                | cons e es=>exact zu G (hb hx) ha hp h2
          · split at h
            · rename_i hf
              rw[Bool.and_eq_true] at hf
              obtain⟨ds,h1,h⟩:=aP h
              obtain⟨ha,hp⟩:=eO (fun e _ d hd=>ihp e d hd) h1
              have hgl:Gl X x:=by
                have e:sc.names.lookup x=some .globalImplicit:=by unfold mJ at hg;simpa using hg
                show X.env.scope.names.lookup x=_
                rw[G.sce,e]
              refine Fw G hgl hf.1 (fun q=>?_) ha hp h
              rw[q] at hf
              exact absurd hf.2 (by decide)
            · cases h
        · cases h
      · split at h
        · split at h
          · cases h
          · cases h
        · cases h
      · split at h
        · split at h
          · rename_i hl
            obtain⟨x,h1,h⟩:=aP h
            obtain⟨z,h2,h⟩:=aP h
            exact yZ (ih _ _ h1).1 (ih _ _ h2).1 (aX h2) hl h
          · cases h
        · cases h
      · simp at h
      · simp at h
      · cases h
    | ListComp elt gens scope pos =>
      refine val (fun _=>rfl) ?_
      simp only[ev] at h
      split at h
      · rename_i tg iter ifs a
        split at h
        · rename_i hok
          rw[Bool.and_eq_true] at hok
          have ea:a=0:=by simpa using hok.1
          subst ea
          obtain⟨l,h1,h⟩:=aP h
          split at h
          · rename_i hz
            obtain⟨out,h2,h⟩:=aP h
            cases h
            obtain⟨hI,hp⟩:=vZ (tg:=tg) G ihp h1
            exact Ft G hN hok.2 hI hp hz h2 fun Xc C ρ1 hN1 e d he=>cU cx n (G.comp C hok.2) hN1 he
          · cases h
        · cases h
      · cases h
    | _=>exact nomatch (show(Option.none:Option D)=some d from h)
end L2
namespace L2
open PySem PySem.Spec PyProof.Rows DE PySem.SeqAt
section
variable {prog:Program} {w:World} {A:Around} {E:Value->Shared->Prop}
theorem kY{it t:Addr}{xs:List Value}(apart:t≠it):∀ (more i:Nat) (s:Shared) (Q:List Value->Shared->Prop),s.heap.IsListIter it t i->s.heap.IsList t xs.toArray->i+more<=xs.length ->
    (∀ h',h'.IsListIter it t (i+more)->Heap.SameBut it s.heap h'->Q ((xs.drop i).take more) { s with heap:=h' })->wpAny (model prog w) A (draw (.ref it) more) Q E s
  | 0, i, s, Q, it0, _, _, q => by
    show wpAny _ _ (pure []) _ _ _
    exact wpAny_pure (by simpa using q s.heap it0 (Heap.SameBut.refl ..))
  | more + 1, i, s, Q, it0, hl, hle, q => by
    have lt:i<xs.length:=by omega
    show wpAny _ _ (pyNext (.ref it) >>=_) _ _ _
    refine wpAny_bind (wpAny_pyNext_list_item it0 hl (x:=xs[i]) (by simp[lt]) fun h1 st1 sb1=>?_)
    have hl1:h1.IsList t xs.toArray:=by
      obtain⟨o,e,r⟩:=hl
      exact⟨o,(sb1.2 t apart).trans e,r⟩
    refine wpAny_bind (wpAny_holding (kY apart more (i+1) _ _ st1 hl1 (by omega) fun h2 st2 sb2=>wpAny_pure ?_))
    have z:=q h2 (by rw[show i+(more+1)=i+1+more by omega];exact st2) (sb1.trans sb2)
    rw[List.drop_eq_getElem_cons lt,List.take_succ_cons] at z
    exact z
theorem lD{s:Shared}{t:Addr}{xs:List Value}{Q:List Value->Shared->Prop}(hh:A.handled=none)(hl:s.heap.IsList t xs.toArray)(q:∀ h',(∀ b o,s.heap.get? b=some o->h'.get? b=some o)->Q xs { s with heap:=h' }) :
  wpAny (model prog w) A (unpackItems (.ref t) xs.length none) Q E s:=by
 have apart:t≠s.heap.objs.size:=by obtain⟨o,e,_⟩:=hl;exact Nat.ne_of_lt (Heap.lt_size e)
 have keep:∀ {h':Heap},(∀ b o,b≠s.heap.objs.size->s.heap.get? b=some o->h'.get? b=some o)->∀ b o,s.heap.get? b=some o->h'.get? b=some o:=fun k b o e=>k b o (Nat.ne_of_lt (Heap.lt_size e)) e
 have pushed:∀ (n:Obj),(s.heap.push n).IsList t xs.toArray:=fun n=>by
  obtain⟨o,e,r⟩:=hl
  exact⟨o,Heap.get?_push_of_some _ e,r⟩
 simp only[unpackItems,notIterableAtAll]
 refine wpAny_bind (wpAny_bind (wpAny_specialOf hl.typeIs PySem.slot_list_iter.lookup (wpAny_pure ?_)))
 simp only[Bool.false_eq_true,if_false,Option.isNone_some,Bool.not_true,Bool.false_and]
 refine wpAny_bind (wpAny_holding (wpAny_pyIter_list hl ?_))
 refine wpAny_bind (wpAny_holding (kY apart xs.length 0 _ _ ⟨_,Heap.get?_push_size _ rfl,rfl,rfl⟩ (pushed _) (by omega) fun h1 st1 sb1=>?_))
 have all:List.take xs.length (List.drop 0 xs)=xs:=by simp
 rw[all,if_neg (by simp)]
 have hl1:h1.IsList t xs.toArray:=by
  obtain⟨o,e,r⟩:=pushed { cls:=.type "list_iterator",data:=.fields #[.ref t,.int 0 0] }
  exact⟨o,(sb1.2 t apart).trans e,r⟩
 refine wpAny_bind (wpAny_holding (wpAny_pyNext_list_end hh st1 hl1 (by simp) fun h2 eb=>?_))
 simp only[Option.isSome_none,Bool.false_eq_true,if_false]
 exact wpAny_pure (q h2 (keep fun b o hb e=>eb b o hb ((sb1.2 b hb).trans (Heap.get?_push_of_some _ e))))
end
section
variable {X:Cx} {es:List Expr} {k:Nat} {t:TGs} {n:Nat} {pos:Pos}
def WQ(K:PySem.W.Frag)(n:Nat)(t:TGs):TG:=fun v σ H Q=>∃ a xs,v=.ref a/\SqL K H a xs/\xs.length=n/\t xs σ H Q
theorem HY(hc:X.calm=true)(h:PGs X es t)(hn:(assignEach es X.env).length=n)(hst:(assignEach es X.env).findIdx? (·.1)=none):PG X (.Tuple es k pos) (WQ X.K n t):=by
 intro pins s σ H v u Q I r hw
 obtain⟨a,xs,rfl,hq,hl,hw⟩:=hw
 cases (show u=Value.ref a from r)
 obtain⟨its,rv,pl,hz⟩:=I.list hq
 have e:(assignEach es X.env).length=its.length:=by rw[hn,<- hl,rv.length]
 rw[assign_Tuple]
 refine wpAny_bind (wpAny_standAt ?_)
 unfold unpack
 rw[hst,e]
 refine wpAny_bind (wpAny_holding (lD (I.ok.hd hc) pl.isList fun h' kp=>?_))
 exact h pins _ σ H xs _ Q (I.kept (t':=s.toks) kp) rv hw
end
def OO(K:PySem.W.Frag)(H0 Hs H:Hp)(a:Addr)(bs:List Addr)(dss:List (List D)):Prop :=
  H a = some (.lst (bs.map V.ref)) /\ Hs a = none /\ H0 a = none /\ bs.Nodup /\ a ∉ bs /\ bs.length = dss.length /\
    ∀ (j:Nat) b,bs[j]?=some b->Hs b=none/\H0 b=none/\∃ ds us,dss[j]?=some ds/\H b=some (.lst us)/\aM K Hs ds us
structure Hd (K:PySem.W.Frag) (Hs0 H0 Hs H:Hp) (ρ:Rho) (σ:St):Prop where
 ext:Ext Hs0 H0 Hs H
 len:σ.length=ρ.length
 sh:cH K Hs ρ σ
 ow:∀ (i:Nat) (x:Str) (ds:List D),ρ[i]?=some (x,.ow ds)->∃ a vs,σ[i]?=some (some (.ref a))/\H a=some (.lst vs)/\aM K Hs ds vs/\Hs a=none/\H0 a=none
 dis:∀ (i j:Nat) (x y:Str) (ds es:List D) (a:Addr),i≠j->ρ[i]?=some (x,.ow ds)->ρ[j]?=some (y,.ow es)->σ[i]?=some (some (.ref a))->σ[j]?=some (some (.ref a))->False
 oo:∀ (i:Nat) (x:Str) (dss:List (List D)),ρ[i]?=some (x,.oo dss)->(∃ a bs,σ[i]?=some (some (.ref a))/\OO K H0 Hs H a bs dss)/\∀ (j:Nat) y s,j≠i->ρ[j]?=some (y,s)->wC s=true
section
variable {K:PySem.W.Frag} {Hs0 H0 Hs H Hs' H':Hp} {ρ:Rho} {σ:St}
theorem OO.step{a:Addr}{bs:List Addr}{dss:List (List D)}(h:OO K H0 Hs H a bs dss)(E:Ext Hs H Hs' H'):OO K H0 Hs' H' a bs dss:=by
 obtain⟨h1,h2,h3,h4,h5,h6,h7⟩:=h
 refine⟨E.all _ _ h1,E.hid a _ h1 h2,h3,h4,h5,h6,fun j b e=>?_⟩
 obtain⟨k1,k2,ds,us,k3,k4,k5⟩:=h7 j b e
 exact⟨E.hid b _ k4 k1,k2,ds,us,k3,E.all _ _ k4,aM.same E.vis ds us k5⟩
theorem Hd.step(h:Hd K Hs0 H0 Hs H ρ σ)(E:Ext Hs H Hs' H'):Hd K Hs0 H0 Hs' H' ρ σ where
 ext:=h.ext.trans E
 len:=h.len
 sh:=h.sh.same E.vis
 ow:=fun i x ds e=>by
  obtain⟨a,vs,h1,h2,h3,h4,h5⟩:=h.ow i x ds e
  exact⟨a,vs,h1,E.all _ _ h2,aM.same E.vis ds vs h3,E.hid a _ h2 h4,h5⟩
 dis:=h.dis
 oo:=fun i x dss e=>by
  obtain⟨⟨a,bs,h1,h2⟩,h3⟩:=h.oo i x dss e
  exact⟨⟨a,bs,h1,h2.step E⟩,h3⟩
theorem iB{n:Nat}{e:Expr}{i:Nat}{x:Str}{s:Sl}(h:(frz n e ρ)[i]?=some (x,s)):(ρ[i]?=some (x,s)/\(wC s=false->eF n x e=false))\/(∃ ds,s=.sh (.lst ds)/\ρ[i]?=some (x,.ow ds)/\eF n x e=true)\/∃ dss,s=.sh (.lst (dss.map .lst))/\ρ[i]?=some (x,.oo dss)/\eF n x e=true:=by
  unfold frz at h
  rw[List.getElem?_map] at h
  obtain⟨⟨y,t⟩,h1,h2⟩:=Option.map_eq_some_iff.mp h
  cases t with
  | no=>simp at h2;obtain⟨rfl,rfl⟩:=h2;exact .inl ⟨h1,fun z=>nomatch z⟩
  | sh d=>simp at h2;obtain⟨rfl,rfl⟩:=h2;exact .inl ⟨h1,fun z=>nomatch z⟩
  | ow ds =>
    simp only at h2
    cases hm:eF n y e with
    | true =>
      rw[hm,if_pos rfl] at h2
      cases h2
      exact .inr (.inl ⟨ds,rfl,h1,hm⟩)
    | false =>
      rw[hm] at h2
      simp at h2
      obtain⟨rfl,rfl⟩:=h2
      exact .inl ⟨h1,fun _=>hm⟩
  | oo dss =>
    simp only at h2
    cases hm:eF n y e with
    | true =>
      rw[hm,if_pos rfl] at h2
      cases h2
      exact .inr (.inr ⟨dss,rfl,h1,hm⟩)
    | false =>
      rw[hm] at h2
      simp at h2
      obtain⟨rfl,rfl⟩:=h2
      exact .inl ⟨h1,fun _=>hm⟩
theorem aH(n:Nat)(e:Expr):(frz n e ρ).map (·.1)=ρ.map (·.1):=by
 unfold frz
 rw[List.map_map]
 apply List.map_congr_left
 intro p _
 obtain⟨x,s⟩:=p
 cases s<;>simp<;>(split<;>rfl)
theorem aM.get_of{K:PySem.W.Frag}{H:Hp}:∀ {ds:List D} {vs:List V},ds.length=vs.length->(∀ (j:Nat) d v,ds[j]?=some d->vs[j]?=some v->Rep K H d v)->aM K H ds vs
 | [],[],_,_=>.nil
 | [],_::_,h,_=>by simp at h
 | _::_,[],h,_=>by simp at h
 | d::ds,v::vs,h,q=>.cons (q 0 d v rfl rfl) (aM.get_of (by simpa using h) fun j d' v' e1 e2=>q (j+1) d' v' (by simpa using e1) (by simpa using e2))
theorem OO.mem{a b:Addr}{bs:List Addr}{dss:List (List D)}(h:OO K H0 Hs H a bs dss)(hb:b∈bs):Hs b=none/\H0 b=none:=by
 obtain⟨j,e⟩:=List.mem_iff_getElem?.mp hb
 obtain⟨k1,k2,_⟩:=h.2.2.2.2.2.2 j b e
 exact⟨k1,k2⟩
open Classical in
theorem Hd.frozen2(n:Nat)(e:Expr)(h:Hd K Hs0 H0 Hs H ρ σ):∃ Hs1,Same Hs Hs1/\(∀ b o,Hs1 b=some o->Hs b=some o\/∃ vs,o=.lst vs)/\Hd K Hs0 H0 Hs1 H (frz n e ρ) σ:=by
 let Fo:Addr->Prop:=fun b=>∃ (i:Nat) (x:Str) (ds:List D),ρ[i]?=some (x,Sl.ow ds)/\eF n x e=true/\σ[i]?=some (some (V.ref b))
 let Fb:Addr->Prop:=fun b=>∃ (i:Nat) (x:Str) (dss:List (List D)) (a:Addr) (bs:List Addr),ρ[i]?=some (x,Sl.oo dss)/\eF n x e=true/\σ[i]?=some (some (V.ref a))/\OO K H0 Hs H a bs dss/\(b=a\/b∈bs)
 let Hs1:Hp:=fun b=>if Fo b\/Fb b then H b else Hs b
 have vis:Same Hs Hs1:=fun b o q=>by
  show(if Fo b\/Fb b then H b else Hs b)=some o
  split
  ·exact h.ext.sub b o q
  ·exact q
 have sub:Same Hs1 H:=fun b o q=>by
  have q':(if Fo b\/Fb b then H b else Hs b)=some o:=q
  split at q'
  ·exact q'
  ·exact h.ext.sub b o q'
 have fz0:∀ b,Fo b\/Fb b->H0 b=none/\Hs b=none:=fun b hb=>by
  rcases hb with⟨i,x,ds,g1,_,g3⟩ | ⟨i,x,dss,a,bs,g1,_,g3,g4,g5⟩
  ·obtain⟨a,vs,k1,k2,k3,k4,k5⟩:=h.ow i x ds g1
   rw[k1] at g3
   cases g3
   exact⟨k5,k4⟩
  ·rcases g5 with rfl | g5
   ·exact⟨g4.2.2.1,g4.2.1⟩
   ·exact⟨(g4.mem g5).2,(g4.mem g5).1⟩
 have shp:∀ b o,Hs1 b=some o->Hs b=some o\/∃ vs,o=.lst vs:=fun b o q=>by
  have q':(if Fo b\/Fb b then H b else Hs b)=some o:=q
  split at q'
  ·rename_i f
   rcases f with⟨i,x,ds,g1,_,g3⟩ | ⟨i,x,dss,a,bs,g1,_,g3,g4,g5⟩
   ·obtain⟨a,vs,k1,k2,k3,k4,k5⟩:=h.ow i x ds g1
    rw[k1] at g3
    cases g3
    rw[k2] at q'
    cases q'
    exact .inr ⟨vs,rfl⟩
   ·rcases g5 with rfl | g5
    ·rw[g4.1] at q'
     cases q'
     exact .inr ⟨_,rfl⟩
    ·obtain⟨j,ej⟩:=List.mem_iff_getElem?.mp g5
     obtain⟨_,_,_,us,_,m4,_⟩:=g4.2.2.2.2.2.2 j b ej
     rw[m4] at q'
     cases q'
     exact .inr ⟨us,rfl⟩
  ·exact .inl q'
 refine⟨Hs1,vis,shp,⟨h.ext.vis.trans vis,h.ext.all,sub,fun b o q z=>?_⟩,by rw[h.len];simp[frz],fun i x d q=>?_,fun i x ds q=>?_,fun i j x y ds es a hij q1 q2=>?_,fun i x dss q=>?_⟩
 ·show(if Fo b\/Fb b then H b else Hs b)=none
  rw[if_neg fun f=>by rw[(fz0 b f).1] at q;cases q]
  exact h.ext.hid b o q z
 ·rcases iB q with⟨q,_⟩ | ⟨ds,e1,q2,hm⟩ | ⟨dss,e1,q2,hm⟩
  ·obtain⟨v,k1,k2⟩:=h.sh i x d q
   exact⟨v,k1,Rep.same vis d v k2⟩
  ·cases e1
   obtain⟨a,vs,k1,k2,k3,k4,k5⟩:=h.ow i x ds q2
   refine⟨_,k1,?_⟩
   simp only[Rep]
   refine⟨a,vs,rfl,.of ?_,aM.same vis ds vs k3⟩
   show(if Fo a\/Fb a then H a else Hs a)=_
   rw[if_pos (.inl ⟨i,x,ds,q2,hm,k1⟩)]
   exact k2
  ·cases e1
   obtain⟨⟨a,bs,k1,k2⟩,_⟩:=h.oo i x dss q2
   refine⟨_,k1,?_⟩
   simp only[Rep]
   refine⟨a,bs.map V.ref,rfl,.of ?_,?_⟩
   ·show(if Fo a\/Fb a then H a else Hs a)=_
    rw[if_pos (.inr ⟨i,x,dss,a,bs,q2,hm,k1,k2,.inl rfl⟩)]
    exact k2.1
   ·refine aM.get_of (by rw[List.length_map,List.length_map,k2.2.2.2.2.2.1]) fun j d v g1 g2=>?_
    rw[List.getElem?_map] at g1 g2
    obtain⟨es,g3,rfl⟩:=Option.map_eq_some_iff.mp g1
    obtain⟨b,g4,rfl⟩:=Option.map_eq_some_iff.mp g2
    obtain⟨_,_,ds,us,m3,m4,m5⟩:=k2.2.2.2.2.2.2 j b g4
    rw[g3] at m3
    cases m3
    simp only[Rep]
    refine⟨b,us,rfl,.of ?_,aM.same vis es us m5⟩
    show(if Fo b\/Fb b then H b else Hs b)=_
    rw[if_pos (.inr ⟨i,x,dss,a,bs,q2,hm,k1,k2,.inr (List.mem_of_getElem? g4)⟩)]
    exact m4
 ·rcases iB q with⟨q,hm⟩ | ⟨ds',e1,q,hm⟩ | ⟨ds',e1,q,hm⟩
  ·obtain⟨a,vs,k1,k2,k3,k4,k5⟩:=h.ow i x ds q
   refine⟨a,vs,k1,k2,aM.same vis ds vs k3,?_,k5⟩
   show(if Fo a\/Fb a then H a else Hs a)=none
   rw[if_neg]
   ·exact k4
   ·rintro(⟨j,y,es,g1,g2,g3⟩ | ⟨j,y,dss,_,_,g1,_⟩)
    ·by_cases hij:i=j
     ·subst hij
      rw[q] at g1
      cases g1
      rw[hm rfl] at g2
      cases g2
     ·exact h.dis i j x y ds es a hij q g1 k1 g3
    ·by_cases hij:i=j
     ·subst hij
      rw[q] at g1
      cases g1
     ·exact nomatch (h.oo j y dss g1).2 i x _ hij q
  ·cases e1
  ·cases e1
 ·rcases iB q1 with⟨q1,_⟩ | ⟨ds',e1,_⟩ | ⟨ds',e1,_⟩
  ·rcases iB q2 with⟨q2,_⟩ | ⟨ds',e1,_⟩ | ⟨ds',e1,_⟩
   ·exact h.dis i j x y ds es a hij q1 q2
   ·cases e1
   ·cases e1
  ·cases e1
  ·cases e1
 ·rcases iB q with⟨q,hm⟩ | ⟨ds',e1,_⟩ | ⟨ds',e1,_⟩
  ·obtain⟨⟨a,bs,k1,k2⟩,k3⟩:=h.oo i x dss q
   have nf:∀ b,¬ (Fo b\/Fb b):=by
    rintro b (⟨j,y,es,g1,_⟩ | ⟨j,y,dss',_,_,g1,g2,_⟩)
    ·by_cases hij:j=i
     ·subst hij
      rw[q] at g1
      cases g1
     ·exact nomatch k3 j y _ hij g1
    ·by_cases hij:j=i
     ·subst hij
      rw[q] at g1
      cases g1
      rw[hm rfl] at g2
      cases g2
     ·exact nomatch k3 j y _ hij g1
   have sm:∀ b,Hs1 b=Hs b:=fun b=>by
    show(if Fo b\/Fb b then H b else Hs b)=_
    rw[if_neg (nf b)]
   refine⟨⟨a,bs,k1,k2.1,by rw[sm];exact k2.2.1,k2.2.2.1,k2.2.2.2.1,k2.2.2.2.2.1,k2.2.2.2.2.2.1,fun j b g=>?_⟩,fun j y s hj g=>?_⟩
   ·obtain⟨m1,m2,ds,us,m3,m4,m5⟩:=k2.2.2.2.2.2.2 j b g
    exact⟨by rw[sm];exact m1,m2,ds,us,m3,m4,aM.same vis ds us m5⟩
   ·rcases iB g with⟨g,_⟩ | ⟨_,e1,_⟩ | ⟨_,e1,_⟩
    ·exact k3 j y s hj g
    ·rw[e1];rfl
    ·rw[e1];rfl
  ·cases e1
  ·cases e1
theorem Hd.frozen(n:Nat)(e:Expr)(h:Hd K Hs0 H0 Hs H ρ σ):∃ Hs1,Same Hs Hs1/\Hd K Hs0 H0 Hs1 H (frz n e ρ) σ :=
 let ⟨Hs1,a,_,b⟩:=h.frozen2 n e
 ⟨Hs1,a,b⟩
theorem qJ{H1 H2:Hp}{d:D}{v:V}(h:scD d=true)(r:Rep K H1 d v):Rep K H2 d v:=by
 cases d<;>first | (simpa[Rep] using r) | (simp[scD] at h)
theorem gA{H1 H2:Hp}:∀ {ds:List D} {vs:List V},ds.all scD=true->aM K H1 ds vs->aM K H2 ds vs
  | [],vs,_,r=>by simpa[aM] using r
  | d :: ds, vs, h, r => by
    simp only[List.all_cons,Bool.and_eq_true] at h
    simp only[aM] at r
    obtain⟨w,r',rfl,h1,h2⟩:=r
    exact .cons (qJ h.1 h1) (gA h.2 h2)
theorem nU{Hs1 Hs' H':Hp}{d:D}{v:V}(hs:Same Hs H)(vis:Same Hs Hs1)(shp:∀ b o,Hs1 b=some o->Hs b=some o\/∃ vs,o=.lst vs)(E:Ext Hs1 H Hs' H')(hd:vQ d=true)(r:Rep K Hs' d v):∃ Hs3,Ext Hs H Hs3 H'/\Rep K Hs3 d v:=by
  have back:Ext Hs H Hs H':=⟨.refl _,E.all,hs.trans E.all,fun _ _ _ h=>h⟩
  by_cases hsc:scD d=true
  · exact⟨Hs,back,qJ hsc r⟩
  · cases d with
    | tup ds =>
      have hds:ds.all scD=true:=hd
      obtain⟨p,ws,rfl,h1,h2⟩:=bL r
      have fin:∀ u:HO,Hs' p=some u->(∀ vs,u≠.lst vs)->(∀ Hx:Hp,Hx p=some u->SqT K Hx p ws)->∃ Hs3,Ext Hs H Hs3 H'/\Rep K Hs3 (.tup ds) (.ref p):=fun u hu hnl hx=>by
        cases hp:Hs p with
        | some u' =>
          have:=E.vis _ _ (vis _ _ hp)
          rw[hu] at this
          cases this
          refine⟨Hs,back,?_⟩
          simp only[Rep]
          exact⟨p,ws,rfl,hx Hs hp,gA hds h2⟩
        | none =>
          have h1n:Hs1 p=none:=by
            cases q:Hs1 p with
            | none=>rfl
            | some o =>
              rcases shp p o q with z | ⟨vs,rfl⟩
              · rw[hp] at z;cases z
              · have:=E.vis _ _ q
                rw[hu] at this
                cases this
                exact absurd rfl (hnl vs)
          have hHn:H p=none:=by
            cases q:H p with
            | none=>rfl
            | some o=>have:=E.hid p o q h1n;rw[hu] at this;cases this
          have ne:∀ {b:Addr} {o:HO},Hs b=some o->b≠p:=fun {b o} q z=>by subst z;rw[hp] at q;cases q
          refine⟨upd Hs p u,⟨fun b o q=>by rw[aO (ne q)];exact q,E.all,fun b o q=>?_,fun b o q z=>?_⟩,?_⟩
          · by_cases hb:b=p
            · subst hb;rw[aW] at q;cases q;exact E.sub _ _ hu
            · rw[aO hb] at q;exact E.all _ _ (hs _ _ q)
          · have hb:b≠p:=fun z=>by subst z;rw[hHn] at q;cases q
            rw[aO hb];exact z
          · simp only[Rep]
            exact⟨p,ws,rfl,hx _ aW,gA hds h2⟩
      rcases h1 with(h1 | ⟨o,h1⟩) | h1
      · exact fin _ h1 (fun vs z=>nomatch z) fun Hx q=>.inl (.inl q)
      · exact fin _ h1 (fun vs z=>nomatch z) fun Hx q=>.inl (.inr ⟨o,q⟩)
      · refine⟨Hs,back,?_⟩
        simp only[Rep]
        exact⟨p,ws,rfl,.inr h1,gA hds h2⟩
    | _=>exact absurd hd hsc
theorem Hd.set{x:Str}{i:Nat}{d:D}{v:V}(h:Hd K Hs0 H0 Hs H ρ σ)(hn:(ρ.map (·.1)).Nodup)(hi:(ρ.map (·.1))[i]?=some x)(r:Rep K Hs d v):Hd K Hs0 H0 Hs H (cC ρ x (.sh d)) (σ.set i (some v)):=by
 have hl:i<σ.length:=by have:=(List.getElem?_eq_some_iff.mp hi).1;rw[h.len];simpa using this
 refine⟨h.ext,by rw[List.length_set,h.len];have:=congrArg List.length (au ρ x (.sh d));simpa using this.symm,m7 hn hi hl h.sh r,fun j y ds e=>?_,fun j j' y y' ds es a hjj e1 e2 e3 e4=>?_,fun j y dss e=>?_⟩
 ·rw[aQ hn hi j] at e
  split at e
  ·cases e
  ·rename_i hj
   obtain⟨a,vs,k1,k⟩:=h.ow j y ds e
   exact⟨a,vs,by rw[List.getElem?_set_ne (fun z=>hj z.symm)];exact k1,k⟩
 ·rw[aQ hn hi] at e1 e2
  split at e1
  ·cases e1
  ·rename_i hj
   split at e2
   ·cases e2
   ·rename_i hj'
    rw[List.getElem?_set_ne (fun z=>hj z.symm)] at e3
    rw[List.getElem?_set_ne (fun z=>hj' z.symm)] at e4
    exact h.dis j j' y y' ds es a hjj e1 e2 e3 e4
 ·rw[aQ hn hi j] at e
  split at e
  ·cases e
  ·rename_i hj
   obtain⟨⟨a,bs,k1,k2⟩,k3⟩:=h.oo j y dss e
   refine⟨⟨a,bs,by rw[List.getElem?_set_ne (fun z=>hj z.symm)];exact k1,k2⟩,fun l z s hl' g=>?_⟩
   rw[aQ hn hi l] at g
   split at g
   ·cases g;rfl
   ·exact k3 l z s hl' g
theorem Hd.own{x:Str}{i:Nat}{ds:List D}{vs:List V}{acc:Addr}(h:Hd K Hs0 H0 Hs H ρ σ)(hn:(ρ.map (·.1)).Nodup)(hi:(ρ.map (·.1))[i]?=some x)(h1:H acc=some (.lst vs))(r:aM K Hs ds vs)(h2:Hs acc=none)(h3:H0 acc=none)
  (no:∀ (j:Nat) y dss,j≠i->ρ[j]?=some (y,.oo dss)->False) (ap:∀ (j:Nat) y es,j≠i->ρ[j]?=some (y,.ow es)->σ[j]?=some (some (.ref acc))->False):Hd K Hs0 H0 Hs H (cC ρ x (.ow ds)) (σ.set i (some (.ref acc))):=by
 have hl:i<σ.length:=by have:=(List.getElem?_eq_some_iff.mp hi).1;rw[h.len];simpa using this
 refine⟨h.ext,by rw[List.length_set,h.len];have:=congrArg List.length (au ρ x (.ow ds));simpa using this.symm,fun j y d e=>?_,fun j y es e=>?_,fun j j' y y' ds' es a hjj e1 e2 e3 e4=>?_,fun j y dss e=>?_⟩
 ·rw[aQ hn hi j] at e
  split at e
  ·cases e
  ·rename_i hj
   obtain⟨v,k1,k2⟩:=h.sh j y d e
   exact⟨v,by rw[List.getElem?_set_ne (fun z=>hj z.symm)];exact k1,k2⟩
 ·rw[aQ hn hi j] at e
  split at e
  ·rename_i hj
   subst hj
   cases e
   exact⟨acc,vs,by rw[List.getElem?_set_self hl],h1,r,h2,h3⟩
  ·rename_i hj
   obtain⟨a,vs',k1,k⟩:=h.ow j y es e
   exact⟨a,vs',by rw[List.getElem?_set_ne (fun z=>hj z.symm)];exact k1,k⟩
 ·rw[aQ hn hi] at e1 e2
  split at e1
  ·rename_i hj
   split at e2
   ·rename_i hj'
    exact hjj (hj.trans hj'.symm)
   ·rename_i hj'
    subst hj
    rw[List.getElem?_set_self hl] at e3
    cases e3
    rw[List.getElem?_set_ne (fun z=>hj' z.symm)] at e4
    exact ap j' y' es hj' e2 e4
  ·rename_i hj
   split at e2
   ·rename_i hj'
    subst hj'
    rw[List.getElem?_set_self hl] at e4
    cases e4
    rw[List.getElem?_set_ne (fun z=>hj z.symm)] at e3
    exact ap j y ds' hj e1 e3
   ·rename_i hj'
    rw[List.getElem?_set_ne (fun z=>hj z.symm)] at e3
    rw[List.getElem?_set_ne (fun z=>hj' z.symm)] at e4
    exact h.dis j j' y y' ds' es a hjj e1 e2 e3 e4
 ·rw[aQ hn hi j] at e
  split at e
  ·cases e
  ·rename_i hj
   exact(no j y dss hj e).elim
theorem Hd.app{x:Str}{i:Nat}{ds es:List D}{vs:List V}{a:Addr}(h:Hd K Hs0 H0 Hs H ρ σ)(hn:(ρ.map (·.1)).Nodup)(hi:ρ[i]?=some (x,.ow ds))(hσ:σ[i]?=some (some (.ref a)))(r:aM K Hs es vs):Hd K Hs0 H0 Hs (upd H a (.lst vs)) (cC ρ x (.ow es)) σ:=by
 obtain⟨a',vs',k1,k2,k3,k4,k5⟩:=h.ow i x ds hi
 rw[hσ] at k1
 cases k1
 have hi':(ρ.map (·.1))[i]?=some x:=by rw[List.getElem?_map,hi];rfl
 refine⟨Ext.acc h.ext k5 k4,by rw[h.len];have:=congrArg List.length (au ρ x (.ow es));simpa using this.symm,fun j y d e=>?_,fun j y es' e=>?_,fun j j' y y' ds' es' b hjj e1 e2 e3 e4=>?_,fun j y dss e=>?_⟩
 ·rw[aQ hn hi' j] at e
  split at e
  ·cases e
  ·exact h.sh j y d e
 ·rw[aQ hn hi' j] at e
  split at e
  ·rename_i hj
   subst hj
   cases e
   exact⟨a,vs,hσ,aW,r,k4,k5⟩
  ·rename_i hj
   obtain⟨b,us,g1,g2,g⟩:=h.ow j y es' e
   refine⟨b,us,g1,?_,g⟩
   rw[aO]
   ·exact g2
   ·rintro rfl
    exact h.dis j i y x es' ds b hj e hi g1 hσ
 ·rw[aQ hn hi'] at e1 e2
  split at e1
  ·rename_i hj
   split at e2
   ·rename_i hj'
    exact hjj (hj.trans hj'.symm)
   ·subst hj
    exact h.dis j j' x y' ds es' b hjj hi e2 e3 e4
  ·split at e2
   ·rename_i hj'
    subst hj'
    exact h.dis j j' y x ds' ds b hjj e1 hi e3 e4
   ·exact h.dis j j' y y' ds' es' b hjj e1 e2 e3 e4
 ·rw[aQ hn hi' j] at e
  split at e
  ·cases e
  ·rename_i hj
   exact nomatch (h.oo j y dss e).2 i x _ (fun w=>hj w.symm) hi
theorem yw{x:Str}{i:Nat}(hn:(ρ.map (·.1)).Nodup)(hi:(ρ.map (·.1))[i]?=some x)(h:nA ρ x=true):∀ (j:Nat) y s,j≠i->ρ[j]?=some (y,s)->wC s=true:=fun j y s hj e=>by
 have:=List.all_eq_true.mp h _ (List.mem_of_getElem? e)
 rw[Bool.or_eq_true] at this
 rcases this with q | q
 ·exfalso
  have ey:y=x:=by simpa using q
  have e':(ρ.map (·.1))[j]?=some x:=by rw[List.getElem?_map,e,<- ey];rfl
  exact hj ((List.getElem?_inj (List.getElem?_eq_some_iff.mp e').1 hn).mp (e'.trans hi.symm))
 ·exact q
theorem DP{x:Str}{i:Nat}(hn:(ρ.map (·.1)).Nodup)(hi:(ρ.map (·.1))[i]?=some x)(h:iU ρ x=true):∀ (j:Nat) y dss,j≠i->ρ[j]?=some (y,.oo dss)->False:=fun j y dss hj e=>by
 have:=List.all_eq_true.mp h _ (List.mem_of_getElem? e)
 rw[Bool.or_eq_true] at this
 rcases this with q | q
 ·have ey:y=x:=by simpa using q
  have e':(ρ.map (·.1))[j]?=some x:=by rw[List.getElem?_map,e,<- ey];rfl
  exact hj ((List.getElem?_inj (List.getElem?_eq_some_iff.mp e').1 hn).mp (e'.trans hi.symm))
 ·exact nomatch q
theorem Hd.own2{x:Str}{i:Nat}{dss:List (List D)}{a:Addr}{bs:List Addr}(h:Hd K Hs0 H0 Hs H ρ σ)(hn:(ρ.map (·.1)).Nodup)(hi:(ρ.map (·.1))[i]?=some x)(o:OO K H0 Hs H a bs dss)(no:∀ (j:Nat) y s,j≠i->ρ[j]?=some (y,s)->wC s=true):Hd K Hs0 H0 Hs H (cC ρ x (.oo dss)) (σ.set i (some (.ref a))):=by
 have hl:i<σ.length:=by have:=(List.getElem?_eq_some_iff.mp hi).1;rw[h.len];simpa using this
 refine⟨h.ext,by rw[List.length_set,h.len];have:=congrArg List.length (au ρ x (.oo dss));simpa using this.symm,fun j y d e=>?_,fun j y es e=>?_,fun j j' y y' ds' es a hjj e1 e2 e3 e4=>?_,fun j y dss' e=>?_⟩
 ·rw[aQ hn hi j] at e
  split at e
  ·cases e
  ·rename_i hj
   obtain⟨v,k1,k2⟩:=h.sh j y d e
   exact⟨v,by rw[List.getElem?_set_ne (fun z=>hj z.symm)];exact k1,k2⟩
 ·rw[aQ hn hi j] at e
  split at e
  ·cases e
  ·rename_i hj
   exact nomatch no j y _ hj e
 ·rw[aQ hn hi] at e1
  split at e1
  ·cases e1
  ·rename_i hj
   exact nomatch no j y _ hj e1
 ·rw[aQ hn hi j] at e
  split at e
  ·rename_i hj
   subst hj
   cases e
   refine⟨⟨a,bs,by rw[List.getElem?_set_self hl],o⟩,fun l z s hl' g=>?_⟩
   rw[aQ hn hi l,if_neg hl'] at g
   exact no l z s hl' g
  ·rename_i hj
   exact nomatch no j y _ hj e
theorem Hd.app2{x:Str}{i:Nat}{dss dss':List (List D)}{a c:Addr}{bs':List Addr}{vs:List V}(h:Hd K Hs0 H0 Hs H ρ σ)(hn:(ρ.map (·.1)).Nodup)(hi:ρ[i]?=some (x,.oo dss))(hσ:σ[i]?=some (some (.ref a)))(c1:Hs c=none)(c2:H0 c=none)(o:OO K H0 Hs (upd H c (.lst vs)) a bs' dss'):Hd K Hs0 H0 Hs (upd H c (.lst vs)) (cC ρ x (.oo dss')) σ:=by
 have hi':(ρ.map (·.1))[i]?=some x:=by rw[List.getElem?_map,hi];rfl
 obtain⟨_,no⟩:=h.oo i x dss hi
 refine⟨Ext.acc h.ext c2 c1,by rw[h.len];have:=congrArg List.length (au ρ x (.oo dss'));simpa using this.symm,fun j y d e=>?_,fun j y es e=>?_,fun j j' y y' ds' es a hjj e1 e2 e3 e4=>?_,fun j y dss'' e=>?_⟩
 ·rw[aQ hn hi' j] at e
  split at e
  ·cases e
  ·exact h.sh j y d e
 ·rw[aQ hn hi' j] at e
  split at e
  ·cases e
  ·rename_i hj
   exact nomatch no j y _ hj e
 ·rw[aQ hn hi'] at e1
  split at e1
  ·cases e1
  ·rename_i hj
   exact nomatch no j y _ hj e1
 ·rw[aQ hn hi' j] at e
  split at e
  ·rename_i hj
   subst hj
   cases e
   refine⟨⟨a,bs',hσ,o⟩,fun l z s hl' g=>?_⟩
   rw[aQ hn hi' l,if_neg hl'] at g
   exact no l z s hl' g
  ·rename_i hj
   exact nomatch no j y _ hj e
theorem qR{scope:Scope}:lA K Hs scope (fun ρ σ=>Hd K Hs0 H0 Hs H ρ σ):=fun ρ σ i x d v hn hi _ h r=>h.set hn hi r
end
end L2
namespace L2
open PySem PySem.Spec PyProof.Rows PySem.SeqAt
open DE hiding st
def gZ(X:Cx)(s:Stmt):TS:=fun D σ H=>∀ pins s0,Inv X pins σ H s0->wpAny (model X.prog X.w) X.A (exec s X.env) (SP X pins D) X.xe s0
def gY(X:Cx)(s:List Stmt):TS:=fun D σ H=>∀ pins s0,Inv X pins σ H s0->wpAny (model X.prog X.w) X.A (execs s X.env) (SP X pins D) X.xe s0
section
variable {X:Cx} {s:Stmt} {ss:List Stmt} {t:TS} {D:Ends} {σ:St} {H:Hp}
theorem z7:PS X s (gZ X s):=fun pins s σ H D I h=>h pins s I
theorem PS.sem(h:PS X s t)(q:t D σ H):gZ X s D σ H:=fun pins s I=>h pins s σ H D I q
theorem dH:PSs X ss (gY X ss):=fun pins s σ H D I h=>h pins s I
theorem PSs.sem(h:PSs X ss t)(q:t D σ H):gY X ss D σ H:=fun pins s I=>h pins s σ H D I q
end
def Runs(X:Cx)(Hs0 H0:Hp)(ρ:Rho)(fl:Fl)(t:TS):Prop:=∀ σ H Hs D,Hd X.K Hs0 H0 Hs H ρ σ->X.N=ρ.map (·.1)->(∀ ρ' σ' Hs' H',fl=.nxt ρ'->Same Hs Hs'->X.N=ρ'.map (·.1)->Hd X.K Hs0 H0 Hs' H' ρ' σ'->D.nx σ' H') ->
 (∀ d v Hs' H',fl=.ret d->Ext Hs0 H0 Hs' H'->Rep X.K Hs' d v->D.rt v H')->t D σ H
structure GoodS (cx:Cxt) (k:Nat) (X:Cx) (sc:Scope):Prop where
 good:Good cx k X sc
 own:Owns X sc
 pass:PassesOwn (model X.prog X.w) X.A X.env X.xe
 stk:X.stack=X.env::X.outer/\X.env.frame=some X.env.locals
section
variable {X:Cx} {ρ:Rho} {cx:Cxt} {k F:Nat} {sc scope:Scope} {Hs0 H0:Hp} {e:Expr} {d:D}
theorem yW(G:GoodS cx k X sc)(hN:X.N=ρ.map (·.1))(he:ev cx F sc (frz F e ρ) e=some d){σ:St}{H Hs:Hp}{Q:VK}(h:Hd X.K Hs0 H0 Hs H ρ σ)(q:∀ v Hs' H',Same Hs Hs'->Hd X.K Hs0 H0 Hs' H' (frz F e ρ) σ->Rep X.K Hs' d v->Q v H'):mH X e σ H Q:=by
 obtain⟨Hs1,sm1,h1⟩:=h.frozen F e
 exact(cU cx F G.good (by rw[aH];exact hN) he).1 σ H Hs1 Q h1.ext.sub h1.sh fun v H' Hs' E r=>q v Hs' H' (sm1.trans E.vis) (h1.step E) r
theorem Bf(G:GoodS cx k X sc)(hN:X.N=ρ.map (·.1)){b:Bool}(he:ev cx F sc (frz F e ρ) e=some (.bl b)){σ:St}{H Hs:Hp}{Q:Bool->Hp->Prop}(h:Hd X.K Hs0 H0 Hs H ρ σ)(q:∀ Hs' H',Same Hs Hs'->Hd X.K Hs0 H0 Hs' H' (frz F e ρ) σ->Q b H'):xK X e σ H Q:=by
 obtain⟨Hs1,sm1,h1⟩:=h.frozen F e
 exact(cU cx F G.good (by rw[aH];exact hN) he).2 b rfl σ H Hs1 Q h1.ext.sub h1.sh fun H' Hs' E=>q Hs' H' (sm1.trans E.vis) (h1.step E)
theorem fB{t:Option Expr}{l:Nat}{env:Env}(he:ev cx F sc ρ e=some d)(hc:∀ a b c p,e≠.ListComp a b c p):swapsWith e t l env=pure false:=by
  cases F with
  | zero=>simp[ev] at he
  | succ F =>
    cases e<;>first | rfl | (exact nomatch (show(Option.none:Option D)=some d from he)) | (exact absurd rfl (hc _ _ _ _))
theorem xT(h:aY e=false):jh e d=.sh d:=by
 unfold jh
 split
 ·rw[h];rfl
 ·rfl
def Kq(X:Cx)(ρ:Rho)(e:Expr)(ds:List D):Prop:=∀ σ H Hs Q,Same Hs H->cH X.K Hs ρ σ->(∀ acc vs Hs' H',Ext Hs H Hs' H'->H acc=none->Hs' acc=none->H' acc=some (.lst vs)->aM X.K Hs' ds vs->Q (.ref acc) H')->mH X e σ H Q
theorem yt{es:List Expr}{ds:List D}{pos:Pos}(h:EvA X ρ es ds)(hz:szl ds.length=true):Kq X ρ (.List es pos) ds:=fun σ H Hs Q hs hst hq =>
  (Ad cT).sem (h σ H Hs _ hs hst fun vs H1 Hs1 E1 r1=>⟨by rw[<- r1.length];exact fV hz,fun p hp =>
    hq p vs Hs1 _ (Ext.acc E1 (E1.all.free hp) (E1.sub.free hp)) (E1.all.free hp) (E1.sub.free hp) aW r1⟩)
theorem jL{elt:Expr}{gens:List Comprehension}{pos:Pos}{n:Nat}(G:Good cx k X sc)(hN:X.N=ρ.map (·.1))(he:ev cx (n+1) sc ρ (.ListComp elt gens scope pos)=some d) :
    ∃ tg iter ifs l out, gens = [⟨tg, iter, ifs, 0⟩] /\ fY sc scope = true /\ EvI X ρ tg iter l /\ aB iter = true /\ szl l.length = true /\ bK (n6 cx n sc scope ρ tg elt ifs) l = some out /\ d = .lst out /\
      (∀ Xc,CompOf X scope Xc->∀ ρ1:Rho,Xc.N=ρ1.map (·.1)->∀ e d,ev cx n (jU scope sc) ρ1 e=some d->Ev Xc ρ1 e d/\∀ b,d=.bl b->EvT Xc ρ1 e b):=by
  simp only[ev] at he
  split at he
  · rename_i tg iter ifs a
    split at he
    · rename_i hok
      rw[Bool.and_eq_true] at hok
      have ea:a=0:=by simpa using hok.1
      subst ea
      obtain⟨l,h1,he⟩:=aP he
      split at he
      · rename_i hz
        obtain⟨out,h2,he⟩:=aP he
        cases he
        obtain⟨hI,hp⟩:=vZ (tg:=tg) G (fun e d h=>⟨(cU cx n G hN h).1,aX h⟩) h1
        exact⟨tg,iter,ifs,l,out,rfl,hok.2,hI,hp,hz,h2,rfl,fun Xc C ρ1 hN1 e d he=>cU cx n (G.comp C hok.2) hN1 he⟩
      · cases he
    · cases he
  · cases he
theorem Dm{a b:Expr}{ds:List D}{j:Int}{pos:Pos}(ha:Ev X ρ a (.lst ds))(hb:Ev X ρ b (.int j))(h1:j<=1000)(h2:-1000<=j)(hz:szl (ds.length*j.toNat)=true):Kq X ρ (.BinOp a .Mult b pos) (List.replicate j.toNat ds).flatten:=fun σ H Hs Q hs hst hq=>by
 refine(iT uU aq aq).sem (ha σ H Hs _ hs hst fun u H1 Hs1 E1 r1=>hb σ H1 Hs1 _ E1.sub (hst.same E1.vis) fun v H2 Hs2 E2 r2=>?_)
 obtain⟨p,us,rfl,g1,g2⟩:=bH (Rep.same E2.vis _ _ r1)
 have l1:=g2.length
 have E:=E1.trans E2
 exact⟨p,_,us,rfl,aG r2,E2.sub.seq g1,by omega,by omega,by have:=fV hz;rw[<- l1];exact this,fun q hq'=>hq q _ Hs2 _ (Ext.acc E (E.all.free hq') (E.sub.free hq')) (E.all.free hq') (E.sub.free hq') aW (g2.rep _)⟩
theorem qF{x:Str}{ds:List D}{px pos:Pos}(G:GoodS cx k X sc)(hN:X.N=ρ.map (·.1))(hx:ownIn sc x=true)(hc:(ρ.map (·.1)).contains x=true)(hno:iU (frz F e ρ) x=true)
  (hrun:∀ (i:Nat),X.N[i]?=some x->∀ σ H Hs D,Same Hs H->cH X.K Hs (frz F e ρ) σ->(∀ acc vs Hs' H',Ext Hs H Hs' H'->H acc=none->Hs' acc=none->H' acc=some (.lst vs)->aM X.K Hs' ds vs->D.nx (σ.set i (some (.ref acc))) H')->gZ X (.Assign [.Name x px] e pos) D σ H) :
  Runs X Hs0 H0 ρ (.nxt (cC (frz F e ρ) x (.ow ds))) (gZ X (.Assign [.Name x px] e pos)):=by
 intro σ H Hs D h _ hn hr
 obtain⟨i,hi⟩:=bw hc
 obtain⟨Hs1,sm1,h1⟩:=h.frozen F e
 have hnd:((frz F e ρ).map (·.1)).Nodup:=by rw[aH,<- hN];exact G.good.nd
 refine hrun i (by rw[hN];exact hi) σ H Hs1 D h1.ext.sub h1.sh fun acc vs Hs' H' E a1 a2 a3 r=>?_
 refine hn _ _ Hs' H' rfl (sm1.trans E.vis) (by rw[au,aH];exact hN) ((h1.step E).own hnd (by rw[aH];exact hi) a3 r a2 (h1.ext.all.free a1) (DP hnd (by rw[aH];exact hi) hno) fun j y es hj q1 q2=>?_)
 obtain⟨b,us,k1,k2,_⟩:=h1.ow j y es q1
 rw[k1] at q2
 cases q2
 rw[a1] at k2
 cases k2
theorem uy{x:Str}{px pos:Pos}(G:GoodS cx k X sc)(hN:X.N=ρ.map (·.1))(hx:ownIn sc x=true)(hc:(ρ.map (·.1)).contains x=true)(hno:aY e=true->iU (frz F e ρ) x=true)(he:ev cx F sc (frz F e ρ) e=some d) :
    Runs X Hs0 H0 ρ (.nxt (cC (frz F e ρ) x (jh e d))) (gZ X (.Assign [.Name x px] e pos)):=by
  obtain⟨ox,of⟩:=G.own.own x hx
  have hN':X.N=(frz F e ρ).map (·.1):=by rw[aH];exact hN
  by_cases hfr:aY e=true
  · cases F with
    | zero=>simp[ev] at he
    | succ F =>
      cases e with
      | List es p2 =>
        simp only[ev] at he
        obtain⟨ds,h1,he⟩:=aP he
        split at he
        · rename_i hz
          cases he
          have hA:=(eO (fun e _ d hd=>⟨(cU cx F G.good hN' hd).1,aX hd⟩) h1).1
          refine qF G hN hx hc (hno rfl) fun i hi σ H Hs D hs hst hq=>?_
          refine PS.sem (jo G.good.nd hi ox aq rfl of) (yt hA hz σ H Hs _ hs hst fun acc vs Hs' H' E a1 a2 a3 r=>hq acc vs Hs' H' E a1 a2 a3 r)
        · cases he
      | ListComp elt gens scope p2 =>
        obtain⟨tg,iter,ifs,l,out,rfl,hok,hI,hp,hz,hgo,rfl,hE⟩:=jL G.good hN' he
        obtain⟨ok1,ok2,ok3⟩:=cP G.good hok
        refine qF G hN hx hc (hno rfl) fun i hi σ H Hs D hs hst hq=>?_
        have rd:o8 X scope (oZ X tg iter) (pF X.N scope.names) (fun Xc=>yP Xc tg) (fun Xc=>pN Xc ifs) (fun Xc=>mH Xc elt) σ H (fun v H1=>D.nx (σ.set i (some v)) H1) :=
          jK G.good hN' hok hI hz hgo hE hs hst fun acc vs Hs' H' E a1 a2 a3 r=>hq acc vs Hs' H' E a1 a2 a3 r
        cases hsw:(X.env.blockKind==.function&&X.env.kindOf x==some .local&&px.line==p2.line && !(scope.names.any fun(n,k)=>n==x&&(k==.local||k==.cell))) with
        | true =>
          have e1:swapsWith (.ListComp elt [⟨tg,iter,ifs,0⟩] scope p2) (some (.Name x px)) pos.line X.env=pure true:=by rw[<- hsw];rfl
          rw[Bool.and_eq_true,Bool.and_eq_true,Bool.and_eq_true] at hsw
          have hl:X.env.scope.names.lookup x=some .local:=by simpa[Env.kindOf] using hsw.1.1.2
          exact PS.sem (uK G.good.nd hi hl G.good.calm ok1 ok2 ok3 iG (fun Xc C=>⟨fW,eH,aq⟩) (cX hp) e1) rd
        | false =>
          have e1:swapsWith (.ListComp elt [⟨tg,iter,ifs,0⟩] scope p2) (some (.Name x px)) pos.line X.env=pure false:=by rw[<- hsw];rfl
          exact PS.sem (jo G.good.nd hi ox (jr G.good.calm ok1 ok2 ok3 iG (fun Xc C=>⟨fW,eH,aq⟩) (cX hp)) e1 of) rd
      | BinOp a op b p2 =>
        have hno':=hno hfr
        simp only[aY,Bool.and_eq_true] at hfr
        obtain⟨q1,q2⟩:=hfr
        cases op<;>simp[Vv] at q2
        cases a with
        | List es p3 =>
          simp only[ev] at he
          obtain⟨dx,h1,he⟩:=aP he
          obtain⟨dy,h2,he⟩:=aP he
          have hl:∃ ds0,dx=.lst ds0:=by
            cases F with
            | zero=>simp[ev] at h1
            | succ F =>
              simp only[ev] at h1
              obtain⟨ds0,_,h1⟩:=aP h1
              split at h1
              · cases h1;exact⟨_,rfl⟩
              · cases h1
          obtain⟨ds0,rfl⟩:=hl
          cases dy with
          | int j =>
            simp only[binop] at he
            split at he
            · rename_i hz
              cases he
              rw[Bool.and_eq_true,Bool.and_eq_true,decide_eq_true_eq,decide_eq_true_eq] at hz
              have e1:=(cU cx F G.good hN' h1).1
              have e2:=(cU cx F G.good hN' h2).1
              refine qF G hN hx hc hno' fun i hi σ H Hs D hs hst hq=>?_
              refine PS.sem (jo G.good.nd hi ox aq rfl of) (Dm e1 e2 hz.1.1 hz.1.2 hz.2 σ H Hs _ hs hst fun acc vs Hs' H' E a1 a2 a3 r=>hq acc vs Hs' H' E a1 a2 a3 r)
            · cases he
          | _=>simp[binop] at he
        | _=>exact absurd (show false=true from q1) Bool.false_ne_true
      | _=>simp[aY] at hfr
  · have hfr':aY e=false:=by simpa using hfr
    rw[xT hfr']
    intro σ H Hs D h _ hn hr
    obtain⟨i,hi⟩:=bw hc
    have hsw:=fB (t:=some (.Name x px)) (l:=pos.line) (env:=X.env) he fun a b c p q=>by rw[q] at hfr';cases hfr'
    refine PS.sem (jo (i:=i) G.good.nd (by rw[hN];exact hi) ox aq hsw of) (yW G hN he h fun v Hs' H' sm h' r=>?_)
    exact hn _ _ Hs' H' rfl sm (by rw[au];exact hN') (h'.set (by rw[<- hN'];exact G.good.nd) (by rw[aH];exact hi) r)
theorem tG{es:List Expr}{l:List D}{ρ':Rho}{σ:St}{v:V}{Hs H:Hp}{P:Rho->St->Prop}{Q:St->Hp->Prop}{kt:Nat}{pos:Pos}(G:GoodS cx k X sc)(hs:Same Hs H)(hN:X.N=ρ.map (·.1))(KE:lA X.K Hs sc P)(hl:items d=some l)(hb:bindNames sc es l ρ=some ρ')(hp:P ρ σ)(rd:Rep X.K Hs d v)
    (hq:∀ σ',X.N=ρ'.map (·.1)->P ρ' σ'->Q σ' H):yP X (.Tuple es kt pos) v σ H Q:=by
  obtain⟨e1,e2,e3⟩:=d8 (env:=X.env) hb
  cases d with
  | tup xs =>
    simp only[items,Option.some.injEq] at hl;subst hl
    obtain⟨a,vs,rfl,h1,h2⟩:=bL rd
    exact PG.sem (Ab G.good.calm lN e1 e2) ⟨a,vs,rfl,hs.tup h1,by rw[<- h2.length,e3],fL G.own G.good.nd KE hN hb hp h2 hq⟩
  | lst xs =>
    simp only[items,Option.some.injEq] at hl;subst hl
    obtain⟨a,vs,rfl,h1,h2⟩:=bH rd
    exact PG.sem (HY G.good.calm lN e1 e2) ⟨a,vs,rfl,hs.seq h1,by rw[<- h2.length,e3],fL G.own G.good.nd KE hN hb hp h2 hq⟩
  | _=>simp[items] at hl
theorem qO{n:Nat}(h:nc0 e=true):foldedForSure n e=false/\constantsAlone n e=false:=by
 cases e<;>simp[nc0] at h<;>(constructor<;>simp[foldedForSure,constantsAlone,h])
theorem Iz{n:Nat}(h:nc1 e=true):constantsAlone (n+1) e=false:=by
 unfold nc1 at h
 split at h
 ·simp[constantsAlone,(qO (n:=n) h).2]
 ·exact(qO h).2
theorem jW(h:nc e=true):foldedForSure 8 e=false/\constantsAlone 8 e=false:=by
 unfold nc at h
 split at h
 ·rw[Bool.or_eq_true] at h
  refine⟨by simp[foldedForSure],?_⟩
  rcases h with h | h<;>simp[constantsAlone,(qO (n:=7) h).2]
 ·rw[Bool.or_eq_true] at h
  refine⟨by simp[foldedForSure],?_⟩
  rcases h with h | h<;>simp[constantsAlone,(Iz (n:=6) h)]
 ·exact qO h
theorem jd(G:Good cx k X sc):X.env.blockKind=.function:=by
 unfold Env.blockKind
 rw[G.sce,G.kind]
 rfl
theorem G5{es:List Expr}{kt:Nat}{pt:Pos}(G:Good cx k X sc)(h:swp sc es e=some false):swappedStores [.Tuple es kt pt] e X.env=pure none:=by
  cases e with
  | Tuple vs k2 p2 =>
    simp only[swp] at h
    split at h
    · rename_i x px y py a b
      split at h
      · split at h
        · cases h
        · split at h
          · rename_i hcs
            rw[Bool.and_eq_true] at hcs
            have f1:foldedForSure 8 a=true:=by cases a<;>first | rfl | (simp[yK] at hcs)
            have f2:foldedForSure 8 b=true:=by cases b<;>first | rfl | (simp[yK] at hcs)
            have al1:[a,b].all (foldedForSure 8)=true:=by simp[f1,f2]
            unfold swappedStores
            simp only[al1,if_true]
            repeat' split
            all_goals rfl
          · cases h
      · rename_i hl
        have hl':¬ ((X.env.kindOf x==some .local)=true/\(X.env.kindOf y==some .local)=true):=by
          intro q
          apply hl
          rw[Bool.and_eq_true]
          unfold Env.kindOf at q
          rw[G.sce] at q
          exact q
        unfold swappedStores
        cases h1:X.env.kindOf x==some .local<;>cases h2:X.env.kindOf y==some .local
        all_goals simp only[h1,h2] at hl'
        all_goals simp[h1,h2,jd G]
        · intro _ _ hlen
          exfalso
          have n1:¬ X.env.kindOf x=some .local:=by simpa using h1
          have n2:¬ X.env.kindOf y=some .local:=by simpa using h2
          simp[List.filterMap_cons,n1,n2] at hlen
        · intro _ _ hlen
          exfalso
          have n1:¬ X.env.kindOf x=some .local:=by simpa using h1
          simp only[List.filterMap_cons,List.filterMap_nil,n1,false_and,if_false] at hlen
          split at hlen<;>simp at hlen
        · intro _ _ hlen
          exfalso
          have n1:¬ X.env.kindOf y=some .local:=by simpa using h2
          simp only[List.filterMap_cons,List.filterMap_nil,n1,false_and,if_false] at hlen
          split at hlen<;>simp at hlen
        · exact absurd ⟨trivial,trivial⟩ hl'
    · rename_i x px y py z pz a b c
      split at h
      · rename_i hl
        simp only[Bool.and_eq_true] at hl
        obtain⟨⟨l1,l2⟩,l3⟩:=hl
        have kd:∀ {v:Str},(sc.names.lookup v==some NameKind.cell)=true->¬ X.env.kindOf v=some .local:=fun {v} hv q=>by
          unfold Env.kindOf at q
          rw[G.sce,eq_of_beq hv] at q
          cases q
        have n1:=kd l1
        have n2:=kd l2
        have n3:=kd l3
        unfold swappedStores
        have b1:(X.env.kindOf x==some NameKind.local)=false:=by simpa using n1
        have b2:(X.env.kindOf y==some NameKind.local)=false:=by simpa using n2
        have b3:(X.env.kindOf z==some NameKind.local)=false:=by simpa using n3
        simp[jd G,List.filterMap_cons,b1,b2,b3,n1,n2,n3]
      · cases h
    · cases h
  | _=>rfl
theorem BZ{es:List Expr}{kt:Nat}{pt:Pos}(G:Good cx k X sc)(h:swp sc es e=some true):∃ x px y py a b k2 p2,es=[.Name x px,.Name y py]/\e=.Tuple [a,b] k2 p2/\X.env.scope.names.lookup x=some .local/\X.env.scope.names.lookup y=some .local/\x≠y/\aB a=true/\aB b=true /\
    swappedStores [.Tuple es kt pt] e X.env=pure (some [x,y]):=by
  cases e with
  | Tuple vs k2 p2 =>
    simp only[swp] at h
    split at h
    · rename_i x px y py a b
      split at h
      · rename_i hl
        split at h
        · rename_i hq
          rw[Bool.and_eq_true] at hl
          rw[Bool.and_eq_true,Bool.and_eq_true,Bool.and_eq_true,Bool.and_eq_true,Bool.or_eq_true] at hq
          obtain⟨⟨⟨⟨q1,q2⟩,q3⟩,q4⟩,q5⟩:=hq
          have l1:X.env.kindOf x=some .local:=by unfold Env.kindOf;rw[G.sce];simpa using hl.1
          have l2:X.env.kindOf y=some .local:=by unfold Env.kindOf;rw[G.sce];simpa using hl.2
          have hxy:x≠y:=by simpa using q2
          have hpl : py.line = px.line := by have : px.line = py.line := by simpa using q1
                                             exact this.symm
          have f1:(foldedForSure 8 a&&foldedForSure 8 b)=false:=by
            rcases q3 with q | q
            · rw[(jW q).1];rfl
            · rw[(jW q).1,Bool.and_false]
          have f2:(constantsAlone 8 a&&constantsAlone 8 b)=false:=by
            rcases q3 with q | q
            · rw[(jW q).2];rfl
            · rw[(jW q).2,Bool.and_false]
          refine⟨x,px,y,py,a,b,k2,p2,rfl,rfl,l1,l2,hxy,q4,q5,?_⟩
          unfold swappedStores
          have ed:([x,y]:List Str).eraseDups.length=2:=by
            have:(y==x)=false:=by simpa using hxy.symm
            simp[List.eraseDups_cons,this]
          have al1:[a,b].all (foldedForSure 8)=false:=by simpa using f1
          have al2:[a,b].all (constantsAlone 8)=false:=by simpa using f2
          simp only[al1,al2,jd G]
          generalize hst:[a,b].any _=sb
          have hsb:sb=false:=by
            rw[<- hst,List.any_cons,List.any_cons,List.any_nil,Bool.or_false,Bool.or_eq_false_iff]
            clear hst f1 f2 al1 al2 q3
            refine⟨?_,?_⟩
            · cases a<;>first | rfl | (simp[aB] at q4)
            · cases b<;>first | rfl | (simp[aB] at q5)
          generalize hf:List.filterMap _ [Expr.Name x px,Expr.Name y py]=nm
          have hnm:nm=[x,y]:=by
            rw[<- hf]
            simp[List.filterMap_cons,l1,l2,hpl,Expr.pos]
          rw[hsb,hnm]
          simp only[ed]
          rfl
        · split at h<;>cases h
      · cases h
    · split at h<;>cases h
    · cases h
  | _=>simp[swp] at h
end
end L2
namespace L2
open PySem PySem.Spec PyProof.Rows PySem.SeqAt
open DE hiding st
def XOk(X:Cx)(σ:St)(E:XK):Prop:=∀ pins H s e s',Inv X pins σ H s->CX1 X.prog X.w X.stack H s E e s'->X.xe e s'
def wN(X:Cx)(σ:St)(E:XK):Prop:=∀ pins H s (C e:Addr) h' args,Inv X pins σ H s->Heap.MadeExcOf s.heap h' e (.ref C) args->E (.ref C) none H->X.xe (.ref e) { s with heap:=h' }
def EX(X:Cx)(c:Str)(Hs H:Hp)(E:XK):Prop:=∀ C H' Hs',PySem.W.nsIn X.K mainGlobals c=some (some (.ref C))->Ext Hs H Hs' H'->E (.ref C) none H'
theorem EX.step{X:Cx}{c:Str}{Hs H Hs1 H1:Hp}{E:XK}(h:EX X c Hs H E)(e:Ext Hs H Hs1 H1):EX X c Hs1 H1 E:=fun C H' Hs' hn e'=>h C H' Hs' hn (e.trans e')
def EvX(X:Cx)(ρ:Rho)(e:Expr)(c:Str):Prop:=∀ σ H Hs E,Same Hs H->cH X.K Hs ρ σ->EX X c Hs H E->XOk X σ E->∀ Q,mH X e σ H Q
def VG(X:Cx)(ρ:Rho)(es:List Expr)(c:Str):Prop:=∀ σ H Hs E,Same Hs H->cH X.K Hs ρ σ->EX X c Hs H E->XOk X σ E->∀ Q,uo X es σ H Q
section
variable {X:Cx} {ρ:Rho} {cx:Cxt} {k:Nat} {sc scope:Scope}
theorem Cr{f:Addr}{fd:FuncData}{ps:List Str}{sp:Sp}{E:XK}{pins:List (Addr×Obj)}{σ:St}{H:Hp}{s:Shared}{Q:VK}{us:List Value}{vs:List V}(F:FnOk X.prog X.w X.K X.mg X.base (CX1 X.prog X.w) k f fd ps sp)(hr:Room k X.A)(hb:Binds X.K fd ps [])(hx:XOk X σ E)
    (I:Inv X pins σ H s) (r:Vals vs us) (h:sp vs H Q E):wpAny (model X.prog X.w) X.A (call (.ref f) us) (EP X pins σ Q) X.xe s:=by
  have hl:(us++([]:List Value)).length=ps.length:=by rw[List.append_nil,<- r.length];exact F.len _ _ _ _ h
  have hb':=hb s us I.kIn hl
  rw[List.append_nil] at hb'
  refine wpAny_call (codeAny_mono (F.run X.A X.stack s H ⟨us,[]⟩ us vs Q E hr I.env0 hb' r h) fun r s' hq=>?_)
  cases r with
  | error e=>exact hx pins H s e s' I hq
  | ok fl =>
    cases fl with
    | ret u=>exact I.after hq
    | next=>exact False.elim hq
    | brk=>exact False.elim hq
    | cont=>exact False.elim hq
theorem Br{f:Expr->Option D}{g:Expr->Option Str}{c:Str}(hf:∀ e d,f e=some d->Ev X ρ e d)(hg:∀ e c,g e=some c->EvX X ρ e c):∀ {es:List Expr},(∀ e∈es,aB e=true)->wK f g es=some c->VG X ρ es c
  | [],_,h=>by simp[wK] at h
  | e :: es, hp, h => by
    simp only[wK] at h
    intro σ H Hs E hs hst hE hx Q
    refine(bf aq cT (ao (hp e (by simp)))).sem ?_
    cases he:f e with
    | some d =>
      rw[he] at h
      exact hf e d he σ H Hs _ hs hst fun v H1 Hs1 E1 _=>Br hf hg (fun e' h'=>hp e' (List.mem_cons_of_mem _ h')) h σ H1 Hs1 E E1.sub (hst.same E1.vis) (hE.step E1) hx _
    | none =>
      rw[he] at h
      exact hg e c h σ H Hs E hs hst hE hx _
theorem zj{f:Str}{es:List Expr}{c:Str}{p pos:Pos}(G:Good cx k X sc)(hg:Gl X f)(hf:cx.fns.contains f=true)(hne:es≠[])(hp:∀ e∈es,aB e=true)(h:VG X ρ es c\/∃ ds,EvA X ρ es ds/\cx.callx f ds=some c) :
    EvX X ρ (.Call (.Name f p) es [] pos) c:=by
  obtain⟨hdb,a,fd,ps,_,har,hm,hk,hb,F⟩:=G.fns f hf
  cases es with
  | nil=>exact absurd rfl hne
  | cons e es =>
    intro σ H Hs E hs hst hE hx Q pins s I
    refine wpAny_Call_Name_kw (jy I hg hm ?_ hdb)
    refine PySem.W.callWith_K (h₀:=X.base) I.ok.mod.kin hk ?_ (ao (hp e (by simp))) (fD fun e' he=>hp e' (List.mem_cons_of_mem _ he))
    rcases h with h | ⟨ds,hA,hc⟩
    · exact thn (h σ H Hs E hs hst hE hx (fun _ _=>False) pos pins s I) fun us s1 ⟨vs,H1,I1,r,q⟩=>q.elim
    · refine thn (hA σ H Hs (fun vs H1=>∃ Hs1,Ext Hs H Hs1 H1/\aM X.K Hs1 ds vs) hs hst (fun vs H1 Hs1 E1 r1=>⟨Hs1,E1,r1⟩) pos pins s I) fun us s1 ⟨vs,H1,I1,r,Hs1,E1,r1⟩=>⟨I1.kIn,?_⟩
      exact Cr F G.room hb hx I1 r ⟨by rw[<- r1.length,har ds c hc],Hs1,ds,E1.sub,r1,.inr ⟨c,hc,hE.step E1⟩⟩
theorem Fe{x:Str}{a:Expr}{k':Keyword}{c:Str}{p pos:Pos}(G:Good cx k X sc)(hx:bx cx sc x=some "max")(hk:(Ro k').isSome=true)(h:EvX X ρ a c)(hp:aB a=true):EvX X ρ (.Call (.Name x p) [a] [k'] pos) c:=by
 obtain⟨hg,hm,rfl⟩:=bQ G hx
 obtain⟨ka,kv,kp⟩:=k'
 obtain⟨i,hi⟩:=Option.isSome_iff_exists.mp hk
 unfold Ro at hi
 split at hi
 ·rename_i q
  have e:ka=some "default":=by simpa using q
  subst e
  intro σ H Hs E hs hst hE hx Q pins s I
  have he:starEach [a] X.env=(false,eval a X.env)::starEach [] X.env:=ao hp
  have hbt:backTo pos (starEach [a] X.env)=(false,eval a X.env)::backTo pos (starEach [] X.env):=by rw[he];rfl
  refine wpAny_Call_Name_kw (eX (u:=.builtin "max") I hg hm (by decide +kernel) ?_ (by decide) (by decide))
  refine PyProof.Rows.callWith_kw ?_ hbt (by rw[hbt];rfl) rfl rfl
  exact thn (bf aq cL he pos pins s σ H (fun _ _=>False) I (h σ H Hs E hs hst hE hx _)) fun us s1 ⟨vs,H1,I1,r,q⟩=>q.elim
 ·cases hi
theorem jF(cx:Cxt):∀ (n:Nat) {k:Nat} {X:Cx} {sc:Scope} {ρ:Rho} {e:Expr} {c:Str},Good cx k X sc->X.N=ρ.map (·.1)->evx cx n sc ρ e=some c->EvX X ρ e c
  | 0,k,X,sc,ρ,e,c,_,_,h=>by exact nomatch (show(Option.none:Option Str)=some c from h)
  | n + 1, k, X, sc, ρ, e, c, G, hN, h => by
    have ih:∀ e d,ev cx n sc ρ e=some d->Ev X ρ e d/\∀ b,d=.bl b->EvT X ρ e b:=fun e d h=>cU cx n G hN h
    simp only[evx] at h
    split at h
    · rename_i x p args pos
      split at h
      · rename_i hc
        simp only[Bool.and_eq_true] at hc
        obtain⟨⟨⟨hgl,hne⟩,hpl⟩,hfn⟩:=hc
        have hg:Gl X x:=by
          have e:sc.names.lookup x=some .globalImplicit:=by unfold mJ at hgl;simpa using hgl
          show X.env.scope.names.lookup x=_
          rw[G.sce,e]
        have hp:∀ e∈args,aB e=true:=fun e he=>List.all_eq_true.mp hpl e he
        refine zj G hg hfn (fun q=>by rw[q] at hne;exact absurd hne (by decide)) hp ?_
        split at h
        · rename_i ds hds
          exact .inr ⟨ds,(eO (fun e _ d hd=>⟨(ih e d hd).1,aX hd⟩) hds).1,h⟩
        · exact .inl (Br (fun e d h=>(ih e d h).1) (fun e c h=>jF cx n G hN h) hp h)
      · cases h
    · simp at h
    · rename_i x p a k' pos
      split at h
      · rename_i hc
        simp only[Bool.and_eq_true] at hc
        obtain⟨⟨h1,h2⟩,h3⟩:=hc
        exact Fe G (by simpa using h1) h2 (jF cx n G hN h) h3
      · cases h
    · rename_i cc a b pos
      split at h
      · rename_i hc
        have hc':=(ih _ _ (eU hc)).2 _ rfl
        have ha:=jF cx n G hN h
        intro σ H Hs E hs hst hE hx Q
        exact(lQ dW aq aq).sem (hc' σ H Hs _ hs hst fun H1 Hs1 E1=>tR (ha σ H1 Hs1 E E1.sub (hst.same E1.vis) (hE.step E1) hx Q))
      · rename_i hc
        have hc':=(ih _ _ (eU hc)).2 _ rfl
        have ha:=jF cx n G hN h
        intro σ H Hs E hs hst hE hx Q
        exact(lQ dW aq aq).sem (hc' σ H Hs _ hs hst fun H1 Hs1 E1=>vH (ha σ H1 Hs1 E E1.sub (hst.same E1.vis) (hE.step E1) hx Q))
      · cases h
    · rename_i elt tg iter ifs a scope pos
      split at h
      · rename_i hc
        simp only[Bool.and_eq_true] at hc
        obtain⟨⟨ha,hok⟩,hp⟩:=hc
        have ea:a=0:=by simpa using ha
        subst ea
        obtain⟨ok1,ok2,ok3⟩:=cP G hok
        have hi:=jF cx n G hN h
        intro σ H Hs E hs hst hE hx Q
        refine PE.sem (jr G.calm ok1 ok2 ok3 iG (fun Xc C=>⟨fW,eH,aq⟩) (cX hp)) ?_
        intro pins s I
        exact thn (hi σ H Hs E hs hst hE hx (fun _ _=>False) pins s I) fun v s1 ⟨_,_,_,_,q⟩=>q.elim
      · cases h
    · cases h
end
end L2
namespace L2
open PySem PySem.Spec PyProof.Rows PySem.SeqAt
open DE hiding st
section
variable {X:Cx} {ρ:Rho} {cx:Cxt} {k F:Nat} {sc scope:Scope} {Hs0 H0:Hp} {e:Expr} {d:D}
theorem vg{n:Nat}{lnm y:Str}{p1 p2 p3:Pos}{v:D}(h:ev cx n sc ρ (.Call (.Name lnm p1) [.Name y p2] [] p3)=some v)(hb:bx cx sc lnm=some "list"):∃ m d es,ev cx m sc ρ (.Name y p2)=some d/\items d=some es/\v=.lst es:=by
  cases n with
  | zero=>exact nomatch (show(Option.none:Option D)=some v from h)
  | succ n =>
    unfold bx at hb
    split at hb
    · rename_i hg
      have hw:GF cx sc "list" [Expr.Name y p2]=.al:=rfl
      simp only[ev,hg,if_true,hb,hw,List.isEmpty_cons,Bool.false_eq_true,if_false] at h
      obtain⟨ds,h1,h2⟩:=aP h
      simp only[jX] at h1
      obtain⟨d',g1,g2⟩:=aP h1
      obtain⟨_,g3,g4⟩:=aP g2
      cases g3
      cases g4
      obtain⟨es,g5,g6⟩:=aP (show(items d' >>=fun l=>some (D.lst l))=some v from h2)
      cases g6
      exact⟨n,d',es,g1,g5,rfl⟩
    · cases hb
theorem Af{n:Nat}{es:List D}(G:Good cx k X sc)(hN:X.N=ρ.map (·.1))(ho:Kc cx sc e=true)(he:ev cx n sc ρ e=some (.lst es)):Kq X ρ e es:=by
  unfold Kc at ho
  split at ho
  · rename_i lnm p1 y p2 p3
    simp only[Bool.and_eq_true] at ho
    obtain⟨⟨q2,q3⟩,q5⟩:=ho
    have hb:bx cx sc lnm=some "list":=by simpa using q2
    obtain⟨m,d',es',g1,g2,g3⟩:=vg he hb
    cases g3
    obtain⟨hg,hm,rfl⟩:=bQ G hb
    intro σ H Hs Q hs hst hq
    refine(gF (iJ (X:=X)) hg hm (by decide +kernel) (bf aq cL (ao rfl)) (by decide) (by decide) (ao rfl) rfl).sem ?_
    refine(cU cx m G hN g1).1 σ H Hs _ hs hst fun v H7 Hs7 E7 r7=>?_
    obtain⟨q,us,rfl,k1,k2⟩:=ji r7 g2
    exact⟨q,us,rfl,k1.imp E7.sub.seq E7.sub.tup,fun b hb7=>hq b us Hs7 _ (Ext.acc E7 (E7.all.free hb7) (E7.sub.free hb7)) (E7.all.free hb7) (E7.sub.free hb7) aW k2⟩
  · cases n with
    | zero=>exact nomatch (show(Option.none:Option D)=some _ from he)
    | succ n =>
      obtain⟨tg,iter,ifs,l,out,rfl,hok,hI,hp,hz,hgo,e1,hE⟩:=jL G hN he
      cases e1
      obtain⟨ok1,ok2,ok3⟩:=cP G hok
      intro σ H Hs Q hs hst hq
      exact(jr G.calm ok1 ok2 ok3 iG (fun Xc C=>⟨fW,eH,aq⟩) (cX hp)).sem (jK G hN hok hI hz hgo hE hs hst hq)
  · cases ho
theorem FW{tg iter elt:Expr}{l:List D}{dss:List (List D)}(G:Good cx k X sc)(hN:X.N=ρ.map (·.1))(hok:fY sc scope=true)(hI:EvI X ρ tg iter l)(hz:szl l.length=true)(hlen:dss.length=l.length)
  (hs1:∀ Xc,CompOf X scope Xc->∀ (i:Nat) d,l[i]?=some d->∃ ρ1 es,fP scope tg d (bI scope ρ)=some ρ1/\dss[i]?=some es/\(Xc.N=ρ1.map (·.1)->Kq Xc ρ1 elt es))
  {σ:St} {H Hs:Hp} {Q:VK} (hs:Same Hs H) (hst:cH X.K Hs ρ σ) (hq:∀ a bs Hs' H',Ext Hs H Hs' H'->OO X.K H Hs' H' a bs dss->Q (.ref a) H') :
  o8 X scope (oZ X tg iter) (pF X.N scope.names) (fun Xc=>yP Xc tg) (fun Xc=>pN Xc []) (fun Xc=>mH Xc elt) σ H Q:=by
 obtain⟨ok1,ok2,ok3⟩:=cP G hok
 refine hI σ H Hs _ hs hst fun J H1 Hs1 E1 hJ acc hacc Xc C=>?_
 have GC:=G.comp C hok
 have OC:=Owns.comp (scope:=scope) G C
 have hNc:∀ ρ1:Rho,ρ1.map (·.1)=scope.names.map (·.1)->Xc.N=ρ1.map (·.1):=fun ρ1 h=>by rw[C.N,h]
 have a1:Hs1 acc=none:=E1.sub.free hacc
 have a0:H acc=none:=E1.all.free hacc
 let W:Nat->Nat->St->Hp->Prop:=fun i m σc H3=>m=l.length-i/\i<=l.length/\∃ Hs3 bs,Ext Hs1 H1 Hs3 H3/\OO X.K H Hs3 H3 acc bs (dss.take i)/\σc.length=scope.names.length/\cH X.K Hs3 (bI scope ρ) σc
 refine⟨W,⟨l.length,rfl,Nat.zero_le _,Hs1,[],Ext.acc (.refl E1.sub) hacc a1,⟨aW,a1,a0,.nil,by simp,by simp,fun j b e=>by simp at e⟩,by simp[pF],jM hN (hst.same E1.vis)⟩,?_⟩
 rintro i m σc H3 ⟨rfl,hi,Hs3,bs,E3,o3,l3,s3⟩
 obtain⟨st3,go3⟩:=hJ Hs3 H3 E3.vis E3.sub
 by_cases hlt:i<l.length
 ·have hd:l[i]?=some l[i]:=List.getElem?_eq_getElem hlt
  obtain⟨gi,yi⟩:=go3 i l[i] hd
  refine .inr ⟨gi,fun σ' H'=>W (i+1) (l.length-(i+1)) σ' H',fun σ' H' w=>⟨_,by omega,w⟩,fun x H4 y4=>?_⟩
  obtain⟨Hs4,E4,rx⟩:=yi x H4 y4
  obtain⟨ρ1,es,k1,k4,kO⟩:=hs1 Xc C i l[i] hd
  have s4:cH X.K Hs4 (bI scope ρ) σc:=s3.same E4.vis
  have KE:=kW (K:=Xc.K) (Hs:=Hs4) (ρ:=ρ) (n:=scope.names.length) ok2 rfl
  refine pU (X:=Xc) (scope:=scope) (Hs:=Hs4) GC.calm OC GC.nd E4.sub (hNc _ dB) KE k1 ⟨dB,l3,by rw[C.K];exact s4,by rw[C.K];exact s4⟩ (by rw[C.K];exact rx) fun σ5 hN5 p5=>?_
  obtain⟨_,l5,s5,s5'⟩:=p5
  refine Bg (f:=fun _=>none) (ifs:=[]) (b:=true) (fun _ _ h=>nomatch h) rfl E4.sub s5 fun H6 Hs6 E6=>tR ?_
  have E46:=E4.trans E6
  have o6:=o3.step E46
  have E16:Ext Hs1 H1 Hs6 H6:=E3.trans E46
  refine kO hN5 σ5 H6 Hs6 _ E6.sub (s5.same E6.vis) fun b us Hs7 H7 E7 hb6 hbs hb7 g2=>?_
  have o7:=o6.step E7
  have E17:Ext Hs1 H1 Hs7 H7:=E16.trans E7
  have ne:acc≠b:=fun w=>by have:=o6.1;rw[w,hb6] at this;cases this
  refine⟨bs.map V.ref,o7.1,?_,rfl,hlt,Hs7,bs++[b],?_,?_,l5,?_⟩
  ·have:=qw hz
   have:=o7.2.2.2.2.2.1
   rw[List.length_map,this,List.length_take]
   omega
  ·exact Ext.acc E17 hacc o7.2.1
  ·have b0:H b=none:=E1.all.free (E16.all.free hb6)
   have ln:=o7.2.2.2.2.2.1
   have old:∀ (j:Nat) b',bs[j]?=some b'->b'≠b/\b'≠acc:=fun j b' e=>by
    obtain⟨_,_,_,_,_,m4,_⟩:=o6.2.2.2.2.2.2 j b' e
    refine⟨fun w=>?_,fun w=>o6.2.2.2.2.1 (by rw[<- w];exact List.mem_of_getElem? e)⟩
    rw[w,hb6] at m4
    cases m4
   refine⟨by rw[aW,List.map_append];rfl,o7.2.1,o7.2.2.1,?_,?_,?_,fun j b' e=>?_⟩
   ·rw[List.nodup_append]
    refine⟨o7.2.2.2.1,by simp,fun x' hx' y' hy'=>?_⟩
    obtain⟨j,e⟩:=List.mem_iff_getElem?.mp hx'
    rw[List.mem_singleton.mp hy']
    exact(old j x' e).1
   ·rw[List.mem_append,not_or]
    exact⟨o7.2.2.2.2.1,by simpa using ne⟩
   ·rw[List.length_append,ln,List.length_take,List.length_take,List.length_singleton]
    omega
   ·by_cases hj:j<bs.length
    ·rw[List.getElem?_append_left hj] at e
     obtain⟨m1,m2,ds,ws,m3,m4,m5⟩:=o7.2.2.2.2.2.2 j b' e
     obtain⟨n1,n2⟩:=old j b' e
     refine⟨m1,m2,ds,ws,?_,by rw[aO n2];exact m4,m5⟩
     rw[ln,List.length_take] at hj
     rw[List.getElem?_take] at m3 ⊢
     rw[if_pos (by omega)] at m3 ⊢
     exact m3
    ·rw[List.getElem?_append_right (by omega)] at e
     have ej:j-bs.length=0:=by
      rcases Nat.eq_zero_or_pos (j-bs.length) with z | z
      ·exact z
      ·rw[List.getElem?_eq_none (by simp;omega)] at e;cases e
     rw[ej] at e
     have eb:b=b':=by simpa using e
     subst eb
     have jl:j=i:=by
      rw[ln,List.length_take] at hj ej
      omega
     subst jl
     refine⟨hbs,b0,es,us,?_,by rw[aO (Ne.symm ne)];exact hb7,by rw[<- C.K];exact g2⟩
     rw[List.getElem?_take,if_pos (by omega)]
     exact k4
  ·rw[<- C.K]
   exact s5'.same (E6.trans E7).vis
 ·have hi':i=l.length:=by omega
  subst hi'
  refine .inl ⟨st3,hq acc bs Hs3 H3 (E1.trans E3) ?_⟩
  rw[<- hlen,List.take_length] at o3
  exact o3
theorem OO.low{K:PySem.W.Frag}{H0 H1 Hs H:Hp}{a:Addr}{bs:List Addr}{dss:List (List D)}(h:OO K H1 Hs H a bs dss)(q:∀ b,H1 b=none->H0 b=none):OO K H0 Hs H a bs dss:=by
 obtain⟨h1,h2,h3,h4,h5,h6,h7⟩:=h
 refine⟨h1,h2,q _ h3,h4,h5,h6,fun j b e=>?_⟩
 obtain⟨k1,k2,k3⟩:=h7 j b e
 exact⟨k1,q _ k2,k3⟩
theorem qQ:∀ {ds:List D} {dss:List (List D)},Aq ds=some dss->dss.length=ds.length/\∀ (i:Nat) d,ds[i]?=some d->∃ es,d=.lst es/\dss[i]?=some es
  | [],dss,h=>by cases h;exact⟨rfl,fun i d e=>by simp at e⟩
  | d :: ds, dss, h => by
    cases d with
    | lst es =>
      simp only[Aq,Option.map_eq_some_iff] at h
      obtain⟨r,h1,rfl⟩:=h
      obtain⟨g1,g2⟩:=qQ h1
      refine⟨by simp[g1],fun i d e=>?_⟩
      cases i with
      | zero=>simp at e;subst e;exact⟨es,rfl,rfl⟩
      | succ i=>exact g2 i d (by simpa using e)
    | _=>simp[Aq] at h
theorem kZ{f:D->Option (Option D)}:∀ {l out:List D},(∀ d∈l,f d≠some none)->bK f l=some out->out.length=l.length/\∀ (i:Nat) d,l[i]?=some d->∃ v,f d=some (some v)/\out[i]?=some v
  | [],out,_,h=>by cases h;exact⟨rfl,fun i d e=>by simp at e⟩
  | d :: l, out, hn, h => by
    rcases jP h with⟨v,o',f1,f2,rfl⟩ | ⟨f1,_⟩
    · obtain⟨g1,g2⟩:=kZ (fun d hd=>hn d (List.mem_cons_of_mem _ hd)) f2
      refine⟨by simp[g1],fun i d e=>?_⟩
      cases i with
      | zero=>simp at e;subst e;exact⟨v,f1,rfl⟩
      | succ i=>exact g2 i d (by simpa using e)
    · exact absurd f1 (hn d List.mem_cons_self)
theorem K6{x:Str}{px pos:Pos}{dss:List (List D)}(G:GoodS cx k X sc)(hN:X.N=ρ.map (·.1))(hx:ownIn sc x=true)(hc:(ρ.map (·.1)).contains x=true)(hoo:ooE cx sc e=true)(hon:nA (frz F e ρ) x=true)(he:ev cx F sc (frz F e ρ) e=some d)(hd:yF d=some dss) :
    Runs X Hs0 H0 ρ (.nxt (cC (frz F e ρ) x (.oo dss))) (gZ X (.Assign [.Name x px] e pos)):=by
  obtain⟨ox,of⟩:=G.own.own x hx
  have hN':X.N=(frz F e ρ).map (·.1):=by rw[aH];exact hN
  unfold ooE at hoo
  split at hoo
  · rename_i elt y' pt iter a0 scope p4
    cases F with
    | zero=>exact nomatch (show(Option.none:Option D)=some d from he)
    | succ F =>
      obtain⟨tg,iter',ifs,l,out,hg,hok,hI,hp,hz,hgo,rfl,hE⟩:=jL G.good hN' he
      cases hg
      obtain⟨ok1,ok2,ok3⟩:=cP G.good hok
      intro σ H Hs D h _ hn hr
      obtain⟨i,hi⟩:=bw hc
      obtain⟨Hs1,sm1,h1⟩:=h.frozen (F+1) (.ListComp elt [⟨.Name y' pt,iter,[],0⟩] scope p4)
      generalize hρ:frz (F+1) (.ListComp elt [⟨.Name y' pt,iter,[],0⟩] scope p4) ρ=ρ' at *
      have nm:ρ'.map (·.1)=ρ.map (·.1):=by rw[<- hρ,aH]
      have hf:∀ d o,n6 cx F sc scope ρ' (.Name y' pt) elt [] d=some o->∃ ρ1 v,fP scope (.Name y' pt) d (bI scope ρ')=some ρ1/\ev cx F (jU scope sc) ρ1 elt=some v/\o=some v:=fun d o h=>by
        obtain⟨ρ1,h1,h⟩:=aP h
        obtain⟨b,h2,h⟩:=aP h
        cases h2
        simp only[if_true,Option.map_eq_some_iff] at h
        obtain⟨v,h3,h4⟩:=h
        exact⟨ρ1,v,h1,h3,h4.symm⟩
      obtain⟨n1,n2⟩:=kZ (fun d _ h=>by obtain⟨_,_,_,_,h⟩:=hf d _ h;cases h) hgo
      obtain⟨m1,m2⟩:=qQ (show Aq out=some dss from hd)
      have hnd:(ρ'.map (·.1)).Nodup:=by rw[nm,<- hN];exact G.good.nd
      have hi':X.N[i]?=some x:=by rw[hN];exact hi
      have rd:o8 X scope (oZ X (.Name y' pt) iter) (pF X.N scope.names) (fun Xc=>yP Xc (.Name y' pt)) (fun Xc=>pN Xc []) (fun Xc=>mH Xc elt) σ H (fun v H1=>D.nx (σ.set i (some v)) H1):=by
        refine FW (dss:=dss) G.good hN' hok hI hz (by rw[m1,n1]) (fun Xc C j dd hj=>?_) h1.ext.sub h1.sh fun a bs Hs' H' E o=>?_
        · obtain⟨v,f1,f2⟩:=n2 j dd hj
          obtain⟨ρ1,v',b1,b2,b3⟩:=hf dd _ f1
          cases b3
          obtain⟨es',g3,g4⟩:=m2 j v f2
          subst g3
          exact⟨ρ1,es',b1,g4,fun hN1=>Af (G.good.comp C hok) hN1 hoo b2⟩
        · exact hn _ _ Hs' H' rfl (sm1.trans E.vis) (by rw[au,nm];exact hN) ((h1.step E).own2 hnd (by rw[nm];exact hi) (o.low fun b q=>h1.ext.all.free q) (yw hnd (by rw[nm];exact hi) hon))
      cases hsw:(X.env.blockKind==.function&&X.env.kindOf x==some .local&&px.line==p4.line && !(scope.names.any fun(n,k)=>n==x&&(k==.local||k==.cell))) with
      | true =>
        have e1:swapsWith (.ListComp elt [⟨.Name y' pt,iter,[],0⟩] scope p4) (some (.Name x px)) pos.line X.env=pure true:=by rw[<- hsw];rfl
        rw[Bool.and_eq_true,Bool.and_eq_true,Bool.and_eq_true] at hsw
        have hl:X.env.scope.names.lookup x=some .local:=by simpa[Env.kindOf] using hsw.1.1.2
        exact PS.sem (uK G.good.nd hi' hl G.good.calm ok1 ok2 ok3 iG (fun Xc C=>⟨fW,eH,aq⟩) (cX hp) e1) rd
      | false =>
        have e1:swapsWith (.ListComp elt [⟨.Name y' pt,iter,[],0⟩] scope p4) (some (.Name x px)) pos.line X.env=pure false:=by rw[<- hsw];rfl
        exact PS.sem (jo G.good.nd hi' ox (jr G.good.calm ok1 ok2 ok3 iG (fun Xc C=>⟨fW,eH,aq⟩) (cX hp)) e1 of) rd
  · cases hoo
theorem jq{o i:Expr}{pos:Pos}{env:Env}(h:aB i=true):∀ v,assign (.Subscript o i pos) env v=(do
      let ov <- holding [v] (eval o env)
      let iv <- holding [v,ov] (eval i env)
      standAt pos
      holding [v,ov,iv] (setItem ov iv v)
      release [v,ov,iv] []):=by
  intro v
  cases i<;>first | rfl | (exact absurd h (by simp[aB]))
theorem aM.set{K:PySem.W.Frag}{H:Hp}{d:D}{v:V}(hv:Rep K H d v):∀ {ds:List D} {vs:List V} (n:Nat),aM K H ds vs->aM K H (ds.set n d) (vs.set n v)
  | [], vs, n, h => by
    have:vs=[]:=by simpa[aM] using h
    subst this
    simpa[aM] using h
  | e :: ds, vs, n, h => by
    simp only[aM] at h
    obtain⟨w,r,rfl,h1,h2⟩:=h
    cases n with
    | zero=>exact .cons hv h2
    | succ n=>exact .cons h1 (aM.set hv n h2)
theorem uF{tg:Expr}{l:Nat}{env:Env}(he:ev cx F sc ρ e=some d)(hc:aY e=false):swapsWithSole [tg] e l env=pure false:=by
 show swapsWith e (some tg) l env=pure false
 exact fB he fun a b c p q=>by rw[q] at hc;cases hc
theorem mW{o i:Expr}{pos:Pos}{env:Env}:swappedStores [.Subscript o i pos] e env=pure none:=by
 cases e<;>rfl
theorem Ci{x:Str}{i1 i2:Expr}{dss:List (List D)}{ds:List D}{j1 j2:Int}{n1 n2:Nat}{px tp tp2 pos:Pos}(G:GoodS cx k X sc)(hN:X.N=ρ.map (·.1))(hx:ρ.lookup x=some (.oo dss))(ho:ownIn sc x=true)(hp:aA x=true)(hfr:aY e=false)
  (q1:ev cx F sc (frz F e ρ) e=some d) (q2:ev cx F sc (frz F i1 ρ) i1=some (.int j1)) (q3:ixD dss.length j1=some n1) (q4:dss[n1]?=some ds) (q5:ev cx F sc (frz F i2 ρ) i2=some (.int j2)) (q6:ixD ds.length j2=some n2) (q7:vQ d=true) :
  Runs X Hs0 H0 ρ (.nxt (cC ρ x (.oo (dss.set n1 (ds.set n2 d))))) (gZ X (.Assign [.Subscript (.Subscript (.Name x px) i1 tp) i2 tp2] e pos)):=by
 have hNf:∀ e,X.N=(frz F e ρ).map (·.1):=fun e=>by rw[aH];exact hN
 obtain⟨i,hi,_⟩:=cg hx
 have nd:(ρ.map (·.1)).Nodup:=by rw[<- hN];exact G.good.nd
 intro σ H Hs D h _ hn hr
 obtain⟨⟨ad,bs,k1,k2⟩,_⟩:=h.oo i x dss hi
 unfold aA at hp
 rw[Bool.and_eq_true,bne_iff_ne,bne_iff_ne] at hp
 have vis:Vis X.env.scope x:=(G.own.own x ho).1.elim .inl fun q=>.inr (.inl q)
 have hNi:X.N[i]?=some x:=by rw[hN,List.getElem?_map,hi];rfl
 have pv:∀ {pp:Pos},PE X (.Name x pp) (GZ i):=fun {pp}=>gD hNi vis (by simpa using hp.1) (by simpa using hp.2)
 have ll:=k2.2.2.2.2.2.1
 have nlt:n1<bs.length:=by
  rw[ll]
  exact(List.getElem?_eq_some_iff.mp q4).1
 obtain⟨b,hb⟩:∃ b,bs[n1]?=some b:=⟨_,List.getElem?_eq_getElem nlt⟩
 refine PS.sem (qM aq (uQ (yq pL pv aq (gC (aX q2))) aq set_list (jq (aX q5))) (uF q1 hfr) mW rfl) ?_
 obtain⟨Hs1,sm1,shp,h1⟩:=h.frozen2 F e
 refine(cU cx F G.good (hNf e) q1).1 σ H Hs1 _ h1.ext.sub h1.sh fun v1 H1 Hs4 E1 r1=>?_
 obtain⟨Hs7,B1,r1'⟩:=nU h.ext.sub sm1 shp E1 q7 r1
 have hB1:=h.step B1
 obtain⟨Hs2,sm2,h2⟩:=hB1.frozen F i1
 refine⟨.ref ad,k1,(cU cx F G.good (hNf i1) q2).1 σ H1 Hs2 _ h2.ext.sub h2.sh fun v2 H2 Hs5 E2 r2=>?_⟩
 have B2:Ext Hs7 H1 Hs7 H2:=⟨.refl _,E2.all,hB1.ext.sub.trans E2.all,fun _ _ _ h=>h⟩
 have hB2:=hB1.step B2
 have o2:=(k2.step B1).step B2
 refine⟨ad,bs.map V.ref,j1,.ref b,rfl,aG r2,.of o2.1,?_,?_⟩
 ·unfold atI
  rw[List.length_map,ll,<- nO,q3]
  show(bs.map V.ref)[n1]?=_
  rw[List.getElem?_map,hb];rfl
 obtain⟨Hs3,sm3,h3⟩:=hB2.frozen F i2
 refine(cU cx F G.good (hNf i2) q5).1 σ H2 Hs3 _ h3.ext.sub h3.sh fun v3 H3 Hs6 E3 r3=>?_
 have B3:Ext Hs7 H2 Hs7 H3:=⟨.refl _,E3.all,hB2.ext.sub.trans E3.all,fun _ _ _ h=>h⟩
 have o3:=o2.step B3
 obtain⟨m1,m2,ds',us,m3,m4,m5⟩:=o3.2.2.2.2.2.2 n1 b hb
 rw[q4] at m3
 cases m3
 have nab:ad≠b:=fun w=>o3.2.2.2.2.1 (by rw[w];exact List.mem_of_getElem? hb)
 refine⟨b,us,j2,n2,rfl,aG r3,m4,by rw[<- m5.length,<- nO];exact q6,?_⟩
 refine hn _ _ Hs7 _ rfl B1.vis (by rw[au];exact hN) ((hB2.step B3).app2 nd hi k1 m1 m2 (bs':=bs) ⟨by rw[aO nab];exact o3.1,o3.2.1,o3.2.2.1,o3.2.2.2.1,o3.2.2.2.2.1,by rw[List.length_set];exact o3.2.2.2.2.2.1,fun jj b' e=>?_⟩)
 by_cases hjj:n1=jj
 ·subst hjj
  rw[hb] at e
  cases e
  refine⟨m1,m2,ds.set n2 d,us.set n2 v1,?_,aW,aM.set r1' n2 m5⟩
  rw[List.getElem?_set,if_pos rfl,if_pos (by rw[<- ll];exact nlt)]
 ·obtain⟨m1',m2',ds',us',m3',m4',m5'⟩:=o3.2.2.2.2.2.2 jj b' e
  refine⟨m1',m2',ds',us',?_,?_,m5'⟩
  ·rw[List.getElem?_set,if_neg hjj];exact m3'
  ·rw[aO]
   ·exact m4'
   ·intro w
    rw[w] at e
    exact hjj ((List.getElem?_inj nlt o3.2.2.2.1).mp (hb.trans e.symm))
end
end L2
namespace L2
open PySem PySem.Spec PyProof.Rows PySem.SeqAt
open DE hiding st
section
variable {X:Cx} {pos:Pos}
def KN(i j l:Nat)(ta:TA):TS:=fun D σ H=>ta σ H fun vs H1=>∃ v w u,vs=[v,w,u]/\D.nx (((σ.set i (some v)).set j (some w)).set l (some u)) H1
theorem CQ{i j l:Nat}{x y z:Str}{a b c:Expr}{ta:TA}{px py pz pt:Pos}{kt k2 pt2}(hc:X.calm=true)(hN:X.N.Nodup)(hi:X.N[i]?=some x)(hj:X.N[j]?=some y)(hl:X.N[l]?=some z)(hij:i≠j)(hil:i≠l)(hjl:j≠l)
  (hx:X.env.scope.names.lookup x=some .local) (hy:X.env.scope.names.lookup y=some .local) (hz:X.env.scope.names.lookup z=some .local) (ha:PA X [a,b,c] ta)
  (hw:swappedStores [.Tuple [.Name x px,.Name y py,.Name z pz] kt pt] (.Tuple [a,b,c] k2 pt2) X.env=pure (some [x,y,z]))
  (hs:swapsWithSole [.Tuple [.Name x px,.Name y py,.Name z pz] kt pt] (.Tuple [a,b,c] k2 pt2) pos.line X.env=pure false:=by rfl) :
  PS X (.Assign [.Tuple [.Name x px,.Name y py,.Name z pz] kt pt] (.Tuple [a,b,c] k2 pt2) pos) (KN i j l ta):=by
 intro pins s σ H D I h
 rw[exec_Assign_arm]
 refine wpAny_bind (wpAny_standAt ?_)
 rw[hs]
 refine wpAny_bind (wpAny_pure ?_)
 rw[if_neg (by decide)]
 refine wpAny_bind (Tuple_ (thn (ha _ pins s σ H _ I h) fun us s1 ⟨vs,H1,I1,r1,q1⟩=>?_))
 obtain⟨v,w,u,e1,q1⟩:=q1
 subst e1
 obtain⟨u1,w1,rfl,rv,r2⟩:=gW r1
 obtain⟨u2,w2,rfl,rw',r3⟩:=gW r2
 obtain⟨u3,w3,rfl,ru,r4⟩:=gW r3
 cases r4
 refine wpAny_newObj_type ?_ (by show 3<=sizeLine;decide)
 have I2:Inv X pins σ H1 { s1 with heap:=s1.heap.push { cls:=.type "tuple",data:=.seq [u1,u2,u3].toArray } }:=I1.kept (t':=s1.toks) fun b o e=>Heap.get?_push_of_some _ e
 rw[hw]
 refine wpAny_bind (wpAny_pure ?_)
 show wpAny (model X.prog X.w) X.A (do rule "assign.swapped-stores";let items <- unpackItems (.ref s1.heap.objs.size) 3 none;assignInOrder [fun v=>bindName X.env z v,fun v=>bindName X.env y v,fun v=>bindName X.env x v] items.reverse;pure Flow.next) _ _ _
 refine wpAny_bind (wpAny_rule (wpAny_bind (unpackItems_tuple (items := #[u1,u2,u3]) (I.ok.hd hc) (IsTup.new s1.heap _) fun h' hx'=>?_)))
 have I3:=I2.kept (h':=h') (t':=s1.toks) fun b o e=>hx' b o (Nat.ne_of_lt (Heap.lt_size e)) e
 show wpAny _ _ (assignInOrder [fun v=>bindName X.env z v,fun v=>bindName X.env y v,fun v=>bindName X.env x v] [u3,u2,u1] >>=fun _=>pure Flow.next) _ _ _
 refine wpAny_bind (assignInOrder_cons (wpAny_bindName (dU I3 hN hl (.inl hz) ru (fun s2 I4=>?_) (.inr hz))))
 refine assignInOrder_cons (wpAny_bindName (dU I4 hN hj (.inl hy) rw' (fun s3 I5=>?_) (.inr hy)))
 refine assignInOrder_cons (wpAny_bindName (dU I5 hN hi (.inl hx) rv (fun s4 I6=>assignInOrder_nil (wpAny_pure ?_)) (.inr hx)))
 have e:((σ.set l (some u)).set j (some w)).set i (some v)=((σ.set i (some v)).set j (some w)).set l (some u):=by
  rw[List.set_comm _ _ (Ne.symm hjl),List.set_comm _ _ (Ne.symm hil),List.set_comm _ _ (Ne.symm hij)]
 rw[e] at I6
 exact⟨_,H1,I6,q1⟩
end
section
variable {X:Cx} {ρ:Rho} {cx:Cxt} {k F:Nat} {sc scope:Scope} {Hs0 H0:Hp} {e:Expr} {d:D}
theorem G9{es:List Expr}{l:List D}{ρ':Rho}{kt:Nat}{pt pos:Pos}(G:GoodS cx k X sc)(hN:X.N=ρ.map (·.1))(hs:(swp sc es e).isSome=true)(he:ev cx F sc (frz F e ρ) e=some d)(hl:items d=some l)(hb:bindNames sc es l (frz F e ρ)=some ρ') :
    Runs X Hs0 H0 ρ (.nxt ρ') (gZ X (.Assign [.Tuple es kt pt] e pos)):=by
  have hN':X.N=(frz F e ρ).map (·.1):=by rw[aH];exact hN
  obtain⟨b,hb'⟩:=Option.isSome_iff_exists.mp hs
  cases b with
  | false =>
    have hw:=G5 (kt:=kt) (pt:=pt) G.good hb'
    have hso:swapsWithSole [.Tuple es kt pt] e pos.line X.env=pure false:=by
      show swapsWith e (some (.Tuple es kt pt)) pos.line X.env=pure false
      by_cases hc:∃ a b c p,e=.ListComp a b c p
      · obtain⟨a,b,c,p,rfl⟩:=hc
        rfl
      · exact fB he fun a b c p q=>hc ⟨a,b,c,p,q⟩
    intro σ H Hs D h _ hn hr
    exact PS.sem (qM aq fW hso hw rfl) (yW G hN he h fun v Hs' H' sm h' r=>tG G h'.ext.sub hN' qR hl hb h' r fun σ' hN2 p=>hn ρ' σ' Hs' H' rfl sm hN2 p)
  | true =>
    obtain⟨x,px,y,py,a,b,k2,p2,rfl,rfl,lx,ly,hxy,pa,pb,hw⟩:=BZ (kt:=kt) (pt:=pt) G.good hb'
    cases F with
    | zero=>simp[ev] at he
    | succ F =>
      simp only[ev] at he
      obtain⟨ds,h1,he⟩:=aP he
      split at he
      · cases he
        simp only[items,Option.some.injEq] at hl
        subst hl
        have hA:=(eO (fun e _ d hd=>⟨(cU cx F G.good hN' hd).1,aX hd⟩) h1).1
        have hlen:ds.length=2:=by have:=(d8 (env:=X.env) hb).2.2;simpa using this.symm
        obtain⟨d1,d2,rfl⟩:∃ d1 d2,ds=[d1,d2]:=by
          match ds,hlen with
          | [d1,d2],_=>exact⟨d1,d2,rfl⟩
        simp only[bindNames] at hb
        split at hb
        · rename_i c1
          split at hb
          · rename_i c2
            cases hb
            rw[Bool.and_eq_true] at c1 c2
            rw[au] at c2
            obtain⟨i,hi⟩:=bw c1.2
            obtain⟨j,hj⟩:=bw c2.2
            have hij:i≠j:=fun z=>by rw[z,hj] at hi;cases hi;exact hxy rfl
            intro σ H Hs D h _ hn hr
            obtain⟨Hs1,sm1,h1'⟩:=h.frozen (F+1) (.Tuple [a,b] k2 p2)
            refine PS.sem (HD G.good.calm G.good.nd (by rw[hN'];exact hi) (by rw[hN'];exact hj) hij lx ly cT hw rfl) (hA σ H Hs1 _ h1'.ext.sub h1'.sh fun vs H' Hs' E r=>?_)
            obtain⟨v,w,rfl,r1,r2⟩:=Lg r
            have nd:((frz (F+1) (.Tuple [a,b] k2 p2) ρ).map (·.1)).Nodup:=by rw[<- hN'];exact G.good.nd
            have g1:=(h1'.step E).set nd hi r1
            have g2:=g1.set (by rw[au];exact nd) (by rw[au];exact hj) r2
            exact⟨v,w,rfl,hn _ _ Hs' H' rfl (sm1.trans E.vis) (by rw[au,au];exact hN') g2⟩
          · cases hb
        · cases hb
      · cases he
theorem Ca{es:List Expr}{kt:Nat}{pt:Pos}(G:Good cx k X sc)(h:J7 sc es e=true) :
    ∃ x y z a b c px py pz k2 p2,es=[.Name x px,.Name y py,.Name z pz]/\e=.Tuple [a,b,c] k2 p2/\X.env.scope.names.lookup x=some .local/\X.env.scope.names.lookup y=some .local/\X.env.scope.names.lookup z=some .local/\x≠y/\x≠z/\y≠z /\
    swappedStores [.Tuple es kt pt] e X.env=pure (some [x,y,z]):=by
  unfold J7 at h
  split at h
  · rename_i x px y py z pz a b c k2 p2
    have hq:=h
    simp only[Bool.and_eq_true,Bool.or_eq_true,Bool.not_eq_true',bne_iff_ne] at hq
    obtain⟨⟨⟨⟨⟨⟨⟨l1,l2⟩,l3⟩,q1,q2⟩,⟨n1,n2⟩,n3⟩,q3⟩,⟨p4,p5⟩,p6⟩,⟨c1,c2⟩,c3⟩:=hq
    have m1:X.env.kindOf x=some .local:=by unfold Env.kindOf;rw[G.sce];simpa using l1
    have m2:X.env.kindOf y=some .local:=by unfold Env.kindOf;rw[G.sce];simpa using l2
    have m3:X.env.kindOf z=some .local:=by unfold Env.kindOf;rw[G.sce];simpa using l3
    have hpl : py.line = px.line := by have : px.line = py.line := by simpa using q1
                                       exact this.symm
    have hpl2 : pz.line = px.line := by have : px.line = pz.line := by simpa using q2
                                        exact this.symm
    have f1:(foldedForSure 8 a&&(foldedForSure 8 b&&foldedForSure 8 c))=false:=by
      rcases q3 with(q | q) | q
      · rw[(jW q).1];rfl
      · rw[(jW q).1,Bool.false_and,Bool.and_false]
      · rw[(jW q).1,Bool.and_false,Bool.and_false]
    have f2:(constantsAlone 8 a&&(constantsAlone 8 b&&constantsAlone 8 c))=false:=by
      rcases q3 with(q | q) | q
      · rw[(jW q).2];rfl
      · rw[(jW q).2,Bool.false_and,Bool.and_false]
      · rw[(jW q).2,Bool.and_false,Bool.and_false]
    refine⟨x,y,z,a,b,c,px,py,pz,k2,p2,rfl,rfl,m1,m2,m3,n1,n2,n3,?_⟩
    unfold swappedStores
    have ed:([x,y,z]:List Str).eraseDups.length=3:=by
      have h1:(y==x)=false:=by simpa using n1.symm
      have h2:(z==x)=false:=by simpa using n2.symm
      have h3:(z==y)=false:=by simpa using n3.symm
      simp[List.eraseDups_cons,h1,h2,h3]
    have al1:[a,b,c].all (foldedForSure 8)=false:=by simpa using f1
    have al2:[a,b,c].all (constantsAlone 8)=false:=by simpa using f2
    simp only[al1,al2,jd G]
    generalize hst:[a,b,c].any _=sb
    have hsb:sb=false:=by
      rw[<- hst,List.any_cons,List.any_cons,List.any_cons,List.any_nil,Bool.or_false,Bool.or_eq_false_iff,Bool.or_eq_false_iff]
      clear hst f1 f2 al1 al2 q3 c1 c2 c3
      refine⟨?_,?_,?_⟩
      · cases a<;>first | rfl | (simp[aB] at p4)
      · cases b<;>first | rfl | (simp[aB] at p5)
      · cases c<;>first | rfl | (simp[aB] at p6)
    generalize hf:List.filterMap _ [Expr.Name x px,Expr.Name y py,Expr.Name z pz]=nm
    have hnm:nm=[x,y,z]:=by
      rw[<- hf]
      simp[List.filterMap_cons,m1,m2,m3,hpl,hpl2,Expr.pos]
    rw[hsb,hnm]
    simp only[ed]
    rfl
  · cases h
theorem Lf{K:PySem.W.Frag}{H:Hp}{d1 d2 d3:D}{vs:List V}(r:aM K H [d1,d2,d3] vs):∃ v w u,vs=[v,w,u]/\Rep K H d1 v/\Rep K H d2 w/\Rep K H d3 u:=by
 simp only[aM] at r
 obtain⟨v,r1,rfl,h1,w,r2,rfl,h2,u,r3,rfl,h3,rfl⟩:=r
 exact⟨v,w,u,rfl,h1,h2,h3⟩
theorem Cg{es:List Expr}{l:List D}{ρ':Rho}{kt:Nat}{pt pos:Pos}(G:GoodS cx k X sc)(hN:X.N=ρ.map (·.1))(hs:J7 sc es e=true)(he:ev cx F sc (frz F e ρ) e=some d)(hl:items d=some l)(hb:bindNames sc es l (frz F e ρ)=some ρ') :
    Runs X Hs0 H0 ρ (.nxt ρ') (gZ X (.Assign [.Tuple es kt pt] e pos)):=by
  have hN':X.N=(frz F e ρ).map (·.1):=by rw[aH];exact hN
  obtain⟨x,y,z,a,b,c,px,py,pz,k2,p2,rfl,rfl,lx,ly,lz,hxy,hxz,hyz,hw⟩:=Ca (kt:=kt) (pt:=pt) G.good hs
  cases F with
  | zero=>simp[ev] at he
  | succ F =>
    simp only[ev] at he
    obtain⟨ds,h1,he⟩:=aP he
    split at he
    · cases he
      simp only[items,Option.some.injEq] at hl
      subst hl
      have hA:=(eO (fun e _ d hd=>⟨(cU cx F G.good hN' hd).1,aX hd⟩) h1).1
      have hlen:ds.length=3:=by have:=(d8 (env:=X.env) hb).2.2;simpa using this.symm
      obtain⟨d1,d2,d3,rfl⟩:∃ d1 d2 d3,ds=[d1,d2,d3]:=by
        match ds,hlen with
        | [d1,d2,d3],_=>exact⟨d1,d2,d3,rfl⟩
      simp only[bindNames] at hb
      split at hb
      · rename_i c1
        split at hb
        · rename_i c2
          split at hb
          · rename_i c3
            cases hb
            rw[Bool.and_eq_true] at c1 c2 c3
            rw[au] at c2
            rw[au,au] at c3
            obtain⟨i,hi⟩:=bw c1.2
            obtain⟨j,hj⟩:=bw c2.2
            obtain⟨l,hl⟩:=bw c3.2
            have hij:i≠j:=fun z=>by rw[z,hj] at hi;cases hi;exact hxy rfl
            have hil:i≠l:=fun z=>by rw[z,hl] at hi;cases hi;exact hxz rfl
            have hjl:j≠l:=fun z=>by rw[z,hl] at hj;cases hj;exact hyz rfl
            intro σ H Hs D h _ hn hr
            obtain⟨Hs1,sm1,h1'⟩:=h.frozen (F+1) (.Tuple [a,b,c] k2 p2)
            refine PS.sem (CQ G.good.calm G.good.nd (by rw[hN'];exact hi) (by rw[hN'];exact hj) (by rw[hN'];exact hl) hij hil hjl lx ly lz cT hw rfl) (hA σ H Hs1 _ h1'.ext.sub h1'.sh fun vs H' Hs' E r=>?_)
            obtain⟨v,w,u,rfl,r1,r2,r3⟩:=Lf r
            have nd:((frz (F+1) (.Tuple [a,b,c] k2 p2) ρ).map (·.1)).Nodup:=by rw[<- hN'];exact G.good.nd
            have g1:=(h1'.step E).set nd hi r1
            have g2:=g1.set (by rw[au];exact nd) (by rw[au];exact hj) r2
            have g3:=g2.set (by rw[au,au];exact nd) (by rw[au,au];exact hl) r3
            exact⟨v,w,u,rfl,hn _ _ Hs' H' rfl (sm1.trans E.vis) (by rw[au,au,au];exact hN') g3⟩
          · cases hb
        · cases hb
      · cases hb
    · cases he
theorem Runs.frz0{fl:Fl}{t:TS}{e:Expr}(h:Runs X Hs0 H0 (frz 0 e ρ) fl t):Runs X Hs0 H0 ρ fl t:=by
 intro σ H Hs D hd hN hn hr
 obtain⟨Hs1,sm1,h1⟩:=hd.frozen 0 e
 exact h σ H Hs1 D h1 (by rw[aH];exact hN) (fun ρ' σ' Hs' H' q sm hN' h'=>hn ρ' σ' Hs' H' q (sm1.trans sm) hN' h') hr
theorem uD{x:Str}{ds:List D}{px ap cp pos:Pos}(G:GoodS cx k X sc)(hN:X.N=ρ.map (·.1))(hx:(frz F e ρ).lookup x=some (.ow ds))(ho:ownIn sc x=true)(hp:aA x=true)(hline:(ap.endLine==cp.line)=true)(hz:szl (ds.length+1)=true)(he:ev cx F sc (frz F e ρ) e=some d) :
  Runs X Hs0 H0 ρ (.nxt (cC (frz F e ρ) x (.ow (ds++[d])))) (gZ X (.Expr (.Call (.Attribute (.Name x px) "append" ap) [e] [] cp) pos)):=by
 have hN':X.N=(frz F e ρ).map (·.1):=by rw[aH];exact hN
 obtain⟨i,hi,_⟩:=cg hx
 have nd:((frz F e ρ).map (·.1)).Nodup:=by rw[<- hN'];exact G.good.nd
 have hpl:=aX he
 intro σ H Hs D h _ hn hr
 obtain⟨Hs1,sm1,h1⟩:=h.frozen F e
 obtain⟨a,vs,k1,k2,k3,k4,k5⟩:=h1.ow i x ds hi
 unfold aA at hp
 rw[Bool.and_eq_true,bne_iff_ne,bne_iff_ne] at hp
 have vis:Vis X.env.scope x:=(G.own.own x ho).1.elim .inl fun q=>.inr (.inl q)
 refine PS.sem (iu (pB PySem.F.plainAttrs_list PySem.F.slot_list_append PySem.F.type_list_append jx (gD (i:=i) (by rw[hN',List.getElem?_map,hi];rfl) vis (by simpa using hp.1) (by simpa using hp.2)) (bf aq cL (ao hpl)) rfl (by rw[ao hpl];rfl) hline (ao hpl) rfl) rfl) ?_
 refine⟨_,k1,.inl ⟨rfl,vs,.of k2⟩,?_⟩
 refine(cU cx F G.good hN' he).1 σ H Hs1 _ h1.ext.sub h1.sh fun v H' Hs' E r=>?_
 have h2:=h1.step E
 refine⟨a,vs,v,rfl,rfl,E.all _ _ k2,by have:=k3.length;have:=qw hz;omega,?_⟩
 exact hn _ _ Hs' _ rfl (sm1.trans E.vis) (by rw[au];exact hN') (h2.app nd hi k1 (aM.append (aM.same E.vis ds vs k3) (.cons r .nil)))
theorem rY{x:Str}{ds:List D}{px ap cp pos:Pos}(G:GoodS cx k X sc)(hN:X.N=ρ.map (·.1))(hx:ρ.lookup x=some (.ow ds))(ho:ownIn sc x=true)(hp:aA x=true)(hline:(ap.endLine==cp.line)=true)(hz:szl (ds.length+1)=true)(he:ev cx F sc (frz F e ρ) e=some d)(hfl:vQ d=true) :
  Runs X Hs0 H0 ρ (.nxt (cC ρ x (.ow (ds++[d])))) (gZ X (.Expr (.Call (.Attribute (.Name x px) "append" ap) [e] [] cp) pos)):=by
 have hN':X.N=(frz F e ρ).map (·.1):=by rw[aH];exact hN
 obtain⟨i,hi,_⟩:=cg hx
 have nd:(ρ.map (·.1)).Nodup:=by rw[<- hN];exact G.good.nd
 have hpl:=aX he
 intro σ H Hs D h _ hn hr
 obtain⟨Hs1,sm1,shp,h1⟩:=h.frozen2 F e
 obtain⟨a,vs,k1,k2,k3,k4,k5⟩:=h.ow i x ds hi
 unfold aA at hp
 rw[Bool.and_eq_true,bne_iff_ne,bne_iff_ne] at hp
 have vis:Vis X.env.scope x:=(G.own.own x ho).1.elim .inl fun q=>.inr (.inl q)
 refine PS.sem (iu (pB PySem.F.plainAttrs_list PySem.F.slot_list_append PySem.F.type_list_append jx (gD (i:=i) (by rw[hN,List.getElem?_map,hi];rfl) vis (by simpa using hp.1) (by simpa using hp.2)) (bf aq cL (ao hpl)) rfl (by rw[ao hpl];rfl) hline (ao hpl) rfl) rfl) ?_
 refine⟨_,k1,.inl ⟨rfl,vs,.of k2⟩,?_⟩
 refine(cU cx F G.good hN' he).1 σ H Hs1 _ h1.ext.sub h1.sh fun v H' Hs' E r=>?_
 obtain⟨Hs3,E3,r3⟩:=nU h.ext.sub sm1 shp E hfl r
 have h2:=h.step E3
 refine⟨a,vs,v,rfl,rfl,E3.all _ _ k2,by have:=k3.length;have:=qw hz;omega,?_⟩
 exact hn _ _ Hs3 _ rfl E3.vis (by rw[au];exact hN) (h2.app nd hi k1 (aM.append (aM.same E3.vis ds vs k3) (.cons r3 .nil)))
theorem zM{x:Str}{e i2 e2:Expr}(h:Gb x e=some (i2,e2)):∃ py p2 p3,e=.BinOp (.Subscript (.Name x py) i2 p2) .Add e2 p3:=by
 unfold Gb at h
 split at h
 ·rename_i y py i p2 e' p3
  split at h
  ·rename_i q
   cases h
   have:x=y:=by simpa using q
   subst this
   exact⟨py,p2,p3,rfl⟩
  ·cases h
 ·cases h
theorem xO{x:Str}{ie i2 e2:Expr}{ds:List D}{j2 a b j:Int}{n:Nat}{px py tp p2 p3 pos:Pos}(G:GoodS cx k X sc)(hN:X.N=ρ.map (·.1))(hx:(frz F ie (frz F e2 (frz F i2 ρ))).lookup x=some (.ow ds))(ho:ownIn sc x=true)(hp:aA x=true)
  (q1:ev cx F sc (frz F ie (frz F e2 (frz F i2 ρ))) i2=some (.int j2)) (q2:atD ds j2=some (.int a)) (q3:ev cx F sc (frz F ie (frz F e2 (frz F i2 ρ))) e2=some (.int b)) (q4:ev cx F sc (frz F ie (frz F e2 (frz F i2 ρ))) ie=some (.int j)) (q5:ixD ds.length j=some n) :
  Runs X Hs0 H0 ρ (.nxt (cC (frz F ie (frz F e2 (frz F i2 ρ))) x (.ow (ds.set n (.int (a+b)))))) (gZ X (.Assign [.Subscript (.Name x px) ie tp] (.BinOp (.Subscript (.Name x py) i2 p2) .Add e2 p3) pos)):=by
 have hN':X.N=(frz F ie (frz F e2 (frz F i2 ρ))).map (·.1):=by rw[aH,aH,aH];exact hN
 obtain⟨i,hi,_⟩:=cg hx
 have nd:((frz F ie (frz F e2 (frz F i2 ρ))).map (·.1)).Nodup:=by rw[<- hN'];exact G.good.nd
 intro σ H Hs D h _ hn hr
 obtain⟨Hs1,sm1,h1⟩:=h.frozen F i2
 obtain⟨Hs2,sm2,h2⟩:=h1.frozen F e2
 obtain⟨Hs3,sm3,h3⟩:=h2.frozen F ie
 obtain⟨ad,vs,k1,k2,k3,k4,k5⟩:=h3.ow i x ds hi
 unfold aA at hp
 rw[Bool.and_eq_true,bne_iff_ne,bne_iff_ne] at hp
 have vis:Vis X.env.scope x:=(G.own.own x ho).1.elim .inl fun q=>.inr (.inl q)
 have hNi:X.N[i]?=some x:=by rw[hN',List.getElem?_map,hi];rfl
 have pv:∀ {pp:Pos},PE X (.Name x pp) (GZ i):=fun {pp}=>gD hNi vis (by simpa using hp.1) (by simpa using hp.2)
 refine PS.sem (qM (iT Ag (yq pL pv aq (gC (aX q1))) aq) (uQ pv aq set_list (jq (aX q4))) rfl rfl rfl) ?_
 obtain⟨w,w1,w2⟩:=pY k3 q2
 cases aG w2
 refine⟨.ref ad,k1,(cU cx F G.good hN' q1).1 σ H Hs3 _ h3.ext.sub h3.sh fun v1 H1 Hs4 E1 r1=>?_⟩
 refine⟨ad,vs,j2,.int a,rfl,aG r1,.of (E1.all _ _ k2),w1,?_⟩
 refine(cU cx F G.good hN' q3).1 σ H1 Hs4 _ E1.sub (h3.sh.same E1.vis) fun v2 H2 Hs5 E2 r2=>?_
 refine⟨a,b,rfl,aG r2,.ref ad,k1,(cU cx F G.good hN' q4).1 σ H2 Hs5 _ E2.sub ((h3.sh.same E1.vis).same E2.vis) fun v3 H3 Hs6 E3 r3=>?_⟩
 have E:=E1.trans (E2.trans E3)
 refine⟨ad,vs,j,n,rfl,aG r3,E.all _ _ k2,by rw[<- k3.length,<- nO];exact q5,?_⟩
 exact hn _ _ Hs6 _ rfl (sm1.trans (sm2.trans (sm3.trans E.vis))) (by rw[au];exact hN') ((h3.step E).app nd hi k1 (aM.set (by simp[Rep]) n (aM.same E.vis ds vs k3)))
theorem Cj{x:Str}{ie:Expr}{ds:List D}{j:Int}{n:Nat}{px tp pos:Pos}(G:GoodS cx k X sc)(hN:X.N=ρ.map (·.1))(hx:(frz F ie (frz F e ρ)).lookup x=some (.ow ds))(ho:ownIn sc x=true)(hp:aA x=true)(hfr:aY e=false)
  (q1:ev cx F sc (frz F ie (frz F e ρ)) e=some d) (q4:ev cx F sc (frz F ie (frz F e ρ)) ie=some (.int j)) (q5:ixD ds.length j=some n) :
  Runs X Hs0 H0 ρ (.nxt (cC (frz F ie (frz F e ρ)) x (.ow (ds.set n d)))) (gZ X (.Assign [.Subscript (.Name x px) ie tp] e pos)):=by
 have hN':X.N=(frz F ie (frz F e ρ)).map (·.1):=by rw[aH,aH];exact hN
 obtain⟨i,hi,_⟩:=cg hx
 have nd:((frz F ie (frz F e ρ)).map (·.1)).Nodup:=by rw[<- hN'];exact G.good.nd
 intro σ H Hs D h _ hn hr
 obtain⟨Hs1,sm1,h1⟩:=h.frozen F e
 obtain⟨Hs3,sm3,h3⟩:=h1.frozen F ie
 obtain⟨ad,vs,k1,k2,k3,k4,k5⟩:=h3.ow i x ds hi
 unfold aA at hp
 rw[Bool.and_eq_true,bne_iff_ne,bne_iff_ne] at hp
 have vis:Vis X.env.scope x:=(G.own.own x ho).1.elim .inl fun q=>.inr (.inl q)
 have hNi:X.N[i]?=some x:=by rw[hN',List.getElem?_map,hi];rfl
 have pv:∀ {pp:Pos},PE X (.Name x pp) (GZ i):=fun {pp}=>gD hNi vis (by simpa using hp.1) (by simpa using hp.2)
 refine PS.sem (qM aq (uQ pv aq set_list (jq (aX q4))) (uF q1 hfr) mW rfl) ?_
 refine(cU cx F G.good hN' q1).1 σ H Hs3 _ h3.ext.sub h3.sh fun v1 H1 Hs4 E1 r1=>?_
 refine⟨.ref ad,k1,(cU cx F G.good hN' q4).1 σ H1 Hs4 _ E1.sub (h3.sh.same E1.vis) fun v3 H3 Hs6 E3 r3=>?_⟩
 have E:=E1.trans E3
 refine⟨ad,vs,j,n,rfl,aG r3,E.all _ _ k2,by rw[<- k3.length,<- nO];exact q5,?_⟩
 exact hn _ _ Hs6 _ rfl (sm1.trans (sm3.trans E.vis)) (by rw[au];exact hN') ((h3.step E).app nd hi k1 (aM.set (Rep.same E3.vis _ _ r1) n (aM.same E.vis ds vs k3)))
theorem Hh{x:Str}{ds:List D}{px pos:Pos}(G:GoodS cx k X sc)(hN:X.N=ρ.map (·.1))(hx:ownIn sc x=true)(hc:(ρ.map (·.1)).contains x=true)(hno:iU (frz F e ρ) x=true)(hl:wX cx sc e=true)(he:ev cx F sc (frz F e ρ) e=some (.lst ds)) :
  Runs X Hs0 H0 ρ (.nxt (cC (frz F e ρ) x (.ow ds))) (gZ X (.Assign [.Name x px] e pos)):=by
 have hN':X.N=(frz F e ρ).map (·.1):=by rw[aH];exact hN
 obtain⟨ox,of⟩:=G.own.own x hx
 have hfr:aY e=false:=by cases e<;>first | rfl | (simp[wX] at hl;done)
 have hown:Kc cx sc e=true:=by
  unfold wX at hl
  split at hl
  ·exact hl
  ·cases hl
 refine qF G hN hx hc hno fun i hi σ H Hs D hs hst hq=>?_
 have hsw:=fB (t:=some (.Name x px)) (l:=pos.line) (env:=X.env) he fun a b c p q=>by rw[q] at hfr;cases hfr
 exact PS.sem (jo (i:=i) G.good.nd hi ox aq hsw of) (Af G.good hN' hown he σ H Hs _ hs hst fun acc vs Hs' H' E a1 a2 a3 r=>hq acc vs Hs' H' E a1 a2 a3 r)
theorem vU(l:Addr)(xs:Array Value)(n:Nat)(b:Addr)(ys:Array Value)(m:Nat)(dd:Option Addr)(sl:Array (Option Value))(c0:¬(!xs.isEmpty&&Builtin.List.listTooLong (xs.size+ys.size))=true)(c1:xs.size<=sizeLine)(c2:xs.size+ys.size<=sizeLine+1) :
    Meets (Builtin.«list.extend» ⟨[.ref l,.ref b],[]⟩) (fun _ R s=>s.heap.get? l=some { cls:=.type "list",data:=.seq xs n }/\s.heap.get? b=some { cls:=.type "list",dict:=dd,data:=.seq ys m,slots:=sl } /\
      R (.ok (.ret Value.none)) { s with heap:=s.heap.update l (Obj.mapSeq fun x=>x++ys),toks:=s.toks }) :=
  .of_wp fun prog w A R s h=>by
    obtain⟨hp,g,d,tk,os⟩:=s
    obtain⟨hl,hb,h⟩:=h
    have f1:=sub_list_list;have f2:=AutoSeq1.sub_tuple_list;have f3:=AutoSeq1.sub_list_tuple
    have z:(xs++ys).size<=sizeLine+1:=by rw[Array.size_append];exact c2
    wp_walk using(wpAny_updateSeq hl rfl (hz:=c1) (_hz':=z)),AutoSeq1.wpAny_loadPart' hl,AutoSeq1.wpAny_loadPart' hb;exact⟨_,rfl,h⟩
def Lp(K:PySem.W.Frag):V->List V->Hp->VK->Prop:=fun x vs H Q=>∃ l b xs zs,x=.ref l/\vs=[.ref b]/\H l=some (.lst xs)/\SqL K H b zs/\xs.length+zs.length<=sizeLine/\Q .non (upd H l (.lst (xs++zs)))
theorem DR:MtM X "list.extend" (Lp X.K):=by
 intro pins s σ H x vs v us Q I rx rv h
 obtain⟨l,b,xs,zs,rfl,rfl,hH,hB,hz,q⟩:=h
 cases (show v=Value.ref l from rx)
 obtain⟨u,rfl,ru⟩:=rv.one
 cases (show u=Value.ref b from ru)
 obtain⟨z,its,n,r,hl,e⟩:=I.lstM hH
 obtain⟨its2,r2,pl,hz2⟩:=I.list hB
 have hl2:=r2.length
 obtain⟨⟨c2,dd2,data2,sl2⟩,n2,e2,hc2,hd2,hs2⟩:=pl
 simp only at hc2 hs2
 have hsz:its.toArray.size+its2.toArray.size<=sizeLine:=by rw[List.size_toArray,List.size_toArray];omega
 have lng:¬ (!its.toArray.isEmpty&&Builtin.List.listTooLong (its.toArray.size+its2.toArray.size))=true:=fun w=>by
  rw[lR hsz,Bool.and_false] at w;cases w
 obtain⟨h3,h4⟩:=(show dd2=none/\data2=.seq its2.toArray n2 from⟨hd2,hs2⟩)
 subst hc2 h4
 refine call_meets F.slot_list_extend ⟨_,e,rfl⟩ F.entry_list_extend (F.args_list_extend_2 _ _) (vU l its.toArray n b its2.toArray n2 dd2 sl2 lng (by rw[List.size_toArray];omega) (by omega)) ⟨e,e2,?_⟩
 exact⟨.non,_,I.lset (its':=its++its2) hH e (by simp) (r.append r2) (by rw[List.length_append];omega),rfl,q⟩
theorem sV(l:Addr)(xs:Array Value)(n:Nat)(b:Addr)(ys:Array Value)(m:Nat)(dd:Option Addr)(sl:Array (Option Value))(c0:¬(!xs.isEmpty&&Builtin.List.listTooLong (xs.size+ys.size))=true)(c1:xs.size<=sizeLine)(c2:xs.size+ys.size<=sizeLine+1) :
    Meets (Builtin.«list.extend» ⟨[.ref l,.ref b],[]⟩) (fun _ R s=>s.heap.get? l=some { cls:=.type "list",data:=.seq xs n }/\s.heap.get? b=some { cls:=.type "tuple",dict:=dd,data:=.seq ys m,slots:=sl } /\
      R (.ok (.ret Value.none)) { s with heap:=s.heap.update l (Obj.mapSeq fun x=>x++ys),toks:=s.toks }) :=
  .of_wp fun prog w A R s h=>by
    obtain⟨hp,g,d,tk,os⟩:=s
    obtain⟨hl,hb,h⟩:=h
    have f1:=sub_list_list;have f2:=AutoSeq1.sub_tuple_list;have f3:=AutoSeq1.sub_list_tuple;have f4:=isSubtype_tuple_tuple
    have z:(xs++ys).size<=sizeLine+1:=by rw[Array.size_append];exact c2
    wp_walk using(wpAny_updateSeq hl rfl (hz:=c1) (_hz':=z)),AutoSeq1.wpAny_loadPart' hl,AutoSeq1.wpAny_loadPart' hb;exact⟨_,rfl,h⟩
def Ln(K:PySem.W.Frag):V->List V->Hp->VK->Prop:=fun x vs H Q=>∃ l b xs zs,x=.ref l/\vs=[.ref b]/\H l=some (.lst xs)/\SqT K H b zs/\xs.length+zs.length<=sizeLine/\Q .non (upd H l (.lst (xs++zs)))
theorem DQ:MtM X "list.extend" (Ln X.K):=by
 intro pins s σ H x vs v us Q I rx rv h
 obtain⟨l,b,xs,zs,rfl,rfl,hH,hB,hz,q⟩:=h
 cases (show v=Value.ref l from rx)
 obtain⟨u,rfl,ru⟩:=rv.one
 cases (show u=Value.ref b from ru)
 obtain⟨z,its,n,r,hl,e⟩:=I.lstM hH
 obtain⟨its2,r2,pl,hz2⟩:=I.tuple hB
 have hl2:=r2.length
 obtain⟨⟨c2,dd2,data2,sl2⟩,e2,hc2,n2,hs2⟩:=pl
 simp only at hc2 hs2
 have hsz:its.toArray.size+its2.toArray.size<=sizeLine:=by rw[List.size_toArray,List.size_toArray];omega
 have lng:¬ (!its.toArray.isEmpty&&Builtin.List.listTooLong (its.toArray.size+its2.toArray.size))=true:=fun w=>by
  rw[lR hsz,Bool.and_false] at w;cases w
 subst hc2 hs2
 refine call_meets F.slot_list_extend ⟨_,e,rfl⟩ F.entry_list_extend (F.args_list_extend_2 _ _) (sV l its.toArray n b its2.toArray n2 dd2 sl2 lng (by rw[List.size_toArray];omega) (by omega)) ⟨e,e2,?_⟩
 exact⟨.non,_,I.lset (its':=its++its2) hH e (by simp) (r.append r2) (by rw[List.length_append];omega),rfl,q⟩
theorem uz{x:Str}{ds zs:List D}{px ap cp pos:Pos}(G:GoodS cx k X sc)(hN:X.N=ρ.map (·.1))(hx:(frz F e ρ).lookup x=some (.ow ds))(ho:ownIn sc x=true)(hp:aA x=true)(hline:(ap.endLine==cp.line)=true)(hz:szl (ds.length+zs.length)=true)(he:ev cx F sc (frz F e ρ) e=some (.lst zs)) :
  Runs X Hs0 H0 ρ (.nxt (cC (frz F e ρ) x (.ow (ds++zs)))) (gZ X (.Expr (.Call (.Attribute (.Name x px) "extend" ap) [e] [] cp) pos)):=by
 have hN':X.N=(frz F e ρ).map (·.1):=by rw[aH];exact hN
 obtain⟨i,hi,_⟩:=cg hx
 have nd:((frz F e ρ).map (·.1)).Nodup:=by rw[<- hN'];exact G.good.nd
 have hpl:=aX he
 intro σ H Hs D h _ hn hr
 obtain⟨Hs1,sm1,h1⟩:=h.frozen F e
 obtain⟨a,vs,k1,k2,k3,k4,k5⟩:=h1.ow i x ds hi
 unfold aA at hp
 rw[Bool.and_eq_true,bne_iff_ne,bne_iff_ne] at hp
 have vis:Vis X.env.scope x:=(G.own.own x ho).1.elim .inl fun q=>.inr (.inl q)
 refine PS.sem (iu (pB PySem.F.plainAttrs_list PySem.F.slot_list_extend PySem.F.type_list_extend DR (gD (i:=i) (by rw[hN',List.getElem?_map,hi];rfl) vis (by simpa using hp.1) (by simpa using hp.2)) (bf aq cL (ao hpl)) rfl (by rw[ao hpl];rfl) hline (ao hpl) rfl) rfl) ?_
 refine⟨_,k1,.inl ⟨rfl,vs,.of k2⟩,?_⟩
 refine(cU cx F G.good hN' he).1 σ H Hs1 _ h1.ext.sub h1.sh fun v H' Hs' E r=>?_
 have h2:=h1.step E
 obtain⟨b,us,rfl,g1,g2⟩:=bH r
 refine⟨a,b,vs,us,rfl,rfl,E.all _ _ k2,E.sub.seq g1,by have:=k3.length;have:=g2.length;have:=fV hz;omega,?_⟩
 exact hn _ _ Hs' _ rfl (sm1.trans E.vis) (by rw[au];exact hN') (h2.app nd hi k1 (aM.append (aM.same E.vis ds vs k3) g2))
theorem rW{x:Str}{ds zs:List D}{px ap cp pos:Pos}(G:GoodS cx k X sc)(hN:X.N=ρ.map (·.1))(hx:(frz F e ρ).lookup x=some (.ow ds))(ho:ownIn sc x=true)(hp:aA x=true)(hline:(ap.endLine==cp.line)=true)(hz:szl (ds.length+zs.length)=true)(he:ev cx F sc (frz F e ρ) e=some (.tup zs)) :
  Runs X Hs0 H0 ρ (.nxt (cC (frz F e ρ) x (.ow (ds++zs)))) (gZ X (.Expr (.Call (.Attribute (.Name x px) "extend" ap) [e] [] cp) pos)):=by
 have hN':X.N=(frz F e ρ).map (·.1):=by rw[aH];exact hN
 obtain⟨i,hi,_⟩:=cg hx
 have nd:((frz F e ρ).map (·.1)).Nodup:=by rw[<- hN'];exact G.good.nd
 have hpl:=aX he
 intro σ H Hs D h _ hn hr
 obtain⟨Hs1,sm1,h1⟩:=h.frozen F e
 obtain⟨a,vs,k1,k2,k3,k4,k5⟩:=h1.ow i x ds hi
 unfold aA at hp
 rw[Bool.and_eq_true,bne_iff_ne,bne_iff_ne] at hp
 have vis:Vis X.env.scope x:=(G.own.own x ho).1.elim .inl fun q=>.inr (.inl q)
 refine PS.sem (iu (pB PySem.F.plainAttrs_list PySem.F.slot_list_extend PySem.F.type_list_extend DQ (gD (i:=i) (by rw[hN',List.getElem?_map,hi];rfl) vis (by simpa using hp.1) (by simpa using hp.2)) (bf aq cL (ao hpl)) rfl (by rw[ao hpl];rfl) hline (ao hpl) rfl) rfl) ?_
 refine⟨_,k1,.inl ⟨rfl,vs,.of k2⟩,?_⟩
 refine(cU cx F G.good hN' he).1 σ H Hs1 _ h1.ext.sub h1.sh fun v H' Hs' E r=>?_
 have h2:=h1.step E
 obtain⟨b,us,rfl,g1,g2⟩:=bL r
 refine⟨a,b,vs,us,rfl,rfl,E.all _ _ k2,E.sub.tup g1,by have:=k3.length;have:=g2.length;have:=fV hz;omega,?_⟩
 exact hn _ _ Hs' _ rfl (sm1.trans E.vis) (by rw[au];exact hN') (h2.app nd hi k1 (aM.append (aM.same E.vis ds vs k3) g2))
theorem Ck{pos:Pos}(G:GoodS cx k X sc)(hN:X.N=ρ.map (·.1))(he:ev cx F sc (frz F e ρ) e=some d)(hc:∀ a b c p,e≠.ListComp a b c p):Runs X Hs0 H0 ρ (.nxt (frz F e ρ)) (gZ X (.Expr e pos)):=by
 intro σ H Hs D h _ hn hr
 exact PS.sem (iu aq (fB he hc)) (yW G hN he h fun v Hs' H' sm h' r=>hn _ _ Hs' H' rfl sm (by rw[aH];exact hN) h')
theorem yN{f:Rho->Stmt->Option Fl}(hf:∀ ρ s fl,X.N=ρ.map (·.1)->f ρ s=some fl->Runs X Hs0 H0 ρ fl (gZ X s)):∀ (l:List Stmt) (ρ:Rho) (fl:Fl),X.N=ρ.map (·.1)->iQ f l ρ=some fl->Runs X Hs0 H0 ρ fl (gY X l)
  | [], ρ, fl, hN, h => by
    simp only[iQ,Option.some.injEq] at h
    subst h
    intro σ H Hs D h _ hn hr
    exact PSs.sem uJ (hn _ _ Hs H rfl (.refl _) hN h)
  | s :: r, ρ, fl, hN, h => by
    simp only[iQ] at h
    obtain⟨fl1,h1,h2⟩:=aP h
    intro σ H Hs D hd _ hn hr
    refine PSs.sem (lM z7 dH) (hf ρ s fl1 hN h1 σ H Hs _ hd hN (fun ρ' σ' Hs' H' q sm hN' hd'=>?_) fun d v Hs' H' q E rr=>?_)
    · subst q
      exact yN hf r ρ' fl hN' h2 σ' H' Hs' D hd' hN' (fun ρ2 σ2 Hs2 H2 q2 sm2=>hn ρ2 σ2 Hs2 H2 q2 (sm.trans sm2)) hr
    · subst q
      cases h2
      exact hr d v Hs' H' rfl E rr
theorem Hj{tg iter:Expr}{body:List Stmt}{l:List D}{fl:Fl}{pos:Pos}{f:D->Rho->Option Fl}(G:GoodS cx k X sc)(hN:X.N=ρ.map (·.1))(hI:evI cx (fX tg) (ev cx F sc (frz F iter ρ)) sc iter=some l)
  (hf:∀ d ρ1 fl,f d ρ1=some fl->X.N=ρ1.map (·.1)->∃ ρ2,fP sc tg d ρ1=some ρ2/\(X.N=ρ2.map (·.1)->Runs X Hs0 H0 ρ2 fl (gY X body))) (h:cY f l (frz F iter ρ)=some fl):Runs X Hs0 H0 ρ fl (gZ X (.For tg iter body [] pos)):=by
 have hN':X.N=(frz F iter ρ).map (·.1):=by rw[aH];exact hN
 obtain⟨hI',hp⟩:=vZ (tg:=tg) (ρ:=frz F iter ρ) G.good (fun e d h=>⟨(cU cx F G.good hN' h).1,aX h⟩) hI
 intro σ H Hs D hd _ hn hr
 obtain⟨Hs1,sm1,h1⟩:=hd.frozen F iter
 refine PS.sem (HF G.pass G.good.calm iG fW dH (cX hp)) (hI' σ H Hs1 _ h1.ext.sub h1.sh fun J H2 Hs2 E2 hJ=>?_)
 let W:Nat->Nat->St->Hp->Prop:=fun i m σ H=>m=l.length-i/\i<=l.length/\∃ ρi Hsi,Same Hs2 Hsi/\Hd X.K Hs0 H0 Hsi H ρi σ/\X.N=ρi.map (·.1)/\cY f (l.drop i) ρi=some fl
 refine⟨W,⟨l.length,rfl,Nat.zero_le _,_,Hs2,.refl _,h1.step E2,hN',by simpa using h⟩,?_⟩
 rintro i m σi Hi ⟨rfl,hi,ρi,Hsi,sm,hdi,hNi,gi⟩
 obtain⟨stp,go⟩:=hJ Hsi Hi sm hdi.ext.sub
 by_cases hlt:i<l.length
 ·obtain⟨g1,g2⟩:=go i l[i] (List.getElem?_eq_getElem hlt)
  refine .inr ⟨g1,fun σ' H'=>W (i+1) (l.length-(i+1)) σ' H',fun σ' H' w=>⟨_,by omega,w⟩,fun x H' y=>?_⟩
  obtain⟨Hs3,E3,rx⟩:=g2 x H' y
  rw[List.drop_eq_getElem_cons hlt] at gi
  simp only[cY] at gi
  obtain⟨fl1,b1,b2⟩:=aP gi
  obtain⟨ρ2,c1,c2⟩:=hf _ _ _ b1 hNi
  have hd3:=hdi.step E3
  refine pU G.good.calm G.own G.good.nd hd3.ext.sub hNi (qR (Hs0:=Hs0) (H0:=H0) (H:=H')) c1 hd3 rx fun σ' hN2 p=>?_
  refine c2 hN2 σ' H' Hs3 _ p hN2 (fun ρ' σ'' Hs' H'' q sm4 hN3 hd4=>?_) fun d v Hs' H'' q E rr=>?_
  ·subst q
   exact⟨rfl,hlt,ρ',Hs',sm.trans (E3.vis.trans sm4),hd4,hN3,b2⟩
  ·subst q
   cases b2
   exact hr d v Hs' H'' rfl E rr
 ·have hi':i=l.length:=by omega
  subst hi'
  refine .inl ⟨stp,?_⟩
  rw[List.drop_length] at gi
  simp only[cY,Option.some.injEq] at gi
  exact hn ρi σi Hsi Hi gi.symm (sm1.trans (E2.vis.trans sm)) hNi hdi
theorem xM{c:Expr}{body:List Stmt}{fl:Fl}{pos:Pos}{f:Rho->Option Fl}{m:Nat}(G:GoodS cx k X sc)(hN:X.N=ρ.map (·.1))(hf:∀ ρ fl,X.N=ρ.map (·.1)->f ρ=some fl->Runs X Hs0 H0 ρ fl (gY X body))
    (h:qm (fun ρ=>((ev cx F sc (frz F c ρ) c).bind asB).map fun b=>(frz F c ρ,b)) f m ρ=some fl):Runs X Hs0 H0 ρ fl (gZ X (.While c body [] pos)):=by
  intro σ H Hs D hd _ hn hr
  let W:Nat->St->Hp->Prop:=fun m σ H=>∃ ρi Hsi,Same Hs Hsi/\Hd X.K Hs0 H0 Hsi H ρi σ/\X.N=ρi.map (·.1)/\qm (fun ρ=>((ev cx F sc (frz F c ρ) c).bind asB).map fun b=>(frz F c ρ,b)) f m ρi=some fl
  refine PS.sem (xY G.pass dW dH) ⟨W,⟨m,ρ,Hs,.refl _,hd,hN,h⟩,?_⟩
  rintro m σi Hi ⟨ρi,Hsi,sm,hdi,hNi,gi⟩
  cases m with
  | zero=>simp[qm] at gi
  | succ m =>
    simp only[qm] at gi
    split at gi
    · cases gi
    · rename_i ρ1 b hb
      obtain⟨b',h1,h2⟩:=Option.map_eq_some_iff.mp hb
      cases h2
      have he:=eU h1
      have hN':X.N=(frz F c ρi).map (·.1):=by rw[aH];exact hNi
      refine Bf G hNi he hdi fun Hs' H' sm' h'=>?_
      cases b with
      | true =>
        rw[if_pos rfl] at gi ⊢
        split at gi
        · cases gi
        · rename_i d hfd
          cases gi
          refine⟨fun σ' H'=>W m σ' H',fun σ' H' w=>⟨m,Nat.lt_succ_self _,w⟩,?_⟩
          exact hf _ _ hN' hfd σi H' Hs' _ h' hN' (fun ρ2 σ2 Hs2 H2 q2=>by cases q2) fun d2 v Hs2 H2 q2 E rr=>by cases q2;exact hr d v Hs2 H2 rfl E rr
        · rename_i ρ' hfd
          refine⟨fun σ' H'=>W m σ' H',fun σ' H' w=>⟨m,Nat.lt_succ_self _,w⟩,?_⟩
          refine hf _ _ hN' hfd σi H' Hs' _ h' hN' (fun ρ2 σ2 Hs2 H2 q2 sm2 hN2 hd2=>?_) fun d2 v Hs2 H2 q2=>by cases q2
          cases q2
          exact⟨_,Hs2,sm.trans (sm'.trans sm2),hd2,hN2,gi⟩
      | false =>
        rw[if_neg Bool.false_ne_true] at gi ⊢
        cases gi
        exact hn _ _ Hs' H' rfl (sm.trans sm') hN' h'
end
section
variable {X:Cx} {ρ:Rho} {cx:Cxt} {k F:Nat} {sc scope:Scope} {Hs0 H0:Hp} {e:Expr} {d:D}
theorem Kz{s:Stmt}{D:Ends}{σ:St}{H:Hp}(h:gZ X.nox s D σ H):gZ X s D σ H:=fun pins s0 I=>wpAny_mono (h pins s0 (I.wish _)) (fun _ _ q=>q.unwish) fun _ _ z=>False.elim z
abbrev Cx.pinned(X:Cx)(pn:List (Addr×Obj))(xe:Value->Shared->Prop):Cx:={ X with pn:=pn,xe:=xe }
theorem Inv.repin{pn pn' pins pins':List (Addr×Obj)}{xe xe':Value->Shared->Prop}{σ:St}{H:Hp}{s:Shared}(I:Inv (X.pinned pn xe) pins σ H s)(h:∀ p∈pn'++pins',p∈pn++pins):Inv (X.pinned pn' xe') pins' σ H s :=
 ⟨⟨I.ok.mod,I.ok.kind,I.ok.glob,I.ok.blt,I.ok.above,I.ok.inj,I.ok.has,I.ok.cab,I.ok.hd,I.ok.frames,I.ok.stk,I.ok.exf,I.ok.bs,I.ok.bsz,I.ok.noex,I.ok.exfs,I.ok.funs,I.ok.frf⟩,I.os,I.bare,I.base,I.loc,I.cell,I.free,I.freeC,fun p hp=>I.pin p (h p hp),I.hok,I.len⟩
theorem Good.wish(G:Good cx k X sc)(E:Value->Shared->Prop):Good cx k (X.wish E) sc:=⟨G.calm,G.room,G.sce,G.kind,G.nd,G.cst,G.blt,G.exs,G.fns,G.kw⟩
theorem GoodS.nox(G:GoodS cx k X sc):GoodS cx k X.nox sc:=⟨G.good.wish _,⟨G.own.own⟩,PassesOwn.never,G.stk⟩
theorem GoodS.pin_nox(G:GoodS cx k X sc)(pn:List (Addr×Obj))(E:Value->Shared->Prop):GoodS cx k (X.pinned pn E).nox sc:=⟨⟨G.good.calm,G.good.room,G.good.sce,G.good.kind,G.good.nd,G.good.cst,G.good.blt,G.good.exs,G.good.fns,G.good.kw⟩,⟨G.own.own⟩,PassesOwn.never,G.stk⟩
theorem GoodS.calm'(G:GoodS cx k X sc)(b:Bool):GoodS { cx with rs:=b } k X sc:=⟨⟨G.good.calm,G.good.room,G.good.sce,G.good.kind,G.good.nd,G.good.cst,G.good.blt,G.good.exs,G.good.fns,G.good.kw⟩,G.own,G.pass,G.stk⟩
def wM(rs:Bool)(X:Cx)(Hs0 H0:Hp)(ρ:Rho)(c:Str)(ρ':Rho)(t:TS):Prop:=∀ σ H Hs D,Hd X.K Hs0 H0 Hs H ρ σ->X.N=ρ.map (·.1) ->
 (∀ σ' Hs' H',Same Hs Hs'->X.N=ρ'.map (·.1)->Hd X.K Hs0 H0 Hs' H' ρ' σ'->∃ E,EX X c Hs' H' E/\XOk X σ' E/\(rs=true->wN X σ' E))->t D σ H
theorem qU{rs:Bool}{f:Rho->Stmt->Option Fl}{g:Rho->Stmt->Option (Str×Rho)}{c:Str}{ρ':Rho}(hf:∀ ρ s fl,X.N=ρ.map (·.1)->f ρ s=some fl->Runs X.nox Hs0 H0 ρ fl (gZ X.nox s))(hg:∀ ρ s c ρ',X.N=ρ.map (·.1)->g ρ s=some (c,ρ')->wM rs X Hs0 H0 ρ c ρ' (gZ X s)) :
    ∀ (l:List Stmt) (ρ:Rho),X.N=ρ.map (·.1)->gw f g l ρ=some (c,ρ')->wM rs X Hs0 H0 ρ c ρ' (gY X l)
  | [],ρ,hN,h=>by simp[gw] at h
  | s :: r, ρ, hN, h => by
    simp only[gw] at h
    intro σ H Hs D hd _ hx
    refine PSs.sem (lM z7 dH) ?_
    split at h
    · rename_i ρ1 h1
      refine Kz (hf ρ s _ hN h1 σ H Hs _ hd hN (fun ρ2 σ2 Hs2 H2 q sm hN2 hd2=>?_) fun d v Hs2 H2 q _ _=>nomatch q)
      cases q
      exact qU hf hg r ρ1 hN2 h σ2 H2 Hs2 D hd2 hN2 fun σ3 Hs3 H3 sm3=>hx σ3 Hs3 H3 (sm.trans sm3)
    · cases h
    · exact hg ρ s c ρ' hN h σ H Hs _ hd hN hx
theorem rz{c:Str}(G:Good cx k X sc)(hN:X.N=ρ.map (·.1))(he:evx cx F sc (frz F e ρ) e=some c){σ:St}{H Hs:Hp}{rs:Bool}{Q:VK}(h:Hd X.K Hs0 H0 Hs H ρ σ)
  (hx:∀ σ' Hs' H',Same Hs Hs'->X.N=(frz F e ρ).map (·.1)->Hd X.K Hs0 H0 Hs' H' (frz F e ρ) σ'->∃ E,EX X c Hs' H' E/\XOk X σ' E/\(rs=true->wN X σ' E)):mH X e σ H Q:=by
 obtain⟨Hs1,sm1,h1⟩:=h.frozen F e
 have hN':X.N=(frz F e ρ).map (·.1):=by rw[aH];exact hN
 obtain⟨E,e1,e2,_⟩:=hx σ Hs1 H sm1 hN' h1
 exact jF cx F G hN' he σ H Hs1 E h1.ext.sub h1.sh e1 e2 Q
theorem zQ{t:Option Expr}{l:Nat}{env:Env}{c:Str}(he:evx cx F sc ρ e=some c)(hc:aY e=false):swapsWith e t l env=pure false:=by
  cases F with
  | zero=>exact nomatch (show(Option.none:Option Str)=some c from he)
  | succ F =>
    cases e<;>first | rfl | (exact nomatch (show(Option.none:Option Str)=some c from he)) | (exact absurd hc (by simp[aY]))
theorem Hd.drop{K:PySem.W.Frag}{Hs0 H0 Hs H:Hp}{ρ:Rho}{σ:St}{x:Str}{i:Nat}(h:Hd K Hs0 H0 Hs H ρ σ)(hn:(ρ.map (·.1)).Nodup)(hi:(ρ.map (·.1))[i]?=some x):Hd K Hs0 H0 Hs H (cC ρ x .no) (σ.set i none):=by
 have hl:i<σ.length:=by have:=(List.getElem?_eq_some_iff.mp hi).1;rw[h.len];simpa using this
 refine⟨h.ext,by rw[List.length_set,h.len];have:=congrArg List.length (au ρ x .no);simpa using this.symm,fun j y d e=>?_,fun j y ds e=>?_,fun j j' y y' ds es a hjj e1 e2 e3 e4=>?_,fun j y dss e=>?_⟩
 ·rw[aQ hn hi j] at e
  split at e
  ·cases e
  ·rename_i hj
   obtain⟨v,q1,q2⟩:=h.sh j y d e
   exact⟨v,by rw[List.getElem?_set_ne (fun z=>hj z.symm)];exact q1,q2⟩
 ·rw[aQ hn hi j] at e
  split at e
  ·cases e
  ·rename_i hj
   obtain⟨a,vs,q1,q2⟩:=h.ow j y ds e
   exact⟨a,vs,by rw[List.getElem?_set_ne (fun z=>hj z.symm)];exact q1,q2⟩
 ·rw[aQ hn hi j] at e1
  rw[aQ hn hi j'] at e2
  split at e1
  ·cases e1
  ·rename_i hj
   split at e2
   ·cases e2
   ·rename_i hj'
    rw[List.getElem?_set_ne (fun z=>hj z.symm)] at e3
    rw[List.getElem?_set_ne (fun z=>hj' z.symm)] at e4
    exact h.dis j j' y y' ds es a hjj e1 e2 e3 e4
 ·rw[aQ hn hi j] at e
  split at e
  ·cases e
  ·rename_i hj
   obtain⟨⟨a,bs,k1,k2⟩,k3⟩:=h.oo j y dss e
   refine⟨⟨a,bs,by rw[List.getElem?_set_ne (fun z=>hj z.symm)];exact k1,k2⟩,fun l z s hl' g=>?_⟩
   rw[aQ hn hi l] at g
   split at g
   ·cases g;rfl
   ·exact k3 l z s hl' g
theorem xJ{hs:List ExceptHandler}{o f:List Stmt}{c n kn:Str}(h:rR hs o f=some (c,n,kn)):∃ np p1 p2 p3 hp,hs=[.ExceptHandler (some (.Name c np)) (some n) [.Assign [.Name kn p1] (.Name n p2) p3] hp]/\o=[]/\f=[]:=by
 unfold rR at h
 split at h
 ·split at h
  ·rename_i hq
   cases h
   have e:=beq_iff_eq.mp hq
   subst e
   exact⟨_,_,_,_,_,rfl,rfl,rfl⟩
  ·cases h
 ·cases h
theorem Hg{body:List Stmt}{c c' n kn:Str}{ρ':Rho}{np p1 p2 p3 hp pos:Pos}(G:GoodS cx k X sc)(hN:X.N=ρ.map (·.1))
    (hb:∀ pn xe,wM false (X.pinned pn xe) Hs0 H0 ρ c' ρ' (gY (X.pinned pn xe) body)) (hgl:mJ cx sc c=true) (ht:c=cx.top) (hin:cx.exs.contains c'=true) (hne:n≠kn) (hpn:aA n=true) (ln:sc.names.lookup n=some .local) (lk:sc.names.lookup kn=some .local) (cn:(ρ.map (·.1)).contains n=true) (ck:(ρ.map (·.1)).contains kn=true) (hpc:aA c=true) :
    Runs X Hs0 H0 ρ (.nxt (cC (cC ρ' kn (.sh (.exc c'))) n .no)) (gZ X (.Try body [.ExceptHandler (some (.Name c np)) (some n) [.Assign [.Name kn p1] (.Name n p2) p3] hp] [] [] pos)):=by
  intro σ H Hs D hd _ hn hr pins s I
  obtain⟨C,M,e1,e2,_,_,e3,_⟩:=G.good.exs.cls c' hin
  have hg:Gl X c:=by
    have e:sc.names.lookup c=some .globalImplicit:=by unfold mJ at hgl;simpa using hgl
    show X.env.scope.names.lookup c=_
    rw[G.good.sce,e]
  have hm:X.mg c=some (.ref M):=by rw[ht];exact G.good.exs.glob _ _ e2
  unfold aA at hpn hpc
  rw[Bool.and_eq_true,bne_iff_ne,bne_iff_ne] at hpn hpc
  obtain⟨i,hi⟩:=bw cn
  obtain⟨j,hj⟩:=bw ck
  have hij:i≠j:=fun z=>by subst z;rw[hi] at hj;cases hj;exact hne rfl
  rw[arm_exec_Try]
  refine wpAny_bind (wpAny_standAt (wpAny_tryStmt_except ?_))
  let xe:Value->Shared->Prop:=fun e s₁=>wpAny (model X.prog X.w) X.A (noteFrame e X.env) (fun _ s₂=>wpAny (model X.prog X.w) X.A (setFlight e none) (fun _ s₃=>wpAny (model X.prog X.w) X.A (handleBy e X.env [.ExceptHandler (some (.Name c np)) (some n) [.Assign [.Name kn p1] (.Name n p2) p3] hp]) (SP X pins D) X.xe s₃) X.xe s₂) X.xe s₁
  have run:=hb (X.pn++pins) xe σ H Hs { nx:=fun _ _=>False,rt:=fun _ _=>False } hd hN ?_ [] s (Inv.repin (X:=X) (pn:=X.pn) (pins:=pins) I fun p hp=>by simpa using hp)
  · refine wpAny_mono run (fun f s1 q=>?_) fun e s1 q=>q
    cases f with
    | next=>obtain⟨_,_,_,z⟩:=q;exact z.elim
    | brk=>obtain⟨_,_,_,z⟩:=q;exact z.elim
    | cont=>obtain⟨_,_,_,z⟩:=q;exact z.elim
    | ret u=>obtain⟨_,_,_,_,_,z⟩:=q;exact z.elim
  · intro σ1 Hs1 H1 sm1 hN1 hd1
    refine⟨fun cls _ H2=>cls=.ref C/\∃ Hs2,Ext Hs1 H1 Hs2 H2,fun C2 H2 Hs2 q E=>⟨?_,Hs2,E⟩,?_,fun z=>nomatch z⟩
    · have q':PySem.W.nsIn X.K mainGlobals c'=some (some (.ref C2)):=q
      rw[e1] at q';cases q';rfl
    · intro pins2 H2 s2 e s3 I2 hcx
      obtain⟨ea,cls,H3,rfl,Fl,hn3,rfl,Hs3,E3⟩:=hcx
      have I2':Inv (X.pinned (X.pn++pins) X.xe) pins2 σ1 H2 s2:=Inv.repin (X:=X) I2 fun p hp=>hp
      have nd1:(ρ'.map (·.1)).Nodup:=by rw[<- hN1];exact G.good.nd
      have hi1:(ρ'.map (·.1))[i]?=some n:=by rw[<- hN1];show X.N[i]?=_;rw[hN];exact hi
      have hj1:(ρ'.map (·.1))[j]?=some kn:=by rw[<- hN1];show X.N[j]?=_;rw[hN];exact hj
      refine caught (X:=X.pinned (X.pn++pins) X.xe) (Mc:=M) I2' Fl hn3 G.stk hg hm (by simpa using hpc.1) e3 G.good.nd (i:=i) (j:=j) (by show X.N[i]?=_;rw[hN];exact hi) (by show X.N[j]?=_;rw[hN];exact hj) hij
        (by show X.env.scope.names.lookup n=_;rw[G.good.sce];exact ln) (by show X.env.scope.names.lookup kn=_;rw[G.good.sce];exact lk) (by simpa using hpn.1) (by simpa using hpn.2) fun s4 I4=>?_
      have I5:Inv X pins ((σ1.set j (some (.ref ea))).set i none) (upd H3 ea (.ext (isX ea (.ref C)))) s4:=Inv.repin (X:=X) (pn':=X.pn) I4 fun p hp=>List.mem_append_left _ hp
      have E4:Ext Hs3 H3 (upd Hs3 ea (.ext (isX ea (.ref C)))) (upd H3 ea (.ext (isX ea (.ref C)))):=Ext.new E3.sub _ hn3
      have hd4:Hd X.K Hs0 H0 (upd Hs3 ea (.ext (isX ea (.ref C)))) (upd H3 ea (.ext (isX ea (.ref C)))) (cC ρ' kn (.sh (.exc c'))) (σ1.set j (some (.ref ea))):=((Hd.step hd1 E3).step E4).set nd1 hj1 (by
        simp only[Rep]
        exact⟨ea,C,rfl,e1,aW⟩)
      have hd5:=hd4.drop (by rw[au];exact nd1) (i:=i) (x:=n) (by rw[au];exact hi1)
      exact⟨_,_,I5,hn _ _ _ _ rfl (sm1.trans (E3.vis.trans E4.vis)) (by rw[au,au];exact hN1) hd5⟩
end
mutual
theorem rT(cx:Cxt)(F:Nat):∀ (n:Nat) {k:Nat} {X:Cx} {sc:Scope} {ρ:Rho} {s:Stmt} {fl:Fl} {Hs0 H0:Hp},GoodS cx k X sc->X.N=ρ.map (·.1)->DE.st cx F n sc ρ s=some fl->Runs X Hs0 H0 ρ fl (gZ X s)
  | 0,k,X,sc,ρ,s,fl,Hs0,H0,_,_,h=>by simp[DE.st] at h
  | n + 1, k, X, sc, ρ, s, fl, Hs0, H0, G, hN, h => by
    have block:∀ (l:List Stmt) (ρ:Rho) (fl:Fl),X.N=ρ.map (·.1)->iQ (fun ρ s=>DE.st cx F n sc ρ s) l ρ=some fl->Runs X Hs0 H0 ρ fl (gY X l):=yN fun ρ s fl hN h=>rT cx F n G hN h
    cases s with
    | Pass pos =>
      simp only[DE.st,Option.some.injEq] at h
      subst h
      intro σ H Hs D hd _ hn hr
      exact PS.sem CP (hn _ _ Hs H rfl (.refl _) hN hd)
    | Return v pos =>
      simp only[DE.st] at h
      cases v with
      | none =>
        simp only[Option.some.injEq] at h
        subst h
        intro σ H Hs D hd _ hn hr
        exact PS.sem CN (hr .non .non Hs H rfl hd.ext (by simp[Rep]))
      | some e =>
        simp only[Option.map_eq_some_iff] at h
        obtain⟨d,he,rfl⟩:=h
        intro σ H Hs D hd _ hn hr
        exact PS.sem (Aa aq) (yW G hN he hd fun v Hs' H' sm h' r=>hr d v Hs' H' rfl h'.ext r)
    | Assign tgs e pos =>
      simp only[DE.st] at h
      split at h
      · split at h
        · rename_i hc
          rw[Bool.and_eq_true] at hc
          split at h
          · rename_i hoo
            rw[Bool.and_eq_true] at hoo
            obtain⟨d,he,h⟩:=Option.bind_eq_some_iff.mp h
            obtain⟨dss,hd,rfl⟩:=Option.map_eq_some_iff.mp h
            exact K6 G hN hc.1 hc.2 hoo.1 hoo.2 he hd
          · split at h
            · rename_i hle
              rw[Bool.and_eq_true] at hle
              obtain⟨d,he,h⟩:=Option.bind_eq_some_iff.mp h
              obtain⟨ds,hd,rfl⟩:=Option.map_eq_some_iff.mp h
              cases d<;>simp[DY] at hd
              subst hd
              exact Hh G hN hc.1 hc.2 hle.2 hle.1 he
            · split at h
              · split at h
                · rename_i hno
                  simp only[Option.map_eq_some_iff] at h
                  obtain⟨d,he,rfl⟩:=h
                  exact Runs.frz0 (e:=e) (uy G (by rw[aH];exact hN) hc.1 (by rw[aH];exact hc.2) (fun _=>hno) he)
                · cases h
              · rename_i hno
                simp only[Option.map_eq_some_iff] at h
                obtain⟨d,he,rfl⟩:=h
                refine uy G hN hc.1 hc.2 (fun hf=>?_) he
                rw[hf,Bool.true_and] at hno
                simpa using hno
        · cases h
      · split at h
        · rename_i hs
          obtain⟨d,he,h⟩:=aP h
          obtain⟨l,hl,h⟩:=aP h
          simp only[Option.map_eq_some_iff] at h
          obtain⟨ρ',hb,rfl⟩:=h
          rcases Bool.or_eq_true _ _ |>.mp hs with hs | hs
          · exact G9 G hN hs he hl hb
          · exact Cg G hN hs he hl hb
        · cases h
      · split at h
        · rename_i x px
          split at h
          · rename_i i2 e2 hau
            obtain⟨py,p2,p3,rfl⟩:=zM hau
            split at h
            · rename_i ds hx
              split at h
              · rename_i hc
                rw[Bool.and_eq_true] at hc
                obtain⟨j2,h1,h⟩:=aP h
                obtain⟨a,h2,h⟩:=aP h
                obtain⟨b,h3,h⟩:=aP h
                obtain⟨j,h4,h⟩:=aP h
                obtain⟨n,h5,h⟩:=aP h
                cases h
                exact xO G hN hx hc.1 hc.2 (bR h1) (bR h2) (bR h3) (bR h4) h5
              · cases h
            · cases h
          · split at h
            · rename_i ds hx
              split at h
              · rename_i hc
                simp only[Bool.and_eq_true,Bool.not_eq_true'] at hc
                obtain⟨d,h1,h⟩:=aP h
                obtain⟨j,h4,h⟩:=aP h
                obtain⟨n,h5,h⟩:=aP h
                cases h
                exact Cj G hN hx hc.1.1 hc.1.2 hc.2 h1 (bR h4) h5
              · cases h
            · cases h
        · split at h
          · rename_i dss hx
            split at h
            · rename_i hc
              rw[Bool.and_eq_true,Bool.and_eq_true] at hc
              obtain⟨d,h1,h⟩:=aP h
              obtain⟨j1,h2,h⟩:=aP h
              obtain⟨n1,h3,h⟩:=aP h
              obtain⟨ds,h4,h⟩:=aP h
              obtain⟨j2,h5,h⟩:=aP h
              obtain⟨n2,h6,h⟩:=aP h
              split at h
              · rename_i h7
                cases h
                exact Ci G hN hx hc.1.1 hc.1.2 (by simpa using hc.2) h1 (bR h2) h3 h4 (bR h5) h6 h7
              · cases h
            · cases h
          · cases h
        · cases h
      · cases h
    | Expr v pos =>
      simp only[DE.st] at h
      split at h
      · rename_i x px m ap e cp
        split at h
        · rename_i ds hx
          split at h
          · rename_i hc
            rw[Bool.and_eq_true,Bool.and_eq_true] at hc
            obtain⟨⟨c1,c2⟩,c4⟩:=hc
            split at h
            · rename_i hc2
              rw[Bool.and_eq_true] at hc2
              simp only[Option.map_eq_some_iff] at h
              obtain⟨d,he,rfl⟩:=h
              have em:m="append":=by simpa using hc2.1
              subst em
              exact uD G hN hx c1 c2 c4 hc2.2 he
            · split at h
              · rename_i hc3
                obtain⟨d,he,h⟩:=aP h
                have em:m="extend":=by simpa using hc3
                subst em
                split at h
                · split at h
                  · rename_i hz
                    cases h
                    exact uz G hN hx c1 c2 c4 hz he
                  · cases h
                · split at h
                  · rename_i hz
                    cases h
                    exact rW G hN hx c1 c2 c4 hz he
                  · cases h
                · cases h
              · cases h
          · cases h
        · split at h
          · rename_i ds hx
            split at h
            · rename_i hc
              rw[Bool.and_eq_true,Bool.and_eq_true,Bool.and_eq_true,Bool.and_eq_true] at hc
              obtain⟨⟨⟨c1,c2⟩,c4⟩,c5,c6⟩:=hc
              obtain⟨d,he,h⟩:=aP h
              have em:m="append":=by simpa using c5
              subst em
              split at h
              · rename_i hfl
                cases h
                exact rY G hN hx c1 c2 c4 c6 he hfl
              · cases h
            · cases h
          · cases h
        · cases h
      · cases h
      · cases h
      · rename_i h1 h2 h3
        simp only[Option.map_eq_some_iff] at h
        obtain⟨d,he,rfl⟩:=h
        exact Ck G hN he fun a b c p q=>h2 a b c p q
    | If c a b pos =>
      simp only[DE.st] at h
      obtain⟨t,h1,h⟩:=aP h
      have he:=eU h1
      intro σ H Hs D hd _ hn hr
      have hN':X.N=(frz F c ρ).map (·.1):=by rw[aH];exact hN
      refine PS.sem (CT dW dH dH) (Bf G hN he hd fun Hs' H' sm h'=>?_)
      cases t with
      | true =>
        simp only[if_true] at h
        exact tR (block a _ fl hN' h σ H' Hs' D h' hN' (fun ρ2 σ2 Hs2 H2 q2 sm2=>hn ρ2 σ2 Hs2 H2 q2 (sm.trans sm2)) hr)
      | false =>
        simp only[Bool.false_eq_true,if_false] at h
        exact vH (block b _ fl hN' h σ H' Hs' D h' hN' (fun ρ2 σ2 Hs2 H2 q2 sm2=>hn ρ2 σ2 Hs2 H2 q2 (sm.trans sm2)) hr)
    | For tg iter body orelse pos =>
      simp only[DE.st] at h
      split at h
      · obtain⟨l,hI,h⟩:=aP h
        refine Hj G hN hI (fun d ρ1 fl hf hN1=>?_) h
        obtain⟨ρ2,g1,g2⟩:=aP hf
        exact⟨ρ2,g1,fun hN2=>block body ρ2 fl hN2 g2⟩
      · cases h
    | While c body orelse pos =>
      simp only[DE.st] at h
      split at h
      · exact xM G hN (fun ρ fl hN h=>block body ρ fl hN h) h
      · cases h
    | Try body handlers orelse final pos =>
      simp only[DE.st] at h
      split at h
      · rename_i c n' kn hto
        obtain⟨np,p1,p2,p3,hp,rfl,rfl,rfl⟩:=xJ hto
        split at h
        · rename_i fl' hfl
          cases h
          have hb:Runs X.nox Hs0 H0 ρ fl (gY X.nox body):=yN (fun ρ s fl hN h=>rT cx F n G.nox hN h) body ρ fl hN hfl
          intro σ H Hs D hd _ hn hr pins s I
          rw[arm_exec_Try]
          refine wpAny_bind (wpAny_standAt (wpAny_tryStmt_except ?_))
          refine wpAny_mono (hb σ H Hs D hd hN hn hr pins s (I.wish _)) (fun f s1 q=>?_) fun _ _ z=>z.elim
          have q':=q.unwish
          cases f with
          | next=>exact wpAny_execs_nil q'
          | brk=>exact q'
          | cont=>exact q'
          | ret u=>exact q'
        · split at h
          · rename_i c' ρ1 hx
            split at h
            · rename_i hc
              cases h
              simp only[Bool.and_eq_true] at hc
              obtain⟨⟨⟨⟨⟨⟨⟨⟨⟨h1,h2⟩,h3⟩,h4⟩,h5⟩,h6⟩,h7⟩,h8⟩,h9⟩,h10⟩:=hc
              refine Hg G hN (fun pn xe=>?_) h1 (by simpa using h2) h3 (by simpa using h4) h5 (by simpa using h6) (by simpa using h7) h8 h9 h10
              exact qU (X:=X.pinned pn xe) (fun ρ s fl hN h=>rT cx F n (G.pin_nox pn xe) hN h) (fun ρ s c ρ' hN h=>uw { cx with rs:=false } F n ((G.pin_nox pn xe).calm' false) hN h) body ρ hN hx
            · cases h
          · cases h
      · cases h
    | _=>exact nomatch (show(Option.none:Option Fl)=some fl from h)
theorem uw(cx:Cxt)(F:Nat):∀ (n:Nat) {k:Nat} {X:Cx} {sc:Scope} {ρ:Rho} {s:Stmt} {c:Str} {ρ':Rho} {Hs0 H0:Hp},GoodS cx k X.nox sc->X.N=ρ.map (·.1)->DE.stx cx F n sc ρ s=some (c,ρ')->wM cx.rs X Hs0 H0 ρ c ρ' (gZ X s)
  | 0,k,X,sc,ρ,s,c,ρ',Hs0,H0,_,_,h=>by simp[DE.stx] at h
  | n + 1, k, X, sc, ρ, s, c, ρ', Hs0, H0, G, hN, h => by
    have GX:Good cx k X sc:=⟨G.good.calm,G.good.room,G.good.sce,G.good.kind,G.good.nd,G.good.cst,G.good.blt,G.good.exs,G.good.fns,G.good.kw⟩
    have block:∀ (l:List Stmt) (ρ:Rho) (c:Str) (ρ':Rho),X.N=ρ.map (·.1)->gw (fun ρ s=>DE.st cx F n sc ρ s) (fun ρ s=>DE.stx cx F n sc ρ s) l ρ=some (c,ρ')->wM cx.rs X Hs0 H0 ρ c ρ' (gY X l):=fun l ρ c ρ' hN h =>
      qU (fun ρ s fl hN h=>rT cx F n G hN h) (fun ρ s c ρ' hN h=>uw cx F n G hN h) l ρ hN h
    simp only[DE.stx] at h
    split at h
    · rename_i cc np txt j p1 cpos pos
      split at h
      · rename_i hc
        cases h
        simp only[Bool.and_eq_true] at hc
        obtain⟨⟨⟨h1,h2⟩,h3⟩,h4⟩:=hc
        obtain⟨C,M,e1,_,e2,_⟩:=GX.exs.cls c h3
        have hg:Gl X c:=by
          have e:sc.names.lookup c=some .globalImplicit:=by unfold mJ at h2;simpa using h2
          show X.env.scope.names.lookup c=_
          rw[GX.sce,e]
        unfold aA at h4
        rw[Bool.and_eq_true,bne_iff_ne] at h4
        intro σ H Hs D hd _ hx pins s I
        obtain⟨E,x1,x2,x3⟩:=hx σ Hs H (.refl _) hN hd
        exact xW I GX.room.hd hg (GX.exs.glob _ _ e1) (by simpa using h4.1) e2 fun s2 h' e args I2 hm=>x3 h1 pins H s2 C e h' args I2 hm (x1 C H Hs e1 (.refl hd.ext.sub))
      · cases h
    · rename_i e pos
      split at h
      · cases h
      · rename_i hfr
        obtain⟨c1,h1,h2⟩:=Option.map_eq_some_iff.mp h
        cases h2
        intro σ H Hs D hd _ hx
        exact PS.sem (iu aq (zQ h1 (by simpa using hfr))) (rz GX hN h1 hd hx)
    · rename_i e pos
      obtain⟨c1,h1,h2⟩:=Option.map_eq_some_iff.mp h
      cases h2
      intro σ H Hs D hd _ hx
      exact PS.sem (Aa aq) (rz GX hN h1 hd hx)
    · rename_i x px e pos
      split at h
      · cases h
      · rename_i hfr
        obtain⟨c1,h1,h2⟩:=Option.map_eq_some_iff.mp h
        cases h2
        intro σ H Hs D hd _ hx pins s I
        exact wpAny_Assign_Name (thn (rz (Q:=fun _ _=>False) GX hN h1 hd hx pins s I) fun v s1 ⟨_,_,_,_,q⟩=>q.elim) (zQ h1 (by simpa using hfr))
    · rename_i cc a b pos
      split at h
      · rename_i kk hk
        have he:=eU hk
        have hN':X.N=(frz F cc ρ).map (·.1):=by rw[aH];exact hN
        intro σ H Hs D hd _ hx
        obtain⟨Hs1,sm1,h1⟩:=hd.frozen F cc
        refine PS.sem (CT dW dH dH) ((cU cx F GX hN' he).2 kk rfl σ H Hs1 _ h1.ext.sub h1.sh fun H' Hs' E=>?_)
        have h2:=h1.step E
        cases kk with
        | true=>exact tR (block a _ c ρ' hN' h σ H' Hs' D h2 hN' fun σ3 Hs3 H3 sm3=>hx σ3 Hs3 H3 ((sm1.trans E.vis).trans sm3))
        | false=>exact vH (block b _ c ρ' hN' h σ H' Hs' D h2 hN' fun σ3 Hs3 H3 sm3=>hx σ3 Hs3 H3 ((sm1.trans E.vis).trans sm3))
      · rename_i hk
        split at h
        · rename_i e hn
          obtain⟨c1,h1,h2⟩:=Option.map_eq_some_iff.mp h
          cases h2
          unfold uY at hn
          split at hn
          · rename_i f as ks p1 p2
            cases hn
            have hN':X.N=(frz F (.UnaryOp .Not (.Call f as ks p1) p2) ρ).map (·.1):=by rw[aH];exact hN
            intro σ H Hs D hd _ hx
            obtain⟨Hs1,sm1,hd1⟩:=hd.frozen F (.UnaryOp .Not (.Call f as ks p1) p2)
            obtain⟨E,e1,e2,_⟩:=hx σ Hs1 H sm1 hN' hd1
            exact PS.sem (CT (z6 (zZ aq)) dH dH) (jF cx F GX hN' h1 σ H Hs1 E hd1.ext.sub hd1.sh e1 e2 _)
          · cases hn
        · cases h
    · rename_i tg iter body pos
      split at h
      · obtain⟨c1,h1,h2⟩:=Option.map_eq_some_iff.mp h
        cases h2
        intro σ H Hs D hd _ hx pins s I
        rw[arm_exec_For]
        exact wpAny_bind (wpAny_standAt (wpAny_bind (thn (rz (Q:=fun _ _=>False) GX hN h1 hd hx pins s I) fun v s1 ⟨_,_,_,_,q⟩=>q.elim)))
      · cases h
    · cases h
end
end L2
namespace L2
open PySem PySem.Spec PyProof.Rows PySem.SeqAt
open DE hiding st
structure FunAt (K:PySem.W.Frag) (mg:Str->Option Value) (f:Str) (fd:Fd):Prop where
 ex:∃ (t:Stmt) (a:Addr) (g:FuncData),mg f=some (.ref a)/\Fun K f f t a g/\Binds K g fd.ps []/\fd.body=bV t/\fd.sc=aZ t
 fs:FnScope fd.N fd.ps fd.sc
 nd:(f==("__debug__":Str))=false
structure Text (w:World) (K:PySem.W.Frag) (mg:Str->Option Value) (P:Pg):Prop where
 cst:∀ x d,P.cst.lookup x=some d->∃ v u,(∀ H,Rep K H d v)/\mg x=some u/\RelV v u
 blt:∀ x b,P.blt.lookup x=some b->mg x=none/\x=Str.ofString b
 fns:∀ f fd,P.defs.lookup f=some fd->FunAt K mg f fd
 exs:XText K mg P.exs P.top
 kw:KnW K w
def Km(ps:List (Str×Str)):D:=.dic (ps.map fun p=>.inr p.1) (ps.map fun p=>.str p.2)
def dEs(o:Obj):Array DictEntry:=match o.data with | .dict es _=>es | _ => #[]
def dN(o:Obj):Nat:=match o.data with | .dict _ n=>n | _=>0
def isS(x:Str):Value->Bool
 | .str y _=>x==y
 | _=>false
theorem Ay{x:Str}{v:Value}(h:isS x v=true):∃ t,v=.str x t:=by
 unfold isS at h
 split at h
 ·rename_i y t
  have e:x=y:=by simpa using h
  subst e
  exact⟨t,rfl⟩
 ·cases h
def chk:List (Str×Str)->List DictEntry->Bool
 | [],[]=>true
 | p::r,e::es=>isS p.1 e.key&&isS p.2 e.val&&chk r es
 | _,_=>false
theorem Bo{K:PySem.W.Frag}{H:Hp}:∀ {ps:List (Str×Str)} {es:List DictEntry},chk ps es=true->∃ kvs:List (Key×V),kvs.map (·.1)=ps.map (fun p=>Sum.inr p.1)/\aM K H (ps.map fun p=>D.str p.2) (kvs.map (·.2))/\Paired (fun(p:Key×V) (e:DictEntry)=>(∃ x t,p.1=.inr x/\e.key=.str x t)/\RelV p.2 e.val) kvs es
  | [],[],_=>⟨[],rfl,.nil,.nil⟩
  | p :: r, e :: es, h => by
    simp only[chk,Bool.and_eq_true] at h
    obtain⟨⟨h1,h2⟩,h3⟩:=h
    obtain⟨kvs,g1,g2,g3⟩:=Bo (K:=K) (H:=H) h3
    obtain⟨t,e1⟩:=Ay h1
    obtain⟨t',e2⟩:=Ay h2
    exact⟨(.inr p.1,.str p.2)::kvs,by simp[g1],.cons (by simp[Rep]) g2,.cons ⟨⟨p.1,t,rfl,e1⟩,⟨t',e2⟩⟩ g3⟩
  | [],_::_,h=>by simp[chk] at h
  | _::_,[],h=>by simp[chk] at h
theorem JV{K:PySem.W.Frag}{H H':Hp}{ps:List (Str×Str)}{kvs:List (Key×V)}(h:aM K H (ps.map fun p=>D.str p.2) (kvs.map (·.2))):aM K H' (ps.map fun p=>D.str p.2) (kvs.map (·.2)):=by
  generalize kvs.map (·.2)=vs at h ⊢
  induction ps generalizing vs with
  | nil=>simpa[aM] using h
  | cons p r ih =>
    simp only[List.map_cons,aM] at h ⊢
    obtain⟨v,q,h1,h2,h3⟩:=h
    exact⟨v,q,h1,by simpa[Rep] using h2,ih _ h3⟩
theorem cD{K:PySem.W.Frag}{h:Heap}{mg:Str->Option Value}{x:Str}{ps:List (Str×Str)}(X:K.In h)(G:h.Ns mainGlobals mg)(a:Addr)(o:Obj)(e:PySem.W.nsIn K mainGlobals x=some (some (.ref a)))(l:K.lookup a=some o)(ex:o.ExactDict)(hd:o.data=.dict (dEs o) (dN o))(hc:(chk ps (dEs o).toList&&nD (ps.map (·.1)))=true)(hs:(a==sysModules)=false) :
  ∃ v u,(∀ H,Rep K H (Km ps) v)/\mg x=some u/\RelV v u:=by
 rw[Bool.and_eq_true] at hc
 obtain⟨kvs,g1,g2,g3⟩:=Bo (K:=K) (H:=fun _=>none) hc.1
 have nd:(kvs.map (·.1)).Nodup:=by
  rw[g1]
  have n:=ju hc.2
  have q:(ps.map fun p=>(Sum.inr p.1:Key))=(ps.map (·.1)).map Sum.inr:=by simp
  rw[q]
  exact List.Pairwise.map _ (fun a b hab z=>hab (Sum.inr.inj z)) n
 refine⟨.ref a,_,fun H=>?_,PySem.W.mg_of X G e,rfl⟩
 unfold Km
 simp only[Rep]
 exact⟨a,kvs,rfl,.inr ⟨o,dEs o,dN o,l,ex,hd,hs,nd,g3⟩,g1,JV g2⟩
theorem kJ{α:Type}:∀ {l:List (Str×α)} {x:Str},(l.map (·.1)).contains x=true->∃ a,l.lookup x=some a
  | [],x,h=>by simp at h
  | (y, a) :: r, x, h => by
    rw[List.lookup_cons]
    cases hb:x==y with
    | true=>exact⟨a,rfl⟩
    | false =>
      refine kJ ?_
      rw[List.map_cons,List.contains_cons,hb,Bool.false_or] at h
      exact h
theorem ux{K:PySem.W.Frag}{H:Hp}{fd:Fd}{ds:List D}{vs:List V}(S:FnScope fd.N fd.ps fd.sc)(hl:ds.length=fd.ps.length)(r:aM K H ds vs) :
  fd.N=(cJ fd ds).map (·.1)/\(start fd.N vs).length=(cJ fd ds).length/\∀ (i:Nat) (x:Str) (s:Sl),(cJ fd ds)[i]?=some (x,s)->(s=.no\/∃ d v,s=.sh d/\(start fd.N vs)[i]?=some (some v)/\Rep K H d v):=by
 have lv:=r.length
 have lz:(fd.ps.zip (ds.map Sl.sh)).length=fd.ps.length:=by rw[List.length_zip,List.length_map];omega
 have hpl:fd.ps.length<=fd.N.length:=by have:=congrArg List.length S.pre;rw[List.length_take] at this;omega
 refine⟨?_,?_,fun i x s e=>?_⟩
 ·unfold cJ
  rw[List.map_append,List.map_map,List.map_fst_zip (by rw[List.length_map];omega)]
  have:(fd.N.drop fd.ps.length).map ((fun p:Str×Sl=>p.1)∘fun x=>(x,Sl.no))=fd.N.drop fd.ps.length:=by
   rw[show((fun p:Str×Sl=>p.1)∘fun x=>(x,Sl.no))=id from rfl,List.map_id]
  rw[this]
  conv=>lhs;rw[<- List.take_append_drop fd.ps.length fd.N,S.pre]
 ·unfold start cJ
  rw[List.length_append,List.length_append,lz]
  simp
  omega
 ·unfold cJ at e
  by_cases hi:i<fd.ps.length
  ·rw[List.getElem?_append_left (by rw[lz];exact hi),List.getElem?_zip_eq_some] at e
   obtain⟨_,e2⟩:=e
   rw[List.getElem?_map] at e2
   obtain⟨d,e3,rfl⟩:=Option.map_eq_some_iff.mp e2
   obtain⟨v,g1,g2⟩:=r.get e3
   refine .inr ⟨d,v,rfl,?_,g2⟩
   unfold start
   rw[List.getElem?_append_left (by rw[List.length_map];omega),List.getElem?_map,g1]
   rfl
  ·rw[List.getElem?_append_right (by rw[lz];omega),List.getElem?_map] at e
   obtain⟨y,_,e3⟩:=Option.map_eq_some_iff.mp e
   cases e3
   exact .inl rfl
section
variable {P:Program} {w:World} {K:PySem.W.Frag} {mg:Str->Option Value} {base:Heap} {T:Pg} {F:Nat}
abbrev vR(c:Str->List D->Option Rs):Str->List D->Option D:=fun f ds=>Rs.val? (c f ds)
abbrev xR(c:Str->List D->Option Rs):Str->List D->Option Str:=fun f ds=>Rs.exc? (c f ds)
theorem iW{o:Option Rs}{d:D}(h:Rs.val? o=some d):o=some (.val d):=by
 unfold Rs.val? at h
 split at h
 ·cases h;rfl
 ·cases h
theorem iZ{o:Option Rs}{c:Str}(h:Rs.exc? o=some c):o=some (.exc c):=by
 unfold Rs.exc? at h
 split at h
 ·cases h;rfl
 ·cases h
theorem jc{k:Nat}{f:Str}{fd:Fd}(hf:T.defs.lookup f=some fd):∀ ds r,fj T F k f ds=some r->ds.length=fd.ps.length:=by
  intro ds d h
  cases k with
  | zero=>simp[pR] at h
  | succ k =>
    simp only[jQ,hf] at h
    split at h
    · rename_i hl;simpa using hl
    · cases h
theorem Fun.okX{x qual:Str}{st:Stmt}{f:Addr}{fd:FuncData}{N ps:List Str}{k:Nat}{sp:Sp}(F:Fun K x qual st f fd)(S:FnScope N ps (aZ st))(len:∀ vs H Q E,sp vs H Q E->vs.length=ps.length)
    (hbody:∀ (cdv:Value) (A:Around) (outer:List Env) (s:Shared) (H:Hp) (vs:List V) (Q:VK) (E:XK),Room k (A.deeper (envOfC qual (aZ st) s.heap.objs.size f cdv))->sp vs H Q E ->
      ∃ t,PSs (iC (CX1 P w) P w K mg base N qual (aZ st) f cdv A outer s H E) (bV st) t/\t { nx:=fun _ H'=>Q .non H',rt:=Q } (start N vs) H):FnOk P w K mg base (CX1 P w) (k+1) f fd ps sp:=by
  obtain⟨oc,od,kV,doc,pm,an,cdv,ct,osl,rfl,lk,hcd⟩:=F.ex
  exact RM lk hcd S len fun A outer s H vs Q E hr hsp=>hbody cdv A outer s H vs Q E hr hsp
theorem Bs(X:Text w K mg T):∀ (k:Nat) (f:Str) (fd:Fd) (t:Stmt) (a:Addr) (g:FuncData),T.defs.lookup f=some fd->Fun K f f t a g->fd.body=bV t->fd.sc=aZ t->FnScope fd.N fd.ps fd.sc->FnOk P w K mg base (CX1 P w) k a g fd.ps (spX K (vR (fj T F k)) (xR (fj T F k)) f fd.ps)
  | 0, f, fd, t, a, g, hf, Fn, hb, hs, S => by
    refine⟨fun vs H Q E h=>h.1,fun A outer s H args us vs Q E _ _ _ _ h=>?_⟩
    obtain⟨_,Hs,ds,_,_,⟨d,hc,_⟩ | ⟨c,hc,_⟩⟩:=h
    · have:=iW hc;simp[pR] at this
    · have:=iZ hc;simp[pR] at this
  | k + 1, f, fd, t, a, g, hf, Fn, hb, hs, S => by
    refine Fun.okX (N:=fd.N) Fn (by rw[<- hs];exact S) (fun vs H Q E h=>h.1) fun cdv A outer s H vs Q E hr h=>?_
    obtain⟨hlv,Hs,ds,hsm,rl,hcase⟩:=h
    have hld:ds.length=fd.ps.length:=by
      rcases hcase with⟨d,hc,_⟩ | ⟨c,hc,_⟩
      · exact jc hf ds _ (iW hc)
      · exact jc hf ds _ (iZ hc)
    have unf:fj T F (k+1) f ds=ou (T.cx (fj T F k)) F fd.sc fd.body (cJ fd ds):=by
      simp only[jQ,hf]
      rw[if_pos (by simpa using hld)]
    obtain⟨s1,s2,s3⟩:=ux S hld rl
    refine⟨gY _ (bV t),dH,?_⟩
    have G:GoodS (T.cx (fj T F k)) k (iC (CX1 P w) P w K mg base fd.N f (aZ t) a cdv A outer s H E).nox fd.sc :=
      { good := { calm := rfl, room := hr, sce := hs.symm, kind := S.kind, nd := S.nd, cst := X.cst, blt := X.blt, exs := X.exs, kw := X.kw
                  fns:=fun f' hf'=>by
                    obtain⟨fd',hl'⟩:=kJ (l:=T.defs) hf'
                    have FA:=X.fns f' fd' hl'
                    obtain⟨t',a',g',m1,m2,m3,m4,m5⟩:=FA.ex
                    exact⟨FA.nd,a',g',fd'.ps,fun ds d h=>jc hl' ds _ (iW h),fun ds c h=>jc hl' ds _ (iZ h),m1,m2.kp,m3,Bs X k f' fd' t' a' g' hl' m2 m4 m5 FA.fs⟩ }
        own:=⟨fun x hx=>⟨by
          unfold ownIn at hx
          rw[Bool.or_eq_true] at hx
          show(aZ t).names.lookup x=_\/(aZ t).names.lookup x=_
          rw[<- hs]
          exact hx.imp (fun q=>by simpa using q) (fun q=>by simpa using q),.inl rfl⟩⟩
        pass:=PassesOwn.never
        stk:=⟨rfl,rfl⟩ }
    have noow:∀ (i:Nat) (x:Str) (ds':List D),(cJ fd ds)[i]?=some (x,.ow ds')->False:=fun i x ds' e=>by
      rcases s3 i x _ e with q | ⟨d',v,q,q1,q2⟩
      · cases q
      · cases q
    have hd:Hd K Hs H Hs H (cJ fd ds) (start fd.N vs):=by
      refine⟨.refl hsm,s2,fun i x d e=>?_,fun i x ds' e=>(noow i x ds' e).elim,fun i j x y ds' es a' _ e=>(noow i x ds' e).elim,fun i x dss e=>by
        rcases s3 i x _ e with q | ⟨d',v,q,q1,q2⟩
        · cases q
        · cases q⟩
      rcases s3 i x _ e with q | ⟨d',v,q,q1,q2⟩
      · cases q
      · cases q
        exact⟨v,q1,q2⟩
    rcases hcase with⟨d,hc,hq⟩ | ⟨c,hc,hq⟩
    · have hc':=iW hc
      rw[unf] at hc'
      unfold ou at hc'
      intro pins s0 I
      have fin:∀ fl,iQ (fun ρ s=>DE.st (T.cx (fj T F k)) F F fd.sc ρ s) fd.body (cJ fd ds)=some fl->(match fl with | .ret d'=>d'=d | .nxt _=>d=.non)->gY (iC (CX1 P w) P w K mg base fd.N f (aZ t) a cdv A outer s H E).nox (bV t) { nx:=fun _ H'=>Q .non H',rt:=Q } (start fd.N vs) H:=by
        intro fl hg hfl
        rw[hb] at hg
        refine yN (fun ρ s fl hN h=>rT _ F F G hN h) (bV t) (cJ fd ds) fl s1 hg (start fd.N vs) H Hs _ hd s1 (fun ρ' σ' Hs' H' q _ _ hd'=>?_) fun d' v Hs' H' q E' r=>?_
        · subst q
          have e:d=.non:=hfl
          subst e
          exact hq .non H' Hs' hd'.ext (by simp[Rep])
        · subst q
          have e:d'=d:=hfl
          subst e
          exact hq v H' Hs' E' r
      have key:gY (iC (CX1 P w) P w K mg base fd.N f (aZ t) a cdv A outer s H E).nox (bV t) { nx:=fun _ H'=>Q .non H',rt:=Q } (start fd.N vs) H:=by
        split at hc'
        · rename_i d' hg;cases hc';exact fin _ hg rfl
        · rename_i ρ' hg;cases hc';exact fin _ hg rfl
        · split at hc'<;>cases hc'
      exact wpAny_mono (key pins s0 (I.wish _)) (fun _ _ q=>q.unwish) fun _ _ z=>False.elim z
    · have hc':=iZ hc
      rw[unf] at hc'
      unfold ou at hc'
      split at hc'
      · cases hc'
      · cases hc'
      · split at hc'
        · rename_i c' ρ' hg
          cases hc'
          rw[hb] at hg
          refine qU (rs:=true) (X:=iC (CX1 P w) P w K mg base fd.N f (aZ t) a cdv A outer s H E) (fun ρ s fl hN h=>rT _ F F G hN h) (fun ρ s c ρ' hN h=>uw _ F F G hN h) (bV t) (cJ fd ds) s1 hg (start fd.N vs) H Hs _ hd s1 fun σ1 Hs1 H1 _ _ hd1=>?_
          refine⟨E,fun C H2 Hs2 q E2=>hq C H2 Hs2 q (hd1.ext.trans E2),fun pins H2 s2 e s3 I2 hcx=>uT pins σ1 H2 s2 e s3 I2 hcx,fun _ pins H2 s2 C e h' args I2 hm hE=>sy I2 hm hE⟩
        · cases hc'
theorem FnOk.calm{k:Nat}{f:Addr}{fd:FuncData}{ps:List Str}{sp:Sp}(F:FnOk P w K mg base (CX1 P w) k f fd ps sp)(h:∀ vs H Q E,sp vs H Q E->sp vs H Q E0):FnOk P w K mg base CX0 k f fd ps sp :=
  ⟨F.len,fun A outer s H args us vs Q E hr he hb hv hs=>codeAny_mono (F.run A outer s H args us vs Q E0 hr he hb hv (h _ _ _ _ hs)) fun r s' q=>by
    cases r with
    | error e=>obtain⟨_,_,_,_,_,_,z⟩:=(show CX1 P w outer H s E0 e s' from q);exact z.elim
    | ok fl=>cases fl<;>exact q⟩
def qG(K:PySem.W.Frag):Sp:=fun vs H Q _=>∃ (a:Addr) (ns:List Int),vs=[.ref a]/\SqL K H a (ns.map V.int)/\ns.length<=63/\∀ H',Q (.bl true) H'
theorem Jd{k:Nat}{f:Str}{fd:Fd}{t:Stmt}{a:Addr}{g:FuncData}(X:Text w K mg T)(hf:T.defs.lookup f=some fd)(Fn:Fun K f f t a g)(hb:fd.body=bV t)(hs:fd.sc=aZ t)(S:FnScope fd.N fd.ps fd.sc)(h1:fd.ps.length=1)
  (hlaw:∀ ns:List Int,ns.length<=63->aJ T F k f [.lst (ns.map D.int)]=some (.bl true)):FnOk P w K mg base CX0 k a g fd.ps (qG K):=by
 refine FnOk.calm ((Bs (F:=F) X k f fd t a g hf Fn hb hs S).imp fun vs H Q E h=>?_) fun _ _ _ _ h=>h
 obtain⟨p,ns,rfl,hS,hl,q⟩:=h
 refine⟨by rw[h1];rfl,H,[.lst (ns.map D.int)],.refl _,.cons ?_ .nil,.inl ⟨.bl true,by have:=hlaw ns hl;rw[gR] at this;exact this,fun v H' Hs' _ r=>by rw[cQ r];exact q H'⟩⟩
 simp only[Rep]
 exact⟨p,ns.map V.int,rfl,hS,lK (fun x=>by simp[Rep]) ns⟩
end
end L2
namespace DE
open PySem
def Ls{α:Type}(m:Nat)(h:Nat->α):List α:=(List.range m).map h
theorem cj{α:Type}{m:Nat}{h:Nat->α}:(Ls m h).length=m:=by simp[Ls]
theorem lu{α:Type}{m i:Nat}{h:Nat->α}(hi:i<m):(Ls m h)[i]?=some (h i):=by simp[Ls,hi]
theorem Bu{α β:Type}{m:Nat}{h:Nat->α}{f:α->β}:(Ls m h).map f=Ls m fun i=>f (h i):=by
 unfold Ls;rw[List.map_map];rfl
theorem Bt{α:Type}{m:Nat}{h:Nat->α}:(Ls m h).reverse=Ls m fun i=>h (m-1-i):=by
 apply List.ext_getElem?
 intro i
 by_cases hi:i<m
 ·rw[List.getElem?_reverse (by rw[cj];exact hi),cj,lu hi,lu (by omega)]
 ·rw[List.getElem?_eq_none (by rw[List.length_reverse,cj];omega),List.getElem?_eq_none (by rw[cj];omega)]
theorem JX{α β:Type}{m:Nat}{h:Nat->α}{g:Nat->β}:(Ls m h).zip (Ls m g)=Ls m fun i=>(h i,g i):=by
 apply List.ext_getElem?
 intro i
 by_cases hi:i<m
 ·rw[lu hi,List.getElem?_zip_eq_some]
  exact⟨lu hi,lu hi⟩
 ·rw[List.getElem?_eq_none (by rw[List.length_zip,cj,cj];omega),List.getElem?_eq_none (by rw[cj];omega)]
theorem qe{α:Type}{m:Nat}{h:Nat->α}:Ls (m+1) h=Ls m h++[h m]:=by
 unfold Ls;rw[List.range_succ,List.map_append];rfl
theorem wJ{m:Nat}{h:Nat->D}{j:Nat}(hj:j<m):atD (Ls m h) (j:Int)=some (h j):=by
 unfold atD ixD
 rw[cj,if_pos (by omega),if_pos (by omega)]
 simp[lu hj]
theorem gk{l:List D}{j:Nat}{d:D}(h:l[j]?=some d):atD l (j:Int)=some d:=by
 have hj:=(List.getElem?_eq_some_iff.mp h).1
 unfold atD ixD
 rw[if_pos (by omega),if_pos (by omega)]
 simpa using h
theorem uI{n:Nat}:dj 0 (n:Int)=Ls n fun k=>.int (k:Int):=by
 unfold dj Ls
 simp
def Ws(cx:Cxt)(sc:Scope)(ρ:Rho)(x:Str):Option D:=if aA x then(match sc.names.lookup x with
        | some .local=>(match ρ.lookup x with | some (.sh d)=>some d | _=>none)
        | some .cell=>(match ρ.lookup x with | some (.sh d)=>some d | _=>none)
        | some .free=>(match ρ.lookup x with | some (.sh d)=>some d | _=>none)
        | some .globalImplicit=>cx.cst.lookup x
        | _=>none) else none
def W0(c:Const):Option D:=(match c with
        | .none=>some .non
        | .bool b=>some (.bl b)
        | .int i=>some (.int i)
        | .str x=>some (.str x)
        | _=>none)
section
variable {cx:Cxt} {n:Nat} {sc scope:Scope} {ρ:Rho} {a b c e:Expr} {es:List Expr} {p q:Pos} {x y z d:D} {ds:List D} {nm:Str} {op op':CmpOp}
theorem xName(h:Ws cx sc ρ nm=some d):ev cx (n+1) sc ρ (.Name nm p)=some d:=h
theorem ak{k:Const}{j:Nat}(h:W0 k=some d):ev cx (n+1) sc ρ (.Constant k j p)=some d:=h
theorem bW{o:Operator}(h1:ev cx n sc ρ a=some x)(h2:ev cx n sc ρ b=some y)(h:binop o x y=some d):ev cx (n+1) sc ρ (.BinOp a o b p)=some d:=by
 simp only[ev,h1,h2];exact h
theorem J3{t:Bool}(h1:ev cx n sc ρ a=some (.bl t)):ev cx (n+1) sc ρ (.UnaryOp .Not a p)=some (.bl (!t)):=by
 simp only[ev,h1];rfl
theorem bZ(h1:ev cx n sc ρ a=some (.bl true)):ev cx (n+1) sc ρ (.UnaryOp .Not a p)=some (.bl false):=J3 h1
theorem jg(h1:ev cx n sc ρ a=some (.bl false)):ev cx (n+1) sc ρ (.UnaryOp .Not a p)=some (.bl true):=J3 h1
theorem Gu{i:Int}(h1:ev cx n sc ρ a=some (.int i)):ev cx (n+1) sc ρ (.UnaryOp .USub a p)=some (.int (-i)):=by
 simp only[ev,h1];rfl
theorem lC(h1:ev cx n sc ρ a=some (.bl true))(h2:bY .And (ev cx n sc ρ) (b::es)=some d):bY .And (ev cx n sc ρ) (a::b::es)=some d:=by
 simp only[bY,h1];exact h2
theorem xr(h1:ev cx n sc ρ a=some (.bl false)):bY .And (ev cx n sc ρ) (a::b::es)=some (.bl false):=by
 simp only[bY,h1];rfl
theorem fQ(h1:ev cx n sc ρ a=some (.bl false))(h2:bY .Or (ev cx n sc ρ) (b::es)=some d):bY .Or (ev cx n sc ρ) (a::b::es)=some d:=by
 simp only[bY,h1];exact h2
theorem wQ(h1:ev cx n sc ρ a=some (.bl true)):bY .Or (ev cx n sc ρ) (a::b::es)=some (.bl true):=by
 simp only[bY,h1];rfl
theorem fU{o:BoolOp}(h1:ev cx n sc ρ a=some d):bY o (ev cx n sc ρ) [a]=some d:=h1
theorem bB{o:BoolOp}(h:bY o (ev cx n sc ρ) es=some d):ev cx (n+1) sc ρ (.BoolOp o es p)=some d:=h
theorem bC(h1:ev cx n sc ρ a=some x)(h2:ev cx n sc ρ b=some y)(h:cmpop op x y=some d):ev cx (n+1) sc ρ (.Compare a [op] [b] p)=some d:=by
 simp only[ev,h1,h2];exact h
theorem xg(h1:ev cx n sc ρ a=some x)(h2:ev cx n sc ρ b=some y)(h:cmpop op x y=some (.bl true))(h3:ev cx n sc ρ c=some z)(h4:cmpop op' y z=some d)(hp:aB c=true:=by rfl):ev cx (n+1) sc ρ (.Compare a [op,op'] [b,c] p)=some d:=by
 simp only[ev,h1,h2,h3,hp]
 show((cmpop op x y).bind asB).bind _=_
 rw[h];exact h4
theorem Gx(h1:ev cx n sc ρ c=some (.bl true))(h2:ev cx n sc ρ a=some d):ev cx (n+1) sc ρ (.IfExp c a b p)=some d:=by
 simp only[ev,h1];exact h2
theorem Gz(h1:ev cx n sc ρ c=some (.bl false))(h2:ev cx n sc ρ b=some d):ev cx (n+1) sc ρ (.IfExp c a b p)=some d:=by
 simp only[ev,h1];exact h2
theorem aK{f:Expr->Option D}:jX f []=some []:=rfl
theorem aj{f:Expr->Option D}(h1:f a=some x)(h2:jX f es=some ds):jX f (a::es)=some (x::ds):=by
 simp only[jX,h1,h2];rfl
theorem eY{j:Nat}(h1:jX (ev cx n sc ρ) es=some ds)(hz:szl ds.length=true):ev cx (n+1) sc ρ (.Tuple es j p)=some (.tup ds):=by
 simp only[ev,h1]
 show(if szl ds.length=true then _ else _)=_
 rw[if_pos hz]
theorem oV(h1:jX (ev cx n sc ρ) es=some ds)(hz:szl ds.length=true):ev cx (n+1) sc ρ (.List es p)=some (.lst ds):=by
 simp only[ev,h1]
 show(if szl ds.length=true then _ else _)=_
 rw[if_pos hz]
theorem Ce{x:D}{i:Int}{xs:List D}(h:items x=some xs):Gg x (.int i)=atD xs i:=by cases x<;>simp[items] at h<;>subst h<;>rfl
theorem xIx{i:Int}{xs:List D}(h1:ev cx n sc ρ a=some x)(h2:ev cx n sc ρ b=some (.int i))(h3:items x=some xs)(h4:atD xs i=some d)(hs:aB b=true:=by rfl):ev cx (n+1) sc ρ (.Subscript a b p)=some d:=by
 simp only[ev,h1]
 show Option.bind _ _=_
 cases b<;>first | (simp[aB] at hs;done) | (simp only[h2];show Gg x (.int i)=some d;rw[Ce h3];exact h4)
theorem Kw{y:D}(h1:ev cx n sc ρ a=some x)(h2:ev cx n sc ρ b=some y)(h:Gg x y=some d)(hs:aB b=true:=by rfl):ev cx (n+1) sc ρ (.Subscript a b p)=some d:=by
 simp only[ev,h1]
 show Option.bind _ _=_
 cases b<;>first | (simp[aB] at hs;done) | (simp only[h2];exact h)
def oI(cx:Cxt)(n:Nat)(sc:Scope)(ρ:Rho):Option Expr->Option (Option Int)
 | none=>some none
 | some e=>(ev cx n sc ρ e).bind fun d=>(asI d).map some
theorem R3{us:List D}{lo hi:Option Expr}{l u:Option Int}(h1:ev cx n sc ρ a=some (.lst us))(h2:oI cx n sc ρ lo=some l)(h3:oI cx n sc ρ hi=some u) :
  ev cx (n+1) sc ρ (.Subscript a (.Slice lo hi none q) p)=some (.lst (tD us l u)):=by
 unfold oI at h2 h3
 simp only[ev,h1,bind,Option.bind_some]
 have e:∀ (A B:Option (Option Int)),A=some l->B=some u->(A.bind fun l=>B.bind fun h=>some (D.lst (tD us l h)))=some (.lst (tD us l u)):=by
  intro A B ha hb
  subst ha hb
  rfl
 exact e _ _ h2 h3
theorem Ip:oI cx n sc ρ none=some none:=rfl
theorem Io{i:Int}(h:ev cx n sc ρ e=some (.int i)):oI cx n sc ρ (some e)=some (some i):=by
 simp only[oI,h];rfl
theorem iK{t:Expr}{T:String}(hg:bx cx sc nm=some "isinstance")(ht:tyOf cx sc t=some T)(hk:f9 T=true)(h1:ev cx n sc ρ a=some x)(h:tU T x=c')(hxo:xOf cx sc t=none:=by rfl)(hne:isExc x=false:=by rfl):ev cx (n+1) sc ρ (.Call (.Name nm q) [a,t] [] p)=some (.bl c'):=by
 unfold bx at hg
 split at hg
 ·rename_i hgl
  subst h
  simp only[ev,hgl,hg,h1,ht,if_true,hxo,bind,Option.bind_some]
  cases x<;>first | (show(if f9 T=true then _ else _)=_;rw[if_pos hk]) | exact absurd hne (by simp[isExc])
 ·cases hg
theorem dG{B:String}(hg:bx cx sc nm=some B)(hw:GF cx sc B es=.al)(hn:(B=="isinstance"||es.isEmpty)=false)(h1:jX (ev cx n sc ρ) es=some ds)(h:blt B ds=some d):ev cx (n+1) sc ρ (.Call (.Name nm q) es [] p)=some d:=by
 rw[Bool.or_eq_false_iff] at hn
 unfold bx at hg
 split at hg
 ·rename_i hgl
  simp only[ev,hgl,hg,if_true]
  split
  ·rename_i he;cases he;simp at hn
  ·rename_i he;cases he
   simp only[hw,hn.2,h1,Bool.false_eq_true,if_false]
   exact h
  ·rename_i he;cases he
 ·cases hg
def isFn(cx:Cxt)(sc:Scope)(nm:Str)(es:List Expr):Bool:=mJ cx sc nm&&(cx.blt.lookup nm).isNone&&cx.fns.contains nm && !es.isEmpty
theorem aD(hf:isFn cx sc nm es=true)(h1:jX (ev cx n sc ρ) es=some ds)(h:cx.call nm ds=some d):ev cx (n+1) sc ρ (.Call (.Name nm q) es [] p)=some d:=by
 unfold isFn at hf
 rw[Bool.and_eq_true,Bool.and_eq_true,Bool.and_eq_true] at hf
 obtain⟨⟨⟨h2,h3⟩,h4⟩,h5⟩:=hf
 have h3':cx.blt.lookup nm=none:=by simpa using h3
 simp only[ev,h2,h3',h4,h5,Bool.and_self,if_true,h1]
 exact h
theorem wR1{tup:Bool}{j:Int}(hw:ud cx sc e=.r1 a)(h1:ev cx n sc ρ a=some (.int j))(hz:eZ j=true):evI cx tup (ev cx n sc ρ) sc e=some (dj 0 j):=by
 unfold evI
 rw[hw]
 simp only[h1,Option.bind_some,asI]
 show(if eZ j=true then _ else _)=_
 rw[if_pos hz]
theorem wZp{xs ys:List D}(hw:ud cx sc e=.zp a b)(h1:ev cx n sc ρ a=some (.tup xs))(h2:ev cx n sc ρ b=some (.tup ys)):evI cx true (ev cx n sc ρ) sc e=some ((xs.zip ys).map fun q=>.tup [q.1,q.2]):=by
 unfold evI
 rw[hw]
 simp only[h1,h2,bind,Option.bind_some]
 rfl
theorem VH{tup:Bool}{xs:List D}(hw:ud cx sc e=.rv a)(h1:ev cx n sc ρ a=some (.lst xs)):evI cx tup (ev cx n sc ρ) sc e=some xs.reverse:=by
 unfold evI
 rw[hw]
 simp only[h1,Option.bind_some,DY]
 rfl
theorem wSq{tup:Bool}{xs:List D}(hw:ud cx sc e=.sq)(h1:ev cx n sc ρ e=some x)(h2:items x=some xs):evI cx tup (ev cx n sc ρ) sc e=some xs:=by
 unfold evI
 rw[hw]
 simp only[h1,Option.bind_some]
 exact h2
theorem bh{f:D->Option (Option D)}{h g:Nat->D}:∀ {m:Nat},(∀ i,i<m->f (h i)=some (some (g i)))->bK f (Ls m h)=some (Ls m g):=by
  have key:∀ (l:List Nat),(∀ i∈l,f (h i)=some (some (g i)))->bK f (l.map h)=some (l.map g):=by
    intro l
    induction l with
    | nil=>intro _;rfl
    | cons i r ih =>
      intro hi
      simp only[List.map_cons,bK,hi i List.mem_cons_self,ih fun j hj=>hi j (List.mem_cons_of_mem _ hj)]
      rfl
  intro m hm
  exact key _ fun i hi=>hm i (List.mem_range.mp hi)
def cF(cx:Cxt)(n:Nat)(sc scope:Scope)(ρ:Rho)(tg elt:Expr)(ifs:List Expr):D->Option (Option D):=fun d=>do
 let ρ1 <- fP scope tg d (bI scope ρ)
 let b <- lW (ev cx n (jU scope sc) ρ1) ifs
 if b then(ev cx n (jU scope sc) ρ1 elt).map some else some none
theorem dg{tg elt:Expr}{ρ1:Rho}(h1:fP scope tg x (bI scope ρ)=some ρ1)(h2:ev cx n (jU scope sc) ρ1 elt=some d):cF cx n sc scope ρ tg elt [] x=some (some d):=by
 simp only[cF,h1,lW]
 show Option.map some (ev cx n (jU scope sc) ρ1 elt)=_
 rw[h2];rfl
theorem Ga{tg elt:Expr}{ρ1:Rho}{t:Bool}(h1:fP scope tg x (bI scope ρ)=some ρ1)(h3:ev cx n (jU scope sc) ρ1 c=some (.bl t))(h2:ev cx n (jU scope sc) ρ1 elt=some d):cF cx n sc scope ρ tg elt [c] x=some (if t then some d else none):=by
 simp only[cF,h1,lW,h3,h2,bind,Option.bind_some,asB]
 cases t<;>rfl
theorem cW{tg elt iter:Expr}{ifs:List Expr}{l out:List D}(hok:fY sc scope=true)(hI:evI cx (fX tg) (ev cx n sc ρ) sc iter=some l)(hz:szl l.length=true)(hgo:bK (cF cx n sc scope ρ tg elt ifs) l=some out) :
  ev cx (n+1) sc ρ (.ListComp elt [⟨tg,iter,ifs,0⟩] scope p)=some (.lst out):=by
 simp only[ev,hok,hI]
 show(if szl l.length=true then(bK (cF cx n sc scope ρ tg elt ifs) l).bind (fun out=>some (D.lst out)) else none)=some (D.lst out)
 rw[if_pos hz,hgo]
 rfl
variable {F:Nat} {f:Rho->Stmt->Option Fl} {r:List Stmt} {fl:Fl} {m:Nat}
abbrev blk(cx:Cxt)(F m:Nat)(sc:Scope):List Stmt->Rho->Option Fl:=iQ (fun ρ s=>st cx F m sc ρ s)
theorem dh:blk cx F m sc [] ρ=some (.nxt ρ):=rfl
def oY(cx:Cxt)(F m:Nat)(sc:Scope)(r:List Stmt):Fl->Option Fl
 | .ret d=>some (.ret d)
 | .nxt ρ'=>blk cx F m sc r ρ'
theorem gSt{s:Stmt}{fl1:Fl}(h:st cx F m sc ρ s=some fl1)(k:oY cx F m sc r fl1=some fl):blk cx F m sc (s::r) ρ=some fl:=by
 show(st cx F m sc ρ s).bind _=_
 rw[h]
 cases fl1<;>exact k
theorem dO(h:ev cx F sc (frz F e ρ) e=some d):blk cx F (m+1) sc (.Return (some e) p::r) ρ=some (.ret d):=by
 refine gSt (fl1:=.ret d) ?_ rfl
 simp only[st,h];rfl
theorem mK{px:Pos}(ho:(ownIn sc nm&&(ρ.map (·.1)).contains nm)=true)(h:ev cx F sc (frz F e ρ) e=some d)(k:blk cx F (m+1) sc r (cC (frz F e ρ) nm (jh e d))=some fl)(hoo:(ooE cx sc e&&nA (frz F e ρ) nm)=false:=by rfl)(hno:(aY e && !iU (frz F e ρ) nm)=false:=by rfl)(hle:wX cx sc e=false:=by rfl):blk cx F (m+1) sc (.Assign [.Name nm px] e p::r) ρ=some fl:=by
 refine gSt (fl1:=.nxt _) ?_ k
 simp only[st,h,if_pos ho,hoo,hno,hle,Bool.false_and,Bool.false_eq_true,if_false];rfl
theorem Rx{px:Pos}{ρ':Rho}(hf:frz F e (frz 0 e ρ)=ρ')(ho:(ownIn sc nm&&(ρ.map (·.1)).contains nm)=true)(h:ev cx F sc ρ' e=some d)(k:blk cx F (m+1) sc r (cC ρ' nm (jh e d))=some fl)(hoo:(ooE cx sc e&&nA (frz F e ρ) nm)=false)(hno:(aY e && !iU (frz F e ρ) nm)=true)(hno2:iU ρ' nm=true)(hle:wX cx sc e=false:=by rfl):blk cx F (m+1) sc (.Assign [.Name nm px] e p::r) ρ=some fl:=by
 subst hf
 refine gSt (fl1:=.nxt _) ?_ k
 simp only[st,h,if_pos ho,hoo,hno,hno2,hle,Bool.false_and,Bool.false_eq_true,if_false,if_true];rfl
theorem Ju{px:Pos}{ρ':Rho}{dss:List (List D)}(hf:frz F e ρ=ρ')(ho:(ownIn sc nm&&(ρ.map (·.1)).contains nm)=true)(h:ev cx F sc ρ' e=some d)(hd:yF d=some dss)(hoo:(ooE cx sc e&&nA ρ' nm)=true)(k:blk cx F (m+1) sc r (cC ρ' nm (.oo dss))=some fl):blk cx F (m+1) sc (.Assign [.Name nm px] e p::r) ρ=some fl:=by
 subst hf
 refine gSt (fl1:=.nxt _) ?_ k
 simp only[st,h,if_pos ho,if_pos hoo,Option.bind_some,hd,Option.map_some]
theorem gTup{es:List Expr}{j:Nat}{ρ':Rho}{l:List D}(hs:(swp sc es e).isSome=true)(h:ev cx F sc (frz F e ρ) e=some d)(hl:items d=some l)(hb:bindNames sc es l (frz F e ρ)=some ρ')(k:blk cx F (m+1) sc r ρ'=some fl):blk cx F (m+1) sc (.Assign [.Tuple es j q] e p::r) ρ=some fl:=by
 refine gSt (fl1:=.nxt _) ?_ k
 simp only[st,h,hs,Bool.true_or,if_true,hl,bind,Option.bind_some,hb,Option.map_some]
def rN:Expr->Bool
 | .Call (.Name ..) _ _ _=>true
 | _=>false
theorem Jr(hx:rN e=true)(h:ev cx F sc (frz F e ρ) e=some d)(k:blk cx F (m+1) sc r (frz F e ρ)=some fl):blk cx F (m+1) sc (.Expr e p::r) ρ=some fl:=by
 unfold rN at hx
 split at hx
 ·refine gSt (fl1:=.nxt _) ?_ k
  simp only[st,h,Option.map_some]
 ·cases hx
theorem WW{px ap cp:Pos}{M:Str}{ds:List D}(hx:(frz F e ρ).lookup nm=some (.ow ds))(ho:(ownIn sc nm&&aA nm&&ap.endLine==cp.line)=true)(hM:(M=="append")=true)(hz:szl (ds.length+1)=true)(h:ev cx F sc (frz F e ρ) e=some d)(k:blk cx F (m+1) sc r (cC (frz F e ρ) nm (.ow (ds++[d])))=some fl) :
  blk cx F (m+1) sc (.Expr (.Call (.Attribute (.Name nm px) M ap) [e] [] cp) p::r) ρ=some fl:=by
 refine gSt (fl1:=.nxt _) ?_ k
 simp only[st,hx,ho,hM,hz,Bool.and_self,if_true,h,Option.map_some]
theorem WT{px ap cp:Pos}{M:Str}{ds zs:List D}(hx:(frz F e ρ).lookup nm=some (.ow ds))(ho:(ownIn sc nm&&aA nm&&ap.endLine==cp.line)=true)(hM:(M=="append")=false)(hM2:(M=="extend")=true)(hz:szl (ds.length+zs.length)=true)(h:ev cx F sc (frz F e ρ) e=some (.lst zs))(k:blk cx F (m+1) sc r (cC (frz F e ρ) nm (.ow (ds++zs)))=some fl) :
  blk cx F (m+1) sc (.Expr (.Call (.Attribute (.Name nm px) M ap) [e] [] cp) p::r) ρ=some fl:=by
 refine gSt (fl1:=.nxt _) ?_ k
 simp only[st,hx,ho,hM,hM2,Bool.false_and,Bool.false_eq_true,if_false,if_true,h,bind,Option.bind_some,hz]
theorem pO{A B:List Stmt}{fl1:Fl}(h:ev cx F sc (frz F c ρ) c=some (.bl true))(k:blk cx F m sc A (frz F c ρ)=some fl1)(k2:oY cx F (m+1) sc r fl1=some fl):blk cx F (m+1) sc (.If c A B p::r) ρ=some fl:=by
 refine gSt ?_ k2
 have k':iQ (fun ρ s=>st cx F m sc ρ s) A (frz F c ρ)=some fl1:=k
 simp only[st,h,bind,Option.bind_some,asB,if_true,k']
theorem Ry{A B:List Stmt}{fl1:Fl}(h:ev cx F sc (frz F c ρ) c=some (.bl false))(k:blk cx F m sc B (frz F c ρ)=some fl1)(k2:oY cx F (m+1) sc r fl1=some fl):blk cx F (m+1) sc (.If c A B p::r) ρ=some fl:=by
 refine gSt ?_ k2
 have k':iQ (fun ρ s=>st cx F m sc ρ s) B (frz F c ρ)=some fl1:=k
 simp only[st,h,bind,Option.bind_some,asB,Bool.false_eq_true,if_false,k']
theorem tV{A:List Stmt}(h:ev cx F sc (frz F c ρ) c=some (.bl false))(k:blk cx F (m+1) sc r (frz F c ρ)=some fl):blk cx F (m+1) sc (.If c A [] p::r) ρ=some fl :=
 Ry h dh k
theorem rm{f:D->Rho->Option Fl}{h:Nat->D}{R:Nat->Rho}{N:Nat}(hs:∀ i,i<N->f (h i) (R i)=some (.nxt (R (i+1)))):cY f (Ls N h) (R 0)=some (.nxt (R N)):=by
  have key:∀ (j i:Nat),i+j=N->cY f ((List.range' i j).map h) (R i)=some (.nxt (R N)):=by
    intro j
    induction j with
    | zero => intro i hi; have : i = N := by omega
              subst this;rfl
    | succ j ih =>
      intro i hi
      rw[List.range'_succ,List.map_cons]
      simp only[cY,hs i (by omega)]
      exact ih (i+1) (by omega)
  have:=key N 0 (by omega)
  rw[<- List.range_eq_range'] at this
  exact this
def fF(cx:Cxt)(F m:Nat)(sc:Scope)(tg:Expr)(body:List Stmt):D->Rho->Option Fl:=fun d ρ=>do let ρ1 <- fP sc tg d ρ;iQ (fun ρ s=>st cx F m sc ρ s) body ρ1
theorem jE{tg:Expr}{body:List Stmt}{ρ1:Rho}(h1:fP sc tg d ρ=some ρ1)(h2:blk cx F m sc body ρ1=some fl):fF cx F m sc tg body d ρ=some fl:=by
 have h2':iQ (fun ρ s=>st cx F m sc ρ s) body ρ1=some fl:=h2
 simp only[fF,h1];exact h2'
theorem RB{tg iter:Expr}{body:List Stmt}{l:List D}{fl1:Fl}(hI:evI cx (fX tg) (ev cx F sc (frz F iter ρ)) sc iter=some l)(hgo:cY (fF cx F m sc tg body) l (frz F iter ρ)=some fl1)(k2:oY cx F (m+1) sc r fl1=some fl):blk cx F (m+1) sc (.For tg iter body [] p::r) ρ=some fl:=by
 refine gSt ?_ k2
 have hgo':cY (fun d ρ=>(fP sc tg d ρ).bind fun ρ1=>iQ (fun ρ s=>st cx F m sc ρ s) body ρ1) l (frz F iter ρ)=some fl1:=hgo
 simp only[st,hI,bind,Option.bind_some,hgo']
theorem vL{c:Expr}{body:List Stmt}{ρ2:Rho}(hgo:qm (fun ρ=>((ev cx F sc (frz F c ρ) c).bind asB).map fun b=>(frz F c ρ,b)) (fun ρ=>blk cx F m sc body ρ) 10000000000000000000000000000000000000000000000000000000000000000000000000000000000000000000000000000 ρ=some (.nxt ρ2))(k2:blk cx F (m+1) sc r ρ2=some fl):blk cx F (m+1) sc (.While c body [] p::r) ρ=some fl:=by
 refine gSt (fl1:=.nxt ρ2) ?_ k2
 have hgo':qm (fun ρ=>((ev cx F sc (frz F c ρ) c).bind asB).map fun b=>(frz F c ρ,b)) (fun ρ=>iQ (fun ρ s=>st cx F m sc ρ s) body ρ) 10000000000000000000000000000000000000000000000000000000000000000000000000000000000000000000000000000 ρ=some (.nxt ρ2):=hgo
 simp only[st,hgo']
theorem zP{f:Rho->Option Fl}{c:Expr}{N:Nat}{ρ1 ρ2:Rho}(hc:frz F c ρ=ρ1)(h:ev cx F sc ρ1 c=some (.bl true))(hf:f ρ1=some (.nxt ρ2))(k:qm (fun ρ=>((ev cx F sc (frz F c ρ) c).bind asB).map fun b=>(frz F c ρ,b)) f N ρ2=some fl):qm (fun ρ=>((ev cx F sc (frz F c ρ) c).bind asB).map fun b=>(frz F c ρ,b)) f (N+1) ρ=some fl:=by
 subst hc
 simp only[qm,h,Option.bind_some,asB,Option.map_some,if_true,hf]
 exact k
theorem qj{f:Rho->Option Fl}{c:Expr}{N:Nat}{ρ1:Rho}(hc:frz F c ρ=ρ1)(h:ev cx F sc ρ1 c=some (.bl false)):qm (fun ρ=>((ev cx F sc (frz F c ρ) c).bind asB).map fun b=>(frz F c ρ,b)) f (N+1) ρ=some (.nxt ρ1):=by
 subst hc
 simp only[qm,h,Option.bind_some,asB,Option.map_some,Bool.false_eq_true,if_false]
abbrev cxN(P:Pg)(F k:Nat):Cxt:=⟨P.cst,P.blt,P.defs.map (·.1),P.exs,P.top,true,aJ P F k,iV P F k⟩
theorem FT{P:Pg}{k:Nat}:P.cx (fj P F k)=cxN P F k:=by
 have e1:aJ P F k=fun f ds=>Rs.val? (fj P F k f ds):=by funext f ds;exact gR
 have e2:iV P F k=fun f ds=>Rs.exc? (fj P F k f ds):=by funext f ds;exact rG
 unfold cxN
 rw[e1,e2]
 rfl
theorem cI{P:Pg}{k:Nat}{f:Str}{fd:Fd}(hf:P.defs.lookup f=some fd)(hl:(ds.length==fd.ps.length)=true)(h:blk (cxN P F k) F F fd.sc fd.body (cJ fd ds)=some (.ret d)):aJ P F (k+1) f ds=some d:=by
 have h':iQ (fun ρ s=>st (cxN P F k) F F fd.sc ρ s) fd.body (cJ fd ds)=some (.ret d):=h
 rw[gR]
 simp only[jQ,hf,hl,if_true,ou,FT,h',Rs.val?]
theorem Bw{P:Pg}{k:Nat}{f:Str}{fd:Fd}{ρ':Rho}(hf:P.defs.lookup f=some fd)(hl:(ds.length==fd.ps.length)=true)(h:blk (cxN P F k) F F fd.sc fd.body (cJ fd ds)=some (.nxt ρ')):aJ P F (k+1) f ds=some .non:=by
 have h':iQ (fun ρ s=>st (cxN P F k) F F fd.sc ρ s) fd.body (cJ fd ds)=some (.nxt ρ'):=h
 rw[gR]
 simp only[jQ,hf,hl,if_true,ou,FT,h',Rs.val?]
def zL(cx:Cxt)(F m:Nat)(sc:Scope)(l:List Stmt)(ρ:Rho)(c:Str):Prop:=iQ (fun ρ s=>st cx F m sc ρ s) l ρ=none/\∃ ρ',gw (fun ρ s=>st cx F m sc ρ s) (fun ρ s=>stx cx F m sc ρ s) l ρ=some (c,ρ')
theorem w6{P:Pg}{k:Nat}{f:Str}{fd:Fd}{c:Str}(hf:P.defs.lookup f=some fd)(hl:(ds.length==fd.ps.length)=true)(h:zL (cxN P F k) F F fd.sc fd.body (cJ fd ds) c):iV P F (k+1) f ds=some c/\aJ P F (k+1) f ds=none:=by
 obtain⟨h1,ρ',h2⟩:=h
 rw[rG,gR]
 simp only[jQ,hf,hl,if_true,ou,FT,h1,h2,Rs.exc?,Rs.val?]
 trivial
theorem zK{s:Stmt}{ρ1:Rho}{c:Str}(h1:st cx F m sc ρ s=some (.nxt ρ1))(h2:zL cx F m sc r ρ1 c):zL cx F m sc (s::r) ρ c:=by
 obtain⟨h3,ρ',h4⟩:=h2
 refine⟨?_,ρ',?_⟩
 ·show(st cx F m sc ρ s).bind _=_
  rw[h1];exact h3
 ·simp only[gw,h1];exact h4
theorem rH{s:Stmt}{ρ1:Rho}{c:Str}(h1:st cx F m sc ρ s=none)(h2:stx cx F m sc ρ s=some (c,ρ1)):zL cx F m sc (s::r) ρ c:=by
 refine⟨?_,ρ1,?_⟩
 ·show(st cx F m sc ρ s).bind _=_
  rw[h1];rfl
 ·simp only[gw,h1];exact h2
theorem qg{A B:List Stmt}{cn:Str}{np p1 cpos rp:Pos}{txt:Str}{j:Nat}(h:ev cx F sc (frz F c ρ) c=some (.bl true))(hr:(cx.rs&&mJ cx sc cn&&cx.exs.contains cn&&aA cn)=true) :
  zL cx F (m+2) sc (.If c (.Raise (some (.Call (.Name cn np) [.Constant (.str txt) j p1] [] cpos)) none rp::A) B p::r) ρ cn:=by
 refine rH (ρ1:=frz F c ρ) ?_ ?_
 ·simp only[st,h,bind,Option.bind_some,asB,if_true]
  rfl
 ·simp only[stx,h,Option.bind_some,asB,if_true,gw]
  simp only[st,if_pos hr]
theorem Kr{cn:Str}(hx:rN e=true)(h:ev cx F sc (frz F e ρ) e=none)(h2:evx cx F sc (frz F e ρ) e=some cn):zL cx F (m+1) sc (.Expr e p::r) ρ cn:=by
 refine rH (ρ1:=frz F e ρ) ?_ ?_
 ·unfold rN at hx
  split at hx
  ·simp only[st,h,Option.map_none]
  ·cases hx
 ·unfold rN at hx
  split at hx
  ·simp only[stx,aY,Bool.false_eq_true,if_false,h2,Option.map_some]
  ·cases hx
theorem tZ{c:Str}(hf:(isFn cx sc nm es&&es.all aB)=true)(h1:jX (ev cx n sc ρ) es=some ds)(h:cx.callx nm ds=some c)(h0:cx.call nm ds=none):evx cx (n+1) sc ρ (.Call (.Name nm q) es [] p)=some c/\ev cx (n+1) sc ρ (.Call (.Name nm q) es [] p)=none:=by
 unfold isFn at hf
 simp only[Bool.and_eq_true] at hf
 obtain⟨⟨⟨⟨h2,h3⟩,h4⟩,h5⟩,h6⟩:=hf
 have h3':cx.blt.lookup nm=none:=by simpa using h3
 constructor
 ·simp only[evx,h2,h5,h6,h4,Bool.and_self,if_true,h1,h]
 ·simp only[ev,h2,h3',if_true,h4,h5,Bool.and_self,h1,bind,Option.bind_some,h0]
end
end DE
namespace DE
open PySem
abbrev row(n:Nat)(f:Nat->Int):D:=.tup (Ls n fun j=>.int (f j))
abbrev tbl(m n:Nat)(f:Nat->Nat->Int):D:=.tup (Ls m fun i=>.tup (Ls n fun j=>.int (f i j)))
def R8:Nat->(Nat->Int)->Int
 | 0,_=>0
 | n+1,f=>R8 n f+f n
theorem RW{n:Nat}{h:Nat->D}:blt "len" [.tup (Ls n h)]=some (.int (n:Int)):=by
 show some (D.int ((Ls n h).length:Int))=_
 rw[cj]
theorem Bp{l:List D}:blt "tuple" [.lst l]=some (.tup l):=rfl
theorem j6{n:Nat}(h:n<=100000):szl n=true:=by unfold szl;exact decide_eq_true h
theorem iM{α:Type}{n:Nat}{h:Nat->α}(hn:n<=100000):szl (Ls n h).length=true:=by rw[cj];exact j6 hn
theorem V6{n:Nat}(h:n<=100000):eZ (n:Int)=true:=by
 unfold eZ
 rw[decide_eq_true (by omega),decide_eq_true (by omega)];rfl
theorem oLe{i j:Int}(h:i<=j):cmpop .LtE (.int i) (.int j)=some (.bl true):=by
 show some (D.bl (decide (i<=j)))=_
 rw[decide_eq_true h]
theorem oLt{i j:Int}(h:i<j):cmpop .Lt (.int i) (.int j)=some (.bl true):=by
 show some (D.bl (decide (i<j)))=_
 rw[decide_eq_true h]
theorem Mp{i j:Int}(h:¬ i<j):cmpop .Lt (.int i) (.int j)=some (.bl false):=by
 show some (D.bl (decide (i<j)))=_
 rw[decide_eq_false h]
theorem Gh{i j:Int}(h:i=j):cmpop .Eq (.int i) (.int j)=some (.bl true):=by
 subst h
 show some (D.bl (i==i))=_
 rw[beq_self_eq_true]
theorem Gi{i j:Int}(h:i≠j):cmpop .Eq (.int i) (.int j)=some (.bl false):=by
 show some (D.bl (i==j))=_
 rw[beq_eq_false_iff_ne.mpr h]
theorem Dz{i j:Int}(h:i=j):cmpop .NotEq (.int i) (.int j)=some (.bl false):=by
 subst h
 show some (D.bl (!(i==i)))=_
 rw[beq_self_eq_true];rfl
theorem pW{i j:Int}(h:small i=true\/small j=true):binop .Mult (.int i) (.int j)=some (.int (i*j)):=by
 show(if(small i||small j||(mid i&&mid j))=true then _ else _)=_
 rw[if_pos (by rw[Bool.or_eq_true,Bool.or_eq_true];exact .inl h)]
theorem Kp{i j:Int}(h:0<j):binop .Mod (.int i) (.int j)=some (.int (i%j)):=by
 show(if decide (0<j)=true then _ else _)=_
 rw[if_pos (decide_eq_true h)]
theorem W4{i j:Int}(h:0<j)(h':j<1073741824):binop .FloorDiv (.int i) (.int j)=some (.int (i / j)):=by
 show(if(decide (0<j)&&decide (j<1073741824))=true then _ else _)=_
 rw[if_pos (by rw[decide_eq_true h,decide_eq_true h'];rfl)]
mutual
theorem wg:∀ d:D,dep d<1000->deq d d=true
 | .non,_=>rfl
 | .bl b,_=>by simp[deq]
 | .int i,_=>by simp[deq]
 | .str x,_=>by simp[deq]
 | .tup xs,h=>by simp only[deq];exact lZ xs (by simp only[dep] at h;omega)
 | .lst xs,h=>by simp only[deq];exact lZ xs (by simp only[dep] at h;omega)
 | .exc c,h=>absurd h (by simp[dep])
 | .dic _ _,h=>absurd h (by simp[dep])
theorem lZ:∀ ds:List D,deps ds<1000->mq ds ds=true
  | [],_=>rfl
  | d :: ds, h => by
    simp only[deps] at h
    simp only[mq,wg d (by omega),lZ ds (by omega),Bool.and_self]
end
theorem oEq{x y:D}(h1:dep x<=50)(h2:dep y<=50):cmpop .Eq x y=some (.bl (deq x y)):=by
 show(if(decide (dep x<=50)&&decide (dep y<=50))=true then some (D.bl (deq x y)) else none)=_
 rw[decide_eq_true h1,decide_eq_true h2];rfl
theorem oNe{x y:D}(h1:dep x<=50)(h2:dep y<=50):cmpop .NotEq x y=some (.bl (!deq x y)):=by
 show(if(decide (dep x<=50)&&decide (dep y<=50))=true then some (D.bl (!deq x y)) else none)=_
 rw[decide_eq_true h1,decide_eq_true h2];rfl
theorem mC{b:Nat}:∀ {l:List D},(∀ d∈l,dep d<=b)->deps l<=b
  | [],_=>Nat.zero_le _
  | d :: r, h => by
    simp only[deps]
    exact Nat.max_le.mpr ⟨h d List.mem_cons_self,mC fun e he=>h e (List.mem_cons_of_mem _ he)⟩
section
variable {cx:Cxt} {n:Nat} {sc scope:Scope} {ρ:Rho} {a b c e:Expr} {es:List Expr} {p q:Pos} {x y z d:D} {ds:List D} {nm:Str}
theorem wR{tup:Bool}{j:Nat}(hw:ud cx sc e=.r1 a)(h1:ev cx n sc ρ a=some (.int (j:Int)))(hz:j<=100000):evI cx tup (ev cx n sc ρ) sc e=some (Ls j fun k=>.int (k:Int)):=by
 rw[wR1 hw h1 (V6 hz),uI]
theorem R5{m:Nat}{h g:Nat->D}(hw:ud cx sc e=.zp a b)(h1:ev cx n sc ρ a=some (.tup (Ls m h)))(h2:ev cx n sc ρ b=some (.tup (Ls m g))):evI cx true (ev cx n sc ρ) sc e=some (Ls m fun i=>.tup [h i,g i]):=by
 rw[wZp hw h1 h2,JX,Bu]
theorem J5{tup:Bool}{xs:List D}(hw:ud cx sc e=.sq)(h1:ev cx n sc ρ e=some (.tup xs)):evI cx tup (ev cx n sc ρ) sc e=some xs:=wSq hw h1 rfl
theorem Ks{m j:Nat}{h:Nat->D}(h1:ev cx n sc ρ a=some (.tup (Ls m h)))(h2:ev cx n sc ρ b=some (.int (j:Int)))(hj:j<m)(hs:aB b=true)(hd:h j=d):ev cx (n+1) sc ρ (.Subscript a b p)=some d:=hd▸xIx h1 h2 rfl (wJ hj) hs
theorem Ku{m:Nat}{h:Nat->D}(h1:ev cx n sc ρ a=some (.tup (Ls m h)))(h2:ev cx n sc ρ b=some (.int 0))(hj:0<m)(hs:aB b=true)(hd:h 0=d):ev cx (n+1) sc ρ (.Subscript a b p)=some d:=hd▸xIx h1 h2 rfl (wJ (j:=0) hj) hs
theorem oW{m j:Nat}{h:Nat->D}(h1:ev cx n sc ρ a=some (.lst (Ls m h)))(h2:ev cx n sc ρ b=some (.int (j:Int)))(hj:j<m)(hs:aB b=true)(hd:h j=d):ev cx (n+1) sc ρ (.Subscript a b p)=some d:=hd▸xIx h1 h2 rfl (wJ hj) hs
end
section
variable {cx:Cxt} {n:Nat} {sc scope:Scope} {ρ:Rho} {a b c e:Expr} {es:List Expr} {p q:Pos} {x y z d:D} {ds:List D} {nm:Str}
end
end DE
namespace DE
open PySem
theorem Sv{i j:Int}(h:¬ i<=j):cmpop .LtE (.int i) (.int j)=some (.bl false):=by
 show some (D.bl (decide (i<=j)))=_
 rw[decide_eq_false h]
theorem oGt{i j:Int}:cmpop .Gt (.int i) (.int j)=some (.bl (decide (j<i))):=rfl
theorem Sw{i j:Int}:cmpop .LtE (.int i) (.int j)=some (.bl (decide (i<=j))):=rfl
section
variable {cx:Cxt} {n:Nat} {sc scope:Scope} {ρ:Rho} {a b c e:Expr} {es:List Expr} {p q:Pos} {x y z d:D} {ds:List D} {nm:Str} {F m:Nat} {r:List Stmt} {fl:Fl} {op op':CmpOp}
theorem xq(h1:ev cx n sc ρ a=some x)(h2:ev cx n sc ρ b=some y)(h:cmpop op x y=some (.bl false))(hp:aB c=true:=by rfl):ev cx (n+1) sc ρ (.Compare a [op,op'] [b,c] p)=some (.bl false):=by
 simp only[ev,hp,Bool.not_true,Bool.false_eq_true,if_false,h1,h2,bind,Option.bind_some,h,asB]
theorem RD{px ap cp:Pos}{M:Str}{ds zs:List D}(hx:(frz F e ρ).lookup nm=some (.ow ds))(ho:(ownIn sc nm&&aA nm&&ap.endLine==cp.line)=true)(hM:(M=="append")=false)(hM2:(M=="extend")=true)(hz:szl (ds.length+zs.length)=true)(h:ev cx F sc (frz F e ρ) e=some (.tup zs))(k:blk cx F (m+1) sc r (cC (frz F e ρ) nm (.ow (ds++zs)))=some fl) :
  blk cx F (m+1) sc (.Expr (.Call (.Attribute (.Name nm px) M ap) [e] [] cp) p::r) ρ=some fl:=by
 refine gSt (fl1:=.nxt _) ?_ k
 simp only[st,hx,ho,hM,hM2,Bool.false_and,Bool.false_eq_true,if_false,if_true,h,bind,Option.bind_some,hz]
end
section
variable {cx:Cxt} {n:Nat} {sc scope:Scope} {ρ:Rho} {a b c e:Expr} {es:List Expr} {p q:Pos} {x y z d:D} {ds:List D} {nm:Str} {F m:Nat} {r:List Stmt} {fl:Fl}
theorem Jt{body o f:List Stmt}{hs:List ExceptHandler}{t:Str×Str×Str}{fl1:Fl}(ht:rR hs o f=some t)(h:blk cx F m sc body ρ=some fl1)(k:oY cx F (m+1) sc r fl1=some fl):blk cx F (m+1) sc (.Try body hs o f p::r) ρ=some fl:=by
 obtain⟨t1,t2,t3⟩:=t
 refine gSt ?_ k
 have h':iQ (fun ρ s=>st cx F m sc ρ s) body ρ=some fl1:=h
 simp only[st,ht,h']
theorem Rw{body o f:List Stmt}{hs:List ExceptHandler}{t e1 kn c':Str}{ρ':Rho}(ht:rR hs o f=some (t,e1,kn))(h1:iQ (fun ρ s=>st cx F m sc ρ s) body ρ=none)(h2:gw (fun ρ s=>st cx F m sc ρ s) (fun ρ s=>stx { cx with rs:=false } F m sc ρ s) body ρ=some (c',ρ'))
  (hc:(mJ cx sc t&&t==cx.top&&cx.exs.contains c'&&e1 !=kn&&aA e1&&sc.names.lookup e1==some .local&&sc.names.lookup kn==some .local&&(ρ.map (·.1)).contains e1&&(ρ.map (·.1)).contains kn&&aA t)=true)
  (k:blk cx F (m+1) sc r (cC (cC ρ' kn (.sh (.exc c'))) e1 .no)=some fl):blk cx F (m+1) sc (.Try body hs o f p::r) ρ=some fl:=by
 refine gSt (fl1:=.nxt _) ?_ k
 simp only[st,ht,h1,h2,if_pos hc]
end
section
variable {cx:Cxt} {n:Nat} {sc scope:Scope} {ρ:Rho} {a b c e:Expr} {p q:Pos}
end
theorem wj{x:D}:∀ {l:List D},x∈l->dep x<=deps l
  | y :: l, h => by
    simp only[deps]
    rcases List.mem_cons.mp h with rfl | h
    · omega
    · have:=wj h;omega
theorem cG{f:D->Option (Option D)}{g:D->D}:∀ {l:List D},(∀ x∈l,f x=some (some (g x)))->bK f l=some (l.map g)
  | [],_=>rfl
  | x :: l, h => by
    simp only[bK,h x List.mem_cons_self,bind,Option.bind_some,cG (l:=l) fun y hy=>h y (List.mem_cons_of_mem _ hy),Option.map_some,List.map_cons]
theorem tH{l:List D}{t:D->Bool}:blt "all" [.lst (l.map fun x=>.bl (t x))]=some (.bl (l.all t)):=by
 have key:∀ l:List D,oU (l.map fun x=>.bl (t x))=some (l.map t):=by
  intro l
  induction l with
  | nil=>rfl
  | cons a r ih=>simp only[List.map_cons,oU,ih];rfl
 show(oU (l.map fun x=>.bl (t x))).bind (fun bs=>some (D.bl (bs.all id)))=_
 rw[key,Option.bind_some,List.all_map];rfl
theorem nT{f:D->Rho->Option Fl}{R:List D->Rho}{whole:List D}(h:∀ pre x post,pre++x::post=whole->f x (R pre)=some (.nxt (R (pre++[x])))):∀ {l pre:List D},pre++l=whole->cY f l (R pre)=some (.nxt (R whole))
  | [],pre,e=>by rw[List.append_nil] at e;rw[e];rfl
  | x :: l, pre, e => by
    simp only[cY,h pre x l e]
    exact nT h (l:=l) (pre:=pre++[x]) (by rw[List.append_assoc];exact e)
def Ec:List D->Sl
 | []=>.no
 | x::r=>.sh (r.getLastD x)
theorem sS:∀ (l:List D) (x:D),Ec (l++[x])=.sh x
  | [],x=>rfl
  | y :: l, x => by
    show Sl.sh ((l++[x]).getLastD y)=_
    simp
theorem Vq{x:D}(h:dep x<1000):isExc x=false:=by cases x<;>first | rfl | exact absurd h (by simp[dep])
def nOw:Sl->Bool
 | .ow _=>false
 | .oo _=>false
 | _=>true
def dD(ρ:Rho):Bool:=ρ.all fun p=>nOw p.2
theorem cN{F:Nat}{e:Expr}{ρ:Rho}(h:dD ρ=true):frz F e ρ=ρ:=by
 unfold frz
 conv=>rhs;rw[<- List.map_id ρ]
 apply List.map_congr_left
 intro p hp
 have:=List.all_eq_true.mp h p hp
 obtain⟨x,s⟩:=p
 cases s<;>first | rfl | simp[nOw] at this
theorem wB{ρ:Rho}{x:Str}(h:dD ρ=true):iU ρ x=true:=by
 unfold iU
 rw[List.all_eq_true]
 intro p hp
 have:=List.all_eq_true.mp h p hp
 obtain⟨y,s⟩:=p
 cases s<;>first | (simp[nOw] at this;done) | simp[Kl]
section
variable {cx:Cxt} {sc:Scope} {ρ:Rho} {c e:Expr} {p:Pos} {d:D} {nm:Str} {F m:Nat} {r:List Stmt} {fl:Fl}
theorem Ko{px:Pos}(hc:dD ρ=true)(ho:(ownIn sc nm&&(ρ.map (·.1)).contains nm)=true)(h:ev cx F sc ρ e=some d)(k:blk cx F (m+1) sc r (cC ρ nm (jh e d))=some fl)(hoo:(ooE cx sc e&&nA ρ nm)=false:=by rfl)(hle:wX cx sc e=false:=by rfl):blk cx F (m+1) sc (.Assign [.Name nm px] e p::r) ρ=some fl:=by
 refine mK ho (by rw[cN hc];exact h) ?_ (by rw[cN hc];exact hoo) (by rw[cN hc,wB hc];simp) hle
 rw[cN hc];exact k
theorem nu(h:aY e=false):ooE cx sc e=false:=by
 cases e<;>first | rfl | exact absurd h (by simp[aY])
theorem mZ(h:aY e=false):jh e d=.sh d:=by
 unfold jh
 split
 ·rw[h];rfl
 ·rfl
theorem gj{px:Pos}{ρ':Rho}(hf:frz F e ρ=ρ')(ho:(ownIn sc nm&&(ρ.map (·.1)).contains nm)=true)(hfr:aY e=false)(h:ev cx F sc ρ' e=some d)(k:blk cx F (m+1) sc r (cC ρ' nm (.sh d))=some fl)(hle:wX cx sc e=false:=by rfl):blk cx F (m+1) sc (.Assign [.Name nm px] e p::r) ρ=some fl:=by
 refine mK ho (by rw[hf];exact h) ?_ (by rw[nu hfr];rfl) (by rw[hfr];rfl) hle
 rw[hf,mZ hfr];exact k
theorem lX{y:Str}{s:Sl}{ρ:Rho}:frz F e ((y,s)::ρ)=(match s with | .ow ds=>if eF F y e then(y,.sh (.lst ds)) else(y,.ow ds) | .oo dss=>if eF F y e then(y,.sh (.lst (dss.map .lst))) else(y,.oo dss) | s=>(y,s))::frz F e ρ:=by
 cases s<;>rfl
theorem yS{y:Str}{s:Sl}{ρ:Rho}(h:nOw s=true):frz F e ((y,s)::ρ)=(y,s)::frz F e ρ:=by
 cases s<;>first | rfl | simp[nOw] at h
theorem Es{y:Str}{ds:List D}{ρ:Rho}(h:eF F y e=true):frz F e ((y,.ow ds)::ρ)=(y,.sh (.lst ds))::frz F e ρ:=by
 show(if eF F y e=true then _ else _)::_=_
 rw[if_pos h]
 rfl
theorem gU{px:Pos}(hc:dD ρ=true)(ho:(ownIn sc nm&&(ρ.map (·.1)).contains nm)=true)(hfr:aY e=false)(h:ev cx F sc ρ e=some d)(k:blk cx F (m+1) sc r (cC ρ nm (.sh d))=some fl)(hle:wX cx sc e=false:=by rfl):blk cx F (m+1) sc (.Assign [.Name nm px] e p::r) ρ=some fl:=Ko hc ho h (by rw[mZ hfr];exact k) (by rw[nu hfr];rfl) hle
theorem tW{A B:List Stmt}{fl1:Fl}(hc:dD ρ=true)(h:ev cx F sc ρ c=some (.bl true))(k:blk cx F m sc A ρ=some fl1)(k2:oY cx F (m+1) sc r fl1=some fl):blk cx F (m+1) sc (.If c A B p::r) ρ=some fl:=pO (by rw[cN hc];exact h) (by rw[cN hc];exact k) k2
theorem W3{A B:List Stmt}{fl1:Fl}(hc:dD ρ=true)(h:ev cx F sc ρ c=some (.bl false))(k:blk cx F m sc B ρ=some fl1)(k2:oY cx F (m+1) sc r fl1=some fl):blk cx F (m+1) sc (.If c A B p::r) ρ=some fl:=Ry (by rw[cN hc];exact h) (by rw[cN hc];exact k) k2
theorem j5{A:List Stmt}(hc:dD ρ=true)(h:ev cx F sc ρ c=some (.bl false))(k:blk cx F (m+1) sc r ρ=some fl):blk cx F (m+1) sc (.If c A [] p::r) ρ=some fl:=W3 hc h dh k
theorem jR(hc:dD ρ=true)(h:ev cx F sc ρ e=some d):blk cx F (m+1) sc (.Return (some e) p::r) ρ=some (.ret d):=dO (by rw[cN hc];exact h)
end
end DE
namespace DE
open PySem
theorem Gw{cx:Cxt}{n:Nat}{sc:Scope}{ρ:Rho}{a b c:Expr}{p:Pos}{cn:Str}(h1:ev cx n sc ρ c=some (.bl true))(h:evx cx n sc ρ a=some cn/\ev cx n sc ρ a=none):evx cx (n+1) sc ρ (.IfExp c a b p)=some cn/\ev cx (n+1) sc ρ (.IfExp c a b p)=none:=by
 constructor
 ·simp only[evx,h1,Option.bind_some,asB,h.1]
 ·simp only[ev,h1,bind,Option.bind_some,asB,if_true,h.2]
theorem Gy{cx:Cxt}{n:Nat}{sc:Scope}{ρ:Rho}{a b c:Expr}{p:Pos}{cn:Str}(h1:ev cx n sc ρ c=some (.bl false))(h:evx cx n sc ρ b=some cn/\ev cx n sc ρ b=none):evx cx (n+1) sc ρ (.IfExp c a b p)=some cn/\ev cx (n+1) sc ρ (.IfExp c a b p)=none:=by
 constructor
 ·simp only[evx,h1,Option.bind_some,asB,h.1]
 ·simp only[ev,h1,bind,Option.bind_some,asB,Bool.false_eq_true,if_false,h.2]
theorem Gq{cx:Cxt}{F m:Nat}{sc:Scope}{ρ:Rho}{e:Expr}{p:Pos}{r:List Stmt}{cn:Str}(hx:rN e=true)(h:evx cx F sc (frz F e ρ) e=some cn/\ev cx F sc (frz F e ρ) e=none):zL cx F (m+1) sc (.Expr e p::r) ρ cn:=Kr hx h.2 h.1
def RXs(cx:Cxt)(F m:Nat)(sc:Scope)(s:Stmt)(ρ:Rho)(c:Str)(ρ':Rho):Prop:=st cx F m sc ρ s=none/\st { cx with rs:=false } F m sc ρ s=none/\stx { cx with rs:=false } F m sc ρ s=some (c,ρ')
theorem zV{cx:Cxt}{F m:Nat}{sc:Scope}{ρ:Rho}{e:Expr}{p px:Pos}{nm c:Str}(hc:dD ρ=true)(hfr:aY e=false)(h:ev cx F sc ρ e=none)(h2:evx { cx with rs:=false } F sc ρ e=some c/\ev { cx with rs:=false } F sc ρ e=none):RXs cx F (m+1) sc (.Assign [.Name nm px] e p) ρ c ρ:=by
 refine⟨?_,?_,?_⟩
 ·simp only[st,cN hc,h,Option.map_none,Option.bind_none,ite_self]
 ·simp only[st,cN hc,h2.2,Option.map_none,Option.bind_none,ite_self]
 ·simp only[stx,cN hc,hfr,Bool.false_eq_true,if_false,h2.1,Option.map_some]
theorem Js{cx:Cxt}{F m:Nat}{sc:Scope}{ρ ρ':Rho}{p:Pos}{s:Stmt}{r o f:List Stmt}{hs:List ExceptHandler}{t e1 kn c':Str}{fl:Fl}(ht:rR hs o f=some (t,e1,kn))(h:RXs cx F m sc s ρ c' ρ')
  (hc:(mJ cx sc t&&t==cx.top&&cx.exs.contains c'&&e1 !=kn&&aA e1&&sc.names.lookup e1==some .local&&sc.names.lookup kn==some .local&&(ρ.map (·.1)).contains e1&&(ρ.map (·.1)).contains kn&&aA t)=true)
  (k:blk cx F (m+1) sc r (cC (cC ρ' kn (.sh (.exc c'))) e1 .no)=some fl):blk cx F (m+1) sc (.Try [s] hs o f p::r) ρ=some fl:=by
 obtain⟨k1,k2,k3⟩:=h
 refine Rw ht ?_ ?_ hc k
 ·simp only[iQ,k1,bind,Option.bind_none]
 ·simp only[gw,k1,k3]
theorem Ir{d:D}(h:dep d<=50):cmpop .NotEq d d=some (.bl false):=by
 rw[oNe h h,wg d (by omega)];rfl
theorem WR{cx:Cxt}{sc:Scope}{ρ ρ':Rho}{p:Pos}{F m:Nat}{r A:List Stmt}{c:Expr}{fl:Fl}(hf:frz F c ρ=ρ')(h:ev cx F sc ρ' c=some (.bl false))(k:blk cx F (m+1) sc r ρ'=some fl):blk cx F (m+1) sc (.If c A [] p::r) ρ=some fl:=tV (hf▸h) (hf▸k)
theorem Jx{cx:Cxt}{sc:Scope}{ρ ρ' ρ2:Rho}{p:Pos}{F m:Nat}{r A B:List Stmt}{c:Expr}{fl:Fl}(hf:frz F c ρ=ρ')(h:ev cx F sc ρ' c=some (.bl true))(k:blk cx F m sc A ρ'=some (.nxt ρ2))(k2:blk cx F (m+1) sc r ρ2=some fl):blk cx F (m+1) sc (.If c A B p::r) ρ=some fl:=pO (fl1:=.nxt ρ2) (hf▸h) (hf▸k) k2
def asV:Stmt->Expr
 | .Assign _ e _=>e
 | _=>.Name "" ⟨0,0,0,0⟩
def ifX:Stmt->Expr
 | .If c _ _ _=>c
 | _=>.Name "" ⟨0,0,0,0⟩
theorem jO{α:Type}{f:D->Option (Option D)}{h g:α->D}:∀ {l:List α},(∀ x∈l,f (h x)=some (some (g x)))->bK f (l.map h)=some (l.map g)
  | [],_=>rfl
  | x :: l, q => by
    simp only[List.map_cons,bK,q x List.mem_cons_self,bind,Option.bind_some,jO (l:=l) fun y hy=>q y (List.mem_cons_of_mem _ hy),Option.map_some]
def upd(f:Nat->Nat->Int)(a b:Nat)(v:Int):Nat->Nat->Int:=fun i j=>if i=a then(if j=b then v else f i j) else f i j
theorem jZ{F:Nat}{e:Expr}:frz F e []=[]:=rfl
theorem aL{F:Nat}{e:Expr}{y:Str}{s:Sl}{ρ ρ':Rho}(h:nOw s=true)(q:frz F e ρ=ρ'):frz F e ((y,s)::ρ)=(y,s)::ρ':=by rw[yS h,q]
theorem Ep{F:Nat}{e:Expr}{y:Str}{ρ ρ':Rho}{dss:List (List D)}(h:eF F y e=false)(q:frz F e ρ=ρ'):frz F e ((y,.oo dss)::ρ)=(y,.oo dss)::ρ':=by
 rw[lX,q]
 simp only[h,Bool.false_eq_true,if_false]
theorem RK{F:Nat}{e:Expr}{y:Str}{ρ ρ':Rho}{dss:List (List D)}(h:eF F y e=true)(q:frz F e ρ=ρ'):frz F e ((y,.oo dss)::ρ)=(y,.sh (.lst (dss.map .lst)))::ρ':=by
 rw[lX,q]
 simp only[h,if_true]
theorem W2{cx:Cxt}{sc:Scope}{ρ ρ':Rho}{e:Expr}{p q:Pos}{d:D}{F m j:Nat}{r:List Stmt}{fl:Fl}{es:List Expr}{l:List D}(hc:dD ρ=true)(hs:(swp sc es e).isSome=true)(h:ev cx F sc ρ e=some d)(hl:items d=some l)(hb:bindNames sc es l ρ=some ρ')(k:blk cx F (m+1) sc r ρ'=some fl):blk cx F (m+1) sc (.Assign [.Tuple es j q] e p::r) ρ=some fl:=gTup hs (by rw[cN hc];exact h) hl (by rw[cN hc];exact hb) k
end DE
namespace DE
open PySem
def oN(u d:Int):Prop:=0<d/\Int.gcd u d=1
def gc(u d:Int):Int:=(Int.gcd u d:Int)
def nF(u d:Int):Int:=if d<0 then -(u / gc u d) else u / gc u d
def nH(u d:Int):Int:=if d<0 then -(d / gc u d) else d / gc u d
abbrev frD(u d:Int):D:=.tup [.int u,.int d]
abbrev loD(u d:Int):D:=frD (nF u d) (nH u d)
theorem nR{u d:Int}(h:d≠0):0<gc u d:=by
 have:=Int.gcd_pos_of_ne_zero_right u h
 unfold gc;omega
theorem Jp{u d:Int}:gc u d ∣ u:=Int.gcd_dvd_left u d
theorem Jq{u d:Int}:gc u d ∣ d:=Int.gcd_dvd_right u d
theorem WK{u d:Int}:gc u d*(u / gc u d)=u:=Int.mul_ediv_cancel' (Int.gcd_dvd_left u d)
theorem Vx{u d:Int}:gc u d*(d / gc u d)=d:=Int.mul_ediv_cancel' (Int.gcd_dvd_right u d)
theorem Av{u d:Int}(h:d≠0):oN (nF u d) (nH u d):=by
 have g0:=nR (u:=u) h
 have g1:Int.gcd (u / gc u d) (d / gc u d)=1:=Int.gcd_ediv_gcd_ediv_gcd (by unfold gc at g0;omega)
 have e:=Vx (u:=u) (d:=d)
 unfold oN nF nH
 by_cases q:d<0
 ·simp only[q,if_true,Int.neg_gcd,Int.gcd_neg]
  refine⟨?_,g1⟩
  have:d / gc u d<0:=by
   apply Classical.byContradiction
   intro hn
   have:=Int.mul_nonneg (show 0<=gc u d by omega) (show 0<=d / gc u d by omega)
   omega
  omega
 ·simp only[q,if_false]
  refine⟨?_,g1⟩
  apply Classical.byContradiction
  intro hn
  have:=Int.mul_nonneg (show 0<=gc u d by omega) (show 0 <= -(d / gc u d) by omega)
  rw[Int.mul_neg,e] at this
  omega
theorem Ja{u d:Int}(h:d≠0):nF u d*d=u*nH u d:=by
 have g0:=nR (u:=u) h
 have a:=WK (u:=u) (d:=d)
 have b:=Vx (u:=u) (d:=d)
 have key:∀ g x y:Int,g*x=u->g*y=d->x*d=u*y:=fun g x y h1 h2=>by rw[<- h1,<- h2];grind
 have k:=key _ _ _ a b
 unfold nF nH
 split
 ·rw[Int.neg_mul,k,Int.mul_neg]
 ·exact k
theorem IW{u d v e:Int}(h1:oN u d)(h2:oN v e)(q:u*e=v*d):u=v/\d=e:=by
 obtain⟨d0,g1⟩:=h1
 obtain⟨e0,g2⟩:=h2
 have a:d ∣ e:=by
  have z:Int.gcd d (u*e)=Int.gcd d e:=Int.gcd_mul_right_right_of_gcd_eq_one (by rw[Int.gcd_comm];exact g1)
  have w:d ∣ u*e:=⟨v,by rw[q];exact Int.mul_comm _ _⟩
  rw[Int.gcd_eq_natAbs_left w] at z
  exact Int.gcd_eq_natAbs_left_iff_dvd.mp z.symm
 have b:e ∣ d:=by
  have z:Int.gcd e (v*d)=Int.gcd e d:=Int.gcd_mul_right_right_of_gcd_eq_one (by rw[Int.gcd_comm];exact g2)
  have w:e ∣ v*d:=⟨u,by rw[<- q];exact Int.mul_comm _ _⟩
  rw[Int.gcd_eq_natAbs_left w] at z
  exact Int.gcd_eq_natAbs_left_iff_dvd.mp z.symm
 have de:d=e:=by
  have h1:=Int.le_of_dvd e0 a
  have h2:=Int.le_of_dvd d0 b
  omega
 subst de
 refine⟨?_,rfl⟩
 exact Int.eq_of_mul_eq_mul_right (by omega) q
theorem Ar{u d v e:Int}(h:d≠0)(hv:oN v e)(q:u*e=v*d):nF u d=v/\nH u d=e:=by
 refine IW (Av h) hv ?_
 have:=Ja (u:=u) h
 have g:=nR (u:=u) h
 refine Int.eq_of_mul_eq_mul_right h ?_
 grind
theorem fdiv_neg{x g:Int}(hg:g≠0)(h:g ∣ x):x.fdiv (-g)=-(x / g):=by
 obtain⟨y,rfl⟩:=h
 rw[Int.mul_ediv_cancel_left _ hg,show g*y=-g * -y by grind,Int.mul_fdiv_cancel_left _ (by omega)]
theorem eN{x g:Int}(hg:0<g):x.fdiv g=x / g:=Int.fdiv_eq_ediv_of_nonneg x (by omega)
theorem qW{a b:Int}:Int.gcd b (a.fmod b)=Int.gcd a b:=by
 have e:=Int.fmod_def a b
 have h:a.fmod b=a+b*(-(a.fdiv b)):=by rw[e];grind
 rw[h,Int.gcd_add_mul_left_right,Int.gcd_comm]
theorem vP{a b:Int}(h:b≠0):(a.fmod b).natAbs<b.natAbs:=by
 by_cases q:0<b
 ·have h1:=Int.fmod_nonneg_of_pos a q
  have h2:=Int.fmod_lt_of_pos a q
  omega
 ·have e:(-a).fmod (-b)=-(a.fmod b):=by simp
  have h1:=Int.fmod_nonneg_of_pos (-a) (b := -b) (by omega)
  have h2:=Int.fmod_lt_of_pos (-a) (b := -b) (by omega)
  omega
theorem JW{i j:Int}(h:j≠0):binop .Mod (.int i) (.int j)=some (.int (i.fmod j)):=by
 show(if decide (0<j)=true then _ else _)=_
 by_cases q:0<j
 ·rw[if_pos (decide_eq_true q),Int.fmod_eq_emod_of_nonneg i (by omega)]
 ·rw[if_neg (by simpa using q),if_pos (decide_eq_true h)]
theorem oK{i j:Int}(h:j≠0)(h':j.natAbs.log2<9000):binop .FloorDiv (.int i) (.int j)=some (.int (i.fdiv j)):=by
 show(if(decide (0<j)&&decide (j<1073741824))=true then _ else _)=_
 by_cases q:0<j/\j<1073741824
 ·rw[if_pos (by rw[decide_eq_true q.1,decide_eq_true q.2];rfl),eN q.1]
 ·rw[if_neg (by rw[Bool.and_eq_true,decide_eq_true_eq,decide_eq_true_eq];exact q),if_pos (by rw[decide_eq_true h,decide_eq_true h'];rfl)]
theorem Aw{n:Nat}(h:n<2^400):n.log2<9000:=by
 by_cases q:n=0
 ·subst q;decide
 ·have:=(Nat.log2_lt q).mpr h
  omega
end DE
namespace DE
open PySem
abbrev qD(q:Rat):D:=frD q.num (q.den:Int)
theorem Ly(q:Rat):0<(q.den:Int):=by have:=q.den_nz;omega
theorem CG(q:Rat):oN q.num (q.den:Int):=⟨Ly q,q.reduced⟩
theorem m9(q:Rat):(q.num:Rat)=q*(q.den:Rat):=by
 have h:(q.num:Rat) / (q.den:Rat)=q:=by rw[<- Rat.mkRat_eq_div,Rat.mkRat_self]
 have:(q.den:Rat)≠0:=by
  intro e
  have:=q.den_nz
  have e2:(q.den:Rat)=((0:Nat):Rat):=e
  exact this (Rat.natCast_inj.mp e2)
 grind
theorem kh(q:Rat):(q.den:Rat)≠0:=by
 intro e
 have e2:(q.den:Rat)=((0:Nat):Rat):=e
 exact q.den_nz (Rat.natCast_inj.mp e2)
theorem Vw{d:Int}(h:d≠0):(d:Rat)≠0:=by
 intro e
 have e2:(d:Rat)=((0:Int):Rat):=e
 exact h (Rat.intCast_inj.mp e2)
theorem Rj{u d:Int}(h:d≠0):loD u d=qD ((u:Rat) / (d:Rat)):=by
 have hd:=Vw h
 have e:=m9 ((u:Rat) / (d:Rat))
 have key:u*(((u:Rat) / (d:Rat)).den:Int)=((u:Rat) / (d:Rat)).num*d:=by
  apply Rat.intCast_inj.mp
  rw[Rat.intCast_mul,Rat.intCast_mul,e]
  show(u:Rat)*((((u:Rat) / (d:Rat)).den:Nat):Rat)=_
  grind
 obtain⟨a,b⟩:=Ar h (CG _) key
 show frD (nF u d) (nH u d)=frD _ _
 rw[a,b]
def Qb(D B:Nat)(q:Rat):Prop:=∃ x:Int,q*(D:Rat)=(x:Rat)/\x.natAbs<=B
theorem Qb.num{D B:Nat}{q:Rat}(hD:0<D)(h:Qb D B q):q.num.natAbs<=B/\q.den<=D:=by
 obtain⟨x,h1,h2⟩:=h
 have e:=m9 q
 have key:q.num*(D:Int)=x*(q.den:Int):=by
  apply Rat.intCast_inj.mp
  rw[Rat.intCast_mul,Rat.intCast_mul,e,<- h1]
  show q*(q.den:Rat)*(D:Rat)=q*(D:Rat)*(q.den:Rat)
  grind
 have k2:q.num.natAbs*D=x.natAbs*q.den:=by
  have:=congrArg Int.natAbs key
  rw[Int.natAbs_mul,Int.natAbs_mul] at this
  simpa using this
 have dv:q.den ∣ D:=by
  have:q.den ∣ q.num.natAbs*D:=⟨x.natAbs,by rw[k2,Nat.mul_comm]⟩
  exact(Nat.Coprime.symm q.reduced).dvd_of_dvd_mul_left this
 obtain⟨c,rfl⟩:=dv
 have c0:0<c:=by
  rcases Nat.eq_zero_or_pos c with e | e
  ·rw[e] at hD;omega
  ·exact e
 have dp:0<q.den:=Nat.pos_of_ne_zero q.den_nz
 refine⟨?_,Nat.le_mul_of_pos_right _ c0⟩
 have k3:q.num.natAbs*c=x.natAbs:=by
  have:q.den*(q.num.natAbs*c)=q.den*x.natAbs:=by
   rw[<- Nat.mul_assoc,Nat.mul_comm q.den q.num.natAbs,Nat.mul_assoc,k2,Nat.mul_comm]
  exact Nat.eq_of_mul_eq_mul_left dp this
 have:=Nat.le_mul_of_pos_right q.num.natAbs c0
 omega
theorem Qb.add{D B C:Nat}{p q:Rat}(h:Qb D B p)(k:Qb D C q):Qb D (B+C) (p+q):=by
 obtain⟨x,h1,h2⟩:=h
 obtain⟨y,k1,k2⟩:=k
 refine⟨x+y,?_,by omega⟩
 rw[Rat.intCast_add,<- h1,<- k1]
 grind
theorem Qb.mul{D E B C:Nat}{p q:Rat}(h:Qb D B p)(k:Qb E C q):Qb (D*E) (B*C) (p*q):=by
 obtain⟨x,h1,h2⟩:=h
 obtain⟨y,k1,k2⟩:=k
 refine⟨x*y,?_,by rw[Int.natAbs_mul];exact Nat.mul_le_mul h2 k2⟩
 rw[Rat.intCast_mul,<- h1,<- k1,Rat.natCast_mul]
 grind
theorem Qb.up{D B C:Nat}{p:Rat}(h:Qb D B p)(hc:B<=C):Qb D C p:=let ⟨x,h1,h2⟩:=h;⟨x,h1,Nat.le_trans h2 hc⟩
theorem Qb.zero{D:Nat}:Qb D 0 0:=⟨0,by grind,by decide⟩
theorem Qb.one{D:Nat}:Qb D D 1:=⟨(D:Int),by show(1:Rat)*(D:Rat)=(D:Rat);grind,by simp⟩
def Sq(q:Rat):Prop:=q.num.natAbs<=1000000000000000000/\q.den<=1000000000000000000
theorem Qb.sq{D B:Nat}{q:Rat}(h:Qb D B q)(hD:0<D)(h1:D<=1000000000000000000)(h2:B<=1000000000000000000):Sq q:=by
 have:=h.num hD
 exact⟨by omega,by omega⟩
def bF:Nat->(Nat->Rat)->Rat
 | 0,_=>0
 | n+1,g=>bF n g+g n
def mulQ(n:Nat)(F G:Nat->Nat->Rat):Nat->Nat->Rat:=fun i j=>bF n fun l=>F i l*G l j
theorem qy{D B:Nat}{g:Nat->Rat}:∀ {n:Nat},(∀ i,i<n->Qb D B (g i))->Qb D (n*B) (bF n g)
  | 0,_=>by rw[Nat.zero_mul];exact Qb.zero
  | n + 1, h => by
    rw[Nat.succ_mul]
    exact(qy fun i hi=>h i (by omega)).add (h n (by omega))
theorem G7{a b:Rat}:((a.num*(b.den:Int)+b.num*(a.den:Int):Int):Rat) / (((a.den:Int)*(b.den:Int):Int):Rat)=a+b:=by
 rw[Rat.intCast_add,Rat.intCast_mul,Rat.intCast_mul,Rat.intCast_mul,m9 a,m9 b]
 show(a*(a.den:Rat)*(b.den:Rat)+b*(b.den:Rat)*(a.den:Rat)) / ((a.den:Rat)*(b.den:Rat))=a+b
 have:=kh a
 have:=kh b
 grind
theorem Al{a b:Rat}:((a.num*b.num:Int):Rat) / (((a.den:Int)*(b.den:Int):Int):Rat)=a*b:=by
 rw[Rat.intCast_mul,Rat.intCast_mul,m9 a,m9 b]
 show(a*(a.den:Rat)*(b*(b.den:Rat))) / ((a.den:Rat)*(b.den:Rat))=a*b
 have:=kh a
 have:=kh b
 grind
theorem Iw{b:Rat}(h:b≠0):b.num≠0:=fun e=>h (by
  have:=m9 b
  rw[e] at this
  have h0:=kh b
  have:(0:Rat)=b*(b.den:Rat):=this
  grind)
theorem Ai{q:Rat}(h:0<=q):0<=q.num:=Rat.num_nonneg.mpr h
theorem Ra{q:Rat}(h:0<q):0<q.num:=by
 have:=Ai (Rat.le_of_lt h)
 have h2:=Iw (b:=q) (by intro e;rw[e] at h;exact absurd h (by decide))
 omega
end DE
namespace DE
open PySem
section
variable {cx:Cxt} {sc:Scope} {ρ ρ' ρ2:Rho} {e:Expr} {p:Pos} {d:D} {nm:Str} {F m:Nat} {r:List Stmt} {fl:Fl} {ds:List D}
theorem aR{y:Str}{s:Sl}(h:nOw s=true)(r:dD ρ=true):dD ((y,s)::ρ)=true:=by
 unfold dD at r ⊢
 rw[List.all_cons,h,r];rfl
theorem jY{tg iter:Expr}{body:List Stmt}{l:List D}(hf:frz F iter ρ=ρ')(hI:evI cx (fX tg) (ev cx F sc ρ') sc iter=some l)(hgo:cY (fF cx F m sc tg body) l ρ'=some (.nxt ρ2))(k2:blk cx F (m+1) sc r ρ2=some fl):blk cx F (m+1) sc (.For tg iter body [] p::r) ρ=some fl:=by
 subst hf
 exact RB hI hgo k2
theorem Jv{px:Pos}(hf:frz F e ρ=ρ')(ho:(ownIn sc nm&&(ρ.map (·.1)).contains nm)=true)(h:ev cx F sc ρ' e=some d)(k:blk cx F (m+1) sc r (cC ρ' nm (jh e d))=some fl)(hoo:(ooE cx sc e&&nA ρ' nm)=false:=by rfl)(hno:(aY e && !iU ρ' nm)=false:=by rfl)(hle:wX cx sc e=false:=by rfl):blk cx F (m+1) sc (.Assign [.Name nm px] e p::r) ρ=some fl:=by
 subst hf
 exact mK ho h k hoo hno hle
theorem Jw(hf:frz F e ρ=ρ')(h:ev cx F sc ρ' e=some d):blk cx F (m+1) sc (.Return (some e) p::r) ρ=some (.ret d):=dO (by rw[hf];exact h)
theorem yR{px ap cp:Pos}{M:Str}(hf:frz F e ρ=ρ')(hx:ρ'.lookup nm=some (.ow ds))(ho:(ownIn sc nm&&aA nm&&ap.endLine==cp.line)=true)(hM:(M=="append")=true)(hz:szl (ds.length+1)=true)(h:ev cx F sc ρ' e=some d)(k:blk cx F (m+1) sc r (cC ρ' nm (.ow (ds++[d])))=some fl) :
  blk cx F (m+1) sc (.Expr (.Call (.Attribute (.Name nm px) M ap) [e] [] cp) p::r) ρ=some fl:=by
 subst hf
 exact WW hx ho hM hz h k
theorem qX{y:Str}(h:eF F y e=false)(q:frz F e ρ=ρ'):frz F e ((y,.ow ds)::ρ)=(y,.ow ds)::ρ':=by
 rw[lX,q]
 simp only[h,Bool.false_eq_true,if_false]
theorem Jy{y:Str}(h:eF F y e=true)(q:frz F e ρ=ρ'):frz F e ((y,.ow ds)::ρ)=(y,.sh (.lst ds))::ρ':=by rw[Es h,q]
end
theorem tQ{s:Sl}(h:nOw s=true):Kl s=false:=by cases s<;>first | rfl | simp[nOw] at h
theorem Rb{x:Str}:iU [] x=true:=rfl
theorem gn{x y:Str}{s:Sl}{ρ:Rho}(h:Kl s=false)(q:iU ρ x=true):iU ((y,s)::ρ) x=true:=by
 unfold iU at q ⊢
 rw[List.all_cons,q,h];simp
theorem Wt{x y:Str}{d:List (List D)}{ρ:Rho}(h:(y==x)=false):iU ((y,.oo d)::ρ) x=false:=by
 unfold iU
 rw[List.all_cons,h];rfl
theorem Kf{x y:Str}{s:Sl}{ρ:Rho}(q:iU ρ x=false):iU ((y,s)::ρ) x=false:=by
 unfold iU at q ⊢
 rw[List.all_cons,q,Bool.and_false]
theorem u9{α:Type}{h:α->List D}:∀ {l:List α},Aq (l.map fun x=>.lst (h x))=some (l.map h)
 | []=>rfl
 | x::l=>by simp only[List.map_cons,Aq,u9 (l:=l),Option.map_some]
theorem gP{f:D->Rho->Option Fl}{h:Nat->D}{P:Nat->Rho->Prop}{N:Nat}(hs:∀ i ρ,i<N->P i ρ->∃ ρ',P (i+1) ρ'/\f (h i) ρ=some (.nxt ρ')){ρ:Rho}(h0:P 0 ρ):∃ ρ',P N ρ'/\cY f (Ls N h) ρ=some (.nxt ρ'):=by
  have key:∀ (n a:Nat) (ρ:Rho),a+n<=N->P a ρ->∃ ρ',P (a+n) ρ'/\cY f ((List.range' a n).map h) ρ=some (.nxt ρ'):=by
    intro n
    induction n with
    | zero=>intro a ρ _ hp;exact⟨ρ,hp,rfl⟩
    | succ n ih =>
      intro a ρ ha hp
      obtain⟨ρ1,h1,h2⟩:=hs a ρ (by omega) hp
      obtain⟨ρ2,h3,h4⟩:=ih (a+1) ρ1 (by omega) h1
      refine⟨ρ2,by rw[show a+(n+1)=a+1+n by omega];exact h3,?_⟩
      rw[List.range'_succ,List.map_cons]
      simp only[cY,h2]
      exact h4
  obtain⟨ρ',h1,h2⟩:=key N 0 ρ (by omega) h0
  rw[Nat.zero_add] at h1
  refine⟨ρ',h1,?_⟩
  unfold Ls
  rw[List.range_eq_range']
  exact h2
end DE
namespace M30
open PySem L2 DE
def top(i:Nat):Stmt:=PySem.Challenge.pw_minortables_k30_whole_steps.main.body.getD i (.Pass ⟨0,0,0,0⟩)
def aV(t:Stmt):Fd:=⟨(d7 t).args.map (·.arg),(d7 t).args.map (·.arg)++(((aZ t).names.filter fun p=>(p.2==.local||p.2==.cell) && !((d7 t).args.map (·.arg)).contains p.1).map (·.1)),aZ t,bV t⟩
def cs:List (Str×D):=[("MOST_LINES",.int 4),("UP",.str "up"),("DOWN",.str "down"),("SCALE",.str "scale"),("TURNED_WORDS",Km [("up","down"),("down","up"),("scale","scale")])]
def bl:List (Str×String):=[("len","len"),("all","all"),("tuple","tuple"),("list","list"),("abs","abs"),("int","int"),("bool","bool"),("isinstance","isinstance"),("range","range"),("zip","zip"),("reversed","reversed"),("ValueError","ValueError")]
def df:List (Str×Fd):=[(("is_whole":Str),aV (top 10)),(("is_whole_within":Str),aV (top 11)),(("is_short_tuple":Str),aV (top 12)),(("has_lines":Str),aV (top 13)),(("numbers_of":Str),aV (top 14)),(("has_table_form":Str),aV (top 15)),(("is_place":Str),aV (top 16)),(("need_table":Str),aV (top 17)),(("need_size":Str),aV (top 18)),(("common_measure":Str),aV (top 20)),(("lowest":Str),aV (top 21)),(("has_fraction_form":Str),aV (top 22)),(("is_fraction":Str),aV (top 23)),(("sum_of":Str),aV (top 24)),(("times_of":Str),aV (top 25)),(("all_sum":Str),aV (top 26)),(("need_fraction_table":Str),aV (top 27)),(("row_as_fractions":Str),aV (top 28)),(("as_fractions":Str),aV (top 29)),(("column_of":Str),aV (top 31)),(("columns_of":Str),aV (top 32)),(("plain_row":Str),aV (top 33)),(("plain":Str),aV (top 34)),(("is_step_of":Str),aV (top 40)),(("is_step":Str),aV (top 41)),(("need_steps":Str),aV (top 42)),(("row_by_column":Str),aV (top 43)),(("row_by_columns":Str),aV (top 44)),(("product_of":Str),aV (top 45)),(("table_of_step":Str),aV (top 46)),(("made_by":Str),aV (top 47)),(("turned_steps":Str),aV (top 48)),(("flipped_step":Str),aV (top 49)),(("flipped_steps":Str),aV (top 50)),(("_law_cell":Str),aV (top 52)),(("_law_pick":Str),aV (top 53)),(("_law_places":Str),aV (top 61)),(("_law_put":Str),aV (top 62)),(("_law_spoilt_thing":Str),aV (top 63)),(("_law_share":Str),aV (top 65)),(("_law_steps":Str),aV (top 66)),(("_law_lowest":Str),aV (top 67)),(("_law_sum":Str),aV (top 68)),(("_law_step_table":Str),aV (top 69)),(("_law_made":Str),aV (top 70)),(("_law_word":Str),aV (top 71)),(("_law_do":Str),aV (top 72)),(("_law_is_step":Str),aV (top 73)),(("law":Str),aV (top 74))]
def xs:List Str:=["NoTable","NoFit","NoPlace","NoStep","NoSteps","NoText"]
def T:Pg:=⟨cs,bl,df,xs,"MinorError"⟩
def BnO(nm:Str)(t:Stmt):Prop:=∀ (kV doc pm:Value) (an:Option Addr) (cdv ct:Value) (us:List Value),us.length=(aV t).ps.length->bindArgs (PySem.W.fnOf nm nm (d7 t) (bV t) (aZ t) .none kV doc pm an cdv ct) ⟨us,[]⟩=pure ((aV t).ps.zip us)
def fsB(fd:Fd):Bool:=decide (fd.sc.kind=.function) && !fd.sc.isCoroutine && !fd.sc.isGenerator&&decide fd.N.Nodup&&decide (fd.N.take fd.ps.length=fd.ps)&&fd.ps.all (fun x=>decide (fd.sc.names.lookup x=some .local)||decide (fd.sc.names.lookup x=some .cell))&&fd.sc.names.all fun y=>decide (y.2≠.free)
theorem JB{fd:Fd}(h:fsB fd=true):FnScope fd.N fd.ps fd.sc:=by
 unfold fsB at h
 simp only[Bool.and_eq_true,decide_eq_true_eq,Bool.not_eq_true',List.all_eq_true,Bool.or_eq_true] at h
 obtain⟨⟨⟨⟨⟨⟨h1,h2⟩,h3⟩,h4⟩,h5⟩,h6⟩,h7⟩:=h
 exact⟨h1,h2,h3,h4,h5,h6,h7⟩
theorem aU{K:PySem.W.Frag}{h:Heap}{mg:Str->Option Value}{nm:Str}{t:Stmt}(X:K.In h)(G:h.Ns mainGlobals mg)(f:Addr)(dc pm cd:Value)(hb:BnO nm t)(a:PySem.W.nsIn K mainGlobals nm=some (some (.ref f)))
  (l:K.lookup f=some ⟨.type "function",none,.func (PySem.W.fnOf nm nm (d7 t) (bV t) (aZ t) .none .none dc pm none cd .none),#[]⟩) (c:(PySem.W.codeIn K cd nm&&PySem.W.keepIn K (.ref f)&&fsB (aV t) && !(nm==("__debug__":Str)))=true):FunAt K mg nm (aV t):=by
 simp only[Bool.and_eq_true,Bool.not_eq_true'] at c
 obtain⟨⟨⟨c,k⟩,hs⟩,hd⟩:=c
 exact⟨⟨t,f,_,PySem.W.mg_of X G a,vM l c k,(vM l c k).binds hb,rfl,rfl⟩,JB hs,hd⟩
theorem len1{us:List Value}(h:us.length=1):∃ a,us=[a]:=List.length_eq_one_iff.mp h
theorem len2{us:List Value}(h:us.length=2):∃ a b,us=[a,b]:=by cases us with | nil=>cases h | cons a r=>obtain⟨b,e⟩:=len1 (us:=r) (Nat.succ.inj h);exact⟨a,b,congrArg (List.cons a) e⟩
theorem Gj{us:List Value}(h:us.length=3):∃ a b c,us=[a,b,c]:=by cases us with | nil=>cases h | cons a r=>obtain⟨b,c,e⟩:=len2 (us:=r) (Nat.succ.inj h);exact⟨a,b,c,congrArg (List.cons a) e⟩
theorem Kh{us:List Value}(h:us.length=4):∃ a b c d,us=[a,b,c,d]:=by cases us with | nil=>cases h | cons a r=>obtain⟨b,c,d,e⟩:=Gj (us:=r) (Nat.succ.inj h);exact⟨a,b,c,d,congrArg (List.cons a) e⟩
theorem b10:BnO "is_whole" (top 10):=fun _ _ _ _ _ _ _ h=>by obtain⟨_,rfl⟩:=len1 h;rfl
theorem b11:BnO "is_whole_within" (top 11):=fun _ _ _ _ _ _ _ h=>by obtain⟨_,_,_,rfl⟩:=Gj h;rfl
theorem b12:BnO "is_short_tuple" (top 12):=fun _ _ _ _ _ _ _ h=>by obtain⟨_,rfl⟩:=len1 h;rfl
theorem b13:BnO "has_lines" (top 13):=fun _ _ _ _ _ _ _ h=>by obtain⟨_,rfl⟩:=len1 h;rfl
theorem b14:BnO "numbers_of" (top 14):=fun _ _ _ _ _ _ _ h=>by obtain⟨_,rfl⟩:=len1 h;rfl
theorem b15:BnO "has_table_form" (top 15):=fun _ _ _ _ _ _ _ h=>by obtain⟨_,rfl⟩:=len1 h;rfl
theorem b16:BnO "is_place" (top 16):=fun _ _ _ _ _ _ _ h=>by obtain⟨_,_,rfl⟩:=len2 h;rfl
theorem b17:BnO "need_table" (top 17):=fun _ _ _ _ _ _ _ h=>by obtain⟨_,rfl⟩:=len1 h;rfl
theorem b18:BnO "need_size" (top 18):=fun _ _ _ _ _ _ _ h=>by obtain⟨_,_,rfl⟩:=len2 h;rfl
theorem b20:BnO "common_measure" (top 20):=fun _ _ _ _ _ _ _ h=>by obtain⟨_,_,rfl⟩:=len2 h;rfl
theorem b21:BnO "lowest" (top 21):=fun _ _ _ _ _ _ _ h=>by obtain⟨_,_,rfl⟩:=len2 h;rfl
theorem b22:BnO "has_fraction_form" (top 22):=fun _ _ _ _ _ _ _ h=>by obtain⟨_,rfl⟩:=len1 h;rfl
theorem b23:BnO "is_fraction" (top 23):=fun _ _ _ _ _ _ _ h=>by obtain⟨_,rfl⟩:=len1 h;rfl
theorem b24:BnO "sum_of" (top 24):=fun _ _ _ _ _ _ _ h=>by obtain⟨_,_,rfl⟩:=len2 h;rfl
theorem b25:BnO "times_of" (top 25):=fun _ _ _ _ _ _ _ h=>by obtain⟨_,_,rfl⟩:=len2 h;rfl
theorem b26:BnO "all_sum" (top 26):=fun _ _ _ _ _ _ _ h=>by obtain⟨_,rfl⟩:=len1 h;rfl
theorem b27:BnO "need_fraction_table" (top 27):=fun _ _ _ _ _ _ _ h=>by obtain⟨_,rfl⟩:=len1 h;rfl
theorem b28:BnO "row_as_fractions" (top 28):=fun _ _ _ _ _ _ _ h=>by obtain⟨_,rfl⟩:=len1 h;rfl
theorem b29:BnO "as_fractions" (top 29):=fun _ _ _ _ _ _ _ h=>by obtain⟨_,rfl⟩:=len1 h;rfl
theorem b31:BnO "column_of" (top 31):=fun _ _ _ _ _ _ _ h=>by obtain⟨_,_,rfl⟩:=len2 h;rfl
theorem b32:BnO "columns_of" (top 32):=fun _ _ _ _ _ _ _ h=>by obtain⟨_,rfl⟩:=len1 h;rfl
theorem b33:BnO "plain_row" (top 33):=fun _ _ _ _ _ _ _ h=>by obtain⟨_,_,rfl⟩:=len2 h;rfl
theorem b34:BnO "plain" (top 34):=fun _ _ _ _ _ _ _ h=>by obtain⟨_,rfl⟩:=len1 h;rfl
theorem b40:BnO "is_step_of" (top 40):=fun _ _ _ _ _ _ _ h=>by obtain⟨_,_,_,_,rfl⟩:=Kh h;rfl
theorem b41:BnO "is_step" (top 41):=fun _ _ _ _ _ _ _ h=>by obtain⟨_,_,rfl⟩:=len2 h;rfl
theorem b42:BnO "need_steps" (top 42):=fun _ _ _ _ _ _ _ h=>by obtain⟨_,_,rfl⟩:=len2 h;rfl
theorem b43:BnO "row_by_column" (top 43):=fun _ _ _ _ _ _ _ h=>by obtain⟨_,_,rfl⟩:=len2 h;rfl
theorem b44:BnO "row_by_columns" (top 44):=fun _ _ _ _ _ _ _ h=>by obtain⟨_,_,rfl⟩:=len2 h;rfl
theorem b45:BnO "product_of" (top 45):=fun _ _ _ _ _ _ _ h=>by obtain⟨_,_,rfl⟩:=len2 h;rfl
theorem b46:BnO "table_of_step" (top 46):=fun _ _ _ _ _ _ _ h=>by obtain⟨_,_,_,_,rfl⟩:=Kh h;rfl
theorem b47:BnO "made_by" (top 47):=fun _ _ _ _ _ _ _ h=>by obtain⟨_,_,rfl⟩:=len2 h;rfl
theorem b48:BnO "turned_steps" (top 48):=fun _ _ _ _ _ _ _ h=>by obtain⟨_,rfl⟩:=len1 h;rfl
theorem b49:BnO "flipped_step" (top 49):=fun _ _ _ _ _ _ _ h=>by obtain⟨_,_,_,_,rfl⟩:=Kh h;rfl
theorem b50:BnO "flipped_steps" (top 50):=fun _ _ _ _ _ _ _ h=>by obtain⟨_,_,rfl⟩:=len2 h;rfl
theorem b52:BnO "_law_cell" (top 52):=fun _ _ _ _ _ _ _ h=>by obtain⟨_,_,rfl⟩:=len2 h;rfl
theorem b53:BnO "_law_pick" (top 53):=fun _ _ _ _ _ _ _ h=>by obtain⟨_,_,_,rfl⟩:=Gj h;rfl
theorem b61:BnO "_law_places" (top 61):=fun _ _ _ _ _ _ _ h=>by obtain⟨_,rfl⟩:=len1 h;rfl
theorem b62:BnO "_law_put" (top 62):=fun _ _ _ _ _ _ _ h=>by obtain⟨_,_,_,rfl⟩:=Gj h;rfl
theorem b63:BnO "_law_spoilt_thing" (top 63):=fun _ _ _ _ _ _ _ h=>by obtain⟨_,_,_,rfl⟩:=Gj h;rfl
theorem b65:BnO "_law_share" (top 65):=fun _ _ _ _ _ _ _ h=>by obtain⟨_,_,rfl⟩:=len2 h;rfl
theorem b66:BnO "_law_steps" (top 66):=fun _ _ _ _ _ _ _ h=>by obtain⟨_,_,_,_,rfl⟩:=Kh h;rfl
theorem b67:BnO "_law_lowest" (top 67):=fun _ _ _ _ _ _ _ h=>by obtain⟨_,_,rfl⟩:=len2 h;rfl
theorem b68:BnO "_law_sum" (top 68):=fun _ _ _ _ _ _ _ h=>by obtain⟨_,rfl⟩:=len1 h;rfl
theorem b69:BnO "_law_step_table" (top 69):=fun _ _ _ _ _ _ _ h=>by obtain⟨_,_,rfl⟩:=len2 h;rfl
theorem b70:BnO "_law_made" (top 70):=fun _ _ _ _ _ _ _ h=>by obtain⟨_,_,rfl⟩:=len2 h;rfl
theorem b71:BnO "_law_word" (top 71):=fun _ _ _ _ _ _ _ h=>by obtain⟨_,rfl⟩:=len1 h;rfl
theorem b72:BnO "_law_do" (top 72):=fun _ _ _ _ _ _ _ h=>by obtain⟨_,_,_,rfl⟩:=Gj h;rfl
theorem b73:BnO "_law_is_step" (top 73):=fun _ _ _ _ _ _ _ h=>by obtain⟨_,_,rfl⟩:=len2 h;rfl
theorem b74:BnO "law" (top 74):=fun _ _ _ _ _ _ _ h=>by obtain⟨_,rfl⟩:=len1 h;rfl
theorem in_of{α:Type}{Q:Str->α->Prop}:∀ {l:List (Str×α)},(∀ p∈l,Q p.1 p.2)->∀ f fd,l.lookup f=some fd->Q f fd
  | (y, e) :: r, hp, f, fd, h => by
    rw[List.lookup_cons] at h
    cases hb:f==y with
    | true =>
      rw[hb] at h
      have e1:f=y:=by simpa using hb
      cases h
      subst e1
      exact hp _ List.mem_cons_self
    | false =>
      rw[hb] at h
      exact in_of (fun p hm=>hp p (List.mem_cons_of_mem _ hm)) f fd h
theorem aC{α:Type}{Q:α->Prop}{a:α}{l:List α}(h:Q a)(t:∀ p∈l,Q p):∀ p∈a::l,Q p:=List.forall_mem_cons.mpr ⟨h,t⟩
theorem aN{α:Type}{Q:α->Prop}:∀ p∈([]:List α),Q p:=List.forall_mem_nil _
theorem cA{K:PySem.W.Frag}{h:Heap}{mg:Str->Option Value}{x:Str}{i:Int}(X:K.In h)(G:h.Ns mainGlobals mg)(tk:Tok)(e:PySem.W.nsIn K mainGlobals x=some (some (.int i tk))):∃ v u,(∀ H,Rep K H (D.int i) v)/\mg x=some u/\RelV v u:=⟨.int i,_,fun _=>by simp[Rep],PySem.W.mg_of X G e,⟨_,rfl⟩⟩
theorem cS{K:PySem.W.Frag}{h:Heap}{mg:Str->Option Value}{x y:Str}(X:K.In h)(G:h.Ns mainGlobals mg)(tk:Tok)(e:PySem.W.nsIn K mainGlobals x=some (some (.str y tk))):∃ v u,(∀ H,Rep K H (D.str y) v)/\mg x=some u/\RelV v u:=⟨.str y,_,fun _=>by simp[Rep],PySem.W.mg_of X G e,⟨_,rfl⟩⟩
theorem bA{K:PySem.W.Frag}{h:Heap}{mg:Str->Option Value}{x:Str}{b:String}(X:K.In h)(G:h.Ns mainGlobals mg)(e:PySem.W.nsIn K mainGlobals x=some none)(q:x=Str.ofString b):mg x=none/\x=Str.ofString b:=⟨PySem.W.mg_none_of X G e,q⟩
theorem Rn:T.defs.lookup ("law":Str)=some (aV (top 74)):=by kernel_rfl
theorem fin{l:PySem.W.OpenLaw}{w:World}{K:PySem.W.Frag}{h:Heap}{mg:Str->Option Value}{fa:Addr}(hlaw:∀ ns:List Int,ns.length<=63->aJ T 60 40 "law" [.lst (ns.map D.int)]=some (.bl true))(TX:Text w K mg T)(X:K.In h)(G:h.Ns mainGlobals mg)(hfa:mg "law"=some (.ref fa))(f:Addr)(dc pm cd:Value)(a:PySem.W.nsIn K mainGlobals "law"=some (some (.ref f)))
  (lk:K.lookup f=some ⟨.type "function",none,.func (PySem.W.fnOf "law" "law" (d7 (top 74)) (bV (top 74)) (aZ (top 74)) .none .none dc pm none cd .none),#[]⟩) (c:PySem.W.codeIn K cd "law"=true) (kp:PySem.W.keepIn K (.ref f)=true) :
  ∃ fd:FuncData,(∀ (s:Shared) (v:Value),BindsTo s fd ⟨[v],[]⟩ [("_law_script",v)])/\∀ base:Heap,K.In base->base.Ns mainGlobals mg->FnOk l.prog w K mg base CX0 40 fa fd ["_law_script"] (qG K):=by
 have e:=hfa.symm.trans (PySem.W.mg_of X G a)
 cases e
 refine⟨_,fun s v=>.of_eq (b74 .none dc pm none cd .none [v] rfl),fun base _ _=>?_⟩
 exact Jd (fd:=aV (top 74)) (t:=top 74) (f:="law") TX Rn (vM lk c kp) rfl rfl (JB (by decide +kernel)) rfl hlaw
theorem walk{l:PySem.W.OpenLaw}{q:Program}{loose:List Str}{XP:(Str->Option Value)->Heap->Prop}{YP:World->Heap->Prop}{d:DefRec}{K:Params->PySem.W.Frag}(hn:l.most=some 63)(hdf:d.params.defaults=[])
    (hY:∀ (w:World) (h:Heap),YP w h->(K w.params).In h)
    (F:∀ (w:World) (mg:Str->Option Value) (fa:Addr) (h:Heap),(K w.params).In h->h.Ns mainGlobals mg->mg d.name=some (.ref fa) ->
      ∃ fd:FuncData,(∀ (s:Shared) (u:Value),BindsTo s fd ⟨[u],[]⟩ [("_law_script",u)])/\∀ base:Heap,(K w.params).In base->base.Ns mainGlobals mg->FnOk l.prog w (K w.params) mg base CX0 40 fa fd ["_law_script"] (qG (K w.params))) :
    PySem.W.WalkO q loose XP YP l.row.toRowW d [] (fun f vs=>PySem.call f vs) :=
  L2.BJ (n:=63) (k:=40) (x:="_law_script") (CX:=fun _=>CX0) (sp:=fun w=>qG (K w.params)) hn (by decide) hdf ⟨rfl,by decide,by decide⟩ hY F (fun _ _ a ns hl _ hS=>⟨a,ns,rfl,hS,hl,fun _=>rfl⟩) fun _ _ _ _ _ z=>z
end M30
local macro_rules | `(tactic| walk_at "xs") => `(tactic| first | exact DE.RW | exact DE.bLenL | exact DE.bSum | rfl | assumption | omega)
local macro_rules | `(tactic| walk_at "xm") => `(tactic| first | exact DE.aK | (refine' DE.aj ?hA ?hB; (case hA => walk_at "xv"); (case hB => walk_at "xm")))
local macro_rules | `(tactic| walk_at "xi") => `(tactic| first
  | (refine' DE.J5 ?hA ?hB; (case hA => rfl); (case hB => walk_at "xv"))
  | (refine' DE.wSq ?hA ?hB ?hC; (case hA => rfl); (case hB => walk_at "xv"); (case hC => rfl))
  | (refine' DE.wR ?hA ?hB ?hC; (case hA => rfl); (case hB => walk_at "xv"); (case hC => omega))
  | (refine' DE.wR2 ?hA ?hB ?hC ?hD; (case hA => rfl); (case hB => walk_at "xv"); (case hC => walk_at "xv"); (case hD => walk_at "xs"))
  | (refine' DE.R5 ?hA ?hB ?hC; (case hA => rfl); (case hB => walk_at "xv"); (case hC => walk_at "xv"))
  | (refine' DE.wRvLL ?hA ?hB; (case hA => rfl); (case hB => walk_at "xv"))
  | (refine' DE.wEnL ?hA ?hB; (case hA => rfl); (case hB => walk_at "xv")))
local macro_rules | `(tactic| walk_at "xl") => `(tactic| (refine' DE.cW ?hA ?hB ?hC (DE.bh ?hD); (case hA => rfl); (case hB => walk_at "xi"); (case hC => (exact DE.iM (by omega))); (case hD => (intro i hi; refine' DE.dg ?hE ?hF; (case hE => rfl); (case hF => walk_at "xv")))))
local macro_rules | `(tactic| walk_at "xv") => `(tactic| first
  | exact DE.xName rfl
  | exact DE.ak rfl
  | (refine' DE.bW ?hA ?hB ?hC; (case hA => walk_at "xv"); (case hB => walk_at "xv"); (case hC => walk_at "xs"))
  | (refine' DE.bC ?hA ?hB ?hC; (case hA => walk_at "xv"); (case hB => walk_at "xv"); (case hC => walk_at "xs"))
  | (refine' DE.Ku ?hA ?hB ?hC ?hD ?hE; (case hA => walk_at "xv"); (case hB => walk_at "xv"); (case hC => omega); (case hD => rfl); (case hE => rfl))
  | (refine' DE.Ks ?hA ?hB ?hC ?hD ?hE; (case hA => walk_at "xv"); (case hB => walk_at "xv"); (case hC => omega); (case hD => rfl); (case hE => rfl))
  | (refine' DE.oW ?hA ?hB ?hC ?hD ?hE; (case hA => walk_at "xv"); (case hB => walk_at "xv"); (case hC => omega); (case hD => rfl); (case hE => rfl))
  | (refine' DE.iK ?hA ?hB ?hC ?hD ?hE ?hF ?hG; (case hA => rfl); (case hB => rfl); (case hC => rfl); (case hD => walk_at "xv"); (case hE => rfl); (case hF => rfl); (case hG => rfl))
  | (refine' DE.dG ?hA ?hB ?hC ?hD ?hE; (case hA => rfl); (case hB => rfl); (case hC => rfl); (case hD => walk_at "xm"); (case hE => walk_at "xs"))
  | (refine' DE.aD ?hA ?hB ?hC; (case hA => rfl); (case hB => walk_at "xm"); (case hC => walk_at "xc"))
  | (refine' DE.xLr1n ?hA ?hB ?hC ?hD; (case hA => rfl); (case hB => rfl); (case hC => walk_at "xv"); (case hD => omega))
  | (refine' DE.eY ?hA ?hB; (case hA => walk_at "xm"); (case hB => rfl))
  | (refine' DE.oV ?hA ?hB; (case hA => walk_at "xm"); (case hB => rfl))
  | walk_at "xl"
  | (refine' DE.Gu ?hA; (case hA => walk_at "xv"))
  | (refine' DE.J3 ?hA; (case hA => walk_at "xv")))
namespace M30
open PySem DE
def whole:D->Bool
 | .int _=>true
 | _=>false
theorem is_whole(k:Nat){d:D}(h:dep d<1000):aJ T 60 (k+1) "is_whole" [d]=some (.bl (whole d)):=by
 cases d with
 | exc c=>exact absurd h (by simp[dep])
 | dic _ _=>exact absurd h (by simp[dep])
 | _=>kernel_rfl
def within(l m:Int):D->Bool
 | .int i=>decide (l<=i)&&decide (i<=m)
 | _=>false
theorem jA(k:Nat){d:D}{l m:Int}(h:dep d<1000):aJ T 60 (k+2) "is_whole_within" [d,.int l,.int m]=some (.bl (within l m d)):=by
  cases hw:whole d with
  | false =>
    have e:within l m d=false:=by cases d<;>first | rfl | simp[whole] at hw
    rw[e]
    refine cI (fd:=aV (top 11)) rfl rfl (dO (bB (xr ?_)))
    refine' aD ?L30a_1a ?L30a_1b ?L30a_1c;(case L30a_1a=>rfl);(case L30a_1b=>walk_at "xm");(case L30a_1c=>exact hw▸is_whole k h)
  | true =>
    cases d<;>simp[whole] at hw
    rename_i i
    refine cI (fd:=aV (top 11)) rfl rfl (dO (bB (lC ?_ (fU ?_))))
    · refine' aD ?L30a_2a ?L30a_2b ?L30a_2c;(case L30a_2a=>rfl);(case L30a_2b=>walk_at "xm");(case L30a_2c=>exact is_whole k (by simp[dep]))
    · by_cases h1:l<=i
      · have e:within l m (.int i)=decide (i<=m):=by simp[within,h1]
        rw[e]
        exact xg (by walk_at "xv") (by walk_at "xv") (oLe h1) (by walk_at "xv") Sw
      · have e:within l m (.int i)=false:=by simp[within,h1]
        rw[e]
        exact xq (by walk_at "xv") (by walk_at "xv") (Sv h1)
def bT:D->Bool
 | .tup us=>decide (1<=us.length)&&decide (us.length<=4)
 | _=>false
theorem oJ{us:List D}:blt "len" [.tup us]=some (.int (us.length:Int)):=rfl
theorem gM(k:Nat){d:D}(h:dep d<1000):aJ T 60 (k+1) "is_short_tuple" [d]=some (.bl (bT d)):=by
  cases ht:tU "tuple" d with
  | false =>
    have e:bT d=false:=by cases d<;>first | rfl | simp[tU] at ht
    rw[e]
    exact cI (fd:=aV (top 12)) rfl rfl (dO (bB (xr (iK rfl rfl rfl (by walk_at "xv") ht rfl (Vq h)))))
  | true =>
    cases d<;>simp[tU] at ht
    rename_i us
    refine cI (fd:=aV (top 12)) rfl rfl (dO (bB (lC (iK rfl rfl rfl (by walk_at "xv") rfl) (fU ?_))))
    by_cases h1:1<=us.length
    · have e:bT (.tup us)=decide ((us.length:Int)<=4):=by
        simp only[bT,h1,decide_true,Bool.true_and]
        exact decide_eq_decide.mpr (by omega)
      rw[e]
      refine xg (by walk_at "xv") (y:=.int (us.length:Int)) ?_ (oLe (by omega)) (by walk_at "xv") Sw
      refine' dG ?L30a_3a ?L30a_3b ?L30a_3c ?L30a_3d ?L30a_3e;(case L30a_3a=>rfl);(case L30a_3b=>rfl);(case L30a_3c=>rfl);(case L30a_3d=>walk_at "xm");(case L30a_3e=>exact oJ)
    · have e:bT (.tup us)=false:=by simp only[bT];rw[decide_eq_false h1];rfl
      rw[e]
      refine xq (by walk_at "xv") (y:=.int (us.length:Int)) ?_ (Sv (by omega))
      refine' dG ?L30a_4a ?L30a_4b ?L30a_4c ?L30a_4d ?L30a_4e;(case L30a_4a=>rfl);(case L30a_4b=>rfl);(case L30a_4c=>rfl);(case L30a_4d=>walk_at "xm");(case L30a_4e=>exact oJ)
theorem at0{z:D}{zs:List D}:atD (z::zs) 0=some z:=gk (j:=0) rfl
def Jc:D->Nat
 | .tup us=>us.length
 | _=>0
def lens(us:List D):Bool:=us.all fun r=>Jc r==Jc (us.headD .non)
def iH:D->Bool
 | .tup us=>bT (.tup us)&&us.all bT&&lens us
 | _=>false
theorem fG{d:D}(h:bT d=true):∃ us,d=.tup us/\1<=us.length/\us.length<=4:=by
 cases d<;>simp[bT] at h
 rename_i us
 exact⟨us,rfl,by omega,by omega⟩
theorem FP{us:List D}(h:dep (.tup us)<1000):∀ x∈us,dep x<1000:=fun x hx=>by
 have:=wj hx
 simp only[dep] at h
 omega
theorem has_lines(k:Nat){d:D}(h:dep d<1000):aJ T 60 (k+2) "has_lines" [d]=some (.bl (iH d)):=by
  cases hs:bT d with
  | false =>
    have e:iH d=false:=by cases d<;>first | rfl | (simp only[iH,hs];rfl)
    rw[e]
    refine cI (fd:=aV (top 13)) rfl rfl (pO (fl1:=.ret (.bl false)) (bB (wQ (jg ?_))) (dO (by walk_at "xv")) rfl)
    refine' aD ?L30a_5a ?L30a_5b ?L30a_5c;(case L30a_5a=>rfl);(case L30a_5b=>walk_at "xm");(case L30a_5c=>exact hs▸gM k h)
  | true =>
    obtain⟨us,rfl,g1,g4⟩:=fG hs
    have hd:=FP h
    cases ha:us.all bT with
    | false =>
      have e:iH (.tup us)=false:=by simp only[iH,ha,Bool.and_false,Bool.false_and]
      rw[e]
      refine cI (fd:=aV (top 13)) rfl rfl (pO (fl1:=.ret (.bl false)) (bB (fQ (bZ ?_) (fU (jg ?_)))) (dO (by walk_at "xv")) rfl)
      · refine' aD ?L30a_6a ?L30a_6b ?L30a_6c;(case L30a_6a=>rfl);(case L30a_6b=>walk_at "xm");(case L30a_6c=>exact hs▸gM k h)
      · refine dG rfl rfl rfl (aj (cW (l:=us) rfl (wSq rfl (by walk_at "xv") rfl) (j6 (by omega)) (cG (g:=fun x=>.bl (bT x)) fun x hx=>dg rfl ?_)) aK) (by rw[tH,ha])
        refine' aD ?L30a_7a ?L30a_7b ?L30a_7c;(case L30a_7a=>rfl);(case L30a_7b=>walk_at "xm");(case L30a_7c=>exact gM k (hd x hx))
    | true =>
      have e:iH (.tup us)=lens us:=by simp only[iH,ha,hs,Bool.true_and]
      rw[e]
      refine cI (fd:=aV (top 13)) rfl rfl (tV (bB (fQ (bZ ?_) (fU (bZ ?_)))) (dO ?_))
      · refine' aD ?L30a_8a ?L30a_8b ?L30a_8c;(case L30a_8a=>rfl);(case L30a_8b=>walk_at "xm");(case L30a_8c=>exact hs▸gM k h)
      · refine dG rfl rfl rfl (aj (cW (l:=us) rfl (wSq rfl (by walk_at "xv") rfl) (j6 (by omega)) (cG (g:=fun x=>.bl (bT x)) fun x hx=>dg rfl ?_)) aK) (by rw[tH,ha])
        refine' aD ?L30a_9a ?L30a_9b ?L30a_9c;(case L30a_9a=>rfl);(case L30a_9b=>walk_at "xm");(case L30a_9c=>exact gM k (hd x hx))
      · refine dG rfl rfl rfl (aj (cW (l:=us) rfl (wSq rfl (by walk_at "xv") rfl) (j6 (by omega)) (cG (g:=fun x=>.bl (Jc x==Jc (us.headD .non))) fun x hx=>dg rfl ?_)) aK) tH
        obtain⟨ys,rfl,y1,y4⟩:=fG (List.all_eq_true.mp ha x hx)
        cases us with
        | nil=>simp at g1
        | cons z zs =>
          obtain⟨ws,rfl,w1,w4⟩:=fG (List.all_eq_true.mp ha z (by simp))
          refine bC (x:=.int (ys.length:Int)) (y:=.int (ws.length:Int)) ?_ ?_ ?_
          · refine' dG ?L30a_10a ?L30a_10b ?L30a_10c ?L30a_10d ?L30a_10e;(case L30a_10a=>rfl);(case L30a_10b=>rfl);(case L30a_10c=>rfl);(case L30a_10d=>walk_at "xm");(case L30a_10e=>exact oJ)
          · refine dG rfl rfl rfl (aj ?_ aK) oJ
            exact xIx (by walk_at "xv") (by walk_at "xv") rfl at0
          · show some (D.bl ((ys.length:Int)==(ws.length:Int)))=_
            congr 2
            show _=(ys.length==ws.length)
            rw[Bool.eq_iff_iff]
            simp only[beq_iff_eq]
            omega
def nP:D->List D
 | .tup us=>us
 | _=>[]
def nums:List D->List D
 | []=>[]
 | r::rs=>nP r++nums rs
theorem nC:∀ (a:List D) (r:D),nums (a++[r])=nums a++nP r
 | [],r=>by simp[nums]
 | x::a,r=>by simp[nums,nC a r]
theorem iY:∀ {us:List D},us.all bT=true->(nums us).length<=4*us.length
  | [],_=>by simp[nums]
  | r :: us, h => by
    rw[List.all_cons,Bool.and_eq_true] at h
    obtain⟨ys,rfl,y1,y4⟩:=fG h.1
    have:=iY h.2
    simp only[nums,nP,List.length_append,List.length_cons]
    omega
theorem numbers_of(k:Nat){us:List D}(h4:us.length<=4)(ha:us.all bT=true):aJ T 60 (k+1) "numbers_of" [.tup us]=some (.lst (nums us)):=by
 have hl:=iY ha
 have key:∀ (s:Sl),(s=.no\/∃ d,s=.sh d)->blk (cxN T 60 k) 60 60 (aV (top 14)).sc ((aV (top 14)).body.drop 2) [("table",.sh (.tup us)),("told",.ow (nums us)),("row",s)]=some (.ret (.lst (nums us))):=by
  intro s hs
  rcases hs with rfl | ⟨d,rfl⟩
  ·exact dO (by walk_at "xv")
  ·exact dO (by walk_at "xv")
 refine cI (fd:=aV (top 14)) rfl rfl (mK rfl (d:=.lst []) (by walk_at "xv") (RB (l:=us) (fl1:=.nxt [("table",.sh (.tup us)),("told",.ow (nums us)),("row",Ec us)]) (wSq rfl (by walk_at "xv") rfl) ?_ (key _ ?_)))
 ·refine nT (R:=fun pre=>[("table",.sh (.tup us)),("told",.ow (nums pre)),("row",Ec pre)]) (whole:=us) (fun pre x post e=>?_) (pre:=[]) rfl
  have hx:bT x=true:=List.all_eq_true.mp ha x (by rw[<- e];simp)
  have hp:pre.all bT=true:=by rw[<- e,List.all_append,Bool.and_eq_true] at ha;exact ha.1
  have hl2:=iY hp
  have hl3:pre.length<=us.length:=by rw[<- e];simp
  obtain⟨ys,rfl,y1,y4⟩:=fG hx
  rw[nC,sS,show nP (.tup ys)=ys from rfl]
  exact jE rfl (RD rfl rfl rfl rfl (j6 (by omega)) (by walk_at "xv") dh)
 ·cases us with
  | nil=>exact .inl rfl
  | cons x r=>exact .inr ⟨_,rfl⟩
theorem qN{x:D}:∀ {us:List D},x∈nums us->∃ r∈us,x∈nP r
  | r :: us, h => by
    simp only[nums,List.mem_append] at h
    rcases h with h | h
    · exact⟨r,by simp,h⟩
    · obtain⟨r',h1,h2⟩:=qN h
      exact⟨r',List.mem_cons_of_mem _ h1,h2⟩
theorem lG{m:Nat}{h:Nat->D}:bT (.tup (Ls m h))=(decide (1<=m)&&decide (m<=4)):=by simp only[bT,cj]
theorem kI{m:Nat}{h:Nat->D}{x:D}(hx:x∈Ls m h):∃ i,i<m/\x=h i:=by
 unfold Ls at hx
 obtain⟨i,hi,rfl⟩:=List.mem_map.mp hx
 exact⟨i,List.mem_range.mp hi,rfl⟩
theorem En{m:Nat}{h:Nat->D}(hm:1<=m):(Ls m h).headD .non=h 0:=by
 obtain⟨m',rfl⟩:∃ m',m=m'+1:=⟨m-1,by omega⟩
 unfold Ls
 rw[List.range_succ_eq_map];rfl
theorem dR(k:Nat){i l h:Int}(h1:l<=i)(h2:i<=h):aJ T 60 (k+2) "is_whole_within" [.int i,.int l,.int h]=some (.bl true):=by
 rw[jA k (by simp[dep])]
 simp[within,h1,h2]
def tE(ns:List Int)(k:Nat):Int:=if k<ns.length then ns.getD k 0 else if ns=[] then 0 else ns.getD (k%ns.length) 0*31+k
def dY(ns:List Int)(k:Nat):Int:=(tE ns k+6151*((k:Int)+1))*40692%2147483399
def pickN(ns:List Int)(k many:Nat):Nat:=((dY ns k*dY ns k+dY ns k / 31)%2147483629%(many:Int)).toNat
theorem bN{ns:List Int}{k many:Nat}(h:0<many):pickN ns k many<many:=by
 unfold pickN
 have h1:=Int.emod_nonneg ((dY ns k*dY ns k+dY ns k / 31)%2147483629) (show(many:Int)≠0 by omega)
 have h2:=Int.emod_lt_of_pos ((dY ns k*dY ns k+dY ns k / 31)%2147483629) (show(0:Int)<many by omega)
 omega
abbrev scr(ns:List Int):D:=.lst (ns.map D.int)
theorem lH{ns:List Int}:blt "len" [scr ns]=some (.int (ns.length:Int)):=by
 show some (D.int ((ns.map D.int).length:Int))=_
 rw[List.length_map]
theorem zU{ns:List Int}{k:Nat}(h:k<ns.length):atD (ns.map D.int) (k:Int)=some (.int (ns.getD k 0)):=by
 refine gk ?_
 rw[List.getElem?_map,List.getElem?_eq_getElem h,List.getD_eq_getElem?_getD,List.getElem?_eq_getElem h];rfl
theorem Cq{ns:List Int}:dep (scr ns)<=50:=by
 simp only[dep]
 have:=mC (b:=0) (l:=ns.map D.int) fun d hd=>by
  obtain⟨i,_,rfl⟩:=List.mem_map.mp hd
  simp[dep]
 omega
theorem cell(k:Nat)(ns:List Int)(kk:Nat):aJ T 60 (k+1) "_law_cell" [scr ns,.int (kk:Int)]=some (.int (tE ns kk)):=by
 unfold tE
 by_cases h:kk<ns.length
 ·rw[if_pos h]
  refine cI (fd:=aV (top 52)) rfl rfl (pO (fl1:=.ret (.int (ns.getD kk 0))) (bC (by walk_at "xv") (dG rfl rfl rfl (by walk_at "xm") lH) (oLt (by omega))) (dO ?_) rfl)
  exact xIx (by walk_at "xv") (by walk_at "xv") rfl (zU h)
 ·rw[if_neg h]
  by_cases e:ns=[]
  ·subst e
   rw[if_pos rfl]
   refine cI (fd:=aV (top 52)) rfl rfl (tV (bC (by walk_at "xv") (dG rfl rfl rfl (by walk_at "xm") (lH (ns:=[]))) (Mp (by simp))) (pO (fl1:=.ret (.int 0)) (bC (by walk_at "xv") (by walk_at "xv") rfl) (dO (by walk_at "xv")) rfl))
  ·rw[if_neg e]
   have hl:0<ns.length:=List.length_pos_iff.mpr e
   refine cI (fd:=aV (top 52)) rfl rfl (tV (bC (by walk_at "xv") (dG rfl rfl rfl (by walk_at "xm") lH) (Mp (by omega))) (tV (bC (y:=.lst []) (by walk_at "xv") (by walk_at "xv") ?_) (dO ?_)))
   ·rw[oEq Cq (by simp[dep,deps])]
    cases ns with
    | nil=>exact absurd rfl e
    | cons a r=>rfl
   ·refine bW (bW (x:=.int (ns.getD (kk%ns.length) 0)) (xIx (i:=((kk%ns.length:Nat):Int)) (by walk_at "xv") ?_ rfl (zU (Nat.mod_lt _ hl))) (by walk_at "xv") (pW (.inr (by decide)))) (by walk_at "xv") rfl
    refine bW (by walk_at "xv") (dG rfl rfl rfl (by walk_at "xm") lH) ?_
    rw[Kp (by omega)]
    rfl
theorem pick(k:Nat)(ns:List Int)(kk:Nat){many:Nat}(h:0<many):aJ T 60 (k+2) "_law_pick" [scr ns,.int (kk:Int),.int (many:Int)]=some (.int ((pickN ns kk many:Nat):Int)):=by
 have d0:=Int.emod_nonneg ((tE ns kk+6151*((kk:Int)+1))*40692) (show(2147483399:Int)≠0 by decide)
 have d1:=Int.emod_lt_of_pos ((tE ns kk+6151*((kk:Int)+1))*40692) (show(0:Int)<2147483399 by decide)
 have e:((pickN ns kk many:Nat):Int)=(dY ns kk*dY ns kk+dY ns kk / 31)%2147483629%(many:Int):=by
  unfold pickN
  exact Int.toNat_of_nonneg (Int.emod_nonneg _ (by omega))
 rw[e]
 refine cI (fd:=aV (top 53)) rfl rfl (mK rfl (d:=.int (dY ns kk)) ?_ (dO ?_))
 ·refine bW (bW (bW (x:=.int (tE ns kk)) (y:=.int (6151*((kk:Int)+1))) ?_ ?_ rfl) (by walk_at "xv") (pW (.inr (by decide)))) (by walk_at "xv") (Kp (by decide))
  ·refine' aD ?L30a_20a ?L30a_20b ?L30a_20c;(case L30a_20a=>rfl);(case L30a_20b=>walk_at "xm");(case L30a_20c=>exact cell _ ns kk)
  ·exact bW (by walk_at "xv") (bW (by walk_at "xv") (by walk_at "xv") rfl) (pW (.inl (by decide)))
 ·refine bW (bW (bW (bW (by walk_at "xv") (by walk_at "xv") (pW (.inl ?_))) (bW (by walk_at "xv") (by walk_at "xv") (W4 (by decide) (by decide))) rfl) (by walk_at "xv") (Kp (by decide))) (by walk_at "xv") (Kp (by omega))
  unfold small
  unfold dY
  rw[decide_eq_true (by omega),decide_eq_true (by omega)];rfl
theorem oO{cx:Cxt}{n:Nat}{sc:Scope}{ρ:Rho}{e:Expr}{d d':D}(h:ev cx n sc ρ e=some d)(q:d=d'):ev cx n sc ρ e=some d':=q▸h
def mul(n:Nat)(f g:Nat->Nat->Int):Nat->Nat->Int:=fun i j=>R8 n fun l=>f i l*g l j
def dl(i j:Nat):Int:=if j=i then 1 else 0
theorem plain_row(k:Nat){n i:Nat}(h4:n<=4):aJ T 60 (k+1) "plain_row" [.int (n:Int),.int (i:Int)]=some (row n (dl i)):=by
 refine cI (fd:=aV (top 33)) rfl rfl (dO (dG rfl rfl rfl (aj ?_ aK) Bp))
 refine' cW ?L30a_21a ?L30a_21b ?L30a_21c (bh ?L30a_21d);(case L30a_21a=>rfl);(case L30a_21b=>walk_at "xi");(case L30a_21c=>exact iM (by omega))
 case L30a_21d =>
  intro j hj
  refine' dg ?L30a_21e ?L30a_21f;(case L30a_21e=>rfl)
  case L30a_21f =>
   by_cases e:j=i
   ·have:dl i j=1:=if_pos e
    rw[this]
    exact Gx (bC (by walk_at "xv") (by walk_at "xv") (Gh (by omega))) (by walk_at "xv")
   ·have:dl i j=0:=if_neg e
    rw[this]
    exact Gz (bC (by walk_at "xv") (by walk_at "xv") (Gi (by omega))) (by walk_at "xv")
theorem need_size(k:Nat){n:Nat}(h1:1<=n)(h4:n<=4):aJ T 60 (k+3) "need_size" [.int (n:Int),.int 4]=some .non:=by
 refine Bw (fd:=aV (top 18)) rfl rfl (tV (bZ ?_) dh)
 refine' aD ?L30a_22a ?L30a_22b ?L30a_22c;(case L30a_22a=>rfl);(case L30a_22b=>walk_at "xm");(case L30a_22c=>exact dR k (by omega) (by omega))
theorem plain(k:Nat){n:Nat}(h1:1<=n)(h4:n<=4):aJ T 60 (k+4) "plain" [.int (n:Int)]=some (tbl n n dl):=by
 refine cI (fd:=aV (top 34)) rfl rfl (Jr rfl (d:=.non) ?_ (dO (dG rfl rfl rfl (aj ?_ aK) Bp)))
 ·refine' aD ?L30a_23a ?L30a_23b ?L30a_23c;(case L30a_23a=>rfl);(case L30a_23b=>walk_at "xm");(case L30a_23c=>exact need_size k h1 h4)
 ·refine' cW ?L30a_24a ?L30a_24b ?L30a_24c (bh ?L30a_24d);(case L30a_24a=>rfl);(case L30a_24b=>walk_at "xi");(case L30a_24c=>exact iM (by omega))
  case L30a_24d =>
   intro i hi
   refine' dg ?L30a_24e ?L30a_24f;(case L30a_24e=>rfl)
   case L30a_24f =>
    refine' aD ?L30a_25a ?L30a_25b ?L30a_25c;(case L30a_25a=>rfl);(case L30a_25b=>walk_at "xm");(case L30a_25c=>exact plain_row (k+2) h4)
end M30
namespace M30
open PySem DE
def bJ(i j:Nat):Stmt:=(aV (top i)).body.getD j (.Pass ⟨0,0,0,0⟩)
def bD:Stmt->List Stmt
 | .For _ _ b _ _=>b
 | _=>[]
def gO:Stmt->Expr
 | .For t _ _ _ _=>t
 | _=>.Name "" ⟨0,0,0,0⟩
def whB:Stmt->List Stmt
 | .While _ b _ _=>b
 | _=>[]
def whC:Stmt->Expr
 | .While c _ _ _=>c
 | _=>.Name "" ⟨0,0,0,0⟩
abbrev whR(cx:Cxt)(sc:Scope)(s:Stmt)(N:Nat)(ρ:Rho):Option Fl:=qm (fun ρ=>((ev cx 60 sc (frz 60 (whC s) ρ) (whC s)).bind asB).map fun b=>(frz 60 (whC s) ρ,b)) (fun ρ=>blk cx 60 59 sc (whB s) ρ) N ρ
def xV(a b:Int)(r:Sl):Rho:=[("one",.sh (.int a)),("other",.sh (.int b)),("rest",r)]
theorem Ss{b:Int}:cmpop .NotEq (.int b) (.int 0)=some (.bl (decide (b≠0))):=by
 rw[oNe (by simp[dep]) (by simp[dep])]
 by_cases h:b=0
 ·subst h;rfl
 ·simp[deq,h]
theorem RP(k:Nat):∀ (n:Nat) (a b:Int) (r:Sl) (N:Nat),nOw r=true->b.natAbs<=n->n<N->∃ a' r',nOw r'=true/\a'.natAbs=Int.gcd a b/\whR (cxN T 60 k) (aV (top 20)).sc (bJ 20 0) N (xV a b r)=some (.nxt (xV a' 0 r')):=by
  intro n
  induction n with
  | zero =>
    intro a b r N hr hb hN
    have b0:b=0:=by omega
    subst b0
    obtain⟨N',rfl⟩:∃ N',N=N'+1:=⟨N-1,by omega⟩
    exact⟨a,r,hr,by simp,qj (cN (aR rfl (aR rfl (aR hr rfl)))) (bC (x:=.int 0) (y:=.int 0) (xName rfl) (ak rfl) rfl)⟩
  | succ n ih =>
    intro a b r N hr hb hN
    obtain⟨N',rfl⟩:∃ N',N=N'+1:=⟨N-1,by omega⟩
    by_cases b0:b=0
    · subst b0
      exact⟨a,r,hr,by simp,qj (cN (aR rfl (aR rfl (aR hr rfl)))) (bC (x:=.int 0) (y:=.int 0) (xName rfl) (ak rfl) rfl)⟩
    · have hl:=vP (a:=a) b0
      obtain⟨a',r',h1,h2,h3⟩:=ih b (a.fmod b) (.sh (.int (a.fmod b))) N' rfl (by omega) (by omega)
      refine⟨a',r',h1,by rw[h2,qW],zP (ρ1:=xV a b r) (ρ2:=xV b (a.fmod b) (.sh (.int (a.fmod b)))) (cN (aR rfl (aR rfl (aR hr rfl)))) (bC (x:=.int b) (y:=.int 0) (xName rfl) (ak rfl) (by rw[Ss,decide_eq_true b0])) ?_ h3⟩
      refine gU (d:=.int (a.fmod b)) (aR rfl (aR rfl (aR hr rfl))) rfl rfl (bW (x:=.int a) (y:=.int b) (xName rfl) (xName rfl) (JW b0)) ?_
      refine gj (ρ:=xV a b (.sh (.int (a.fmod b)))) (ρ':=xV a b (.sh (.int (a.fmod b)))) (d:=.int b) rfl rfl rfl (xName rfl) ?_
      exact gj (ρ:=xV b b (.sh (.int (a.fmod b)))) (ρ':=xV b b (.sh (.int (a.fmod b)))) (d:=.int (a.fmod b)) rfl rfl rfl (xName rfl) dh
theorem common(k:Nat){a b:Int}(hb:b.natAbs<10000000000000000000000000000000000000000000000000000000000000000000000000000000000000000000000000000):aJ T 60 (k+1) "common_measure" [.int a,.int b]=some (.int (gc a b)):=by
 obtain⟨a',r',h1,h2,h3⟩:=RP k b.natAbs a b .no 10000000000000000000000000000000000000000000000000000000000000000000000000000000000000000000000000000 rfl (Nat.le_refl _) hb
 refine cI (fd:=aV (top 20)) rfl rfl (vL (ρ2:=xV a' 0 r') h3 (jR (aR rfl (aR rfl (aR h1 rfl))) (oO (dG (ds:=[.int a']) rfl rfl rfl (aj (xName rfl) aK) rfl) ?_)))
 congr 1
 unfold gc
 rw[<- h2]
 split<;>omega
theorem lowest(k:Nat){u d:Int}(hd:d≠0)(hb:d.natAbs<10000000000000000000000000000000000000000000000000000000000000000000000000000000000000000000000000000):aJ T 60 (k+2) "lowest" [.int u,.int d]=some (loD u d):=by
 have g0:=nR (u:=u) hd
 have cm:=common k (a:=u) hb
 have gl:(gc u d).natAbs<=d.natAbs:=by
  have:=Nat.le_of_dvd (by omega) (Int.gcd_dvd_natAbs_right u d)
  unfold gc;omega
 have lg:(gc u d).natAbs.log2<9000:=Aw (Nat.lt_of_le_of_lt gl (Nat.lt_of_lt_of_le hb (by decide +kernel)))
 refine cI (fd:=aV (top 21)) rfl rfl (gj (ρ':=[("up",.sh (.int u)),("down",.sh (.int d)),("measure",.no)]) (d:=.int (gc u d)) rfl rfl rfl (aD rfl (aj (xName rfl) (aj (xName rfl) aK)) cm) ?_)
 by_cases q:d<0
 ·refine Jx (ρ:=[("up",.sh (.int u)),("down",.sh (.int d)),("measure",.sh (.int (gc u d)))]) (ρ':=[("up",.sh (.int u)),("down",.sh (.int d)),("measure",.sh (.int (gc u d)))]) (ρ2:=[("up",.sh (.int u)),("down",.sh (.int d)),("measure",.sh (.int (-(gc u d))))]) rfl (bC (x:=.int d) (y:=.int 0) (xName rfl) (ak rfl) (oLt q)) (gj (ρ':=[("up",.sh (.int u)),("down",.sh (.int d)),("measure",.sh (.int (gc u d)))]) (d:=.int (-(gc u d))) rfl rfl rfl (Gu (xName rfl)) dh) (dO ?_)
  refine oO (eY (ds:=[.int (u.fdiv (-(gc u d))),.int (d.fdiv (-(gc u d)))]) (aj (bW (xName rfl) (xName rfl) (oK (by omega) (by rw[Int.natAbs_neg];exact lg))) (aj (bW (xName rfl) (xName rfl) (oK (by omega) (by rw[Int.natAbs_neg];exact lg))) aK)) rfl) ?_
  show D.tup _=D.tup [.int (nF u d),.int (nH u d)]
  unfold nF nH
  rw[if_pos q,if_pos q,fdiv_neg (by omega) Jp,fdiv_neg (by omega) Jq]
 ·refine WR (ρ:=[("up",.sh (.int u)),("down",.sh (.int d)),("measure",.sh (.int (gc u d)))]) (ρ':=[("up",.sh (.int u)),("down",.sh (.int d)),("measure",.sh (.int (gc u d)))]) rfl (bC (x:=.int d) (y:=.int 0) (xName rfl) (ak rfl) (Mp q)) (dO ?_)
  refine oO (eY (ds:=[.int (u.fdiv (gc u d)),.int (d.fdiv (gc u d))]) (aj (bW (xName rfl) (xName rfl) (oK (by omega) lg)) (aj (bW (xName rfl) (xName rfl) (oK (by omega) lg)) aK)) rfl) ?_
  show D.tup _=D.tup [.int (nF u d),.int (nH u d)]
  unfold nF nH
  rw[if_neg q,if_neg q,eN g0,eN g0]
theorem vO(k:Nat){u d:Int}(hb:d.natAbs<10000000000000000000000000000000000000000000000000000000000000000000000000000000000000000000000000000):aJ T 60 (k+2) "has_fraction_form" [frD u d]=some (.bl (decide (0<d)&&decide (Int.gcd u d=1))):=by
 have w:∀ i,aJ T 60 (k+1) "is_whole" [.int i]=some (.bl true):=fun i=>is_whole k (by simp[dep])
 refine cI (fd:=aV (top 22)) rfl rfl (tV (bB (fQ (bZ (iK rfl rfl rfl (xName rfl) rfl)) (fU (bC (x:=.int 2) (y:=.int 2) (dG rfl rfl rfl (aj (x:=frD u d) (xName rfl) aK) rfl) (ak rfl) (Dz rfl))))) (tV (bB (fQ (bZ (aD rfl (aj (x:=.int u) (xIx (x:=frD u d) (i:=0) (xName rfl) (ak rfl) rfl rfl) aK) (w u))) (fU (bZ (aD rfl (aj (x:=.int d) (xIx (x:=frD u d) (i:=1) (xName rfl) (ak rfl) rfl rfl) aK) (w d)))))) (dO (bB ?_))))
 by_cases q:0<d
 ·rw[decide_eq_true q,Bool.true_and]
  refine lC (bC (x:=.int d) (y:=.int 0) (xIx (x:=frD u d) (i:=1) (xName rfl) (ak rfl) rfl rfl) (ak rfl) (by rw[oGt,decide_eq_true q])) (fU (bC (x:=.int (gc u d)) (y:=.int 1) (aD rfl (aj (x:=.int u) (xIx (x:=frD u d) (i:=0) (xName rfl) (ak rfl) rfl rfl) (aj (x:=.int d) (xIx (x:=frD u d) (i:=1) (xName rfl) (ak rfl) rfl rfl) aK)) (common k hb)) (ak rfl) ?_))
  by_cases e:Int.gcd u d=1
  ·rw[decide_eq_true e];exact Gh (by unfold gc;omega)
  ·rw[decide_eq_false e];exact Gi (by unfold gc;omega)
 ·rw[decide_eq_false q,Bool.false_and]
  exact xr (bC (x:=.int d) (y:=.int 0) (xIx (x:=frD u d) (i:=1) (xName rfl) (ak rfl) rfl rfl) (ak rfl) (by rw[oGt,decide_eq_false q]))
theorem qZ(k:Nat){u d:Int}(hb:d.natAbs<10000000000000000000000000000000000000000000000000000000000000000000000000000000000000000000000000000)(h:oN u d):aJ T 60 (k+2) "has_fraction_form" [frD u d]=some (.bl true):=by
 rw[vO k hb,decide_eq_true h.1,decide_eq_true h.2];rfl
theorem Rp(k:Nat){u d:Int}(hb:d.natAbs<10000000000000000000000000000000000000000000000000000000000000000000000000000000000000000000000000000)(h:oN u d)(h0:0<=u):aJ T 60 (k+3) "is_fraction" [frD u d]=some (.bl true):=by
 refine cI (fd:=aV (top 23)) rfl rfl (dO (bB (lC (aD rfl (aj (x:=frD u d) (xName rfl) aK) (qZ k hb h)) (fU (bC (x:=.int u) (y:=.int 0) (xIx (x:=frD u d) (i:=0) (xName rfl) (ak rfl) rfl rfl) (ak rfl) ?_)))))
 show some (D.bl (decide (0<=u)))=_
 rw[decide_eq_true h0]
theorem smN{x:Int}(h:x.natAbs<=1000000000000000000):small x=true:=by
 unfold small;rw[decide_eq_true (by omega),decide_eq_true (by omega)];rfl
theorem Vt{a b:Int}(h:a.natAbs<=1000000000000000000)(h':b.natAbs<=1000000000000000000):(a*b).natAbs<=1000000000000000000000000000000000000:=by
 rw[Int.natAbs_mul]
 exact Nat.mul_le_mul h h'
theorem Ak{a b:Int}(h:a≠0)(h':b≠0):a*b≠0:=Int.mul_ne_zero h h'
section
variable {a b c d:Int}
theorem sum_of(k:Nat)(hb:b≠0)(hd:d≠0)(ka:a.natAbs<=1000000000000000000)(kb:b.natAbs<=1000000000000000000)(kc:c.natAbs<=1000000000000000000)(kd:d.natAbs<=1000000000000000000):aJ T 60 (k+3) "sum_of" [frD a b,frD c d]=some (loD (a*d+c*b) (b*d)):=by
 have z:=Vt kb kd
 refine cI (fd:=aV (top 24)) rfl rfl (dO (aD rfl (aj (bW (x:=.int (a*d)) (y:=.int (c*b)) (bW (x:=.int a) (y:=.int d) (xIx (x:=frD a b) (i:=0) (xName rfl) (ak rfl) rfl rfl) (xIx (x:=frD c d) (i:=1) (xName rfl) (ak rfl) rfl rfl) (pW (.inl (smN ka)))) (bW (x:=.int c) (y:=.int b) (xIx (x:=frD c d) (i:=0) (xName rfl) (ak rfl) rfl rfl) (xIx (x:=frD a b) (i:=1) (xName rfl) (ak rfl) rfl rfl) (pW (.inl (smN kc)))) rfl) (aj (bW (x:=.int b) (y:=.int d) (xIx (x:=frD a b) (i:=1) (xName rfl) (ak rfl) rfl rfl) (xIx (x:=frD c d) (i:=1) (xName rfl) (ak rfl) rfl rfl) (pW (.inl (smN kb)))) aK)) (lowest k (Ak hb hd) (by omega))))
theorem times_of(k:Nat)(hb:b≠0)(hd:d≠0)(ka:a.natAbs<=1000000000000000000)(kb:b.natAbs<=1000000000000000000)(kd:d.natAbs<=1000000000000000000):aJ T 60 (k+3) "times_of" [frD a b,frD c d]=some (loD (a*c) (b*d)):=by
 have z:=Vt kb kd
 refine cI (fd:=aV (top 25)) rfl rfl (dO (aD rfl (aj (bW (x:=.int a) (y:=.int c) (xIx (x:=frD a b) (i:=0) (xName rfl) (ak rfl) rfl rfl) (xIx (x:=frD c d) (i:=0) (xName rfl) (ak rfl) rfl rfl) (pW (.inl (smN ka)))) (aj (bW (x:=.int b) (y:=.int d) (xIx (x:=frD a b) (i:=1) (xName rfl) (ak rfl) rfl rfl) (xIx (x:=frD c d) (i:=1) (xName rfl) (ak rfl) rfl rfl) (pW (.inl (smN kb)))) aK)) (lowest k (Ak hb hd) (by omega))))
end
def su(u d:Int)(a b:Sl):Rho:=[("_law_up",.sh (.int u)),("_law_down",.sh (.int d)),("_law_one",a),("_law_other",b)]
theorem Rh(k:Nat){u d:Int}:∀ (n:Nat) (a b:Int) (N:Nat),0<=a->0<=b->b.natAbs<=n->n<N->∃ a':Int,0<=a'/\a'.natAbs=Int.gcd a b/\whR (cxN T 60 k) (aV (top 67)).sc (bJ 67 1) N (su u d (.sh (.int a)) (.sh (.int b)))=some (.nxt (su u d (.sh (.int a')) (.sh (.int 0)))):=by
  intro n
  induction n with
  | zero =>
    intro a b N ha h0 hb hN
    have b0:b=0:=by omega
    subst b0
    obtain⟨N',rfl⟩:∃ N',N=N'+1:=⟨N-1,by omega⟩
    exact⟨a,ha,by simp,qj rfl (bC (x:=.int 0) (y:=.int 0) (xName rfl) (ak rfl) rfl)⟩
  | succ n ih =>
    intro a b N ha h0 hb hN
    obtain⟨N',rfl⟩:∃ N',N=N'+1:=⟨N-1,by omega⟩
    by_cases b0:b=0
    · subst b0
      exact⟨a,ha,by simp,qj rfl (bC (x:=.int 0) (y:=.int 0) (xName rfl) (ak rfl) rfl)⟩
    · have hl:=vP (a:=a) b0
      have hn:=Int.fmod_nonneg_of_pos a (b:=b) (by omega)
      obtain⟨a',h1,h2,h3⟩:=ih b (a.fmod b) N' h0 hn (by omega) (by omega)
      refine⟨a',h1,by rw[h2,qW],zP (ρ1:=su u d (.sh (.int a)) (.sh (.int b))) (ρ2:=su u d (.sh (.int b)) (.sh (.int (a.fmod b)))) rfl (bC (x:=.int b) (y:=.int 0) (xName rfl) (ak rfl) (by rw[Ss,decide_eq_true b0])) ?_ h3⟩
      exact gTup (d:=.tup [.int b,.int (a.fmod b)]) rfl (eY (aj (xName rfl) (aj (bW (x:=.int a) (y:=.int b) (xName rfl) (xName rfl) (JW b0)) aK)) rfl) rfl rfl dh
theorem Rk(k:Nat){u d:Int}(hd:d≠0)(hb:d.natAbs<10000000000000000000000000000000000000000000000000000000000000000000000000000000000000000000000000000):aJ T 60 (k+1) "_law_lowest" [.int u,.int d]=some (loD u d):=by
 have g0:=nR (u:=u) hd
 obtain⟨a',h1,h2,h3⟩:=Rh k (u:=u) (d:=d) d.natAbs (if u<0 then -u else u) (if d<0 then -d else d) 10000000000000000000000000000000000000000000000000000000000000000000000000000000000000000000000000000 (by split<;>omega) (by split<;>omega) (by split<;>omega) hb
 have e:a'=gc u d:=by
  have:Int.gcd (if u<0 then -u else u) (if d<0 then -d else d)=Int.gcd u d:=by
   split<;>split<;>simp
  rw[this] at h2
  unfold gc;omega
 subst e
 have gl:(gc u d).natAbs<=d.natAbs:=by
  have:=Nat.le_of_dvd (by omega) (Int.gcd_dvd_natAbs_right u d)
  unfold gc;omega
 have lg:(gc u d).natAbs.log2<9000:=Aw (Nat.lt_of_le_of_lt gl (Nat.lt_of_lt_of_le hb (by decide +kernel)))
 refine cI (fd:=aV (top 67)) rfl rfl (gTup (d:=.tup [.int (if u<0 then -u else u),.int (if d<0 then -d else d)]) (ρ':=su u d (.sh (.int (if u<0 then -u else u))) (.sh (.int (if d<0 then -d else d)))) rfl (eY (aj (dG (ds:=[.int u]) rfl rfl rfl (aj (xName rfl) aK) rfl) (aj (dG (ds:=[.int d]) rfl rfl rfl (aj (xName rfl) aK) rfl) aK)) rfl) rfl rfl (vL h3 (dO ?_)))
 show ev _ _ _ (su u d (.sh (.int (gc u d))) (.sh (.int 0))) _=_
 by_cases q:0<d
 ·refine Gx (bC (x:=.int d) (y:=.int 0) (xName rfl) (ak rfl) (by rw[oGt,decide_eq_true q])) (oO (eY (ds:=[.int (u.fdiv (gc u d)),.int (d.fdiv (gc u d))]) (aj (bW (xName rfl) (xName rfl) (oK (by omega) lg)) (aj (bW (xName rfl) (xName rfl) (oK (by omega) lg)) aK)) rfl) ?_)
  show D.tup _=D.tup [.int (nF u d),.int (nH u d)]
  unfold nF nH
  rw[if_neg (by omega),if_neg (by omega),eN g0,eN g0]
 ·refine Gz (bC (x:=.int d) (y:=.int 0) (xName rfl) (ak rfl) (by rw[oGt,decide_eq_false q])) (oO (eY (ds:=[.int (0-u.fdiv (gc u d)),.int (0-d.fdiv (gc u d))]) (aj (bW (ak rfl) (bW (xName rfl) (xName rfl) (oK (by omega) lg)) rfl) (aj (bW (ak rfl) (bW (xName rfl) (xName rfl) (oK (by omega) lg)) rfl) aK)) rfl) ?_)
  show D.tup _=D.tup [.int (nF u d),.int (nH u d)]
  unfold nF nH
  rw[if_pos (by omega),if_pos (by omega),eN g0,eN g0,Int.zero_sub,Int.zero_sub]
theorem pZ{cx:Cxt}{N j:Nat}{sc:Scope}{ρ:Rho}{e:Expr}{p q:Pos}{u d:Int}(h:ev cx (N+1) sc ρ e=some (frD u d)):ev cx (N+2) sc ρ (.Subscript e (.Constant (.int 0) j q) p)=some (.int u):=xIx (x:=frD u d) (i:=0) h (ak rfl) rfl rfl
theorem zN{cx:Cxt}{N j:Nat}{sc:Scope}{ρ:Rho}{e:Expr}{p q:Pos}{u d:Int}(h:ev cx (N+1) sc ρ e=some (frD u d)):ev cx (N+2) sc ρ (.Subscript e (.Constant (.int 1) j q) p)=some (.int d):=xIx (x:=frD u d) (i:=1) h (ak rfl) rfl rfl
theorem Bj{m b:Nat}{h:Nat->D}(q:∀ i,i<m->dep (h i)<=b):deps (Ls m h)<=b:=mC fun x hx=>by
 obtain⟨i,hi,rfl⟩:=kI hx
 exact q i hi
theorem vh{m n:Nat}{h:Nat->Nat->D}(h1:1<=m)(hm:m<=4)(h2:1<=n)(hn:n<=4):iH (.tup (Ls m fun i=>.tup (Ls n (h i))))=true:=by
 show(bT (.tup (Ls m fun i=>.tup (Ls n (h i))))&&(Ls m fun i=>D.tup (Ls n (h i))).all bT&&lens (Ls m fun i=>D.tup (Ls n (h i))))=true
 rw[lG,decide_eq_true h1,decide_eq_true hm]
 have a1:(Ls m fun i=>D.tup (Ls n (h i))).all bT=true:=by
  rw[List.all_eq_true]
  intro x hx
  obtain⟨i,_,rfl⟩:=kI hx
  rw[lG,decide_eq_true h2,decide_eq_true hn];rfl
 have a2:lens (Ls m fun i=>D.tup (Ls n (h i)))=true:=by
  unfold lens
  rw[List.all_eq_true,En h1]
  intro x hx
  obtain⟨i,_,rfl⟩:=kI hx
  simp[Jc,cj]
 rw[a1,a2];rfl
theorem m6{m n:Nat}{h:Nat->Nat->D}(h2:1<=n)(hn:n<=4):(Ls m fun i=>D.tup (Ls n (h i))).all bT=true:=by
 rw[List.all_eq_true]
 intro x hx
 obtain⟨i,_,rfl⟩:=kI hx
 rw[lG,decide_eq_true h2,decide_eq_true hn];rfl
end M30
namespace M30
open PySem DE
theorem wk(q:Rat):(q.den:Int)≠0:=by have:=q.den_nz;omega
theorem d_na(q:Rat):((q.den:Int)).natAbs=q.den:=rfl
section
variable {a b:Rat}
theorem K4(k:Nat)(ha:Sq a)(hb:Sq b):aJ T 60 (k+3) "sum_of" [qD a,qD b]=some (qD (a+b)):=by
 rw[sum_of k (wk a) (wk b) ha.1 ha.2 hb.1 hb.2,Rj (Int.mul_ne_zero (wk a) (wk b)),G7]
theorem BP(k:Nat)(ha:Sq a)(hb:Sq b):aJ T 60 (k+3) "times_of" [qD a,qD b]=some (qD (a*b)):=by
 rw[times_of k (wk a) (wk b) ha.1 ha.2 hb.2,Rj (Int.mul_ne_zero (wk a) (wk b)),Al]
theorem Bb(k:Nat)(ha:Sq a)(h:0<=a):aJ T 60 (k+3) "is_fraction" [qD a]=some (.bl true):=Rp k (Nat.lt_of_le_of_lt ha.2 (by decide +kernel)) (CG a) (Ai h)
theorem JC(k:Nat)(ha:Sq a):aJ T 60 (k+2) "has_fraction_form" [qD a]=some (.bl true):=qZ k (Nat.lt_of_le_of_lt ha.2 (by decide +kernel)) (CG a)
end
def zW(l:D)(t f:Sl):Rho:=[("some",.sh l),("told",t),("fraction",f)]
def yI(g:Nat->Rat):Nat->Sl
 | 0=>.no
 | i+1=>.sh (qD (g i))
theorem Ed(g:Nat->Rat)(i:Nat):nOw (yI g i)=true:=by cases i<;>rfl
theorem all_sum(k:Nat){n:Nat}{g:Nat->Rat}(hg:∀ i,i<n->Sq (g i))(hs:∀ i,i<n->Sq (bF i g)):aJ T 60 (k+4) "all_sum" [.lst (Ls n fun i=>qD (g i))]=some (qD (bF n g)):=by
 refine cI (fd:=aV (top 26)) rfl rfl (gj (ρ':=zW (.lst (Ls n fun i=>qD (g i))) .no .no) (d:=qD 0) rfl rfl rfl (eY (aj (ak rfl) (aj (ak rfl) aK)) rfl) ?_)
 refine jY (ρ:=zW (.lst (Ls n fun i=>qD (g i))) (.sh (qD (bF 0 g))) .no) (ρ':=zW (.lst (Ls n fun i=>qD (g i))) (.sh (qD (bF 0 g))) (yI g 0)) (ρ2:=zW (.lst (Ls n fun i=>qD (g i))) (.sh (qD (bF n g))) (yI g n)) rfl (wSq (x:=.lst (Ls n fun i=>qD (g i))) rfl (xName rfl) rfl) (rm (R:=fun i=>zW (.lst (Ls n fun i=>qD (g i))) (.sh (qD (bF i g))) (yI g i)) fun i hi=>?_) (jR (aR rfl (aR rfl (aR (Ed g n) rfl))) (xName rfl))
 refine jE (ρ1:=zW (.lst (Ls n fun i=>qD (g i))) (.sh (qD (bF i g))) (.sh (qD (g i)))) rfl ?_
 exact gj (ρ:=zW (.lst (Ls n fun i=>qD (g i))) (.sh (qD (bF i g))) (.sh (qD (g i)))) (ρ':=zW (.lst (Ls n fun i=>qD (g i))) (.sh (qD (bF i g))) (.sh (qD (g i)))) (d:=qD (bF (i+1) g)) rfl rfl rfl (aD rfl (aj (xName rfl) (aj (xName rfl) aK)) (K4 k (hs i hi) (hg i hi))) dh
abbrev rwq(n:Nat)(f:Nat->Rat):D:=.tup (Ls n fun j=>qD (f j))
abbrev ftq(m n:Nat)(F:Nat->Nat->Rat):D:=.tup (Ls m fun i=>rwq n (F i))
theorem row_by_column(k:Nat){n:Nat}{f g:Nat->Rat}(h4:n<=4)(hf:∀ i,i<n->Sq (f i))(hg:∀ i,i<n->Sq (g i))(hp:∀ i,i<n->Sq (f i*g i))(hs:∀ i,i<n->Sq (bF i fun l=>f l*g l)):aJ T 60 (k+5) "row_by_column" [rwq n f,rwq n g]=some (qD (bF n fun l=>f l*g l)):=by
 refine cI (fd:=aV (top 43)) rfl rfl (dO (aD rfl (aj (x:=.lst (Ls n fun i=>qD (f i*g i))) (cW rfl (R5 (h:=fun j=>qD (f j)) (g:=fun j=>qD (g j)) rfl (xName rfl) (xName rfl)) (iM (by omega)) (bh (g:=fun i=>qD (f i*g i)) fun i hi=>dg rfl ?_)) aK) (all_sum k hp hs)))
 exact aD rfl (aj (x:=qD (f i)) (xName rfl) (aj (x:=qD (g i)) (xName rfl) aK)) (BP (k+1) (hf i hi) (hg i hi))
theorem row_by_columns(k:Nat){n p:Nat}{f:Nat->Rat}{G:Nat->Nat->Rat}(h4:n<=4)(hp4:p<=4)(hf:∀ i,i<n->Sq (f i))(hg:∀ j i,j<p->i<n->Sq (G j i))(hp:∀ j i,j<p->i<n->Sq (f i*G j i))(hs:∀ j i,j<p->i<n->Sq (bF i fun l=>f l*G j l)):aJ T 60 (k+6) "row_by_columns" [rwq n f,ftq p n G]=some (rwq p fun j=>bF n fun l=>f l*G j l):=by
 refine cI (fd:=aV (top 44)) rfl rfl (dO (dG rfl rfl rfl (aj (cW rfl (J5 (xs:=Ls p fun i=>rwq n (G i)) rfl (xName rfl)) (iM (by omega)) (bh (g:=fun j=>qD (bF n fun l=>f l*G j l)) fun j hj=>dg rfl ?_)) aK) Bp))
 exact aD rfl (aj (x:=rwq n f) (xName rfl) (aj (x:=rwq n (G j)) (xName rfl) aK)) (row_by_column k h4 hf (fun i hi=>hg j i hj hi) (fun i hi=>hp j i hj hi) (fun i hi=>hs j i hj hi))
theorem jH{m n:Nat}{F:Nat->Nat->Rat}:dep (ftq m n F)<=3:=by
 have:∀ i,i<m->dep (rwq n (F i))<=2:=fun i _=>by
  have:=Bj (m:=n) (b:=1) (h:=fun j=>qD (F i j)) fun j _=>by simp[dep,deps]
  simp only[dep]
  omega
 have:=Bj this
 simp only[dep]
 omega
theorem DN{m n:Nat}{F:Nat->Nat->Rat}{x:D}(hx:x∈nums (Ls m fun i=>rwq n (F i))):∃ i j,i<m/\j<n/\x=qD (F i j):=by
 obtain⟨r,hr,hx⟩:=qN hx
 obtain⟨i,hi,rfl⟩:=kI hr
 obtain⟨j,hj,rfl⟩:=kI (show x∈Ls n fun j=>qD (F i j) from hx)
 exact⟨i,j,hi,hj,rfl⟩
theorem u0(k:Nat){m n:Nat}{F:Nat->Nat->Rat}(h1:1<=m)(h2:m<=4)(h3:1<=n)(h4:n<=4)(hl:∀ i j,i<m->j<n->Sq (F i j)):aJ T 60 (k+3) "need_fraction_table" [ftq m n F]=some .non:=by
 have hz:(nums (Ls m fun i=>rwq n (F i))).length<=4*(Ls m fun i=>rwq n (F i)).length:=iY (m6 (m:=m) (n:=n) (h:=fun i j=>qD (F i j)) h3 h4)
 rw[cj] at hz
 have hL:aJ T 60 (k+2) "has_lines" [ftq m n F]=some (.bl true):=(vh (h:=fun i j=>qD (F i j)) h1 h2 h3 h4)▸has_lines k (Nat.lt_of_le_of_lt jH (by decide))
 have hN:aJ T 60 (k+2) "numbers_of" [ftq m n F]=some (.lst (nums (Ls m fun i=>rwq n (F i)))):=numbers_of (k+1) (by rw[cj];exact h2) (m6 (h:=fun i j=>qD (F i j)) h3 h4)
 refine Bw (fd:=aV (top 27)) rfl rfl (tV (bB (fQ (bZ (aD rfl (aj (xName rfl) aK) hL)) (fU (bZ (dG (ds:=[.lst ((nums (Ls m fun i=>rwq n (F i))).map fun _=>.bl true)]) rfl rfl rfl (aj (cW (l:=nums (Ls m fun i=>rwq n (F i))) rfl (wSq (x:=.lst (nums (Ls m fun i=>rwq n (F i)))) rfl (aD rfl (aj (xName rfl) aK) hN) rfl) (j6 (by omega)) (cG (g:=fun _=>.bl true) fun x hx=>?_)) aK) ?_))))) dh)
 ·obtain⟨i,j,hi,hj,rfl⟩:=DN hx
  exact dg rfl (aD rfl (aj (x:=qD (F i j)) (xName rfl) aK) (JC k (hl i j hi hj)))
 ·have:=tH (l:=nums (Ls m fun i=>rwq n (F i))) (t:=fun _=>true)
  rw[this]
  congr 2
  simp
theorem zG(k:Nat){m n:Nat}{F:Nat->Nat->Rat}(h1:1<=m)(h2:m<=4)(h4:n<=4):aJ T 60 (k+2) "columns_of" [ftq m n F]=some (ftq n m fun i j=>F j i):=by
 have col:∀ j,j<n->aJ T 60 (k+1) "column_of" [ftq m n F,.int (j:Int)]=some (rwq m fun i=>F i j):=fun j hj=>by
  refine cI (fd:=aV (top 31)) rfl rfl (dO (dG rfl rfl rfl (aj (cW rfl (J5 (xs:=Ls m fun i=>rwq n (F i)) rfl (xName rfl)) (iM (by omega)) (bh (g:=fun i=>qD (F i j)) fun i hi=>dg rfl ?_)) aK) Bp))
  exact Ks (m:=n) (h:=fun j=>qD (F i j)) (xName rfl) (xName rfl) hj rfl rfl
 refine cI (fd:=aV (top 32)) rfl rfl (dO (dG rfl rfl rfl (aj (cW rfl (wR (j:=n) rfl (dG (ds:=[rwq n (F 0)]) rfl rfl rfl (aj (Ku (m:=m) (h:=fun i=>rwq n (F i)) (xName rfl) (ak rfl) (by omega) rfl rfl) aK) RW) (by omega)) (iM (by omega)) (bh (g:=fun j=>rwq m fun i=>F i j) fun j hj=>dg rfl ?_)) aK) Bp))
 exact aD rfl (aj (x:=ftq m n F) (xName rfl) (aj (x:=.int (j:Int)) (xName rfl) aK)) (col j hj)
def Bq(m n D B:Nat)(F:Nat->Nat->Rat):Prop:=∀ i j,i<m->j<n->Qb D B (F i j)
theorem Bq.mul{m n p D B E C:Nat}{F G:Nat->Nat->Rat}(hF:Bq m n D B F)(hG:Bq n p E C G):Bq m p (D*E) (n*(B*C)) (mulQ n F G):=fun i j hi hj=>qy fun l hl=>(hF i l hi hl).mul (hG l j hl hj)
theorem product(k:Nat){m n p D B E C:Nat}{F G:Nat->Nat->Rat}(h1:1<=m)(h2:m<=4)(h3:1<=n)(h4:n<=4)(h5:1<=p)(h6:p<=4)(hF:Bq m n D B F)(hG:Bq n p E C G)(d0:0<D)(e0:0<E)(hD:D*E<=1000000000000000000)(hB:4*(B*C)<=1000000000000000000)(hBB:B<=1000000000000000000)(hCC:C<=1000000000000000000):aJ T 60 (k+7) "product_of" [ftq m n F,ftq n p G]=some (ftq m p (mulQ n F G)):=by
 have de:0<D*E:=Nat.mul_pos d0 e0
 have hD1:D<=D*E:=Nat.le_mul_of_pos_right _ e0
 have hE1:E<=D*E:=Nat.le_mul_of_pos_left _ d0
 have sF:∀ i j,i<m->j<n->Sq (F i j):=fun i j hi hj=>(hF i j hi hj).sq d0 (by omega) hBB
 have sG:∀ i j,i<n->j<p->Sq (G i j):=fun i j hi hj=>(hG i j hi hj).sq e0 (by omega) hCC
 let R (c:Sl):Rho:=[("one",.sh (ftq m n F)),("other",.sh (ftq n p G)),("columns",c)]
 refine cI (fd:=aV (top 45)) rfl rfl (Jr rfl (d:=.non) (aD rfl (aj (xName rfl) aK) (u0 (k+3) h1 h2 h3 h4 sF)) (Jr rfl (d:=.non) (aD rfl (aj (xName rfl) aK) (u0 (k+3) h3 h4 h5 h6 sG)) (tV (bC (x:=.int (n:Int)) (y:=.int (n:Int)) (dG (ds:=[rwq n (F 0)]) rfl rfl rfl (aj (Ku (m:=m) (h:=fun i=>rwq n (F i)) (xName rfl) (ak rfl) (by omega) rfl rfl) aK) RW) (by walk_at "xv") (Dz rfl)) ?_)))
 refine gj (ρ:=R .no) (ρ':=R .no) (d:=ftq p n fun i j=>G j i) rfl rfl rfl (aD rfl (aj (xName rfl) aK) (zG (k+4) h3 h4 h6)) ?_
 refine dO (ρ:=R (.sh (ftq p n fun i j=>G j i))) (dG rfl rfl rfl (aj (cW rfl (J5 (xs:=Ls m fun i=>rwq n (F i)) rfl (xName rfl)) (iM (by omega)) (bh (g:=fun i=>rwq p (mulQ n F G i)) fun i hi=>dg rfl ?_)) aK) Bp)
 refine aD rfl (aj (x:=rwq n (F i)) (xName rfl) (aj (x:=ftq p n fun i j=>G j i) (xName rfl) aK)) (row_by_columns k h4 h6 (fun l hl=>sF i l hi hl) (fun j l hj hl=>sG l j hl hj) (fun j l hj hl=>((hF i l hi hl).mul (hG l j hl hj)).sq de hD (by omega)) (fun j l hj hl=>(qy (n:=l) fun q hq=>(hF i q hi (by omega)).mul (hG q j (by omega) hj)).sq de hD (Nat.le_trans (Nat.mul_le_mul_right _ (by omega:l<=4)) hB)))
end M30
namespace M30
open PySem DE
structure Stp where
 w:Nat
 p:Nat
 s:Rat
def wS:Nat->Str
 | 0=>"up"
 | 1=>"down"
 | _=>"scale"
def stD(x:Stp):D:=.tup [.str (wS x.w),.int (x.p:Int),qD x.s]
def spR(x:Stp):Nat:=match x.w with
 | 1=>x.p+1
 | _=>x.p
def spC(x:Stp):Nat:=match x.w with
 | 0=>x.p+1
 | _=>x.p
def idQ:Nat->Nat->Rat:=fun i j=>if i=j then 1 else 0
def stQ(x:Stp):Nat->Nat->Rat:=fun i j=>if i=spR x then(if j=spC x then x.s else idQ i j) else idQ i j
def okP(n w p:Nat):Bool:=match w with
 | 0=>decide (p+1<n)
 | 1=>decide (p+1<n)
 | 2=>decide (p<n)
 | _=>false
section
variable {s:Rat}
theorem GQ(k:Nat):∀ n,n<5->∀ w,w<3->∀ p,p<4->okP n w p=true->aJ T 60 (k+6) "table_of_step" [.int (n:Int),.str (wS w),.int (p:Int),qD s]=some (ftq n n (stQ ⟨w,p,s⟩)):=by
 intro n hn w hw p hp h
 match n,hn,w,hw,p,hp,h with
 | 0,_,w,_,p,_,h=>exact absurd h (by unfold okP;split<;>simp)
 | 1,_,2,_,0,_,_=>kernel_rfl
 | 2,_,0,_,0,_,_=>kernel_rfl
 | 2,_,1,_,0,_,_=>kernel_rfl
 | 2,_,2,_,0,_,_=>kernel_rfl
 | 2,_,2,_,1,_,_=>kernel_rfl
 | 3,_,0,_,0,_,_=>kernel_rfl
 | 3,_,0,_,1,_,_=>kernel_rfl
 | 3,_,1,_,0,_,_=>kernel_rfl
 | 3,_,1,_,1,_,_=>kernel_rfl
 | 3,_,2,_,0,_,_=>kernel_rfl
 | 3,_,2,_,1,_,_=>kernel_rfl
 | 3,_,2,_,2,_,_=>kernel_rfl
 | 4,_,0,_,0,_,_=>kernel_rfl
 | 4,_,0,_,1,_,_=>kernel_rfl
 | 4,_,0,_,2,_,_=>kernel_rfl
 | 4,_,1,_,0,_,_=>kernel_rfl
 | 4,_,1,_,1,_,_=>kernel_rfl
 | 4,_,1,_,2,_,_=>kernel_rfl
 | 4,_,2,_,0,_,_=>kernel_rfl
 | 4,_,2,_,1,_,_=>kernel_rfl
 | 4,_,2,_,2,_,_=>kernel_rfl
 | 4,_,2,_,3,_,_=>kernel_rfl
theorem HJ(k:Nat):∀ n,n<5->1<=n->aJ T 60 (k+6) "as_fractions" [tbl n n dl]=some (ftq n n idQ):=by
 intro n hn h1
 match n,hn,h1 with
 | 1,_,_=>kernel_rfl
 | 2,_,_=>kernel_rfl
 | 3,_,_=>kernel_rfl
 | 4,_,_=>kernel_rfl
abbrev lwq(n:Nat)(f:Nat->Rat):D:=.lst (Ls n fun j=>qD (f j))
abbrev llq(m n:Nat)(F:Nat->Nat->Rat):D:=.lst (Ls m fun i=>lwq n (F i))
theorem IV(k:Nat):∀ n,n<5->∀ w,w<3->∀ p,p<4->okP n w p=true->aJ T 60 (k+1) "_law_step_table" [.int (n:Int),.tup [.str (wS w),.int (p:Int),qD s]]=some (llq n n (stQ ⟨w,p,s⟩)):=by
 intro n hn w hw p hp h
 match n,hn,w,hw,p,hp,h with
 | 0,_,w,_,p,_,h=>exact absurd h (by unfold okP;split<;>simp)
 | 1,_,2,_,0,_,_=>kernel_rfl
 | 2,_,0,_,0,_,_=>kernel_rfl
 | 2,_,1,_,0,_,_=>kernel_rfl
 | 2,_,2,_,0,_,_=>kernel_rfl
 | 2,_,2,_,1,_,_=>kernel_rfl
 | 3,_,0,_,0,_,_=>kernel_rfl
 | 3,_,0,_,1,_,_=>kernel_rfl
 | 3,_,1,_,0,_,_=>kernel_rfl
 | 3,_,1,_,1,_,_=>kernel_rfl
 | 3,_,2,_,0,_,_=>kernel_rfl
 | 3,_,2,_,1,_,_=>kernel_rfl
 | 3,_,2,_,2,_,_=>kernel_rfl
 | 4,_,0,_,0,_,_=>kernel_rfl
 | 4,_,0,_,1,_,_=>kernel_rfl
 | 4,_,0,_,2,_,_=>kernel_rfl
 | 4,_,1,_,0,_,_=>kernel_rfl
 | 4,_,1,_,1,_,_=>kernel_rfl
 | 4,_,1,_,2,_,_=>kernel_rfl
 | 4,_,2,_,0,_,_=>kernel_rfl
 | 4,_,2,_,1,_,_=>kernel_rfl
 | 4,_,2,_,2,_,_=>kernel_rfl
 | 4,_,2,_,3,_,_=>kernel_rfl
end
theorem uV{n w p:Nat}(h:okP n w p=true):p<n:=by
 unfold okP at h
 split at h<;>simp at h<;>omega
theorem yx{n w p:Nat}(h:okP n w p=true):w<3:=by
 unfold okP at h
 split at h<;>simp at h<;>omega
structure okS (n:Nat) (x:Stp):Prop where
 pl:okP n x.w x.p=true
 nn:0<=x.s
 ps:x.w=2->0<x.s
 sq:Sq x.s
theorem nQ(k:Nat){v:Nat}{m:Int}(h:(v:Int)<m):aJ T 60 (k+3) "is_place" [.int (v:Int),.int m]=some (.bl true) :=
 cI (fd:=aV (top 16)) rfl rfl (dO (aD rfl (aj (xName rfl) (aj (ak rfl) (aj (bW (x:=.int m) (y:=.int 1) (xName rfl) (ak rfl) rfl) aK))) (dR k (by omega) (by omega))))
theorem Jk(k:Nat){n p:Nat}{s:Rat}(hp:p<n)(h:0<s)(hs:Sq s):aJ T 60 (k+4) "is_step_of" [.int (n:Int),.str "scale",.int (p:Int),qD s]=some (.bl true):=by
 have hf:=Bb k hs (Rat.le_of_lt h)
 have ip:aJ T 60 (k+3) "is_place" [.int (p:Int),.int (n:Int)]=some (.bl true):=nQ k (by omega)
 refine cI (fd:=aV (top 40)) rfl rfl (tW (ρ:=[("many",.sh (.int (n:Int))),("word",.sh (.str "scale")),("place",.sh (.int (p:Int))),("share",.sh (qD s))]) (fl1:=.ret (.bl true)) rfl (bC (x:=.str "scale") (y:=.str "scale") (xName rfl) (xName rfl) rfl) (jR rfl (bB (lC (aD rfl (aj (xName rfl) (aj (xName rfl) aK)) ip) (lC (aD rfl (aj (xName rfl) aK) hf) (fU (bC (x:=.int s.num) (y:=.int 0) (pZ (xName rfl)) (ak rfl) ?_)))))) rfl)
 rw[oGt,decide_eq_true (Ra h)]
theorem Ax(k:Nat){n p:Nat}{s:Rat}{w:Str}(hw:w="up"\/w="down")(hp:p+1<n)(h:0<=s)(hs:Sq s):aJ T 60 (k+4) "is_step_of" [.int (n:Int),.str w,.int (p:Int),qD s]=some (.bl true):=by
 have hf:=Bb k hs h
 have ip:aJ T 60 (k+3) "is_place" [.int (p:Int),.int ((n:Int)-1)]=some (.bl true):=nQ k (by omega)
 have c1:cmpop .Eq (.str w) (.str "scale")=some (.bl false):=by rcases hw with rfl | rfl<;>kernel_rfl
 have c2:cmpop .In (.str w) (.tup [.str "up",.str "down"])=some (.bl true):=by rcases hw with rfl | rfl<;>kernel_rfl
 exact cI (fd:=aV (top 40)) rfl rfl (j5 (ρ:=[("many",.sh (.int (n:Int))),("word",.sh (.str w)),("place",.sh (.int (p:Int))),("share",.sh (qD s))]) rfl (bC (x:=.str w) (y:=.str "scale") (xName rfl) (xName rfl) c1) (jR rfl (bB (lC (bC (x:=.str w) (y:=.tup [.str "up",.str "down"]) (xName rfl) (eY (aj (xName rfl) (aj (xName rfl) aK)) rfl) c2) (lC (aD rfl (aj (xName rfl) (aj (bW (x:=.int (n:Int)) (y:=.int 1) (xName rfl) (ak rfl) rfl) aK)) ip) (fU (aD rfl (aj (xName rfl) aK) hf)))))))
theorem is_step_of(k:Nat){n:Nat}{x:Stp}(h:okS n x):aJ T 60 (k+4) "is_step_of" [.int (n:Int),.str (wS x.w),.int (x.p:Int),qD x.s]=some (.bl true):=by
 have hlt:=uV h.pl
 have hw:=yx h.pl
 have pl:=h.pl
 obtain⟨w,p,s⟩:=x
 match w,hw with
 | 2,_=>exact Jk k hlt (h.ps rfl) h.sq
 | 0,_=>exact Ax k (.inl rfl) (by simpa[okP] using pl) h.nn h.sq
 | 1,_=>exact Ax k (.inr rfl) (by simpa[okP] using pl) h.nn h.sq
theorem xQ{α:Type}{P:List α->Prop}(h0:P [])(hs:∀ l a,P l->P (l++[a]))(l:List α):P l:=by
 rw[<- List.reverse_reverse l]
 induction l.reverse with
 | nil=>exact h0
 | cons a t ih=>rw[List.reverse_cons];exact hs _ _ ih
theorem is_step(k:Nat){n:Nat}{x:Stp}(h:okS n x):aJ T 60 (k+5) "is_step" [.int (n:Int),stD x]=some (.bl true):=by
 have i1:aJ T 60 (k+4) "is_whole" [.int (n:Int)]=some (.bl true):=is_whole (k+3) (by simp[dep])
 refine cI (fd:=aV (top 41)) rfl rfl (j5 (ρ:=[("many",.sh (.int (n:Int))),("thing",.sh (stD x))]) rfl (bB (fQ (bZ (aD rfl (aj (xName rfl) aK) i1)) (fQ (bZ (iK rfl rfl rfl (x:=stD x) (xName rfl) rfl rfl rfl)) (fU (bC (x:=.int 3) (y:=.int 3) (dG (ds:=[stD x]) rfl rfl rfl (aj (xName rfl) aK) rfl) (ak rfl) rfl))))) ?_)
 exact jR (ρ:=[("many",.sh (.int (n:Int))),("thing",.sh (stD x))]) rfl (aD rfl (aj (xName rfl) (aj (xIx (x:=stD x) (i:=0) (xName rfl) (ak rfl) rfl rfl) (aj (xIx (x:=stD x) (i:=1) (xName rfl) (ak rfl) rfl rfl) (aj (xIx (x:=stD x) (i:=2) (xName rfl) (ak rfl) rfl rfl) aK)))) (is_step_of k h))
abbrev ssD(l:List Stp):D:=.lst (l.map stD)
theorem need_steps(k:Nat){n:Nat}{l:List Stp}(h1:1<=n)(h4:n<=4)(hl:∀ x∈l,okS n x)(hz:l.length<=100):aJ T 60 (k+6) "need_steps" [.int (n:Int),ssD l]=some .non:=by
 have w1:aJ T 60 (k+5) "is_whole_within" [.int (n:Int),.int 1,.int 4]=some (.bl true):=dR (k+3) (by omega) (by omega)
 refine Bw (fd:=aV (top 42)) rfl rfl (j5 (ρ:=[("many",.sh (.int (n:Int))),("steps",.sh (ssD l))]) rfl (bZ (aD rfl (aj (xName rfl) (aj (ak rfl) (aj (xName rfl) aK))) w1)) (j5 (ρ:=[("many",.sh (.int (n:Int))),("steps",.sh (ssD l))]) rfl (bB (fQ (bZ (iK rfl rfl rfl (x:=ssD l) (xName rfl) rfl rfl rfl)) (fU (bZ (dG (ds:=[.lst ((l.map stD).map fun _=>.bl true)]) rfl rfl rfl (aj (cW (l:=l.map stD) rfl (wSq (x:=ssD l) rfl (xName rfl) rfl) (j6 (by rw[List.length_map];omega)) (cG (g:=fun _=>.bl true) fun y hy=>?_)) aK) ?_))))) dh))
 ·obtain⟨x,hx,rfl⟩:=List.mem_map.mp hy
  exact dg rfl (aD rfl (aj (x:=.int (n:Int)) (xName rfl) (aj (x:=stD x) (xName rfl) aK)) (is_step k (hl x hx)))
 ·have:=tH (l:=l.map stD) (t:=fun _=>true)
  rw[this]
  congr 2
  simp
def mkQ(n:Nat)(l:List Stp):Nat->Nat->Rat:=l.foldl (fun M x=>mulQ n M (stQ x)) idQ
theorem dX{n:Nat}{l:List Stp}{x:Stp}:mkQ n (l++[x])=mulQ n (mkQ n l) (stQ x):=by simp[mkQ]
structure Sml (n E C:Nat) (l:List Stp):Prop where
 ok:∀ x∈l,okS n x
 bq:∀ x∈l,Bq n n E C (stQ x)
 e0:0<E
 h1:E^l.length<=1000000000000000000
 h2:(4*C)^l.length<=1000000000000000000
 c1:1<=C
 cc:C<=1000000000000000000
theorem Wx{n:Nat}:Bq n n 1 1 idQ:=fun i j _ _=>by
 unfold idQ
 split
 ·exact Qb.one
 ·exact Qb.zero.up (by decide)
theorem Kg{n E C:Nat}(h4:n<=4):∀ {l:List Stp},(∀ x∈l,Bq n n E C (stQ x))->Bq n n (E^l.length) ((4*C)^l.length) (mkQ n l):=by
 intro l
 refine xQ (P:=fun l=>(∀ x∈l,Bq n n E C (stQ x))->Bq n n (E^l.length) ((4*C)^l.length) (mkQ n l)) (fun _=>Wx) (fun l x ih h=>?_) l
 rw[dX,List.length_append,List.length_singleton,Nat.pow_succ,Nat.pow_succ]
 have:=(ih fun y hy=>h y (by simp[hy])).mul (h x (by simp))
 refine fun i j hi hj=>(this i j hi hj).up ?_
 rw[show(4*C)^l.length*(4*C)=4*((4*C)^l.length*C) by rw[Nat.mul_left_comm]]
 exact Nat.mul_le_mul_right _ h4
end M30
namespace M30
open PySem DE
theorem RV{us:List D}:blt "len" [.lst us]=some (.int (us.length:Int)):=rfl
def jV(h:D):List D:=[.int 99,.int (-99),.int 100,.int (-100),.bl true,.non,.str "1",.tup [],.tup [.int 1,.int 2],.tup [.tup [.int 1]],.lst [.int 1,.int 2],.tup [h,h],.int 0,.int (-1)]
theorem xP{h x:D}(hh:dep h<=2)(hx:x∈jV h):dep x<=3:=by
 simp only[jV,List.mem_cons,List.not_mem_nil,or_false] at hx
 rcases hx with rfl | rfl | rfl | rfl | rfl | rfl | rfl | rfl | rfl | rfl | rfl | rfl | rfl | rfl<;>simp[dep,deps]<;>omega
def Cu(ns:List Int)(a:Nat)(t:D)(L:List D)(x h:D)(s:Sl):Rho:=[("_law_script",.sh (scr ns)),("_law_at",.sh (.int (a:Int))),("_law_thing",.sh t),("_law_places_here",.sh (.lst L)),("_law_place",.sh x),("_law_here",.sh h),("_law_k",s),("_law_some_here",.no)]
theorem get_some{l:List D}{i:Nat}(h:i<l.length):∃ x,l[i]?=some x/\x∈l:=⟨l[i],List.getElem?_eq_getElem h,List.getElem_mem h⟩
end M30
namespace M30
open PySem DE
def ffB:D->Bool
 | .tup [.int u,.int v]=>decide (0<v)&&decide (Int.gcd u v=1)
 | _=>false
def nnB:D->Bool
 | .tup [.int u,_]=>decide (0<=u)
 | _=>false
def psB:D->Bool
 | .tup [.int u,_]=>decide (0<u)
 | _=>false
def bdS:D->Bool
 | .tup [.int u,.int v]=>decide (u.natAbs<=1000000000000000000)&&decide (v.natAbs<=1000000000000000000)
 | _=>true
def fu(t:Str):D->Bool
 | .str x=>decide (x=t)
 | _=>false
theorem wd1{t:Str}{w:D}:deq w (.str t)=fu t w:=by cases w<;>rfl
theorem wd2{t:Str}{w:D}:deq (.str t) w=fu t w:=by
 cases w<;>first | rfl | skip
 rename_i x
 show(t==x)=decide (x=t)
 by_cases h:x=t
 ·subst h;simp
 ·rw[decide_eq_false h]
  have:t≠x:=fun e=>h e.symm
  simpa using this
theorem Bd{s:D}(h:ffB s=true):∃ u v,s=frD u v/\0<v/\Int.gcd u v=1:=by
 unfold ffB at h
 split at h
 ·rename_i u v
  simp only[Bool.and_eq_true,decide_eq_true_eq] at h
  exact⟨u,v,rfl,h.1,h.2⟩
 ·cases h
theorem neI{a b:Int}:cmpop .NotEq (.int a) (.int b)=some (.bl (!(a==b))):=rfl
theorem Gm{cx:Cxt}{n:Nat}{sc:Scope}{ρ:Rho}{a b:Expr}{es:List Expr}{x y:Bool}(h1:ev cx n sc ρ a=some (.bl x))(h2:x=true->bY .And (ev cx n sc ρ) (b::es)=some (.bl y)):bY .And (ev cx n sc ρ) (a::b::es)=some (.bl (x&&y)):=by
 cases x
 ·exact xr h1
 ·exact lC h1 (h2 rfl)
theorem yU(k:Nat){d:D}(h:dep d<1000)(hb:bdS d=true):aJ T 60 (k+2) "has_fraction_form" [d]=some (.bl (ffB d)):=by
  cases d with
  | tup us =>
    by_cases hl:us.length=2
    · match us,hl with
      | [a, b], _ =>
        have da:dep a<1000:=by simp only[dep,deps] at h;omega
        have db:dep b<1000:=by simp only[dep,deps] at h;omega
        have c1:ev (cxN T 60 (k+1)) 60 (aV (top 22)).sc [("thing",.sh (.tup [a,b]))] (ifX (bJ 22 0))=some (.bl false) :=
          bB (fQ (bZ (iK rfl rfl rfl (xName rfl) rfl)) (fU (bC (x:=.int 2) (y:=.int 2) (dG rfl rfl rfl (aj (x:=.tup [a,b]) (xName rfl) aK) rfl) (ak rfl) (Dz rfl))))
        cases wa:whole a with
        | false =>
          have e:ffB (.tup [a,b])=false:=by cases a<;>first | rfl | simp[whole] at wa
          rw[e]
          exact cI (fd:=aV (top 22)) rfl rfl (j5 rfl c1 (pO (fl1:=.ret (.bl false)) (bB (wQ (jg (aD rfl (aj (x:=a) (xIx (x:=.tup [a,b]) (i:=0) (xName rfl) (ak rfl) rfl rfl) aK) (wa▸is_whole k da))))) (dO (ak rfl)) rfl))
        | true =>
          cases wb:whole b with
          | false =>
            have e:ffB (.tup [a,b])=false:=by cases a<;>first | rfl | (cases b<;>first | rfl | simp[whole] at wb)
            rw[e]
            exact cI (fd:=aV (top 22)) rfl rfl (j5 rfl c1 (pO (fl1:=.ret (.bl false)) (bB (fQ (bZ (aD rfl (aj (x:=a) (xIx (x:=.tup [a,b]) (i:=0) (xName rfl) (ak rfl) rfl rfl) aK) (wa▸is_whole k da))) (fU (jg (aD rfl (aj (x:=b) (xIx (x:=.tup [a,b]) (i:=1) (xName rfl) (ak rfl) rfl rfl) aK) (wb▸is_whole k db)))))) (dO (ak rfl)) rfl))
          | true =>
            cases a<;>simp[whole] at wa
            cases b<;>simp[whole] at wb
            simp only[bdS,Bool.and_eq_true,decide_eq_true_eq] at hb
            exact vO k (Nat.lt_of_le_of_lt hb.2 (by decide +kernel))
    · have e:ffB (.tup us)=false:=by
        match us,hl with
        | [],_=>rfl
        | [a],_=>cases a<;>rfl
        | a::b::c::r,_=>cases a<;>first | rfl | (cases b<;>rfl)
        | [_,_],hl=>exact absurd rfl hl
      rw[e]
      refine cI (fd:=aV (top 22)) rfl rfl (pO (fl1:=.ret (.bl false)) (bB (fQ (bZ (iK rfl rfl rfl (xName rfl) rfl)) (fU (bC (x:=.int (us.length:Int)) (y:=.int 2) (dG rfl rfl rfl (aj (x:=.tup us) (xName rfl) aK) oJ) (ak rfl) ?_)))) (dO (ak rfl)) rfl)
      rw[neI]
      have:((us.length:Int)==2)=false:=by simpa using(by omega:¬ (us.length:Int)=2)
      rw[this];rfl
  | exc c=>exact absurd h (by simp[dep])
  | dic _ _=>exact absurd h (by simp[dep])
  | _=>exact cI (fd:=aV (top 22)) rfl rfl (pO (fl1:=.ret (.bl false)) (bB (wQ (jg (iK rfl rfl rfl (xName rfl) rfl)))) (dO (ak rfl)) rfl)
def frB(s:D):Bool:=ffB s&&nnB s
theorem vN(k:Nat){d:D}(h:dep d<1000)(hb:bdS d=true):aJ T 60 (k+3) "is_fraction" [d]=some (.bl (frB d)):=by
 refine cI (fd:=aV (top 23)) rfl rfl (dO (bB (Gm (aD rfl (aj (x:=d) (xName rfl) aK) (yU k h hb)) fun q=>fU ?_)))
 obtain⟨u,v,rfl,_,_⟩:=Bd q
 exact bC (x:=.int u) (y:=.int 0) (pZ (xName rfl)) (ak rfl) rfl
theorem nj(k:Nat){d:D}{m:Int}(h:dep d<1000):aJ T 60 (k+3) "is_place" [d,.int m]=some (.bl (within 0 (m-1) d)) :=
 cI (fd:=aV (top 16)) rfl rfl (dO (aD rfl (aj (xName rfl) (aj (ak rfl) (aj (bW (x:=.int m) (y:=.int 1) (xName rfl) (ak rfl) rfl) aK))) (jA k h)))
theorem in2{w:D}(h:dep w<=50):cmpop .In w (.tup [.str "up",.str "down"])=some (.bl (fu "up" w||fu "down" w)):=by
 have q:inT w [.str "up",.str "down"]=some (fu "up" w||fu "down" w):=by
  have e:inS w [.str "up",.str "down"]=some (fu "up" w||fu "down" w):=by
   show(if decide (dep w<=50) then some (deq (.str "up") w||(deq (.str "down") w||false)) else none)=_
   rw[decide_eq_true h,wd2,wd2,Bool.or_false];rfl
  unfold inT
  split
  ·rename_i i ns h1 h2;exact nomatch (show(none:Option (List Int))=some ns from h2)
  ·exact e
 show(inT w _).map _=_
 rw[q];rfl
theorem Aj{w:D}(h:dep w<=50):cmpop .NotIn w (.tup [.str "up",.str "down",.str "scale"])=some (.bl (!(fu "up" w||(fu "down" w||fu "scale" w)))):=by
 have q:inT w [.str "up",.str "down",.str "scale"]=some (fu "up" w||(fu "down" w||fu "scale" w)):=by
  have e:inS w [.str "up",.str "down",.str "scale"]=some (fu "up" w||(fu "down" w||fu "scale" w)):=by
   show(if decide (dep w<=50) then some (deq (.str "up") w||(deq (.str "down") w||(deq (.str "scale") w||false))) else none)=_
   rw[decide_eq_true h,wd2,wd2,wd2,Bool.or_false];rfl
  unfold inT
  split
  ·rename_i i ns h1 h2;exact nomatch (show(none:Option (List Int))=some ns from h2)
  ·exact e
 show(inT w _).map _=_
 rw[q];rfl
def stB(n:Int)(w p s:D):Bool:=if fu "scale" w then within 0 (n-1) p&&(frB s&&psB s) else(fu "up" w||fu "down" w)&&(within 0 (n-1-1) p&&frB s)
theorem Ei(k:Nat){n:Int}{w p s:D}(hw:dep w<=50)(hp:dep p<1000)(hs:dep s<1000)(hb:bdS s=true):aJ T 60 (k+4) "is_step_of" [.int n,w,p,s]=some (.bl (stB n w p s)):=by
  have hf:=vN k hs hb
  unfold stB
  cases e:fu "scale" w with
  | true =>
    refine cI (fd:=aV (top 40)) rfl rfl (tW (ρ:=[("many",.sh (.int n)),("word",.sh w),("place",.sh p),("share",.sh s)]) (fl1:=.ret (.bl (within 0 (n-1) p&&(frB s&&psB s)))) rfl (bC (x:=w) (y:=.str "scale") (xName rfl) (xName rfl) (by rw[oEq hw (by simp[dep]),wd1,e])) (jR rfl (bB (Gm (aD rfl (aj (xName rfl) (aj (xName rfl) aK)) (nj k hp)) fun _=>Gm (aD rfl (aj (xName rfl) aK) hf) fun q=>fU ?_))) rfl)
    obtain⟨u,v,rfl,_,_⟩:=Bd (Bool.and_eq_true_iff.mp q).1
    exact bC (x:=.int u) (y:=.int 0) (pZ (xName rfl)) (ak rfl) rfl
  | false =>
    exact cI (fd:=aV (top 40)) rfl rfl (j5 (ρ:=[("many",.sh (.int n)),("word",.sh w),("place",.sh p),("share",.sh s)]) rfl (bC (x:=w) (y:=.str "scale") (xName rfl) (xName rfl) (by rw[oEq hw (by simp[dep]),wd1,e])) (jR rfl (bB (Gm (bC (x:=w) (y:=.tup [.str "up",.str "down"]) (xName rfl) (eY (aj (xName rfl) (aj (xName rfl) aK)) rfl) (in2 hw)) fun _=>Gm (aD rfl (aj (xName rfl) (aj (bW (x:=.int n) (y:=.int 1) (xName rfl) (ak rfl) rfl) aK)) (nj k hp)) fun _=>fU (aD rfl (aj (xName rfl) aK) hf)))))
def eG(n:Int):D->Bool
 | .tup [w,p,s]=>stB n w p s
 | _=>false
def bdB:D->Bool
 | .tup [_,_,s]=>bdS s
 | _=>true
theorem qC{n:Int}{us:List D}(hl:us.length≠3):eG n (.tup us)=false:=by
 match us,hl with
 | [],_=>rfl
 | [_],_=>unfold eG;rfl
 | [_,_],_=>unfold eG;rfl
 | _::_::_::_::_,_=>unfold eG;rfl
 | [_,_,_],hl=>exact absurd rfl hl
theorem ne3{us:List D}(hl:us.length≠3):cmpop .NotEq (.int (us.length:Int)) (.int 3)=some (.bl true):=by
 rw[neI]
 have:((us.length:Int)==3)=false:=by simpa using(by omega:¬ (us.length:Int)=3)
 rw[this];rfl
theorem jB(k:Nat){n:Int}{d:D}(h:dep d<=50)(hb:bdB d=true):aJ T 60 (k+5) "is_step" [.int n,d]=some (.bl (eG n d)):=by
  have wn:aJ T 60 (k+4) "is_whole" [.int n]=some (.bl true):=is_whole (k+3) (by simp[dep])
  cases d with
  | tup us =>
    by_cases hl:us.length=3
    · match us,hl with
      | [w, p, s], _ =>
        simp only[dep,deps] at h
        refine cI (fd:=aV (top 41)) rfl rfl (j5 (ρ:=[("many",.sh (.int n)),("thing",.sh (.tup [w,p,s]))]) rfl (bB (fQ (bZ (aD rfl (aj (x:=.int n) (xName rfl) aK) wn)) (fQ (bZ (iK rfl rfl rfl (xName rfl) rfl)) (fU (bC (x:=.int 3) (y:=.int 3) (dG rfl rfl rfl (aj (x:=.tup [w,p,s]) (xName rfl) aK) rfl) (ak rfl) (Dz rfl)))))) (jR rfl (aD rfl (aj (xName rfl) (aj (x:=w) (xIx (x:=.tup [w,p,s]) (i:=0) (xName rfl) (ak rfl) rfl rfl) (aj (x:=p) (xIx (x:=.tup [w,p,s]) (i:=1) (xName rfl) (ak rfl) rfl rfl) (aj (x:=s) (xIx (x:=.tup [w,p,s]) (i:=2) (xName rfl) (ak rfl) rfl rfl) aK)))) (Ei k (by omega) (by omega) (by omega) hb))))
    · rw[qC hl]
      exact cI (fd:=aV (top 41)) rfl rfl (pO (fl1:=.ret (.bl false)) (bB (fQ (bZ (aD rfl (aj (x:=.int n) (xName rfl) aK) wn)) (fQ (bZ (iK rfl rfl rfl (xName rfl) rfl)) (fU (bC (x:=.int (us.length:Int)) (y:=.int 3) (dG rfl rfl rfl (aj (x:=.tup us) (xName rfl) aK) oJ) (ak rfl) (ne3 hl)))))) (dO (ak rfl)) rfl)
  | exc c=>exact absurd h (by simp[dep])
  | dic _ _=>exact absurd h (by simp[dep])
  | _=>exact cI (fd:=aV (top 41)) rfl rfl (pO (fl1:=.ret (.bl false)) (bB (fQ (bZ (aD rfl (aj (x:=.int n) (xName rfl) aK) wn)) (wQ (jg (iK rfl rfl rfl (xName rfl) rfl))))) (dO (ak rfl)) rfl)
def j9(n:Int)(d:D)(w p s o:Sl):Rho:=[("_law_many",.sh (.int n)),("_law_thing",.sh d),("_law_word_here",w),("_law_place",p),("_law_share_here",s),("_law_one",o)]
theorem Eh(k:Nat){n:Int}{d w p s x:D}{o:Sl}(ho:nOw o=true)(hx:dep x<1000) :
    fF (cxN T 60 k) 60 59 (aV (top 73)).sc (gO (bJ 73 3)) (bD (bJ 73 3)) x (j9 n d (.sh w) (.sh p) (.sh s) o)=some (if whole x then .nxt (j9 n d (.sh w) (.sh p) (.sh s) (.sh x)) else .ret (.bl false)):=by
  have st:∀ {fl:Fl},blk (cxN T 60 k) 60 59 (aV (top 73)).sc (bD (bJ 73 3)) (j9 n d (.sh w) (.sh p) (.sh s) (.sh x))=some fl->fF (cxN T 60 k) 60 59 (aV (top 73)).sc (gO (bJ 73 3)) (bD (bJ 73 3)) x (j9 n d (.sh w) (.sh p) (.sh s) o)=some fl:=fun h=>jE rfl h
  cases hw:whole x with
  | false =>
    cases hb:tU "bool" x with
    | true =>
      cases x<;>simp[tU] at hb
      exact st (pO (fl1:=.ret (.bl false)) (bB (fQ (bZ (iK rfl rfl rfl (xName rfl) rfl)) (fU (iK rfl rfl rfl (xName rfl) rfl)))) (dO (ak rfl)) rfl)
    | false =>
      have hi:tU "int" x=false:=by cases x<;>first | rfl | (simp[whole] at hw;done) | (simp[tU] at hb;done)
      exact st (pO (fl1:=.ret (.bl false)) (bB (wQ (jg (iK rfl rfl rfl (xName rfl) hi rfl (Vq hx))))) (dO (ak rfl)) rfl)
  | true =>
    cases x<;>simp[whole] at hw
    exact st (j5 rfl (bB (fQ (bZ (iK rfl rfl rfl (xName rfl) rfl)) (fU (iK rfl rfl rfl (xName rfl) rfl)))) dh)
theorem vf{u v:Int}(hv:1<=v):deq (loD u v) (frD u v)=decide (Int.gcd u v=1):=by
  by_cases g:Int.gcd u v=1
  · have:=Ar (u:=u) (d:=v) (v:=u) (e:=v) (by omega) ⟨by omega,g⟩ rfl
    rw[decide_eq_true g]
    show deq (frD (nF u v) (nH u v)) _=_
    rw[this.1,this.2]
    simp[deq,mq]
  · rw[decide_eq_false g]
    cases e:deq (loD u v) (frD u v) with
    | false=>rfl
    | true =>
      exfalso
      have:deq (frD (nF u v) (nH u v)) (frD u v)=true:=e
      simp[deq,mq] at this
      have l:=Av (u:=u) (d:=v) (by omega)
      rw[this.1,this.2] at l
      exact g l.2
end M30
namespace M30
open PySem DE
abbrev iSc:Scope:=(aV (top 73)).sc
abbrev ibd(i:Nat):List Stmt:=(aV (top 73)).body.drop i
def RL:Stmt->Expr
 | .For _ i _ _ _=>i
 | _=>.Name "" ⟨0,0,0,0⟩
theorem i5(k:Nat){n p u v:Int}{d w:D}{o:Sl}(ho:nOw o=true)(hw:dep w<=50):blk (cxN T 60 k) 60 60 iSc (ibd 5) (j9 n d (.sh w) (.sh (.int p)) (.sh (frD u v)) o)=some (.ret (.bl (if fu "scale" w then decide (0<u)&&(decide (0<=p)&&decide (p<n)) else decide (0<=p)&&decide (p<n-1)))):=by
  have hc:dD (j9 n d (.sh w) (.sh (.int p)) (.sh (frD u v)) o)=true:=by cases o<;>first | rfl | cases ho
  cases e:fu "scale" w with
  | true =>
    refine tW (fl1:=.ret (.bl (decide (0<u)&&(decide (0<=p)&&decide (p<n))))) hc (bC (x:=w) (y:=.str "scale") (xName rfl) (ak rfl) (by rw[oEq hw (by simp[dep]),wd1,e])) (jR hc (bB (Gm (bC (x:=.int u) (y:=.int 0) (pZ (xName rfl)) (ak rfl) rfl) fun _=>fU ?_))) rfl
    by_cases q:0<=p
    · rw[decide_eq_true q,Bool.true_and]
      exact xg (x:=.int 0) (y:=.int p) (z:=.int n) (ak rfl) (xName rfl) (by show some (D.bl (decide (0<=p)))=_;rw[decide_eq_true q]) (xName rfl) rfl
    · rw[decide_eq_false q,Bool.false_and]
      exact xq (x:=.int 0) (y:=.int p) (ak rfl) (xName rfl) (by show some (D.bl (decide (0<=p)))=_;rw[decide_eq_false q])
  | false =>
    refine j5 hc (bC (x:=w) (y:=.str "scale") (xName rfl) (ak rfl) (by rw[oEq hw (by simp[dep]),wd1,e])) (jR hc ?_)
    show _=some (D.bl (decide (0<=p)&&decide (p<n-1)))
    by_cases q:0<=p
    · rw[decide_eq_true q,Bool.true_and]
      exact xg (x:=.int 0) (y:=.int p) (z:=.int (n-1)) (ak rfl) (xName rfl) (by show some (D.bl (decide (0<=p)))=_;rw[decide_eq_true q]) (bW (x:=.int n) (y:=.int 1) (xName rfl) (ak rfl) rfl) rfl
    · rw[decide_eq_false q,Bool.false_and]
      exact xq (x:=.int 0) (y:=.int p) (ak rfl) (xName rfl) (by show some (D.bl (decide (0<=p)))=_;rw[decide_eq_false q])
theorem i4(k:Nat){n p u v:Int}{d w:D}{o:Sl}(ho:nOw o=true)(hw:dep w<=50)(hb:v.natAbs<=1000000000000000000):blk (cxN T 60 (k+1)) 60 60 iSc (ibd 4) (j9 n d (.sh w) (.sh (.int p)) (.sh (frD u v)) o)=some (.ret (.bl (frB (frD u v)&&(if fu "scale" w then decide (0<u)&&(decide (0<=p)&&decide (p<n)) else decide (0<=p)&&decide (p<n-1))))):=by
  have hc:dD (j9 n d (.sh w) (.sh (.int p)) (.sh (frD u v)) o)=true:=by cases o<;>first | rfl | cases ho
  have fe:frB (frD u v)=(decide (0<v)&&decide (Int.gcd u v=1)&&decide (0<=u)):=rfl
  have no:frB (frD u v)=false->ev (cxN T 60 (k+1)) 60 iSc (j9 n d (.sh w) (.sh (.int p)) (.sh (frD u v)) o) (ifX (bJ 73 4))=some (.bl true):=fun hf=>by
    rw[fe] at hf
    by_cases h1:u<0
    · exact bB (wQ (bC (x:=.int u) (y:=.int 0) (pZ (xName rfl)) (ak rfl) (by show some (D.bl (decide (u<0)))=_;rw[decide_eq_true h1])))
    · by_cases h2:v<1
      · exact bB (fQ (bC (x:=.int u) (y:=.int 0) (pZ (xName rfl)) (ak rfl) (by show some (D.bl (decide (u<0)))=_;rw[decide_eq_false h1])) (wQ (bC (x:=.int v) (y:=.int 1) (zN (xName rfl)) (ak rfl) (by show some (D.bl (decide (v<1)))=_;rw[decide_eq_true h2]))))
      · have g:¬ Int.gcd u v=1:=fun g=>by
          rw[decide_eq_true g,decide_eq_true (by omega:0<v),decide_eq_true (by omega:0<=u)] at hf
          cases hf
        refine bB (fQ (bC (x:=.int u) (y:=.int 0) (pZ (xName rfl)) (ak rfl) (by show some (D.bl (decide (u<0)))=_;rw[decide_eq_false h1])) (fQ (bC (x:=.int v) (y:=.int 1) (zN (xName rfl)) (ak rfl) (by show some (D.bl (decide (v<1)))=_;rw[decide_eq_false h2])) (fU (bC (x:=loD u v) (y:=frD u v) (aD rfl (aj (x:=.int u) (pZ (xName rfl)) (aj (x:=.int v) (zN (xName rfl)) aK)) (Rk k (by omega) (Nat.lt_of_le_of_lt hb (by decide +kernel)))) (xName rfl) ?_))))
        rw[oNe (by simp[loD,dep,deps]) (by simp[dep,deps]),vf (by omega),decide_eq_false g];rfl
  cases hf:frB (frD u v) with
  | false=>exact tW (fl1:=.ret (.bl false)) hc (no hf) (jR hc (ak rfl)) rfl
  | true =>
    rw[Bool.true_and]
    have hf':=hf
    rw[fe] at hf'
    simp only[Bool.and_eq_true,decide_eq_true_eq] at hf'
    obtain⟨⟨h1,h2⟩,h3⟩:=hf'
    refine j5 hc (bB (fQ (bC (x:=.int u) (y:=.int 0) (pZ (xName rfl)) (ak rfl) (by show some (D.bl (decide (u<0)))=_;rw[decide_eq_false (by omega)])) (fQ (bC (x:=.int v) (y:=.int 1) (zN (xName rfl)) (ak rfl) (by show some (D.bl (decide (v<1)))=_;rw[decide_eq_false (by omega)])) (fU (bC (x:=loD u v) (y:=frD u v) (aD rfl (aj (x:=.int u) (pZ (xName rfl)) (aj (x:=.int v) (zN (xName rfl)) aK)) (Rk k (by omega) (Nat.lt_of_le_of_lt hb (by decide +kernel)))) (xName rfl) ?_))))) (i5 (k+1) ho hw)
    rw[oNe (by simp[loD,dep,deps]) (by simp[dep,deps]),vf (by omega),decide_eq_true h2];rfl
theorem i3(k:Nat){n:Int}{d w p a b:D}(hw:dep w<=50)(hp:dep p<1000)(ha:dep a<1000)(hb:dep b<1000)(hbd:bdS (.tup [a,b])=true):blk (cxN T 60 (k+1)) 60 60 iSc (ibd 3) (j9 n d (.sh w) (.sh p) (.sh (.tup [a,b])) .no)=some (.ret (.bl (frB (.tup [a,b])&&(if fu "scale" w then psB (.tup [a,b])&&within 0 (n-1) p else within 0 (n-1-1) p)))):=by
  have hI:evI (cxN T 60 (k+1)) false (ev (cxN T 60 (k+1)) 60 iSc (j9 n d (.sh w) (.sh p) (.sh (.tup [a,b])) .no)) iSc (RL (bJ 73 3))=some [p,a,b] :=
    wSq rfl (bW (x:=.tup [p]) (y:=.tup [a,b]) (eY (aj (xName rfl) aK) rfl) (xName rfl) rfl) rfl
  have j1:=Eh (k+1) (n:=n) (d:=d) (w:=w) (p:=p) (s:=.tup [a,b]) (x:=p) (o:=.no) rfl hp
  have j2:=Eh (k+1) (n:=n) (d:=d) (w:=w) (p:=p) (s:=.tup [a,b]) (x:=a) (o:=.sh p) rfl ha
  have j3:=Eh (k+1) (n:=n) (d:=d) (w:=w) (p:=p) (s:=.tup [a,b]) (x:=b) (o:=.sh a) rfl hb
  have stop:cY (fF (cxN T 60 (k+1)) 60 59 iSc (gO (bJ 73 3)) (bD (bJ 73 3))) [p,a,b] (j9 n d (.sh w) (.sh p) (.sh (.tup [a,b])) .no)=some (.ret (.bl false))->blk (cxN T 60 (k+1)) 60 60 iSc (ibd 3) (j9 n d (.sh w) (.sh p) (.sh (.tup [a,b])) .no)=some (.ret (.bl false)):=fun h=>DE.RB (fl1:=.ret (.bl false)) (l:=[p,a,b]) hI h rfl
  cases wp:whole p with
  | false =>
    have e:∀ m,within 0 m p=false:=fun m=>by cases p<;>first | rfl | simp[whole] at wp
    rw[e,e,Bool.and_false,ite_self,Bool.and_false]
    rw[wp] at j1
    exact stop (by simp only[cY,j1];rfl)
  | true =>
    cases wa:whole a with
    | false =>
      have e:frB (.tup [a,b])=false:=by cases a<;>first | rfl | simp[whole] at wa
      rw[e,Bool.false_and]
      rw[wp] at j1;rw[wa] at j2
      refine stop ?_
      show(fF _ _ _ _ _ _ _ _ >>=_)=_
      rw[j1]
      show(fF _ _ _ _ _ _ _ _ >>=_)=_
      rw[j2];rfl
    | true =>
      cases wb:whole b with
      | false =>
        have e:frB (.tup [a,b])=false:=by cases a<;>first | rfl | (cases b<;>first | rfl | simp[whole] at wb)
        rw[e,Bool.false_and]
        rw[wp] at j1;rw[wa] at j2;rw[wb] at j3
        refine stop ?_
        show(fF _ _ _ _ _ _ _ _ >>=_)=_
        rw[j1]
        show(fF _ _ _ _ _ _ _ _ >>=_)=_
        rw[j2]
        show(fF _ _ _ _ _ _ _ _ >>=_)=_
        rw[j3];rfl
      | true =>
        cases p<;>simp[whole] at wp
        cases a<;>simp[whole] at wa
        cases b<;>simp[whole] at wb
        rename_i p u v
        simp only[whole,if_true] at j1 j2 j3
        simp only[bdS,Bool.and_eq_true,decide_eq_true_eq] at hbd
        have go:cY (fF (cxN T 60 (k+1)) 60 59 iSc (gO (bJ 73 3)) (bD (bJ 73 3))) [.int p,.int u,.int v] (j9 n d (.sh w) (.sh (.int p)) (.sh (frD u v)) .no)=some (.nxt (j9 n d (.sh w) (.sh (.int p)) (.sh (frD u v)) (.sh (.int v)))):=by
          simp only[cY,j1,j2,j3,bind,Option.bind]
        have r:=i4 k (n:=n) (p:=p) (u:=u) (v:=v) (d:=d) (w:=w) (o:=.sh (.int v)) rfl hw hbd.2
        have e1:(if fu "scale" w then psB (.tup [.int u,.int v])&&within 0 (n-1) (.int p) else within 0 (n-1-1) (.int p))=(if fu "scale" w then decide (0<u)&&(decide (0<=p)&&decide (p<n)) else decide (0<=p)&&decide (p<n-1)):=by
          have a1:decide (p<=n-1)=decide (p<n):=by by_cases h:p<n<;>simp[h]<;>omega
          have a2:decide (p<=n-1-1)=decide (p<n-1):=by by_cases h:p<n-1<;>simp[h]<;>omega
          simp only[psB,within,a1,a2]
        rw[e1]
        exact jY rfl hI go r
theorem pK(k:Nat){n:Int}{d:D}(h:dep d<=50)(hb:bdB d=true):aJ T 60 (k+2) "_law_is_step" [.int n,d]=some (.bl (eG n d)):=by
  cases d with
  | tup us =>
    by_cases hl:us.length=3
    · match us,hl with
      | [w, p, s], _ =>
        simp only[dep,deps] at h
        have c0:(fu "up" w||(fu "down" w||fu "scale" w))=true->ev (cxN T 60 (k+1)) 60 iSc (j9 n (.tup [w,p,s]) .no .no .no .no) (ifX (bJ 73 0))=some (.bl false):=fun e =>
          bB (fQ (bZ (iK rfl rfl rfl (xName rfl) rfl)) (fQ (bC (x:=.int 3) (y:=.int 3) (dG rfl rfl rfl (aj (x:=.tup [w,p,s]) (xName rfl) aK) rfl) (ak rfl) (Dz rfl)) (fU (bC (x:=w) (y:=.tup [.str "up",.str "down",.str "scale"]) (xIx (x:=.tup [w,p,s]) (i:=0) (xName rfl) (ak rfl) rfl rfl) (eY (aj (ak rfl) (aj (ak rfl) (aj (ak rfl) aK))) rfl) (by rw[Aj (by omega),e];rfl)))))
        cases e:(fu "up" w||(fu "down" w||fu "scale" w)) with
        | false =>
          have e':=e
          simp only[Bool.or_eq_false_iff] at e'
          have:eG n (.tup [w,p,s])=false:=by show stB n w p s=false;unfold stB;rw[e'.1,e'.2.1,e'.2.2];rfl
          rw[this]
          exact cI (fd:=aV (top 73)) rfl rfl (tW (ρ:=j9 n (.tup [w,p,s]) .no .no .no .no) (fl1:=.ret (.bl false)) rfl (bB (fQ (bZ (iK rfl rfl rfl (xName rfl) rfl)) (fQ (bC (x:=.int 3) (y:=.int 3) (dG rfl rfl rfl (aj (x:=.tup [w,p,s]) (xName rfl) aK) rfl) (ak rfl) (Dz rfl)) (fU (bC (x:=w) (y:=.tup [.str "up",.str "down",.str "scale"]) (xIx (x:=.tup [w,p,s]) (i:=0) (xName rfl) (ak rfl) rfl rfl) (eY (aj (ak rfl) (aj (ak rfl) (aj (ak rfl) aK))) rfl) (by rw[Aj (by omega),e];rfl)))))) (jR rfl (ak rfl)) rfl)
        | true =>
          have fin:blk (cxN T 60 (k+1)) 60 60 iSc (ibd 2) (j9 n (.tup [w,p,s]) (.sh w) (.sh p) (.sh s) .no)=some (.ret (.bl (eG n (.tup [w,p,s])))):=by
            have sv:frB s=false->eG n (.tup [w,p,s])=false:=fun q=>by show stB n w p s=false;unfold stB;rw[q];simp
            cases s with
            | tup vs =>
              by_cases h2:vs.length=2
              · match vs,h2 with
                | [a, b], _ =>
                  simp only[dep,deps] at h
                  have r:=i3 k (n:=n) (d:=.tup [w,p,.tup [a,b]]) (w:=w) (p:=p) (a:=a) (b:=b) (by omega) (by omega) (by omega) (by omega) hb
                  have q:(frB (.tup [a,b])&&(if fu "scale" w then psB (.tup [a,b])&&within 0 (n-1) p else within 0 (n-1-1) p))=eG n (.tup [w,p,.tup [a,b]]):=by
                    show _=stB n w p (.tup [a,b])
                    unfold stB
                    cases es:fu "scale" w with
                    | true =>
                      simp only[if_true]
                      cases frB (.tup [a,b])<;>cases psB (.tup [a,b])<;>cases within 0 (n-1) p<;>rfl
                    | false =>
                      rw[es,Bool.or_false] at e
                      rw[e]
                      simp only[Bool.false_eq_true,if_false,Bool.true_and]
                      cases frB (.tup [a,b])<;>cases within 0 (n-1-1) p<;>rfl
                  rw[q] at r
                  exact j5 rfl (bB (fQ (bZ (iK rfl rfl rfl (xName rfl) rfl)) (fU (bC (x:=.int 2) (y:=.int 2) (dG rfl rfl rfl (aj (x:=.tup [a,b]) (xName rfl) aK) rfl) (ak rfl) (Dz rfl))))) r
              · have e0:frB (.tup vs)=false:=by
                  match vs,h2 with
                  | [],_=>rfl
                  | [a],_=>cases a<;>rfl
                  | a::b::c::r,_=>cases a<;>first | rfl | (cases b<;>rfl)
                  | [_,_],hl=>exact absurd rfl hl
                rw[sv e0]
                refine tW (fl1:=.ret (.bl false)) rfl (bB (fQ (bZ (iK rfl rfl rfl (xName rfl) rfl)) (fU (bC (x:=.int (vs.length:Int)) (y:=.int 2) (dG rfl rfl rfl (aj (x:=.tup vs) (xName rfl) aK) oJ) (ak rfl) ?_)))) (jR rfl (ak rfl)) rfl
                rw[neI]
                have:((vs.length:Int)==2)=false:=by simpa using(by omega:¬ (vs.length:Int)=2)
                rw[this];rfl
            | exc c=>simp only[dep] at h;omega
            | dic _ _=>simp only[dep] at h;omega
            | _ =>
              rw[sv rfl]
              exact tW (fl1:=.ret (.bl false)) rfl (bB (wQ (jg (iK rfl rfl rfl (xName rfl) rfl)))) (jR rfl (ak rfl)) rfl
          exact cI (fd:=aV (top 73)) rfl rfl (j5 (ρ:=j9 n (.tup [w,p,s]) .no .no .no .no) rfl (c0 e) (gTup rfl (xName rfl) rfl rfl fin))
    · rw[qC hl]
      exact cI (fd:=aV (top 73)) rfl rfl (tW (ρ:=j9 n (.tup us) .no .no .no .no) (fl1:=.ret (.bl false)) rfl (bB (fQ (bZ (iK rfl rfl rfl (xName rfl) rfl)) (wQ (bC (x:=.int (us.length:Int)) (y:=.int 3) (dG rfl rfl rfl (aj (x:=.tup us) (xName rfl) aK) oJ) (ak rfl) (ne3 hl))))) (jR rfl (ak rfl)) rfl)
  | exc c=>exact absurd h (by simp[dep])
  | dic _ _=>exact absurd h (by simp[dep])
  | _=>exact cI (fd:=aV (top 73)) rfl rfl (pO (fl1:=.ret (.bl false)) (bB (wQ (jg (iK rfl rfl rfl (xName rfl) rfl)))) (dO (ak rfl)) rfl)
end M30
namespace M30
open PySem DE
theorem jD{α:Type}{f:D->Rho->Option Fl}{g:α->D}{P:List α->Rho->Prop}{whole:List α}(h:∀ pre x post ρ,pre++x::post=whole->P pre ρ->∃ ρ',P (pre++[x]) ρ'/\f (g x) ρ=some (.nxt ρ')):∀ {l pre:List α} {ρ:Rho},pre++l=whole->P pre ρ->∃ ρ',P whole ρ'/\cY f (l.map g) ρ=some (.nxt ρ')
  | [],pre,ρ,e,hP=>⟨ρ,by rw[List.append_nil] at e;rw[<- e];exact hP,rfl⟩
  | x :: l, pre, ρ, e, hP => by
    obtain⟨ρ1,h1,h2⟩:=h pre x l ρ e hP
    obtain⟨ρ2,h3,h4⟩:=jD h (l:=l) (pre:=pre++[x]) (by rw[List.append_assoc];exact e) h1
    refine⟨ρ2,h3,?_⟩
    simp only[List.map_cons,cY,h2]
    exact h4
def xU(n:Nat)(l:List Stp)(md w p s:Sl):Rho:=[("many",.sh (.int (n:Int))),("steps",.sh (ssD l)),("made",md),("word",w),("place",p),("share",s)]
theorem ni{E:Nat}(h:0<E){i j:Nat}(hij:i<=j):E^i<=E^j:=Nat.pow_le_pow_right h hij
theorem Sml.bnd{n E C:Nat}{l:List Stp}(S:Sml n E C l){pre:List Stp}{x:Stp}{post:List Stp}(e:pre++x::post=l):E^pre.length*E<=1000000000000000000/\4*((4*C)^pre.length*C)<=1000000000000000000/\(4*C)^pre.length<=1000000000000000000:=by
 have hl:pre.length+1<=l.length:=by rw[<- e,List.length_append,List.length_cons];omega
 have c1:=S.c1
 refine⟨?_,?_,?_⟩
 ·rw[<- Nat.pow_succ];exact Nat.le_trans (ni S.e0 hl) S.h1
 ·rw[show 4*((4*C)^pre.length*C)=(4*C)^(pre.length+1) by rw[Nat.pow_succ,Nat.mul_left_comm]]
  exact Nat.le_trans (ni (by omega) hl) S.h2
 ·exact Nat.le_trans (ni (by omega) (by omega)) S.h2
theorem made_by(k:Nat){n E C:Nat}{l:List Stp}(h1:1<=n)(h4:n<=4)(S:Sml n E C l)(hz:l.length<=100):aJ T 60 (k+8) "made_by" [.int (n:Int),ssD l]=some (ftq n n (mkQ n l)):=by
  have go:=jD (f:=fF (cxN T 60 (k+7)) 60 59 (aV (top 47)).sc (gO (bJ 47 2)) (bD (bJ 47 2))) (g:=stD) (whole:=l) (P:=fun pre ρ=>∃ w p s,nOw w=true/\nOw p=true/\nOw s=true/\ρ=xU n l (.sh (ftq n n (mkQ n pre))) w p s) (fun pre x post ρ e hP=>by
    obtain⟨w,p,s,_,_,_,rfl⟩:=hP
    have ok:=S.ok x (by rw[<- e];simp)
    obtain⟨b1,b2,b3⟩:=S.bnd e
    refine⟨_,⟨.sh (.str (wS x.w)),.sh (.int (x.p:Int)),.sh (qD x.s),rfl,rfl,rfl,rfl⟩,jE (ρ1:=xU n l (.sh (ftq n n (mkQ n pre))) (.sh (.str (wS x.w))) (.sh (.int (x.p:Int))) (.sh (qD x.s))) rfl ?_⟩
    have ts:aJ T 60 (k+7) "table_of_step" [.int (n:Int),.str (wS x.w),.int (x.p:Int),qD x.s]=some (ftq n n (stQ x)):=GQ (k+1) n (by omega) x.w (yx ok.pl) x.p (by have:=uV ok.pl;omega) ok.pl
    have pr:=product k (F:=mkQ n pre) (G:=stQ x) h1 h4 h1 h4 h1 h4 (Kg h4 fun y hy=>S.bq y (by rw[<- e];simp[hy])) (S.bq x (by rw[<- e];simp)) (Nat.pow_pos S.e0) S.e0 b1 b2 b3 S.cc
    rw[<- dX] at pr
    exact gj (ρ:=xU n l (.sh (ftq n n (mkQ n pre))) (.sh (.str (wS x.w))) (.sh (.int (x.p:Int))) (.sh (qD x.s))) (ρ':=xU n l (.sh (ftq n n (mkQ n pre))) (.sh (.str (wS x.w))) (.sh (.int (x.p:Int))) (.sh (qD x.s))) (d:=ftq n n (mkQ n (pre++[x]))) rfl rfl rfl (aD rfl (aj (xName rfl) (aj (aD rfl (aj (xName rfl) (aj (xName rfl) (aj (xName rfl) (aj (xName rfl) aK)))) ts) aK)) pr) dh) (l:=l) (pre:=[]) (ρ:=xU n l (.sh (ftq n n (mkQ n []))) .no .no .no) rfl ⟨.no,.no,.no,rfl,rfl,rfl,rfl⟩
  obtain⟨ρ',⟨w,p,s,c1,c2,c3,rfl⟩,hgo⟩:=go
  have pl:aJ T 60 (k+7) "plain" [.int (n:Int)]=some (tbl n n dl):=plain (k+3) h1 h4
  refine cI (fd:=aV (top 47)) rfl rfl (Jr rfl (d:=.non) (aD rfl (aj (xName rfl) (aj (xName rfl) aK)) (need_steps (k+1) h1 h4 S.ok hz)) ?_)
  refine gj (ρ:=xU n l .no .no .no .no) (ρ':=xU n l .no .no .no .no) (d:=ftq n n idQ) rfl rfl rfl (aD rfl (aj (aD rfl (aj (xName rfl) aK) pl) aK) (HJ (k+1) n (by omega) h1)) ?_
  exact jY (ρ:=xU n l (.sh (ftq n n (mkQ n []))) .no .no .no) (ρ':=xU n l (.sh (ftq n n (mkQ n []))) .no .no .no) rfl (wSq (x:=ssD l) rfl (xName rfl) rfl) hgo (jR (aR rfl (aR rfl (aR rfl (aR c1 (aR c2 (aR c3 rfl)))))) (xName rfl))
def qo(u d:Int):Rat:=(u:Rat) / (d:Rat)
def V7(l:D)(u d o:Sl):Rho:=[("_law_some_here",.sh l),("_law_up",u),("_law_down",d),("_law_one",o)]
def vp(u d:Nat->Int):Nat->Sl
 | 0=>.no
 | i+1=>.sh (frD (u i) (d i))
theorem Ef(u d:Nat->Int)(i:Nat):nOw (vp u d i)=true:=by cases i<;>rfl
theorem smB{x:Int}(h:x.natAbs<=1000000000000000000):small x=true:=by
 unfold small;rw[decide_eq_true (by omega),decide_eq_true (by omega)];rfl
theorem G6{a:Rat}{u d:Int}(hd:d≠0):qo (a.num*d+u*(a.den:Int)) ((a.den:Int)*d)=a+qo u d:=by
 unfold qo
 have h1:=Vw hd
 have h2:=kh a
 rw[Rat.intCast_add,Rat.intCast_mul,Rat.intCast_mul,Rat.intCast_mul,m9 a]
 show(a*(a.den:Rat)*(d:Rat)+(u:Rat)*(a.den:Rat)) / ((a.den:Rat)*(d:Rat))=a+(u:Rat) / (d:Rat)
 grind
theorem Eb(k:Nat){n:Nat}{u d:Nat->Int}(hd:∀ i,i<n->d i≠0)(hb:∀ i,i<n->(u i).natAbs<=1000000000000000000/\(d i).natAbs<=1000000000000000000)(hs:∀ i,i<n->Sq (bF i fun j=>qo (u j) (d j))):aJ T 60 (k+2) "_law_sum" [.lst (Ls n fun i=>frD (u i) (d i))]=some (qD (bF n fun j=>qo (u j) (d j))):=by
 let L:D:=.lst (Ls n fun i=>frD (u i) (d i))
 let g:Nat->Rat:=fun j=>qo (u j) (d j)
 let R (i:Nat) (o:Sl):Rho:=V7 L (.sh (.int (bF i g).num)) (.sh (.int ((bF i g).den:Int))) o
 refine cI (fd:=aV (top 68)) rfl rfl (gTup (d:=.tup [.int 0,.int 1]) (ρ':=R 0 .no) rfl (eY (aj (ak rfl) (aj (ak rfl) aK)) rfl) rfl rfl ?_)
 refine jY (ρ:=R 0 .no) (ρ':=R 0 (vp u d 0)) (ρ2:=R n (vp u d n)) rfl (wSq (x:=L) rfl (xName rfl) rfl) (rm (R:=fun i=>R i (vp u d i)) fun i hi=>?_) (jR (ρ:=R n (vp u d n)) (aR rfl (aR rfl (aR rfl (aR (Ef u d n) rfl)))) (eY (aj (xName rfl) (aj (xName rfl) aK)) rfl))
 have sq:=hs i hi
 obtain⟨b1,b2⟩:=hb i hi
 have d0:((bF i g).den:Int)*d i≠0:=Int.mul_ne_zero (wk _) (hd i hi)
 have dz:(((bF i g).den:Int)*d i).natAbs<10000000000000000000000000000000000000000000000000000000000000000000000000000000000000000000000000000:=by
  rw[Int.natAbs_mul]
  exact Nat.lt_of_le_of_lt (Nat.mul_le_mul sq.2 b2) (by decide +kernel)
 have ll:=Rk k (u:=(bF i g).num*d i+u i*((bF i g).den:Int)) d0 dz
 rw[Rj d0,show(((bF i g).num*d i+u i*((bF i g).den:Int):Int):Rat) / ((((bF i g).den:Int)*d i:Int):Rat)=bF (i+1) g from G6 (hd i hi)] at ll
 refine jE (ρ1:=R i (.sh (frD (u i) (d i)))) rfl (W2 (ρ:=R i (.sh (frD (u i) (d i)))) (ρ':=R (i+1) (.sh (frD (u i) (d i)))) (d:=qD (bF (i+1) g)) rfl rfl ?_ rfl rfl dh)
 exact aD rfl (aj (bW (x:=.int ((bF i g).num*d i)) (y:=.int (u i*((bF i g).den:Int))) (bW (x:=.int (bF i g).num) (y:=.int (d i)) (xName rfl) (zN (xName rfl)) (pW (.inl (smB sq.1)))) (bW (x:=.int (u i)) (y:=.int ((bF i g).den:Int)) (pZ (xName rfl)) (xName rfl) (pW (.inl (smB b1)))) rfl) (aj (bW (x:=.int ((bF i g).den:Int)) (y:=.int (d i)) (xName rfl) (zN (xName rfl)) (pW (.inl (smB (by exact sq.2))))) aK)) ll
end M30
namespace M30
open PySem DE
theorem qz{f g:Nat->Rat}:∀ n:Nat,bF n (fun l=>f l+g l)=bF n f+bF n g
 | 0=>by simp only[bF];grind
 | n+1=>by simp only[bF,qz n];grind
theorem lE{f g:Nat->Rat}:∀ {n:Nat},(∀ l,l<n->f l=g l)->bF n f=bF n g
 | 0,_=>rfl
 | n+1,h=>by rw[bF,bF,lE fun l hl=>h l (by omega),h n (by omega)]
theorem ur{f:Nat->Rat}:∀ {n:Nat},(∀ l,l<n->f l=0)->bF n f=0
 | 0,_=>rfl
 | n+1,h=>by rw[bF,ur fun l hl=>h l (by omega),h n (by omega)];grind
theorem o9{f:Nat->Rat}{j:Nat}:∀ {n:Nat},j<n->bF n (fun l=>if l=j then f l else 0)=f j
  | n + 1, h => by
    rw[bF]
    by_cases q:j=n
    · subst q
      rw[ur fun l hl=>if_neg (by omega),if_pos rfl];grind
    · rw[o9 (by omega),if_neg (by omega)];grind
section
variable {n:Nat} {i j:Nat}
theorem Wu{F:Nat->Nat->Rat}(hi:i<n):mulQ n idQ F i j=F i j:=by
 have e:(fun l=>idQ i l*F l j)=fun l=>if l=i then F l j else 0:=by
  funext l
  unfold idQ
  by_cases h:l=i
  ·rw[if_pos h.symm,if_pos h];grind
  ·rw[if_neg (fun q=>h q.symm),if_neg h];grind
 unfold mulQ
 rw[e,o9 hi]
theorem Rg{F:Nat->Nat->Rat}(hj:j<n):mulQ n F idQ i j=F i j:=by
 have e:(fun l=>F i l*idQ l j)=fun l=>if l=j then F i l else 0:=by
  funext l
  unfold idQ
  by_cases h:l=j
  ·rw[if_pos h,if_pos h];grind
  ·rw[if_neg h,if_neg h];grind
 unfold mulQ
 rw[e,o9 hj]
theorem mR{f:Nat->Rat}{c:Rat}:∀ n:Nat,bF n (fun l=>f l*c)=bF n f*c
 | 0=>by simp only[bF];grind
 | n+1=>by simp only[bF,mR n];grind
theorem mU{f:Nat->Rat}{c:Rat}:∀ n:Nat,bF n (fun l=>c*f l)=c*bF n f
 | 0=>by simp only[bF];grind
 | n+1=>by simp only[bF,mU n];grind
theorem mV{f:Nat->Nat->Rat}{m:Nat}:∀ n:Nat,bF n (fun l=>bF m fun k=>f k l)=bF m fun k=>bF n fun l=>f k l
 | 0=>(ur fun _ _=>rfl).symm
 | n+1=>by simp only[bF,mV n];rw[<- qz]
theorem j7{f:Nat->Rat}:∀ n:Nat,bF (n+1) f=f 0+bF n fun l=>f (l+1)
 | 0=>by simp only[bF];grind
 | n+1=>by rw[bF,j7 n];simp only[bF];grind
theorem qx{f:Nat->Rat}:∀ n:Nat,bF n (fun l=>f (n-1-l))=bF n f
  | 0=>rfl
  | n + 1 => by
    rw[j7,bF]
    have e:(fun l=>f (n+1-1-(l+1)))=fun l=>f (n-1-l):=by funext l;congr 1;omega
    rw[e,qx n]
    show f (n+1-1-0)+_=_
    rw[show n+1-1-0=n by omega];grind
theorem DX{A B C:Nat->Nat->Rat}:mulQ n (mulQ n A B) C i j=mulQ n A (mulQ n B C) i j:=by
 show bF n (fun l=>(bF n fun m=>A i m*B m l)*C l j)=bF n fun m=>A i m*bF n fun l=>B m l*C l j
 have e1:(fun l=>(bF n fun m=>A i m*B m l)*C l j)=fun l=>bF n fun m=>A i m*B m l*C l j:=by funext l;rw[<- mR]
 have e2:(fun m=>A i m*bF n fun l=>B m l*C l j)=fun m=>bF n fun l=>A i m*B m l*C l j:=by
  funext m
  rw[<- mU]
  congr 1
  funext l
  grind
 rw[e1,e2,mV]
theorem Wv{A B A' B':Nat->Nat->Rat}(h1:∀ l,l<n->A i l=A' i l)(h2:∀ l,l<n->B l j=B' l j):mulQ n A B i j=mulQ n A' B' i j:=lE fun l hl=>by rw[h1 l hl,h2 l hl]
theorem Am(a:List Stp):∀ b:List Stp,∀ i j,i<n->j<n->mkQ n (a++b) i j=mulQ n (mkQ n a) (mkQ n b) i j:=by
 refine xQ ?_ fun b x ih=>?_
 ·intro i j hi hj
  rw[List.append_nil]
  exact(Rg (F:=mkQ n a) hj).symm
 ·intro i j hi hj
  rw[<- List.append_assoc,dX,dX,<- DX]
  exact Wv (fun l hl=>ih i l hi hl) fun l _=>rfl
theorem mk_one{x:Stp}(hi:i<n):mkQ n [x] i j=stQ x i j:=Wu hi
def tw:Nat->Nat
 | 0=>1
 | 1=>0
 | w=>w
def tuS(x:Stp):Stp:=⟨tw x.w,x.p,x.s⟩
theorem Ba:idQ i j=idQ j i:=by unfold idQ;by_cases h:i=j<;>simp[h]<;>grind
theorem Hf{x:Stp}:stQ (tuS x) i j=stQ x j i:=by
 obtain⟨w,p,s⟩:=x
 unfold stQ tuS
 rw[Ba]
 match w with
 | 0=>simp only[tw,spR,spC];by_cases h1:i=p+1<;>by_cases h2:j=p<;>simp[h1,h2]
 | 1=>simp only[tw,spR,spC];by_cases h1:i=p<;>by_cases h2:j=p+1<;>simp[h1,h2]
 | w+2=>simp only[tw,spR,spC];by_cases h1:i=p<;>by_cases h2:j=p<;>simp[h1,h2]
theorem Rc:∀ l:List Stp,∀ i j,i<n->j<n->mkQ n ((l.map tuS).reverse) i j=mkQ n l j i:=by
 refine xQ ?_ fun l x ih=>?_
 ·intro i j _ _;exact Ba
 ·intro i j hi hj
  rw[List.map_append,List.reverse_append,dX]
  show mkQ n ([tuS x]++(l.map tuS).reverse) i j=_
  rw[Am _ _ i j hi hj]
  refine lE fun m hm=>?_
  rw[mk_one hi,ih m j hm hj,Hf]
  grind
def flS(n:Nat)(x:Stp):Stp:=⟨tw x.w,(if x.w=2 then n-1 else n-2)-x.p,x.s⟩
theorem Jo(hi:i<n)(hj:j<n):idQ (n-1-i) (n-1-j)=idQ i j:=by
 unfold idQ
 by_cases h:i=j
 ·simp[h]
 ·rw[if_neg h,if_neg (by omega)]
theorem Hl{x:Stp}(ok:okP n x.w x.p=true)(hi:i<n)(hj:j<n):stQ (flS n x) i j=stQ x (n-1-i) (n-1-j):=by
  obtain⟨w,p,s⟩:=x
  unfold stQ flS
  rw[Jo hi hj]
  match w with
  | 0 =>
    have ok':p+1<n:=by simpa[okP] using ok
    simp only[tw,spR,spC]
    rw[show(if(0:Nat)=2 then n-1 else n-2)=n-2 from rfl]
    by_cases h1:i=n-2-p+1<;>by_cases h2:j=n-2-p
    · rw[if_pos h1,if_pos h2,if_pos (by omega),if_pos (by omega)]
    · rw[if_pos h1,if_neg h2,if_pos (by omega),if_neg (by omega)]
    · rw[if_neg h1,if_neg (by omega)]
    · rw[if_neg h1,if_neg (by omega)]
  | 1 =>
    have ok':p+1<n:=by simpa[okP] using ok
    simp only[tw,spR,spC]
    rw[show(if(1:Nat)=2 then n-1 else n-2)=n-2 from rfl]
    by_cases h1:i=n-2-p<;>by_cases h2:j=n-2-p+1
    · rw[if_pos h1,if_pos h2,if_pos (by omega),if_pos (by omega)]
    · rw[if_pos h1,if_neg h2,if_pos (by omega),if_neg (by omega)]
    · rw[if_neg h1,if_neg (by omega)]
    · rw[if_neg h1,if_neg (by omega)]
  | 2 =>
    have ok':p<n:=by simpa[okP] using ok
    simp only[tw,spR,spC]
    simp only[if_true]
    by_cases h1:i=n-1-p<;>by_cases h2:j=n-1-p
    · rw[if_pos h1,if_pos h2,if_pos (by omega),if_pos (by omega)]
    · rw[if_pos h1,if_neg h2,if_pos (by omega),if_neg (by omega)]
    · rw[if_neg h1,if_neg (by omega)]
    · rw[if_neg h1,if_neg (by omega)]
  | w+3=>simp[okP] at ok
theorem Rf:∀ l:List Stp,(∀ x∈l,okP n x.w x.p=true)->∀ i j,i<n->j<n->mkQ n (l.map (flS n)) i j=mkQ n l (n-1-i) (n-1-j):=by
 refine xQ ?_ fun l x ih=>?_
 ·intro _ i j hi hj;exact(Jo hi hj).symm
 ·intro ok i j hi hj
  rw[List.map_append,List.map_singleton,dX,dX]
  show bF n (fun m=>mkQ n (l.map (flS n)) i m*stQ (flS n x) m j)=bF n fun m=>mkQ n l (n-1-i) m*stQ x m (n-1-j)
  rw[<- qx n (f:=fun m=>mkQ n l (n-1-i) m*stQ x m (n-1-j))]
  refine lE fun m hm=>?_
  rw[ih (fun y hy=>ok y (by simp[hy])) i m hi hm,Hl (ok x (by simp)) hm hj]
end
end M30
namespace M30
open PySem DE
abbrev sD(w:Str)(p u v:Int):D:=.tup [.str w,.int p,.tup [.int u,.int v]]
def plS:List D:=[.tup [],.tup [.int 0],.tup [.int 1],.tup [.int 2],.tup [.int 2,.int 0],.tup [.int 2,.int 1]]
section
variable {w:Str} {p u v:Int}
theorem uM(k:Nat):aJ T 60 (k+3) "_law_places" [sD w p u v]=some (.lst plS):=by kernel_rfl
def spV(w:Str)(p u v:Int)(new:D):Nat->D
 | 0=>new
 | 1=>.tup [new,.int p,.tup [.int u,.int v]]
 | 2=>.tup [.str w,new,.tup [.int u,.int v]]
 | 3=>.tup [.str w,.int p,new]
 | 4=>.tup [.str w,.int p,.tup [new,.int v]]
 | _=>.tup [.str w,.int p,.tup [.int u,new]]
def hrS(w:Str)(p u v:Int):Nat->D
 | 0=>sD w p u v
 | 1=>.str w
 | 2=>.int p
 | 3=>.tup [.int u,.int v]
 | 4=>.int u
 | _=>.int v
def lsK:Nat->Sl
 | 0=>.no
 | 1=>.sh (.int 0)
 | 2=>.sh (.int 1)
 | 3=>.sh (.int 2)
 | 4=>.sh (.int 0)
 | _=>.sh (.int 1)
def psS:Nat->List D
 | 0=>[]
 | 1=>[.int 0]
 | 2=>[.int 1]
 | 3=>[.int 2]
 | 4=>[.int 2,.int 0]
 | _=>[.int 2,.int 1]
theorem HN:∀ i,i<6->plS[i]?=some (.tup (psS i))
 | 0,_=>rfl
 | 1,_=>rfl
 | 2,_=>rfl
 | 3,_=>rfl
 | 4,_=>rfl
 | 5,_=>rfl
theorem zY(k:Nat){new:D}:∀ i,i<6->aJ T 60 (k+3) "_law_put" [sD w p u v,.tup (psS i),new]=some (spV w p u v new i)
 | 0,_=>by kernel_rfl
 | 1,_=>by kernel_rfl
 | 2,_=>by kernel_rfl
 | 3,_=>by kernel_rfl
 | 4,_=>by kernel_rfl
 | 5,_=>by kernel_rfl
theorem Ea(k:Nat){ns:List Int}{a:Nat}:∀ i,i<6->cY (fF (cxN T 60 k) 60 59 (aV (top 63)).sc (gO (bJ 63 3)) (bD (bJ 63 3))) (psS i) (Cu ns a (sD w p u v) plS (.tup (psS i)) (sD w p u v) .no)=some (.nxt (Cu ns a (sD w p u v) plS (.tup (psS i)) (hrS w p u v i) (lsK i)))
 | 0,_=>by kernel_rfl
 | 1,_=>by kernel_rfl
 | 2,_=>by kernel_rfl
 | 3,_=>by kernel_rfl
 | 4,_=>by kernel_rfl
 | 5,_=>by kernel_rfl
theorem Ri:∀ i,nOw (lsK i)=true:=fun i=>by unfold lsK;split<;>rfl
theorem Rv:∀ i,dep (hrS w p u v i)<=2:=fun i=>by unfold hrS;split<;>simp[dep,deps]
theorem K7(hu:u.natAbs<=1000000000000000000)(hv:v.natAbs<=1000000000000000000)(i:Nat){new:D}(hi:i<6)(h:new∈jV (hrS w p u v i)):dep (spV w p u v new i)<=10/\bdB (spV w p u v new i)=true:=by
  have bn:∀ {z:Int},z.natAbs<=1000000000000000000->decide (z.natAbs<=1000000000000000000)=true:=fun h=>decide_eq_true h
  have h0:=Rv (w:=w) (p:=p) (u:=u) (v:=v) i
  have hd:=xP h0 h
  match i,hi with
  | 0, _ =>
    refine⟨by show dep new<=10;omega,?_⟩
    simp only[jV,List.mem_cons,List.not_mem_nil,or_false] at h
    rcases h with rfl | rfl | rfl | rfl | rfl | rfl | rfl | rfl | rfl | rfl | rfl | rfl | rfl | rfl<;>rfl
  | 1,_=>exact⟨by simp only[spV,dep,deps];omega,by simp only[spV,bdB,bdS,bn hu,bn hv];rfl⟩
  | 2,_=>exact⟨by simp only[spV,dep,deps];omega,by simp only[spV,bdB,bdS,bn hu,bn hv];rfl⟩
  | 3, _ =>
    refine⟨by simp only[spV,dep,deps];omega,?_⟩
    simp only[jV,List.mem_cons,List.not_mem_nil,or_false] at h
    rcases h with rfl | rfl | rfl | rfl | rfl | rfl | rfl | rfl | rfl | rfl | rfl | rfl | rfl | rfl<;>rfl
  | 4, _ =>
    refine⟨by simp only[spV,dep,deps];omega,?_⟩
    simp only[jV,List.mem_cons,List.not_mem_nil,or_false] at h
    rcases h with rfl | rfl | rfl | rfl | rfl | rfl | rfl | rfl | rfl | rfl | rfl | rfl | rfl | rfl<;>first | rfl | (simp only[spV,bdB,bdS,bn hv];rfl)
  | 5, _ =>
    refine⟨by simp only[spV,dep,deps];omega,?_⟩
    simp only[jV,List.mem_cons,List.not_mem_nil,or_false] at h
    rcases h with rfl | rfl | rfl | rfl | rfl | rfl | rfl | rfl | rfl | rfl | rfl | rfl | rfl | rfl<;>first | rfl | (simp only[spV,bdB,bdS,bn hu];rfl)
theorem uE(k:Nat)(ns:List Int)(a:Nat)(hu:u.natAbs<=1000000000000000000)(hv:v.natAbs<=1000000000000000000):∃ x,dep x<=10/\bdB x=true/\aJ T 60 (k+4) "_law_spoilt_thing" [scr ns,.int (a:Int),sD w p u v]=some x:=by
 have hi:=bN (ns:=ns) (k:=a) (many:=6) (by decide)
 generalize hq:pickN ns a 6=i at hi
 have hp:=bN (ns:=ns) (k:=a+1) (many:=14) (by decide)
 obtain⟨new,g1,g2⟩:=get_some (l:=jV (hrS w p u v i)) (i:=pickN ns (a+1) 14) hp
 obtain⟨b1,b2⟩:=K7 (w:=w) (p:=p) hu hv i hi g2
 refine⟨_,b1,b2,?_⟩
 have q1:aJ T 60 (k+3) "_law_pick" [scr ns,.int ((a:Nat):Int),.int ((6:Nat):Int)]=some (.int ((i:Nat):Int)):=by rw[<- hq];exact pick (k+1) ns a (many:=6) (by decide)
 have q2:aJ T 60 (k+3) "_law_pick" [scr ns,.int ((a+1:Nat):Int),.int ((14:Nat):Int)]=some (.int ((pickN ns (a+1) 14:Nat):Int)):=pick (k+1) ns (a+1) (many:=14) (by decide)
 refine cI (fd:=aV (top 63)) rfl rfl (mK rfl (d:=.lst plS) ?_ (mK rfl (d:=.tup (psS i)) ?_ (mK rfl (d:=sD w p u v) (by walk_at "xv") ?_)))
 ·refine' aD ?L30e_1a ?L30e_1b ?L30e_1c;(case L30e_1a=>rfl);(case L30e_1b=>walk_at "xm");(case L30e_1c=>exact uM k)
 ·exact xIx (by walk_at "xv") (aD rfl (aj (by walk_at "xv") (aj (by walk_at "xv") (aj (x:=.int ((6:Nat):Int)) (dG rfl rfl rfl (by walk_at "xm") rfl) aK))) q1) rfl (gk (HN i hi))
 ·refine jY (ρ':=Cu ns a (sD w p u v) plS (.tup (psS i)) (sD w p u v) .no) rfl (wSq rfl (by walk_at "xv") rfl) (Ea (k+3) i hi) ?_
  have hs:=Ri i
  generalize lsK i=s at hs
  generalize hrS w p u v i=hh at g1 ⊢
  cases s with
  | ow ds=>simp[nOw] at hs
  | oo ds=>simp[nOw] at hs
  | no=>exact mK rfl (d:=.lst (jV hh)) (by walk_at "xv") (dO (aD rfl (aj (by walk_at "xv") (aj (by walk_at "xv") (aj (xIx (i:=((pickN ns (a+1) 14:Nat):Int)) (by walk_at "xv") (aD rfl (aj (by walk_at "xv") (aj (bW (by walk_at "xv") (by walk_at "xv") rfl) (aj (by walk_at "xv") aK))) q2) rfl (gk g1)) aK))) (zY k i hi)))
  | sh d=>exact mK rfl (d:=.lst (jV hh)) (by walk_at "xv") (dO (aD rfl (aj (by walk_at "xv") (aj (by walk_at "xv") (aj (xIx (i:=((pickN ns (a+1) 14:Nat):Int)) (by walk_at "xv") (aD rfl (aj (by walk_at "xv") (aj (bW (by walk_at "xv") (by walk_at "xv") rfl) (aj (by walk_at "xv") aK))) q2) rfl (gk g1)) aK))) (zY k i hi)))
end
theorem Kv{cx:Cxt}{F m:Nat}{sc:Scope}{ρ:Rho}{c:Expr}{A r:List Stmt}{p:Pos}{cn:Str}(hc:dD ρ=true)(h:ev cx F sc ρ c=some (.bl false))(k:zL cx F (m+1) sc r ρ cn):zL cx F (m+1) sc (.If c A [] p::r) ρ cn :=
 zK (by simp only[st,cN hc,h,bind,Option.bind_some,asB,Bool.false_eq_true,if_false];rfl) k
theorem wL(k:Nat){n:Int}{us:List D}(hz:us.length<=100)(hd:∀ x∈us,dep x<=50/\bdB x=true):ev (cxN T 60 (k+5)) 60 (aV (top 42)).sc [("many",.sh (.int n)),("steps",.sh (.lst us))] (ifX (bJ 42 1))=some (.bl (!us.all (eG n))):=by
 refine bB (fQ (bZ (iK rfl rfl rfl (x:=.lst us) (xName rfl) rfl rfl rfl)) (fU (J3 (dG (ds:=[.lst (us.map fun x=>.bl (eG n x))]) rfl rfl rfl (aj (cW (l:=us) rfl (wSq (x:=.lst us) rfl (xName rfl) rfl) (j6 (by omega)) (cG (g:=fun x=>.bl (eG n x)) fun y hy=>?_)) aK) tH))))
 exact dg rfl (aD rfl (aj (x:=.int n) (xName rfl) (aj (x:=y) (xName rfl) aK)) (jB k (hd y hy).1 (hd y hy).2))
theorem sJ(k:Nat){n:Nat}{us:List D}(h1:1<=n)(h4:n<=4)(hz:us.length<=100)(hd:∀ x∈us,dep x<=50/\bdB x=true)(hn:us.all (eG n)=false):iV T 60 (k+6) "need_steps" [.int (n:Int),.lst us]=some "NoStep"/\aJ T 60 (k+6) "need_steps" [.int (n:Int),.lst us]=none:=by
 have w1:aJ T 60 (k+5) "is_whole_within" [.int (n:Int),.int 1,.int 4]=some (.bl true):=dR (k+3) (by omega) (by omega)
 refine w6 (fd:=aV (top 42)) rfl rfl (Kv (ρ:=[("many",.sh (.int (n:Int))),("steps",.sh (.lst us))]) rfl (bZ (aD rfl (aj (xName rfl) (aj (ak rfl) (aj (xName rfl) aK))) w1)) ?_)
 have a:=wL k (n:=(n:Int)) hz hd
 rw[hn] at a
 exact qg a rfl
theorem uZ(k:Nat){n:Int}{us:D}(h:within 1 4 (.int n)=false):iV T 60 (k+6) "need_steps" [.int n,us]=some "NoStep"/\aJ T 60 (k+6) "need_steps" [.int n,us]=none:=by
 have w1:aJ T 60 (k+5) "is_whole_within" [.int n,.int 1,.int 4]=some (.bl false):=h▸jA (k+3) (by simp[dep])
 exact w6 (fd:=aV (top 42)) rfl rfl (qg (jg (aD rfl (aj (xName rfl) (aj (ak rfl) (aj (xName rfl) aK))) w1)) rfl)
theorem u6(k:Nat){n:Int}{us:D}(h:iV T 60 k "need_steps" [.int n,us]=some "NoStep"/\aJ T 60 k "need_steps" [.int n,us]=none):iV T 60 (k+1) "made_by" [.int n,us]=some "NoStep"/\aJ T 60 (k+1) "made_by" [.int n,us]=none :=
 w6 (fd:=aV (top 47)) rfl rfl (Gq rfl (tZ rfl (aj (x:=.int n) (xName rfl) (aj (x:=us) (xName rfl) aK)) h.1 h.2))
theorem Eu(k:Nat){n:Int}{us:D}(h:iV T 60 k "need_steps" [.int n,us]=some "NoStep"/\aJ T 60 k "need_steps" [.int n,us]=none):iV T 60 (k+1) "flipped_steps" [.int n,us]=some "NoStep"/\aJ T 60 (k+1) "flipped_steps" [.int n,us]=none :=
 w6 (fd:=aV (top 50)) rfl rfl (Gq rfl (tZ rfl (aj (x:=.int n) (xName rfl) (aj (x:=us) (xName rfl) aK)) h.1 h.2))
def wW(a b c:D)(kept ans e:Sl):Rho:=[("_law_what",.sh a),("_law_many",.sh b),("_law_steps_here",.sh c),("_law_kept",kept),("_law_answer",ans),("e",e)]
theorem uc(k:Nat):aJ T 60 (k+1) "_law_word" [.exc "NoStep"]=some (.str "no step"):=by kernel_rfl
theorem rF{cx:Cxt}{f:Str}{b c:D}{ρ:Rho}{sc:Scope}{cn:Str}(hf:isFn cx sc f [.Name "" ⟨0,0,0,0⟩]=true)(h1:cx.callx f [b,c]=some cn)(h2:cx.call f [b,c]=none){q1 q2:Pos}{n:Nat}{es:List Expr}(he:jX (ev cx n sc ρ) es=some [b,c])(hp:(es.all aB && !es.isEmpty)=true):evx cx (n+1) sc ρ (.Call (.Name f q1) es [] q2)=some cn/\ev cx (n+1) sc ρ (.Call (.Name f q1) es [] q2)=none:=by
 refine tZ ?_ he h1 h2
 rw[Bool.and_eq_true] at hp
 unfold isFn at hf ⊢
 rw[hp.1,hp.2]
 simpa using hf
theorem Vy(k:Nat){b c:D}(h:iV T 60 (k+1) "made_by" [b,c]=some "NoStep"/\aJ T 60 (k+1) "made_by" [b,c]=none):aJ T 60 (k+2) "_law_do" [.int 0,b,c]=some (.str "no step"):=by
 refine cI (fd:=aV (top 72)) rfl rfl (mK rfl (d:=.non) (by walk_at "xv") (mK rfl (d:=.non) (by walk_at "xv") (Js (ρ:=wW (.int 0) b c (.sh .non) (.sh .non) .no) (ρ':=wW (.int 0) b c (.sh .non) (.sh .non) .no) (c':="NoStep") rfl (zV rfl rfl (Gw (bC (x:=.int 0) (y:=.int 0) (xName rfl) (ak rfl) (Gh rfl)) (rF (cx:=cxN T 60 (k+1)) rfl h.1 h.2 (aj (x:=b) (xName rfl) (aj (x:=c) (xName rfl) aK)) rfl)).2 (Gw (bC (x:=.int 0) (y:=.int 0) (xName rfl) (ak rfl) (Gh rfl)) (rF (cx:={ cxN T 60 (k+1) with rs:=false }) rfl h.1 h.2 (aj (x:=b) (xName rfl) (aj (x:=c) (xName rfl) aK)) rfl))) rfl (tV (bC (x:=.exc "NoStep") (y:=.non) (xName rfl) (ak rfl) rfl) (dO ?_)))))
 exact aD rfl (aj (x:=.exc "NoStep") (xName rfl) aK) (uc k)
theorem WX(k:Nat){b c:D}(h:iV T 60 (k+1) "flipped_steps" [b,c]=some "NoStep"/\aJ T 60 (k+1) "flipped_steps" [b,c]=none):aJ T 60 (k+2) "_law_do" [.int 1,b,c]=some (.str "no step"):=by
 refine cI (fd:=aV (top 72)) rfl rfl (mK rfl (d:=.non) (by walk_at "xv") (mK rfl (d:=.non) (by walk_at "xv") (Js (ρ:=wW (.int 1) b c (.sh .non) (.sh .non) .no) (ρ':=wW (.int 1) b c (.sh .non) (.sh .non) .no) (c':="NoStep") rfl (zV rfl rfl (Gy (bC (x:=.int 1) (y:=.int 0) (xName rfl) (ak rfl) (Gi (by decide))) (rF (cx:=cxN T 60 (k+1)) rfl h.1 h.2 (aj (x:=b) (xName rfl) (aj (x:=c) (xName rfl) aK)) rfl)).2 (Gy (bC (x:=.int 1) (y:=.int 0) (xName rfl) (ak rfl) (Gi (by decide))) (rF (cx:={ cxN T 60 (k+1) with rs:=false }) rfl h.1 h.2 (aj (x:=b) (xName rfl) (aj (x:=c) (xName rfl) aK)) rfl))) rfl (tV (bC (x:=.exc "NoStep") (y:=.non) (xName rfl) (ak rfl) rfl) (dO ?_)))))
 exact aD rfl (aj (x:=.exc "NoStep") (xName rfl) aK) (uc k)
theorem do0(k:Nat){b c v:D}(h:aJ T 60 k "made_by" [b,c]=some v):aJ T 60 (k+1) "_law_do" [.int 0,b,c]=some v :=
 cI (fd:=aV (top 72)) rfl rfl (mK rfl (d:=.non) (by walk_at "xv") (mK rfl (d:=.non) (by walk_at "xv") (Jt rfl (fl1:=.nxt (wW (.int 0) b c (.sh .non) (.sh v) .no)) (gU (ρ:=wW (.int 0) b c (.sh .non) (.sh .non) .no) rfl rfl rfl (Gx (bC (x:=.int 0) (y:=.int 0) (xName rfl) (ak rfl) (Gh rfl)) (aD rfl (aj (xName rfl) (aj (xName rfl) aK)) h)) dh) (tW (ρ:=wW (.int 0) b c (.sh .non) (.sh v) .no) (fl1:=.ret v) rfl (bC (x:=.non) (y:=.non) (xName rfl) (ak rfl) rfl) (jR rfl (xName rfl)) rfl))))
theorem do1(k:Nat){b c v:D}(h:aJ T 60 k "flipped_steps" [b,c]=some v):aJ T 60 (k+1) "_law_do" [.int 1,b,c]=some v :=
 cI (fd:=aV (top 72)) rfl rfl (mK rfl (d:=.non) (by walk_at "xv") (mK rfl (d:=.non) (by walk_at "xv") (Jt rfl (fl1:=.nxt (wW (.int 1) b c (.sh .non) (.sh v) .no)) (gU (ρ:=wW (.int 1) b c (.sh .non) (.sh .non) .no) rfl rfl rfl (Gz (bC (x:=.int 1) (y:=.int 0) (xName rfl) (ak rfl) (Gi (by decide))) (aD rfl (aj (xName rfl) (aj (xName rfl) aK)) h)) dh) (tW (ρ:=wW (.int 1) b c (.sh .non) (.sh v) .no) (fl1:=.ret v) rfl (bC (x:=.non) (y:=.non) (xName rfl) (ak rfl) rfl) (jR rfl (xName rfl)) rfl))))
def twD:D:=L2.Km [("up","down"),("down","up"),("scale","scale")]
theorem KC:∀ w,w<3->Gg twD (.str (wS w))=some (.str (wS (tw w)))
 | 0,_=>by kernel_rfl
 | 1,_=>by kernel_rfl
 | 2,_=>by kernel_rfl
theorem JD(k:Nat){n:Nat}{x:Stp}(ok:okP n x.w x.p=true):aJ T 60 (k+1) "flipped_step" [.int (n:Int),.str (wS x.w),.int (x.p:Int),qD x.s]=some (stD (flS n x)):=by
  obtain⟨w,p,s⟩:=x
  match w,ok with
  | 0, ok =>
    have ok':p+1<n:=by simpa[okP] using ok
    have e:aJ T 60 (k+1) "flipped_step" [.int (n:Int),.str "up",.int (p:Int),qD s]=some (.tup [.str "down",.int ((n:Int)-2-(p:Int)),qD s]):=by kernel_rfl
    rw[show((n:Int)-2-(p:Int))=((n-2-p:Nat):Int) by omega] at e
    exact e
  | 1, ok =>
    have ok':p+1<n:=by simpa[okP] using ok
    have e:aJ T 60 (k+1) "flipped_step" [.int (n:Int),.str "down",.int (p:Int),qD s]=some (.tup [.str "up",.int ((n:Int)-2-(p:Int)),qD s]):=by kernel_rfl
    rw[show((n:Int)-2-(p:Int))=((n-2-p:Nat):Int) by omega] at e
    exact e
  | 2, ok =>
    have ok':p<n:=by simpa[okP] using ok
    have e:aJ T 60 (k+1) "flipped_step" [.int (n:Int),.str "scale",.int (p:Int),qD s]=some (.tup [.str "scale",.int ((n:Int)-1-(p:Int)),qD s]):=by kernel_rfl
    rw[show((n:Int)-1-(p:Int))=((n-1-p:Nat):Int) by omega] at e
    exact e
  | w+3,ok=>simp[okP] at ok
theorem Et(k:Nat){n:Nat}{l:List Stp}(h1:1<=n)(h4:n<=4)(hl:∀ x∈l,okS n x)(hz:l.length<=100):aJ T 60 (k+7) "flipped_steps" [.int (n:Int),ssD l]=some (ssD (l.map (flS n))):=by
 refine cI (fd:=aV (top 50)) rfl rfl (Jr rfl (d:=.non) (aD rfl (aj (xName rfl) (aj (xName rfl) aK)) (need_steps k h1 h4 hl hz)) (jR (ρ:=[("many",.sh (.int (n:Int))),("steps",.sh (ssD l))]) rfl ?_))
 rw[show ssD (l.map (flS n))=.lst (l.map fun x=>stD (flS n x)) by simp[ssD]]
 refine cW (l:=l.map stD) rfl (wSq (x:=ssD l) rfl (xName rfl) rfl) (j6 (by rw[List.length_map];omega)) (jO (h:=stD) (g:=fun x=>stD (flS n x)) fun x hx=>?_)
 exact dg rfl (aD rfl (aj (x:=.int (n:Int)) (xName rfl) (aj (x:=.str (wS x.w)) (xName rfl) (aj (x:=.int (x.p:Int)) (xName rfl) (aj (x:=qD x.s) (xName rfl) aK)))) (JD (k+5) (hl x hx).pl))
theorem BL(k:Nat){l:List Stp}(hl:∀ x∈l,x.w<3)(hz:l.length<=100):aJ T 60 (k+1) "turned_steps" [ssD l]=some (ssD (l.map tuS).reverse):=by
 refine cI (fd:=aV (top 48)) rfl rfl (jR (ρ:=[("steps",.sh (ssD l))]) rfl ?_)
 have e1:(l.map stD).reverse=l.reverse.map stD:=by rw[List.map_reverse]
 have e2:ssD (l.map tuS).reverse=.lst (l.reverse.map fun x=>stD (tuS x)):=by simp[ssD]
 rw[e2]
 refine cW (l:=l.reverse.map stD) rfl (e1▸VH (xs:=l.map stD) rfl (xName rfl)) (j6 (by rw[List.length_map,List.length_reverse];omega)) (jO (h:=stD) (g:=fun x=>stD (tuS x)) fun x hx=>?_)
 exact dg rfl (eY (ds:=[.str (wS (tw x.w)),.int (x.p:Int),qD x.s]) (aj (Kw (x:=twD) (y:=.str (wS x.w)) (xName rfl) (xName rfl) (KC x.w (hl x (List.mem_reverse.mp hx)))) (aj (xName rfl) (aj (xName rfl) aK))) rfl)
end M30
namespace M30
open PySem DE
def fM(n:Nat)(l:List Stp)(ro co md st ot lo li so:Sl):Rho:=[("_law_many",.sh (.int (n:Int))),("_law_steps_here",.sh (ssD l)),("_law_row",ro),("_law_column",co),("_law_made_here",md),("_law_step",st),("_law_other",ot),("_law_longer",lo),("_law_line",li),("_law_some_here",so)]
abbrev qLs(n:Nat)(F:Nat->Nat->Rat):List (List D):=Ls n fun i=>Ls n fun j=>qD (F i j)
theorem LC{n:Nat}{F:Nat->Nat->Rat}:D.lst ((qLs n F).map .lst)=llq n n F:=by
 rw[Bu]
theorem Lz{n:Nat}{F:Nat->Nat->Rat}:yF (llq n n F)=some (qLs n F):=by
 exact u9
theorem Jz{F n:Nat}{e:Expr}{y:Str}{ρ ρ':Rho}{G:Nat->Nat->Rat}(h:eF F y e=true)(q:frz F e ρ=ρ'):frz F e ((y,.oo (qLs n G))::ρ)=(y,.sh (llq n n G))::ρ':=by
 rw[<- LC (F:=G)]
 exact RK h q
abbrev aSc:Scope:=(aV (top 70)).sc
abbrev fS:Stmt:=bJ 70 1
abbrev fR:Stmt:=(bD fS).getD 2 (.Pass ⟨0,0,0,0⟩)
abbrev fC:Stmt:=(bD fR).getD 1 (.Pass ⟨0,0,0,0⟩)
section
variable {n:Nat} {l:List Stp} {M G:Nat->Nat->Rat} {D1 B1 E C:Nat}
theorem Rm(k:Nat)(h4:n<=4)(hM:Bq n n D1 B1 M)(hG:Bq n n E C G)(d0:0<D1)(e0:0<E)(hD:D1*E<=1000000000000000000)(hB:4*(B1*C)<=1000000000000000000)(b1:B1<=1000000000000000000)(c1:C<=1000000000000000000){i:Nat}(hi:i<n){md st lo co so:Sl}(cm:nOw md=true)(cs:nOw st=true)(hlo:∃ ds,lo=.ow ds)(cc:nOw co=true)(cso:nOw so=true) :
    ∃ co' so',nOw co'=true/\nOw so'=true/\cY (fF (cxN T 60 (k+2)) 60 57 aSc (gO fC) (bD fC)) (Ls n fun j=>.int (j:Int)) (fM n l (.sh (lwq n (M i))) co md st (.sh (llq n n G)) lo (.ow []) so)=some (.nxt (fM n l (.sh (lwq n (M i))) co' md st (.sh (llq n n G)) lo (.ow (Ls n fun c=>qD (mulQ n M G i c))) so')):=by
  obtain⟨dl,rfl⟩:=hlo
  have go:=gP (f:=fF (cxN T 60 (k+2)) 60 57 aSc (gO fC) (bD fC)) (h:=fun j=>.int (j:Int)) (N:=n) (P:=fun j ρ=>∃ co' so',nOw co'=true/\nOw so'=true/\ρ=fM n l (.sh (lwq n (M i))) co' md st (.sh (llq n n G)) (.ow dl) (.ow (Ls j fun c=>qD (mulQ n M G i c))) so') (fun j ρ hj hP=>by
    obtain⟨co',so',q1,q2,rfl⟩:=hP
    let u:Nat->Int:=fun a=>(M i a).num*(G a j).num
    let d:Nat->Int:=fun a=>((M i a).den:Int)*((G a j).den:Int)
    have de:0<D1*E:=Nat.mul_pos d0 e0
    have bM:∀ a,a<n->Sq (M i a):=fun a ha=>(hM i a hi ha).sq d0 (by have:=Nat.le_mul_of_pos_right D1 e0;omega) b1
    have bG:∀ a,a<n->Sq (G a j):=fun a ha=>(hG a j ha hj).sq e0 (by have:=Nat.le_mul_of_pos_left E d0;omega) c1
    have nM:∀ a,a<n->(M i a).num.natAbs<=B1/\(M i a).den<=D1:=fun a ha=>(hM i a hi ha).num d0
    have nG:∀ a,a<n->(G a j).num.natAbs<=C/\(G a j).den<=E:=fun a ha=>(hG a j ha hj).num e0
    have eq:∀ a,qo (u a) (d a)=M i a*G a j:=fun a=>Al
    have es:∀ m,(bF m fun a=>qo (u a) (d a))=bF m fun a=>M i a*G a j:=fun m=>congrArg (bF m) (funext eq)
    have ls:=Eb k (n:=n) (u:=u) (d:=d) (fun a _=>Int.mul_ne_zero (wk _) (wk _)) (fun a ha=>by
      have x1:=nM a ha
      have x2:=nG a ha
      constructor
      · show((M i a).num*(G a j).num).natAbs<=_
        rw[Int.natAbs_mul]
        exact Nat.le_trans (Nat.mul_le_mul x1.1 x2.1) (by omega)
      · show(((M i a).den:Int)*((G a j).den:Int)).natAbs<=_
        rw[Int.natAbs_mul]
        exact Nat.le_trans (Nat.mul_le_mul x1.2 x2.2) hD) (fun a ha=>by
      rw[es]
      exact(qy (n:=a) fun q hq=>(hM i q hi (by omega)).mul (hG q j (by omega) hj)).sq de hD (Nat.le_trans (Nat.mul_le_mul_right _ (by omega:a<=4)) hB))
    rw[es] at ls
    refine⟨_,⟨.sh (.int (j:Int)),.sh (.lst (Ls n fun a=>frD (u a) (d a))),rfl,rfl,rfl⟩,?_⟩
    let R (so:Sl):Rho:=fM n l (.sh (lwq n (M i))) (.sh (.int (j:Int))) md st (.sh (llq n n G)) (.ow dl) (.ow (Ls j fun c=>qD (mulQ n M G i c))) so
    refine jE (ρ1:=R so') rfl (Jv (ρ:=R so') (ρ':=R so') (d:=.lst (Ls n fun a=>frD (u a) (d a))) (aL rfl (aL rfl (aL rfl (aL rfl (aL cm (aL cs (aL rfl (qX rfl (qX rfl (aL q2 jZ)))))))))) rfl ?_ ?_ rfl ?_)
    · refine cW rfl (wR (j:=n) rfl (xName rfl) (by omega)) (iM (by omega)) (bh (g:=fun a=>frD (u a) (d a)) fun a ha=>dg rfl ?_)
      exact eY (aj (bW (x:=.int (M i a).num) (y:=.int (G a j).num) (pZ (oW (m:=n) (h:=fun j=>qD (M i j)) (xName rfl) (xName rfl) ha rfl rfl)) (pZ (oW (m:=n) (h:=fun c=>qD (G a c)) (oW (m:=n) (h:=fun b=>lwq n (G b)) (xName rfl) (xName rfl) ha rfl rfl) (xName rfl) hj rfl rfl)) (pW (.inl (smB (bM a ha).1)))) (aj (bW (x:=.int ((M i a).den:Int)) (y:=.int ((G a j).den:Int)) (zN (oW (m:=n) (h:=fun j=>qD (M i j)) (xName rfl) (xName rfl) ha rfl rfl)) (zN (oW (m:=n) (h:=fun c=>qD (G a c)) (oW (m:=n) (h:=fun b=>lwq n (G b)) (xName rfl) (xName rfl) ha rfl rfl) (xName rfl) hj rfl rfl)) (pW (.inl (smB (bM a ha).2)))) aK)) rfl
    · rw[qe (m:=j)]
      refine yR (ρ:=R (.ow (Ls n fun a=>frD (u a) (d a)))) (ρ':=R (.sh (.lst (Ls n fun a=>frD (u a) (d a))))) (d:=qD (mulQ n M G i j)) (aL rfl (aL rfl (aL rfl (aL rfl (aL cm (aL cs (aL rfl (qX rfl (qX rfl (Jy rfl jZ)))))))))) rfl rfl rfl (j6 (by rw[cj];omega)) (aD rfl (aj (xName rfl) aK) ls) dh
    · rw[show iU (R so') "_law_some_here"=true from gn rfl (gn rfl (gn rfl (gn rfl (gn (tQ cm) (gn (tQ cs) (gn rfl (gn rfl (gn rfl (gn (tQ q2) Rb)))))))))];rfl) (ρ:=fM n l (.sh (lwq n (M i))) co md st (.sh (llq n n G)) (.ow dl) (.ow []) so) ⟨co,so,cc,cso,rfl⟩
  obtain⟨ρ',⟨co',so',q1,q2,rfl⟩,hgo⟩:=go
  exact⟨co',so',q1,q2,hgo⟩
theorem RQ{ro co md st ot lo li so:Sl}(h1:nOw ro=true)(h2:nOw co=true)(h3:nOw md=true)(h4:nOw st=true)(h5:nOw ot=true)(h6:nOw lo=true)(h7:nOw li=true)(h8:nOw so=true):dD (fM n l ro co md st ot lo li so)=true :=
 aR rfl (aR rfl (aR h1 (aR h2 (aR h3 (aR h4 (aR h5 (aR h6 (aR h7 (aR h8 rfl)))))))))
theorem Jb(k:Nat)(h4:n<=4)(hM:Bq n n D1 B1 M)(hG:Bq n n E C G)(d0:0<D1)(e0:0<E)(hD:D1*E<=1000000000000000000)(hB:4*(B1*C)<=1000000000000000000)(b1:B1<=1000000000000000000)(c1:C<=1000000000000000000){st ro co li so:Sl}(cs:nOw st=true)(c0:nOw ro=true)(cc:nOw co=true)(cl:nOw li=true)(cso:nOw so=true) :
    ∃ ro' co' li' so',nOw ro'=true/\nOw co'=true/\nOw li'=true/\nOw so'=true/\cY (fF (cxN T 60 (k+2)) 60 58 aSc (gO fR) (bD fR)) (Ls n fun i=>lwq n (M i)) (fM n l ro co (.sh (llq n n M)) st (.sh (llq n n G)) (.ow []) li so)=some (.nxt (fM n l ro' co' (.sh (llq n n M)) st (.sh (llq n n G)) (.ow (Ls n fun i=>lwq n (mulQ n M G i))) li' so')):=by
  have go:=gP (f:=fF (cxN T 60 (k+2)) 60 58 aSc (gO fR) (bD fR)) (h:=fun i=>lwq n (M i)) (N:=n) (P:=fun i ρ=>∃ ro' co' li' so',nOw ro'=true/\nOw co'=true/\nOw li'=true/\nOw so'=true/\ρ=fM n l ro' co' (.sh (llq n n M)) st (.sh (llq n n G)) (.ow (Ls i fun a=>lwq n (mulQ n M G a))) li' so') (fun i ρ hi hP=>by
    obtain⟨ro',co',li',so',q0,q1,q2,q3,rfl⟩:=hP
    let lo:Sl:=.ow (Ls i fun a=>lwq n (mulQ n M G a))
    obtain⟨co2,so2,w1,w2,hgo⟩:=Rm (l:=l) k h4 hM hG d0 e0 hD hB b1 c1 hi (md:=.sh (llq n n M)) (st:=st) (lo:=lo) (co:=co') (so:=so') rfl cs ⟨_,rfl⟩ q1 q3
    refine⟨_,⟨.sh (lwq n (M i)),co2,.sh (lwq n (mulQ n M G i)),so2,rfl,w1,rfl,w2,rfl⟩,?_⟩
    refine jE (ρ1:=fM n l (.sh (lwq n (M i))) co' (.sh (llq n n M)) st (.sh (llq n n G)) lo li' so') rfl (Jv (ρ':=fM n l (.sh (lwq n (M i))) co' (.sh (llq n n M)) st (.sh (llq n n G)) lo li' so') (d:=.lst []) (aL rfl (aL rfl (aL rfl (aL q1 (aL rfl (aL cs (aL rfl (qX rfl (aL q2 (aL q3 jZ)))))))))) rfl (oV aK rfl) ?_ rfl ?_)
    · refine jY (ρ:=fM n l (.sh (lwq n (M i))) co' (.sh (llq n n M)) st (.sh (llq n n G)) lo (.ow []) so') (ρ':=fM n l (.sh (lwq n (M i))) co' (.sh (llq n n M)) st (.sh (llq n n G)) lo (.ow []) so') (aL rfl (aL rfl (aL rfl (aL q1 (aL rfl (aL cs (aL rfl (qX rfl (qX rfl (aL q3 jZ)))))))))) (wR (j:=n) rfl (xName rfl) (by omega)) hgo ?_
      rw[qe (m:=i)]
      exact yR (ρ:=fM n l (.sh (lwq n (M i))) co2 (.sh (llq n n M)) st (.sh (llq n n G)) lo (.ow (Ls n fun c=>qD (mulQ n M G i c))) so2) (ρ':=fM n l (.sh (lwq n (M i))) co2 (.sh (llq n n M)) st (.sh (llq n n G)) lo (.sh (lwq n (mulQ n M G i))) so2) (d:=lwq n (mulQ n M G i)) (aL rfl (aL rfl (aL rfl (aL w1 (aL rfl (aL cs (aL rfl (qX rfl (Jy rfl (aL w2 jZ)))))))))) rfl rfl rfl (j6 (by rw[cj];omega)) (xName rfl) dh
    · rw[show iU (fM n l (.sh (lwq n (M i))) co' (.sh (llq n n M)) st (.sh (llq n n G)) lo li' so') "_law_line"=true from gn rfl (gn rfl (gn rfl (gn (tQ q1) (gn rfl (gn (tQ cs) (gn rfl (gn rfl (gn (tQ q2) (gn (tQ q3) Rb)))))))))];rfl) (ρ:=fM n l ro co (.sh (llq n n M)) st (.sh (llq n n G)) (.ow []) li so) ⟨ro,co,li,so,c0,cc,cl,cso,rfl⟩
  obtain⟨ρ',⟨ro',co',li',so',q0,q1,q2,q3,rfl⟩,hgo⟩:=go
  exact⟨ro',co',li',so',q0,q1,q2,q3,hgo⟩
def MdS(n:Nat)(F:Nat->Nat->Rat)(s:Sl):Prop:=s=.oo (qLs n F)\/s=.sh (llq n n F)
theorem yG(k:Nat)(h1:1<=n)(h4:n<=4)(S:Sml n E C l)(hz:l.length<=100):aJ T 60 (k+3) "_law_made" [.int (n:Int),ssD l]=some (ftq n n (mkQ n l)):=by
  have go:=jD (f:=fF (cxN T 60 (k+2)) 60 59 aSc (gO fS) (bD fS)) (g:=stD) (whole:=l) (P:=fun pre ρ=>∃ ro co md st ot lo li so,nOw ro=true/\nOw co=true/\MdS n (mkQ n pre) md/\nOw st=true/\nOw ot=true/\nOw lo=true/\nOw li=true/\nOw so=true/\ρ=fM n l ro co md st ot lo li so) (fun pre x post ρ e hP=>by
    obtain⟨ro,co,md,st,ot,lo,li,so,q1,q2,hm,q3,q4,q5,q6,q7,rfl⟩:=hP
    have ok:=S.ok x (by rw[<- e];simp)
    obtain⟨b1,b2,b3⟩:=S.bnd e
    have lt:aJ T 60 (k+2) "_law_step_table" [.int (n:Int),stD x]=some (llq n n (stQ x)):=IV (k+1) n (by omega) x.w (yx ok.pl) x.p (by have:=uV ok.pl;omega) ok.pl
    obtain⟨ro',co',li',so',w0,w1,w2,w3,hgo⟩:=Jb (l:=l) k h4 (M:=mkQ n pre) (G:=stQ x) (Kg h4 fun y hy=>S.bq y (by rw[<- e];simp[hy])) (S.bq x (by rw[<- e];simp)) (Nat.pow_pos S.e0) S.e0 b1 b2 b3 S.cc (st:=.sh (stD x)) (ro:=ro) (co:=co) (li:=li) (so:=so) rfl q1 q2 q6 q7
    rw[show(fun i=>lwq n (mulQ n (mkQ n pre) (stQ x) i))=fun i=>lwq n (mkQ n (pre++[x]) i) by rw[dX]] at hgo
    refine⟨_,⟨ro',co',.sh (llq n n (mkQ n (pre++[x]))),.sh (stD x),.sh (llq n n (stQ x)),.sh (llq n n (mkQ n (pre++[x]))),li',so',w0,w1,.inr rfl,rfl,rfl,rfl,w2,w3,rfl⟩,?_⟩
    have rest:∀ {lo:Sl},blk (cxN T 60 (k+2)) 60 59 aSc ((bD fS).drop 2) (fM n l ro co (.sh (llq n n (mkQ n pre))) (.sh (stD x)) (.sh (llq n n (stQ x))) (.ow []) li so)=some (.nxt (fM n l ro' co' (.sh (llq n n (mkQ n (pre++[x])))) (.sh (stD x)) (.sh (llq n n (stQ x))) (.sh (llq n n (mkQ n (pre++[x])))) li' so')):=fun {_}=>by
      refine jY (ρ':=fM n l ro co (.sh (llq n n (mkQ n pre))) (.sh (stD x)) (.sh (llq n n (stQ x))) (.ow []) li so) (aL rfl (aL rfl (aL q1 (aL q2 (aL rfl (aL rfl (aL rfl (qX rfl (aL q6 (aL q7 jZ)))))))))) (wSq (x:=llq n n (mkQ n pre)) rfl (xName rfl) rfl) hgo ?_
      exact gj (ρ':=fM n l ro' co' (.sh (llq n n (mkQ n pre))) (.sh (stD x)) (.sh (llq n n (stQ x))) (.sh (llq n n (mkQ n (pre++[x])))) li' so') (d:=llq n n (mkQ n (pre++[x]))) (aL rfl (aL rfl (aL w0 (aL w1 (aL rfl (aL rfl (aL rfl (Jy rfl (aL w2 (aL w3 jZ)))))))))) rfl rfl (xName rfl) dh
    rcases hm with rfl | rfl
    · let R (ot:Sl):Rho:=fM n l ro co (.oo (qLs n (mkQ n pre))) (.sh (stD x)) ot lo li so
      refine jE (ρ1:=R ot) rfl (gj (ρ':=R ot) (d:=llq n n (stQ x)) (aL rfl (aL rfl (aL q1 (aL q2 (Ep rfl (aL rfl (aL q4 (aL q5 (aL q6 (aL q7 jZ)))))))))) rfl rfl (aD rfl (aj (xName rfl) (aj (xName rfl) aK)) lt) ?_)
      have f0:frz 60 (asV ((bD fS).getD 1 (.Pass ⟨0,0,0,0⟩))) (R (.sh (llq n n (stQ x))))=R (.sh (llq n n (stQ x))):=aL rfl (aL rfl (aL q1 (aL q2 (Ep rfl (aL rfl (aL rfl (aL q5 (aL q6 (aL q7 jZ)))))))))
      have f1:frz 0 (asV ((bD fS).getD 1 (.Pass ⟨0,0,0,0⟩))) (R (.sh (llq n n (stQ x))))=fM n l ro co (.sh (llq n n (mkQ n pre))) (.sh (stD x)) (.sh (llq n n (stQ x))) lo li so:=by
        exact aL rfl (aL rfl (aL q1 (aL q2 (Jz rfl (aL rfl (aL rfl (aL q5 (aL q6 (aL q7 jZ)))))))))
      have f2:frz 60 (asV ((bD fS).getD 1 (.Pass ⟨0,0,0,0⟩))) (fM n l ro co (.sh (llq n n (mkQ n pre))) (.sh (stD x)) (.sh (llq n n (stQ x))) lo li so)=fM n l ro co (.sh (llq n n (mkQ n pre))) (.sh (stD x)) (.sh (llq n n (stQ x))) lo li so:=aL rfl (aL rfl (aL q1 (aL q2 (aL rfl (aL rfl (aL rfl (aL q5 (aL q6 (aL q7 jZ)))))))))
      refine Rx (ρ:=R (.sh (llq n n (stQ x)))) (ρ':=fM n l ro co (.sh (llq n n (mkQ n pre))) (.sh (stD x)) (.sh (llq n n (stQ x))) lo li so) (d:=.lst []) ((congrArg (frz 60 _) f1).trans f2) rfl (oV aK rfl) (rest (lo:=lo)) rfl ?_ (gn rfl (gn rfl (gn (tQ q1) (gn (tQ q2) (gn rfl (gn rfl (gn rfl (gn (tQ q5) (gn (tQ q6) (gn (tQ q7) Rb))))))))))
      have g:iU (frz 60 (asV ((bD fS).getD 1 (.Pass ⟨0,0,0,0⟩))) (R (.sh (llq n n (stQ x))))) "_law_longer"=false:=by
        rw[f0]
        exact Kf (Kf (Kf (Kf (Wt (by decide)))))
      exact congrArg (fun b=>(true && !b)) g
    · let R (ot:Sl):Rho:=fM n l ro co (.sh (llq n n (mkQ n pre))) (.sh (stD x)) ot lo li so
      have cR:∀ ot,nOw ot=true->dD (R ot)=true:=fun ot h=>RQ q1 q2 rfl rfl h q5 q6 q7
      refine jE (ρ1:=R ot) rfl (gU (cR ot q4) rfl rfl (aD rfl (aj (xName rfl) (aj (xName rfl) aK)) lt) ?_)
      exact Ko (ρ:=R (.sh (llq n n (stQ x)))) (d:=.lst []) (cR _ rfl) rfl (oV aK rfl) (rest (lo:=lo))) (l:=l) (pre:=[]) (ρ:=fM n l .no .no (.oo (qLs n idQ)) .no .no .no .no .no) rfl ⟨.no,.no,_,.no,.no,.no,.no,.no,rfl,rfl,.inl rfl,rfl,rfl,rfl,rfl,rfl,rfl⟩
  obtain⟨ρ',⟨ro,co,md,st,ot,lo,li,so,q1,q2,hm,q3,q4,q5,q6,q7,rfl⟩,hgo⟩:=go
  refine cI (fd:=aV (top 70)) rfl rfl (Ju (ρ':=fM n l .no .no .no .no .no .no .no .no) (d:=llq n n idQ) (dss:=qLs n idQ) rfl rfl ?_ Lz rfl ?_)
  · refine cW rfl (wR (j:=n) rfl (xName rfl) (by omega)) (iM (by omega)) (bh (g:=fun i=>lwq n (idQ i)) fun i hi=>dg rfl ?_)
    refine cW rfl (wR (j:=n) rfl (xName rfl) (by omega)) (iM (by omega)) (bh (g:=fun j=>qD (idQ i j)) fun j hj=>dg rfl ?_)
    by_cases q:i=j
    · have e:qD (idQ i j)=frD 1 1:=by unfold idQ;rw[if_pos q];rfl
      rw[e]
      exact eY (aj (dG (ds:=[.bl true]) rfl rfl rfl (aj (bC (x:=.int (i:Int)) (y:=.int (j:Int)) (xName rfl) (xName rfl) (Gh (by omega))) aK) rfl) (aj (ak rfl) aK)) rfl
    · have e:qD (idQ i j)=frD 0 1:=by unfold idQ;rw[if_neg q];rfl
      rw[e]
      exact eY (aj (dG (ds:=[.bl false]) rfl rfl rfl (aj (bC (x:=.int (i:Int)) (y:=.int (j:Int)) (xName rfl) (xName rfl) (Gi (by omega))) aK) rfl) (aj (ak rfl) aK)) rfl
  · refine jY (ρ:=fM n l .no .no (.oo (qLs n idQ)) .no .no .no .no .no) (ρ':=fM n l .no .no (.oo (qLs n idQ)) .no .no .no .no .no) (aL rfl (aL rfl (aL rfl (aL rfl (Ep rfl (aL rfl (aL rfl (aL rfl (aL rfl (aL rfl jZ)))))))))) (wSq (x:=ssD l) rfl (xName rfl) rfl) hgo ?_
    refine Jw (ρ':=fM n l ro co (.sh (llq n n (mkQ n l))) st ot lo li so) ?_ ?_
    · rcases hm with rfl | rfl
      · exact aL rfl (aL rfl (aL q1 (aL q2 (Jz rfl (aL q3 (aL q4 (aL q5 (aL q6 (aL q7 jZ)))))))))
      · exact aL rfl (aL rfl (aL q1 (aL q2 (aL rfl (aL q3 (aL q4 (aL q5 (aL q6 (aL q7 jZ)))))))))
    · refine dG rfl rfl rfl (aj (cW rfl (wSq (x:=llq n n (mkQ n l)) rfl (xName rfl) rfl) (iM (by omega)) (bh (g:=fun i=>rwq n (mkQ n l i)) fun i hi=>dg rfl ?_)) aK) Bp
      exact dG rfl rfl rfl (aj (x:=lwq n (mkQ n l i)) (xName rfl) aK) Bp
end
end M30
namespace M30
open PySem DE
def shF:Nat->D
 | 0=>frD 0 1
 | 1=>frD 1 1
 | 2=>frD 2 1
 | 3=>frD 3 1
 | 4=>frD 1 2
 | 5=>frD 3 2
 | 6=>frD 2 3
 | _=>frD 5 1
theorem share(k:Nat)(ns:List Int)(a:Nat):aJ T 60 (k+3) "_law_share" [scr ns,.int (a:Int)]=some (shF (pickN ns a 8)):=by
 have h:=bN (ns:=ns) (k:=a) (many:=8) (by omega)
 have pk:=pick k ns a (many:=8) (by omega)
 generalize pickN ns a 8=p at h pk
 refine cI (fd:=aV (top 65)) rfl rfl (jR (ρ:=[("_law_script",.sh (scr ns)),("_law_at",.sh (.int (a:Int)))]) rfl (xIx (x:=.lst [frD 0 1,frD 1 1,frD 2 1,frD 3 1,frD 1 2,frD 3 2,frD 2 3,frD 5 1]) (i:=(p:Int)) ?_ (aD rfl (aj (x:=scr ns) (xName rfl) (aj (xName rfl) (aj (ak rfl) aK))) pk) rfl ?_))
 ·rfl
 ·match p,h with
  | 0,_=>rfl
  | 1,_=>rfl
  | 2,_=>rfl
  | 3,_=>rfl
  | 4,_=>rfl
  | 5,_=>rfl
  | 6,_=>rfl
  | 7,_=>rfl
def shN:Nat->Nat
 | 0=>0
 | 1=>6
 | 2=>12
 | 3=>18
 | 4=>3
 | 5=>9
 | 6=>4
 | _=>30
def shQ(p:Nat):Rat:=(shN p:Rat) / 6
def scQ(p:Nat):Rat:=if p=0 then 4 else shQ p
theorem La:∀ p,p<8->shN p<=30:=by decide
theorem K8{p:Nat}(h:p<8):qD (shQ p)=shF p:=by
 match p,h with
 | 0,_=>kernel_rfl
 | 1,_=>kernel_rfl
 | 2,_=>kernel_rfl
 | 3,_=>kernel_rfl
 | 4,_=>kernel_rfl
 | 5,_=>kernel_rfl
 | 6,_=>kernel_rfl
 | 7,_=>kernel_rfl
theorem uG{p:Nat}(h:p<8):0<=shQ p/\0<scQ p:=by
 match p,h with
 | 0,_=>decide +kernel
 | 1,_=>decide +kernel
 | 2,_=>decide +kernel
 | 3,_=>decide +kernel
 | 4,_=>decide +kernel
 | 5,_=>decide +kernel
 | 6,_=>decide +kernel
 | 7,_=>decide +kernel
theorem Hr{p:Nat}(h:p<8):Qb 6 30 (shQ p):=⟨(shN p:Int),by
  show shQ p*(6:Rat)=((shN p:Nat):Rat)
  unfold shQ;grind,by have:=La p h;omega⟩
theorem Ld{p:Nat}(h:p<8):Qb 6 30 (scQ p):=by
 unfold scQ
 split
 ·exact⟨24,by decide +kernel,by decide⟩
 ·exact Hr h
def J4:Nat->Nat
 | 0=>0
 | 1=>1
 | 2=>0
 | 3=>1
 | _=>2
theorem Bx(p:Nat):J4 p<3:=by unfold J4;split<;>omega
def wV(ns:List Int)(n b:Nat):Nat:=if 1<n then J4 (pickN ns b 5) else 2
def stV(ns:List Int)(at' n k:Nat):Stp:=⟨wV ns n (at'+1+4*k),if wV ns n (at'+1+4*k)=2 then pickN ns (at'+1+4*k+2) n else pickN ns (at'+1+4*k+2) (n-1),if wV ns n (at'+1+4*k)=2 then scQ (pickN ns (at'+1+4*k+1) 8) else shQ (pickN ns (at'+1+4*k+1) 8)⟩
def G8(ns:List Int)(at' n m:Nat):List Stp:=(List.range m).map (stV ns at' n)
theorem GJ{ns:List Int}{n b:Nat}:wV ns n b<3:=by
 unfold wV
 split
 ·exact Bx _
 ·omega
theorem zR{ns:List Int}{at' n k:Nat}(h1:1<=n):okS n (stV ns at' n k)/\Bq n n 6 30 (stQ (stV ns at' n k)):=by
 have hp:=bN (ns:=ns) (k:=at'+1+4*k+1) (many:=8) (by omega)
 have hw:=GJ (ns:=ns) (n:=n) (b:=at'+1+4*k)
 have qb:Qb 6 30 (stV ns at' n k).s:=by
  show Qb 6 30 (if wV ns n (at'+1+4*k)=2 then _ else _)
  split
  ·exact Ld hp
  ·exact Hr hp
 have pl:okP n (stV ns at' n k).w (stV ns at' n k).p=true:=by
  show okP n (wV ns n (at'+1+4*k)) (if wV ns n (at'+1+4*k)=2 then _ else _)=true
  by_cases q:wV ns n (at'+1+4*k)=2
  ·rw[if_pos q,q]
   have:=bN (ns:=ns) (k:=at'+1+4*k+2) (many:=n) (by omega)
   simp[okP];exact this
  ·rw[if_neg q]
   have n1:1<n:=by
    unfold wV at q
    by_cases z:1<n
    ·exact z
    ·rw[if_neg z] at q;exact absurd rfl q
   have:=bN (ns:=ns) (k:=at'+1+4*k+2) (many:=n-1) (by omega)
   generalize wV ns n (at'+1+4*k)=w at hw q
   match w,hw with
   | 0,_=>simp[okP];omega
   | 1,_=>simp[okP];omega
   | 2,_=>exact absurd rfl q
 refine⟨⟨pl,?_,fun hq=>?_,qb.sq (by decide) (by decide) (by decide)⟩,fun i j _ _=>?_⟩
 ·show 0<=(if wV ns n (at'+1+4*k)=2 then _ else _)
  split
  ·exact Rat.le_of_lt (uG hp).2
  ·exact(uG hp).1
 ·have hq:wV ns n (at'+1+4*k)=2:=hq
  show 0<(if wV ns n (at'+1+4*k)=2 then _ else _)
  rw[if_pos hq]
  exact(uG hp).2
 ·have i0:Qb 6 30 (idQ i j):=by
   unfold idQ
   split
   ·exact Qb.one.up (by decide)
   ·exact Qb.zero.up (Nat.zero_le _)
  unfold stQ
  split
  ·split
   ·exact qb
   ·exact i0
  ·exact i0
theorem DW{ns:List Int}{at' n m:Nat}{x:Stp}(h:x∈G8 ns at' n m):∃ k,x=stV ns at' n k:=by
 obtain⟨k,_,rfl⟩:=List.mem_map.mp h
 exact⟨k,rfl⟩
theorem Ho{n:Nat}{l:List Stp}(h1:1<=n)(hl:l.length<=7)(h:∀ x∈l,∃ ns at' k,x=stV ns at' n k):Sml n 6 30 l:=by
 refine⟨fun x hx=>?_,fun x hx=>?_,by decide,Nat.le_trans (Nat.pow_le_pow_right (by decide) hl) (by decide),Nat.le_trans (Nat.pow_le_pow_right (by decide) hl) (by decide),by decide,by decide⟩
 ·obtain⟨ns,a,k,rfl⟩:=h x hx;exact(zR h1).1
 ·obtain⟨ns,a,k,rfl⟩:=h x hx;exact(zR h1).2
theorem Rz{cx:Cxt}{sc:Scope}{ρ ρ' ρ2:Rho}{p:Pos}{F m:Nat}{r A B:List Stmt}{c:Expr}{fl:Fl}(hf:frz F c ρ=ρ')(h:ev cx F sc ρ' c=some (.bl false))(k:blk cx F m sc B ρ'=some (.nxt ρ2))(k2:blk cx F (m+1) sc r ρ2=some fl):blk cx F (m+1) sc (.If c A B p::r) ρ=some fl:=by
 subst hf
 exact Ry h k k2
def ig(ns:List Int)(a n m:Nat)(md k b w s:Sl):Rho:=[("_law_script",.sh (scr ns)),("_law_at",.sh (.int (a:Int))),("_law_many",.sh (.int (n:Int))),("_law_most",.sh (.int (m:Int))),("_law_made_here",md),("_law_k",k),("_law_base",b),("_law_word_here",w),("_law_share_here",s)]
theorem eqS{w:Nat}(h:w<3):cmpop .Eq (.str (wS w)) (.str "scale")=some (.bl (decide (w=2))):=by
 match w,h with
 | 0,_=>kernel_rfl
 | 1,_=>kernel_rfl
 | 2,_=>kernel_rfl
theorem gt0{p:Nat}(h:p<8):cmpop .Gt (.int (shQ p).num) (.int 0)=some (.bl (decide (p≠0))):=by
 match p,h with
 | 0,_=>kernel_rfl
 | 1,_=>kernel_rfl
 | 2,_=>kernel_rfl
 | 3,_=>kernel_rfl
 | 4,_=>kernel_rfl
 | 5,_=>kernel_rfl
 | 6,_=>kernel_rfl
 | 7,_=>kernel_rfl
abbrev sSc:Scope:=(aV (top 66)).sc
abbrev sF:Stmt:=bJ 66 1
theorem vm(k:Nat)(ns:List Int)(a:Nat){n mo:Nat}(h1:1<=n)(h4:n<=4)(hmo:mo<=100):aJ T 60 (k+4) "_law_steps" [scr ns,.int (a:Int),.int (n:Int),.int (mo:Int)]=some (ssD (G8 ns a n (pickN ns a (mo+1)))):=by
  have hm:=bN (ns:=ns) (k:=a) (many:=mo+1) (by omega)
  have pk:=pick (k+1) ns a (many:=mo+1) (by omega)
  generalize pickN ns a (mo+1)=m at hm pk
  obtain⟨ρ',⟨kk,b,w,s,c1,c2,c3,c4,rfl⟩,hgo⟩:=gP (f:=fF (cxN T 60 (k+3)) 60 59 sSc (gO sF) (bD sF)) (h:=fun i=>.int (i:Int)) (N:=m) (P:=fun i ρ=>∃ kk b w s,nOw kk=true/\nOw b=true/\nOw w=true/\nOw s=true/\ρ=ig ns a n mo (.ow (Ls i fun j=>stD (stV ns a n j))) kk b w s) (fun i ρ hi hP=>by
    obtain⟨kk,b,w,s,q1,q2,q3,q4,rfl⟩:=hP
    let bb:Nat:=a+1+4*i
    let md:Sl:=.ow (Ls i fun j=>stD (stV ns a n j))
    have hp:=bN (ns:=ns) (k:=bb+1) (many:=8) (by omega)
    have sh:=share k ns (bb+1)
    rw[<- K8 hp] at sh
    refine⟨_,⟨.sh (.int (i:Int)),.sh (.int (bb:Nat)),.sh (.str (wS (wV ns n bb))),.sh (qD (shQ (pickN ns (bb+1) 8))),rfl,rfl,rfl,rfl,rfl⟩,?_⟩
    rw[qe (m:=i)]
    refine jE (ρ1:=ig ns a n mo md (.sh (.int (i:Int))) b w s) rfl (gj (ρ':=ig ns a n mo md (.sh (.int (i:Int))) b w s) (d:=.int (bb:Nat)) (aL rfl (aL rfl (aL rfl (aL rfl (qX rfl (aL rfl (aL q2 (aL q3 (aL q4 jZ))))))))) rfl rfl (oO (bW (x:=.int ((a:Int)+1)) (y:=.int (4*(i:Int))) (bW (x:=.int (a:Int)) (y:=.int 1) (xName rfl) (ak rfl) rfl) (bW (x:=.int 4) (y:=.int (i:Int)) (ak rfl) (xName rfl) (pW (.inl rfl))) rfl) (congrArg D.int (by show(a:Int)+1+4*i=((a+1+4*i:Nat):Int);omega))) ?_)
    refine gj (ρ':=ig ns a n mo md (.sh (.int (i:Int))) (.sh (.int (bb:Nat))) w s) (d:=.str (wS (wV ns n bb))) (aL rfl (aL rfl (aL rfl (aL rfl (qX rfl (aL rfl (aL rfl (aL q3 (aL q4 jZ))))))))) rfl rfl ?_ ?_
    · by_cases z:1<n
      · have h5:=bN (ns:=ns) (k:=bb) (many:=5) (by omega)
        have p5:=pick (k+1) ns bb (many:=5) (by omega)
        have e:wV ns n bb=J4 (pickN ns bb 5):=if_pos z
        rw[e]
        generalize pickN ns bb 5=y at h5 p5
        refine Gx (bC (x:=.int (n:Int)) (y:=.int 1) (xName rfl) (ak rfl) (by rw[oGt,decide_eq_true (by omega)])) (xIx (x:=.lst [.str "up",.str "down",.str "up",.str "down",.str "scale"]) (i:=(y:Int)) rfl (aD rfl (aj (x:=scr ns) (xName rfl) (aj (xName rfl) (aj (ak rfl) aK))) p5) rfl ?_)
        match y,h5 with
        | 0,_=>rfl
        | 1,_=>rfl
        | 2,_=>rfl
        | 3,_=>rfl
        | 4,_=>rfl
      · have e:wV ns n bb=2:=if_neg z
        rw[e]
        exact Gz (bC (x:=.int (n:Int)) (y:=.int 1) (xName rfl) (ak rfl) (by rw[oGt,decide_eq_false (by omega)])) (ak rfl)
    refine gj (ρ':=ig ns a n mo md (.sh (.int (i:Int))) (.sh (.int (bb:Nat))) (.sh (.str (wS (wV ns n bb)))) s) (d:=qD (shQ (pickN ns (bb+1) 8))) (aL rfl (aL rfl (aL rfl (aL rfl (qX rfl (aL rfl (aL rfl (aL rfl (aL q4 jZ))))))))) rfl rfl (aD rfl (aj (x:=scr ns) (xName rfl) (aj (x:=.int ((bb+1:Nat):Int)) (bW (x:=.int (bb:Nat)) (y:=.int 1) (xName rfl) (ak rfl) rfl) aK)) sh) ?_
    let R:Rho:=ig ns a n mo md (.sh (.int (i:Int))) (.sh (.int (bb:Nat))) (.sh (.str (wS (wV ns n bb)))) (.sh (qD (shQ (pickN ns (bb+1) 8))))
    have fz:∀ e,eF 60 "_law_made_here" e=false->frz 60 e R=R:=fun e he=>aL rfl (aL rfl (aL rfl (aL rfl (qX he (aL rfl (aL rfl (aL rfl (aL rfl jZ))))))))
    have cnd:=eqS (GJ (ns:=ns) (n:=n) (b:=bb))
    by_cases q:wV ns n bb=2
    · have sd:stD (stV ns a n i)=.tup [.str (wS (wV ns n bb)),.int (pickN ns (bb+2) n:Nat),qD (scQ (pickN ns (bb+1) 8))]:=by
        show D.tup [.str (wS (wV ns n bb)),.int (((if wV ns n bb=2 then _ else _):Nat):Int),qD (if wV ns n bb=2 then _ else _)]=_
        rw[if_pos q,if_pos q]
      rw[sd]
      refine Jx (ρ:=R) (ρ':=R) (ρ2:=ig ns a n mo (.ow ((Ls i fun j=>stD (stV ns a n j))++[.tup [.str (wS (wV ns n bb)),.int (pickN ns (bb+2) n:Nat),qD (scQ (pickN ns (bb+1) 8))]])) (.sh (.int (i:Int))) (.sh (.int (bb:Nat))) (.sh (.str (wS (wV ns n bb)))) (.sh (qD (shQ (pickN ns (bb+1) 8))))) (fz _ rfl) (bC (x:=.str (wS (wV ns n bb))) (y:=.str "scale") (xName rfl) (ak rfl) (by rw[cnd,decide_eq_true q])) ?_ dh
      refine yR (ρ:=R) (ρ':=R) (fz _ rfl) rfl rfl rfl (j6 (by rw[cj];omega)) (eY (aj (xName rfl) (aj (aD rfl (aj (x:=scr ns) (xName rfl) (aj (x:=.int ((bb+2:Nat):Int)) (bW (x:=.int (bb:Nat)) (y:=.int 2) (xName rfl) (ak rfl) rfl) (aj (xName rfl) aK))) (pick (k+1) ns (bb+2) (many:=n) (by omega))) (aj ?_ aK))) rfl) dh
      have g:=gt0 hp
      by_cases z:pickN ns (bb+1) 8=0
      · rw[show scQ (pickN ns (bb+1) 8)=4 from if_pos z]
        exact Gz (bC (x:=.int (shQ (pickN ns (bb+1) 8)).num) (y:=.int 0) (pZ (xName rfl)) (ak rfl) (by rw[g,decide_eq_false (by omega)])) (eY (aj (ak rfl) (aj (ak rfl) aK)) rfl)
      · rw[show scQ (pickN ns (bb+1) 8)=shQ (pickN ns (bb+1) 8) from if_neg z]
        exact Gx (bC (x:=.int (shQ (pickN ns (bb+1) 8)).num) (y:=.int 0) (pZ (xName rfl)) (ak rfl) (by rw[g,decide_eq_true z])) (xName rfl)
    · have n1:1<n:=by
        unfold wV at q
        by_cases z:1<n
        · exact z
        · rw[if_neg z] at q;exact absurd rfl q
      have sd:stD (stV ns a n i)=.tup [.str (wS (wV ns n bb)),.int (pickN ns (bb+2) (n-1):Nat),qD (shQ (pickN ns (bb+1) 8))]:=by
        show D.tup [.str (wS (wV ns n bb)),.int (((if wV ns n bb=2 then _ else _):Nat):Int),qD (if wV ns n bb=2 then _ else _)]=_
        rw[if_neg q,if_neg q]
      rw[sd]
      refine Rz (ρ:=R) (ρ':=R) (ρ2:=ig ns a n mo (.ow ((Ls i fun j=>stD (stV ns a n j))++[.tup [.str (wS (wV ns n bb)),.int (pickN ns (bb+2) (n-1):Nat),qD (shQ (pickN ns (bb+1) 8))]])) (.sh (.int (i:Int))) (.sh (.int (bb:Nat))) (.sh (.str (wS (wV ns n bb)))) (.sh (qD (shQ (pickN ns (bb+1) 8))))) (fz _ rfl) (bC (x:=.str (wS (wV ns n bb))) (y:=.str "scale") (xName rfl) (ak rfl) (by rw[cnd,decide_eq_false q])) ?_ dh
      exact yR (ρ:=R) (ρ':=R) (fz _ rfl) rfl rfl rfl (j6 (by rw[cj];omega)) (eY (aj (xName rfl) (aj (aD rfl (aj (x:=scr ns) (xName rfl) (aj (x:=.int ((bb+2:Nat):Int)) (bW (x:=.int (bb:Nat)) (y:=.int 2) (xName rfl) (ak rfl) rfl) (aj (x:=.int ((n-1:Nat):Int)) (oO (bW (x:=.int (n:Int)) (y:=.int 1) (xName rfl) (ak rfl) rfl) (congrArg D.int (by omega))) aK))) (pick (k+1) ns (bb+2) (many:=n-1) (by omega))) (aj (xName rfl) aK))) rfl) dh) (ρ:=ig ns a n mo (.ow []) .no .no .no .no) ⟨.no,.no,.no,.no,rfl,rfl,rfl,rfl,rfl⟩
  refine cI (fd:=aV (top 66)) rfl rfl (Ko (ρ:=ig ns a n mo .no .no .no .no .no) (d:=.lst []) rfl rfl (oV aK rfl) ?_)
  refine jY (ρ:=ig ns a n mo (.ow []) .no .no .no .no) (ρ':=ig ns a n mo (.ow []) .no .no .no .no) rfl (wR (j:=m) rfl (aD rfl (aj (x:=scr ns) (xName rfl) (aj (xName rfl) (aj (x:=.int ((mo+1:Nat):Int)) (bW (x:=.int (mo:Int)) (y:=.int 1) (xName rfl) (ak rfl) rfl) aK))) pk) (by omega)) hgo ?_
  refine Jw (ρ':=ig ns a n mo (.sh (ssD (G8 ns a n m))) kk b w s) ?_ (xName rfl)
  have e:ssD (G8 ns a n m)=.lst (Ls m fun j=>stD (stV ns a n j)):=by
    show D.lst (((List.range m).map (stV ns a n)).map stD)=_
    rw[List.map_map];rfl
  rw[e]
  exact aL rfl (aL rfl (aL rfl (aL rfl (Jy rfl (aL c1 (aL c2 (aL c3 (aL c4 jZ))))))))
end M30
namespace M30
open PySem DE
theorem Er{n:Nat}{F G:Nat->Nat->Rat}(h:∀ i j,i<n->j<n->F i j=G i j):ftq n n F=ftq n n G:=by
 show D.tup ((List.range n).map fun i=>D.tup ((List.range n).map fun j=>qD (F i j)))=D.tup ((List.range n).map fun i=>D.tup ((List.range n).map fun j=>qD (G i j)))
 congr 1
 refine List.map_congr_left fun i hi=>?_
 congr 1
 refine List.map_congr_left fun j hj=>?_
 rw[h i j (List.mem_range.mp hi) (List.mem_range.mp hj)]
theorem Sml.sub{n E C:Nat}{l l':List Stp}(S:Sml n E C l)(h:∀ x∈l',x∈l)(hl:l'.length<=l.length):Sml n E C l' :=
 ⟨fun x hx=>S.ok x (h x hx),fun x hx=>S.bq x (h x hx),S.e0,Nat.le_trans (ni S.e0 hl) S.h1,Nat.le_trans (ni (by have:=S.c1;omega) hl) S.h2,S.c1,S.cc⟩
theorem Mi{n:Nat}{x:Stp}(h:okS n x):okS n (tuS x):=by
 obtain⟨h1,h2,h3,h4⟩:=h
 obtain⟨w,p,s⟩:=x
 match w,h1 with
 | 0,h1=>exact⟨h1,h2,(fun e=>nomatch e),h4⟩
 | 1,h1=>exact⟨h1,h2,(fun e=>nomatch e),h4⟩
 | 2,h1=>exact⟨h1,h2,fun _=>h3 rfl,h4⟩
 | w+3,h1=>simp[okP] at h1
theorem Mj{n:Nat}{x:Stp}(h:okS n x):okS n (flS n x):=by
  obtain⟨h1,h2,h3,h4⟩:=h
  obtain⟨w,p,s⟩:=x
  match w,h1 with
  | 0, h1 =>
    have ok':p+1<n:=by simpa[okP] using h1
    refine⟨?_,h2,(fun e=>nomatch e),h4⟩
    show decide (n-2-p+1<n)=true
    exact decide_eq_true (by omega)
  | 1, h1 =>
    have ok':p+1<n:=by simpa[okP] using h1
    refine⟨?_,h2,(fun e=>nomatch e),h4⟩
    show decide (n-2-p+1<n)=true
    exact decide_eq_true (by omega)
  | 2, h1 =>
    have ok':p<n:=by simpa[okP] using h1
    refine⟨?_,h2,fun _=>h3 rfl,h4⟩
    show decide (n-1-p<n)=true
    exact decide_eq_true (by omega)
  | w+3,h1=>simp[okP] at h1
theorem Sml.tu{n E C:Nat}{l:List Stp}(S:Sml n E C l):Sml n E C (l.map tuS).reverse:=by
 refine⟨fun y hy=>?_,fun y hy=>?_,S.e0,by simpa using S.h1,by simpa using S.h2,S.c1,S.cc⟩
 ·obtain⟨x,hx,rfl⟩:=List.mem_map.mp (List.mem_reverse.mp hy)
  exact Mi (S.ok x hx)
 ·obtain⟨x,hx,rfl⟩:=List.mem_map.mp (List.mem_reverse.mp hy)
  intro i j hi hj
  rw[Hf]
  exact S.bq x hx j i hj hi
theorem Sml.fl{n E C:Nat}{l:List Stp}(S:Sml n E C l):Sml n E C (l.map (flS n)):=by
 refine⟨fun y hy=>?_,fun y hy=>?_,S.e0,by simpa using S.h1,by simpa using S.h2,S.c1,S.cc⟩
 ·obtain⟨x,hx,rfl⟩:=List.mem_map.mp hy
  exact Mj (S.ok x hx)
 ·obtain⟨x,hx,rfl⟩:=List.mem_map.mp hy
  intro i j hi hj
  rw[Hl (S.ok x hx).pl hi hj]
  exact S.bq x hx _ _ (by omega) (by omega)
theorem JT{us:List D}{c:Nat}(h:c<=us.length):tD us none (some (c:Int))=us.take c:=by
 unfold tD
 simp only[tO,List.drop_zero,Nat.sub_zero]
 rw[if_neg (by omega),show((c:Int).toNat)=c by omega,Nat.min_eq_left h]
theorem zE{us:List D}{c:Nat}(h:c<=us.length):tD us (some (c:Int)) none=us.drop c:=by
 unfold tD
 simp only[tO]
 rw[if_neg (by omega),show((c:Int).toNat)=c by omega,Nat.min_eq_left h]
 exact List.take_of_length_le (by rw[List.length_drop];omega)
section
variable {cx:Cxt} {N:Nat} {sc:Scope} {ρ:Rho} {a b c:Expr} {p q:Pos}
theorem R9{l:List Stp}{j:Nat}(h1:ev cx N sc ρ a=some (ssD l))(h2:ev cx N sc ρ b=some (.int (j:Int)))(h:j<=l.length):ev cx (N+1) sc ρ (.Subscript a (.Slice none (some b) none q) p)=some (ssD (l.take j)):=by
 refine oO (R3 (l:=none) (u:=some (j:Int)) h1 Ip (Io h2)) ?_
 rw[JT (by rw[List.length_map];exact h),<- List.map_take]
theorem zT{l:List Stp}{j:Nat}(h1:ev cx N sc ρ a=some (ssD l))(h2:ev cx N sc ρ b=some (.int (j:Int)))(h:j<=l.length):ev cx (N+1) sc ρ (.Subscript a (.Slice (some b) none none q) p)=some (ssD (l.drop j)):=by
 refine oO (R3 (l:=some (j:Int)) (u:=none) h1 (Io h2) Ip) ?_
 rw[zE (by rw[List.length_map];exact h),<- List.map_drop]
theorem R4{us:List D}(h1:ev cx N sc ρ a=some (.tup us))(h2:ev cx N sc ρ c=some (.int (-1))):ev cx (N+1) sc ρ (.Subscript a (.Slice none none (some c) q) p)=some (.tup us.reverse):=by
 show(ev cx N sc ρ a >>=fun x=>J9 x none none ((ev cx N sc ρ c).bind asI))=_
 rw[h1,h2];rfl
theorem RG{F m:Nat}{px ap cp:Pos}{e:Expr}{ρ':Rho}{r:List Stmt}{fl:Fl}{nm M:Str}{ds zs:List D}(hf:frz F e ρ=ρ')(hx:ρ'.lookup nm=some (.ow ds))(ho:(ownIn sc nm&&aA nm&&ap.endLine==cp.line)=true)(hM:(M=="append")=false)(hM2:(M=="extend")=true)(hz:szl (ds.length+zs.length)=true)(h:ev cx F sc ρ' e=some (.lst zs))(k:blk cx F (m+1) sc r (cC ρ' nm (.ow (ds++zs)))=some fl) :
  blk cx F (m+1) sc (.Expr (.Call (.Attribute (.Name nm px) M ap) [e] [] cp) p::r) ρ=some fl:=by
 subst hf
 exact WT hx ho hM hM2 hz h k
end
theorem jN{f:D->Option (Option D)}:∀ {l:List D},(∀ x∈l,f x=some none)->bK f l=some []
  | [],_=>rfl
  | x :: l, h => by
    simp only[bK,h x List.mem_cons_self]
    exact jN fun y hy=>h y (List.mem_cons_of_mem _ hy)
abbrev lSc:Scope:=(aV (top 74)).sc
abbrev bdy(i:Nat):List Stmt:=(aV (top 74)).body.drop i
abbrev nI(n:Nat):Sl:=.sh (.int (n:Int))
def J8(ns:List Int)(m s md st cu tu k th od pl so:Sl):Rho:=[("_law_script",.sh (scr ns)),("_law_many",m),("_law_steps_here",s),("_law_made_here",md),("_law_step",st),("_law_cut",cu),("_law_turned_one",tu),("_law_k",k),("_law_thing",th),("_law_odd",od),("_law_place",pl),("_law_some_here",so)]
abbrev S9(ns:List Int)(n:Nat)(l:List Stp)(st cu tu k th od pl so:Sl):Rho:=J8 ns (nI n) (.sh (ssD l)) (.sh (ftq n n (mkQ n l))) st cu tu k th od pl so
section
variable {ns:List Int} {n:Nat} {l:List Stp} {st cu tu k th od pl so:Sl}
theorem j4(h1:nOw st=true)(h2:nOw cu=true)(h3:nOw tu=true)(h4:nOw k=true)(h5:nOw th=true)(h6:nOw od=true)(h7:nOw pl=true)(h8:nOw so=true):dD (S9 ns n l st cu tu k th od pl so)=true :=
 aR rfl (aR rfl (aR rfl (aR rfl (aR h1 (aR h2 (aR h3 (aR h4 (aR h5 (aR h6 (aR h7 (aR h8 rfl)))))))))))
theorem Vr(k:Nat){n:Int}(h:within 1 4 (.int n)=false):aJ T 60 (k+9) "_law_do" [.int 0,.int n,.lst []]=some (.str "no step"):=Vy (k+7) (u6 (k+7) (uZ (k+1) h))
theorem t10(hc:dD (S9 ns n l st cu tu k th od pl so)=true):blk (cxN T 60 39) 60 60 lSc (bdy 10) (S9 ns n l st cu tu k th od pl so)=some (.ret (.bl true)):=by
 refine jR hc (bC (x:=.lst [.str "no step",.str "no step"]) (y:=.lst [.str "no step",.str "no step"]) (cW (l:=[.int 0,.int 5]) (out:=[.str "no step",.str "no step"]) rfl (wSq (x:=.tup [.int 0,.int 5]) rfl (eY (aj (ak rfl) (aj (ak rfl) aK)) rfl) rfl) rfl (cG (l:=[.int 0,.int 5]) (g:=fun _=>.str "no step") fun y hy=>?_)) (bW (x:=.lst [.str "no step"]) (y:=.int 2) (oV (aj (ak rfl) aK) rfl) (ak rfl) rfl) rfl)
 simp only[List.mem_cons,List.not_mem_nil,or_false] at hy
 rcases hy with rfl | rfl
 ·exact dg rfl (aD rfl (aj (ak rfl) (aj (x:=.int 0) (xName rfl) (aj (x:=.lst []) (oV aK rfl) aK))) (Vr 30 rfl))
 ·exact dg rfl (aD rfl (aj (ak rfl) (aj (x:=.int 5) (xName rfl) (aj (x:=.lst []) (oV aK rfl) aK))) (Vr 30 rfl))
abbrev fb:List Stmt:=bD (bJ 74 9)
theorem Sh{x:Stp}(h:okS n x):dep (stD x)<=50/\bdB (stD x)=true:=by
 refine⟨by simp[stD,dep,deps],?_⟩
 show(decide (x.s.num.natAbs<=1000000000000000000)&&decide (((x.s.den:Nat):Int).natAbs<=1000000000000000000))=true
 rw[decide_eq_true h.sq.1,decide_eq_true (by simpa using h.sq.2)];rfl
theorem K5{i:Nat}(hl:l.length<=7)(hok:∀ x∈l,okS n x)(h2:nOw cu=true)(h3:nOw tu=true)(h5:nOw th=true)(h6:nOw od=true)(h7:nOw pl=true)(h8:nOw so=true)(h1:nOw st=true) :
    ∃ (w:Str) (p u v:Int),u.natAbs<=1000000000000000000/\v.natAbs<=1000000000000000000/\∀ {fl:Fl},blk (cxN T 60 39) 60 59 lSc (fb.drop 2) (S9 ns n l (.sh (sD w p u v)) cu tu (nI i) th od pl so)=some fl->blk (cxN T 60 39) 60 59 lSc fb (S9 ns n l st cu tu (nI i) th od pl so)=some fl:=by
  have hc:=j4 (ns:=ns) (n:=n) (l:=l) (k:=nI i) h1 h2 h3 rfl h5 h6 h7 h8
  have hc2:∀ {z:D},dD (S9 ns n l (.sh z) cu tu (nI i) th od pl so)=true:=j4 rfl h2 h3 rfl h5 h6 h7 h8
  have first:∀ {fl:Fl},blk (cxN T 60 39) 60 59 lSc (fb.drop 1) (S9 ns n l (.sh (sD "scale" ((n:Int)-1) 2 1)) cu tu (nI i) th od pl so)=some fl->blk (cxN T 60 39) 60 59 lSc fb (S9 ns n l st cu tu (nI i) th od pl so)=some fl:=fun h =>
    gU hc rfl rfl (eY (ds:=[.str "scale",.int ((n:Int)-1),.tup [.int 2,.int 1]]) (aj (ak rfl) (aj (bW (x:=.int (n:Int)) (y:=.int 1) (xName rfl) (ak rfl) rfl) (aj (eY (aj (ak rfl) (aj (ak rfl) aK)) rfl) aK))) rfl) h
  cases l with
  | nil=>exact⟨"scale",(n:Int)-1,2,1,by decide,by decide,fun h=>first (j5 hc2 (bC (x:=.lst []) (y:=.lst []) (xName rfl) (oV aK rfl) rfl) h)⟩
  | cons y r =>
    have hp:=bN (ns:=ns) (k:=100+i) (many:=(y::r).length) (by simp)
    obtain⟨x,g1,g2⟩:∃ x,(y::r)[pickN ns (100+i) (y::r).length]?=some x/\x∈y::r:=⟨_,List.getElem?_eq_getElem hp,List.getElem_mem hp⟩
    have ok:=hok x g2
    have pk:=pick 37 ns (100+i) (many:=(y::r).length) (by simp)
    have g3:((y::r).map stD)[pickN ns (100+i) (y::r).length]?=some (stD x):=by rw[List.getElem?_map,g1];rfl
    refine⟨wS x.w,(x.p:Int),x.s.num,((x.s.den:Nat):Int),ok.sq.1,by simpa using ok.sq.2,fun h=>first ?_⟩
    refine tW (fl1:=.nxt (S9 ns n (y::r) (.sh (stD x)) cu tu (nI i) th od pl so)) hc2 (bC (x:=ssD (y::r)) (y:=.lst []) (xName rfl) (oV aK rfl) ?_) (gU hc2 rfl rfl (xIx (x:=ssD (y::r)) (i:=((pickN ns (100+i) (y::r).length:Nat):Int)) (xName rfl) (aD rfl (aj (x:=scr ns) (xName rfl) (aj (x:=.int ((100+i:Nat):Int)) (oO (bW (x:=.int 100) (y:=.int (i:Int)) (ak rfl) (xName rfl) rfl) (congrArg D.int (by omega))) (aj (x:=.int (((y::r).length:Nat):Int)) (dG rfl rfl rfl (aj (x:=ssD (y::r)) (xName rfl) aK) (by show some (D.int (((y::r).map stD).length:Nat))=_;rw[List.length_map])) aK))) pk) rfl (gk g3)) dh) h
    have d1:dep (ssD (y::r))<=50:=by
      have:deps ((y::r).map stD)<=10:=mC fun z hz=>by
        obtain⟨a,_,rfl⟩:=List.mem_map.mp hz
        simp[stD,dep,deps]
      show deps ((y::r).map stD)+1<=50
      omega
    rw[oNe d1 (by simp[dep,deps])];rfl
end
end M30
namespace M30
open PySem DE
section
variable {ns:List Int} {n:Nat} {l:List Stp} {st cu tu k th od pl so:Sl}
def oR(n:Nat)(w:Str)(p:Int):List D:=[.tup [.str w,.int p,.tup [.int 2,.int 2]],.tup [.str w,.int (n:Int),.tup [.int 1,.int 1]],.tup [.str "left",.int 0,.tup [.int 1,.int 1]],.tup [.str "scale",.int 0,.tup [.int 0,.int 1]]]
def sI(n:Nat)(w:Str)(p:Int)(x:D):List D:=[.tup [.str "up",.int ((n:Int)-1),.tup [.int 1,.int 1]],.tup [.str w,.int p,.tup [.int (-1),.int 1]],x,x,x]
theorem Ml{w:Str}{p:Int}{x y:D}(hx:dep x<=10/\bdB x=true)(h:y∈oR n w p++sI n w p x):dep y<=50/\bdB y=true:=by
 simp only[oR,sI,List.cons_append,List.nil_append,List.mem_cons,List.not_mem_nil,or_false] at h
 rcases h with rfl | rfl | rfl | rfl | rfl | rfl | rfl | rfl | rfl
 ·exact⟨by simp[dep,deps],rfl⟩
 ·exact⟨by simp[dep,deps],rfl⟩
 ·exact⟨by simp[dep,deps],rfl⟩
 ·exact⟨by simp[dep,deps],rfl⟩
 ·exact⟨by simp[dep,deps],rfl⟩
 ·exact⟨by simp[dep,deps],rfl⟩
 ·exact⟨by omega,hx.2⟩
 ·exact⟨by omega,hx.2⟩
 ·exact⟨by omega,hx.2⟩
theorem IK{y:D}{c:Nat}(h1:1<=n)(h4:n<=4)(hl:l.length<=7)(hok:∀ x∈l,okS n x)(hy:dep y<=50/\bdB y=true)(hn:eG n y=false)(w:Nat)(hw:w<2):aJ T 60 39 "_law_do" [.int (w:Int),.int (n:Int),.lst ((l.take c).map stD++[y]++(l.drop c).map stD)]=some (.str "no step"):=by
  have q:=sJ 31 (n:=n) (us:=(l.take c).map stD++[y]++(l.drop c).map stD) h1 h4 (by simp;omega) (fun x hx=>by
    simp only[List.mem_append,List.mem_map,List.mem_singleton] at hx
    rcases hx with(⟨z,hz,rfl⟩ | rfl) | ⟨z,hz,rfl⟩
    · exact Sh (hok z (List.mem_of_mem_take hz))
    · exact hy
    · exact Sh (hok z (List.mem_of_mem_drop hz))) (by simp[hn])
  match w,hw with
  | 0,_=>exact Vy 37 (u6 37 q)
  | 1,_=>exact WX 37 (Eu 37 q)
theorem c8{y:D}(h1:1<=n)(h4:n<=4)(hl:l.length<=7)(hok:∀ x∈l,okS n x)(hy:dep y<=50/\bdB y=true)(hn:eG n y=false){c:Nat}{i:Nat}{stD' od':D} :
  ev (cxN T 60 39) 60 lSc (S9 ns n l (.sh stD') cu tu (nI i) (.sh y) (.sh od') (nI c) (.sh (.lst ((l.take c).map stD++[y]++(l.drop c).map stD)))) (ifX ((match fb.getD 8 (.Pass ⟨0,0,0,0⟩) with | .If _ A _ _=>A | _=>[]).getD 1 (.Pass ⟨0,0,0,0⟩)))=some (.bl false):=by
 refine bC (x:=.lst [.str "no step",.str "no step"]) (y:=.lst [.str "no step",.str "no step"]) (cW (l:=Ls 2 fun k=>.int (k:Int)) (out:=Ls 2 fun _=>.str "no step") rfl (wR (j:=2) rfl (ak rfl) (by decide)) rfl (bh fun w hw=>?_)) (bW (x:=.lst [.str "no step"]) (y:=.int 2) (oV (aj (ak rfl) aK) rfl) (ak rfl) rfl) rfl
 exact dg rfl (aD rfl (aj (x:=.int (w:Int)) (xName rfl) (aj (x:=.int (n:Int)) (xName rfl) (aj (x:=.lst ((l.take c).map stD++[y]++(l.drop c).map stD)) (xName rfl) aK))) (IK h1 h4 hl hok hy hn w hw))
theorem KD{i:Nat}(h1:1<=n)(h4:n<=4)(hl:l.length<=7)(hok:∀ x∈l,okS n x)(a2:nOw cu=true)(a3:nOw tu=true)(a4:nOw k=true)(a5:nOw th=true)(a6:nOw od=true)(a7:nOw pl=true)(a8:nOw so=true)(a1:nOw st=true) :
    ∃ st' th' od' pl' so',(nOw st'=true/\nOw th'=true/\nOw od'=true/\nOw pl'=true/\nOw so'=true)/\fF (cxN T 60 39) 60 59 lSc (gO (bJ 74 9)) fb (.int (i:Int)) (S9 ns n l st cu tu k th od pl so)=some (.nxt (S9 ns n l st' cu tu (nI i) th' od' pl' so')):=by
  obtain⟨w,p,u,v,hu,hv,cont⟩:=K5 (ns:=ns) (n:=n) (l:=l) (i:=i) hl hok a2 a3 a5 a6 a7 a8 a1
  obtain⟨x,x1,x2,x3⟩:=uE 35 (w:=w) (p:=p) ns (110+3*i) hu hv
  have lo:(oR n w p++sI n w p x).length=9:=rfl
  have hp:=bN (ns:=ns) (k:=130+i) (many:=9) (by decide)
  obtain⟨y,g1,g2⟩:=get_some (l:=oR n w p++sI n w p x) (i:=pickN ns (130+i) 9) hp
  have hy:=Ml ⟨x1,x2⟩ g2
  have pk:=pick 37 ns (130+i) (many:=9) (by decide)
  have i1:=jB 34 (n:=(n:Int)) hy.1 hy.2
  have i2:=pK 37 (n:=(n:Int)) hy.1 hy.2
  have hc:=bN (ns:=ns) (k:=140+i) (many:=l.length+1) (by omega)
  have pc:=pick 37 ns (140+i) (many:=l.length+1) (by omega)
  generalize pickN ns (140+i) (l.length+1)=c at hc pc
  have cm:∀ {z zt zo:D} {a b:Sl},nOw a=true->nOw b=true->dD (S9 ns n l (.sh z) cu tu (nI i) (.sh zt) (.sh zo) a b)=true:=fun ha hb=>j4 rfl a2 a3 rfl rfl rfl ha hb
  have cm2:∀ {z:D},dD (S9 ns n l (.sh z) cu tu (nI i) th od pl so)=true:=j4 rfl a2 a3 rfl a5 a6 a7 a8
  have cm3:∀ {z zt:D},dD (S9 ns n l (.sh z) cu tu (nI i) (.sh zt) od pl so)=true:=j4 rfl a2 a3 rfl rfl a6 a7 a8
  have last:∃ so',nOw so'=true/\blk (cxN T 60 39) 60 59 lSc (fb.drop 8) (S9 ns n l (.sh (sD w p u v)) cu tu (nI i) (.sh y) (.sh (.lst (oR n w p++sI n w p x))) (nI c) so)=some (.nxt (S9 ns n l (.sh (sD w p u v)) cu tu (nI i) (.sh y) (.sh (.lst (oR n w p++sI n w p x))) (nI c) so')):=by
    have cc:=cm (z:=sD w p u v) (zt:=y) (zo:=.lst (oR n w p++sI n w p x)) (a:=nI c) (b:=so) rfl a8
    cases e:eG n y with
    | true =>
      rw[e] at i2
      exact⟨so,a8,j5 cc (bZ (aD rfl (aj (xName rfl) (aj (xName rfl) aK)) i2)) dh⟩
    | false =>
      rw[e] at i2
      let us:List D:=(l.take c).map stD++[y]++(l.drop c).map stD
      refine⟨.sh (.lst us),rfl,tW (fl1:=.nxt (S9 ns n l (.sh (sD w p u v)) cu tu (nI i) (.sh y) (.sh (.lst (oR n w p++sI n w p x))) (nI c) (.sh (.lst us)))) cc (jg (aD rfl (aj (xName rfl) (aj (xName rfl) aK)) i2)) ?_ rfl⟩
      have z1:szl (((l.take c).map stD).length+[y].length)=true:=j6 (by simp;omega)
      have z2:szl (((l.take c).map stD++[y]).length+((l.drop c).map stD).length)=true:=j6 (by simp;omega)
      refine gU cc rfl rfl (d:=.lst us) (bW (x:=.lst ((l.take c).map stD++[y])) (y:=ssD (l.drop c)) (bW (x:=ssD (l.take c)) (y:=.lst [y]) (R9 (xName rfl) (xName rfl) (by omega)) (oV (aj (xName rfl) aK) rfl) (by show(if _ then _ else _)=_;rw[z1];rfl)) (zT (xName rfl) (xName rfl) (by omega)) (by show(if _ then _ else _)=_;rw[z2];rfl)) ?_
      exact j5 (cm (a:=nI c) (b:=.sh (.lst us)) rfl rfl) (c8 h1 h4 hl hok hy e) dh
  obtain⟨so',s1,s2⟩:=last
  refine⟨.sh (sD w p u v),.sh y,.sh (.lst (oR n w p++sI n w p x)),nI c,so',⟨rfl,rfl,rfl,rfl,s1⟩,jE (ρ1:=S9 ns n l st cu tu (nI i) th od pl so) rfl (cont ?_)⟩
  refine gU cm2 rfl rfl (d:=x) (aD rfl (aj (x:=scr ns) (xName rfl) (aj (x:=.int ((110+3*i:Nat):Int)) (oO (bW (x:=.int 110) (y:=.int (3*(i:Int))) (ak rfl) (bW (x:=.int 3) (y:=.int (i:Int)) (ak rfl) (xName rfl) rfl) rfl) (congrArg D.int (by omega))) (aj (xName rfl) aK))) x3) ?_
  have t0:∀ {ρ:Rho} {N:Nat} {px q1 q2:Pos} {j:Nat},ev (cxN T 60 39) (N+1) lSc ρ (.Name "_law_step" px)=some (sD w p u v)->ev (cxN T 60 39) (N+2) lSc ρ (.Subscript (.Name "_law_step" px) (.Constant (.int 0) j q1) q2)=some (.str w):=fun h=>xIx (x:=sD w p u v) (i:=0) h (ak rfl) rfl rfl
  have t1:∀ {ρ:Rho} {N:Nat} {px q1 q2:Pos} {j:Nat},ev (cxN T 60 39) (N+1) lSc ρ (.Name "_law_step" px)=some (sD w p u v)->ev (cxN T 60 39) (N+2) lSc ρ (.Subscript (.Name "_law_step" px) (.Constant (.int 1) j q1) q2)=some (.int p):=fun h=>xIx (x:=sD w p u v) (i:=1) h (ak rfl) rfl rfl
  refine Ko cm3 rfl (d:=.lst (oR n w p)) (oV (aj (eY (aj (t0 (xName rfl)) (aj (t1 (xName rfl)) (aj (eY (aj (ak rfl) (aj (ak rfl) aK)) rfl) aK))) rfl) (aj (eY (aj (t0 (xName rfl)) (aj (xName rfl) (aj (eY (aj (ak rfl) (aj (ak rfl) aK)) rfl) aK))) rfl) (aj (eY (aj (ak rfl) (aj (ak rfl) (aj (eY (aj (ak rfl) (aj (ak rfl) aK)) rfl) aK))) rfl) (aj (eY (aj (ak rfl) (aj (ak rfl) (aj (eY (aj (ak rfl) (aj (ak rfl) aK)) rfl) aK))) rfl) aK)))) rfl) ?_
  refine RG (ρ:=S9 ns n l (.sh (sD w p u v)) cu tu (nI i) (.sh x) (.ow (oR n w p)) pl so) (ρ':=S9 ns n l (.sh (sD w p u v)) cu tu (nI i) (.sh x) (.ow (oR n w p)) pl so) (ds:=oR n w p) (zs:=sI n w p x) (aL rfl (aL rfl (aL rfl (aL rfl (aL rfl (aL a2 (aL a3 (aL rfl (aL rfl (qX rfl (aL a7 (aL a8 jZ)))))))))))) rfl rfl rfl rfl rfl (oV (aj (eY (aj (ak rfl) (aj (bW (x:=.int (n:Int)) (y:=.int 1) (xName rfl) (ak rfl) rfl) (aj (eY (aj (ak rfl) (aj (ak rfl) aK)) rfl) aK))) rfl) (aj (eY (aj (t0 (xName rfl)) (aj (t1 (xName rfl)) (aj (eY (aj (Gu (ak rfl)) (aj (ak rfl) aK)) rfl) aK))) rfl) (aj (xName rfl) (aj (xName rfl) (aj (xName rfl) aK))))) rfl) ?_
  refine gj (ρ:=S9 ns n l (.sh (sD w p u v)) cu tu (nI i) (.sh x) (.ow (oR n w p++sI n w p x)) pl so) (ρ':=S9 ns n l (.sh (sD w p u v)) cu tu (nI i) (.sh x) (.sh (.lst (oR n w p++sI n w p x))) pl so) (d:=y) (aL rfl (aL rfl (aL rfl (aL rfl (aL rfl (aL a2 (aL a3 (aL rfl (aL rfl (Jy rfl (aL a7 (aL a8 jZ)))))))))))) rfl rfl (xIx (x:=.lst (oR n w p++sI n w p x)) (i:=((pickN ns (130+i) 9:Nat):Int)) (xName rfl) (aD rfl (aj (x:=scr ns) (xName rfl) (aj (x:=.int ((130+i:Nat):Int)) (oO (bW (x:=.int 130) (y:=.int (i:Int)) (ak rfl) (xName rfl) rfl) (congrArg D.int (by omega))) (aj (ak rfl) aK))) pk) rfl (gk g1)) ?_
  refine j5 (cm (zt:=y) a7 a8) (bC (x:=.bl (eG n y)) (y:=.bl (eG n y)) (aD rfl (aj (xName rfl) (aj (xName rfl) aK)) i1) (aD rfl (aj (xName rfl) (aj (xName rfl) aK)) i2) (Ir (by simp[dep]))) ?_
  refine gU (cm (zt:=y) a7 a8) rfl rfl (d:=.int (c:Int)) (aD rfl (aj (x:=scr ns) (xName rfl) (aj (x:=.int ((140+i:Nat):Int)) (oO (bW (x:=.int 140) (y:=.int (i:Int)) (ak rfl) (xName rfl) rfl) (congrArg D.int (by omega))) (aj (x:=.int ((l.length+1:Nat):Int)) (bW (x:=.int (l.length:Int)) (y:=.int 1) (dG rfl rfl rfl (aj (x:=ssD l) (xName rfl) aK) (by show some (D.int ((l.map stD).length:Nat))=_;rw[List.length_map])) (ak rfl) rfl) aK))) pc) s2
end
end M30
namespace M30
open PySem DE
section
variable {ns:List Int} {n:Nat} {l:List Stp} {cu tu:Sl}
theorem t9(h1:1<=n)(h4:n<=4)(hl:l.length<=7)(hok:∀ x∈l,okS n x)(a2:nOw cu=true)(a3:nOw tu=true):blk (cxN T 60 39) 60 60 lSc (bdy 9) (S9 ns n l .no cu tu .no .no .no .no .no)=some (.ret (.bl true)):=by
  obtain⟨ρ',⟨st,k,th,od,pl,so,b1,b4,b5,b6,b7,b8,rfl⟩,go⟩:=gP (f:=fF (cxN T 60 39) 60 59 lSc (gO (bJ 74 9)) fb) (h:=fun i=>.int (i:Int)) (N:=5) (P:=fun _ ρ=>∃ st k th od pl so,nOw st=true/\nOw k=true/\nOw th=true/\nOw od=true/\nOw pl=true/\nOw so=true/\ρ=S9 ns n l st cu tu k th od pl so)
    (fun i ρ _ hP=>by
      obtain⟨st,k,th,od,pl,so,b1,b4,b5,b6,b7,b8,rfl⟩:=hP
      obtain⟨st',th',od',pl',so',⟨c1,c5,c6,c7,c8⟩,e⟩:=KD (ns:=ns) (i:=i) h1 h4 hl hok a2 a3 b4 b5 b6 b7 b8 b1
      exact⟨_,⟨st',nI i,th',od',pl',so',c1,rfl,c5,c6,c7,c8,rfl⟩,e⟩) (ρ:=S9 ns n l .no cu tu .no .no .no .no .no) ⟨.no,.no,.no,.no,.no,.no,rfl,rfl,rfl,rfl,rfl,rfl,rfl⟩
  exact jY (cN (j4 rfl a2 a3 rfl rfl rfl rfl rfl)) (wR (j:=5) rfl (ak rfl) (by decide)) go (t10 (j4 b1 a2 a3 b4 b5 b6 b7 b8))
theorem e8(h1:1<=n)(h4:n<=4)(hl:l.length<=7)(S:Sml n 6 30 l):ev (cxN T 60 39) 60 lSc (S9 ns n l .no cu tu .no .no .no .no .no) (ifX (bJ 74 8))=some (.bl false):=by
 have fo:=do1 38 (Et 31 h1 h4 S.ok (by omega))
 have mb:=made_by 31 h1 h4 S.fl (by simp;omega)
 rw[Er (Rf l fun x hx=>(S.ok x hx).pl)] at mb
 refine bC (x:=ftq n n fun i j=>mkQ n l (n-1-i) (n-1-j)) (y:=ftq n n fun i j=>mkQ n l (n-1-i) (n-1-j)) (aD rfl (aj (xName rfl) (aj (x:=ssD (l.map (flS n))) (aD rfl (aj (ak rfl) (aj (xName rfl) (aj (xName rfl) aK))) fo) aK)) mb) ?_ (Ir (Nat.le_trans jH (by decide)))
 refine dG (ds:=[.lst (Ls n fun i=>rwq n fun j=>mkQ n l (n-1-i) (n-1-j))]) rfl rfl rfl (aj (cW (l:=Ls n fun i=>rwq n (mkQ n l (n-1-i))) rfl (wSq (x:=.tup (Ls n fun i=>rwq n (mkQ n l (n-1-i)))) rfl (oO (R4 (us:=Ls n fun i=>rwq n (mkQ n l i)) (xName rfl) (Gu (ak rfl))) (by rw[Bt])) rfl) (j6 (by rw[cj];omega)) (bh fun i hi=>?_)) aK) rfl
 exact dg rfl (oO (R4 (us:=Ls n fun j=>qD (mkQ n l (n-1-i) j)) (xName rfl) (Gu (ak rfl))) (by rw[Bt]))
theorem t6(h1:1<=n)(h4:n<=4)(hl:l.length<=7)(S:Sml n 6 30 l)(a2:nOw cu=true):blk (cxN T 60 39) 60 60 lSc (bdy 6) (S9 ns n l .no cu .no .no .no .no .no .no)=some (.ret (.bl true)):=by
 refine gU (j4 rfl a2 rfl rfl rfl rfl rfl rfl) rfl rfl (d:=ftq n n fun i j=>mkQ n l j i) ?_ ?_
 ·refine dG (ds:=[.lst (Ls n fun c=>rwq n fun r=>mkQ n l r c)]) rfl rfl rfl (aj (cW (l:=Ls n fun k=>.int (k:Int)) rfl (wR (j:=n) rfl (xName rfl) (by omega)) (j6 (by rw[cj];omega)) (bh fun c hc=>?_)) aK) rfl
  refine dg rfl (dG (ds:=[.lst (Ls n fun r=>qD (mkQ n l r c))]) rfl rfl rfl (aj (cW (l:=Ls n fun r=>rwq n (mkQ n l r)) rfl (wSq (x:=ftq n n (mkQ n l)) rfl (xName rfl) rfl) (j6 (by rw[cj];omega)) (bh fun r hr=>?_)) aK) rfl)
  exact dg rfl (Ks (m:=n) (j:=c) (h:=fun j=>qD (mkQ n l r j)) (xName rfl) (xName rfl) hc rfl rfl)
 ·have to:=BL 38 (l:=l) (fun x hx=>yx (S.ok x hx).pl) (by omega)
  have mb:=made_by 31 h1 h4 S.tu (by simp;omega)
  rw[Er (Rc l)] at mb
  refine j5 (ρ:=S9 ns n l .no cu (.sh (ftq n n fun i j=>mkQ n l j i)) .no .no .no .no .no) (j4 rfl a2 rfl rfl rfl rfl rfl rfl) (bC (x:=ftq n n fun i j=>mkQ n l j i) (y:=ftq n n fun i j=>mkQ n l j i) (aD rfl (aj (xName rfl) (aj (x:=ssD (l.map tuS).reverse) (aD rfl (aj (xName rfl) aK) to) aK)) mb) (xName rfl) (Ir (Nat.le_trans jH (by decide)))) ?_
  exact j5 (j4 rfl a2 rfl rfl rfl rfl rfl rfl) (e8 h1 h4 hl S) (t9 h1 h4 hl S.ok a2 rfl)
theorem t4(h1:1<=n)(h4:n<=4)(hl:l.length<=6)(S:Sml n 6 30 l):blk (cxN T 60 39) 60 60 lSc (bdy 4) (S9 ns n l .no .no .no .no .no .no .no .no)=some (.ret (.bl true)):=by
 have hc:=bN (ns:=ns) (k:=1) (many:=l.length+1) (by omega)
 have pc:=pick 37 ns 1 (many:=l.length+1) (by omega)
 generalize pickN ns 1 (l.length+1)=c at hc pc
 refine gU (ρ:=S9 ns n l .no .no .no .no .no .no .no .no) rfl rfl rfl (d:=.int (c:Int)) (aD rfl (aj (x:=scr ns) (xName rfl) (aj (ak rfl) (aj (x:=.int ((l.length+1:Nat):Int)) (bW (x:=.int (l.length:Int)) (y:=.int 1) (dG rfl rfl rfl (aj (x:=ssD l) (xName rfl) aK) (by show some (D.int ((l.map stD).length:Nat))=_;rw[List.length_map])) (ak rfl) rfl) aK))) pc) ?_
 have S1:Sml n 6 30 (l.take c):=S.sub (fun x hx=>List.mem_of_mem_take hx) (by simp;omega)
 have S2:Sml n 6 30 (l.drop c):=S.sub (fun x hx=>List.mem_of_mem_drop hx) (by simp)
 have m1:=made_by 31 h1 h4 S1 (by simp;omega)
 have m2:=made_by 31 h1 h4 S2 (by simp;omega)
 have la:(l.take c).length+(l.drop c).length=l.length:=by simp;omega
 have b1:6^(l.take c).length*6^(l.drop c).length<=1000000000000000000:=by
  rw[<- Nat.pow_add,la];exact S.h1
 have b2:4*((4*30)^(l.take c).length*(4*30)^(l.drop c).length)<=1000000000000000000:=by
  rw[<- Nat.pow_add,la]
  exact Nat.le_trans (Nat.mul_le_mul_left 4 (Nat.pow_le_pow_right (by decide) hl)) (by decide)
 have pr:=product 32 (F:=mkQ n (l.take c)) (G:=mkQ n (l.drop c)) h1 h4 h1 h4 h1 h4 (Kg h4 S1.bq) (Kg h4 S2.bq) (Nat.pow_pos (by decide)) (Nat.pow_pos (by decide)) b1 b2 S1.h2 S2.h2
 rw[Er (F:=mulQ n (mkQ n (l.take c)) (mkQ n (l.drop c))) (G:=mkQ n l) fun i j hi hj=>by rw[<- Am _ _ i j hi hj,List.take_append_drop]] at pr
 exact j5 (ρ:=S9 ns n l .no (nI c) .no .no .no .no .no .no) rfl (bC (x:=ftq n n (mkQ n l)) (y:=ftq n n (mkQ n l)) (aD rfl (aj (x:=ftq n n (mkQ n (l.take c))) (aD rfl (aj (xName rfl) (aj (x:=ssD (l.take c)) (R9 (xName rfl) (xName rfl) (by omega)) aK)) m1) (aj (x:=ftq n n (mkQ n (l.drop c))) (aD rfl (aj (xName rfl) (aj (x:=ssD (l.drop c)) (zT (xName rfl) (xName rfl) (by omega)) aK)) m2) aK)) pr) (xName rfl) (Ir (Nat.le_trans jH (by decide)))) (t6 h1 h4 (by omega) S rfl)
theorem t3(h1:1<=n)(h4:n<=4)(hl:l.length<=6)(S:Sml n 6 30 l):blk (cxN T 60 39) 60 60 lSc (bdy 3) (S9 ns n l .no .no .no .no .no .no .no .no)=some (.ret (.bl true)):=by
 have mb:=do0 38 (made_by 30 h1 h4 S (by omega))
 refine j5 (ρ:=S9 ns n l .no .no .no .no .no .no .no .no) rfl (bB (fQ (bC (x:=ftq n n (mkQ n l)) (y:=ftq n n (mkQ n l)) (aD rfl (aj (ak rfl) (aj (xName rfl) (aj (xName rfl) aK))) mb) (xName rfl) (Ir (Nat.le_trans jH (by decide)))) (fU (bC (x:=.lst []) (y:=.lst []) (cW (l:=l.map stD) (out:=[]) rfl (wSq (x:=ssD l) rfl (xName rfl) rfl) (j6 (by rw[List.length_map];omega)) (jN fun y hy=>?_)) (oV aK rfl) rfl)))) (t4 h1 h4 hl S)
 obtain⟨x,hx,rfl⟩:=List.mem_map.mp hy
 exact Ga (t:=false) (d:=stD x) rfl (bC (x:=.bl true) (y:=.bl true) (aD rfl (aj (x:=.int (n:Int)) (xName rfl) (aj (x:=stD x) (xName rfl) aK)) (is_step 34 (S.ok x hx))) (ak rfl) rfl) (xName rfl)
end
theorem law_true(ns:List Int)(_:ns.length<=63):aJ T 60 40 "law" [.lst (ns.map D.int)]=some (.bl true):=by
 have hn:=bN (ns:=ns) (k:=0) (many:=4) (by omega)
 have p0:=pick 37 ns 0 (many:=4) (by omega)
 generalize pickN ns 0 4=m at hn p0
 have h1:1<=1+m:=by omega
 have ls:=vm 35 ns 10 (n:=1+m) (mo:=6) h1 (by omega) (by decide)
 have hq:=bN (ns:=ns) (k:=10) (many:=7) (by omega)
 let l:List Stp:=G8 ns 10 (1+m) (pickN ns 10 7)
 have hl:l.length<=6:=by show((List.range _).map _).length<=6;rw[List.length_map,List.length_range];omega
 have hd:∀ x∈l,∃ ns a k,x=stV ns a (1+m) k:=fun x hx=>let ⟨k,e⟩:=DW hx;⟨ns,10,k,e⟩
 have S:=Ho h1 (show l.length<=7 by omega) hd
 have mb:=yG 36 h1 (by omega) S (by omega)
 refine cI (fd:=aV (top 74)) rfl rfl (gU (ρ:=J8 ns .no .no .no .no .no .no .no .no .no .no .no) (d:=.int ((1+m:Nat):Int)) rfl rfl rfl (oO (bW (x:=.int 1) (y:=.int (m:Int)) (ak rfl) (aD rfl (aj (x:=scr ns) (xName rfl) (aj (ak rfl) (aj (ak rfl) aK))) p0) rfl) (congrArg D.int (by omega))) ?_)
 refine gU (ρ:=J8 ns (nI (1+m)) .no .no .no .no .no .no .no .no .no .no) (d:=ssD l) rfl rfl rfl (aD rfl (aj (x:=scr ns) (xName rfl) (aj (ak rfl) (aj (xName rfl) (aj (ak rfl) aK)))) ls) ?_
 exact gU (ρ:=J8 ns (nI (1+m)) (.sh (ssD l)) .no .no .no .no .no .no .no .no .no) (d:=ftq (1+m) (1+m) (mkQ (1+m) l)) rfl rfl rfl (aD rfl (aj (xName rfl) (aj (xName rfl) aK)) mb) (t3 h1 (by omega) hl S)
end M30
noncomputable section
namespace HS
open PySem PySem.W
theorem goT{p:Program}{w:World}{m:Nat}{a:Option Value}{n:Nat}{x y:Shared}{u:Thread}{c:Code}{o:Pos}{l:List Frame}(h:Fast.tw15667345088766844465 Fast.tw14364793385576792824 p w m a n x u=some (y,⟨Fast.tw11892475500146522536 Fast.tw14364793385576792824 c,c,o,l⟩)):topGo treeTable p w m a n x u=some (y,⟨denote treeTable c,c,o,l⟩):=by
 rw[Fast.te15667345088766844465,Fast.te14364793385576792824,Fast.te11892475500146522536];exact h
theorem V5{p:Program}{w:World}{m:Nat}{a:Option Value}{k n:Nat}{x:Shared}{u:Thread}{y:Option (Flow×Shared×Code×Pos)}(h:Fast.tw14374325043358763698 Fast.tw14364793385576792824 p w m a k n x u=y):segRun treeTable p w m a k n x u=y:=by
 rw[Fast.te14374325043358763698,Fast.te14364793385576792824];exact h
theorem rZ{p:Program}{w:World}{m:Nat}{a:Option Value}{k n:Nat}{x:SharedT}{u:Thread}{y:Option (Flow×SharedT×Code×Pos)}(h:Fast.tw10110043849684766642 Fast.tw14364793385576792824 p w m a k n x u=y):segRunT treeTable p w m a k n x u=y:=by
 rw[Fast.te10110043849684766642,Fast.te14364793385576792824];exact h
theorem VJ{p:Program}{w:World}{m:Nat}{a:Option Value}{n:Nat}{x:Shared}{u:Thread}{y:Option Shared}(h:Fast.tw14082659384304107361 Fast.tw14364793385576792824 p w m a n x u=y):topRun treeTable p w m a n x u=y:=by
 rw[Fast.te14082659384304107361,Fast.te14364793385576792824];exact h
theorem Le{p:Program}{w:World}{m:Nat}{a:Option Value}{n:Nat}{x:Shared}{b l:List Stmt}{E:Env}{c:Code}{o:Pos}{B:List Frame}{y:Option Shared}(e:b=l)(h:topRun treeTable p w m a n x (restOf l E c o B)=y):topRun treeTable p w m a n x (restOf b E c o B)=y:=by
 rw[e];exact h
end HS
namespace H30
open PySem PySem.W HS
abbrev p:Program:=PySem.Challenge.pw_minortables_k30_whole_steps
abbrev q:Program:=PySem.W.view p [1,2,3,4,5,6,7,9,10,11,12,13,14,15,16,17,18,20,21,22,23,24,25,26,27,28,29,31,32,33,34,36,37,38,39,40,41,42,43,44,45,46,47,48,49,50,52,53,54,55,56,57,58,59,60,61,62,63,64,65,66,67,68,69,70,71,72,73,74]
abbrev N:Nat:=6658
abbrev lo:List Str:=["TURNED_WORDS"]
abbrev z:Value:=.none
abbrev r(a:Nat):Value:=.ref a
abbrev i(a:Int)(n:Nat):Value:=.int a n
abbrev s(x:Str)(n:Nat):Value:=.str x n
abbrev t(x:String):Value:=.type x
abbrev b(x:String):Value:=.builtin x
abbrev e(P:Params)(x:Str)(n:Nat)(v:Value):DictEntry:=⟨PyData.keyHash P x,.str x n,v⟩
def d(j:Nat):Stmt:=p.main.body.getD j (.Pass ⟨0,0,0,0⟩)
def m(j k:Nat):Stmt:=match d j with | .ClassDef _ _ _ l .. =>l.getD k (.Pass ⟨0,0,0,0⟩) | x=>x
def f(x:Stmt)(qn:Str)(g:Nat)(dV kV dc pm cd ct:Value):FuncData:=match x with | .FunctionDef n a l _ _ _ sc .. =>⟨n,qn,a,.stmts l,sc,g,[],dV,kV,dc,pm,none,cd,ct,0⟩ | _=>default
def y:Obj:=⟨.type "tuple",none,.seq #[] 0,#[]⟩
def x:Obj:=⟨.none,none,.fields #[],#[]⟩
def tnV:List Str->Nat->List Value | [],_=>[] | a::l,k=>.str a k::tnV l (k+1)
def tn(l:List Str)(k:Nat):Obj:=⟨.type "tuple",none,.seq (tnV l k).toArray 0,#[]⟩
def g(a:Stmt)(n:Str):Obj:=⟨.none,none,.func (f a n 0 z z z z z z),#[]⟩
def u(a:Stmt)(n:Str)(pm:Value)(c:Nat):Obj:=⟨.type "function",none,.func (f a n 3 z z z pm (r c) z),#[]⟩
def c(n:Str)(k:Nat)(l a fl:Int)(q:Nat)(bb:Bool)(h:Int)(q':Nat)(v w v':Value)(k':Nat):Obj:=⟨.type "code",none,.fields #[s n k,s n (k+1),s "/claim/cut.py" (k+2),i l 0,i a 0,i 0 0,i 0 0,i fl 0,r q,.bool bb,i h 0,r q',z,v,w,v',i k' 0,i l 0,s "/claim/cut.py" (k'+1)],#[]⟩
def I(t:BT):Nat->List Obj->BT | _,[]=>t | n,o::l=>I (t.ins n o) (n+1) l
def es(P:Params):List DictEntry:=[e P "__doc__" 166 z,
  e P "__package__" 167 z,
  e P "__loader__" 168 (b "__main__.__loader__#opaque"),
  e P "__spec__" 169 z,
  e P "__annotations__" 170 (r 6),
  e P "__builtins__" 171 (r 4),
  e P "__file__" 173 (s "/claim/cut.py" 172),
  e P "__cached__" 174 z,
  e P "MinorError" 206 (r 24),
  e P "NoTable" 222 (r 37),
  e P "NoFit" 238 (r 49),
  e P "NoPlace" 254 (r 61),
  e P "NoStep" 270 (r 73),
  e P "NoSteps" 286 (r 85),
  e P "NoText" 302 (r 97),
  e P "MOST_LINES" 306 (i 4 305),
  e P "is_whole" 313 (r 106),
  e P "is_whole_within" 322 (r 113),
  e P "is_short_tuple" 329 (r 120),
  e P "has_lines" 335 (r 125),
  e P "numbers_of" 344 (r 132),
  e P "has_table_form" 350 (r 137),
  e P "is_place" 358 (r 144),
  e P "need_table" 365 (r 151),
  e P "need_size" 373 (r 158),
  e P "common_measure" 384 (r 165),
  e P "lowest" 393 (r 172),
  e P "has_fraction_form" 400 (r 179),
  e P "is_fraction" 407 (r 186),
  e P "sum_of" 415 (r 193),
  e P "times_of" 423 (r 200),
  e P "all_sum" 432 (r 207),
  e P "need_fraction_table" 438 (r 212),
  e P "row_as_fractions" 444 (r 217),
  e P "as_fractions" 450 (r 222),
  e P "column_of" 458 (r 227),
  e P "columns_of" 464 (r 232),
  e P "plain_row" 470 (r 237),
  e P "plain" 476 (r 242),
  e P "UP" 480 (s "up" 479),
  e P "DOWN" 482 (s "down" 481),
  e P "SCALE" 484 (s "scale" 483),
  e P "TURNED_WORDS" 494 (r 243),
  e P "is_step_of" 504 (r 250),
  e P "is_step" 512 (r 257),
  e P "need_steps" 518 (r 262),
  e P "row_by_column" 524 (r 267),
  e P "row_by_columns" 530 (r 272),
  e P "product_of" 536 (r 277),
  e P "table_of_step" 542 (r 282),
  e P "made_by" 554 (r 289),
  e P "turned_steps" 560 (r 294),
  e P "flipped_step" 571 (r 301),
  e P "flipped_steps" 577 (r 306),
  e P "_law_cell" 587 (r 313),
  e P "_law_pick" 597 (r 320),
  e P "_law_table" 603 (r 325),
  e P "_law_size" 611 (r 332),
  e P "_law_times" 625 (r 339),
  e P "_law_worth" 631 (r 344),
  e P "_law_some" 637 (r 349),
  e P "_law_part" 643 (r 354),
  e P "_law_minors" 654 (r 361),
  e P "_law_places" 660 (r 366),
  e P "_law_put" 670 (r 373),
  e P "_law_spoilt_thing" 684 (r 380),
  e P "_law_is_table" 690 (r 385),
  e P "_law_share" 698 (r 392),
  e P "_law_steps" 713 (r 399),
  e P "_law_lowest" 723 (r 406),
  e P "_law_sum" 733 (r 413),
  e P "_law_step_table" 739 (r 418),
  e P "_law_made" 745 (r 423),
  e P "_law_word" 753 (r 430),
  e P "_law_do" 765 (r 437),
  e P "_law_is_step" 777 (r 444),
  e P "law" 783 (r 449)]
def og(k n:Nat)(v:Value)(P:Params):Obj:=⟨.type "dict",none,.dict ((e P "__name__" 165 v::es P).take k).toArray n,#[]⟩
def fv:List Value:=[(i 2 0),(i 0 0),(r 20),(i 4 0),(i 0 0),(r 33),(i 6 0),(i 0 0),(r 45),(i 8 0),(i 0 0),(r 57),(i 10 0),(i 0 0),(r 69),(i 12 0),(i 0 0),(r 81),(i 14 0),(i 0 0),(r 93),(i 18 0),(i 0 0),(r 105),(i 20 0),(i 0 0),(r 112),(i 22 0),(i 0 0),(r 119),(i 24 0),(i 0 0),(r 124),(i 28 0),(i 0 0),(r 131),(i 33 0),(i 0 0),(r 136),(i 35 0),(i 0 0),(r 143),(i 37 0),(i 0 0),(r 150),(i 40 0),(i 0 0),(r 157),(i 44 0),(i 0 0),(r 164),(i 50 0),(i 0 0),(r 171),(i 55 0),(i 0 0),(r 178),(i 61 0),(i 0 0),(r 185),(i 63 0),(i 0 0),(r 192),(i 65 0),(i 0 0),(r 199),(i 67 0),(i 0 0),(r 206),(i 72 0),(i 0 0),(r 211),(i 75 0),(i 0 0),(r 216),(i 77 0),(i 0 0),(r 221),(i 81 0),(i 0 0),(r 226),(i 83 0),(i 0 0),(r 231),(i 85 0),(i 0 0),(r 236),(i 87 0),(i 0 0),(r 241),(i 95 0),(i 0 0),(r 249),(i 99 0),(i 0 0),(r 256),(i 103 0),(i 0 0),(r 261),(i 108 0),(i 0 0),(r 266),(i 110 0),(i 0 0),(r 271),(i 112 0),(i 0 0),(r 276),(i 119 0),(i 0 0),(r 281),(i 125 0),(i 0 0),(r 288),(i 131 0),(i 0 0),(r 293),(i 133 0),(i 0 0),(r 300),(i 136 0),(i 0 0),(r 305),(i 140 0),(i 0 0),(r 312),(i 146 0),(i 0 0),(r 319),(i 149 0),(i 0 0),(r 324),(i 155 0),(i 0 0),(r 331),(i 157 0),(i 0 0),(r 338),(i 168 0),(i 0 0),(r 343),(i 178 0),(i 0 0),(r 348),(i 186 0),(i 0 0),(r 353),(i 188 0),(i 0 0),(r 360),(i 195 0),(i 0 0),(r 365),(i 201 0),(i 0 0),(r 372),(i 206 0),(i 0 0),(r 379),(i 214 0),(i 0 0),(r 384),(i 226 0),(i 0 0),(r 391),(i 228 0),(i 0 0),(r 398),(i 239 0),(i 0 0),(r 405),(i 244 0),(i 0 0),(r 412),(i 249 0),(i 0 0),(r 417),(i 256 0),(i 0 0),(r 422),(i 269 0),(i 0 0),(r 429),(i 275 0),(i 0 0),(r 436),(i 285 0),(i 0 0),(r 443),(i 299 0),(i 0 0),(r 448)]
def o12:Obj:=⟨z,none,.fields (fv.take 0).toArray,#[]⟩
def o13:Obj:=c "<module>" 182 1 0 0 11 false 181 12 z z z 185
def o14:Obj:=⟨(t "frame"),none,.plain,#[some (r 13),some (r 3),some (r 3),none,some (s "__main__" 164),none,some (r 0)]⟩
def Wr(P:Params):Obj:=og 10 10 (s "minortables.errors" 187) P
def QM:Obj:=⟨z,none,.fields (fv.take 3).toArray,#[]⟩
def o15:Obj:=⟨(t "tuple"),none,(.seq #[(t "ValueError")] 0),#[]⟩
def o16:Obj:=⟨(t "builtin_function_or_method"),none,(.fields #[(b "type.__prepare__"),(t "type")]),#[]⟩
def o17(P:Params):Obj:=⟨(t "dict"),none,(.dict #[e P "__module__" 196 (s "minortables.errors" 187),e P "__qualname__" 198 (s "MinorError" 197),e P "__firstlineno__" 200 (i 2 199),e P "__static_attributes__" 201 (r 22)] 4),#[]⟩
def o20:Obj:=c "MinorError" 191 2 0 0 18 false 181 19 z z z 194
def o21:Obj:=⟨(t "frame"),none,.plain,#[some (r 20),some (r 3),some (r 17),none,some (s "minortables.errors" 187),none,some (r 0)]⟩
def o23(P:Params):Obj:=⟨(t "dict"),none,(.dict #[e P "__module__" 196 (s "minortables.errors" 187),e P "__firstlineno__" 200 (i 2 199),e P "__static_attributes__" 201 (r 22),e P "__weakref__" 203 (r 25),e P "__doc__" 204 z] 3),#[]⟩
def o24:Obj:=⟨(t "type"),none,(.cls ⟨"MinorError",[(t "ValueError")],[(r 24),(t "ValueError"),(t "Exception"),(t "BaseException"),(t "object")],23,"MinorError",true,[],[],false,none,false⟩),#[some (r 15),none,some (s "MinorError" 189),some (s "MinorError" 197),some (b "ValueError.__new__"),some (.bool true)]⟩
def o25:Obj:=⟨(t "getset_descriptor"),none,(.fields #[(s "__weakref__" 202),(r 24),(b "ExceptionGroup.__weakref__"),z]),#[]⟩
def o26:Obj:=⟨(t "super"),none,(.fields #[(r 24),(r 24),(r 24)]),#[]⟩
def o27:Obj:=⟨(t "builtin_function_or_method"),none,(.fields #[(b "object.__init_subclass__"),(r 24)]),#[]⟩
def Wq(P:Params):Obj:=og 11 11 (s "minortables.errors" 187) P
def QL:Obj:=⟨z,none,.fields (fv.take 6).toArray,#[]⟩
def O4:Obj:=⟨(t "type"),none,(.cls ⟨"MinorError",[(t "ValueError")],[(r 24),(t "ValueError"),(t "Exception"),(t "BaseException"),(t "object")],23,"MinorError",true,[],[(r 37)],false,none,false⟩),#[some (r 15),none,some (s "MinorError" 189),some (s "MinorError" 197),some (b "ValueError.__new__"),some (.bool true)]⟩
def o28:Obj:=⟨(t "tuple"),none,(.seq #[(r 24)] 0),#[]⟩
def o29:Obj:=⟨(t "builtin_function_or_method"),none,(.fields #[(b "type.__prepare__"),(t "type")]),#[]⟩
def o30(P:Params):Obj:=⟨(t "dict"),none,(.dict #[e P "__module__" 214 (s "minortables.errors" 187),e P "__qualname__" 216 (s "NoTable" 215),e P "__firstlineno__" 218 (i 4 217),e P "__static_attributes__" 219 (r 35)] 4),#[]⟩
def o33:Obj:=c "NoTable" 209 4 0 0 31 false 181 32 z z z 212
def o34:Obj:=⟨(t "frame"),none,.plain,#[some (r 33),some (r 3),some (r 30),none,some (s "minortables.errors" 187),none,some (r 0)]⟩
def o36(P:Params):Obj:=⟨(t "dict"),none,(.dict #[e P "__module__" 214 (s "minortables.errors" 187),e P "__firstlineno__" 218 (i 4 217),e P "__static_attributes__" 219 (r 35),e P "__doc__" 220 z] 2),#[]⟩
def o37:Obj:=⟨(t "type"),none,(.cls ⟨"NoTable",[(r 24)],[(r 37),(r 24),(t "ValueError"),(t "Exception"),(t "BaseException"),(t "object")],36,"NoTable",true,[],[],false,none,false⟩),#[some (r 28),none,some (s "NoTable" 207),some (s "NoTable" 215),some (b "ValueError.__new__"),some (.bool true)]⟩
def o38:Obj:=⟨(t "super"),none,(.fields #[(r 37),(r 37),(r 37)]),#[]⟩
def o39:Obj:=⟨(t "builtin_function_or_method"),none,(.fields #[(b "object.__init_subclass__"),(r 37)]),#[]⟩
def Wo(P:Params):Obj:=og 12 12 (s "minortables.errors" 187) P
def QK:Obj:=⟨z,none,.fields (fv.take 9).toArray,#[]⟩
def O2:Obj:=⟨(t "type"),none,(.cls ⟨"MinorError",[(t "ValueError")],[(r 24),(t "ValueError"),(t "Exception"),(t "BaseException"),(t "object")],23,"MinorError",true,[],[(r 37),(r 49)],false,none,false⟩),#[some (r 15),none,some (s "MinorError" 189),some (s "MinorError" 197),some (b "ValueError.__new__"),some (.bool true)]⟩
def o40:Obj:=⟨(t "tuple"),none,(.seq #[(r 24)] 0),#[]⟩
def o41:Obj:=⟨(t "builtin_function_or_method"),none,(.fields #[(b "type.__prepare__"),(t "type")]),#[]⟩
def o42(P:Params):Obj:=⟨(t "dict"),none,(.dict #[e P "__module__" 230 (s "minortables.errors" 187),e P "__qualname__" 232 (s "NoFit" 231),e P "__firstlineno__" 234 (i 6 233),e P "__static_attributes__" 235 (r 47)] 4),#[]⟩
def o45:Obj:=c "NoFit" 225 6 0 0 43 false 181 44 z z z 228
def o46:Obj:=⟨(t "frame"),none,.plain,#[some (r 45),some (r 3),some (r 42),none,some (s "minortables.errors" 187),none,some (r 0)]⟩
def o48(P:Params):Obj:=⟨(t "dict"),none,(.dict #[e P "__module__" 230 (s "minortables.errors" 187),e P "__firstlineno__" 234 (i 6 233),e P "__static_attributes__" 235 (r 47),e P "__doc__" 236 z] 2),#[]⟩
def o49:Obj:=⟨(t "type"),none,(.cls ⟨"NoFit",[(r 24)],[(r 49),(r 24),(t "ValueError"),(t "Exception"),(t "BaseException"),(t "object")],48,"NoFit",true,[],[],false,none,false⟩),#[some (r 40),none,some (s "NoFit" 223),some (s "NoFit" 231),some (b "ValueError.__new__"),some (.bool true)]⟩
def o50:Obj:=⟨(t "super"),none,(.fields #[(r 49),(r 49),(r 49)]),#[]⟩
def o51:Obj:=⟨(t "builtin_function_or_method"),none,(.fields #[(b "object.__init_subclass__"),(r 49)]),#[]⟩
def Wn(P:Params):Obj:=og 13 13 (s "minortables.errors" 187) P
def QJ:Obj:=⟨z,none,.fields (fv.take 12).toArray,#[]⟩
def O1:Obj:=⟨(t "type"),none,(.cls ⟨"MinorError",[(t "ValueError")],[(r 24),(t "ValueError"),(t "Exception"),(t "BaseException"),(t "object")],23,"MinorError",true,[],[(r 37),(r 49),(r 61)],false,none,false⟩),#[some (r 15),none,some (s "MinorError" 189),some (s "MinorError" 197),some (b "ValueError.__new__"),some (.bool true)]⟩
def o52:Obj:=⟨(t "tuple"),none,(.seq #[(r 24)] 0),#[]⟩
def o53:Obj:=⟨(t "builtin_function_or_method"),none,(.fields #[(b "type.__prepare__"),(t "type")]),#[]⟩
def o54(P:Params):Obj:=⟨(t "dict"),none,(.dict #[e P "__module__" 246 (s "minortables.errors" 187),e P "__qualname__" 248 (s "NoPlace" 247),e P "__firstlineno__" 250 (i 8 249),e P "__static_attributes__" 251 (r 59)] 4),#[]⟩
def o57:Obj:=c "NoPlace" 241 8 0 0 55 false 181 56 z z z 244
def o58:Obj:=⟨(t "frame"),none,.plain,#[some (r 57),some (r 3),some (r 54),none,some (s "minortables.errors" 187),none,some (r 0)]⟩
def o60(P:Params):Obj:=⟨(t "dict"),none,(.dict #[e P "__module__" 246 (s "minortables.errors" 187),e P "__firstlineno__" 250 (i 8 249),e P "__static_attributes__" 251 (r 59),e P "__doc__" 252 z] 2),#[]⟩
def o61:Obj:=⟨(t "type"),none,(.cls ⟨"NoPlace",[(r 24)],[(r 61),(r 24),(t "ValueError"),(t "Exception"),(t "BaseException"),(t "object")],60,"NoPlace",true,[],[],false,none,false⟩),#[some (r 52),none,some (s "NoPlace" 239),some (s "NoPlace" 247),some (b "ValueError.__new__"),some (.bool true)]⟩
def o62:Obj:=⟨(t "super"),none,(.fields #[(r 61),(r 61),(r 61)]),#[]⟩
def o63:Obj:=⟨(t "builtin_function_or_method"),none,(.fields #[(b "object.__init_subclass__"),(r 61)]),#[]⟩
def Wm(P:Params):Obj:=og 14 14 (s "minortables.errors" 187) P
def QH:Obj:=⟨z,none,.fields (fv.take 15).toArray,#[]⟩
def OJ:Obj:=⟨(t "type"),none,(.cls ⟨"MinorError",[(t "ValueError")],[(r 24),(t "ValueError"),(t "Exception"),(t "BaseException"),(t "object")],23,"MinorError",true,[],[(r 37),(r 49),(r 61),(r 73)],false,none,false⟩),#[some (r 15),none,some (s "MinorError" 189),some (s "MinorError" 197),some (b "ValueError.__new__"),some (.bool true)]⟩
def o64:Obj:=⟨(t "tuple"),none,(.seq #[(r 24)] 0),#[]⟩
def o65:Obj:=⟨(t "builtin_function_or_method"),none,(.fields #[(b "type.__prepare__"),(t "type")]),#[]⟩
def o66(P:Params):Obj:=⟨(t "dict"),none,(.dict #[e P "__module__" 262 (s "minortables.errors" 187),e P "__qualname__" 264 (s "NoStep" 263),e P "__firstlineno__" 266 (i 10 265),e P "__static_attributes__" 267 (r 71)] 4),#[]⟩
def o69:Obj:=c "NoStep" 257 10 0 0 67 false 181 68 z z z 260
def o70:Obj:=⟨(t "frame"),none,.plain,#[some (r 69),some (r 3),some (r 66),none,some (s "minortables.errors" 187),none,some (r 0)]⟩
def o72(P:Params):Obj:=⟨(t "dict"),none,(.dict #[e P "__module__" 262 (s "minortables.errors" 187),e P "__firstlineno__" 266 (i 10 265),e P "__static_attributes__" 267 (r 71),e P "__doc__" 268 z] 2),#[]⟩
def o73:Obj:=⟨(t "type"),none,(.cls ⟨"NoStep",[(r 24)],[(r 73),(r 24),(t "ValueError"),(t "Exception"),(t "BaseException"),(t "object")],72,"NoStep",true,[],[],false,none,false⟩),#[some (r 64),none,some (s "NoStep" 255),some (s "NoStep" 263),some (b "ValueError.__new__"),some (.bool true)]⟩
def o74:Obj:=⟨(t "super"),none,(.fields #[(r 73),(r 73),(r 73)]),#[]⟩
def o75:Obj:=⟨(t "builtin_function_or_method"),none,(.fields #[(b "object.__init_subclass__"),(r 73)]),#[]⟩
def Wj(P:Params):Obj:=og 15 15 (s "minortables.errors" 187) P
def QG:Obj:=⟨z,none,.fields (fv.take 18).toArray,#[]⟩
def OD:Obj:=⟨(t "type"),none,(.cls ⟨"MinorError",[(t "ValueError")],[(r 24),(t "ValueError"),(t "Exception"),(t "BaseException"),(t "object")],23,"MinorError",true,[],[(r 37),(r 49),(r 61),(r 73),(r 85)],false,none,false⟩),#[some (r 15),none,some (s "MinorError" 189),some (s "MinorError" 197),some (b "ValueError.__new__"),some (.bool true)]⟩
def o76:Obj:=⟨(t "tuple"),none,(.seq #[(r 24)] 0),#[]⟩
def o77:Obj:=⟨(t "builtin_function_or_method"),none,(.fields #[(b "type.__prepare__"),(t "type")]),#[]⟩
def o78(P:Params):Obj:=⟨(t "dict"),none,(.dict #[e P "__module__" 278 (s "minortables.errors" 187),e P "__qualname__" 280 (s "NoSteps" 279),e P "__firstlineno__" 282 (i 12 281),e P "__static_attributes__" 283 (r 83)] 4),#[]⟩
def o81:Obj:=c "NoSteps" 273 12 0 0 79 false 181 80 z z z 276
def o82:Obj:=⟨(t "frame"),none,.plain,#[some (r 81),some (r 3),some (r 78),none,some (s "minortables.errors" 187),none,some (r 0)]⟩
def o84(P:Params):Obj:=⟨(t "dict"),none,(.dict #[e P "__module__" 278 (s "minortables.errors" 187),e P "__firstlineno__" 282 (i 12 281),e P "__static_attributes__" 283 (r 83),e P "__doc__" 284 z] 2),#[]⟩
def o85:Obj:=⟨(t "type"),none,(.cls ⟨"NoSteps",[(r 24)],[(r 85),(r 24),(t "ValueError"),(t "Exception"),(t "BaseException"),(t "object")],84,"NoSteps",true,[],[],false,none,false⟩),#[some (r 76),none,some (s "NoSteps" 271),some (s "NoSteps" 279),some (b "ValueError.__new__"),some (.bool true)]⟩
def o86:Obj:=⟨(t "super"),none,(.fields #[(r 85),(r 85),(r 85)]),#[]⟩
def o87:Obj:=⟨(t "builtin_function_or_method"),none,(.fields #[(b "object.__init_subclass__"),(r 85)]),#[]⟩
def Wi(P:Params):Obj:=og 22 22 (s "minortables.checks" 303) P
def QF:Obj:=⟨z,none,.fields (fv.take 36).toArray,#[]⟩
def DK:Obj:=⟨(t "type"),none,(.cls ⟨"MinorError",[(t "ValueError")],[(r 24),(t "ValueError"),(t "Exception"),(t "BaseException"),(t "object")],23,"MinorError",true,[],[(r 37),(r 49),(r 61),(r 73),(r 85),(r 97)],false,none,false⟩),#[some (r 15),none,some (s "MinorError" 189),some (s "MinorError" 197),some (b "ValueError.__new__"),some (.bool true)]⟩
def o88:Obj:=⟨(t "tuple"),none,(.seq #[(r 24)] 0),#[]⟩
def o89:Obj:=⟨(t "builtin_function_or_method"),none,(.fields #[(b "type.__prepare__"),(t "type")]),#[]⟩
def o90(P:Params):Obj:=⟨(t "dict"),none,(.dict #[e P "__module__" 294 (s "minortables.errors" 187),e P "__qualname__" 296 (s "NoText" 295),e P "__firstlineno__" 298 (i 14 297),e P "__static_attributes__" 299 (r 95)] 4),#[]⟩
def o93:Obj:=c "NoText" 289 14 0 0 91 false 181 92 z z z 292
def o94:Obj:=⟨(t "frame"),none,.plain,#[some (r 93),some (r 3),some (r 90),none,some (s "minortables.errors" 187),none,some (r 0)]⟩
def o96(P:Params):Obj:=⟨(t "dict"),none,(.dict #[e P "__module__" 294 (s "minortables.errors" 187),e P "__firstlineno__" 298 (i 14 297),e P "__static_attributes__" 299 (r 95),e P "__doc__" 300 z] 2),#[]⟩
def o97:Obj:=⟨(t "type"),none,(.cls ⟨"NoText",[(r 24)],[(r 97),(r 24),(t "ValueError"),(t "Exception"),(t "BaseException"),(t "object")],96,"NoText",true,[],[],false,none,false⟩),#[some (r 88),none,some (s "NoText" 287),some (s "NoText" 295),some (b "ValueError.__new__"),some (.bool true)]⟩
def o98:Obj:=⟨(t "super"),none,(.fields #[(r 97),(r 97),(r 97)]),#[]⟩
def o99:Obj:=⟨(t "builtin_function_or_method"),none,(.fields #[(b "object.__init_subclass__"),(r 97)]),#[]⟩
def Q9:Obj:=tn ["thing"] 310
def Vp:Obj:=g (d 10) "is_whole"
def Q8:Obj:=c "is_whole" 307 18 1 3 100 true 181 101 (r 102) (r 103) (r 104) 311
def Q7:Obj:=u (d 10) "is_whole" (s "minortables.checks" 303) 105
def Q6:Obj:=tn ["thing","least","most"] 317
def o111:Obj:=g (d 11) "is_whole_within"
def Q5:Obj:=c "is_whole_within" 314 20 3 3 107 true 181 108 (r 109) (r 110) (r 111) 320
def Q0:Obj:=u (d 11) "is_whole_within" (s "minortables.checks" 303) 112
def QZ:Obj:=tn ["thing"] 326
def Vo:Obj:=g (d 12) "is_short_tuple"
def QX:Obj:=c "is_short_tuple" 323 22 1 3 114 true 181 115 (r 116) (r 117) (r 118) 327
def QW:Obj:=u (d 12) "is_short_tuple" (s "minortables.checks" 303) 119
def Vn:Obj:=g (d 13) "has_lines"
def QV:Obj:=c "has_lines" 330 24 1 3 121 true 181 122 z z (r 123) 333
def QT:Obj:=u (d 13) "has_lines" (s "minortables.checks" 303) 124
def QS:Obj:=tn ["table","told","row"] 339
def Vm:Obj:=g (d 14) "numbers_of"
def QB:Obj:=c "numbers_of" 336 28 1 3 126 true 181 127 (r 128) (r 129) (r 130) 342
def Qz:Obj:=u (d 14) "numbers_of" (s "minortables.checks" 303) 131
def Wh(P:Params):Obj:=og 35 35 (s "minortables.fractions" 374) P
def QD:Obj:=⟨z,none,.fields (fv.take 75).toArray,#[]⟩
def Vl:Obj:=g (d 15) "has_table_form"
def Qy:Obj:=c "has_table_form" 345 33 1 3 133 true 181 134 z z (r 135) 348
def Qx:Obj:=u (d 15) "has_table_form" (s "minortables.checks" 303) 136
def Qw:Obj:=tn ["thing","many"] 354
def Vk:Obj:=g (d 16) "is_place"
def Qv:Obj:=c "is_place" 351 35 2 3 138 true 181 139 (r 140) (r 141) (r 142) 356
def Qu:Obj:=u (d 16) "is_place" (s "minortables.checks" 303) 143
def Qt:Obj:=tn ["thing"] 362
def Vj:Obj:=g (d 17) "need_table"
def Qs:Obj:=c "need_table" 359 37 1 3 145 true 181 146 (r 147) (r 148) (r 149) 363
def Qq:Obj:=u (d 17) "need_table" (s "minortables.checks" 303) 150
def Qp:Obj:=tn ["thing","most"] 369
def Vi:Obj:=g (d 18) "need_size"
def Qo:Obj:=c "need_size" 366 40 2 3 152 true 181 153 (r 154) (r 155) (r 156) 371
def Qn:Obj:=u (d 18) "need_size" (s "minortables.checks" 303) 157
def Qm:Obj:=tn ["one","other","rest"] 379
def Vh:Obj:=g (d 20) "common_measure"
def Ql:Obj:=c "common_measure" 376 44 2 3 159 true 181 160 (r 161) (r 162) (r 163) 382
def Qk:Obj:=u (d 20) "common_measure" (s "minortables.fractions" 374) 164
def Qj:Obj:=tn ["up","down","measure"] 388
def Vg:Obj:=g (d 21) "lowest"
def Qi:Obj:=c "lowest" 385 50 2 3 166 true 181 167 (r 168) (r 169) (r 170) 391
def Qh:Obj:=u (d 21) "lowest" (s "minortables.fractions" 374) 171
def Qg:Obj:=tn ["thing"] 397
def Vf:Obj:=g (d 22) "has_fraction_form"
def Qf:Obj:=c "has_fraction_form" 394 55 1 3 173 true 181 174 (r 175) (r 176) (r 177) 398
def Qe:Obj:=u (d 22) "has_fraction_form" (s "minortables.fractions" 374) 178
def Qd:Obj:=tn ["thing"] 404
def Ve:Obj:=g (d 23) "is_fraction"
def Qc:Obj:=c "is_fraction" 401 61 1 3 180 true 181 181 (r 182) (r 183) (r 184) 405
def Qa:Obj:=u (d 23) "is_fraction" (s "minortables.fractions" 374) 185
def P0:Obj:=tn ["one","other"] 411
def Vd:Obj:=g (d 24) "sum_of"
def PX:Obj:=c "sum_of" 408 63 2 3 187 true 181 188 (r 189) (r 190) (r 191) 413
def PN:Obj:=u (d 24) "sum_of" (s "minortables.fractions" 374) 192
def PL:Obj:=tn ["one","other"] 419
def Vc:Obj:=g (d 25) "times_of"
def PK:Obj:=c "times_of" 416 65 2 3 194 true 181 195 (r 196) (r 197) (r 198) 421
def o200:Obj:=u (d 25) "times_of" (s "minortables.fractions" 374) 199
def PJ:Obj:=tn ["some","told","fraction"] 427
def Vb:Obj:=g (d 26) "all_sum"
def PB:Obj:=c "all_sum" 424 67 1 3 201 true 181 202 (r 203) (r 204) (r 205) 430
def Pz:Obj:=u (d 26) "all_sum" (s "minortables.fractions" 374) 206
def Va:Obj:=g (d 27) "need_fraction_table"
def Py:Obj:=c "need_fraction_table" 433 72 1 3 208 true 181 209 z z (r 210) 436
def Px:Obj:=u (d 27) "need_fraction_table" (s "minortables.fractions" 374) 211
def U9:Obj:=g (d 28) "row_as_fractions"
def Pu:Obj:=c "row_as_fractions" 439 75 1 3 213 true 181 214 z z (r 215) 442
def Pr:Obj:=u (d 28) "row_as_fractions" (s "minortables.fractions" 374) 216
def Wg(P:Params):Obj:=og 50 50 (s "minortables.steps" 477) P
def QC:Obj:=⟨z,none,.fields (fv.take 108).toArray,#[]⟩
def U8:Obj:=g (d 29) "as_fractions"
def Pq:Obj:=c "as_fractions" 445 77 1 3 218 true 181 219 z z (r 220) 448
def Pn:Obj:=u (d 29) "as_fractions" (s "minortables.fractions" 374) 221
def U7:Obj:=g (d 31) "column_of"
def Pk:Obj:=c "column_of" 453 81 2 3 223 true 181 224 z z (r 225) 456
def Pj:Obj:=u (d 31) "column_of" (s "minortables.tables" 451) 226
def U4:Obj:=g (d 32) "columns_of"
def Ph:Obj:=c "columns_of" 459 83 1 3 228 true 181 229 z z (r 230) 462
def Pb:Obj:=u (d 32) "columns_of" (s "minortables.tables" 451) 231
def U3:Obj:=g (d 33) "plain_row"
def Pa:Obj:=c "plain_row" 465 85 2 3 233 true 181 234 z z (r 235) 468
def O9:Obj:=u (d 33) "plain_row" (s "minortables.tables" 451) 236
def UW:Obj:=g (d 34) "plain"
def O8:Obj:=c "plain" 471 87 1 3 238 true 181 239 z z (r 240) 474
def O7:Obj:=u (d 34) "plain" (s "minortables.tables" 451) 241
def Ke(P:Params):Obj:=⟨(t "dict"),none,(.dict #[e P "up" 485 (s "down" 486),e P "down" 487 (s "up" 488),e P "scale" 489 (s "scale" 490)] 3),#[]⟩
def O6:Obj:=tn ["many","word","place","share"] 498
def UL:Obj:=g (d 40) "is_step_of"
def O5:Obj:=c "is_step_of" 495 95 4 3 244 true 181 245 (r 246) (r 247) (r 248) 502
def Oz:Obj:=u (d 40) "is_step_of" (s "minortables.steps" 477) 249
def Ox:Obj:=tn ["many","thing"] 508
def UJ:Obj:=g (d 41) "is_step"
def Ow:Obj:=c "is_step" 505 99 2 3 251 true 181 252 (r 253) (r 254) (r 255) 510
def Ov:Obj:=u (d 41) "is_step" (s "minortables.steps" 477) 256
def UG:Obj:=g (d 42) "need_steps"
def Ou:Obj:=c "need_steps" 513 103 2 3 258 true 181 259 z z (r 260) 516
def Ot:Obj:=u (d 42) "need_steps" (s "minortables.steps" 477) 261
def Uz:Obj:=g (d 43) "row_by_column"
def Oq:Obj:=c "row_by_column" 519 108 2 3 263 true 181 264 z z (r 265) 522
def Oo:Obj:=u (d 43) "row_by_column" (s "minortables.steps" 477) 266
def Uy:Obj:=g (d 44) "row_by_columns"
def Om:Obj:=c "row_by_columns" 525 110 2 3 268 true 181 269 z z (r 270) 528
def Ol:Obj:=u (d 44) "row_by_columns" (s "minortables.steps" 477) 271
def Ux:Obj:=g (d 45) "product_of"
def Oj:Obj:=c "product_of" 531 112 2 3 273 true 181 274 z z (r 275) 534
def Oi:Obj:=u (d 45) "product_of" (s "minortables.steps" 477) 276
def Nf(P:Params):Obj:=og 63 63 (s "law_minortables_k30_whole_steps" 578) P
def Iv:Obj:=⟨z,none,.fields (fv.take 147).toArray,#[]⟩
def Uw:Obj:=g (d 46) "table_of_step"
def Oh:Obj:=c "table_of_step" 537 119 4 3 278 true 181 279 z z (r 280) 540
def Og:Obj:=u (d 46) "table_of_step" (s "minortables.steps" 477) 281
def Oe:Obj:=tn ["many","steps","made","word","place","share"] 546
def Uv:Obj:=g (d 47) "made_by"
def Od:Obj:=c "made_by" 543 125 2 3 283 true 181 284 (r 285) (r 286) (r 287) 552
def Oc:Obj:=u (d 47) "made_by" (s "minortables.steps" 477) 288
def Uu:Obj:=g (d 48) "turned_steps"
def Ob:Obj:=c "turned_steps" 555 131 1 3 290 true 181 291 z z (r 292) 558
def Oa:Obj:=u (d 48) "turned_steps" (s "minortables.steps" 477) 293
def N8:Obj:=tn ["many","word","place","share","last"] 564
def Ut:Obj:=g (d 49) "flipped_step"
def o300:Obj:=c "flipped_step" 561 133 4 3 295 true 181 296 (r 297) (r 298) (r 299) 569
def N7:Obj:=u (d 49) "flipped_step" (s "minortables.steps" 477) 300
def Us:Obj:=g (d 50) "flipped_steps"
def N6:Obj:=c "flipped_steps" 572 136 2 3 302 true 181 303 z z (r 304) 575
def N5:Obj:=u (d 50) "flipped_steps" (s "minortables.steps" 477) 305
def NZ:Obj:=tn ["_law_script","_law_k"] 583
def Ur:Obj:=g (d 52) "_law_cell"
def NT:Obj:=c "_law_cell" 580 140 2 3 307 true 181 308 (r 309) (r 310) (r 311) 585
def NQ:Obj:=u (d 52) "_law_cell" (s "law_minortables_k30_whole_steps" 578) 312
def NP:Obj:=tn ["_law_script","_law_k","_law_many","_law_drawn"] 591
def Uq:Obj:=g (d 53) "_law_pick"
def NK:Obj:=c "_law_pick" 588 146 3 3 314 true 181 315 (r 316) (r 317) (r 318) 595
def Nz:Obj:=u (d 53) "_law_pick" (s "law_minortables_k30_whole_steps" 578) 319
def Uo:Obj:=g (d 54) "_law_table"
def Um:Obj:=c "_law_table" 598 149 4 3 321 true 181 322 z z (r 323) 601
def Ul:Obj:=u (d 54) "_law_table" (s "law_minortables_k30_whole_steps" 578) 324
def Uk:Obj:=tn ["_law_script","_law_at"] 607
def Uj:Obj:=g (d 55) "_law_size"
def Ui:Obj:=c "_law_size" 604 155 2 3 326 true 181 327 (r 328) (r 329) (r 330) 609
def Uh:Obj:=u (d 55) "_law_size" (s "law_minortables_k30_whole_steps" 578) 331
def Ug:Obj:=tn ["_law_one","_law_other","_law_made_here","_law_row","_law_line","_law_column","_law_total","_law_k"] 615
def Ue:Obj:=g (d 56) "_law_times"
def Ud:Obj:=c "_law_times" 612 157 2 3 333 true 181 334 (r 335) (r 336) (r 337) 623
def Uc:Obj:=u (d 56) "_law_times" (s "law_minortables_k30_whole_steps" 578) 338
def Ub:Obj:=g (d 57) "_law_worth"
def Ua:Obj:=c "_law_worth" 626 168 1 3 340 true 181 341 z z (r 342) 629
def TY:Obj:=u (d 57) "_law_worth" (s "law_minortables_k30_whole_steps" 578) 343
def TV:Obj:=g (d 58) "_law_some"
def TQ:Obj:=c "_law_some" 632 178 2 3 345 true 181 346 z z (r 347) 635
def TJ:Obj:=u (d 58) "_law_some" (s "law_minortables_k30_whole_steps" 578) 348
def TF:Obj:=g (d 59) "_law_part"
def Tz:Obj:=c "_law_part" 638 186 3 3 350 true 181 351 z z (r 352) 641
def Tw:Obj:=u (d 59) "_law_part" (s "law_minortables_k30_whole_steps" 578) 353
def Nb(P:Params):Obj:=og 76 76 (s "law_minortables_k30_whole_steps" 578) P
def Iu:Obj:=⟨z,none,.fields (fv.take 186).toArray,#[]⟩
def Tv:Obj:=tn ["_law_table_here","_law_made_here","_law_size_here","_law_some_here","_law_others"] 647
def Tt:Obj:=g (d 60) "_law_minors"
def Tr:Obj:=c "_law_minors" 644 188 1 3 355 true 181 356 (r 357) (r 358) (r 359) 652
def Tq:Obj:=u (d 60) "_law_minors" (s "law_minortables_k30_whole_steps" 578) 360
def Tp:Obj:=g (d 61) "_law_places"
def Ny:Obj:=c "_law_places" 655 195 1 3 362 true 181 363 z z (r 364) 658
def Nx:Obj:=u (d 61) "_law_places" (s "law_minortables_k30_whole_steps" 578) 365
def Nv:Obj:=tn ["_law_thing","_law_place","_law_new","_law_k"] 664
def Tn:Obj:=g (d 62) "_law_put"
def Nu:Obj:=c "_law_put" 661 201 3 3 367 true 181 368 (r 369) (r 370) (r 371) 668
def Nt:Obj:=u (d 62) "_law_put" (s "law_minortables_k30_whole_steps" 578) 372
def Nr:Obj:=tn ["_law_script","_law_at","_law_thing","_law_places_here","_law_place","_law_here","_law_k","_law_some_here"] 674
def Tj:Obj:=g (d 63) "_law_spoilt_thing"
def Nq:Obj:=c "_law_spoilt_thing" 671 206 3 3 374 true 181 375 (r 376) (r 377) (r 378) 682
def Np:Obj:=u (d 63) "_law_spoilt_thing" (s "law_minortables_k30_whole_steps" 578) 379
def Ti:Obj:=g (d 64) "_law_is_table"
def Tg:Obj:=c "_law_is_table" 685 214 2 3 381 true 181 382 z z (r 383) 688
def Tf:Obj:=u (d 64) "_law_is_table" (s "law_minortables_k30_whole_steps" 578) 384
def Nm:Obj:=tn ["_law_script","_law_at"] 694
def Te:Obj:=g (d 65) "_law_share"
def Nk:Obj:=c "_law_share" 691 226 2 3 386 true 181 387 (r 388) (r 389) (r 390) 696
def Nj:Obj:=u (d 65) "_law_share" (s "law_minortables_k30_whole_steps" 578) 391
def Ni:Obj:=tn ["_law_script","_law_at","_law_many","_law_most","_law_made_here","_law_k","_law_base","_law_word_here","_law_share_here"] 702
def Td:Obj:=g (d 66) "_law_steps"
def Nh:Obj:=c "_law_steps" 699 228 4 3 393 true 181 394 (r 395) (r 396) (r 397) 711
def Ng:Obj:=u (d 66) "_law_steps" (s "law_minortables_k30_whole_steps" 578) 398
def M9:Obj:=tn ["_law_up","_law_down","_law_one","_law_other"] 717
def Tc:Obj:=g (d 67) "_law_lowest"
def M8:Obj:=c "_law_lowest" 714 239 2 3 400 true 181 401 (r 402) (r 403) (r 404) 721
def M7:Obj:=u (d 67) "_law_lowest" (s "law_minortables_k30_whole_steps" 578) 405
def M6:Obj:=tn ["_law_some_here","_law_up","_law_down","_law_one"] 727
def SX:Obj:=g (d 68) "_law_sum"
def M5:Obj:=c "_law_sum" 724 244 1 3 407 true 181 408 (r 409) (r 410) (r 411) 731
def M4:Obj:=u (d 68) "_law_sum" (s "law_minortables_k30_whole_steps" 578) 412
def SQ:Obj:=g (d 69) "_law_step_table"
def MP:Obj:=c "_law_step_table" 734 249 2 3 414 true 181 415 z z (r 416) 737
def MN:Obj:=u (d 69) "_law_step_table" (s "law_minortables_k30_whole_steps" 578) 417
def SN:Obj:=g (d 70) "_law_made"
def MK:Obj:=c "_law_made" 740 256 2 3 419 true 181 420 z z (r 421) 743
def MJ:Obj:=u (d 70) "_law_made" (s "law_minortables_k30_whole_steps" 578) 422
def MF:Obj:=tn ["_law_kept","_law_kinds"] 749
def SM:Obj:=g (d 71) "_law_word"
def Mz:Obj:=c "_law_word" 746 269 1 3 424 true 181 425 (r 426) (r 427) (r 428) 751
def Mx:Obj:=u (d 71) "_law_word" (s "law_minortables_k30_whole_steps" 578) 429
def Mw:Obj:=tn ["_law_what","_law_many","_law_steps_here","_law_kept","_law_answer","e"] 757
def SJ:Obj:=g (d 72) "_law_do"
def Mv:Obj:=c "_law_do" 754 275 3 3 431 true 181 432 (r 433) (r 434) (r 435) 763
def Mu:Obj:=u (d 72) "_law_do" (s "law_minortables_k30_whole_steps" 578) 436
def DG(P:Params):Obj:=og 78 78 (s "law_minortables_k30_whole_steps" 578) P
def Ah:Obj:=⟨z,none,.fields (fv.take 192).toArray,#[]⟩
def Mt:Obj:=tn ["_law_many","_law_thing","_law_word_here","_law_place","_law_share_here","_law_one"] 769
def Sy:Obj:=g (d 73) "_law_is_step"
def Ms:Obj:=c "_law_is_step" 766 285 2 3 438 true 181 439 (r 440) (r 441) (r 442) 775
def o444:Obj:=u (d 73) "_law_is_step" (s "law_minortables_k30_whole_steps" 578) 443
def Sx:Obj:=g (d 74) "law"
def Mr:Obj:=c "law" 778 299 1 3 445 true 181 446 z z (r 447) 781
def Mq:Obj:=u (d 74) "law" (s "law_minortables_k30_whole_steps" 578) 448
def Ha(P:Params):Heap:=⟨⟨[boot_o_0 P,boot_o_1 P,boot_o_2 P,boot_o_3 P,boot_o_4 P,boot_o_5 P,boot_o_6 P,boot_o_7 P,boot_o_8 P,boot_o_9 P,boot_o_10 P,y,o12,o13,o14]⟩,{}⟩
def T0(P:Params):BT:=I .nil 0 [boot_o_0 P,boot_o_1 P,boot_o_2 P,boot_o_3 P,boot_o_4 P,boot_o_5 P,boot_o_6 P,boot_o_7 P,boot_o_8 P,boot_o_9 P,boot_o_10 P,y,o12,o13,o14]
def T1(P:Params):BT:=I (T0 P) 15 [o15,o16,o17 P,y,x,o20,o21,y,o23 P,o24,o25,o26,o27] |>.set 3 (fun _=>Wr P) |>.set 12 (fun _=>QM)
def T2(P:Params):BT:=I (T1 P) 28 [o28,o29,o30 P,y,x,o33,o34,y,o36 P,o37,o38,o39] |>.set 3 (fun _=>Wq P) |>.set 12 (fun _=>QL) |>.set 24 (fun _=>O4)
def T3(P:Params):BT:=I (T2 P) 40 [o40,o41,o42 P,y,x,o45,o46,y,o48 P,o49,o50,o51] |>.set 3 (fun _=>Wo P) |>.set 12 (fun _=>QK) |>.set 24 (fun _=>O2)
def T4(P:Params):BT:=I (T3 P) 52 [o52,o53,o54 P,y,x,o57,o58,y,o60 P,o61,o62,o63] |>.set 3 (fun _=>Wn P) |>.set 12 (fun _=>QJ) |>.set 24 (fun _=>O1)
def T5(P:Params):BT:=I (T4 P) 64 [o64,o65,o66 P,y,x,o69,o70,y,o72 P,o73,o74,o75] |>.set 3 (fun _=>Wm P) |>.set 12 (fun _=>QH) |>.set 24 (fun _=>OJ)
def T6(P:Params):BT:=I (T5 P) 76 [o76,o77,o78 P,y,x,o81,o82,y,o84 P,o85,o86,o87] |>.set 3 (fun _=>Wj P) |>.set 12 (fun _=>QG) |>.set 24 (fun _=>OD)
def T7(P:Params):BT:=I (T6 P) 88 [o88,o89,o90 P,y,x,o93,o94,y,o96 P,o97,o98,o99,y,x,Q9,y,Vp,Q8,Q7,y,x,Q6,y,o111,Q5,Q0,y,x,QZ,y,Vo,QX,QW,y,x,Vn,QV,QT,y,x,QS,y,Vm,QB,Qz] |>.set 3 (fun _=>Wi P) |>.set 12 (fun _=>QF) |>.set 24 (fun _=>DK)
def T8(P:Params):BT:=I (T7 P) 133 [y,x,Vl,Qy,Qx,y,x,Qw,y,Vk,Qv,Qu,y,x,Qt,y,Vj,Qs,Qq,y,x,Qp,y,Vi,Qo,Qn,y,x,Qm,y,Vh,Ql,Qk,y,x,Qj,y,Vg,Qi,Qh,y,x,Qg,y,Vf,Qf,Qe,y,x,Qd,y,Ve,Qc,Qa,y,x,P0,y,Vd,PX,PN,y,x,PL,y,Vc,PK,o200,y,x,PJ,y,Vb,PB,Pz,y,x,Va,Py,Px,y,x,U9,Pu,Pr] |>.set 3 (fun _=>Wh P) |>.set 12 (fun _=>QD)
def T9(P:Params):BT:=I (T8 P) 218 [y,x,U8,Pq,Pn,y,x,U7,Pk,Pj,y,x,U4,Ph,Pb,y,x,U3,Pa,O9,y,x,UW,O8,O7,Ke P,y,x,O6,y,UL,O5,Oz,y,x,Ox,y,UJ,Ow,Ov,y,x,UG,Ou,Ot,y,x,Uz,Oq,Oo,y,x,Uy,Om,Ol,y,x,Ux,Oj,Oi] |>.set 3 (fun _=>Wg P) |>.set 12 (fun _=>QC)
def T10(P:Params):BT:=I (T9 P) 278 [y,x,Uw,Oh,Og,y,x,Oe,y,Uv,Od,Oc,y,x,Uu,Ob,Oa,y,x,N8,y,Ut,o300,N7,y,x,Us,N6,N5,y,x,NZ,y,Ur,NT,NQ,y,x,NP,y,Uq,NK,Nz,y,x,Uo,Um,Ul,y,x,Uk,y,Uj,Ui,Uh,y,x,Ug,y,Ue,Ud,Uc,y,x,Ub,Ua,TY,y,x,TV,TQ,TJ,y,x,TF,Tz,Tw] |>.set 3 (fun _=>Nf P) |>.set 12 (fun _=>Iv)
def T11(P:Params):BT:=I (T10 P) 355 [y,x,Tv,y,Tt,Tr,Tq,y,x,Tp,Ny,Nx,y,x,Nv,y,Tn,Nu,Nt,y,x,Nr,y,Tj,Nq,Np,y,x,Ti,Tg,Tf,y,x,Nm,y,Te,Nk,Nj,y,x,Ni,y,Td,Nh,Ng,y,x,M9,y,Tc,M8,M7,y,x,M6,y,SX,M5,M4,y,x,SQ,MP,MN,y,x,SN,MK,MJ,y,x,MF,y,SM,Mz,Mx,y,x,Mw,y,SJ,Mv,Mu] |>.set 3 (fun _=>Nb P) |>.set 12 (fun _=>Iu)
def T12(P:Params):BT:=I (T11 P) 438 [y,x,Mt,y,Sy,Ms,o444,y,x,Sx,Mr,Mq] |>.set 3 (fun _=>DG P) |>.set 12 (fun _=>Ah)
def H1(P:Params):Heap:=⟨⟨[boot_o_0 P,boot_o_1 P,boot_o_2 P,DG P,boot_o_4 P,boot_o_5 P,boot_o_6 P,boot_o_7 P,boot_o_8 P,boot_o_9 P,boot_o_10 P,y,Ah,o13,o14,o15,o16,o17 P,y,x,o20,o21,y,o23 P,DK,o25,o26,o27,o28,o29,o30 P,y,x,o33,o34,y,o36 P,o37,o38,o39,o40,o41,o42 P,y,x,o45,o46,y,o48 P,o49,o50,o51,o52,o53,o54 P,y,x,o57,o58,y,o60 P,o61,o62,o63,o64,o65,o66 P,y,x,o69,o70,y,o72 P,o73,o74,o75,o76,o77,o78 P,y,x,o81,o82,y,o84 P,o85,o86,o87,o88,o89,o90 P,y,x,o93,o94,y,o96 P,o97,o98,o99,y,x,Q9,y,Vp,Q8,Q7,y,x,Q6,y,o111,Q5,Q0,y,x,QZ,y,Vo,QX,QW,y,x,Vn,QV,QT,y,x,QS,y,Vm,QB,Qz,y,x,Vl,Qy,Qx,y,x,Qw,y,Vk,Qv,Qu,y,x,Qt,y,Vj,Qs,Qq,y,x,Qp,y,Vi,Qo,Qn,y,x,Qm,y,Vh,Ql,Qk,y,x,Qj,y,Vg,Qi,Qh,y,x,Qg,y,Vf,Qf,Qe,y,x,Qd,y,Ve,Qc,Qa,y,x,P0,y,Vd,PX,PN,y,x,PL,y,Vc,PK,o200,y,x,PJ,y,Vb,PB,Pz,y,x,Va,Py,Px,y,x,U9,Pu,Pr,y,x,U8,Pq,Pn,y,x,U7,Pk,Pj,y,x,U4,Ph,Pb,y,x,U3,Pa,O9,y,x,UW,O8,O7,Ke P,y,x,O6,y,UL,O5,Oz,y,x,Ox,y,UJ,Ow,Ov,y,x,UG,Ou,Ot,y,x,Uz,Oq,Oo,y,x,Uy,Om,Ol,y,x,Ux,Oj,Oi,y,x,Uw,Oh,Og,y,x,Oe,y,Uv,Od,Oc,y,x,Uu,Ob,Oa,y,x,N8,y,Ut,o300,N7,y,x,Us,N6,N5,y,x,NZ,y,Ur,NT,NQ,y,x,NP,y,Uq,NK,Nz,y,x,Uo,Um,Ul,y,x,Uk,y,Uj,Ui,Uh,y,x,Ug,y,Ue,Ud,Uc,y,x,Ub,Ua,TY,y,x,TV,TQ,TJ,y,x,TF,Tz,Tw,y,x,Tv,y,Tt,Tr,Tq,y,x,Tp,Ny,Nx,y,x,Nv,y,Tn,Nu,Nt,y,x,Nr,y,Tj,Nq,Np,y,x,Ti,Tg,Tf,y,x,Nm,y,Te,Nk,Nj,y,x,Ni,y,Td,Nh,Ng,y,x,M9,y,Tc,M8,M7,y,x,M6,y,SX,M5,M4,y,x,SQ,MP,MN,y,x,SN,MK,MJ,y,x,MF,y,SM,Mz,Mx,y,x,Mw,y,SJ,Mv,Mu,y,x,Mt,y,Sy,Ms,o444,y,x,Sx,Mr,Mq]⟩,{}⟩
def S0(w:World)(os:OsState):SharedT:=⟨T0 w.params,15,{},⟨[]⟩,{},187,os⟩
def S1(w:World)(os:OsState):SharedT:=⟨T1 w.params,28,{},⟨[]⟩,{},207,os⟩
def S2(w:World)(os:OsState):SharedT:=⟨T2 w.params,40,{},⟨[]⟩,{},223,os⟩
def S3(w:World)(os:OsState):SharedT:=⟨T3 w.params,52,{},⟨[]⟩,{},239,os⟩
def S4(w:World)(os:OsState):SharedT:=⟨T4 w.params,64,{},⟨[]⟩,{},255,os⟩
def S5(w:World)(os:OsState):SharedT:=⟨T5 w.params,76,{},⟨[]⟩,{},271,os⟩
def S6(w:World)(os:OsState):SharedT:=⟨T6 w.params,88,{},⟨[]⟩,{},287,os⟩
def S7(w:World)(os:OsState):SharedT:=⟨T7 w.params,133,{},⟨[]⟩,{},345,os⟩
def S8(w:World)(os:OsState):SharedT:=⟨T8 w.params,218,{},⟨[]⟩,{},445,os⟩
def S9(w:World)(os:OsState):SharedT:=⟨T9 w.params,278,{},⟨[]⟩,{},537,os⟩
def S10(w:World)(os:OsState):SharedT:=⟨T10 w.params,355,{},⟨[]⟩,{},644,os⟩
def S11(w:World)(os:OsState):SharedT:=⟨T11 w.params,438,{},⟨[]⟩,{},766,os⟩
def S12(w:World)(os:OsState):SharedT:=⟨T12 w.params,450,{},⟨[]⟩,{},784,os⟩
def S(w:World)(os:OsState):Shared:=⟨H1 w.params,⟨[]⟩,{},784,os⟩
def E:Env:={ scope:=p.main.scope,locals:=mainNs,globals:=mainNs,cells:=[],code:=(r 13),frame:=some 14 }
abbrev C:Code:=.body (behindTheImports p) E
abbrev B:List Frame:=[topFrame ⟨0,0,0,0⟩]
def l1:List Stmt:=((behindTheImports p).drop 0).take 2
def l2:List Stmt:=((behindTheImports p).drop 2).take 1
def l3:List Stmt:=((behindTheImports p).drop 3).take 1
def l4:List Stmt:=((behindTheImports p).drop 4).take 1
def l5:List Stmt:=((behindTheImports p).drop 5).take 1
def l6:List Stmt:=((behindTheImports p).drop 6).take 1
def l7:List Stmt:=((behindTheImports p).drop 7).take 8
def l8:List Stmt:=((behindTheImports p).drop 15).take 14
def l9:List Stmt:=((behindTheImports p).drop 29).take 17
def l10:List Stmt:=((behindTheImports p).drop 46).take 14
def l11:List Stmt:=((behindTheImports p).drop 60).take 13
def l12:List Stmt:=((behindTheImports p).drop 73).take 2
theorem pre(w:World)(os:OsState):topGo treeTable p w 11 (some (r 6)) 12 ⟨boot_heap w.params,Array.mk [],boot_drawn,boot_toks,os⟩ (topStub p)=some (⟨Ha w.params,⟨[]⟩,{},187,os⟩,⟨denote treeTable C,C,⟨0,0,0,0⟩,B⟩):=goT (by kernel_rfl)
theorem blk(w:World)(os:OsState):segRun treeTable p w 11 (some (r 6)) 1 1 ⟨Ha w.params,⟨[]⟩,{},187,os⟩ (blockOf (behindTheImports p) E C ⟨0,0,0,0⟩ B)=some (.next,(S0 w os).abs,C,⟨0,0,0,0⟩):=V5 (by kernel_rfl)
theorem p1(w:World)(os:OsState):segRun treeTable p w 11 (some (r 6)) 1 196 (S0 w os).abs (piecesOf l1 E C ⟨0,0,0,0⟩ B)=some (.next,(S1 w os).abs,C,⟨2,0,3,8⟩):=segRun_of (rZ (by kernel_rfl))
theorem p2(w:World)(os:OsState):segRun treeTable p w 11 (some (r 6)) 1 214 (S1 w os).abs (piecesOf l2 E C ⟨2,0,3,8⟩ B)=some (.next,(S2 w os).abs,C,⟨4,0,5,8⟩):=segRun_of (rZ (by kernel_rfl))
theorem p3(w:World)(os:OsState):segRun treeTable p w 11 (some (r 6)) 1 214 (S2 w os).abs (piecesOf l3 E C ⟨4,0,5,8⟩ B)=some (.next,(S3 w os).abs,C,⟨6,0,7,8⟩):=segRun_of (rZ (by kernel_rfl))
theorem p4(w:World)(os:OsState):segRun treeTable p w 11 (some (r 6)) 1 214 (S3 w os).abs (piecesOf l4 E C ⟨6,0,7,8⟩ B)=some (.next,(S4 w os).abs,C,⟨8,0,9,8⟩):=segRun_of (rZ (by kernel_rfl))
theorem p5(w:World)(os:OsState):segRun treeTable p w 11 (some (r 6)) 1 214 (S4 w os).abs (piecesOf l5 E C ⟨8,0,9,8⟩ B)=some (.next,(S5 w os).abs,C,⟨10,0,11,8⟩):=segRun_of (rZ (by kernel_rfl))
theorem p6(w:World)(os:OsState):segRun treeTable p w 11 (some (r 6)) 1 214 (S5 w os).abs (piecesOf l6 E C ⟨10,0,11,8⟩ B)=some (.next,(S6 w os).abs,C,⟨12,0,13,8⟩):=segRun_of (rZ (by kernel_rfl))
theorem p7(w:World)(os:OsState):segRun treeTable p w 11 (some (r 6)) 1 378 (S6 w os).abs (piecesOf l7 E C ⟨12,0,13,8⟩ B)=some (.next,(S7 w os).abs,C,⟨28,0,32,15⟩):=segRun_of (rZ (by kernel_rfl))
theorem p8(w:World)(os:OsState):segRun treeTable p w 11 (some (r 6)) 1 388 (S7 w os).abs (piecesOf l8 E C ⟨28,0,32,15⟩ B)=some (.next,(S8 w os).abs,C,⟨75,0,76,49⟩):=segRun_of (rZ (by kernel_rfl))
theorem p9(w:World)(os:OsState):segRun treeTable p w 11 (some (r 6)) 1 397 (S8 w os).abs (piecesOf l9 E C ⟨75,0,76,49⟩ B)=some (.next,(S9 w os).abs,C,⟨112,0,118,63⟩):=byRow2 "special-get-raises" (P:=fun w=>∀ os,segRun treeTable p w 11 (some (r 6)) 1 397 (S8 w os).abs (piecesOf l9 E C ⟨75,0,76,49⟩ B)=some (.next,(S9 w os).abs,C,⟨112,0,118,63⟩)) (fun w os=>segRun_of (rZ (by kernel_rfl))) (fun w os=>segRun_of (rZ (by kernel_rfl))) w os
theorem p10(w:World)(os:OsState):segRun treeTable p w 11 (some (r 6)) 1 387 (S9 w os).abs (piecesOf l10 E C ⟨112,0,118,63⟩ B)=some (.next,(S10 w os).abs,C,⟨186,0,187,129⟩):=segRun_of (rZ (by kernel_rfl))
theorem p11(w:World)(os:OsState):segRun treeTable p w 11 (some (r 6)) 1 401 (S10 w os).abs (piecesOf l11 E C ⟨186,0,187,129⟩ B)=some (.next,(S11 w os).abs,C,⟨275,0,284,31⟩):=segRun_of (rZ (by kernel_rfl))
theorem p12(w:World)(os:OsState):segRun treeTable p w 11 (some (r 6)) 1 61 (S11 w os).abs (piecesOf l12 E C ⟨275,0,284,31⟩ B)=some (.next,(S12 w os).abs,C,⟨299,0,328,91⟩):=segRun_of (rZ (by kernel_rfl))
theorem fin(w:World)(os:OsState):topRun treeTable p w 11 (some (r 6)) 2 (S12 w os).abs ⟨doneF .next,C,⟨299,0,328,91⟩,B⟩=some (S w os):=VJ (by kernel_rfl)
abbrev M:Nat:=(12+(1+(196+(214+(214+(214+(214+(214+(378+(388+(397+(387+(401+(61+2))))))))))))))
theorem lst:behindTheImports p=(l1++(l2++(l3++(l4++(l5++(l6++(l7++(l8++(l9++(l10++(l11++(l12++[])))))))))))):=by kernel_rfl
theorem r12(w:World)(os:OsState):topRun treeTable p w 11 (some (r 6)) 2 (S12 w os).abs (restOf [] E C ⟨299,0,328,91⟩ B)=some (S w os):=fin w os
theorem r11(w:World)(os:OsState):topRun treeTable p w 11 (some (r 6)) (61+2) (S11 w os).abs (restOf (l12++[]) E C ⟨275,0,284,31⟩ B)=some (S w os):=piece_app (p12 w os) (r12 w os)
theorem r10(w:World)(os:OsState):topRun treeTable p w 11 (some (r 6)) (401+(61+2)) (S10 w os).abs (restOf (l11++(l12++[])) E C ⟨186,0,187,129⟩ B)=some (S w os):=piece_app (p11 w os) (r11 w os)
theorem r9(w:World)(os:OsState):topRun treeTable p w 11 (some (r 6)) (387+(401+(61+2))) (S9 w os).abs (restOf (l10++(l11++(l12++[]))) E C ⟨112,0,118,63⟩ B)=some (S w os):=piece_app (p10 w os) (r10 w os)
theorem r8(w:World)(os:OsState):topRun treeTable p w 11 (some (r 6)) (397+(387+(401+(61+2)))) (S8 w os).abs (restOf (l9++(l10++(l11++(l12++[])))) E C ⟨75,0,76,49⟩ B)=some (S w os):=piece_app (p9 w os) (r9 w os)
theorem r7(w:World)(os:OsState):topRun treeTable p w 11 (some (r 6)) (388+(397+(387+(401+(61+2))))) (S7 w os).abs (restOf (l8++(l9++(l10++(l11++(l12++[]))))) E C ⟨28,0,32,15⟩ B)=some (S w os):=piece_app (p8 w os) (r8 w os)
theorem r6(w:World)(os:OsState):topRun treeTable p w 11 (some (r 6)) (378+(388+(397+(387+(401+(61+2)))))) (S6 w os).abs (restOf (l7++(l8++(l9++(l10++(l11++(l12++[])))))) E C ⟨12,0,13,8⟩ B)=some (S w os):=piece_app (p7 w os) (r7 w os)
theorem r5(w:World)(os:OsState):topRun treeTable p w 11 (some (r 6)) (214+(378+(388+(397+(387+(401+(61+2))))))) (S5 w os).abs (restOf (l6++(l7++(l8++(l9++(l10++(l11++(l12++[]))))))) E C ⟨10,0,11,8⟩ B)=some (S w os):=piece_app (p6 w os) (r6 w os)
theorem r4(w:World)(os:OsState):topRun treeTable p w 11 (some (r 6)) (214+(214+(378+(388+(397+(387+(401+(61+2)))))))) (S4 w os).abs (restOf (l5++(l6++(l7++(l8++(l9++(l10++(l11++(l12++[])))))))) E C ⟨8,0,9,8⟩ B)=some (S w os):=piece_app (p5 w os) (r5 w os)
theorem r3(w:World)(os:OsState):topRun treeTable p w 11 (some (r 6)) (214+(214+(214+(378+(388+(397+(387+(401+(61+2))))))))) (S3 w os).abs (restOf (l4++(l5++(l6++(l7++(l8++(l9++(l10++(l11++(l12++[]))))))))) E C ⟨6,0,7,8⟩ B)=some (S w os):=piece_app (p4 w os) (r4 w os)
theorem r2(w:World)(os:OsState):topRun treeTable p w 11 (some (r 6)) (214+(214+(214+(214+(378+(388+(397+(387+(401+(61+2)))))))))) (S2 w os).abs (restOf (l3++(l4++(l5++(l6++(l7++(l8++(l9++(l10++(l11++(l12++[])))))))))) E C ⟨4,0,5,8⟩ B)=some (S w os):=piece_app (p3 w os) (r3 w os)
theorem r1(w:World)(os:OsState):topRun treeTable p w 11 (some (r 6)) (214+(214+(214+(214+(214+(378+(388+(397+(387+(401+(61+2))))))))))) (S1 w os).abs (restOf (l2++(l3++(l4++(l5++(l6++(l7++(l8++(l9++(l10++(l11++(l12++[]))))))))))) E C ⟨2,0,3,8⟩ B)=some (S w os):=piece_app (p2 w os) (r2 w os)
theorem r0(w:World)(os:OsState):topRun treeTable p w 11 (some (r 6)) (196+(214+(214+(214+(214+(214+(378+(388+(397+(387+(401+(61+2)))))))))))) (S0 w os).abs (restOf (l1++(l2++(l3++(l4++(l5++(l6++(l7++(l8++(l9++(l10++(l11++(l12++[])))))))))))) E C ⟨0,0,0,0⟩ B)=some (S w os):=piece_app (p1 w os) (r1 w os)
theorem run(w:World)(os:OsState):topRun treeTable p w 11 (some (r 6)) M ⟨boot_heap w.params,Array.mk [],boot_drawn,boot_toks,os⟩ (topStub p)=some (S w os):=go_top (pre w os) (piece_block (blk w os) (Le lst (r0 w os)))
def K(P:Params):Frag:=[(2,boot_o_2 P),(3,DG P),(15,o15),(22,y),(23,o23 P),(24,DK),(25,o25),(28,o28),(35,y),(36,o36 P),(37,o37),(40,o40),(47,y),(48,o48 P),(49,o49),(52,o52),(59,y),(60,o60 P),(61,o61),(64,o64),(71,y),(72,o72 P),(73,o73),(76,o76),(83,y),(84,o84 P),(85,o85),(88,o88),(95,y),(96,o96 P),(97,o97),(100,y),(102,Q9),(103,y),(105,Q8),(106,Q7),(107,y),(109,Q6),(110,y),(112,Q5),(113,Q0),(114,y),(116,QZ),(117,y),(119,QX),(120,QW),(121,y),(124,QV),(125,QT),(126,y),(128,QS),(129,y),(131,QB),(132,Qz),(133,y),(136,Qy),(137,Qx),(138,y),(140,Qw),(141,y),(143,Qv),(144,Qu),(145,y),(147,Qt),(148,y),(150,Qs),(151,Qq),(152,y),(154,Qp),(155,y),(157,Qo),(158,Qn),(159,y),(161,Qm),(162,y),(164,Ql),(165,Qk),(166,y),(168,Qj),(169,y),(171,Qi),(172,Qh),(173,y),(175,Qg),(176,y),(178,Qf),(179,Qe),(180,y),(182,Qd),(183,y),(185,Qc),(186,Qa),(187,y),(189,P0),(190,y),(192,PX),(193,PN),(194,y),(196,PL),(197,y),(199,PK),(200,o200),(201,y),(203,PJ),(204,y),(206,PB),(207,Pz),(208,y),(211,Py),(212,Px),(213,y),(216,Pu),(217,Pr),(218,y),(221,Pq),(222,Pn),(223,y),(226,Pk),(227,Pj),(228,y),(231,Ph),(232,Pb),(233,y),(236,Pa),(237,O9),(238,y),(241,O8),(242,O7),(243,Ke P),(244,y),(246,O6),(247,y),(249,O5),(250,Oz),(251,y),(253,Ox),(254,y),(256,Ow),(257,Ov),(258,y),(261,Ou),(262,Ot),(263,y),(266,Oq),(267,Oo),(268,y),(271,Om),(272,Ol),(273,y),(276,Oj),(277,Oi),(278,y),(281,Oh),(282,Og),(283,y),(285,Oe),(286,y),(288,Od),(289,Oc),(290,y),(293,Ob),(294,Oa),(295,y),(297,N8),(298,y),(300,o300),(301,N7),(302,y),(305,N6),(306,N5),(307,y),(309,NZ),(310,y),(312,NT),(313,NQ),(314,y),(316,NP),(317,y),(319,NK),(320,Nz),(362,y),(365,Ny),(366,Nx),(367,y),(369,Nv),(370,y),(372,Nu),(373,Nt),(374,y),(376,Nr),(377,y),(379,Nq),(380,Np),(386,y),(388,Nm),(389,y),(391,Nk),(392,Nj),(393,y),(395,Ni),(396,y),(398,Nh),(399,Ng),(400,y),(402,M9),(403,y),(405,M8),(406,M7),(407,y),(409,M6),(410,y),(412,M5),(413,M4),(414,y),(417,MP),(418,MN),(419,y),(422,MK),(423,MJ),(424,y),(426,MF),(427,y),(429,Mz),(430,Mx),(431,y),(433,Mw),(434,y),(436,Mv),(437,Mu),(438,y),(440,Mt),(441,y),(443,Ms),(444,o444),(445,y),(448,Mr),(449,Mq)]
abbrev as:List Addr:=[2,3,15,22,23,24,25,28,35,36,37,40,47,48,49,52,59,60,61,64,71,72,73,76,83,84,85,88,95,96,97,100,102,103,105,106,107,109,110,112,113,114,116,117,119,120,121,124,125,126,128,129,131,132,133,136,137,138,140,141,143,144,145,147,148,150,151,152,154,155,157,158,159,161,162,164,165,166,168,169,171,172,173,175,176,178,179,180,182,183,185,186,187,189,190,192,193,194,196,197,199,200,201,203,204,206,207,208,211,212,213,216,217,218,221,222,223,226,227,228,231,232,233,236,237,238,241,242,243,244,246,247,249,250,251,253,254,256,257,258,261,262,263,266,267,268,271,272,273,276,277,278,281,282,283,285,286,288,289,290,293,294,295,297,298,300,301,302,305,306,307,309,310,312,313,314,316,317,319,320,362,365,366,367,369,370,372,373,374,376,377,379,380,386,388,389,391,392,393,395,396,398,399,400,402,403,405,406,407,409,410,412,413,414,417,418,419,422,423,424,426,427,429,430,431,433,434,436,437,438,440,441,443,444,445,448,449]
abbrev m0:Nat:=11
abbrev tk:Nat:=784
abbrev ann:Option Value:=(some (r 6))
def Xt(s:Shared):Bool:=xlAt q [] s&&recOk PySem.Challenge.rw_minortables_k30_whole_steps.row.toRowW.records s
theorem lk0(w:World)(os:OsState):(staticsOk (importedModules p.main.body) (boot_heap w.params) (H1 w.params)&&namesBound p (H1 w.params)&&gensDone (S w os)&&laidKept (boot_heap w.params) (H1 w.params))=true:=by
 rw[Fast.te5923862056798008813];kernel_rfl
theorem lk1(w:World)(os:OsState):PyProof.Rows.seen ((PyProof.Rows.recsOf q).map (·.name)) (PyProof.Rows.ownsOf q) [] { S w os with gens := #[] }=PyProof.Rows.expectedOf q:=by
 rw[Fast.te5160383126252970620,Fast.te3399658132070893891,Fast.te5991557255702980513];kernel_rfl
theorem lk2(w:World)(os:OsState):(S w os).heap.bltView=bltViewBooted:=by kernel_rfl
theorem lk3(w:World)(os:OsState):((S w os).heap.keysOk (looseW q lo) ((PyProof.Rows.recsOf q).map (·.name)) ((PyProof.Rows.litsOf q).map (·.1)) ((PyProof.Rows.clssOf q (looseW q lo)).map (·.name))&&(S w os).heap.accountedOkI (importedModules p.main.body)&&(S w os).heap.isNs mainGlobals&&(S w os).heap.isNs builtinsNs&&PyProof.Rows.tablesOk q (S w os).heap&&Xt (S w os)&&(if true then(S w os).gens.size==0 else !leftWithCleanup (S w os).gens))=true:=by
 rw[Fast.te10880121769531294198,Fast.te821141287760084731,Fast.te3399658132070893891,Fast.te7409074990110511671,Fast.te13664370479719496447,Fast.te14722251495701143533,Fast.te5923862056798008813];kernel_rfl
theorem lk4(w:World)(os:OsState):PyProof.Rows.tabsOk q (S w os)=true:=by rw[Fast.te479339242167458305];kernel_rfl
theorem lk5(w:World)(os:OsState):pinSeenD q (PyProof.Rows.drecsOf q) (S w os)=pinGoodD (PyProof.Rows.drecsOf q):=by rw[Fast.te16090120013241838585,Fast.te3247288618530077131];kernel_rfl
theorem lk6(w:World)(os:OsState):PyProof.Rows.plainSeenE q (looseW q lo) (S w os)=PyProof.Rows.plainGoodE q (looseW q lo):=by rw[Fast.te2386780881361962483,Fast.te821141287760084731];kernel_rfl
theorem lk7(w:World)(os:OsState):PyProof.Rows.plainSeenD q lo (S w os)=PyProof.Rows.plainGoodD q lo:=by rw[Fast.te11698064438423848299];kernel_rfl
theorem lk8(w:World)(os:OsState):wideSeen q (S w os)=wideGood q:=by rw[Fast.te7317090234206586261];kernel_rfl
theorem lk9(w:World)(os:OsState):clsSeenW q lo (S w os)=clsGoodW q lo:=by rw[Fast.te7369524293546568484];kernel_rfl
theorem asK(P:Params):as=(K P).map (·.1):=by kernel_rfl
abbrev H:Hook:=kHook K as asK
theorem lkY(w:World)(os:OsState):H.obs (S w os)=H.val w:=by kernel_rfl
theorem looks(w:World):(fun os=>((staticsOk (importedModules p.main.body) (boot_heap w.params) (H1 w.params)&&namesBound p (H1 w.params)&&gensDone (S w os)&&laidKept (boot_heap w.params) (H1 w.params)),openSeen q lo (importedModules p.main.body) Xt true (S w os),H.obs (S w os)))=fun _=>(true,openGood q lo,H.val w) :=
 funext fun os=>looks_pair (lk0 w os) (looks_pair (looks_pair (lk1 w os) (looks_pair (lk2 w os) (looks_pair (lk3 w os) (looks_pair (lk4 w os) (looks_pair (lk5 w os) (looks_pair (lk6 w os) (looks_pair (lk7 w os) (looks_pair (lk8 w os) (lk9 w os))))))))) (lkY w os))
theorem size(w:World):((boot_heap w.params).isNs mainGlobals&&(Array.mk ([]:List GenState)).size==0,(boot_heap w.params).objs.size,(boot_heap w.params).nsMap mainGlobals "__annotations__")=(true,m0,ann):=by
 rw[Fast.te8920871248978507458];kernel_rfl
theorem bt(w:World):(fencedOpening treeTable p w N).map (fun s=>(s.heap,s.gens,s.drawn,s.toks))=some (boot_heap w.params,Array.mk [],boot_drawn,boot_toks) :=
 boot_open (p:=p) (N:=N) (by kernel_rfl) (by kernel_rfl) (fun _=>rfl) w
theorem left:LeftO p q lo Xt H.obs H.val N :=
 LeftO.of_pieces (H₀:=boot_heap) (H₁:=H1) (m₀:=m0) (ann:=ann) (M:=M) (gs₀:=Array.mk []) (gs₁:=⟨[]⟩) (d₀:=boot_drawn) (d₁:={}) (k₀:=boot_toks) (k₁:=tk) bt size run (by kernel_rfl) looks
abbrev R:OpenLaw:=PySem.Challenge.rw_minortables_k30_whole_steps
theorem said:R.wellSaid=true:=by rw[Fast.te9446332074065402090];kernel_rfl
def dr:DefRec:=match d 74 with | .FunctionDef n a l _ _ _ sc _ _ o=>⟨n,a,l,sc,o⟩ | _=>⟨"",default,[],default,⟨0,0,0,0⟩⟩
theorem hdef:defOf q R.row.name=some (dr,[]):=by kernel_rfl
theorem hthe:R.row.prog.theDef R.row.name=some (dr.params,dr.body,dr.scope):=by kernel_rfl
theorem hkw:kwWritten? dr.params.kwonlyargs dr.params.kw_defaults=some []:=by kernel_rfl
theorem hok:(chainsOk q&&opensWell R.row.prog&&(frees R.row.toRowW&&R.row.within.isEmpty))=true:=by kernel_rfl
theorem hbare:R.row.prog.bare:=⟨rfl,rfl,rfl,rfl,rfl,by kernel_rfl⟩
theorem WD:R.row.toRowW.promised:=⟨[.list []],by kernel_rfl,by kernel_rfl⟩
theorem holds(call:WalkO q lo (XL q []) H.says R.row.toRowW dr [] fun f vs=>PySem.call f vs):R.Holds :=
 holds_law said fun k1=>holds_open (r:=R.row) (q:=q) (loose:=lo) (Xt:=Xt) (XP:=XL q []) (Yf:=H.obs) (Ya:=H.val) (YP:=H.says) (N:=N) left H.of H.keeps (fun s e=>xl_of s (Bool.and_eq_true_iff.mp e).1) XL.keeps hdef hthe hkw (fun s e=>recFacts_of (Bool.and_eq_true_iff.mp e).2) rfl k1 hok hbare WD call
end H30
end
namespace M30
open PySem PySem.W L2 DE
set_option maxHeartbeats 0 in
theorem txt(w:World){mg:Str->Option Value}{h:Heap}(X:(H30.K w.params).In h)(G:h.Ns mainGlobals mg):Text w (H30.K w.params) mg T :=
  ⟨in_of (l:=cs) (Q:=fun(x:Str) (d:D)=>∃ v u,(∀ H',Rep (H30.K w.params) H' d v)/\mg x=some u/\RelV v u) (aC (cA X G 305 (by kernel_rfl)) (aC (cS X G 479 (by kernel_rfl)) (aC (cS X G 481 (by kernel_rfl)) (aC (cS X G 483 (by kernel_rfl)) (aC (cD X G 243 (H30.Ke w.params) (by kernel_rfl) (by kernel_rfl) ⟨rfl,rfl,rfl⟩ (by kernel_rfl) (by kernel_rfl) (by kernel_rfl)) (aN)))))),
    in_of (l:=bl) (Q:=fun x b=>mg x=none/\x=Str.ofString b) (aC (bA X G (by kernel_rfl) rfl) (aC (bA X G (by kernel_rfl) rfl) (aC (bA X G (by kernel_rfl) rfl) (aC (bA X G (by kernel_rfl) rfl) (aC (bA X G (by kernel_rfl) rfl) (aC (bA X G (by kernel_rfl) rfl) (aC (bA X G (by kernel_rfl) rfl) (aC (bA X G (by kernel_rfl) rfl) (aC (bA X G (by kernel_rfl) rfl) (aC (bA X G (by kernel_rfl) rfl) (aC (bA X G (by kernel_rfl) rfl) (aC (bA X G (by kernel_rfl) rfl) (aN))))))))))))),
    in_of (l:=df) (Q:=fun x fd=>FunAt (H30.K w.params) mg x fd) (
     aC (aU X G 106 .none (.str "minortables.checks" 303) (.ref 105) b10 (by kernel_rfl) (by kernel_rfl) (by kernel_rfl)) (
     aC (aU X G 113 .none (.str "minortables.checks" 303) (.ref 112) b11 (by kernel_rfl) (by kernel_rfl) (by kernel_rfl)) (
     aC (aU X G 120 .none (.str "minortables.checks" 303) (.ref 119) b12 (by kernel_rfl) (by kernel_rfl) (by kernel_rfl)) (
     aC (aU X G 125 .none (.str "minortables.checks" 303) (.ref 124) b13 (by kernel_rfl) (by kernel_rfl) (by kernel_rfl)) (
     aC (aU X G 132 .none (.str "minortables.checks" 303) (.ref 131) b14 (by kernel_rfl) (by kernel_rfl) (by kernel_rfl)) (
     aC (aU X G 137 .none (.str "minortables.checks" 303) (.ref 136) b15 (by kernel_rfl) (by kernel_rfl) (by kernel_rfl)) (
     aC (aU X G 144 .none (.str "minortables.checks" 303) (.ref 143) b16 (by kernel_rfl) (by kernel_rfl) (by kernel_rfl)) (
     aC (aU X G 151 .none (.str "minortables.checks" 303) (.ref 150) b17 (by kernel_rfl) (by kernel_rfl) (by kernel_rfl)) (
     aC (aU X G 158 .none (.str "minortables.checks" 303) (.ref 157) b18 (by kernel_rfl) (by kernel_rfl) (by kernel_rfl)) (
     aC (aU X G 165 .none (.str "minortables.fractions" 374) (.ref 164) b20 (by kernel_rfl) (by kernel_rfl) (by kernel_rfl)) (
     aC (aU X G 172 .none (.str "minortables.fractions" 374) (.ref 171) b21 (by kernel_rfl) (by kernel_rfl) (by kernel_rfl)) (
     aC (aU X G 179 .none (.str "minortables.fractions" 374) (.ref 178) b22 (by kernel_rfl) (by kernel_rfl) (by kernel_rfl)) (
     aC (aU X G 186 .none (.str "minortables.fractions" 374) (.ref 185) b23 (by kernel_rfl) (by kernel_rfl) (by kernel_rfl)) (
     aC (aU X G 193 .none (.str "minortables.fractions" 374) (.ref 192) b24 (by kernel_rfl) (by kernel_rfl) (by kernel_rfl)) (
     aC (aU X G 200 .none (.str "minortables.fractions" 374) (.ref 199) b25 (by kernel_rfl) (by kernel_rfl) (by kernel_rfl)) (
     aC (aU X G 207 .none (.str "minortables.fractions" 374) (.ref 206) b26 (by kernel_rfl) (by kernel_rfl) (by kernel_rfl)) (
     aC (aU X G 212 .none (.str "minortables.fractions" 374) (.ref 211) b27 (by kernel_rfl) (by kernel_rfl) (by kernel_rfl)) (
     aC (aU X G 217 .none (.str "minortables.fractions" 374) (.ref 216) b28 (by kernel_rfl) (by kernel_rfl) (by kernel_rfl)) (
     aC (aU X G 222 .none (.str "minortables.fractions" 374) (.ref 221) b29 (by kernel_rfl) (by kernel_rfl) (by kernel_rfl)) (
     aC (aU X G 227 .none (.str "minortables.tables" 451) (.ref 226) b31 (by kernel_rfl) (by kernel_rfl) (by kernel_rfl)) (
     aC (aU X G 232 .none (.str "minortables.tables" 451) (.ref 231) b32 (by kernel_rfl) (by kernel_rfl) (by kernel_rfl)) (
     aC (aU X G 237 .none (.str "minortables.tables" 451) (.ref 236) b33 (by kernel_rfl) (by kernel_rfl) (by kernel_rfl)) (
     aC (aU X G 242 .none (.str "minortables.tables" 451) (.ref 241) b34 (by kernel_rfl) (by kernel_rfl) (by kernel_rfl)) (
     aC (aU X G 250 .none (.str "minortables.steps" 477) (.ref 249) b40 (by kernel_rfl) (by kernel_rfl) (by kernel_rfl)) (
     aC (aU X G 257 .none (.str "minortables.steps" 477) (.ref 256) b41 (by kernel_rfl) (by kernel_rfl) (by kernel_rfl)) (
     aC (aU X G 262 .none (.str "minortables.steps" 477) (.ref 261) b42 (by kernel_rfl) (by kernel_rfl) (by kernel_rfl)) (
     aC (aU X G 267 .none (.str "minortables.steps" 477) (.ref 266) b43 (by kernel_rfl) (by kernel_rfl) (by kernel_rfl)) (
     aC (aU X G 272 .none (.str "minortables.steps" 477) (.ref 271) b44 (by kernel_rfl) (by kernel_rfl) (by kernel_rfl)) (
     aC (aU X G 277 .none (.str "minortables.steps" 477) (.ref 276) b45 (by kernel_rfl) (by kernel_rfl) (by kernel_rfl)) (
     aC (aU X G 282 .none (.str "minortables.steps" 477) (.ref 281) b46 (by kernel_rfl) (by kernel_rfl) (by kernel_rfl)) (
     aC (aU X G 289 .none (.str "minortables.steps" 477) (.ref 288) b47 (by kernel_rfl) (by kernel_rfl) (by kernel_rfl)) (
     aC (aU X G 294 .none (.str "minortables.steps" 477) (.ref 293) b48 (by kernel_rfl) (by kernel_rfl) (by kernel_rfl)) (
     aC (aU X G 301 .none (.str "minortables.steps" 477) (.ref 300) b49 (by kernel_rfl) (by kernel_rfl) (by kernel_rfl)) (
     aC (aU X G 306 .none (.str "minortables.steps" 477) (.ref 305) b50 (by kernel_rfl) (by kernel_rfl) (by kernel_rfl)) (
     aC (aU X G 313 .none (.str "law_minortables_k30_whole_steps" 578) (.ref 312) b52 (by kernel_rfl) (by kernel_rfl) (by kernel_rfl)) (
     aC (aU X G 320 .none (.str "law_minortables_k30_whole_steps" 578) (.ref 319) b53 (by kernel_rfl) (by kernel_rfl) (by kernel_rfl)) (
     aC (aU X G 366 .none (.str "law_minortables_k30_whole_steps" 578) (.ref 365) b61 (by kernel_rfl) (by kernel_rfl) (by kernel_rfl)) (
     aC (aU X G 373 .none (.str "law_minortables_k30_whole_steps" 578) (.ref 372) b62 (by kernel_rfl) (by kernel_rfl) (by kernel_rfl)) (
     aC (aU X G 380 .none (.str "law_minortables_k30_whole_steps" 578) (.ref 379) b63 (by kernel_rfl) (by kernel_rfl) (by kernel_rfl)) (
     aC (aU X G 392 .none (.str "law_minortables_k30_whole_steps" 578) (.ref 391) b65 (by kernel_rfl) (by kernel_rfl) (by kernel_rfl)) (
     aC (aU X G 399 .none (.str "law_minortables_k30_whole_steps" 578) (.ref 398) b66 (by kernel_rfl) (by kernel_rfl) (by kernel_rfl)) (
     aC (aU X G 406 .none (.str "law_minortables_k30_whole_steps" 578) (.ref 405) b67 (by kernel_rfl) (by kernel_rfl) (by kernel_rfl)) (
     aC (aU X G 413 .none (.str "law_minortables_k30_whole_steps" 578) (.ref 412) b68 (by kernel_rfl) (by kernel_rfl) (by kernel_rfl)) (
     aC (aU X G 418 .none (.str "law_minortables_k30_whole_steps" 578) (.ref 417) b69 (by kernel_rfl) (by kernel_rfl) (by kernel_rfl)) (
     aC (aU X G 423 .none (.str "law_minortables_k30_whole_steps" 578) (.ref 422) b70 (by kernel_rfl) (by kernel_rfl) (by kernel_rfl)) (
     aC (aU X G 430 .none (.str "law_minortables_k30_whole_steps" 578) (.ref 429) b71 (by kernel_rfl) (by kernel_rfl) (by kernel_rfl)) (
     aC (aU X G 437 .none (.str "law_minortables_k30_whole_steps" 578) (.ref 436) b72 (by kernel_rfl) (by kernel_rfl) (by kernel_rfl)) (
     aC (aU X G 444 .none (.str "law_minortables_k30_whole_steps" 578) (.ref 443) b73 (by kernel_rfl) (by kernel_rfl) (by kernel_rfl)) (
     aC (aU X G 449 .none (.str "law_minortables_k30_whole_steps" 578) (.ref 448) b74 (by kernel_rfl) (by kernel_rfl) (by kernel_rfl)) (
     aN)))))))))))))))))))))))))))))))))))))))))))))))))),XText.of (fun x v h=>PySem.W.mg_of X G h) (by kernel_rfl),by show List.map _ _=List.map _ _;kernel_rfl⟩
end M30
open PySem PySem.W PyProof.Rows
set_option maxRecDepth 100000 in
set_option maxHeartbeats 0 in
theorem PySem.Challenge.cw_minortables_k30_whole_steps_holds : PySem.Challenge.rw_minortables_k30_whole_steps.Holds :=
 H30.holds (M30.walk (l := PySem.Challenge.rw_minortables_k30_whole_steps) (K := H30.K) rfl (by kernel_rfl) (fun w h Y => PySem.W.kIn_of (e := H30.asK) Y) fun w mg fa h KX G hmg => M30.fin M30.law_true (M30.txt w KX G) KX G hmg 449 .none (.str "law_minortables_k30_whole_steps" 578) (.ref 448) (by kernel_rfl) (by kernel_rfl) (by kernel_rfl) (by kernel_rfl))
#print axioms PySem.Challenge.cw_minortables_k30_whole_steps_holds
