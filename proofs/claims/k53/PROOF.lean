import PyProof.Rows.All
import Wide.All
import OpenK.AllK
import Wide.FinOn
import Lean
import PyProof.EqAt
import PyProof.EqKinds
import PyProof.TupleCall
import PyProof.ListRange
import PySem.Names
import PyProof.NeKinds
import PySem.Challenge.RW_minortables_k53_whole_kinds_worths
set_option Elab.async false
set_option linter.all false
set_option maxRecDepth 100000
namespace L2
open PySem PySem.Spec PyProof.Rows
abbrev Key:=Sum Int Str
def rF:Key->Value->Bool
 | .inl k,v=>Value.isInt k v
 | .inr x,v=>Value.isStrOf x v
def X3(w:World):Key->Int
 | .inl k=>hashInt k
 | .inr x=>hashStr w x
theorem bH:∀ {k:Key} {v:Value},rF k v=true->(∃ i t,k=Sum.inl i/\v=Value.int i t)\/(∃ x t,k=Sum.inr x/\v=Value.str x t)
  | .inl i, v, h => by
    obtain⟨t,e⟩:=Value.isInt_shape (k:=i) (v:=v) h
    exact .inl ⟨i,t,rfl,e⟩
  | .inr x, v, h => by
    obtain⟨t,e⟩:=Value.isStrOf_shape (x:=x) (v:=v) h
    exact .inr ⟨x,t,rfl,e⟩
theorem uP(i:Int)(t:Tok):rF (.inl i) (.int i t)=true:=by simp[rF,Value.isInt]
theorem uO(x:Str)(t:Tok):rF (.inr x) (.str x t)=true:=by simp[rF,Value.isStrOf]
theorem HF(a b:Int):decide ((Sum.inl a:Key)=Sum.inl b)=(a==b):=by
 by_cases e:a=b
 ·subst e;simp
 ·have h:¬ (Sum.inl a:Key)=Sum.inl b:=fun q=>e (Sum.inl.inj q)
  rw[decide_eq_false h]
  exact(beq_eq_false_iff_ne.mpr e).symm
theorem Hz(a b:Str):decide ((Sum.inr a:Key)=Sum.inr b)=decide (a=b):=by
 by_cases e:a=b
 ·subst e;simp
 ·have h:¬ (Sum.inr a:Key)=Sum.inr b:=fun q=>e (Sum.inr.inj q)
  rw[decide_eq_false h,decide_eq_false e]
theorem HD(a:Int)(b:Str):decide ((Sum.inl a:Key)=Sum.inr b)=false:=decide_eq_false (fun q=>nomatch q)
theorem HB(a:Str)(b:Int):decide ((Sum.inr a:Key)=Sum.inl b)=false:=decide_eq_false (fun q=>nomatch q)
def bQ(prog:Program)(w:World):PySem.KeyKind prog w Key where
 is:=rF
 hash:=X3 w
 inj:=fun v a b ha hb=>by
  rcases bH ha with⟨i,t,rfl,rfl⟩ | ⟨x,t,rfl,rfl⟩
  ·rcases bH hb with⟨j,u,rfl,e⟩ | ⟨y,u,rfl,e⟩
   ·injection e with e1 _;rw[e1]
   ·exact nomatch e
  ·rcases bH hb with⟨j,u,rfl,e⟩ | ⟨y,u,rfl,e⟩
   ·exact nomatch e
   ·injection e with e1 _;rw[e1]
 byValue:=fun k v h=>by
  rcases bH h with⟨i,t,rfl,rfl⟩ | ⟨x,t,rfl,rfl⟩<;>rfl
 pyHash:=fun hv h=>by
  rcases bH hv with⟨i,t,rfl,rfl⟩ | ⟨x,t,rfl,rfl⟩
  ·exact wpAny_pyHash_int h
  ·exact wpAny_pyHash_str h
 eqBool:=fun hu hv h=>by
  rcases bH hu with⟨i,t,rfl,rfl⟩ | ⟨x,t,rfl,rfl⟩
  ·rcases bH hv with⟨j,u,rfl,rfl⟩ | ⟨y,u,rfl,rfl⟩
   ·rw[HF] at h;exact wpAny_eqBool_int h
   ·rw[HD] at h;exact SeqAt.EqAt.int_str i t y u _ _ _ _ h
  ·rcases bH hv with⟨j,u,rfl,rfl⟩ | ⟨y,u,rfl,rfl⟩
   ·rw[HB] at h;exact SeqAt.EqAt.str_int x t j u _ _ _ _ h
   ·rw[Hz] at h;exact wpAny_eqBool_str h
 «strs» :=fun k x t v h=>by
  rcases bH h with⟨i,u,rfl,e⟩ | ⟨y,u,rfl,e⟩
  ·exact nomatch e
  ·injection e with e1 _
   subst e1
   cases v<;>rfl
theorem ou(prog:Program)(w:World)(i:Int)(t:Tok):(bQ prog w).is (.inl i) (.int i t)=true:=uP i t
theorem oh(prog:Program)(w:World)(x:Str)(t:Tok):(bQ prog w).is (.inr x) (.str x t)=true:=uO x t
end L2
namespace L2
open PySem PySem.Spec PyProof.Rows
inductive V where
 | non | bl (b:Bool) | int (i:Int) | str (x:Str) | byt (b:Array UInt8) | flt (b:UInt64) | ref (a:Addr) | ty (n:String)
 deriving DecidableEq
def RelV:V->Value->Prop
 | .non,u=>u=Value.none
 | .bl b,u=>u=Value.bool b
 | .int i,u=>∃ t,u=Value.int i t
 | .str x,u=>∃ t,u=Value.str x t
 | .byt b,u=>∃ t,u=Value.bytes b t
 | .flt b,u=>∃ t,u=Value.float b t
 | .ref a,u=>u=Value.ref a
 | .ty n,u=>u=Value.type n
abbrev Vals:List V->List Value->Prop:=Paired RelV
theorem Vals.length{xs:List V}{us:List Value}(r:Vals xs us):xs.length=us.length:=Paired.length r
theorem Vals.get:∀ {xs:List V} {us:List Value} {i:Nat} {x:V},Vals xs us->xs[i]?=some x->∃ u,us[i]?=some u/\RelV x u
  | _,_,_,_,.nil,e=>by simp at e
  | _,_,0,_,.cons r _,e=>by simp at e;subst e;exact⟨_,rfl,r⟩
  | _, _, i + 1, x, .cons _ t, e => by
    obtain⟨u,h1,h2⟩:=Vals.get (i:=i) (x:=x) t (by simpa using e)
    exact⟨u,by simpa using h1,h2⟩
theorem Vals.set{x:V}{u:Value}(r:RelV x u):∀ {xs:List V} {us:List Value} (i:Nat),Vals xs us->Vals (xs.set i x) (us.set i u)
 | _,_,_,.nil=>.nil
 | _,_,0,.cons _ t=>.cons r t
 | _,_,i+1,.cons q t=>.cons q (Vals.set r i t)
theorem Vals.append:∀ {xs ys:List V} {us ws:List Value},Vals xs us->Vals ys ws->Vals (xs++ys) (us++ws)
 | _,_,_,_,.nil,s=>s
 | _,_,_,_,.cons r t,s=>.cons r (Vals.append t s)
theorem Vals.take:∀ {xs:List V} {us:List Value} (n:Nat),Vals xs us->Vals (xs.take n) (us.take n)
 | _,_,0,_=>.nil
 | _,_,_+1,.nil=>.nil
 | _,_,n+1,.cons r t=>.cons r (Vals.take n t)
theorem Vals.drop:∀ {xs:List V} {us:List Value} (n:Nat),Vals xs us->Vals (xs.drop n) (us.drop n)
 | _,_,0,r=>r
 | _,_,_+1,.nil=>.nil
 | _,_,n+1,.cons _ t=>Vals.drop n t
def Fi:Option V->Option Value->Prop
 | some v,some u=>RelV v u
 | none,none=>True
 | _,_=>False
def KV{κ:Type}:List (κ×V)->List (κ×Value)->Prop:=Paired fun(p:κ×V) (q:κ×Value)=>p.1=q.1/\RelV p.2 q.2
def kV:Key->V
 | .inl i=>.int i
 | .inr x=>.str x
inductive HO where
 | lst (xs:List V)
 | tup (xs:List V)
 | dK (kvs:List (Key×V)) | dT (kvs:List (List Key×V))
 | set (S:Int->Bool) (n:Nat)
 | ins (C dx:Addr) (fs:List (Str×V))
 | own (x:Addr)
 | xd (fs:List (Str×V))
 | met (f x:Addr)
 | rng (lo hi:Int)
 | frz (o:Obj) (u:HO)
 | tbl (ps:Array Value)
 | ext (φ:Heap->Prop)
abbrev Hp:=Addr->Option HO
def upd(H:Hp)(a:Addr)(o:HO):Hp:=fun b=>if b=a then some o else H b
theorem aQ{H:Hp}{a:Addr}{o:HO}:upd H a o a=some o:=by unfold upd;rw[if_pos rfl]
theorem aM{H:Hp}{a b:Addr}{o:HO}(h:b≠a):upd H a o b=H b:=by unfold upd;rw[if_neg h]
theorem aJ{H:Hp}{a b:Addr}{o:HO}(h:H a=some o)(h':H b=none):a≠b:=by
 intro e;subst e;rw[h] at h';cases h'
section
variable (P:Program) (w:World)
def cZ(H:Hp)(h:Heap)(a:Addr):HO->Prop
 | .lst xs=>xs.length<=sizeLine/\∃ (its:List Value) (n:Nat),Vals xs its/\h.get? a=some { cls:=.type "list",data:=.seq its.toArray n }
 | .tup xs=>xs.length<=sizeLine/\∃ its:List Value,Vals xs its/\IsTup h a its.toArray
 | .dK kvs=>kvs.length<=sizeLine/\(a==sysModules)=false/\∃ vs,KV kvs vs/\h.DictOf (bQ P w) a vs
 | .dT kvs => kvs.length <= sizeLine /\ (a == sysModules) = false /\ ∃ xs : List (List Key × Addr × Value),
   Paired (fun(p:List Key×V) (q:List Key×Addr×Value)=>p.1=q.1/\H q.2.1=some (.tup (p.1.map kV))/\RelV p.2 q.2.2) kvs xs /\
   ∃ o es ep,h.get? a=some o/\o.ExactDict/\o.data=.dict es ep/\es.toList=xs.map (entryOfKey (tupleKind (bQ P w)))/\(xs.map (·.1)).Nodup
 | .set S n=>h.SetOf (intKind P w) a S n
 | .ins C dx fs => H dx = some (.own a) /\ fs.length <= 1000 /\ dx ≠ a /\ h.get? a = some (PySem.W.instObj C dx) /\
   ∃ mA,h.Ns1 dx mA/\(∀ f,Fi (fs.lookup f) (mA f))/\PySem.Within mA (fs.map (·.1))
 | .own _=>∃ o,h.get? a=some o
 | .xd fs=>∃ mA,h.Ns1 a mA/\∀ f,Fi (fs.lookup f) (mA f)
 | .rng lo hi=>∃ t u v,h.get? a=some { cls:=.type "range",data:=.fields #[.int lo t,.int hi u,.int 1 v] }
 | .frz o u=>h.get? a=some o/\cZ H h a u
 | .tbl ps=>h.get? a=some { cls:=.none,data:=.fields ps }
 | .met f x=>h.get? a=some (PySem.W.methodObj (.ref f) (.ref x))
 | .ext φ=>φ h/\(∃ o,h.get? a=some o)/\∀ h1 h2:Heap,φ h1->(∀ o,h1.get? a=some o->h2.get? a=some o)->φ h2
def HOk(H:Hp)(h:Heap):Prop:=∀ a o,H a=some o->cZ P w H h a o
end
section
variable {P:Program} {w:World} {H H':Hp} {h h':Heap} {a:Addr} {o:HO}
theorem cZ.lt(x:cZ P w H h a o):a<h.objs.size:=by
 cases o with
 | lst xs=>obtain⟨_,_,_,_,e⟩:=x;exact Heap.lt_size e
 | tup xs=>obtain⟨_,_,_,p⟩:=x;exact p.lt
 | dK kvs=>obtain⟨_,_,_,_,o,_,_,e,_⟩:=x;exact Heap.lt_size e
 | dT kvs=>obtain⟨_,_,_,_,o,_,_,e,_⟩:=x;exact Heap.lt_size e
 | set S n=>obtain⟨o,_,_,_,e,_⟩:=x;exact Heap.lt_size e
 | ins C dx fs=>obtain⟨_,_,_,e,_⟩:=x;exact Heap.lt_size e
 | own y=>obtain⟨_,e⟩:=x;exact Heap.lt_size e
 | xd fs=>obtain⟨_,⟨_,_,_,e,_⟩,_⟩:=x;exact Heap.lt_size e
 | rng lo hi=>obtain⟨_,_,_,e⟩:=x;exact Heap.lt_size e
 | frz ob u=>obtain⟨e,_⟩:=x;exact Heap.lt_size e
 | tbl ps=>exact Heap.lt_size (show h.get? a=some _ from x)
 | met f y=>exact Heap.lt_size (show h.get? a=some _ from x)
 | ext φ=>obtain⟨_,⟨_,e⟩,_⟩:=x;exact Heap.lt_size e
theorem Paired.mapP{α β:Type}{F G:α->β->Prop}:∀ {l₁:List α} {l₂:List β},Paired F l₁ l₂->(∀ a b,F a b->G a b)->Paired G l₁ l₂
 | _,_,.nil,_=>.nil
 | _,_,.cons r t,f=>.cons (f _ _ r) (Paired.mapP t f)
theorem cZ.stay(x:cZ P w H h a o)(k:∀ b u,(b=a\/H b=some (.own a))->h.get? b=some u->h'.get? b=some u)
    (ho:∀ b,H b=some (.own a)->H' b=some (.own a)) (ht:∀ b xs,H b=some (.tup xs)->H' b=some (.tup xs)):cZ P w H' h' a o:=by
  induction o with
  | lst xs=>obtain⟨z,its,n,r,e⟩:=x;exact⟨z,its,n,r,k _ _ (.inl rfl) e⟩
  | tup xs=>obtain⟨z,its,r,ob,e,c⟩:=x;exact⟨z,its,r,ob,k _ _ (.inl rfl) e,c⟩
  | dK kvs=>obtain⟨z,y,vs,r,ob,es,ep,e,c⟩:=x;exact⟨z,y,vs,r,ob,es,ep,k _ _ (.inl rfl) e,c⟩
  | dT kvs =>
    obtain⟨z,y,xs,r,ob,es,ep,e,c⟩:=x
    exact⟨z,y,xs,Paired.mapP r fun p q z=>⟨z.1,ht _ _ z.2.1,z.2.2⟩,ob,es,ep,k _ _ (.inl rfl) e,c⟩
  | set S n=>obtain⟨ob,es,ep,t,e,c⟩:=x;exact⟨ob,es,ep,t,k _ _ (.inl rfl) e,c⟩
  | ins C dx fs =>
    obtain⟨d,z,ne,e,mA,⟨od,es,ep,e2,c⟩,r⟩:=x
    exact⟨ho _ d,z,ne,k _ _ (.inl rfl) e,mA,⟨od,es,ep,k _ _ (.inr d) e2,c⟩,r⟩
  | own y=>obtain⟨ob,e⟩:=x;exact⟨ob,k _ _ (.inl rfl) e⟩
  | xd fs=>obtain⟨mA,⟨od,es,ep,e,c⟩,r⟩:=x;exact⟨mA,⟨od,es,ep,k _ _ (.inl rfl) e,c⟩,r⟩
  | rng lo hi=>obtain⟨t,u,v,e⟩:=x;exact⟨t,u,v,k _ _ (.inl rfl) e⟩
  | frz ob u ih=>obtain⟨e,q⟩:=x;exact⟨k _ _ (.inl rfl) e,ih q⟩
  | tbl ps =>
    have e:h.get? a=some { cls:=.none,data:=.fields ps }:=x
    show h'.get? a=some { cls:=.none,data:=.fields ps }
    exact k a _ (.inl rfl) e
  | met f y =>
    have e:h.get? a=some (PySem.W.methodObj (.ref f) (.ref y)):=x
    show h'.get? a=some (PySem.W.methodObj (.ref f) (.ref y))
    exact k a _ (.inl rfl) e
  | ext φ=>obtain⟨p,⟨o,e⟩,st⟩:=x;exact⟨st _ _ p fun o q=>k _ _ (.inl rfl) q,⟨o,k _ _ (.inl rfl) e⟩,st⟩
theorem HOk.lt(x:HOk P w H h)(e:H a=some o):a<h.objs.size:=(x a o e).lt
theorem HOk.fresh(x:HOk P w H h)(e:h.objs.size<=a):H a=none:=by
 cases q:H a with
 | none=>rfl
 | some u=>exact absurd (Nat.lt_of_lt_of_le (x.lt q) e) (Nat.lt_irrefl _)
theorem HOk.kept(x:HOk P w H h)(k:∀ b u,h.get? b=some u->h'.get? b=some u):HOk P w H h':=fun a o e =>
 (x a o e).stay (fun b u _ q=>k b u q) (fun _ q=>q) fun _ _ q=>q
theorem HOk.laid(x:HOk P w H h)(k:∀ b u,h.get? b=some u->h'.get? b=some u)(hp:h.objs.size<=a)(new:cZ P w (upd H a o) h' a o):HOk P w (upd H a o) h':=fun b u e=>by
 have hn:=x.fresh hp
 by_cases hb:b=a
 ·subst hb;rw[aQ] at e;cases e;exact new
 ·rw[aM hb] at e
  exact(x b u e).stay (fun c v _ q=>k c v q) (fun c q=>by rw[aM (aJ q hn)];exact q) fun c xs q=>by rw[aM (aJ q hn)];exact q
end
def Rd(H:Hp)(a:Addr)(u:HO):Prop:=H a=some u\/∃ o,H a=some (.frz o u)
theorem Rd.ok{P:Program}{w:World}{H:Hp}{h:Heap}{a:Addr}{u:HO}(r:Rd H a u)(x:HOk P w H h):cZ P w H h a u:=by
 rcases r with r | ⟨o,r⟩
 ·exact x a u r
 ·obtain⟨_,q⟩:=x a _ r
  exact q
def Mut:Option HO->Prop
 | some (.lst _)=>True
 | some (.dK _)=>True
 | some (.dT _)=>True
 | some (.set _ _)=>True
 | some (.ins _ _ _)=>True
 | some (.ext _)=>True
 | _=>False
section
variable {P:Program} {w:World} {H:Hp} {h h':Heap} {x e:Addr} {o':HO}
theorem HOk.write(ok:HOk P w H h)(mu:Mut (H x))(he:e=x\/H e=some (.own x))(k:∀ b u,b≠e->h.get? b=some u->h'.get? b=some u)(heo:∃ u,h'.get? e=some u)
  (new:cZ P w (upd H x o') h' x o'):HOk P w (upd H x o') h':=fun b u q=>by
 have nown:∀ c y,H c=some (.own y)->c≠x:=fun c y r z=>by subst z;rw[r] at mu;exact mu
 have ntup:∀ c xs,H c=some (.tup xs)->c≠x:=fun c xs r z=>by subst z;rw[r] at mu;exact mu
 by_cases hb:b=x
 ·subst hb;rw[aQ] at q;cases q;exact new
 ·rw[aM hb] at q
  by_cases hbe:b=e
  ·have q':H b=some (.own x):=by
    rcases he with z | z
    ·exact absurd (hbe.trans z) hb
    ·rw[hbe];exact z
   rw[q] at q';cases q'
   obtain⟨v,hv⟩:=heo
   exact⟨v,by rw[hbe];exact hv⟩
  ·refine(ok b u q).stay (fun c v hc r=>k c v ?_ r) (fun c r=>by rw[aM (nown c b r)];exact r) fun c xs r=>by rw[aM (ntup c xs r)];exact r
   rcases hc with rfl | hc
   ·exact hbe
   ·rintro rfl
    rcases he with z | z
    ·exact nown c b hc z
    ·rw[hc] at z;cases z;exact hb rfl
end
structure Un (fs ex:List Addr) (H H':Hp) (h h':Heap):Prop where
 keep:∀ b o,h.get? b=some o->H b=none->b∉fs->b∉ex->h'.get? b=some o
 slot:∀ b o,h.get? b=some o->H b=none->b∈fs->b∉ex->∃ sl,h'.get? b=some { o with slots:=sl }
 free:∀ b o,h.get? b=some o->H b=none->b∉ex->H' b=none
 there:∀ b o,h.get? b=some o->b∉ex->∃ o',h'.get? b=some o'
 tups:∀ b xs,H b=some (.tup xs)->H' b=some (.tup xs)
 frzs:∀ b o u,H b=some (.frz o u)->H' b=some (.frz o u)
 tbls:∀ b ps,H b=some (.tbl ps)->∃ more,H' b=some (.tbl (ps++more))
section
variable {fs fs' ex ex':List Addr} {H H1 H2:Hp} {h h1 h2 h':Heap} {a x e:Addr} {o:HO}
theorem Un.any(u:Un fs ex H H1 h h1){b:Addr}{ob:Obj}(q:h.get? b=some ob)(n:H b=none)(hx:b∉ex):∃ sl,h1.get? b=some { ob with slots:=sl }:=by
 by_cases hb:b∈fs
 ·exact u.slot b ob q n hb hx
 ·exact⟨ob.slots,u.keep b ob q n hb hx⟩
theorem Un.trans(a:Un fs ex H H1 h h1)(b:Un fs ex H1 H2 h1 h2):Un fs ex H H2 h h2 where
 keep:=fun c ob q n hc hx=>b.keep c ob (a.keep c ob q n hc hx) (a.free c ob q n hx) hc hx
 slot:=fun c ob q n hc hx=>by
  obtain⟨sl,e1⟩:=a.slot c ob q n hc hx
  obtain⟨sl',e2⟩:=b.slot c _ e1 (a.free c ob q n hx) hc hx
  exact⟨sl',e2⟩
 free:=fun c ob q n hx=>by
  obtain⟨o',e1⟩:=a.there c ob q hx
  exact b.free c o' e1 (a.free c ob q n hx) hx
 there:=fun c ob q hx=>by
  obtain⟨o',e1⟩:=a.there c ob q hx
  exact b.there c o' e1 hx
 tups:=fun c xs q=>b.tups c xs (a.tups c xs q)
 frzs:=fun c ob xs q=>b.frzs c ob xs (a.frzs c ob xs q)
 tbls:=fun c ps q=>by
  obtain⟨m1,e1⟩:=a.tbls c ps q
  obtain⟨m2,e2⟩:=b.tbls c _ e1
  exact⟨m1++m2,by rw[e2,Array.append_assoc]⟩
theorem Un.kept(k:∀ b u,h.get? b=some u->h'.get? b=some u):Un fs ex H H h h' :=
 ⟨fun b ob q _ _ _=>k b ob q,fun b ob q _ _ _=>⟨ob.slots,k b ob q⟩,fun _ _ _ n _=>n,fun b ob q _=>⟨ob,k b ob q⟩,fun _ _ q=>q,fun _ _ _ q=>q,fun _ ps q=>⟨#[],by rw[q];simp⟩⟩
theorem Un.refl:Un fs ex H H h h:=Un.kept fun _ _ q=>q
theorem Un.laid(k:∀ b u,h.get? b=some u->h'.get? b=some u)(hp:h.objs.size<=a)(hn:H a=none):Un fs ex H (upd H a o) h h' where
 keep:=fun b u q _ _ _=>k b u q
 slot:=fun b u q _ _ _=>⟨u.slots,k b u q⟩
 free:=fun b u q n _=>by rw[aM (Nat.ne_of_lt (Nat.lt_of_lt_of_le (Heap.lt_size q) hp))];exact n
 there:=fun b u q _=>⟨u,k b u q⟩
 tups:=fun b xs q=>by rw[aM (aJ q hn)];exact q
 frzs:=fun b u xs q=>by rw[aM (aJ q hn)];exact q
 tbls:=fun b ps q=>⟨#[],by rw[aM (aJ q hn),q];simp⟩
theorem Un.write(mu:Mut (H x))(he:e=x\/H e=some (.own x))(k:∀ b u,b≠e->h.get? b=some u->h'.get? b=some u)(heo:∃ u,h'.get? e=some u):Un fs ex H (upd H x o) h h':=by
  have hx:∀ b,H b=none->b≠x:=fun b n z=>by subst z;rw[n] at mu;exact mu
  have hb:∀ b,H b=none->b≠e:=fun b n z=>by
    subst z
    rcases he with r | r
    · exact hx b n r
    · rw[n] at r;cases r
  have hm:∀ b u,H b=some u->¬ Mut (some u)->b≠x:=fun b u q nm z=>by subst z;rw[q] at mu;exact nm mu
  refine⟨fun b u q n _ _=>k b u (hb b n) q,fun b u q n _ _=>⟨u.slots,k b u (hb b n) q⟩,fun b u q n _=>by rw[aM (hx b n)];exact n,fun b u q _=>?_,
    fun b xs q=>by rw[aM (hm b _ q fun z=>z)];exact q,fun b u xs q=>by rw[aM (hm b _ q fun z=>z)];exact q,fun b ps q=>⟨#[],by rw[aM (hm b _ q fun z=>z),q];simp⟩⟩
  by_cases hbe:b=e
  · subst hbe;exact heo
  · exact⟨u,k b u hbe q⟩
theorem Un.mono(u:Un fs ex H H1 h h1)(hs:∀ b∈fs,b∈fs')(hx:∀ b∈ex,b∈ex'):Un fs' ex' H H1 h h1 :=
 ⟨fun b ob q n hb he=>u.keep b ob q n (fun z=>hb (hs b z)) fun z=>he (hx b z),fun _ _ q n _ he=>u.any q n fun z=>he (hx _ z),fun b ob q n he=>u.free b ob q n fun z=>he (hx b z),fun b ob q he=>u.there b ob q fun z=>he (hx b z),u.tups,u.frzs,u.tbls⟩
end
def trk(h:Heap)(H:Hp):List Addr:=(List.range h.objs.size).filter fun a=>(H a).isSome
def yq(h:Heap)(H:Hp):Heap:=PySem.W.hideAll h (trk h H)
theorem uY(h:Heap)(H:Hp):(yq h H).objs.size=h.objs.size:=PySem.W.hideAll_size _ _
theorem yp{h:Heap}{H:Hp}{b:Addr}{o:Obj}(e:h.get? b=some o)(n:H b=none):(yq h H).get? b=some o :=
 PySem.W.hideAll_get _ e fun hm=>by
  have q:(H b).isSome=true:=(List.mem_filter.mp hm).2
  rw[n] at q;simp at q
theorem Cr{h:Heap}{H:Hp}{b:Addr}{o:Obj}(e:(yq h H).get? b=some o):h.get? b=some o/\H b=none:=by
  have e':h.get? b=some o:=PySem.W.of_hideAll (trk h H) e
  refine⟨e',?_⟩
  cases q:H b with
  | none=>rfl
  | some x =>
    have hm:b∈trk h H:=List.mem_filter.mpr ⟨List.mem_range.mpr (Heap.lt_size e'),by simp[q]⟩
    have z:(yq h H).get? b=none:=PySem.W.hideAll_none (trk h H) hm
    rw[z] at e;cases e
def En(g h:Heap)(L:Addr):List (Addr×Obj):=(List.range h.objs.size).filterMap fun a=>if a=L\/(g.get? a).isSome=true then none else(h.get? a).map fun o=>(a,o)
def rest(g h:Heap)(L d:Addr):List (Addr×Obj):=(En g h L).filter fun p=>decide (p.1≠d)
end L2
namespace L2
open PySem PySem.Spec PyProof.Rows
structure Mod (K:PySem.W.Frag) (mg:Str->Option Value) (base:Heap):Prop where
 kin:K.In base
 glob:base.Ns mainGlobals mg
 blt:∃ mb,base.Ns builtinsNs mb/\∀ x:Str,x≠"__name__"->mb x=bootBuiltins x
 nolimit:base.NoLimit
structure Cx where
 prog:Program
 w:World
 K:PySem.W.Frag
 mg:Str->Option Value
 base:Heap
 A:Around
 N:List Str
 s₀:Shared
 H₀:Hp
 env:Env
 outer:List Env
 stack:List Env
 ex:List Addr
 fn:Str->Bool
 calm:Bool
 pn:List (Addr×Obj)
 xe:Value->Shared->Prop
def frs(l:List Env):List Addr:=l.filterMap (·.frame)
abbrev Cx.fs(X:Cx):List Addr:=frs X.outer
def Vis(sc:Scope)(x:Str):Prop:=sc.names.lookup x=some .local\/sc.names.lookup x=some .cell\/sc.names.lookup x=some .free
def Loc(sc:Scope)(x:Str):Prop:=sc.names.lookup x=some .local\/sc.names.lookup x=some .cell
def Look(env:Env)(h:Heap)(m:Str->Option Value)(x:Str)(u:Value):Prop :=
 (env.kindOf x=some .local/\m x=some u)\/((env.kindOf x=some .cell\/env.kindOf x=some .free)/\∃ c,env.cells.lookup x=some c/\h.IsCell c (some u))
structure Cx.Ok (X:Cx):Prop where
 mod:Mod X.K X.mg X.base
 kind:X.env.scope.kind=.function
 glob:X.env.globals=mainGlobals
 blt:X.env.builtins=builtinsNs
 above:X.s₀.heap.objs.size<=X.env.locals
 inj:∀ x y c,X.env.cells.lookup x=some c->X.env.cells.lookup y=some c->x=y
 has:∀ x,(X.env.kindOf x=some .cell\/X.env.kindOf x=some .free)->∃ c,X.env.cells.lookup x=some c
 cab:∀ x c,X.fn x=true->X.env.cells.lookup x=some c->X.s₀.heap.objs.size<=c
 hd:X.calm=true->X.A.handled=none
 frames:X.A.frames=some X.stack
 stk:X.stack=X.outer\/(X.stack=X.env::X.outer/\X.env.frame=some X.env.locals)
 exf:∀ b∈X.ex,b≠X.env.locals/\∀ x c,X.env.cells.lookup x=some c->c≠b
 bs:∀ b o,X.base.get? b=some o->X.s₀.heap.get? b=some o/\X.H₀ b=none
 bsz:X.base.objs.size<=X.s₀.heap.objs.size
 noex:∀ b o,X.base.get? b=some o->b∉X.ex
 exfs:∀ b∈X.ex,b∉X.fs
 funs:X.s₀.heap.FunFrames X.base X.outer
 frf:∀ b∈X.fs,X.H₀ b=none
structure Inv (X:Cx) (pins:List (Addr×Obj)) (σ:List (Option V)) (H:Hp) (s:Shared):Prop where
 ok:X.Ok
 os:s.os=X.s₀.os
 bare:AllBare s.gens
 base:Un X.fs X.ex X.H₀ H X.s₀.heap s.heap
 loc:∃ m,s.heap.Ns X.env.locals m/\∀ (i:Nat) (x:Str) (v:V),X.N[i]?=some x->σ[i]?=some (some v)->Vis X.env.scope x->∃ u,RelV v u/\Look X.env s.heap m x u
 cell:∀ x c,X.env.cells.lookup x=some c->∃ v,s.heap.IsCell c v
 free:H X.env.locals=none
 freeC:∀ x c,X.env.cells.lookup x=some c->H c=none
 pin:∀ p∈X.pn++pins,s.heap.get? p.1=some p.2/\H p.1=none/\p.1≠X.env.locals/\p.1∉X.fs/\∀ v,p.2.data≠.cell v
 hok:HOk X.prog X.w H s.heap
 len:σ.length=X.N.length
section
variable {X:Cx} {pins:List (Addr×Obj)} {σ:List (Option V)} {H H':Hp} {s:Shared} {h':Heap}
theorem Cx.Ok.nofr(ok:X.Ok){b:Addr}{o:Obj}(e:X.base.get? b=some o):b∉X.fs:=fun hb=>by
 have:=(ok.funs.mem hb).1
 rw[e] at this;cases this
theorem Inv.bs(I:Inv X pins σ H s):∀ b o,X.base.get? b=some o->s.heap.get? b=some o/\H b=none:=fun b o e =>
 ⟨I.base.keep b o (I.ok.bs b o e).1 (I.ok.bs b o e).2 (I.ok.nofr e) (I.ok.noex b o e),I.base.free b o (I.ok.bs b o e).1 (I.ok.bs b o e).2 (I.ok.noex b o e)⟩
theorem Inv.bk(I:Inv X pins σ H s):∀ b o,X.base.get? b=some o->s.heap.get? b=some o:=fun b o e=>(I.bs b o e).1
theorem Inv.mod(I:Inv X pins σ H s):Mod X.K X.mg X.base:=I.ok.mod
theorem Inv.kIn(I:Inv X pins σ H s):X.K.In s.heap:=I.ok.mod.kin.keeps I.bk
theorem Inv.lt(I:Inv X pins σ H s):X.env.locals<s.heap.objs.size:=let ⟨_,hn,_⟩:=I.loc;hn.lt
theorem Inv.sz(I:Inv X pins σ H s):X.s₀.heap.objs.size<=s.heap.objs.size:=Nat.le_trans I.ok.above (Nat.le_of_lt I.lt)
theorem Inv.nofs(I:Inv X pins σ H s){a:Addr}(h:s.heap.objs.size<=a):a∉X.fs:=fun hb=>by
 obtain⟨_,o,ho,_⟩:=I.ok.funs.mem hb
 exact absurd (Nat.lt_of_lt_of_le (Heap.lt_size ho) (Nat.le_trans I.sz h)) (Nat.lt_irrefl _)
theorem Inv.cne(I:Inv X pins σ H s):∀ x c,X.env.cells.lookup x=some c->c≠X.env.locals:=fun x c e z=>by
 obtain⟨v,o,ho,hd⟩:=I.cell x c e
 obtain⟨m,⟨o',es,ep,ho',hd',_⟩,_⟩:=I.loc
 rw[z,ho'] at ho;cases ho;rw[hd'] at hd;cases hd
theorem Inv.funs(I:Inv X pins σ H s):s.heap.FunFrames X.base X.outer:=by
  have all:∀ (l:List Env),(∀ b∈frs l,b∈X.fs)->X.s₀.heap.FunFrames X.base l->s.heap.FunFrames X.base l:=by
    intro l
    induction l with
    | nil=>intro _ _;trivial
    | cons env r ih =>
      intro hs hl
      obtain⟨hk,⟨L,o,hf,hn,ho,hd⟩,hr⟩:=hl
      have hL:L∈X.fs:=hs L (by unfold frs;rw[List.filterMap_cons,hf];exact List.mem_cons_self)
      obtain⟨sl,e⟩:=I.base.slot L o ho (I.ok.frf L hL) hL fun z=>I.ok.exfs L z hL
      exact⟨hk,⟨L,_,hf,hn,e,hd⟩,ih (fun b hb=>hs b (by unfold frs;rw[List.filterMap_cons,hf];exact List.mem_cons_of_mem _ hb)) hr⟩
  exact all X.outer (fun _ hb=>hb) I.ok.funs
theorem Inv.stack(I:Inv X pins σ H s):s.heap.FunFrames X.base X.stack:=by
 rcases I.ok.stk with e | ⟨e,hf⟩
 ·rw[e];exact I.funs
 ·rw[e]
  obtain⟨m,hn,_⟩:=I.loc
  refine .cons (by rw[I.ok.kind];decide) hf hn ?_ I.funs
  exact Heap.get?_none_of_le (Nat.le_trans I.ok.bsz I.ok.above)
theorem Inv.stkSub(I:Inv X pins σ H s):∀ b∈frs X.stack,b∈X.env.locals::X.fs:=fun b hb=>by
 rcases I.ok.stk with e | ⟨e,hf⟩
 ·rw[e] at hb;exact List.mem_cons_of_mem _ hb
 ·rw[e] at hb
  unfold frs at hb
  rw[List.filterMap_cons,hf] at hb
  exact hb
theorem Inv.stkFree(I:Inv X pins σ H s):∀ b∈frs X.stack,H b=none:=fun b hb=>by
 rcases List.mem_cons.mp (I.stkSub b hb) with e | hb
 ·rw[e];exact I.free
 ·obtain⟨_,o,ho,_⟩:=I.ok.funs.mem hb
  exact I.base.free b o ho (I.ok.frf b hb) fun z=>I.ok.exfs b z hb
theorem Inv.step{g':Array GenState}{t':Nat}{d':Drawn}{ch:List Addr}(I:Inv X pins σ H s)
  (hch:∀ b∈ch,(b∈X.ex\/X.s₀.heap.objs.size<=b)/\b≠X.env.locals/\(∀ x c,X.env.cells.lookup x=some c->c≠b)/\∀ p∈X.pn++pins,p.1≠b)
  (keep:∀ b o,b≠X.env.locals->b∉X.fs->b∉ch->s.heap.get? b=some o->H b=none->h'.get? b=some o)
  (slot:∀ b o,b≠X.env.locals->b∈X.fs->b∉ch->s.heap.get? b=some o->H b=none->∃ sl,h'.get? b=some { o with slots:=sl }) (free:∀ b o,b∉ch->s.heap.get? b=some o->H b=none->H' b=none)
  (there:∀ b o,b∉ch->s.heap.get? b=some o->∃ o',h'.get? b=some o')
  (tups:∀ b xs,H b=some (.tup xs)->H' b=some (.tup xs)) (frzs:∀ b o u,H b=some (.frz o u)->H' b=some (.frz o u)) (tbls:∀ b ps,H b=some (.tbl ps)->∃ more,H' b=some (.tbl (ps++more)))
  (ns:∀ m,s.heap.Ns X.env.locals m->h'.Ns X.env.locals m) (hok:HOk X.prog X.w H' h') (hg:AllBare g') :
  Inv X pins σ H' { s with heap:=h',gens:=g',drawn:=d',toks:=t' }:=by
 have neL:∀ b o,X.s₀.heap.get? b=some o->b≠X.env.locals:=fun b o e=>Nat.ne_of_lt (Nat.lt_of_lt_of_le (Heap.lt_size e) I.ok.above)
 have neC:∀ b o,X.s₀.heap.get? b=some o->b∉X.ex->b∉ch:=fun b o e hx hb=>by
  rcases(hch b hb).1 with z | z
  ·exact hx z
  ·exact absurd (Nat.lt_of_lt_of_le (Heap.lt_size e) z) (Nat.lt_irrefl _)
 have cellK:∀ x c,X.env.cells.lookup x=some c->∀ v,s.heap.IsCell c v->h'.IsCell c v:=fun x c e v ⟨o,ho,hd⟩=>by
  have nch:c∉ch:=fun z=>(hch c z).2.2.1 x c e rfl
  by_cases hc:c∈X.fs
  ·obtain⟨sl,q⟩:=slot c o (I.cne x c e) hc nch ho (I.freeC x c e)
   exact⟨_,q,hd⟩
  ·exact⟨o,keep c o (I.cne x c e) hc nch ho (I.freeC x c e),hd⟩
 refine⟨I.ok,I.os,hg,⟨fun b o e n hb hx=>?_,fun b o e n hb hx=>?_,fun b o e n hx=>?_,fun b o e hx=>?_,fun b xs e=>tups b xs (I.base.tups b xs e),fun b o xs e=>frzs b o xs (I.base.frzs b o xs e),fun b ps e=>?_⟩,?_,fun x c e=>?_,?_,fun x c e=>?_,fun p hp=>?_,hok,I.len⟩
 ·exact keep b o (neL b o e) hb (neC b o e hx) (I.base.keep b o e n hb hx) (I.base.free b o e n hx)
 ·obtain⟨sl,e1⟩:=I.base.slot b o e n hb hx
  obtain⟨sl',e2⟩:=slot b _ (neL b o e) hb (neC b o e hx) e1 (I.base.free b o e n hx)
  exact⟨sl',e2⟩
 ·obtain⟨o',e1⟩:=I.base.there b o e hx
  exact free b o' (neC b o e hx) e1 (I.base.free b o e n hx)
 ·obtain⟨o',e1⟩:=I.base.there b o e hx
  exact there b o' (neC b o e hx) e1
 ·obtain⟨m1,e1⟩:=I.base.tbls b ps e
  obtain⟨m2,e2⟩:=tbls b _ e1
  exact⟨m1++m2,by rw[e2,Array.append_assoc]⟩
 ·obtain⟨m,hn,hl⟩:=I.loc
  refine⟨m,ns m hn,fun i x v e1 e2 e3=>?_⟩
  obtain⟨u,r,l⟩:=hl i x v e1 e2 e3
  refine⟨u,r,?_⟩
  rcases l with l | ⟨k,c,e,z⟩
  ·exact .inl l
  ·exact .inr ⟨k,c,e,cellK x c e _ z⟩
 ·obtain⟨v,z⟩:=I.cell x c e
  exact⟨v,cellK x c e v z⟩
 ·obtain⟨m,⟨o,_,_,ho,_⟩,_⟩:=I.loc
  exact free _ o (fun z=>(hch _ z).2.1 rfl) ho I.free
 ·obtain⟨v,o,ho,hd⟩:=I.cell x c e
  exact free c o (fun z=>(hch c z).2.2.1 x c e rfl) ho (I.freeC x c e)
 ·obtain⟨e,n,ne,nf,d⟩:=I.pin p hp
  have nch:p.1∉ch:=fun z=>(hch p.1 z).2.2.2 p hp rfl
  exact⟨keep p.1 p.2 ne nf nch e n,free p.1 p.2 nch e n,ne,nf,d⟩
theorem Inv.un{t':Nat}(I:Inv X pins σ H s)(u:Un X.fs [] H H' s.heap h')(hok:HOk X.prog X.w H' h'):Inv X pins σ H' { s with heap:=h',toks:=t' }:=by
  obtain⟨m,⟨o,es,ep,ho,r⟩,_⟩:=id I.loc
  obtain⟨sl,hL⟩:=u.any ho I.free (by simp)
  exact I.step (g':=s.gens) (d':=s.drawn) (ch:=[]) (fun _ z=>nomatch z) (fun b o _ hb _ e n=>u.keep b o e n hb (by simp)) (fun b o _ hb _ e n=>u.slot b o e n hb (by simp)) (fun b o _ e n=>u.free b o e n (by simp)) (fun b o _ e=>u.there b o e (by simp)) u.tups u.frzs u.tbls (fun m' hm=>by
    obtain⟨o',es',ep',ho',r'⟩:=hm
    rw[ho] at ho';cases ho'
    exact⟨_,es',ep',hL,r'⟩) hok I.bare
theorem Inv.call{g':Array GenState}{t':Nat}{d':Drawn}{ch:List Addr}(I:Inv X pins σ H s)(u:Un (frs X.stack) ch H H' s.heap h')(hok:HOk X.prog X.w H' h')(hg:AllBare g')
    (hch:∀ b∈ch,(b∈X.ex\/X.s₀.heap.objs.size<=b)/\b≠X.env.locals/\(∀ x c,X.env.cells.lookup x=some c->c≠b)/\∀ p∈X.pn++pins,p.1≠b) :
    Inv X pins σ H' { s with heap:=h',gens:=g',drawn:=d',toks:=t' }:=by
  obtain⟨m,⟨o,es,ep,ho,r⟩,_⟩:=id I.loc
  obtain⟨sl,hL⟩:=u.any ho I.free fun z=>(hch _ z).2.1 rfl
  exact I.step (ch:=ch) hch (fun b o hL hb hc e n=>u.keep b o e n (fun z=>(List.mem_cons.mp (I.stkSub b z)).elim hL hb) hc) (fun b o _ _ hc e n=>u.any e n hc) (fun b o hc e n=>u.free b o e n hc) (fun b o hc e=>u.there b o e hc) u.tups u.frzs u.tbls (fun m' hm=>by
    obtain⟨o',es',ep',ho',r'⟩:=hm
    rw[ho] at ho';cases ho'
    exact⟨_,es',ep',hL,r'⟩) hok hg
theorem Inv.turned{t':Nat}{it:Addr}(I:Inv X pins σ H s)(k:∀ b o,b≠it->s.heap.get? b=some o->h'.get? b=some o)(hn:H it=none)(hL:it≠X.env.locals)
  (h1:it∈X.ex\/X.s₀.heap.objs.size<=it) (h2:∀ x c,X.env.cells.lookup x=some c->c≠it) (h3:∀ p∈X.pn++pins,p.1≠it):Inv X pins σ H { s with heap:=h',toks:=t' }:=by
 have nit:∀ b u,H b=some u->b≠it:=fun b u e z=>by rw[z,hn] at e;cases e
 refine I.step (g':=s.gens) (d':=s.drawn) (ch:=[it]) (fun b hb=>?_) (fun b o _ _ hc e _=>k b o (fun z=>hc (by simp[z])) e) (fun b o _ _ hc e _=>⟨o.slots,k b o (fun z=>hc (by simp[z])) e⟩) (fun _ _ _ _ n=>n)
  (fun b o hc e=>⟨o,k b o (fun z=>hc (by simp[z])) e⟩) (fun _ _ e=>e) (fun _ _ _ e=>e) (fun b ps e=>⟨#[],by rw[e];simp⟩) (fun m hm=>?_) (fun b u e=>?_) I.bare
 ·have e:b=it:=by simpa using hb
  subst e
  exact⟨h1,hL,h2,h3⟩
 ·obtain⟨o,es,ep,ho,r⟩:=hm
  exact⟨o,es,ep,k _ o (Ne.symm hL) ho,r⟩
 ·refine(I.hok b u e).stay (fun c v hc q=>k c v ?_ q) (fun _ q=>q) fun _ _ q=>q
  rcases hc with z | z
  ·rw[z];exact nit b u e
  ·exact nit c _ z
theorem Inv.tok(I:Inv X pins σ H s)(t:Nat):Inv X pins σ H { s with toks:=t }:=I.un (h':=s.heap) (t':=t) Un.refl I.hok
theorem Inv.kept{t':Nat}(I:Inv X pins σ H s)(k:∀ b u,s.heap.get? b=some u->h'.get? b=some u):Inv X pins σ H { s with heap:=h',toks:=t' }:=I.un (Un.kept k) (I.hok.kept k)
theorem Inv.laid{a:Addr}{o:HO}{t':Nat}(I:Inv X pins σ H s)(k:∀ b u,s.heap.get? b=some u->h'.get? b=some u)(hp:s.heap.objs.size<=a)(new:cZ X.prog X.w (upd H a o) h' a o) :
  Inv X pins σ (upd H a o) { s with heap:=h',toks:=t' }:=I.un (Un.laid k hp (I.hok.fresh hp)) (I.hok.laid k hp new)
theorem Inv.write{x e:Addr}{o:HO}{t':Nat}(I:Inv X pins σ H s)(mu:Mut (H x))(he:e=x\/H e=some (.own x))(k:∀ b u,b≠e->s.heap.get? b=some u->h'.get? b=some u)(heo:∃ u,h'.get? e=some u)
  (new:cZ X.prog X.w (upd H x o) h' x o):Inv X pins σ (upd H x o) { s with heap:=h',toks:=t' }:=I.un (Un.write mu he k heo) (I.hok.write mu he k heo new)
theorem Inv.pins_of{pins':List (Addr×Obj)}(I:Inv X pins σ H s)(h:∀ p∈pins',s.heap.get? p.1=some p.2/\H p.1=none/\p.1≠X.env.locals/\p.1∉X.fs/\∀ v,p.2.data≠.cell v):Inv X pins' σ H s :=
 ⟨I.ok,I.os,I.bare,I.base,I.loc,I.cell,I.free,I.freeC,fun p hp=>(List.mem_append.mp hp).elim (fun z=>I.pin p (List.mem_append_left _ z)) (h p),I.hok,I.len⟩
theorem pN{N:List Str}(hN:N.Nodup){i j:Nat}{x:Str}(a:N[i]?=some x)(b:N[j]?=some x):i=j:=by
 obtain⟨h1,e1⟩:=List.getElem?_eq_some_iff.mp a
 obtain⟨h2,e2⟩:=List.getElem?_eq_some_iff.mp b
 exact(List.getElem_inj hN).mp (e1.trans e2.symm)
theorem lX{M:Model}{A:Around}{E:Value->Shared->Prop}{i:Nat}{x:Str}{v:V}{u:Value}{Q:Unit->Shared->Prop}(I:Inv X pins σ H s)(hN:X.N.Nodup)(hi:X.N[i]?=some x)(hx:Loc X.env.scope x)(r:RelV v u)
  (h:∀ s',Inv X pins (σ.set i (some v)) H s'->(∃ a,Heap.SameBut a s.heap s'.heap/\(a=X.env.locals\/X.env.cells.lookup x=some a))->Q () s') (hf:X.fn x=true\/X.env.scope.names.lookup x=some .local:=by first | exact .inl rfl | exact .inr rfl | assumption):wpAny M A (storeName X.env x u) Q E s:=by
 obtain⟨m,hn,hl⟩:=id I.loc
 have hcls:(X.env.scope.kind==.class||(X.env.scope.kind==.module&&X.env.locals !=X.env.globals))=false:=by rw[I.ok.kind];rfl
 have hiσ:i<σ.length:=by rw[I.len];exact(List.getElem?_eq_some_iff.mp hi).1
 have cne:=I.cne
 have tracked:∀ {a:Addr} {h':Heap},(∃ o,s.heap.get? a=some o/\H a=none)->Heap.SameBut a s.heap h'->HOk X.prog X.w H h':=fun {a h'} ha hs b ob e=>by
  obtain⟨_,_,hfree⟩:=ha
  refine(I.hok b ob e).stay (fun c w' hc q=>(hs.2 c ?_).trans q) (fun _ q=>q) fun _ _ q=>q
  rintro rfl
  rcases hc with rfl | hc
  ·rw[hfree] at e;cases e
  ·rw[hfree] at hc;cases hc
 rcases hx with hk | hk
 ·refine wpAny_storeName_local hk hn (fun h' hn' hs=>?_) hcls
  obtain⟨oL,_,_,hoL,_⟩:=id hn
  refine h _ ⟨I.ok,I.os,I.bare,⟨fun b o e n hb hx=>?_,fun b o e n hb hx=>?_,I.base.free,fun b o e hx=>?_,I.base.tups,I.base.frzs,I.base.tbls⟩,⟨_,hn',fun j y v' e1 e2 e3=>?_⟩,fun y c e=>?_,I.free,I.freeC,fun p hp=>?_,tracked ⟨oL,hoL,I.free⟩ hs,by simpa using I.len⟩ ⟨_,hs,.inl rfl⟩
  ·exact(hs.2 b (Nat.ne_of_lt (Nat.lt_of_lt_of_le (Heap.lt_size e) I.ok.above))).trans (I.base.keep b o e n hb hx)
  ·obtain⟨sl,e1⟩:=I.base.slot b o e n hb hx
   exact⟨sl,(hs.2 b (Nat.ne_of_lt (Nat.lt_of_lt_of_le (Heap.lt_size e) I.ok.above))).trans e1⟩
  ·obtain⟨o',e1⟩:=I.base.there b o e hx
   exact⟨o',(hs.2 b (Nat.ne_of_lt (Nat.lt_of_lt_of_le (Heap.lt_size e) I.ok.above))).trans e1⟩
  ·by_cases hj:j=i
   ·subst hj
    rw[hi] at e1;cases e1
    rw[List.getElem?_set_self hiσ] at e2
    cases e2
    exact⟨u,r,.inl ⟨hk,by simp⟩⟩
   ·rw[List.getElem?_set_ne (Ne.symm hj)] at e2
    obtain⟨u',r',q⟩:=hl j y v' e1 e2 e3
    refine⟨u',r',?_⟩
    rcases q with⟨k,e⟩ | ⟨k,c,e,z⟩
    ·refine .inl ⟨k,?_⟩
     have:y≠x:=fun e=>hj (pN hN e1 (e▸hi))
     simp[this,e]
    ·exact .inr ⟨k,c,e,z.sameBut hs (cne y c e)⟩
  ·obtain⟨w',z⟩:=I.cell y c e
   exact⟨w',z.sameBut hs (cne y c e)⟩
  ·obtain⟨e,n,ne,nf,d⟩:=I.pin p hp
   exact⟨(hs.2 p.1 ne).trans e,n,ne,nf,d⟩
 ·have hfn:X.fn x=true:=by
   rcases hf with z | z
   ·exact z
   ·rw[z] at hk;cases hk
  obtain⟨c,hc⟩:=I.ok.has x (.inl hk)
  obtain⟨w',z⟩:=I.cell x c hc
  refine wpAny_storeName_cell I.ok.kind hk hc z (fun h' hc' hs=>?_)
  obtain⟨oc,hoc,hocd⟩:=id z
  refine h { s with heap:=h' } ⟨I.ok,I.os,I.bare,⟨fun b o e n hb hx=>?_,fun b o e n hb hx=>?_,I.base.free,fun b o e hx=>?_,I.base.tups,I.base.frzs,I.base.tbls⟩,⟨m,hn.sameBut hs (Ne.symm (cne x c hc)),fun j y v' e1 e2 e3=>?_⟩,fun y c' e=>?_,I.free,I.freeC,fun p hp=>?_,tracked ⟨oc,hoc,I.freeC x c hc⟩ hs,by simpa using I.len⟩ ⟨c,hs,.inr hc⟩
  ·exact(hs.2 b (Nat.ne_of_lt (Nat.lt_of_lt_of_le (Heap.lt_size e) (I.ok.cab x c hfn hc)))).trans (I.base.keep b o e n hb hx)
  ·obtain⟨sl,e1⟩:=I.base.slot b o e n hb hx
   exact⟨sl,(hs.2 b (Nat.ne_of_lt (Nat.lt_of_lt_of_le (Heap.lt_size e) (I.ok.cab x c hfn hc)))).trans e1⟩
  ·obtain⟨o',e1⟩:=I.base.there b o e hx
   exact⟨o',(hs.2 b (Nat.ne_of_lt (Nat.lt_of_lt_of_le (Heap.lt_size e) (I.ok.cab x c hfn hc)))).trans e1⟩
  ·by_cases hj:j=i
   ·subst hj
    rw[hi] at e1;cases e1
    rw[List.getElem?_set_self hiσ] at e2
    cases e2
    exact⟨u,r,.inr ⟨.inl hk,c,hc,hc'⟩⟩
   ·rw[List.getElem?_set_ne (Ne.symm hj)] at e2
    obtain⟨u',r',q⟩:=hl j y v' e1 e2 e3
    refine⟨u',r',?_⟩
    rcases q with q | ⟨k,c',e,z'⟩
    ·exact .inl q
    ·refine .inr ⟨k,c',e,z'.sameBut hs ?_⟩
     rintro rfl
     exact hj (pN hN e1 (I.ok.inj _ _ _ e hc▸hi))
  ·by_cases hcc:c'=c
   ·subst hcc;exact⟨_,hc'⟩
   ·obtain⟨w2,z2⟩:=I.cell y c' e
    exact⟨w2,z2.sameBut hs hcc⟩
  ·obtain⟨e,n,ne,nf,d⟩:=I.pin p hp
   refine⟨(hs.2 p.1 ?_).trans e,n,ne,nf,d⟩
   intro q
   rw[q,hoc] at e
   have q':oc=p.2:=Option.some.inj e
   exact d w' (by rw[<- q'];exact hocd)
theorem iC{M:Model}{A:Around}{E:Value->Shared->Prop}{i:Nat}{x:Str}{v:V}{u:Value}{Q:Unit->Shared->Prop}(I:Inv X pins σ H s)(hN:X.N.Nodup)(hi:X.N[i]?=some x)(hx:Loc X.env.scope x)(r:RelV v u)
  (h:∀ s',Inv X pins (σ.set i (some v)) H s'->Q () s') (hf:X.fn x=true\/X.env.scope.names.lookup x=some .local:=by first | exact .inl rfl | exact .inr rfl | assumption):wpAny M A (storeName X.env x u) Q E s :=
 lX I hN hi hx r (fun s' I' _=>h s' I') hf
theorem Inv.call'{s':Shared}{ch:List Addr}(I:Inv X pins σ H s)(ho:s'.os=s.os)(u:Un (frs X.stack) ch H H' s.heap s'.heap)(hok:HOk X.prog X.w H' s'.heap)(hg:AllBare s'.gens)
  (hch:∀ b∈ch,(b∈X.ex\/X.s₀.heap.objs.size<=b)/\b≠X.env.locals/\(∀ x c,X.env.cells.lookup x=some c->c≠b)/\∀ p∈X.pn++pins,p.1≠b):Inv X pins σ H' s':=by
 obtain⟨h',g',d',t',o'⟩:=s'
 have e:o'=s.os:=ho
 subst e
 exact I.call (g':=g') (t':=t') (d':=d') u hok hg hch
end
abbrev XK:=Value->Option Addr->Hp->Prop
abbrev St:=List (Option V)
abbrev VK:=V->Hp->Prop
abbrev TE:=St->Hp->VK->Prop
abbrev TT:=St->Hp->(Bool->Hp->Prop)->Prop
abbrev TA:=St->Hp->(List V->Hp->Prop)->Prop
structure Ends where
 nx:St->Hp->Prop
 rt:VK
 bk:St->Hp->Prop:=fun _ _=>False
 ct:St->Hp->Prop:=fun _ _=>False
abbrev TS:=Ends->St->Hp->Prop
def EP(X:Cx)(pins:List (Addr×Obj))(σ:St)(Q:VK)(u:Value)(s':Shared):Prop:=∃ v H',Inv X pins σ H' s'/\RelV v u/\Q v H'
def TP(X:Cx)(pins:List (Addr×Obj))(σ:St)(Q:Bool->Hp->Prop)(b:Bool)(s':Shared):Prop:=∃ H',Inv X pins σ H' s'/\Q b H'
def AP(X:Cx)(pins:List (Addr×Obj))(σ:St)(Q:List V->Hp->Prop)(us:List Value)(s':Shared):Prop:=∃ vs H',Inv X pins σ H' s'/\Vals vs us/\Q vs H'
def SP(X:Cx)(pins:List (Addr×Obj))(D:Ends)(f:Flow)(s':Shared):Prop :=
 match f with
 | .next=>∃ σ' H',Inv X pins σ' H' s'/\D.nx σ' H'
 | .brk=>∃ σ' H',Inv X pins σ' H' s'/\D.bk σ' H'
 | .cont=>∃ σ' H',Inv X pins σ' H' s'/\D.ct σ' H'
 | .ret u=>∃ v σ' H',Inv X pins σ' H' s'/\RelV v u/\D.rt v H'
def PE(X:Cx)(e:Expr)(t:TE):Prop :=
 ∀ (pins:List (Addr×Obj)) (s:Shared) (σ:St) (H:Hp) (Q:VK),Inv X pins σ H s->t σ H Q->wpAny (model X.prog X.w) X.A (eval e X.env) (EP X pins σ Q) X.xe s
def PT(X:Cx)(e:Expr)(t:TT):Prop :=
 ∀ (pins:List (Addr×Obj)) (s:Shared) (σ:St) (H:Hp) (Q:Bool->Hp->Prop),Inv X pins σ H s->t σ H Q->wpAny (model X.prog X.w) X.A (isTrue e X.env (eval e X.env)) (TP X pins σ Q) X.xe s
def PW(X:Cx)(e:Expr)(t:TT):Prop :=
 ∀ (whole:Sem Value) (pins:List (Addr×Obj)) (s:Shared) (σ:St) (H:Hp) (Q:Bool->Hp->Prop),Inv X pins σ H s->t σ H Q->wpAny (model X.prog X.w) X.A (isTrue e X.env whole) (TP X pins σ Q) X.xe s
def PA(X:Cx)(es:List Expr)(t:TA):Prop :=
 ∀ (pos:Pos) (pins:List (Addr×Obj)) (s:Shared) (σ:St) (H:Hp) (Q:List V->Hp->Prop),Inv X pins σ H s->t σ H Q->wpAny (model X.prog X.w) X.A (spliced (backTo pos (starEach es X.env))) (AP X pins σ Q) X.xe s
def PS(X:Cx)(st:Stmt)(t:TS):Prop :=
 ∀ (pins:List (Addr×Obj)) (s:Shared) (σ:St) (H:Hp) (D:Ends),Inv X pins σ H s->t D σ H->wpAny (model X.prog X.w) X.A (exec st X.env) (SP X pins D) X.xe s
def PSs(X:Cx)(st:List Stmt)(t:TS):Prop :=
 ∀ (pins:List (Addr×Obj)) (s:Shared) (σ:St) (H:Hp) (D:Ends),Inv X pins σ H s->t D σ H->wpAny (model X.prog X.w) X.A (execs st X.env) (SP X pins D) X.xe s
theorem thn{α:Type}{t:Sem α}{Q Q':α->Shared->Prop}{M:Model}{A:Around}{E:Value->Shared->Prop}{s:Shared}(h:wpAny M A t Q E s)(hQ:∀ a s,Q a s->Q' a s):wpAny M A t Q' E s:=wpAny_mono h hQ fun _ _ x=>x
end L2
namespace L2
open PySem PySem.Spec PyProof.Rows
section
variable {X:Cx}
def FT(i:Nat):TE:=fun σ H Q=>∃ v,σ[i]?=some (some v)/\Q v H
def tC(v:V):TE:=fun _ H Q=>Q v H
theorem fZ{i:Nat}{x:Str}{pos:Pos}(hN:X.N[i]?=some x)(hv:Vis X.env.scope x)(hd:(x==("__debug__":Str))=false:=by decide)(hcd:(x==("__classdict__":Str))=false:=by decide):PE X (.Name x pos) (FT i):=by
 intro pins s σ H Q I h
 obtain⟨v,e,h⟩:=h
 obtain⟨m,hn,hl⟩:=I.loc
 obtain⟨u,r,l⟩:=hl i x v hN e hv
 have fin:EP X pins σ Q u s:=⟨v,H,I,r,h⟩
 rcases l with⟨hk,hm⟩ | ⟨hk,c,hc,hcell⟩
 ·exact wpAny_Name (wpAny_loadName_local I.ok.kind hk hn hm fin) hd
 ·rcases hk with hk | hk
  ·exact wpAny_Name (wpAny_loadName_cell I.ok.kind hk hc hcell fin) hd
  ·exact wpAny_Name (wpAny_loadName_free I.ok.kind hk hc hcell fin hcd) hd
theorem zE{i j pos}:PE X (.Constant (.int i) j pos) (tC (.int i)):=fun _ _ _ H _ I h=>wpAny_Constant_int ⟨.int i,H,I.tok _,⟨_,rfl⟩,h⟩
theorem Kv{b j pos}:PE X (.Constant (.bool b) j pos) (tC (.bl b)):=fun _ _ _ H _ I h=>Constant_bool ⟨.bl b,H,I,rfl,h⟩
theorem G3{j pos}:PE X (.Constant .none j pos) (tC .non):=fun _ _ _ H _ I h=>Constant_none ⟨.non,H,I,rfl,h⟩
theorem GQ{x j pos}:PE X (.Constant (.str x) j pos) (tC (.str x)):=fun _ _ _ H _ I h=>Calls.Constant_str ⟨.str x,H,I.tok _,⟨_,rfl⟩,h⟩
def Gl(X:Cx)(x:Str):Prop:=X.env.kindOf x=some .globalImplicit
theorem uL{E:Value->Shared->Prop}{pins:List (Addr×Obj)}{s:Shared}{σ:St}{H:Hp}{x:Str}{u:Value}{pos:Pos}{Q:Value->Shared->Prop}(I:Inv X pins σ H s)(hg:Gl X x)(hm:X.mg x=some u)(h:Q u s)
  (hd:(x==("__debug__":Str))=false:=by decide):wpAny (model X.prog X.w) X.A (eval (.Name x pos) X.env) Q E s :=
 Calls.Name_function_global I.ok.kind hg (Calls.loadGlobal_global (by rw[I.ok.glob];exact I.mod.glob.keeps I.bk) hm h) hd
theorem bV{E:Value->Shared->Prop}{pins:List (Addr×Obj)}{s:Shared}{σ:St}{H:Hp}{x:Str}{u:Value}{pos:Pos}{Q:Value->Shared->Prop}(I:Inv X pins σ H s)(hg:Gl X x)(hm:X.mg x=none)(hv:bootBuiltins x=some u)(h:Q u s)
  (hn:x≠"__name__":=by decide) (hd:(x==("__debug__":Str))=false:=by decide):wpAny (model X.prog X.w) X.A (eval (.Name x pos) X.env) Q E s:=by
 obtain⟨mb,h1,h2⟩:=I.mod.blt
 exact Calls.Name_function_global I.ok.kind hg (Calls.loadGlobal_builtin (by rw[I.ok.glob];exact I.mod.glob.keeps I.bk) hm (by rw[I.ok.blt];exact h1.keeps I.bk) ((h2 x hn).trans hv) h) hd
theorem nY{x:Str}{v:V}{u:Value}{pos:Pos}(hg:Gl X x)(hm:X.mg x=some u)(r:RelV v u)(hd:(x==("__debug__":Str))=false:=by decide):PE X (.Name x pos) (tC v) :=
 fun _ _ _ H _ I h=>uL I hg hm ⟨v,H,I,r,h⟩ hd
theorem uq{x:Str}{v:V}{u:Value}{pos:Pos}(hg:Gl X x)(hm:X.mg x=none)(hv:bootBuiltins x=some u)(r:RelV v u)(hn:x≠"__name__":=by decide)(hd:(x==("__debug__":Str))=false:=by decide):PE X (.Name x pos) (tC v) :=
 fun _ _ _ H _ I h=>bV I hg hm hv ⟨v,H,I,r,h⟩ hn hd
variable {a b:Expr} {ta tb:TE} {pos:Pos}
def tB(t:TE):TT:=fun σ H Q=>t σ H fun x H1=>∃ c,x=.bl c/\Q c H1
theorem Gw{e:Expr}{t:TE}(h:PE X e t)(he:∀ whole,isTrue e X.env whole=(do let v <- whole;standAt e.pos;holding [v] (truthy v)):=by intro _;rfl):PT X e (tB t):=by
 intro pins s σ H Q I hw
 refine isTrue_plain (thn (h pins s σ H _ I hw) fun v s1 ⟨x,H1,I1,r1,q1⟩=>?_) (he _)
 obtain⟨d,rfl,q⟩:=q1
 cases r1
 exact wpAny_truthy_bool ⟨H1,I1,q⟩
variable {tA tB':TT} {rest:List Expr}
def Xi(t u:TT):TT:=fun σ H Q=>t σ H fun c H1=>if c=true then u σ H1 Q else Q false H1
def tOr(t u:TT):TT:=fun σ H Q=>t σ H fun c H1=>if c=true then Q true H1 else u σ H1 Q
def Xd(t:TT):TT:=fun σ H Q=>t σ H fun c H1=>Q (!c) H1
theorem Bh(ha:PT X a tA):PW X (.BoolOp .And [a] pos) tA:=by
 intro wh pins s σ H Q I h
 refine isTrue_and (thn (ha pins s σ H Q I h) fun c s1 e=>?_)
 cases c with
 | true=>exact isTrue_and_nil e
 | false=>exact e
theorem Gu(ha:PT X a tA):PW X (.BoolOp .Or [a] pos) tA:=by
 intro wh pins s σ H Q I h
 refine isTrue_or (thn (ha pins s σ H Q I h) fun c s1 e=>?_)
 cases c with
 | false=>exact isTrue_or_nil e
 | true=>exact e
theorem zq(ha:PT X a tA)(hb:PW X (.BoolOp .And (b::rest) pos) tB'):PW X (.BoolOp .And (a::b::rest) pos) (Xi tA tB'):=by
 intro wh pins s σ H Q I h
 refine isTrue_and (thn (ha pins s σ H _ I h) fun c s1 ⟨H1,I1,q1⟩=>?_)
 cases c with
 | true=>exact hb wh pins s1 σ H1 Q I1 q1
 | false=>exact⟨H1,I1,q1⟩
theorem Gv(ha:PT X a tA)(hb:PW X (.BoolOp .Or (b::rest) pos) tB'):PW X (.BoolOp .Or (a::b::rest) pos) (tOr tA tB'):=by
 intro wh pins s σ H Q I h
 refine isTrue_or (thn (ha pins s σ H _ I h) fun c s1 ⟨H1,I1,q1⟩=>?_)
 cases c with
 | true=>exact⟨H1,I1,q1⟩
 | false=>exact hb wh pins s1 σ H1 Q I1 q1
theorem Gx(ha:PT X a tA):PT X (.UnaryOp .Not a pos) (Xd tA):=by
 intro pins s σ H Q I h
 exact isTrue_not (ha pins s σ H (fun c H1=>Q (!c) H1) I h)
def J6(ta tb:TE):TE:=fun σ H Q=>ta σ H fun x H1=>∃ c,x=.bl c/\if c=true then tb σ H1 Q else Q (.bl false) H1
def Xb(ta tb:TE):TE:=fun σ H Q=>ta σ H fun x H1=>∃ c,x=.bl c/\if c=true then Q (.bl true) H1 else tb σ H1 Q
def JW(ta:TE):TE:=fun σ H Q=>ta σ H fun x H1=>∃ c,x=.bl c/\Q (.bl (!c)) H1
theorem GX{op}{t:TE}(h:PE X a t):PE X (.BoolOp op [a] pos) t:=fun pins s σ H Q I hw=>BoolOp_one (h pins s σ H Q I hw)
theorem zF(ha:PE X a ta)(hb:PE X (.BoolOp .And (b::rest) pos) tb):PE X (.BoolOp .And (a::b::rest) pos) (J6 ta tb):=by
 intro pins s σ H Q I h
 refine BoolOp_and (thn (ha pins s σ H _ I h) fun v s1 ⟨x,H1,I1,r1,q1⟩=>?_)
 obtain⟨c,rfl,q1⟩:=q1
 cases r1
 refine wpAny_truthy_bool ?_
 cases c with
 | true=>exact hb pins s1 σ H1 Q I1 q1
 | false=>exact⟨.bl false,H1,I1,rfl,q1⟩
theorem GR(ha:PE X a ta)(hb:PE X (.BoolOp .Or (b::rest) pos) tb):PE X (.BoolOp .Or (a::b::rest) pos) (Xb ta tb):=by
 intro pins s σ H Q I h
 refine BoolOp_or (thn (ha pins s σ H _ I h) fun v s1 ⟨x,H1,I1,r1,q1⟩=>?_)
 obtain⟨c,rfl,q1⟩:=q1
 cases r1
 refine wpAny_truthy_bool ?_
 cases c with
 | false=>exact hb pins s1 σ H1 Q I1 q1
 | true=>exact⟨.bl true,H1,I1,rfl,q1⟩
theorem GZ(ha:PE X a ta):PE X (.UnaryOp .Not a pos) (JW ta):=by
 intro pins s σ H Q I h
 refine UnaryOp_ (thn (ha pins s σ H _ I h) fun v s1 ⟨x,H1,I1,r1,q1⟩=>?_)
 obtain⟨c,rfl,q1⟩:=q1
 cases r1
 exact not_of (wpAny_truthy_bool ⟨.bl (!c),H1,I1,rfl,q1⟩)
def tIf(t:TT)(ta tb:TE):TE:=fun σ H Q=>t σ H fun c H1=>if c=true then ta σ H1 Q else tb σ H1 Q
theorem xO{c:Expr}(hc:PT X c tA)(ha:PE X a ta)(hb:PE X b tb):PE X (.IfExp c a b pos) (tIf tA ta tb):=by
 intro pins s σ H Q I h
 refine wpAny_IfExp (thn (hc pins s σ H _ I h) fun d s1 ⟨H1,I1,q1⟩=>?_)
 cases d with
 | true=>exact ha pins s1 σ H1 Q I1 q1
 | false=>exact hb pins s1 σ H1 Q I1 q1
end
end L2
namespace L2
open PySem PySem.Spec PyProof.Rows
def SqL(K:PySem.W.Frag)(H:Hp)(a:Addr)(xs:List V):Prop :=
 Rd H a (.lst xs) \/
  ∃ (o:Obj) (its:Array Value) (n:Nat),K.lookup a=some o/\o.cls=.type "list"/\o.dict=none/\o.data=.seq its n/\its.size<=sizeLine/\Vals xs its.toList
def SqT(K:PySem.W.Frag)(H:Hp)(a:Addr)(xs:List V):Prop :=
 Rd H a (.tup xs) \/
  ∃ (o:Obj) (its:Array Value) (n:Nat),K.lookup a=some o/\o.cls=.type "tuple"/\o.data=.seq its n/\its.size<=sizeLine/\Vals xs its.toList
def Yo:Value->Option V
 | .none=>some .non
 | .bool b=>some (.bl b)
 | .int i _=>some (.int i)
 | .str x _=>some (.str x)
 | .bytes b _=>some (.byt b)
 | .float b _=>some (.flt b)
 | .ref a=>some (.ref a)
 | .type n=>some (.ty n)
 | _=>none
theorem RelV.abs{x:V}{u:Value}(r:RelV x u):Yo u=some x:=by
 cases x with
 | non=>cases r;rfl
 | bl _=>cases r;rfl
 | int _=>obtain⟨t,rfl⟩:=r;rfl
 | str _=>obtain⟨t,rfl⟩:=r;rfl
 | byt _=>obtain⟨t,rfl⟩:=r;rfl
 | flt _=>obtain⟨t,rfl⟩:=r;rfl
 | ref _=>cases r;rfl
 | ty _=>cases r;rfl
theorem RelV.inj{x y:V}{u:Value}(r:RelV x u)(q:RelV y u):x=y:=Option.some.inj (r.abs.symm.trans q.abs)
theorem Vals.inj:∀ {xs ys:List V} {us:List Value},Vals xs us->Vals ys us->xs=ys
 | _,_,_,.nil,.nil=>rfl
 | _,_,_,.cons r t,.cons r' t'=>by rw[r.inj r',Vals.inj t t']
section
variable {X:Cx} {pins:List (Addr×Obj)} {σ:St} {H:Hp} {s:Shared} {a:Addr} {xs ys:List V}
theorem SqL.of{K:PySem.W.Frag}(h:H a=some (.lst xs)):SqL K H a xs:=.inl (.inl h)
theorem SqT.of{K:PySem.W.Frag}(h:H a=some (.tup xs)):SqT K H a xs:=.inl (.inl h)
theorem Inv.list(I:Inv X pins σ H s)(h:SqL X.K H a xs):∃ its:List Value,Vals xs its/\PlainL s.heap a its.toArray/\xs.length<=sizeLine:=by
 rcases h with h | ⟨o,its,n,hk,hc,hd,hs,hz,r⟩
 ·obtain⟨z,its,n,r,e⟩:=h.ok I.hok
  exact⟨its,r,⟨_,n,e,rfl,rfl,rfl⟩,z⟩
 ·refine⟨its.toList,r,⟨o,n,I.kIn a o hk,hc,hd,by simpa using hs⟩,?_⟩
  have e:=r.length
  simp only[Array.length_toList] at e
  omega
theorem Inv.tuple(I:Inv X pins σ H s)(h:SqT X.K H a xs):∃ its:List Value,Vals xs its/\IsTup s.heap a its.toArray/\xs.length<=sizeLine:=by
 rcases h with h | ⟨o,its,n,hk,hc,hs,hz,r⟩
 ·obtain⟨z,its,r,p⟩:=h.ok I.hok
  exact⟨its,r,p,z⟩
 ·refine⟨its.toList,r,⟨o,I.kIn a o hk,hc,n,by simpa using hs⟩,?_⟩
  have e:=r.length
  simp only[Array.length_toList] at e
  omega
theorem Inv.list_inj(I:Inv X pins σ H s)(h:SqL X.K H a xs)(h':SqL X.K H a ys):xs=ys:=by
 obtain⟨its,r,⟨o,n,e,_,_,d⟩,_⟩:=I.list h
 obtain⟨its',r',⟨o',n',e',_,_,d'⟩,_⟩:=I.list h'
 rw[e] at e';cases e'
 rw[d] at d'
 injection d' with d1 _
 have:its=its':=by simpa using congrArg Array.toList d1
 subst this
 exact r.inj r'
theorem Inv.tuple_inj(I:Inv X pins σ H s)(h:SqT X.K H a xs)(h':SqT X.K H a ys):xs=ys:=by
 obtain⟨its,r,⟨o,e,_,n,d⟩,_⟩:=I.tuple h
 obtain⟨its',r',⟨o',e',_,n',d'⟩,_⟩:=I.tuple h'
 rw[e] at e';cases e'
 rw[d] at d'
 injection d' with d1 _
 have:its=its':=by simpa using congrArg Array.toList d1
 subst this
 exact r.inj r'
end
abbrev Cx.wish(X:Cx)(E:Value->Shared->Prop):Cx:={ X with xe:=E }
abbrev Cx.nox(X:Cx):Cx:=X.wish fun _ _=>False
theorem Cx.Ok.wish{X:Cx}(ok:X.Ok)(E:Value->Shared->Prop):(X.wish E).Ok :=
 ⟨ok.mod,ok.kind,ok.glob,ok.blt,ok.above,ok.inj,ok.has,ok.cab,ok.hd,ok.frames,ok.stk,ok.exf,ok.bs,ok.bsz,ok.noex,ok.exfs,ok.funs,ok.frf⟩
theorem Cx.Ok.unwish{X:Cx}{E:Value->Shared->Prop}(ok:(X.wish E).Ok):X.Ok :=
 ⟨ok.mod,ok.kind,ok.glob,ok.blt,ok.above,ok.inj,ok.has,ok.cab,ok.hd,ok.frames,ok.stk,ok.exf,ok.bs,ok.bsz,ok.noex,ok.exfs,ok.funs,ok.frf⟩
section
variable {X:Cx} {pins:List (Addr×Obj)} {σ:St} {H:Hp} {s:Shared} {E:Value->Shared->Prop}
theorem Inv.wish(I:Inv X pins σ H s)(E:Value->Shared->Prop):Inv (X.wish E) pins σ H s:=⟨I.ok.wish E,I.os,I.bare,I.base,I.loc,I.cell,I.free,I.freeC,I.pin,I.hok,I.len⟩
theorem Inv.unwish(I:Inv (X.wish E) pins σ H s):Inv X pins σ H s:=⟨I.ok.unwish,I.os,I.bare,I.base,I.loc,I.cell,I.free,I.freeC,I.pin,I.hok,I.len⟩
theorem SP.unwish{D:Ends}{f:Flow}{s':Shared}(h:SP (X.wish E) pins D f s'):SP X pins D f s':=by
 cases f with
 | next=>obtain⟨σ',H',I,q⟩:=h;exact⟨σ',H',I.unwish,q⟩
 | brk=>obtain⟨σ',H',I,q⟩:=h;exact⟨σ',H',I.unwish,q⟩
 | cont=>obtain⟨σ',H',I,q⟩:=h;exact⟨σ',H',I.unwish,q⟩
 | ret u=>obtain⟨v,σ',H',I,r,q⟩:=h;exact⟨v,σ',H',I.unwish,r,q⟩
end
section
variable {X:Cx} {st:Stmt} {rest:List Stmt} {t u:TS} {e:Expr} {te:TE} {pos:Pos}
def FZ:TS:=fun D σ H=>D.nx σ H
def W8(t u:TS):TS:=fun D σ H=>t { D with nx:=u D } σ H
theorem Bk:PSs X [] FZ:=fun _ _ σ H _ I h=>wpAny_execs_nil ⟨σ,H,I,h⟩
theorem pJ(h1:PS X st t)(h2:PSs X rest u):PSs X (st::rest) (W8 t u):=by
  intro pins s σ H D I h
  refine wpAny_execs_cons (thn (h1 pins s σ H { D with nx:=u D } I h) fun f s1 q=>?_)
  cases f with
  | next =>
    obtain⟨σ',H',I',q⟩:=q
    exact h2 pins s1 σ' H' D I' q
  | ret v=>exact q
  | brk=>exact q
  | cont=>exact q
theorem Bm:PS X (.Pass pos) FZ:=fun _ _ σ H _ I h=>wpAny_Pass ⟨σ,H,I,h⟩
theorem Inv.quiet{pins:List (Addr×Obj)}{σ:St}{H:Hp}{s:Shared}(I:Inv X pins σ H s):interactive X.env=false:=by simp[interactive,I.ok.kind]
def J1(te:TE):TS:=fun D σ H=>te σ H fun _ H1=>D.nx σ H1
theorem gQ(he:PE X e te)(hs:swapsWith e none pos.line X.env=pure false:=by rfl):PS X (.Expr e pos) (J1 te):=by
 intro pins s σ H D I h
 exact wpAny_Expr_any (thn (he pins s σ H _ I h) fun v s1 ⟨x,H1,I1,r1,q1⟩=>⟨σ,H1,I1,q1⟩) I.quiet hs
def W9(te:TE):TS:=fun D σ H=>te σ H D.rt
theorem Gy(he:PE X e te):PS X (.Return (some e) pos) (W9 te):=by
 intro pins s σ H D I h
 exact wpAny_Return_some (thn (he pins s σ H _ I h) fun v s1 ⟨x,H1,I1,r1,q1⟩=>⟨x,σ,H1,I1,r1,q1⟩)
def JT:TS:=fun D _ H=>D.rt .non H
theorem Bl:PS X (.Return none pos) JT:=fun _ _ σ H _ I h=>wpAny_Return_none ⟨.non,σ,H,I,rfl,h⟩
def Xf(c:TT)(t u:TS):TS:=fun D σ H=>c σ H fun b H1=>if b=true then t D σ H1 else u D σ H1
theorem Ks{c:Expr}{a b:List Stmt}{tc:TT}(hc:PT X c tc)(ha:PSs X a t)(hb:PSs X b u):PS X (.If c a b pos) (Xf tc t u):=by
 intro pins s σ H D I h
 refine wpAny_If (thn (hc pins s σ H _ I h) fun d s1 ⟨H1,I1,q1⟩=>?_)
 cases d with
 | true=>exact ha pins s1 σ H1 D I1 q1
 | false=>exact hb pins s1 σ H1 D I1 q1
end
abbrev TG:=V->St->Hp->(St->Hp->Prop)->Prop
abbrev TGs:=List V->St->Hp->(St->Hp->Prop)->Prop
def PG(X:Cx)(target:Expr)(t:TG):Prop :=
  ∀ (pins : List (Addr × Obj)) (s : Shared) (σ : St) (H : Hp) (v : V) (u : Value) (Q : St -> Hp -> Prop), Inv X pins σ H s -> RelV v u -> t v σ H Q ->
    wpAny (model X.prog X.w) X.A (assign target X.env u) (fun _ s'=>∃ σ' H',Inv X pins σ' H' s'/\Q σ' H') X.xe s
def PGs(X:Cx)(ts:List Expr)(t:TGs):Prop :=
  ∀ (pins : List (Addr × Obj)) (s : Shared) (σ : St) (H : Hp) (vs : List V) (us : List Value) (Q : St -> Hp -> Prop), Inv X pins σ H s -> Vals vs us -> t vs σ H Q ->
    wpAny (model X.prog X.w) X.A (assignInOrder ((assignEach ts X.env).map (·.2)) us) (fun _ s'=>∃ σ' H',Inv X pins σ' H' s'/\Q σ' H') X.xe s
abbrev Tc:=V->V->V->Hp->(Hp->Prop)->Prop
def WK(X:Cx)(t:Tc):Prop :=
  ∀ (pins : List (Addr × Obj)) (s : Shared) (σ : St) (H : Hp) (o i v : V) (ov iv u : Value) (Q : Hp -> Prop), Inv X pins σ H s -> RelV o ov -> RelV i iv -> RelV v u -> t o i v H Q ->
    wpAny (model X.prog X.w) X.A (setItem ov iv u) (fun _ s'=>∃ H',Inv X pins σ H' s'/\Q H') X.xe s
section
variable {X:Cx} {pos:Pos}
def Dk(i:Nat):TG:=fun v σ H Q=>Q (σ.set i (some v)) H
theorem Bw{i:Nat}{x:Str}(hN:X.N.Nodup)(hi:X.N[i]?=some x)(hx:Loc X.env.scope x)(hf:X.fn x=true\/X.env.scope.names.lookup x=some .local:=by first | exact .inl rfl | exact .inr rfl | assumption):PG X (.Name x pos) (Dk i):=by
 intro pins s σ H v u Q I r h
 exact wpAny_assign_Name (iC I hN hi hx r (fun s' I'=>⟨_,H,I',h⟩) hf)
def Yb:TGs:=fun vs σ H Q=>vs=[]/\Q σ H
def Sh(t:TG)(u:TGs):TGs:=fun vs σ H Q=>∃ v r,vs=v::r/\t v σ H fun σ' H'=>u r σ' H' Q
theorem Bv:PGs X [] Yb:=by
 intro pins s σ H vs us Q I r h
 obtain⟨e,h⟩:=h
 subst e
 cases r
 exact assignInOrder_nil ⟨σ,H,I,h⟩
theorem xM{e:Expr}{es:List Expr}{t:TG}{u:TGs}(h1:PG X e t)(h2:PGs X es u)
    (hs:(assignEach (e::es) X.env).map (·.2)=assign e X.env::(assignEach es X.env).map (·.2):=by rfl):PGs X (e::es) (Sh t u):=by
  intro pins s σ H vs us Q I r h
  obtain⟨v,vr,e1,h⟩:=h
  subst e1
  cases r with
  | cons r rr =>
    rw[hs]
    refine assignInOrder_cons (thn (h1 pins s σ H _ _ _ I r h) fun _ s1 ⟨σ1,H1,I1,q1⟩=>?_)
    exact h2 pins s1 σ1 H1 _ _ Q I1 rr q1
def gTup(K:PySem.W.Frag)(n:Nat)(t:TGs):TG:=fun v σ H Q=>∃ a xs,v=.ref a/\SqT K H a xs/\xs.length=n/\t xs σ H Q
theorem zA{es:List Expr}{k:Nat}{t:TGs}{n:Nat}(hc:X.calm=true)(h:PGs X es t)
  (hn:(assignEach es X.env).length=n:=by rfl) (hst:(assignEach es X.env).findIdx? (·.1)=none:=by rfl):PG X (.Tuple es k pos) (gTup X.K n t):=by
 intro pins s σ H v u Q I r hw
 obtain⟨a,xs,e1,hq,hl,hw⟩:=hw
 subst e1
 cases r
 obtain⟨its,rv,ht,hz⟩:=I.tuple hq
 refine assign_Tuple_tuple (I.ok.hd hc) ht (by simp[hn,<- hl,rv.length]) hst fun h' hx=>?_
 have I1:Inv X pins σ H { s with heap:=h' }:=I.kept (t':=s.toks) fun b o e=>hx b o (Nat.ne_of_lt (Heap.lt_size e)) e
 exact h pins _ σ H xs _ Q I1 (by simpa using rv) hw
def X8(to ti:TE)(t:Tc):TG:=fun v σ H Q=>to σ H fun o H1=>ti σ H1 fun i H2=>t o i v H2 fun H3=>Q σ H3
theorem um{o i:Expr}{to ti:TE}{t:Tc}(ho:PE X o to)(hi:PE X i ti)(hs:WK X t)
    (ha:∀ v,assign (.Subscript o i pos) X.env v=(do
      let ov <- holding [v] (eval o X.env)
      let iv <- holding [v,ov] (eval i X.env)
      standAt pos
      holding [v,ov,iv] (setItem ov iv v)
      release [v,ov,iv] []):=by intro _;rfl):PG X (.Subscript o i pos) (X8 to ti t):=by
  intro pins s σ H v u Q I r h
  rw[ha]
  refine wpAny_bind (wpAny_holding (thn (ho pins s σ H _ I h) fun ov s1 ⟨x,H1,I1,r1,q1⟩=>?_))
  refine wpAny_bind (wpAny_holding (thn (hi pins s1 σ H1 _ I1 q1) fun iv s2 ⟨y,H2,I2,r2,q2⟩=>?_))
  refine wpAny_bind (wpAny_standAt (wpAny_bind (wpAny_holding (thn (hs pins s2 σ H2 x y v ov iv u _ I2 r1 r2 r q2) fun _ s3 ⟨H3,I3,q3⟩=>?_))))
  exact wpAny_release ⟨σ,H3,I3,q3⟩
def J5(te:TE)(g:TG):TS:=fun D σ H=>te σ H fun x H1=>g x σ H1 D.nx
theorem pK{tg e:Expr}{te:TE}{g:TG}(he:PE X e te)(hg:PG X tg g)(hs:swapsWithSole [tg] e pos.line X.env=pure false:=by rfl)(hw:swappedStores [tg] e X.env=pure none:=by rfl)
  (h1:(assignEach [tg] X.env).map (·.2)=[assign tg X.env]:=by rfl):PS X (.Assign [tg] e pos) (J5 te g):=by
 intro pins s σ H D I h
 refine wpAny_Assign_stores (thn (he pins s σ H _ I h) fun v s1 ⟨x,H1,I1,r1,q1⟩=>?_) hs hw
 rw[h1]
 exact thn (hg pins s1 σ H1 x v _ I1 r1 q1) fun _ s2 q=>q
theorem iW{i:Nat}{x:Str}{e:Expr}{te:TE}{pos':Pos}(hN:X.N.Nodup)(hi:X.N[i]?=some x)(hx:Loc X.env.scope x)(he:PE X e te)(hs:swapsWith e (some (.Name x pos')) pos.line X.env=pure false:=by rfl)(hf:X.fn x=true\/X.env.scope.names.lookup x=some .local:=by first | exact .inl rfl | exact .inr rfl | assumption) :
  PS X (.Assign [.Name x pos'] e pos) (J5 te (Dk i)):=by
 intro pins s σ H D I h
 refine wpAny_Assign_Name (thn (he pins s σ H _ I h) fun v s1 ⟨y,H1,I1,r1,q1⟩=>?_) hs
 exact iC I1 hN hi hx r1 (fun s2 I2=>⟨_,H1,I2,q1⟩) hf
def Xa(i j:Nat)(ta:TA):TS:=fun D σ H=>ta σ H fun vs H1=>∃ v w,vs=[v,w]/\D.nx ((σ.set i (some v)).set j (some w)) H1
theorem Gz{i j:Nat}{x y:Str}{a b:Expr}{ta:TA}{px py pt:Pos}{kt k2 pt2}(hc:X.calm=true)(hN:X.N.Nodup)(hi:X.N[i]?=some x)(hj:X.N[j]?=some y)(hij:i≠j)
    (hx:X.env.scope.names.lookup x=some .local) (hy:X.env.scope.names.lookup y=some .local) (ha:PA X [a,b] ta)
    (hw:swappedStores [.Tuple [.Name x px,.Name y py] kt pt] (.Tuple [a,b] k2 pt2) X.env=pure (some [x,y]))
    (hs:swapsWithSole [.Tuple [.Name x px,.Name y py] kt pt] (.Tuple [a,b] k2 pt2) pos.line X.env=pure false:=by rfl) :
    PS X (.Assign [.Tuple [.Name x px,.Name y py] kt pt] (.Tuple [a,b] k2 pt2) pos) (Xa i j ta):=by
  intro pins s σ H D I h
  rw[exec_Assign_arm]
  refine wpAny_bind (wpAny_standAt ?_)
  rw[hs]
  refine wpAny_bind (wpAny_pure ?_)
  rw[if_neg (by decide)]
  refine wpAny_bind (Tuple_ (thn (ha _ pins s σ H _ I h) fun us s1 ⟨vs,H1,I1,r1,q1⟩=>?_))
  obtain⟨v,w,e1,q1⟩:=q1
  subst e1
  obtain⟨u1,u2,rfl,rv,rw'⟩:∃ u1 u2,us=[u1,u2]/\RelV v u1/\RelV w u2:=by
    cases r1 with
    | cons p q =>
      cases q with
      | cons p' q' =>
        cases q'
        exact⟨_,_,rfl,p,p'⟩
  refine wpAny_newObj_type ?_ (by show 2<=sizeLine;decide)
  have I2:Inv X pins σ H1 { s1 with heap:=s1.heap.push { cls:=.type "tuple",data:=.seq [u1,u2].toArray } }:=I1.kept (t':=s1.toks) fun b o e=>Heap.get?_push_of_some _ e
  rw[hw]
  refine wpAny_bind (wpAny_pure ?_)
  show wpAny (model X.prog X.w) X.A (do rule "assign.swapped-stores";let items <- unpackItems (.ref s1.heap.objs.size) 2 none;assignInOrder [fun v=>bindName X.env y v,fun v=>bindName X.env x v] items.reverse;pure Flow.next) _ _ _
  refine wpAny_bind (wpAny_rule (wpAny_bind (unpackItems_tuple (items := #[u1,u2]) (I.ok.hd hc) (IsTup.new s1.heap _) fun h' hx'=>?_)))
  have I3:=I2.kept (h':=h') (t':=s1.toks) fun b o e=>hx' b o (Nat.ne_of_lt (Heap.lt_size e)) e
  show wpAny _ _ (assignInOrder [fun v=>bindName X.env y v,fun v=>bindName X.env x v] [u2,u1] >>=fun _=>pure Flow.next) _ _ _
  refine wpAny_bind (assignInOrder_cons (wpAny_bindName (iC I3 hN hj (.inl hy) rw' (fun s2 I4=>?_) (.inr hy))))
  refine assignInOrder_cons (wpAny_bindName (iC I4 hN hi (.inl hx) rv (fun s3 I5=>assignInOrder_nil (wpAny_pure ?_)) (.inr hx)))
  rw[List.set_comm _ _ (Ne.symm hij)] at I5
  exact⟨_,H1,I5,q1⟩
end
section
variable {X:Cx} {pos:Pos}
def FQ(c:TT)(tb:TS):TS:=fun D σ H=>∃ W:Nat->St->Hp->Prop,(∃ m,W m σ H)/\∀ m σ H,W m σ H ->
 c σ H fun b H1=>if b=true then ∃ N:St->Hp->Prop,(∀ σ' H',N σ' H'->∃ m',m'<m/\W m' σ' H')/\tb { D with nx:=N,ct:=N,bk:=D.nx } σ H1 else D.nx σ H1
theorem xg{c:Expr}{body:List Stmt}{tc:TT}{tb:TS}(hp:PassesOwn (model X.prog X.w) X.A X.env X.xe)(hc:PT X c tc)(hb:PSs X body tb):PS X (.While c body [] pos) (FQ tc tb):=by
  intro pins s σ H D I h
  obtain⟨W,⟨m0,w0⟩,turn⟩:=h
  refine wpAny_While (codeAny_whileLoop (fun n s'=>∃ σ' H',Inv X pins σ' H' s'/\W n σ' H') ?_ m0 ⟨σ,H,I,w0⟩)
  rintro n s1 ⟨σ1,H1,I1,w1⟩
  refine wpAny_passesOwn hp (thn (hc pins s1 σ1 H1 _ I1 (turn n σ1 H1 w1)) fun b s2 ⟨H2,I2,q2⟩=>?_)
  cases b with
  | true =>
    obtain⟨N,hN,q2⟩:=q2
    rw[if_pos rfl]
    refine wpAny_passesOwn hp (thn (hb pins s2 σ1 H2 _ I2 q2) fun f s3 q3=>?_)
    cases f with
    | next =>
      obtain⟨σ3,H3,I3,n3⟩:=q3
      obtain⟨m',hm,w3⟩:=hN σ3 H3 n3
      exact⟨m',hm,σ3,H3,I3,w3⟩
    | cont =>
      obtain⟨σ3,H3,I3,n3⟩:=q3
      obtain⟨m',hm,w3⟩:=hN σ3 H3 n3
      exact⟨m',hm,σ3,H3,I3,w3⟩
    | brk=>exact q3
    | ret v=>exact q3
  | false =>
    rw[if_neg Bool.false_ne_true]
    exact wpAny_execs_nil ⟨σ1,H2,I2,q2⟩
end
structure It where
 go:Nat->Hp->Prop
 yld:Nat->Hp->V->Hp->Prop
 stop:Nat->Hp->Prop
def nJ(X:Cx)(pins:List (Addr×Obj))(H:Hp)(b:Addr):Prop :=
 H b=none/\b≠X.env.locals/\b∉X.fs/\(b∈X.ex\/X.s₀.heap.objs.size<=b)/\(∀ x c,X.env.cells.lookup x=some c->c≠b)/\∀ p∈X.pn++pins,p.1≠b
theorem Inv.fpOk{X:Cx}{pins:List (Addr×Obj)}{σ:St}{H H':Hp}{s:Shared}{b:Addr}(I:Inv X pins σ H s)(hb:s.heap.objs.size<=b)(hn:H' b=none):nJ X pins H' b:=by
 refine⟨hn,Nat.ne_of_gt (Nat.lt_of_lt_of_le I.lt hb),I.nofs hb,.inr (Nat.le_trans I.sz hb),fun x c e z=>?_,fun p hp z=>?_⟩
 ·obtain⟨v,q⟩:=I.cell x c e
  exact absurd (Nat.lt_of_lt_of_le q.lt (by rw[z];exact hb)) (Nat.lt_irrefl _)
 ·exact absurd (Nat.lt_of_lt_of_le (Heap.lt_size (I.pin p hp).1) (by rw[z];exact hb)) (Nat.lt_irrefl _)
structure Turn (P:Program) (w:World) (K:PySem.W.Frag) (tg:Expr) (J:It) (fp:List Addr) (it:Addr) (tn:Nat->Heap->Prop):Prop where
  mem:it∈fp
  obj:∀ i h,tn i h->∀ b∈fp,∃ o,h.get? b=some o/\∀ v,o.data≠.cell v
  keep:∀ i h h',tn i h->(∀ b∈fp,∀ o,h.get? b=some o->h'.get? b=some o)->tn i h'
  item:∀ (X:Cx),X.prog=P->X.w=w->X.K=K->X.calm=true->∀ (i:Nat) (pins:List (Addr×Obj)) (s:Shared) (σ:St) (H:Hp) (E:Value->Shared->Prop),Inv X pins σ H s->(∀ b∈fp,nJ X pins H b)->tn i s.heap->J.go i H ->
    wpAny (model P w) X.A (pyNext (.ref it)) (fun r s1=>∃ u,r=some u /\
      wpAny (model P w) X.A (letOwnedTupleGo tg (.ref it) u) (fun _ s2=>∃ x H',Inv X pins σ H' s2/\RelV x u/\J.yld i H x H'/\tn (i+1) s2.heap/\∀ b∈fp,H' b=none) E s1) E s
  done:∀ (X:Cx),X.prog=P->X.w=w->X.K=K->X.calm=true->∀ (i:Nat) (pins:List (Addr×Obj)) (s:Shared) (σ:St) (H:Hp) (E:Value->Shared->Prop),Inv X pins σ H s->(∀ b∈fp,nJ X pins H b)->tn i s.heap->J.stop i H ->
    wpAny (model P w) X.A (pyNext (.ref it)) (fun r s1=>r=none/\Inv X pins σ H s1) E s
  self:∀ (A:Around) (i:Nat) (s:Shared) (Q:Value->Shared->Prop) (E:Value->Shared->Prop),tn i s.heap->Q (.ref it) s->wpAny (model P w) A (pyIter (.ref it)) Q E s
abbrev TI:=St->Hp->(It->Hp->Prop)->Prop
def PIE(X:Cx)(pins:List (Addr×Obj))(σ:St)(tg:Expr)(R:It->Hp->Prop)(itv:Value)(s2:Shared):Prop :=
 ∃ (it:Addr) (fp:List Addr) (tn:Nat->Heap->Prop) (J:It) (H':Hp),itv=.ref it/\Inv X pins σ H' s2/\Turn X.prog X.w X.K tg J fp it tn/\tn 0 s2.heap/\(∀ b∈fp,nJ X pins H' b)/\R J H'
def PI(X:Cx)(tg iter:Expr)(wi:TI):Prop :=
  ∀ (pins : List (Addr × Obj)) (s : Shared) (σ : St) (H : Hp) (R : It -> Hp -> Prop), Inv X pins σ H s -> wi σ H R ->
    wpAny (model X.prog X.w) X.A (eval iter X.env) (fun v s1=>wpAny (model X.prog X.w) X.A (pyIter v) (PIE X pins σ tg R) X.xe s1) X.xe s
theorem u5{M:Model}{A:Around}{E:Value->Shared->Prop}{s:Shared}{tg:Expr}{it:Addr}{u:Value}{o:Obj}{n:String}{vs:Array Value}{Q:Unit->Shared->Prop}(ho:s.heap.get? it=some o)(hc:o.cls=.type n)(hd:o.data=.fields vs)
    (hn:["enumerate","zip","dict_itemiterator","dict_reverseitemiterator","odict_iterator","itertools.zip_longest","itertools.pairwise"].contains n=false) (hQ:Q () s):wpAny M A (letOwnedTupleGo tg (.ref it) u) Q E s:=by
  unfold letOwnedTupleGo
  cases tg<;>first
    | exact wpAny_pure hQ
    | (cases u<;>first
        | exact wpAny_pure hQ
        | (refine wpAny_bind (wpAny_load ho ?_)
           rw[hc,hd]
           show wpAny M A (if(["enumerate","zip","dict_itemiterator","dict_reverseitemiterator","odict_iterator","itertools.zip_longest","itertools.pairwise"].contains n&&vs[0]?==some (rawInt _))=true then _ else _) Q E s
           rw[if_neg (by intro h;rw[hn,Bool.false_and] at h;cases h)]
           exact wpAny_pure hQ))
def Itl(K:PySem.W.Frag)(a:Addr):It :=
 ⟨fun i H=>∃ xs x,SqL K H a xs/\xs[i]?=some x,fun i H x H'=>H'=H/\∀ xs,SqL K H a xs->xs[i]?=some x,fun i H=>∃ xs,SqL K H a xs/\xs.length<=i⟩
def Itt(K:PySem.W.Frag)(a:Addr):It :=
 ⟨fun i H=>∃ xs x,SqT K H a xs/\xs[i]?=some x,fun i H x H'=>H'=H/\∀ xs,SqT K H a xs->xs[i]?=some x,fun i H=>∃ xs,SqT K H a xs/\xs.length<=i⟩
def Itr(lo:Int)(n:Nat):It:=⟨fun i _=>i<n,fun i H x H'=>H'=H/\x=.int (lo+i),fun i _=>n<=i⟩
theorem sW{P:Program}{w:World}{K:PySem.W.Frag}{tg:Expr}(a it:Addr):Turn P w K tg (Itl K a) [it] it (fun i h=>h.IsListIter it a i) where
 mem:=by simp
 obj:=fun i h st b hb=>by
  have e:b=it:=by simpa using hb
  subst e
  obtain⟨o,e,c,d⟩:=st
  exact⟨o,e,fun v z=>by rw[d] at z;cases z⟩
 keep:=fun i h h' st k=>st.at fun o e=>k it (by simp) o e
 item:=by
  intro X hP hw hK hc i pins s σ H E I hf st hg
  subst hP hw hK
  obtain⟨xs,x,hq,hx⟩:=hg
  obtain⟨its,rv,p,hz⟩:=I.list hq
  obtain⟨u,hu,ru⟩:=rv.get hx
  obtain⟨f0,f1,f2,f3,f4,f5⟩:=hf it (by simp)
  refine wpAny_pyNext_list_item st p.isList (x:=u) (by simpa using hu) fun h' st' sb=>?_
  have I1:Inv X pins σ H { s with heap:=h' }:=I.turned (t':=s.toks) (fun b o hb e=>(sb.2 b hb).trans e) f0 f1 f3 f4 f5
  obtain⟨o,e,c,d⟩:=id st'
  exact⟨u,rfl,u5 (s:={ s with heap:=h' }) e c d (by decide) ⟨x,H,I1,ru,⟨rfl,fun ys hy=>by rw[I.list_inj hy hq];exact hx⟩,st',fun b hb=>(hf b hb).1⟩⟩
 done:=by
  intro X hP hw hK hc i pins s σ H E I hf st hg
  subst hP hw hK
  obtain⟨xs,hq,hx⟩:=hg
  obtain⟨its,rv,p,hz⟩:=I.list hq
  obtain⟨f0,f1,f2,f3,f4,f5⟩:=hf it (by simp)
  have hl:=rv.length
  exact wpAny_pyNext_list_end (I.ok.hd hc) st p.isList (by simp;omega) fun h' eb=>⟨rfl,I.turned (t':=s.toks) (fun b o hb e=>eb b o hb e) f0 f1 f3 f4 f5⟩
 self:=fun _ _ _ _ _ st h=>wpAny_pyIter_listiter st h
theorem qO{P:Program}{w:World}{K:PySem.W.Frag}{tg:Expr}(a it:Addr):Turn P w K tg (Itt K a) [it] it (fun i h=>h.IsTupleIter it a i) where
 mem:=by simp
 obj:=fun i h st b hb=>by
  have e:b=it:=by simpa using hb
  subst e
  obtain⟨o,e,c,d⟩:=st
  exact⟨o,e,fun v z=>by rw[d] at z;cases z⟩
 keep:=fun i h h' st k=>st.at fun o e=>k it (by simp) o e
 item:=by
  intro X hP hw hK hc i pins s σ H E I hf st hg
  subst hP hw hK
  obtain⟨xs,x,hq,hx⟩:=hg
  obtain⟨its,rv,p,hz⟩:=I.tuple hq
  obtain⟨u,hu,ru⟩:=rv.get hx
  obtain⟨f0,f1,f2,f3,f4,f5⟩:=hf it (by simp)
  refine wpAny_pyNext_tuple_item st (show s.heap.IsTuple a its.toArray from p) (x:=u) (by simpa using hu) fun h' st' sb=>?_
  have I1:Inv X pins σ H { s with heap:=h' }:=I.turned (t':=s.toks) (fun b o hb e=>(sb.2 b hb).trans e) f0 f1 f3 f4 f5
  obtain⟨o,e,c,d⟩:=id st'
  exact⟨u,rfl,u5 (s:={ s with heap:=h' }) e c d (by decide) ⟨x,H,I1,ru,⟨rfl,fun ys hy=>by rw[I.tuple_inj hy hq];exact hx⟩,st',fun b hb=>(hf b hb).1⟩⟩
 done:=by
  intro X hP hw hK hc i pins s σ H E I hf st hg
  subst hP hw hK
  obtain⟨xs,hq,hx⟩:=hg
  obtain⟨its,rv,p,hz⟩:=I.tuple hq
  obtain⟨f0,f1,f2,f3,f4,f5⟩:=hf it (by simp)
  have hl:=rv.length
  exact wpAny_pyNext_tuple_end (I.ok.hd hc) st (show s.heap.IsTuple a its.toArray from p) (by simp;omega) fun h' eb=>⟨rfl,I.turned (t':=s.toks) (fun b o hb e=>eb b o hb e) f0 f1 f3 f4 f5⟩
 self:=fun _ _ _ _ _ st h=>wpAny_pyIter_tupleiter st h
theorem qP{P:Program}{w:World}{K:PySem.W.Frag}{tg:Expr}(it:Addr)(lo:Int)(n:Nat):Turn P w K tg (Itr lo n) [it] it (fun i h=>IsRangeIter h it (lo+(i:Nat)*1) ((n:Int)-(i:Nat)) 1) where
  mem:=by simp
  obj:=fun i h st b hb=>by
    have e:b=it:=by simpa using hb
    subst e
    exact⟨_,st,fun v z=>by
      have z':Data.fields _=Data.cell v:=z
      cases z'⟩
  keep:=fun i h h' st k=>k it (by simp) _ st
  item:=by
    intro X hP hw hK hc i pins s σ H E I hf st hg
    subst hP hw hK
    obtain⟨f0,f1,f2,f3,f4,f5⟩:=hf it (by simp)
    have W:=Walks.range (prog:=X.prog) (w:=X.w) (I.ok.hd hc) it lo 1 n
    refine W.item i s _ _ hg st fun v h' tk hv st' kk=>?_
    obtain⟨t,rfl⟩:=hv
    have I1:Inv X pins σ H { s with heap:=h',toks:=tk }:=I.turned (fun b o hb e=>kk b o (by simpa using hb) e) f0 f1 f3 f4 f5
    refine⟨_,rfl,u5 (s:={ s with heap:=h',toks:=tk }) (n:="range_iterator") st' rfl rfl (by decide) ⟨.int (lo+i),H,I1,⟨t,?_⟩,⟨rfl,rfl⟩,st',fun b hb=>(hf b hb).1⟩⟩
    rw[Int.mul_one]
  done:=by
    intro X hP hw hK hc i pins s σ H E I hf st hg
    subst hP hw hK
    obtain⟨f0,f1,f2,f3,f4,f5⟩:=hf it (by simp)
    exact wpAny_pyNext_range_end (I.ok.hd hc) st (by have:n<=i:=hg;omega) fun h' eb=>⟨rfl,I.turned (t':=s.toks) (fun b o hb e=>eb b o hb e) f0 f1 f3 f4 f5⟩
  self:=fun _ _ _ _ _ st h=>wpAny_pyIter_rangeiter st h
end L2
namespace L2
open PySem PySem.Spec PyProof.Rows
section
variable {X:Cx} {tg:Expr}
def R6(K:PySem.W.Frag)(tl:TE):TI:=fun σ H R=>tl σ H fun x H1=>∃ a,x=.ref a/\(∃ xs,SqL K H1 a xs)/\R (Itl K a) H1
def X6(K:PySem.W.Frag)(tl:TE):TI:=fun σ H R=>tl σ H fun x H1=>∃ a,x=.ref a/\(∃ xs,SqT K H1 a xs)/\R (Itt K a) H1
theorem Bt{l:Expr}{tl:TE}(hl:PE X l tl):PI X tg l (R6 X.K tl):=by
 intro pins s σ H R I h
 refine thn (hl pins s σ H _ I h) fun v s1 ⟨x,H1,I1,r1,q1⟩=>?_
 obtain⟨a,e,⟨xs,hq⟩,q⟩:=q1
 subst e
 cases r1
 obtain⟨its,rv,p,hz⟩:=I1.list hq
 refine wpAny_pyIter_list p.isList ?_
 refine⟨s1.heap.objs.size,[s1.heap.objs.size],_,_,H1,rfl,I1.kept (t':=s1.toks) fun b o e=>Heap.get?_push_of_some _ e,sW a _,⟨_,Heap.get?_push_size _ rfl,rfl,rfl⟩,fun b hb=>?_,q⟩
 have e:b=s1.heap.objs.size:=by simpa using hb
 subst e
 exact I1.fpOk (Nat.le_refl _) (I1.hok.fresh (Nat.le_refl _))
theorem GJ{l:Expr}{tl:TE}(hl:PE X l tl):PI X tg l (X6 X.K tl):=by
 intro pins s σ H R I h
 refine thn (hl pins s σ H _ I h) fun v s1 ⟨x,H1,I1,r1,q1⟩=>?_
 obtain⟨a,e,⟨xs,hq⟩,q⟩:=q1
 subst e
 cases r1
 obtain⟨its,rv,p,hz⟩:=I1.tuple hq
 refine wpAny_pyIter_tuple (show s1.heap.IsTuple a its.toArray from p) ?_
 refine⟨s1.heap.objs.size,[s1.heap.objs.size],_,_,H1,rfl,I1.kept (t':=s1.toks) fun b o e=>Heap.get?_push_of_some _ e,qO a _,⟨_,Heap.get?_push_size _ rfl,rfl,rfl⟩,fun b hb=>?_,q⟩
 have e:b=s1.heap.objs.size:=by simpa using hb
 subst e
 exact I1.fpOk (Nat.le_refl _) (I1.hok.fresh (Nat.le_refl _))
theorem pH{pins:List (Addr×Obj)}{σ:St}{H:Hp}{s:Shared}{R:It->Hp->Prop}{E:Value->Shared->Prop}{lo hi:Int}{t u v:Tok}{tk:Nat}(I:Inv X pins σ H s)(h1:-(2^62)<=lo)(h2:lo<2^62)(h3:-(2^62)<=hi)(h4:hi<2^62)
    (q:R (Itr lo (hi-lo).toNat) H):wpAny (model X.prog X.w) X.A (pyIter (.ref s.heap.objs.size)) (PIE X pins σ tg R) E { s with heap:=s.heap.push { cls:=.type "range",data:=.fields #[.int lo t,.int hi u,.int 1 v] },toks:=tk }:=by
  refine wpAny_pyIter_range (IsRange.new ..) (small_one h1 h2 h3 h4) ?_
  have I1:Inv X pins σ H { s with heap:=s.heap.push { cls:=.type "range",data:=.fields #[.int lo t,.int hi u,.int 1 v] },toks:=tk }:=I.kept fun b o e=>Heap.get?_push_of_some _ e
  refine⟨(s.heap.push { cls:=.type "range",data:=.fields #[.int lo t,.int hi u,.int 1 v] }).objs.size,[(s.heap.push { cls:=.type "range",data:=.fields #[.int lo t,.int hi u,.int 1 v] }).objs.size],_,_,H,rfl,
    I1.kept (t':=tk) fun b o e=>Heap.get?_push_of_some _ e,qP _ lo (hi-lo).toNat,?_,fun b hb=>?_,q⟩
  · have e1:lo+((0:Nat):Int)*1=lo:=by simp
    have e2:(((hi-lo).toNat:Nat):Int)-((0:Nat):Int)=Builtin.Range.rangeSize lo hi 1:=by rw[rangeSize_one];split<;>omega
    show IsRangeIter _ _ (lo+((0:Nat):Int)*1) ((((hi-lo).toNat:Nat):Int)-((0:Nat):Int)) 1
    rw[e1,e2]
    exact Heap.get?_push_size _ rfl
  · have e:b=(s.heap.push { cls:=.type "range",data:=.fields #[.int lo t,.int hi u,.int 1 v] }).objs.size:=by simpa using hb
    subst e
    exact I1.fpOk (Nat.le_refl _) (I1.hok.fresh (Nat.le_refl _))
def R4(ta:TA):TI:=fun σ H R=>ta σ H fun vs H1=>∃ j:Int,vs=[.int j] /\ -(2^62)<=j/\j<2^62/\R (Itr 0 j.toNat) H1
def R3(ta:TA):TI:=fun σ H R=>ta σ H fun vs H1=>∃ i j:Int,vs=[.int i,.int j]/\(-(2^62)<=i/\i<2^62 /\ -(2^62)<=j/\j<2^62)/\R (Itr i (j-i).toNat) H1
theorem uh{a:Expr}{ta:TA}{p pos:Pos}(hg:Gl X "range")(hm:X.mg "range"=none)(ha:PA X [a] ta)(hs:starEach [a] X.env=[(false,eval a X.env)]:=by rfl):PI X tg (.Call (.Name "range" p) [a] [] pos) (R4 ta):=by
  intro pins s σ H R I h
  refine Call_ (bV I hg hm boot_range (PyProof.Rows.callWith_type1 (thn (ha pos pins s σ H _ I h) fun us s1 ⟨vs,H1,I1,r1,q1⟩=>?_) hs rfl))
  obtain⟨j,e,q1,q2,q⟩:=q1
  subst e
  cases r1 with
  | cons r rr =>
    cases rr
    obtain⟨t,rfl⟩:=r
    exact call_range_1 (pH I1 (by omega) (by omega) q1 q2 (by simpa using q))
theorem ug{a b:Expr}{ta:TA}{p pos:Pos}(hg:Gl X "range")(hm:X.mg "range"=none)(ha:PA X [a,b] ta)(hs:starEach [a,b] X.env=[(false,eval a X.env),(false,eval b X.env)]:=by rfl)(hs2:starEach [b] X.env=[(false,eval b X.env)]:=by rfl) :
    PI X tg (.Call (.Name "range" p) [a,b] [] pos) (R3 ta):=by
  intro pins s σ H R I h
  refine Call_ (bV I hg hm boot_range (PyProof.Rows.callWith_type1 (thn (ha pos pins s σ H _ I h) fun us s1 ⟨vs,H1,I1,r1,q1⟩=>?_) (by rw[hs,hs2]) (by rw[hs2];rfl)))
  obtain⟨i,j,e,⟨q1,q2,q3,q4⟩,q⟩:=q1
  subst e
  cases r1 with
  | cons r rr =>
    cases rr with
    | cons r' rr =>
      cases rr
      obtain⟨t,rfl⟩:=r
      obtain⟨t',rfl⟩:=r'
      exact call_range_2 (pH I1 q1 q2 q3 q4 q)
def Xg(wi:TI)(g:TG)(tb:TS):TS:=fun D σ H=>wi σ H fun J H1=>∃ W:Nat->Nat->St->Hp->Prop,(∃ m,W 0 m σ H1)/\∀ i m σ H,W i m σ H ->
 (J.stop i H/\D.nx σ H)\/(J.go i H/\∃ N:St->Hp->Prop,(∀ σ' H',N σ' H'->∃ m',m'<m/\W (i+1) m' σ' H')/\∀ x H',J.yld i H x H'->g x σ H' fun σ2 H2=>tb { D with nx:=N,ct:=N,bk:=D.nx } σ2 H2)
def mG(fp:List Addr)(h:Heap):List (Addr×Obj):=fp.filterMap fun b=>(h.get? b).map fun o=>(b,o)
theorem eH{fp:List Addr}{h:Heap}{b:Addr}{o:Obj}(hb:b∈fp)(e:h.get? b=some o):(b,o)∈mG fp h:=List.mem_filterMap.mpr ⟨b,hb,by rw[e];rfl⟩
theorem ux{fp:List Addr}{h:Heap}{p:Addr×Obj}(hp:p∈mG fp h):p.1∈fp/\h.get? p.1=some p.2:=by
  obtain⟨b,hb,e⟩:=List.mem_filterMap.mp hp
  cases q:h.get? b with
  | none=>rw[q] at e;cases e
  | some o =>
    rw[q] at e
    have e':(b,o)=p:=Option.some.inj e
    subst e'
    exact⟨hb,q⟩
theorem Inv.pinned{pins:List (Addr×Obj)}{σ:St}{H:Hp}{s:Shared}{fp:List Addr}(I:Inv X pins σ H s)(hf:∀ b∈fp,nJ X pins H b)(ho:∀ b∈fp,∃ o,s.heap.get? b=some o/\∀ v,o.data≠.cell v):Inv X (pins++mG fp s.heap) σ H s :=
 I.pins_of fun p hp=>(List.mem_append.mp hp).elim (fun z=>I.pin p (List.mem_append_right _ z)) fun z=>by
  obtain⟨hb,e⟩:=ux z
  obtain⟨f0,f1,f2,_⟩:=hf p.1 hb
  obtain⟨o,e',d⟩:=ho p.1 hb
  rw[e] at e';cases e'
  exact⟨e,f0,f1,f2,d⟩
theorem Inv.unpinned{pins pl:List (Addr×Obj)}{σ:St}{H:Hp}{s:Shared}(I:Inv X (pins++pl) σ H s):Inv X pins σ H s:=I.pins_of fun p hp=>I.pin p (List.mem_append_right _ (List.mem_append_left _ hp))
theorem GD{iter:Expr}{body:List Stmt}{wi:TI}{g:TG}{tb:TS}{pos:Pos}(hp:PassesOwn (model X.prog X.w) X.A X.env X.xe)(hc:X.calm=true)(hi:PI X tg iter wi)(hg:PG X tg g)(hb:PSs X body tb)
  (hs:∀ x,foldedSetIterable iter X.env x=pure x:=by intro _;rfl):PS X (.For tg iter body [] pos) (Xg wi g tb):=by
 intro pins s σ H D I h
 refine wpAny_For (thn (hi pins s σ H _ I h) fun v s1 h1=>thn h1 fun itv s2 h2=>?_) hs
 obtain⟨it,fp,tn,J,H2,e,I2,T,st2,f2,W,⟨m0,w0⟩,turn⟩:=h2
 subst e
 have stat:∀ {H':Hp},(∀ b∈fp,H' b=none)->∀ b∈fp,nJ X pins H' b:=fun hn b hb=>⟨hn b hb,(f2 b hb).2⟩
 refine codeAny_forLoop_any (fun n s'=>∃ i σ' H',Inv X pins σ' H' s'/\tn i s'.heap/\(∀ b∈fp,H' b=none)/\W i n σ' H') ?_ m0 ⟨0,σ,H2,I2,st2,fun b hb=>(f2 b hb).1,w0⟩
 rintro n s3 ⟨i,σ3,H3,I3,st3,fr3,w3⟩
 rcases turn i n σ3 H3 w3 with⟨stop,qn⟩ | ⟨go,N,hN,step⟩
 ·refine wpAny_passesOwn hp (thn (T.done X rfl rfl rfl hc i pins s3 σ3 H3 X.xe I3 (stat fr3) st3 stop) fun r s4 ⟨hr,I4⟩=>?_)
  subst hr
  exact wpAny_execs_nil ⟨σ3,H3,I4,qn⟩
 ·refine wpAny_passesOwn hp (thn (T.item X rfl rfl rfl hc i pins s3 σ3 H3 X.xe I3 (stat fr3) st3 go) fun r s4 ⟨u,hr,h4⟩=>?_)
  subst hr
  refine wpAny_passesOwn hp (thn h4 fun _ s5 ⟨x,H5,I5,r5,y5,st5,fr5⟩=>?_)
  have I5':=I5.pinned (stat fr5) (T.obj _ _ st5)
  refine wpAny_passesOwn hp (thn (hg _ s5 σ3 H5 x u _ I5' r5 (step x H5 y5)) fun _ s6 ⟨σ6,H6,I6,q6⟩=>?_)
  refine wpAny_passesOwn hp (thn (hb _ s6 σ6 H6 _ I6 q6) fun f s7 q7=>?_)
  have again:∀ {σ7:St} {H7:Hp},Inv X (pins++mG fp s5.heap) σ7 H7 s7->N σ7 H7->∃ m,m<n/\∃ i σ' H',Inv X pins σ' H' s7/\tn i s7.heap/\(∀ b∈fp,H' b=none)/\W i m σ' H':=fun {σ7 H7} I7 n7=>by
   obtain⟨m',hm,w7⟩:=hN σ7 H7 n7
   refine⟨m',hm,i+1,σ7,H7,I7.unpinned,T.keep _ _ _ st5 fun b hb o e=>(I7.pin (b,o) (List.mem_append_right _ (List.mem_append_right _ (eH hb e)))).1,fun b hb=>?_,w7⟩
   obtain⟨o,e,d⟩:=T.obj _ _ st5 b hb
   exact(I7.pin (b,o) (List.mem_append_right _ (List.mem_append_right _ (eH hb e)))).2.1
  cases f with
  | next=>obtain⟨σ7,H7,I7,n7⟩:=q7;exact again I7 n7
  | cont=>obtain⟨σ7,H7,I7,n7⟩:=q7;exact again I7 n7
  | brk=>obtain⟨σ7,H7,I7,q7⟩:=q7;exact⟨σ7,H7,I7.unpinned,q7⟩
  | ret v=>obtain⟨x7,σ7,H7,I7,r7,q7⟩:=q7;exact⟨x7,σ7,H7,I7.unpinned,r7,q7⟩
end
end L2
namespace L2
open PySem PySem.Spec PyProof.Rows
abbrev R2:=V->V->Hp->VK->Prop
def OpR(X:Cx)(f:Value->Value->Sem Value)(r:R2):Prop :=
  ∀ (pins : List (Addr × Obj)) (s : Shared) (σ : St) (H : Hp) (x y : V) (v u : Value) (Q : VK), Inv X pins σ H s -> RelV x v -> RelV y u -> r x y H Q ->
    wpAny (model X.prog X.w) X.A (f v u) (EP X pins σ Q) X.xe s
def UnR(X:Cx)(f:Value->Sem Value)(r:V->Hp->VK->Prop):Prop :=
  ∀ (pins : List (Addr × Obj)) (s : Shared) (σ : St) (H : Hp) (x : V) (v : Value) (Q : VK), Inv X pins σ H s -> RelV x v -> r x H Q ->
    wpAny (model X.prog X.w) X.A (f v) (EP X pins σ Q) X.xe s
def cU(X:Cx)(f:Value)(r:List V->Hp->VK->Prop):Prop :=
  ∀ (pins : List (Addr × Obj)) (s : Shared) (σ : St) (H : Hp) (xs : List V) (us : List Value) (Q : VK), Inv X pins σ H s -> Vals xs us -> r xs H Q ->
    wpAny (model X.prog X.w) X.A (call f us) (EP X pins σ Q) X.xe s
def tOp(r:R2)(ta tb:TE):TE:=fun σ H Q=>ta σ H fun x H1=>tb σ H1 fun y H2=>r x y H2 Q
def tUn(r:V->Hp->VK->Prop)(ta:TE):TE:=fun σ H Q=>ta σ H fun x H1=>r x H1 Q
def rI(C:Int->Int->Prop)(g:Int->Int->V):R2:=fun x y H Q=>∃ i j,x=.int i/\y=.int j/\C i j/\Q (g i j) H
def rI0(g:Int->Int->V):R2:=fun x y H Q=>∃ i j,x=.int i/\y=.int j/\Q (g i j) H
def rU(g:Int->V):V->Hp->VK->Prop:=fun x H Q=>∃ i,x=.int i/\Q (g i) H
section
variable {X:Cx} {a b c:Expr} {ta tb tc:TE} {pos:Pos}
theorem SJ(ha:PE X a ta)(hb:PE X b tb){pins:List (Addr×Obj)}{s:Shared}{σ:St}{H:Hp}{R:V->V->Hp->Prop}(I:Inv X pins σ H s)
  (h:ta σ H fun x H1=>tb σ H1 fun y H2=>R x y H2) {Q:Value->Shared->Prop} {f:Value->Value->Sem Value}
  (hf:∀ v u s2 x y H2,Inv X pins σ H2 s2->RelV x v->RelV y u->R x y H2->wpAny (model X.prog X.w) X.A (f v u) Q X.xe s2) :
  wpAny (model X.prog X.w) X.A (eval a X.env) (fun v s₁=>wpAny (model X.prog X.w) X.A (eval b X.env) (fun u s₂=>wpAny (model X.prog X.w) X.A (f v u) Q X.xe s₂) X.xe s₁) X.xe s:=by
 refine thn (ha pins s σ H _ I h) fun v s1 ⟨x,H1,I1,r1,q1⟩=>?_
 refine thn (hb pins s1 σ H1 _ I1 q1) fun u s2 ⟨y,H2,I2,r2,q2⟩=>?_
 exact hf v u s2 x y H2 I2 r1 r2 q2
theorem iy{op:Operator}{r:R2}(ho:OpR X (binaryOp op) r)(ha:PE X a ta)(hb:PE X b tb):PE X (.BinOp a op b pos) (tOp r ta tb):=by
 intro pins s σ H Q I h
 exact wpAny_BinOp (SJ ha hb I h fun v u s2 x y H2 I2 rx ry q=>ho pins s2 σ H2 x y v u Q I2 rx ry q)
theorem Ku{op:UnaryOp}{r:V->Hp->VK->Prop}(ho:UnR X (unaryOp op) r)(ha:PE X a ta):PE X (.UnaryOp op a pos) (tUn r ta):=by
 intro pins s σ H Q I h
 exact UnaryOp_ (thn (ha pins s σ H _ I h) fun v s1 ⟨x,H1,I1,r1,q1⟩=>ho pins s1 σ H1 x v Q I1 r1 q1)
theorem opI{f:Value->Value->Sem Value}{C:Int->Int->Prop}{g:Int->Int->Int}
  (rule:∀ (i j:Int) (t u:Tok) (s:Shared) (Q:Value->Shared->Prop) (E:Value->Shared->Prop),C i j->Q (.int (g i j) s.toks) { s with toks:=s.toks+1 }->wpAny (model X.prog X.w) X.A (f (.int i t) (.int j u)) Q E s) :
  OpR X f (rI C fun i j=>.int (g i j)):=by
 intro pins s σ H x y v u Q I rx ry h
 obtain⟨i,j,rfl,rfl,hc,q⟩:=h
 obtain⟨t,rfl⟩:=rx
 obtain⟨t',rfl⟩:=ry
 exact rule i j t t' s _ _ hc ⟨.int (g i j),H,I.tok _,⟨_,rfl⟩,q⟩
theorem Tj{f:Value->Value->Sem Value}{g:Int->Int->Int}
  (rule:∀ (i j:Int) (t u:Tok) (s:Shared) (Q:Value->Shared->Prop) (E:Value->Shared->Prop),Q (.int (g i j) s.toks) { s with toks:=s.toks+1 }->wpAny (model X.prog X.w) X.A (f (.int i t) (.int j u)) Q E s) :
  OpR X f (rI0 fun i j=>.int (g i j)):=by
 intro pins s σ H x y v u Q I rx ry h
 obtain⟨i,j,rfl,rfl,q⟩:=h
 obtain⟨t,rfl⟩:=rx
 obtain⟨t',rfl⟩:=ry
 exact rule i j t t' s _ _ ⟨.int (g i j),H,I.tok _,⟨_,rfl⟩,q⟩
theorem Jo{f:Value->Value->Sem Value}{g:Int->Int->Bool}
  (rule:∀ (i j:Int) (t u:Tok) (s:Shared) (Q:Value->Shared->Prop) (E:Value->Shared->Prop),Q (.bool (g i j)) s->wpAny (model X.prog X.w) X.A (f (.int i t) (.int j u)) Q E s) :
  OpR X f (rI0 fun i j=>.bl (g i j)):=by
 intro pins s σ H x y v u Q I rx ry h
 obtain⟨i,j,rfl,rfl,q⟩:=h
 obtain⟨t,rfl⟩:=rx
 obtain⟨t',rfl⟩:=ry
 exact rule i j t t' s _ _ ⟨.bl (g i j),H,I,rfl,q⟩
def Yp(i j:Int):Prop:=0<j/\j<1073741824
def Td(i j:Int):Prop:=(-(2^64)<i/\i<2^64)\/(-(2^64)<j/\j<2^64)
theorem Td.ok{i j:Int}(h:Td i j):IntMulOk i j:=by
 rcases h with⟨h1,h2⟩ | ⟨h1,h2⟩
 ·exact .of_left (intBits_le_64 h1 h2)
 ·exact .of_right (intBits_le_64 h1 h2)
theorem G9:OpR X (binaryOp .Add) (rI0 fun i j=>.int (i+j)):=Tj fun _ _ _ _ _ _ _ q=>add_int q
theorem G5:OpR X (binaryOp .Sub) (rI0 fun i j=>.int (i-j)):=Tj fun _ _ _ _ _ _ _ q=>sub_int q
theorem Cj:OpR X (binaryOp .FloorDiv) (rI Yp fun i j=>.int (i / j)):=opI fun i j _ _ _ _ _ hc q=>by
 have h1:(0:Int)<j:=hc.1
 have h2:j<1073741824:=hc.2
 exact floordiv_int (by omega) (by rw[Int.fdiv_eq_ediv_of_nonneg i (by omega)];exact q) (.inl (PyProof.noPylong_small (by omega)))
theorem G6:OpR X (binaryOp .Mod) (rI (fun _ j=>0<j) fun i j=>.int (i%j)):=opI fun i j _ _ _ _ _ hc q=>by
 have h1:(0:Int)<j:=hc
 exact mod_int' (by omega) (by rw[Int.fmod_eq_emod_of_nonneg i (by omega)];exact q)
theorem Ci:OpR X (binaryOp .Mod) (rI (fun _ j=>j≠0) fun i j=>.int (i.fmod j)):=opI fun _ _ _ _ _ _ _ hc q=>mod_int' hc q
theorem unI{f:Value->Sem Value}{g:Int->Int}
  (rule:∀ (i:Int) (t:Tok) (s:Shared) (Q:Value->Shared->Prop) (E:Value->Shared->Prop),Q (.int (g i) s.toks) { s with toks:=s.toks+1 }->wpAny (model X.prog X.w) X.A (f (.int i t)) Q E s) :
  UnR X f (rU fun i=>.int (g i)):=by
 intro pins s σ H x v Q I rx h
 obtain⟨i,rfl,q⟩:=h
 obtain⟨t,rfl⟩:=rx
 exact rule i t s _ _ ⟨.int (g i),H,I.tok _,⟨_,rfl⟩,q⟩
theorem FP:UnR X (unaryOp .USub) (rU fun i=>.int (-i)):=unI fun _ _ _ _ _ q=>neg_int q
end
section
variable {X:Cx} {a b c:Expr} {ta tb tc:TE} {pos:Pos}
theorem zT{pins:List (Addr×Obj)}{σ:St}{H:Hp}{s:Shared}{Q:VK}{k k':Bool}(I:Inv X pins σ H s)(q:Q (.bl k) H)(e:k=k'):EP X pins σ Q (.bool k') s:=by
 subst e
 exact⟨.bl k,H,I,rfl,q⟩
theorem Ky:OpR X (compareOp .Lt) (rI0 fun i j=>.bl (decide (i<j))):=Jo fun _ _ _ _ _ _ _ q=>lt_int q
theorem Kz:OpR X (compareOp .LtE) (rI0 fun i j=>.bl (decide (i<=j))):=Jo fun _ _ _ _ _ _ _ q=>le_int q
theorem KC:OpR X (compareOp .Gt) (rI0 fun i j=>.bl (decide (j<i))):=Jo fun _ _ _ _ _ _ _ q=>gt_int q
theorem KD:OpR X (compareOp .GtE) (rI0 fun i j=>.bl (decide (j<=i))):=Jo fun _ _ _ _ _ _ _ q=>ge_int q
theorem G7:OpR X (compareOp .Is) (fun x y H Q=>y=.non/\Q (.bl (decide (x=.non))) H):=by
 intro pins s σ H x y v u Q I rx ry h
 obtain⟨rfl,q⟩:=h
 cases ry
 refine is_none_gen (zT I q ?_)
 cases x<;>first
  | (cases rx;rfl)
  | (obtain⟨t,rfl⟩:=rx;rfl)
theorem Cd:OpR X (compareOp .IsNot) (fun x y H Q=>y=.non/\Q (.bl (!decide (x=.non))) H):=by
 intro pins s σ H x y v u Q I rx ry h
 obtain⟨rfl,q⟩:=h
 cases ry
 refine isnot_none_gen (zT I q ?_)
 cases x<;>first
  | (cases rx;rfl)
  | (obtain⟨t,rfl⟩:=rx;rfl)
theorem BR{op:CmpOp}{r:R2}(ho:OpR X (compareOp op) r)(ha:PE X a ta)(hb:PE X b tb)(hm:behindInMarks op b=false):PE X (.Compare a [op] [b] pos) (tOp r ta tb):=by
 intro pins s σ H Q I h
 exact wpAny_Compare1 (SJ ha hb I h fun v u s2 x y H2 I2 rx ry q=>ho pins s2 σ H2 x y v u Q I2 rx ry q) hm
def FW(t:TE):TT:=fun σ H Q=>t σ H fun x H'=>∃ k,x=.bl k/\Q k H'
theorem Bj{op:CmpOp}{r:R2}(ho:OpR X (compareOp op) r)(ha:PE X a ta)(hb:PE X b tb)(hm:behindInMarks op b=false):PT X (.Compare a [op] [b] pos) (FW (tOp r ta tb)):=by
  intro pins s σ H Q I h
  refine wpAny_isTrue_Compare1 (thn (ha pins s σ H _ I h) fun v s1 ⟨x,H1,I1,r1,q1⟩=>thn (hb pins s1 σ H1 _ I1 q1) fun u s2 ⟨y,H2,I2,r2,q2⟩ =>
    thn (ho pins s2 σ H2 x y v u _ I2 r1 r2 q2) fun c s3 ⟨z,H3,I3,r3,k,e,q3⟩=>?_) hm
  subst e
  cases r3
  exact wpAny_truthy_bool ⟨H3,I3,q3⟩
def sZ(r r':R2)(ta tb tc:TE):TE:=fun σ H Q=>ta σ H fun x H1=>tb σ H1 fun y H2=>r x y H2 fun z H3=>∃ k,z=.bl k /\
 (if k=true then tc σ H3 fun w' H4=>r' y w' H4 Q else Q (.bl false) H3)
theorem xP{op op':CmpOp}{r r':R2}(ho:OpR X (compareOp op) r)(ho':OpR X (compareOp op') r')(ha:PE X a ta)(hb:PE X b tb)(hc:PE X c tc)
    (hm:lastMarks [op,op'] [b,c]=false:=by with_unfolding_all rfl):PE X (.Compare a [op,op'] [b,c] pos) (sZ r r' ta tb tc):=by
  intro pins s σ H Q I h
  refine Compare_chain (thn (ha pins s σ H _ I h) fun v s1 ⟨x,H1,I1,r1,q1⟩=>chain_link (thn (hb pins s1 σ H1 _ I1 q1) fun u s2 ⟨y,H2,I2,r2,q2⟩ =>
    thn (ho pins s2 σ H2 x y v u _ I2 r1 r2 q2) fun d s3 ⟨z,H3,I3,r3,k,e,q3⟩=>?_)) hm
  subst e
  cases r3
  refine wpAny_truthy_bool ?_
  cases k with
  | false=>exact ite_ff ⟨.bl false,H3,I3,rfl,q3⟩
  | true=>exact ite_tt (chain_last (thn (hc pins s3 σ H3 _ I3 q3) fun w' s4 ⟨z',H4,I4,r4,q4⟩=>ho' pins s4 σ H4 y z' u w' Q I4 r2 r4 q4))
theorem w6{op op':CmpOp}{r r':R2}(ho:OpR X (compareOp op) r)(ho':OpR X (compareOp op') r')(ha:PE X a ta)(hb:PE X b tb)(hc:PE X c tc)
    (hm:lastMarks [op,op'] [b,c]=false:=by with_unfolding_all rfl):PT X (.Compare a [op,op'] [b,c] pos) (FW (sZ r r' ta tb tc)):=by
  intro pins s σ H Q I h
  refine isTrue_chain (thn (ha pins s σ H _ I h) fun v s1 ⟨x,H1,I1,r1,q1⟩=>test_link (thn (hb pins s1 σ H1 _ I1 q1) fun u s2 ⟨y,H2,I2,r2,q2⟩ =>
    thn (ho pins s2 σ H2 x y v u _ I2 r1 r2 q2) fun d s3 ⟨z,H3,I3,r3,k,e,q3⟩=>?_)) hm
  subst e
  cases r3
  refine wpAny_truthy_bool ?_
  cases k with
  | false =>
    obtain⟨k',e',q'⟩:=q3
    cases e'
    exact ite_ff ⟨H3,I3,q'⟩
  | true =>
    refine ite_tt (test_last (thn (hc pins s3 σ H3 _ I3 q3) fun w' s4 ⟨z',H4,I4,r4,q4⟩=>thn (ho' pins s4 σ H4 y z' u w' _ I4 r2 r4 q4) fun d' s5 ⟨z2,H5,I5,r5,k2,e2,q5⟩=>?_))
    subst e2
    cases r5
    exact wpAny_truthy_bool ⟨H5,I5,q5⟩
theorem pW:(sizeLine:Nat)<2^63:=by rw[sizeLine_eq];decide
theorem vals1{x:V}{us:List Value}(r:Vals [x] us):∃ u,us=[u]/\RelV x u:=by
 cases r with
 | cons r1 r2=>cases r2;exact⟨_,rfl,r1⟩
theorem vals2{x y:V}{us:List Value}(r:Vals [x,y] us):∃ u w',us=[u,w']/\RelV x u/\RelV y w':=by
  cases r with
  | cons r1 r2 =>
    cases r2 with
    | cons r3 r4=>cases r4;exact⟨_,_,rfl,r1,r3⟩
theorem yQ:cU X (.builtin "abs") (fun xs H Q=>∃ i,xs=[.int i]/\Q (.int (if i<0 then -i else i)) H):=by
 intro pins s σ H xs us Q I r h
 obtain⟨i,rfl,q⟩:=h
 obtain⟨u,rfl,t,rfl⟩:=vals1 r
 exact call_abs_int fun u tk=>⟨.int (if i<0 then -i else i),H,I.tok _,⟨_,rfl⟩,q⟩
theorem vV(hc:X.calm=true):cU X (.builtin "min") (fun xs H Q=>∃ i j,xs=[.int i,.int j]/\Q (.int (if j<i then j else i)) H):=by
 intro pins s σ H xs us Q I r h
 obtain⟨i,j,rfl,q⟩:=h
 obtain⟨u,w',rfl,⟨t,rfl⟩,⟨t',rfl⟩⟩:=vals2 r
 refine min_two_ints (I.ok.hd hc) fun h' tk k=>⟨_,H,I.kept k,?_,q⟩
 by_cases hj:j<i
 ·rw[if_pos hj,if_pos hj];exact⟨_,rfl⟩
 ·rw[if_neg hj,if_neg hj];exact⟨_,rfl⟩
theorem nA:cU X (.type "int") (fun xs H Q=>(∃ i,xs=[.int i]/\Q (.int i) H)\/∃ k,xs=[.bl k]/\Q (.int (if k then 1 else 0)) H):=by
 intro pins s σ H xs us Q I r h
 rcases h with⟨i,rfl,q⟩ | ⟨k,rfl,q⟩
 ·obtain⟨u,rfl,t,rfl⟩:=vals1 r
  exact call_int_int ⟨.int i,H,I,⟨_,rfl⟩,q⟩
 ·obtain⟨u,rfl,r1⟩:=vals1 r
  cases r1
  exact call_int_bool ⟨.int (if k then 1 else 0),H,I.tok _,⟨_,rfl⟩,q⟩
end
end L2
namespace L2
open PySem PySem.Spec PyProof.Rows
section
variable {prog:Program} {w:World} {A:Around} {E:Value->Shared->Prop} {s:Shared} {K:PySem.W.Frag} {x dx C f:Addr} {mA:Str->Option Value} {name:Str} {v:Value}
end
theorem Fi.some_of{v:V}{o:Option Value}(r:Fi (some v) o):∃ u,o=some u/\RelV v u:=by
 cases o with
 | none=>exact(show False from r).elim
 | some u=>exact⟨u,rfl,r⟩
section
variable {P:Program} {w:World} {H H':Hp} {h h':Heap} {a C dx:Addr} {fs fs':List (Str×V)}
end
section
variable {X:Cx} {pins:List (Addr×Obj)} {σ:St} {H:Hp} {s:Shared} {a C dx:Addr} {fs:List (Str×V)} {f:Str} {v:V} {A:Around} {E:Value->Shared->Prop}
end
section
variable {X:Cx} {o e value:Expr} {f:Str} {pos pos' tpos:Pos} {ta tv:TE}
end
section
variable {X:Cx} {pins:List (Addr×Obj)} {σ:St} {H:Hp} {s:Shared} {A:Around} {E:Value->Shared->Prop} {Q:Value->Shared->Prop} {c:Value} {b:Bool}
end
end L2
namespace L2
open PySem PySem.Spec PyProof.Rows
structure Room (k:Nat) (A:Around):Prop where
 hd:A.handled=none
 dp:A.depth+3*k+5<recursionLimit
 un:A.units+16*k+200<cLine
theorem Room.deeper{k:Nat}{A:Around}(r:Room (k+1) A)(env:Env):Room k (A.deeper env) :=
 ⟨r.hd,by have:=r.dp;show A.depth+1+3*k+5<_;omega,by have:=r.un;show A.units+3+16*k+200<_;omega⟩
theorem Room.depth{k:Nat}{A:Around}(r:Room k A):A.depth<recursionLimit:=by have:=r.dp;omega
def JX:TA:=fun _ H Q=>Q [] H
def J3(ta:TE)(tr:TA):TA:=fun σ H Q=>ta σ H fun x H1=>tr σ H1 fun xs H2=>Q (x::xs) H2
section
variable {X:Cx} {e:Expr} {es:List Expr} {te:TE} {t:TA} {pos:Pos}
theorem bN:PA X [] JX:=fun _ _ _ _ H Q I h=>Calls.spliced_nil ⟨[],H,I,.nil,h⟩
theorem aU(ha:PE X e te)(hr:PA X es t)(hs:starEach (e::es) X.env=(false,eval e X.env)::starEach es X.env:=by rfl):PA X (e::es) (J3 te t):=by
 intro pos pins s σ H Q I h
 rw[hs]
 show wpAny _ _ (spliced ((false,eval e X.env)::backTo pos (starEach es X.env))) _ _ s
 refine Calls.spliced_cons (thn (ha pins s σ H _ I h) fun u s1 ⟨x,H1,I1,r1,q1⟩=>?_)
 exact thn (hr pos pins s1 σ H1 _ I1 q1) fun us s2 ⟨xs,H2,I2,r2,q2⟩=>⟨x::xs,H2,I2,.cons r1 r2,q2⟩
def W7(t:TA):TE:=fun σ H Q=>t σ H fun xs H1=>xs.length<=sizeLine/\∀ p,H1 p=none->Q (.ref p) (upd H1 p (.tup xs))
def Xe(t:TA):TE:=fun σ H Q=>t σ H fun xs H1=>xs.length<=sizeLine/\∀ p,H1 p=none->Q (.ref p) (upd H1 p (.lst xs))
theorem GP{x1}(h:PA X es t):PE X (.Tuple es x1 pos) (W7 t):=by
 intro pins s σ H Q I hq
 refine wpAny_Tuple_spliced (thn (h pos pins s σ H _ I hq) fun us s1 ⟨xs,H1,I1,r,z,q⟩=>⟨by rw[<- r.length];exact z,?_⟩)
 have hf:H1 s1.heap.objs.size=none:=I1.hok.fresh (Nat.le_refl _)
 refine⟨.ref s1.heap.objs.size,upd H1 s1.heap.objs.size (.tup xs),I1.laid (t':=s1.toks) (fun b u e=>Heap.get?_push_of_some _ e) (Nat.le_refl _) ?_,rfl,q _ hf⟩
 exact⟨z,us,r,⟨_,Heap.get?_push_size _ rfl,rfl,_,rfl⟩⟩
theorem zB(h:PA X es t):PE X (.List es pos) (Xe t):=by
 intro pins s σ H Q I hq
 refine wpAny_List_spliced (thn (h pos pins s σ H _ I hq) fun us s1 ⟨xs,H1,I1,r,z,q⟩=>⟨by rw[<- r.length];exact z,?_⟩)
 have hf:H1 s1.heap.objs.size=none:=I1.hok.fresh (Nat.le_refl _)
 refine⟨.ref s1.heap.objs.size,upd H1 s1.heap.objs.size (.lst xs),I1.laid (t':=s1.toks) (fun b u e=>Heap.get?_push_of_some _ e) (Nat.le_refl _) ?_,rfl,q _ hf⟩
 exact⟨z,us,0,r,Heap.get?_push_size _ rfl⟩
end
abbrev Sp:=List V->Hp->VK->XK->Prop
abbrev CXT:=List Env->Hp->Shared->XK->Value->Shared->Prop
structure Env0 (P:Program) (w:World) (K:PySem.W.Frag) (mg:Str->Option Value) (base:Heap) (A:Around) (outer:List Env) (s:Shared) (H:Hp):Prop where
 frames:A.frames=some outer
 mod:Mod K mg base
 bs:∀ b o,base.get? b=some o->s.heap.get? b=some o/\H b=none
 bsz:base.objs.size<=s.heap.objs.size
 funs:s.heap.FunFrames base outer
 frf:∀ b∈frs outer,H b=none
 hok:HOk P w H s.heap
 bare:AllBare s.gens
def CE(outer:List Env)(P:Program)(w:World)(H:Hp)(s:Shared)(Q:VK)(u:Value)(s':Shared):Prop :=
 ∃ v H',s'.os=s.os/\AllBare s'.gens/\Un (frs outer) [] H H' s.heap s'.heap/\HOk P w H' s'.heap/\RelV v u/\Q v H'
def CR(CX:CXT)(outer:List Env)(P:Program)(w:World)(H:Hp)(s:Shared)(Q:VK)(E:XK)(r:Result)(s':Shared):Prop :=
 match r with
 | .ok (.ret u)=>CE outer P w H s Q u s'
 | .ok _=>False
 | .error e=>CX outer H s E e s'
structure FnOk (P:Program) (w:World) (K:PySem.W.Frag) (mg:Str->Option Value) (base:Heap) (CX:CXT) (k:Nat) (f:Addr) (fd:FuncData) (ps:List Str) (sp:Sp):Prop where
 len:∀ vs H Q E,sp vs H Q E->vs.length=ps.length
 run:∀ (A:Around) (outer:List Env) (s:Shared) (H:Hp) (args:Args) (us:List Value) (vs:List V) (Q:VK) (E:XK),Room k A->Env0 P w K mg base A outer s H->BindsTo s fd args (ps.zip us)->Vals vs us->sp vs H Q E ->
  codeAny (model P w) A (.call (.ref f) args) (CR CX outer P w H s Q E) s
theorem FnOk.imp{P:Program}{w:World}{K:PySem.W.Frag}{mg:Str->Option Value}{base:Heap}{CX:CXT}{k:Nat}{f:Addr}{fd:FuncData}{ps:List Str}{sp sp':Sp}(F:FnOk P w K mg base CX k f fd ps sp)
  (h:∀ vs H Q E,sp' vs H Q E->sp vs H Q E):FnOk P w K mg base CX k f fd ps sp' :=
 ⟨fun vs H Q E q=>F.len vs H Q E (h _ _ _ _ q),fun A outer s H args us vs Q E hr he hb hv hs=>F.run A outer s H args us vs Q E hr he hb hv (h _ _ _ _ hs)⟩
section
variable {X:Cx} {pins:List (Addr×Obj)} {σ:St} {H:Hp} {s s':Shared}
theorem Inv.env0(I:Inv X pins σ H s):Env0 X.prog X.w X.K X.mg X.base X.A X.stack s H :=
 ⟨I.ok.frames,I.ok.mod,I.bs,Nat.le_trans I.ok.bsz I.sz,I.stack,I.stkFree,I.hok,I.bare⟩
theorem Inv.after{Q:VK}{u:Value}(I:Inv X pins σ H s)(h:CE X.stack X.prog X.w H s Q u s'):EP X pins σ Q u s':=by
 obtain⟨v,H',os,bare,un,hok,r,q⟩:=h
 obtain⟨hh,g,d,t,os'⟩:=s'
 obtain rfl:os'=s.os:=os
 exact⟨v,H',I.call (h':=hh) (g':=g) (d':=d) (t':=t) (ch:=[]) un hok bare (fun b z=>absurd z (by simp)),r,q⟩
end
def J4(sp:Sp)(dvs:List V)(E:XK)(t:TA):TE:=fun σ H Q=>t σ H fun vs H1=>sp (vs++dvs) H1 Q E
def Binds(K:PySem.W.Frag)(fd:FuncData)(ps:List Str)(ds:List Value):Prop :=
 ∀ (s:Shared) (us:List Value),K.In s.heap->(us++ds).length=ps.length->BindsTo s fd ⟨us,[]⟩ (ps.zip (us++ds))
theorem Binds.all{K:PySem.W.Frag}{fd:FuncData}{ps:List Str}(h:∀ us:List Value,us.length=ps.length->bindArgs fd ⟨us,[]⟩=pure (ps.zip us)):Binds K fd ps []:=fun s us _ hl=>by
 rw[List.append_nil] at hl ⊢
 exact .of_eq (h us hl)
def Passes(CX:CXT)(X:Cx)(E:XK):Prop:=∀ (pins:List (Addr×Obj)) (σ:St) (H:Hp) (s:Shared) (e:Value) (s':Shared),Inv X pins σ H s->CX X.stack H s E e s'->X.xe e s'
section
variable {X:Cx} {CX:CXT} {k:Nat} {f C:Addr} {fd:FuncData} {ps:List Str} {sp:Sp} {dvs:List V} {ds:List Value} {E:XK} {x m:Str} {p pos apos:Pos} {e o:Expr} {es:List Expr} {ta:TE} {t:TA}
theorem Gj{pins:List (Addr×Obj)}{σ:St}{H:Hp}{s:Shared}{Q:VK}{us:List Value}{vs:List V}(F:FnOk X.prog X.w X.K X.mg X.base CX k f fd ps sp)(hr:Room k X.A)(hb:Binds X.K fd ps ds)(hd:Vals dvs ds)(hx:Passes CX X E)
    (I:Inv X pins σ H s) (r:Vals vs us) (h:sp (vs++dvs) H Q E):wpAny (model X.prog X.w) X.A (call (.ref f) us) (EP X pins σ Q) X.xe s:=by
  have r2:Vals (vs++dvs) (us++ds):=r.append hd
  have hl:(us++ds).length=ps.length:=by rw[<- r2.length];exact F.len _ _ _ _ h
  refine wpAny_call (codeAny_mono (F.run X.A X.stack s H ⟨us,[]⟩ (us++ds) (vs++dvs) Q E hr I.env0 (hb s us I.kIn hl) r2 h) fun r s' hq=>?_)
  cases r with
  | error e=>exact hx pins σ H s e s' I hq
  | ok fl =>
    cases fl with
    | ret u=>exact I.after hq
    | next=>exact False.elim hq
    | brk=>exact False.elim hq
    | cont=>exact False.elim hq
theorem BW(F:FnOk X.prog X.w X.K X.mg X.base CX k f fd ps sp)(hr:Room k X.A)(hg:Gl X x)(hm:X.mg x=some (.ref f))(hk:PySem.W.keepIn X.K (.ref f)=true)(hb:Binds X.K fd ps ds)(hd:Vals dvs ds)(hx:Passes CX X E)
  (ha:PA X (e::es) t) (hdb:(x==("__debug__":Str))=false:=by decide) (he:starEach (e::es) X.env=(false,eval e X.env)::starEach es X.env:=by rfl) (hpl:(backTo pos (starEach es X.env)).any (·.1)=false:=by rfl) :
  PE X (.Call (.Name x p) (e::es) [] pos) (J4 sp dvs E t):=by
 intro pins s σ H Q I h
 refine wpAny_Call_Name_kw (uL I hg hm ?_ hdb)
 refine PySem.W.callWith_K (h₀:=X.base) I.ok.mod.kin hk (thn (ha pos pins s σ H _ I h) fun us s1 ⟨vs,H1,I1,r,q⟩=>⟨I1.kIn,?_⟩) he hpl
 exact Gj F hr hb hd hx I1 r q
end
section
variable {X:Cx} {CX:CXT} {k:Nat} {f C:Addr} {fd:FuncData} {ps ks:List Str} {sp:Sp} {E:XK} {x m:Str} {p pos apos kpos:Pos} {e o:Expr} {es:List Expr} {kws:List Keyword} {te ta:TE} {t tk:TA} {nm:Option Str}
variable {g:List Value->List Value->List Value} {gV:List V->List V->List V}
end
structure FnScope (N P:List Str) (sc:Scope):Prop where
 kind:sc.kind=.function
 co:sc.isCoroutine=false
 gen:sc.isGenerator=false
 nd:N.Nodup
 pre:N.take P.length=P
 par:∀ x∈P,sc.names.lookup x=some .local\/sc.names.lookup x=some .cell
 nofree:∀ y∈sc.names,y.2≠.free
theorem nD{kindOf:Str->Option NameKind}{x:Str}:∀ {binds:List (Str×Value)} {m:Str->Option Value},(∀ v,(x,v)∉binds)->bindL kindOf binds m x=m x
  | [],_,_=>rfl
  | (n, v) :: r, m, h => by
    unfold bindL
    rw[nD fun w hw=>h w (List.mem_cons_of_mem _ hw)]
    split
    · have:x≠n:=by rintro rfl;exact h v List.mem_cons_self
      simp[this]
    · rfl
theorem nG{kindOf:Str->Option NameKind}{x:Str}:∀ {binds:List (Str×Value)} {m:Str->Option Value},(∀ v,(x,v)∉binds)->bindC kindOf binds m x=m x
  | [],_,_=>rfl
  | (n, v) :: r, m, h => by
    unfold bindC
    rw[nG fun w hw=>h w (List.mem_cons_of_mem _ hw)]
    split
    · rfl
    · have:x≠n:=by rintro rfl;exact h v List.mem_cons_self
      simp[this]
theorem nF{kindOf:Str->Option NameKind}{x:Str}{v:Value}:∀ {P:List Str} {vs:List Value} {i:Nat} {m:Str->Option Value},P.Nodup->P[i]?=some x->vs[i]?=some v->kindOf x=some .local ->
    bindL kindOf (P.zip vs) m x=some v
  | [],_,_,_,_,h,_,_=>by simp at h
  | _::_,[],_,_,_,_,h,_=>by simp at h
  | p :: P, w :: vs, 0, m, nd, h1, h2, hk => by
    simp at h1 h2;subst h1;subst h2
    show bindL kindOf ((p,w)::P.zip vs) m p=_
    unfold bindL
    rw[nD fun v hv=>(List.nodup_cons.mp nd).1 (List.of_mem_zip hv).1,if_pos hk]
    simp
  | p :: P, w :: vs, i + 1, m, nd, h1, h2, hk => by
    show bindL kindOf ((p,w)::P.zip vs) m x=_
    unfold bindL
    exact nF (i:=i) (List.nodup_cons.mp nd).2 (by simpa using h1) (by simpa using h2) hk
theorem nH{kindOf:Str->Option NameKind}{x:Str}{v:Value}:∀ {P:List Str} {vs:List Value} {i:Nat} {m:Str->Option Value},P.Nodup->P[i]?=some x->vs[i]?=some v->kindOf x≠some .local ->
    bindC kindOf (P.zip vs) m x=some v
  | [],_,_,_,_,h,_,_=>by simp at h
  | _::_,[],_,_,_,_,h,_=>by simp at h
  | p :: P, w :: vs, 0, m, nd, h1, h2, hk => by
    simp at h1 h2;subst h1;subst h2
    show bindC kindOf ((p,w)::P.zip vs) m p=_
    unfold bindC
    rw[nG fun v hv=>(List.nodup_cons.mp nd).1 (List.of_mem_zip hv).1,if_neg hk]
    simp
  | p :: P, w :: vs, i + 1, m, nd, h1, h2, hk => by
    show bindC kindOf ((p,w)::P.zip vs) m x=_
    unfold bindC
    exact nH (i:=i) (List.nodup_cons.mp nd).2 (by simpa using h1) (by simpa using h2) hk
def start(N:List Str)(vs:List V):St:=vs.map some++List.replicate (N.length-vs.length) none
def gZ(CX:CXT)(P:Program)(w:World)(K:PySem.W.Frag)(mg:Str->Option Value)(base:Heap)(N:List Str)(qual:Str)(scope:Scope)(f:Addr)(cd:Value)(A:Around)(outer:List Env)(s:Shared)(H:Hp)(E:XK):Cx where
 prog:=P
 w:=w
 K:=K
 mg:=mg
 base:=base
 A:=A.deeper (envOfC qual scope s.heap.objs.size f cd)
 N:=N
 s₀:=s
 H₀:=H
 env:=envOfC qual scope s.heap.objs.size f cd
 outer:=outer
 stack:=envOfC qual scope s.heap.objs.size f cd::outer
 ex:=[]
 calm:=true
 fn:=fun _=>true
 pn:=[]
 xe:=fun e s'=>wpAny (model P w) (A.deeper (envOfC qual scope s.heap.objs.size f cd)) (leaving (envOfC qual scope s.heap.objs.size f cd) e) (fun _ s''=>CX outer H s E e s'') (fun e' s''=>CX outer H s E e' s'') s'
theorem qz{sc:Scope}{n:Nat}{x:Str}(h:sc.names.lookup x=some .cell):∃ c,(cellsFrom n sc.names []).lookup x=some c:=by
 have q:=PySem.W.cellsFrom_some sc.names n [] (.inl h)
 exact Option.isSome_iff_exists.mp q
theorem uW{CX:CXT}{P:Program}{w:World}{K:PySem.W.Frag}{mg:Str->Option Value}{base:Heap}{N ps:List Str}{qual:Str}{scope:Scope}{f:Addr}{cd:Value}{A:Around}{outer:List Env}{s s1:Shared}{H:Hp}{E:XK}{us:List Value}{vs:List V}
    (S:FnScope N ps scope) (hd:A.handled=none) (e0:Env0 P w K mg base A outer s H) (hl:vs.length=ps.length) (r:Vals vs us)
    (x:InCallC s s.heap.objs.size (bindL (envOfC qual scope s.heap.objs.size f cd).kindOf (ps.zip us) fun _=>none) (cellsFrom (s.heap.objs.size+1) scope.names []) (bindC (envOfC qual scope s.heap.objs.size f cd).kindOf (ps.zip us) fun _=>none) s1) :
    Inv (gZ CX P w K mg base N qual scope f cd A outer s H E) [] (start N vs) H s1:=by
  have hpl:ps.length<=N.length:=by have:=congrArg List.length S.pre;rw[List.length_take] at this;omega
  obtain⟨h1,tk,rfl,hk⟩:=x.done
  have noA:∀ b:Addr,b∉(gZ CX P w K mg base N qual scope f cd A outer s H E).ex:=fun b z=>absurd (show b∈([]:List Addr) from z) (by simp)
  refine⟨⟨e0.mod,S.kind,rfl,rfl,Nat.le_refl _,fun y z c h1 h2=>?_,fun y hy=>?_,fun y c _ h=>?_,fun _=>hd,Around.frames_deeper e0.frames,.inr ⟨rfl,rfl⟩,fun b z=>absurd z (noA b),e0.bs,e0.bsz,fun b _ _=>noA b,fun b z=>absurd z (noA b),e0.funs,e0.frf⟩,
    rfl,e0.bare,Un.kept hk,⟨_,x.toInCall.ns,fun i y v h1 h2 h3=>?_⟩,fun y c h=>⟨_,x.cell y c h⟩,e0.hok.fresh (Nat.le_refl _),fun y c h=>?_,fun p hp=>absurd (show p∈([]:List (Addr×Obj)) from hp) (by simp),e0.hok.kept hk,?_⟩
  · exact name_of_addr x.apart (PySem.mem_of_lookup h1) (PySem.mem_of_lookup h2)
  · have hy:scope.names.lookup y=some .cell\/scope.names.lookup y=some .free:=hy
    rcases hy with hy | hy
    · exact qz hy
    · exact absurd rfl (S.nofree _ (PySem.mem_of_lookup hy))
  · exact Nat.le_of_lt (x.above y c (PySem.mem_of_lookup h))
  · have hi:i<vs.length:=by
      unfold start at h2
      by_cases hi:i<vs.length
      · exact hi
      · rw[List.getElem?_append_right (by simpa using hi)] at h2
        rw[List.getElem?_replicate] at h2
        split at h2<;>cases h2
    have ha:vs[i]?=some v:=by
      unfold start at h2
      rw[List.getElem?_append_left (by simpa using hi),List.getElem?_map] at h2
      cases e:vs[i]? with
      | none=>rw[e] at h2;cases h2
      | some a=>rw[e] at h2;cases h2;rfl
    obtain⟨u,hu,rv⟩:=r.get ha
    have hp:ps[i]?=some y:=by
      rw[<- S.pre,List.getElem?_take_of_lt (by omega)];exact h1
    have ndP:ps.Nodup:=by rw[<- S.pre];exact S.nd.sublist (List.take_sublist _ _)
    refine⟨u,rv,?_⟩
    rcases S.par y (List.mem_of_getElem? hp) with k | k
    · exact .inl ⟨k,nF ndP hp hu k⟩
    · obtain⟨c,e⟩:=qz (n:=s.heap.objs.size+1) k
      refine .inr ⟨.inl k,c,e,?_⟩
      have q:=x.cell y c e
      rw[nH ndP hp hu (by show scope.names.lookup y≠_;rw[k];decide)] at q
      exact q
  · exact e0.hok.fresh (Nat.le_of_lt (x.above y c (PySem.mem_of_lookup h)))
  · unfold start
    show _=N.length
    rw[List.length_append,List.length_map,List.length_replicate]
    omega
theorem Sq{CX:CXT}{P:Program}{w:World}{K:PySem.W.Frag}{mg:Str->Option Value}{base:Heap}{k:Nat}{f:Addr}{name qual:Str}{params:Arguments}{body:List Stmt}{scope:Scope}{dV kV doc pm cdv ct oc:Value}{an od:Option Addr}
    {osl:Array (Option Value)} {N ps:List Str} {sp:Sp} (lk:K.lookup f=some ⟨oc,od,.func (PySem.W.fnOf name qual params body scope dV kV doc pm an cdv ct),osl⟩) (hcd:PySem.W.codeIn K cdv qual=true) (S:FnScope N ps scope)
    (len:∀ vs H Q E,sp vs H Q E->vs.length=ps.length)
    (hbody:∀ (A:Around) (outer:List Env) (s:Shared) (H:Hp) (vs:List V) (Q:VK) (E:XK),Room k (A.deeper (envOfC qual scope s.heap.objs.size f cdv))->sp vs H Q E ->
      ∃ t,PSs (gZ CX P w K mg base N qual scope f cdv A outer s H E) body t/\t { nx:=fun _ H'=>Q .non H',rt:=Q } (start N vs) H) :
    FnOk P w K mg base CX (k+1) f (PySem.W.fnOf name qual params body scope dV kV doc pm an cdv ct) ps sp:=by
  refine⟨len,fun A outer s H args us vs Q E hr e0 hb r hsp=>?_⟩
  have hl:=len _ _ _ _ hsp
  have KX:K.In s.heap:=e0.mod.kin.keeps fun b o e=>(e0.bs b o e).1
  have lim:s.heap.NoLimit:=e0.mod.nolimit.keeps fun b o e=>(e0.bs b o e).1
  have hkind:∀ y∈ps.zip us,scope.names.lookup y.1=some .local\/(scope.names.lookup y.1=some .cell/\((cellsFrom (s.heap.objs.size+1) scope.names []).lookup y.1).isSome=true):=fun⟨n,v⟩ hy=>by
    rcases S.par n (List.of_mem_zip hy).1 with q | q
    · exact .inl q
    · exact .inr ⟨q,PySem.W.cellsFrom_some _ _ _ (.inl q)⟩
  refine codeAny_call_function hr.depth (KX _ _ lk) rfl S.co S.gen rfl (PySem.W.codeRec_of KX hcd) (hb _ _ _ _ ?_)
  refine wpAny_newFunctionEnv_cells S.kind hkind fun env he s1 x=>?_
  subst he
  refine⟨lim.keeps x.toInCall.keep,codeAny_func ?_⟩
  obtain⟨t,ht,hq⟩:=hbody A outer s H vs Q E (hr.deeper _) hsp
  have I:Inv (gZ CX P w K mg base N qual scope f cdv A outer s H E) [] (start N vs) H s1:=uW S hr.hd e0 hl r x
  refine wpAny_mono (ht [] s1 (start N vs) H _ I hq) (fun fl s' hs=>?_) fun e s' hs=>hs
  have fin:∀ {σ':St} {H':Hp} {v:V} {u:Value},Inv (gZ CX P w K mg base N qual scope f cdv A outer s H E) [] σ' H' s'->RelV v u->Q v H'->CE outer P w H s Q u s' :=
    fun {σ' H' v u} J rv q=>⟨v,H',J.os,J.bare,J.base,J.hok,rv,q⟩
  cases fl with
  | ret u =>
    obtain⟨v,σ',H',J,rv,q⟩:=hs
    exact fin J rv q
  | next =>
    obtain⟨σ',H',J,q⟩:=hs
    exact fin (v:=V.non) (u:=Value.none) J rfl q
  | brk =>
    obtain⟨_,_,_,q⟩:=hs
    exact False.elim q
  | cont =>
    obtain⟨_,_,_,q⟩:=hs
    exact False.elim q
end L2
namespace L2
open PySem PySem.Spec PyProof.Rows
section
variable {X:Cx} {x:Str} {p pos:Pos} {e:Expr} {es:List Expr} {t:TA} {id T:String} {r:List V->Hp->VK->Prop}
def tCB(r:List V->Hp->VK->Prop)(t:TA):TE:=fun σ H Q=>t σ H fun vs H1=>r vs H1 Q
theorem cP(hc:cU X (.builtin id) r)(hg:Gl X x)(hm:X.mg x=none)(hv:bootBuiltins x=some (.builtin id))(ha:PA X (e::es) t)(hn:x≠"__name__":=by decide)(hdb:(x==("__debug__":Str))=false:=by decide)
  (he:starEach (e::es) X.env=(false,eval e X.env)::starEach es X.env:=by rfl) (hpl:(backTo pos (starEach es X.env)).any (·.1)=false:=by rfl):PE X (.Call (.Name x p) (e::es) [] pos) (tCB r t):=by
 intro pins s σ H Q I h
 refine wpAny_Call_Name_kw (bV I hg hm hv ?_ hn hdb)
 exact PyProof.Rows.callWith_builtin1 (thn (ha pos pins s σ H _ I h) fun us s1 ⟨vs,H1,I1,r1,q1⟩=>hc pins s1 σ H1 vs us Q I1 r1 q1) he hpl
theorem f9(hc:cU X (.type T) r)(hg:Gl X x)(hm:X.mg x=none)(hv:bootBuiltins x=some (.type T))(ha:PA X (e::es) t)(hn:x≠"__name__":=by decide)(hdb:(x==("__debug__":Str))=false:=by decide)
  (he:starEach (e::es) X.env=(false,eval e X.env)::starEach es X.env:=by rfl) (hpl:(backTo pos (starEach es X.env)).any (·.1)=false:=by rfl):PE X (.Call (.Name x p) (e::es) [] pos) (tCB r t):=by
 intro pins s σ H Q I h
 refine wpAny_Call_Name_kw (bV I hg hm hv ?_ hn hdb)
 exact PyProof.Rows.callWith_type1 (thn (ha pos pins s σ H _ I h) fun us s1 ⟨vs,H1,I1,r1,q1⟩=>hc pins s1 σ H1 vs us Q I1 r1 q1) he hpl
end
end L2
namespace HT
open PySem PyProof.Rows
section
open PySem.SeqAt
open PySem.AutoSeq1 (wpAny_loadPart')
open PySem.MeetsSeq PySem.MeetsSeq2 PySem.MeetsSeq3
end
section
variable {prog:Program} {w:World} {A:Around} {E:Value->Shared->Prop} {s:Shared}
theorem Ec{t b:Addr}{vs ws:List Value}{Q:Value->Shared->Prop}(ht:IsTup s.heap t vs.toArray)(hb:IsTup s.heap b ws.toArray)(hv:vs≠[])
  (h1:ws=[]->Q (.ref t) s) (h2:ws≠[]->Q (.ref s.heap.objs.size) { s with heap:=s.heap.push { cls:=.type "tuple",data:=.seq (vs++ws).toArray } })
  (hsz:vs.length+ws.length<=sizeLine):wpAny (model prog w) A (binaryOp .Add (.ref t) (.ref b)) Q E s:=by
 obtain⟨⟨cls,dd,data,sl⟩,ho,hc,n,hd⟩:=id ht
 obtain⟨⟨cls2,dd2,data2,sl2⟩,ho2,hc2,n2,hd2⟩:=id hb
 simp only at hc hd hc2 hd2
 subst hc hd hc2 hd2
 have e:vs.toArray++ws.toArray=(vs++ws).toArray:=by simp
 by_cases hw:ws=[]
 ·exact concat_meets ⟨_,ho,rfl⟩ ⟨_,ho2,rfl⟩ noFill_tuple_add seq_tuple_add PySem.F.slot_tuple_add PySem.F.entry_tuple_add (PySem.F.args_tuple_add_2 _ _)
   (tuple_addW1 t b vs.toArray ws.toArray n n2 dd dd2 sl sl2 (by simpa using hv) (by simp[hw])) ⟨ho,ho2,h1 hw⟩
 ·refine concat_meets ⟨_,ho,rfl⟩ ⟨_,ho2,rfl⟩ noFill_tuple_add seq_tuple_add PySem.F.slot_tuple_add PySem.F.entry_tuple_add (PySem.F.args_tuple_add_2 _ _)
   (tuple_addW2 t b vs.toArray ws.toArray n n2 dd dd2 sl sl2 (by simpa using hv) (by simpa using hw) (by rw[List.size_toArray,List.size_toArray];exact hsz)) ⟨ho,ho2,?_⟩
  rw[e]
  exact h2 hw
def sIx(n d:Nat):Option Int->Nat
 | none=>d
 | some v=>if v<0 then(v+(n:Int)).toNat else min v.toNat n
theorem Gi(n d:Nat)(hd:d<=n)(o:Option Int):sIx n d o<=n:=by
  cases o with
  | none=>exact hd
  | some v =>
    show(if v<0 then(v+(n:Int)).toNat else min v.toNat n)<=n
    by_cases hv:v<0
    · rw[if_pos hv];omega
    · rw[if_neg hv];exact Nat.min_le_right _ _
theorem vN(v:Int)(n d:Nat):(if v<0 then max (v+(n:Int)) 0 else min v (n:Int))=((sIx n d (some v):Nat):Int):=by
 show(if v<0 then max (v+(n:Int)) 0 else min v (n:Int))=(((if v<0 then(v+(n:Int)).toNat else min v.toNat n):Nat):Int)
 by_cases hv:v<0
 ·simp only[if_pos hv];omega
 ·simp only[if_neg hv];omega
theorem su(lo hi:Option Int)(n:Nat):Builtin.Slice.sliceAdjust lo hi 1 (n:Int)=(((sIx n 0 lo:Nat):Int),((sIx n n hi:Nat):Int)):=by
 have h1:¬ ((1:Int)<0):=by omega
 unfold Builtin.Slice.sliceAdjust
 simp only[h1,if_false]
 refine Prod.ext ?_ ?_
 ·cases lo with
  | none=>rfl
  | some v=>exact vN v n 0
 ·cases hi with
  | none=>rfl
  | some v=>exact vN v n n
theorem rB(i j:Nat):Builtin.Slice.slicePlaces (i:Int) (j:Int) 1=j-i:=by
 unfold Builtin.Slice.slicePlaces
 have h1:(1:Int)>0:=by omega
 simp only[h1,if_true,Int.ediv_one]
 split<;>omega
theorem jG{v:Value}{o:Option Int}{Q:Option Int->Shared->Prop}(p:IsPart v o)(h:Q o s):wpAny (model prog w) A (Builtin.Slice.slicePartIndex v) Q E s:=by
 cases p with
 | none=>exact slicePart_none h
 | int i t=>exact slicePart_int h
theorem dU{sl:Addr}{vl vu:Value}{lo hi:Option Int}{n:Nat}{Q:Int×Int×Nat->Shared->Prop}(hs:s.heap.IsSliceOf sl vl vu .none)(pl:IsPart vl lo)(pu:IsPart vu hi)
  (h:Q (((sIx n 0 lo:Nat):Int),1,sIx n n hi-sIx n 0 lo) s):wpAny (model prog w) A (Builtin.Slice.sliceApplied (.ref sl) (pure (n:Int))) Q E s:=by
 obtain⟨os,hos,hcs,hds⟩:=id hs
 unfold Builtin.Slice.sliceApplied Builtin.Slice.sliceFields
 refine wpAny_bind (wpAny_bind (wpAny_field hos hds (x:=vl) rfl (wpAny_bind (wpAny_field hos hds (x:=vu) rfl (wpAny_bind (wpAny_field hos hds (x:=.none) rfl (wpAny_pure ?_)))))))
 refine wpAny_bind (slicePart_none ?_)
 show wpAny _ _ (if((1:Int)==0)=true then _ else _) _ _ s
 rw[if_neg (by decide)]
 refine wpAny_bind (jG pl (wpAny_bind (jG pu (wpAny_bind (wpAny_pure ?_)))))
 show wpAny _ _ (match Builtin.Slice.sliceAdjust lo hi 1 (n:Int) with | (lo,hi)=>pure (lo,(1:Int),Builtin.Slice.slicePlaces lo hi 1)) _ _ s
 rw[su lo hi n]
 show wpAny _ _ (pure (((sIx n 0 lo:Nat):Int),(1:Int),Builtin.Slice.slicePlaces ((sIx n 0 lo:Nat):Int) ((sIx n n hi:Nat):Int) 1)) _ _ s
 rw[rB]
 exact wpAny_pure h
theorem xH(xs:Array Value)(i k:Nat):((List.range k).filterMap fun(m:Nat)=>xs[((i:Int)+(m:Int)*1).toNat]?).toArray=((xs.toList.drop i).take k).toArray:=by
 have e:(fun(m:Nat)=>xs[((i:Int)+(m:Int)*1).toNat]?)=fun m=>xs[i+m]?:=by
  funext m
  have:((i:Int)+(m:Int)*1).toNat=i+m:=by omega
  rw[this]
 rw[e]
 have:=pick_run xs i k
 rw[List.filterMap_map] at this
 have e2:((fun x=>xs[x]?)∘fun x=>i+x)=fun m=>xs[i+m]?:=rfl
 rw[e2] at this
 rw[this]
theorem gW{t sl:Addr}{items:Array Value}{vl vu:Value}{lo hi:Option Int}{Q:Value->Shared->Prop}(ht:IsTup s.heap t items)(hs:s.heap.IsSliceOf sl vl vu .none)(pl:IsPart vl lo)(pu:IsPart vu hi)
    (hw:¬ (sIx items.size 0 lo=0/\sIx items.size items.size hi=items.size))
    (h:Q (.ref s.heap.objs.size) { s with heap:=s.heap.push { cls:=.type "tuple",data:=.seq ((items.toList.drop (sIx items.size 0 lo)).take (sIx items.size items.size hi-sIx items.size 0 lo)).toArray } })
    (hsz:items.size<=sizeLine):wpAny (model prog w) A (getItem (.ref t) (.ref sl)) Q E s:=by
  have htake:sizeOk (.seq ((items.toList.drop (sIx items.size 0 lo)).take (sIx items.size items.size hi-sIx items.size 0 lo)).toArray):=by
    show((items.toList.drop (sIx items.size 0 lo)).take (sIx items.size items.size hi-sIx items.size 0 lo)).toArray.size<=sizeLine
    rw[List.size_toArray,List.length_take,List.length_drop,Array.length_toList]
    omega
  have hj:sIx items.size items.size hi<=items.size:=Gi _ _ (Nat.le_refl _) hi
  obtain⟨os,hos,hcs,hds⟩:=id hs
  have hTs:s.TypeIs (.ref sl) "slice":=⟨os,hos,hcs⟩
  unfold getItem
  try with_reducible refine wpAny_holding ?_
  first | refine wpAny_bind (wpAny_pure ?_) | skip
  refine wpAny_bind (wpAny_sequenceKey ht.typeIs (by decide) ?_)
  refine wpAny_bind (wpAny_callSpecial?_slot (name:=Str.ofString "__getitem__") ht.typeIs PyProof.Rows.slot_tuple_getitem
    (wpAny_call_entry PyProof.Rows.slot_tuple_getitem ht.typeIs entry_tuple_getitem ?_ (args_tuple_getitem _ _)))
  show wpAny _ _ (Builtin.Tuple.tupleItemsOf (.ref t) >>=_) _ _ s
  refine wpAny_bind (tupleItemsOf_ ht ?_)
  refine wpAny_bind (wpAny_typeOf hTs ?_)
  rw[if_pos (by decide)]
  refine wpAny_bind (dU hs pl pu ?_)
  have hno:¬ ((((sIx items.size 0 lo:Nat):Int)==0&&(1:Int)==1&&(sIx items.size items.size hi-sIx items.size 0 lo)==items.size)=true):=by
    intro q
    rw[Bool.and_eq_true,Bool.and_eq_true] at q
    have q1:((sIx items.size 0 lo:Nat):Int)=0:=eq_of_beq q.1.1
    have q2:sIx items.size items.size hi-sIx items.size 0 lo=items.size:=eq_of_beq q.2
    exact hw ⟨by omega,by omega⟩
  show wpAny _ _ (if(((sIx items.size 0 lo:Nat):Int)==0&&(1:Int)==1&&(sIx items.size items.size hi-sIx items.size 0 lo)==items.size)=true then _ else _) _ _ s
  rw[if_neg hno,xH]
  first
    | exact wpAny_bind (m:=Builtin.Tuple.tupleExact _) (wpAny_newObj_type (wpAny_pure ⟨_,rfl,wpAny_pure h⟩) htake)
    | exact wpAny_bind (m:=Builtin.Tuple.tupleExact _) (wpAny_newObj_type (wpAny_bind (wpAny_pure (wpAny_pure ⟨_,rfl,wpAny_pure h⟩))) htake)
    | exact wpAny_bind (wpAny_bind (m:=Builtin.Tuple.tupleExact _) (wpAny_newObj_type (wpAny_pure (wpAny_pure ⟨_,rfl,wpAny_pure h⟩)) htake))
    | exact wpAny_bind (wpAny_bind (m:=Builtin.Tuple.tupleExact _) (wpAny_newObj_type (wpAny_pure ⟨_,rfl,wpAny_pure h⟩) htake))
end
end HT
namespace L2
open PySem PySem.Spec PyProof.Rows
abbrev TO:=St->Hp->(Option Int->Hp->Prop)->Prop
def PO(X:Cx)(e:Option Expr)(t:TO):Prop :=
  ∀ (pins : List (Addr × Obj)) (s : Shared) (σ : St) (H : Hp) (Q : Option Int -> Hp -> Prop), Inv X pins σ H s -> t σ H Q ->
    wpAny (model X.prog X.w) X.A (evalPart e X.env) (fun u s'=>∃ o H',Inv X pins σ H' s'/\IsPart u o/\Q o H') X.xe s
def Ak:TO:=fun _ H Q=>Q none H
def JV(t:TE):TO:=fun σ H Q=>t σ H fun x H1=>∃ i,x=.int i/\Q (some i) H1
theorem intsAre_of{ns:List Int}:∀ {us:List Value},Vals (ns.map V.int) us->IntsAre us ns:=by
  induction ns with
  | nil=>intro us r;rw[List.map_nil] at r;cases r;exact .nil
  | cons n ns ih =>
    intro us r
    rw[List.map_cons] at r
    cases r with
    | cons r1 r2 =>
      obtain⟨t,e⟩:=r1
      subst e
      exact .cons n t (ih r2)
section
variable {X:Cx} {e:Expr} {te:TE} {lo hi:Option Expr} {tl th:TO} {pos p2:Pos}
theorem Bq:PO X none Ak:=by
 intro pins s σ H Q I h
 rw[evalPart_none]
 exact wpAny_pure ⟨none,H,I,.none,h⟩
theorem Bp(h:PE X e te):PO X (some e) (JV te):=by
 intro pins s σ H Q I hw
 rw[evalPart_some]
 refine thn (h pins s σ H _ I hw) fun u s1 ⟨x,H1,I1,r1,q1⟩=>?_
 obtain⟨i,rfl,q⟩:=q1
 obtain⟨t,rfl⟩:=r1
 exact⟨some i,H1,I1,.int i t,q⟩
def SlR(X:Cx)(r:V->Option Int->Option Int->Hp->VK->Prop):Prop :=
  ∀ (pins : List (Addr × Obj)) (s : Shared) (σ : St) (H : Hp) (x : V) (v vl vu : Value) (lo hi : Option Int) (sl : Addr) (Q : VK), Inv X pins σ H s -> RelV x v -> s.heap.IsSliceOf sl vl vu .none -> IsPart vl lo -> IsPart vu hi -> r x lo hi H Q ->
    ∃ T id,typeLookup (.type T) "__getitem__"=pure (some (.builtin id))/\s.TypeIs v T/\wpAny (model X.prog X.w) X.A (getItem v (.ref sl)) (EP X pins σ Q) X.xe s
def tSl(r:V->Option Int->Option Int->Hp->VK->Prop)(te:TE)(tl th:TO):TE:=fun σ H Q=>te σ H fun x H1=>tl σ H1 fun l H2=>th σ H2 fun u H3=>r x l u H3 Q
theorem j5{r:V->Option Int->Option Int->Hp->VK->Prop}(hr:SlR X r)(he:PE X e te)(hl:PO X lo tl)(hu:PO X hi th):PE X (.Subscript e (.Slice lo hi none p2) pos) (tSl r te tl th):=by
 intro pins s σ H Q I h
 refine Subscript_ (thn (he pins s σ H _ I h) fun v s1 ⟨x,H1,I1,r1,q1⟩=>?_)
 refine wpAny_Slice (thn (hl pins s1 σ H1 _ I1 q1) fun vl s2 ⟨l,H2,I2,pl,q2⟩=>thn (hu pins s2 σ H2 _ I2 q2) fun vu s3 ⟨u,H3,I3,pu,q3⟩=>?_)
 rw[evalPart_none]
 refine wpAny_pure ?_
 have I4:Inv X pins σ H3 { s3 with heap:=s3.heap.push { cls:=.type "slice",data:=.fields #[vl,vu,.none] } }:=I3.kept (t':=s3.toks) fun b ob q=>Heap.get?_push_of_some _ q
 obtain⟨T,id,hT,ht,hg⟩:=hr pins { s3 with heap:=s3.heap.push { cls:=.type "slice",data:=.fields #[vl,vu,.none] } } σ H3 x v vl vu l u s3.heap.objs.size Q I4 r1 (Heap.IsSliceOf.new ..) pl pu q3
 show wpAny (model X.prog X.w) X.A (subscriptTail e (.Slice lo hi none p2) v (.ref s3.heap.objs.size)) (EP X pins σ Q) X.xe { s3 with heap:=s3.heap.push { cls:=.type "slice",data:=.fields #[vl,vu,.none] } }
 exact tail_any (ops:=[.ref s3.heap.objs.size,v]) ht hT hg (by with_unfolding_all rfl)
def zZ(xs:List V)(lo hi:Option Int):List V:=(xs.drop (HT.sIx xs.length 0 lo)).take (HT.sIx xs.length xs.length hi-HT.sIx xs.length 0 lo)
theorem jq(xs:List V)(lo hi:Option Int):(zZ xs lo hi).length<=xs.length:=by
 unfold zZ
 rw[List.length_take,List.length_drop]
 omega
def Xm(K:PySem.W.Frag):V->Option Int->Option Int->Hp->VK->Prop:=fun x lo hi H Q=>∃ a xs,x=.ref a/\SqT K H a xs /\
 ¬ (HT.sIx xs.length 0 lo=0/\HT.sIx xs.length xs.length hi=xs.length)/\∀ p,H p=none->Q (.ref p) (upd H p (.tup (zZ xs lo hi)))
theorem Gh:SlR X (Xm X.K):=by
 intro pins s σ H x v vl vu lo hi sl Q I rx hs pl pu h
 obtain⟨a,xs,rfl,hx,hw,q⟩:=h
 cases rx
 obtain⟨its,r,ht,hz⟩:=I.tuple hx
 have hlen:its.toArray.size=xs.length:=by rw[List.size_toArray];exact r.length.symm
 refine⟨"tuple",_,PyProof.Rows.slot_tuple_getitem.lookup,ht.typeIs,?_⟩
 refine HT.gW ht hs pl pu (by rw[hlen];exact hw) ?_ (by rw[hlen];exact hz)
 rw[hlen]
 refine⟨.ref s.heap.objs.size,_,I.laid (t':=s.toks) (o:=.tup (zZ xs lo hi)) (fun b ob q=>Heap.get?_push_of_some _ q) (Nat.le_refl _) ?_,rfl,q _ (I.hok.fresh (Nat.le_refl _))⟩
 exact⟨Nat.le_trans (jq xs lo hi) hz,_,(r.drop (HT.sIx xs.length 0 lo)).take (HT.sIx xs.length xs.length hi-HT.sIx xs.length 0 lo),IsTup.new _ _⟩
def Kp(K:PySem.W.Frag):R2:=fun x y H Q=>∃ a b xs ys,x=.ref a/\y=.ref b/\SqT K H a xs/\SqT K H b ys/\xs≠[]/\xs.length+ys.length<=sizeLine /\
 (ys=[]->Q (.ref a) H)/\(ys≠[]->∀ p,H p=none->Q (.ref p) (upd H p (.tup (xs++ys))))
theorem Vals.nil_iff{xs:List V}{us:List Value}(r:Vals xs us):us=[]↔xs=[]:=by
 cases r with
 | nil=>simp
 | cons _ _=>simp
theorem Ck:OpR X (binaryOp .Add) (Kp X.K):=by
 intro pins s σ H x y v u Q I rx ry h
 obtain⟨a,b,xs,ys,rfl,rfl,ha,hb,hx,hz,q1,q2⟩:=h
 cases rx
 cases ry
 obtain⟨its,r1,p1,_⟩:=I.tuple ha
 obtain⟨its2,r2,p2,_⟩:=I.tuple hb
 refine HT.Ec p1 p2 (fun z=>hx (r1.nil_iff.mp z)) (fun z=>⟨.ref a,H,I,rfl,q1 (r2.nil_iff.mp z)⟩) (fun z=>?_) (by rw[<- r1.length,<- r2.length];exact hz)
 refine⟨.ref s.heap.objs.size,_,I.laid (t':=s.toks) (o:=.tup (xs++ys)) (fun b ob q=>Heap.get?_push_of_some _ q) (Nat.le_refl _) ?_,rfl,q2 (fun w=>z (r2.nil_iff.mpr w)) _ (I.hok.fresh (Nat.le_refl _))⟩
 exact⟨by rw[List.length_append];exact hz,_,r1.append r2,IsTup.new _ _⟩
end
end L2
namespace L2
open PySem PySem.Spec PyProof.Rows
def ixN(n:Nat)(i:Int):Option Nat:=if 0<=i then(if i<n then some i.toNat else none) else if -(n:Int)<=i then some (i+n).toNat else none
def atI{α:Type}(xs:List α)(i:Int):Option α:=(ixN xs.length i).bind fun j=>xs[j]?
theorem uU{n:Nat}{i:Int}{j:Nat}(h:ixN n i=some j):seqIndex? i n=some j/\j<n /\ -(n:Int)<=i/\i<n:=by
 unfold ixN at h
 by_cases h0:0<=i
 ·rw[if_pos h0] at h
  by_cases h1:i<n
  ·rw[if_pos h1] at h
   have e:i.toNat=j:=Option.some.inj h
   exact⟨by rw[seqIndex_of h0 h1,e],by omega,by omega,h1⟩
  ·rw[if_neg h1] at h;cases h
 ·rw[if_neg h0] at h
  by_cases h1:-(n:Int)<=i
  ·rw[if_pos h1] at h
   have e:(i+n).toNat=j:=Option.some.inj h
   exact⟨by rw[seqIndex_neg (by omega) h1,e],by omega,h1,by omega⟩
  ·rw[if_neg h1] at h;cases h
theorem v8{α:Type}{xs:List α}{i:Int}{v:α}(h:atI xs i=some v):∃ j,seqIndex? i xs.length=some j/\xs[j]?=some v/\j<xs.length /\ -(xs.length:Int)<=i/\i<xs.length:=by
  unfold atI at h
  cases e:ixN xs.length i with
  | none=>rw[e] at h;cases h
  | some j =>
    rw[e] at h
    obtain⟨h1,h2,h3,h4⟩:=uU e
    exact⟨j,h1,h,h2,h3,h4⟩
def wk(b:Expr):Prop:=∀ o i,subscripted b false o i=operate [o,i] (getItem o i)
def IxR(X:Cx)(r:R2):Prop :=
  ∀ (value slice : Expr) (pins : List (Addr × Obj)) (s : Shared) (σ : St) (H : Hp) (x y : V) (v u : Value) (Q : VK), Inv X pins σ H s -> RelV x v -> RelV y u -> r x y H Q ->
    subscripted slice false v u=operate [v,u] (getItem v u)->wpAny (model X.prog X.w) X.A (subscriptTail value slice v u) (EP X pins σ Q) X.xe s
def MtR(X:Cx)(id:String)(r:V->List V->Hp->VK->Prop):Prop :=
  ∀ (pins : List (Addr × Obj)) (s : Shared) (σ : St) (H : Hp) (x : V) (xs : List V) (v : Value) (us : List Value) (Q : VK), Inv X pins σ H s -> RelV x v -> Vals xs us -> r x xs H Q ->
    wpAny (model X.prog X.w) X.A (call (.builtin id) (v::us)) (EP X pins σ Q) X.xe s
section
variable {X:Cx} {a b:Expr} {ta tb:TE} {pos:Pos}
theorem BL{r:R2}(hr:IxR X r)(ha:PE X a ta)(hb:PE X b tb)(hs:wk b):PE X (.Subscript a b pos) (tOp r ta tb):=by
 intro pins s σ H Q I h
 exact Subscript_ (SJ ha hb I h fun v u s2 x y H2 I2 rx ry q=>hr a b pins s2 σ H2 x y v u Q I2 rx ry q (hs _ _))
def Xq(K:PySem.W.Frag):R2:=fun x y H Q=>∃ p xs i v,x=.ref p/\y=.int i/\SqL K H p xs/\atI xs i=some v/\Q v H
def Xp(K:PySem.W.Frag):R2:=fun x y H Q=>∃ p xs i v,x=.ref p/\y=.int i/\SqT K H p xs/\atI xs i=some v/\Q v H
theorem uT:IxR X (Xq X.K):=by
 intro value slice pins s σ H x y v u Q I rx ry h hs
 obtain⟨p,xs,i,z,rfl,rfl,hq,he,q⟩:=h
 cases rx
 obtain⟨t,rfl⟩:=ry
 obtain⟨its,r,pl,hz⟩:=I.list hq
 obtain⟨j,h1,h2,h3,h4,h5⟩:=v8 he
 obtain⟨w,ew,rw'⟩:=r.get h2
 have hl:=r.length
 have hn:=pW
 have fin:EP X pins σ Q w s:=⟨z,H,I,rw',q⟩
 by_cases h0:0<=i
 ·have hj:i.toNat=j:=by
   rw[seqIndex_of h0 h5] at h1
   exact Option.some.inj h1
  exact item_listR pl.isList h0 (by omega) (by rw[hj];simpa using ew) fin hs
 ·have hj:(i+(its.toArray.size:Int)).toNat=j:=by
   rw[seqIndex_neg (by omega) h4] at h1
   rw[List.size_toArray,<- hl]
   exact Option.some.inj h1
  exact subscriptTail_builtinR (x:=w) pl.isList.typeIs slot_list_getitem.lookup
   (wpAny_getItem_list_neg (Q:=fun r s'=>r=w/\EP X pins σ Q r s') pl.isList (by omega) (by rw[List.size_toArray]<;>omega) (by omega) (by rw[hj];simpa using ew) ⟨rfl,fin⟩) hs
theorem HW:IxR X (Xp X.K):=by
 intro value slice pins s σ H x y v u Q I rx ry h hs
 obtain⟨p,xs,i,z,rfl,rfl,hq,he,q⟩:=h
 cases rx
 obtain⟨t,rfl⟩:=ry
 obtain⟨its,r,pl,hz⟩:=I.tuple hq
 obtain⟨j,h1,h2,h3,h4,h5⟩:=v8 he
 obtain⟨w,ew,rw'⟩:=r.get h2
 have hl:=r.length
 have hn:=pW
 have fin:EP X pins σ Q w s:=⟨z,H,I,rw',q⟩
 exact subscriptTail_builtinR (x:=w) pl.typeIs slot_tuple_getitem.lookup
  (getItem_tuple (j:=j) (Q:=fun r s'=>r=w/\EP X pins σ Q r s') pl (by omega) (by omega) (by rw[List.size_toArray,<- hl];exact h1) (by simpa using ew) ⟨rfl,fin⟩) hs
theorem rD(its:List Value)(n j:Nat)(u:Value):Obj.mapSeq (·.setIfInBounds j u) { cls:=.type "list",data:=.seq its.toArray n }={ cls:=.type "list",data:=.seq (its.set j u).toArray n }:=by
 simp[Obj.mapSeq]
theorem Inv.lst{pins:List (Addr×Obj)}{σ:St}{H:Hp}{s:Shared}{p:Addr}{xs:List V}(I:Inv X pins σ H s)(h:H p=some (.lst xs)) :
  ∃ (its:List Value) (n:Nat),Vals xs its/\s.heap.get? p=some { cls:=.type "list",data:=.seq its.toArray n }/\xs.length<=sizeLine:=by
 obtain⟨z,its,n,r,e⟩:=I.hok p _ h
 exact⟨its,n,r,e,z⟩
theorem Inv.lstUpd{pins:List (Addr×Obj)}{σ:St}{H:Hp}{s:Shared}{p:Addr}{xs ys:List V}{its its':List Value}{n n':Nat}{f:Obj->Obj}(I:Inv X pins σ H s)(h:H p=some (.lst xs))
  (ho:s.heap.get? p=some { cls:=.type "list",data:=.seq its.toArray n }) (hf:f { cls:=.type "list",data:=.seq its.toArray n }={ cls:=.type "list",data:=.seq its'.toArray n' }) (r:Vals ys its') (hz:ys.length<=sizeLine) (t:Nat) :
  Inv X pins σ (upd H p (.lst ys)) { s with heap:=s.heap.update p f,toks:=t }:=by
 have e:(s.heap.update p f).get? p=some { cls:=.type "list",data:=.seq its'.toArray n' }:=by
  rw[Heap.get?_update_self f ho (by rw[hf]<;>rfl),hf]
 refine I.write (x:=p) (e:=p) (by rw[h];trivial) (.inl rfl) (fun b u hb q=>(Heap.get?_update_other _ _ (Ne.symm hb)).trans q) ⟨_,e⟩ ?_
 exact⟨hz,its',n',r,e⟩
def Ke:V->V->V->Hp->(Hp->Prop)->Prop:=fun o i v H Q=>∃ p xs k j,o=.ref p/\i=.int k/\H p=some (.lst xs)/\ixN xs.length k=some j/\Q (upd H p (.lst (xs.set j v)))
theorem set_list:WK X Ke:=by
 intro pins s σ H o i v ov iv u Q I ro ri rv h
 obtain⟨p,xs,k,j,rfl,rfl,hp,hj,q⟩:=h
 cases ro
 obtain⟨t,rfl⟩:=ri
 obtain⟨its,n,r,ho,hz⟩:=I.lst hp
 obtain⟨h1,h2,h3,h4⟩:=uU hj
 have hl:=r.length
 have hn:=pW
 have I':Inv X pins σ (upd H p (.lst (xs.set j v))) { s with heap:=s.heap.update p (Obj.mapSeq (·.setIfInBounds j u)) } :=
  I.lstUpd hp ho (rD its n j u) (r.set rv j) (by rw[List.length_set];exact hz) s.toks
 by_cases h0:0<=k
 ·have hk:k.toNat=j:=by
   rw[seqIndex_of h0 h4] at h1
   exact Option.some.inj h1
  exact PySem.W.ki_setAt ho h0 (by omega) (by rw[List.size_toArray,<- hl];exact h4) (by rw[hk];exact⟨_,I',q⟩)
 ·have hk:(k+(its.toArray.size:Int)).toNat=j:=by
   rw[seqIndex_neg (by omega) h3] at h1
   rw[List.size_toArray,<- hl]
   exact Option.some.inj h1
  exact PySem.W.ki_setBack ho (by omega) (by rw[List.size_toArray,<- hl];exact h3) (by omega) (by rw[hk];exact⟨_,I',q⟩)
theorem lY(lo hi:Option Int)(n:Nat):(sliceBounds lo hi none n).1=((HT.sIx n 0 lo:Nat):Int)/\(sliceBounds lo hi none n).2.1=((HT.sIx n n hi:Nat):Int)/\(sliceBounds lo hi none n).2.2=1:=by
  refine⟨?_,?_,rfl⟩
  · cases lo with
    | none=>simp[sliceBounds,HT.sIx]
    | some i =>
      simp only[sliceBounds,HT.sIx,Option.getD_none,show(1:Int)>0 by decide,if_true]
      by_cases h:i<0
      · simp only[h,if_true]<;>omega
      · simp only[h,if_false]<;>omega
  · cases hi with
    | none=>simp[sliceBounds,HT.sIx]
    | some i =>
      simp only[sliceBounds,HT.sIx,Option.getD_none,show(1:Int)>0 by decide,if_true]
      by_cases h:i<0
      · simp only[h,if_true]<;>omega
      · simp only[h,if_false]<;>omega
theorem jX(its:List Value)(lo hi:Option Int):slicePick its.toArray lo hi none=((its.drop (HT.sIx its.length 0 lo)).take (HT.sIx its.length its.length hi-HT.sIx its.length 0 lo)).toArray:=by
 obtain⟨h1,h2,h3⟩:=lY lo hi its.toArray.size
 unfold slicePick
 rw[h1,h2,h3]
 simp only[sliceRange_one,pick_run,List.size_toArray]<;>rfl
def Xn(K:PySem.W.Frag):V->Option Int->Option Int->Hp->VK->Prop:=fun x lo hi H Q=>∃ a xs,x=.ref a/\SqL K H a xs/\∀ p,H p=none->Q (.ref p) (upd H p (.lst (zZ xs lo hi)))
theorem Az:SlR X (Xn X.K):=by
 intro pins s σ H x v vl vu lo hi sl Q I rx hs pl pu h
 obtain⟨a,xs,rfl,hx,q⟩:=h
 cases rx
 obtain⟨its,r,ht,hz⟩:=I.list hx
 have hlen:=r.length
 refine⟨"list",_,slot_list_getitem.lookup,ht.isList.typeIs,?_⟩
 refine wpAny_getItem_list_slice ht.isList hs pl pu .none (by simp) ?_ (by rw[List.size_toArray]<;>omega)
 rw[jX,<- hlen]
 refine⟨.ref s.heap.objs.size,_,I.laid (t':=s.toks) (o:=.lst (zZ xs lo hi)) (fun b ob q=>Heap.get?_push_of_some _ q) (Nat.le_refl _) ?_,rfl,q _ (I.hok.fresh (Nat.le_refl _))⟩
 exact⟨Nat.le_trans (jq xs lo hi) hz,_,0,(r.drop (HT.sIx xs.length 0 lo)).take (HT.sIx xs.length xs.length hi-HT.sIx xs.length 0 lo),Heap.get?_push_size _ rfl⟩
theorem nq:cU X (.builtin "len") (fun xs H Q=>∃ p ys,xs=[.ref p]/\(SqL X.K H p ys\/SqT X.K H p ys)/\Q (.int ys.length) H):=by
 intro pins s σ H xs us Q I r h
 obtain⟨p,ys,rfl,hq,q⟩:=h
 obtain⟨u,rfl,rx⟩:=vals1 r
 cases rx
 have hn:=pW
 rcases hq with hq | hq
 ·obtain⟨its,r',pl,hz⟩:=I.list hq
  have hlen:=r'.length
  exact Calls.call_len_list pl.isList (by simp only[List.size_toArray]<;>omega) ⟨.int ys.length,H,I.tok _,⟨s.toks+1,by rw[List.size_toArray,hlen]⟩,q⟩
 ·obtain⟨its,r',pl,hz⟩:=I.tuple hq
  have hlen:=r'.length
  exact len_tuple pl (by simp only[List.size_toArray]<;>omega) ⟨.int ys.length,H,I.tok _,⟨s.toks+1,by rw[List.size_toArray,hlen]⟩,q⟩
theorem iw:cU X (.type "list") (fun xs H Q=>∃ p ys,xs=[.ref p]/\(SqL X.K H p ys\/SqT X.K H p ys)/\∀ l,H l=none->Q (.ref l) (upd H l (.lst ys))):=by
 intro pins s σ H xs us Q I r h
 obtain⟨p,ys,rfl,hq,q⟩:=h
 obtain⟨u,rfl,rx⟩:=vals1 r
 cases rx
 have fin:∀ (its:List Value),Vals ys its->ys.length<=sizeLine->∀ (h':Heap) (c':Nat),(∀ b o',s.heap.get? b=some o'->h'.get? b=some o') ->
   h'.get? s.heap.objs.size=some { cls:=.type "list",dict:=none,data:=.seq its.toArray c',slots := #[] }->EP X pins σ Q (.ref s.heap.objs.size) { s with heap:=h' }:=fun its r' hz h' c' kp e =>
  ⟨.ref s.heap.objs.size,_,I.laid (t':=s.toks) kp (Nat.le_refl _) (show cZ X.prog X.w _ h' _ (.lst ys) from⟨hz,its,c',r',e⟩),rfl,q _ (I.hok.fresh (Nat.le_refl _))⟩
 rcases hq with hq | hq
 ·obtain⟨its,r',pl,hz⟩:=I.list hq
  have hlen:=r'.length
  obtain⟨o,ho,hc,n,hd⟩:=pl.isList
  exact call_list_seq p (.inl rfl) ho hc hd (fun h' c' kp e=>fin its r' hz h' c' kp e) (by simp only[List.size_toArray]<;>omega)
 ·obtain⟨its,r',pl,hz⟩:=I.tuple hq
  have hlen:=r'.length
  obtain⟨o,ho,hc,n,hd⟩:=pl
  exact call_list_seq p (.inr rfl) ho hc hd (fun h' c' kp e=>fin its r' hz h' c' kp e) (by simp only[List.size_toArray]<;>omega)
theorem lH:cU X (.type "tuple") (fun xs H Q=>∃ p ys,xs=[.ref p]/\((SqL X.K H p ys/\∀ l,H l=none->Q (.ref l) (upd H l (.tup ys)))\/(SqT X.K H p ys/\Q (.ref p) H))):=by
 intro pins s σ H xs us Q I r h
 obtain⟨p,ys,rfl,h⟩:=h
 obtain⟨u,rfl,rx⟩:=vals1 r
 cases rx
 rcases h with⟨hq,q⟩ | ⟨hq,q⟩
 ·obtain⟨its,r',pl,hz⟩:=I.list hq
  have hlen:=r'.length
  refine call_tuple_list pl.isList (fun h' kp=>?_) (by simp only[List.size_toArray]<;>omega)
  have I1:Inv X pins σ H { s with heap:=h' }:=I.kept (t':=s.toks) kp
  have I2:Inv X pins σ (upd H h'.objs.size (.tup ys)) { s with heap:=h'.push { cls:=.type "tuple",data:=.seq its.toArray } } :=
   I1.laid (t':=s.toks) (fun b o e=>Heap.get?_push_of_some _ e) (Nat.le_refl _) (show cZ X.prog X.w _ _ _ (.tup ys) from⟨hz,its,r',IsTup.new _ _⟩)
  exact⟨.ref h'.objs.size,_,I2,rfl,q _ (I1.hok.fresh (Nat.le_refl _))⟩
 ·obtain⟨its,r',pl,hz⟩:=I.tuple hq
  exact call_tuple_same pl ⟨.ref p,H,I,rfl,q⟩
def tyV(K:PySem.W.Frag)(T:String)(x:V)(H:Hp):Prop:=match x with
 | .str _=>T="str"
 | .int _=>T="int"
 | .ref p => (T = "list" /\ ∃ xs, SqL K H p xs) \/ (T = "tuple" /\ ∃ o, K.lookup p = some o /\ o.cls = .type "tuple" /\ o.dict = none) \/
   (T="dict"/\((∃ kvs,H p=some (.dK kvs))\/∃ kvs,H p=some (.dT kvs)))\/(T="set"/\∃ S n,H p=some (.set S n))
 | _=>False
theorem yW{pins:List (Addr×Obj)}{σ:St}{H:Hp}{s:Shared}{T:String}{x:V}{v:Value}(I:Inv X pins σ H s)(r:RelV x v)(ty:tyV X.K T x H) :
    s.TypeIs v T/\∀ a,v=.ref a->∃ ob,s.heap.get? a=some ob/\ob.dict=none:=by
  cases x with
  | str z =>
    obtain⟨t,rfl⟩:=r
    cases (show T="str" from ty)
    exact⟨typeIs_str s z t,fun _ e=>nomatch e⟩
  | int i =>
    obtain⟨t,rfl⟩:=r
    cases (show T="int" from ty)
    exact⟨typeIs_int s i t,fun _ e=>nomatch e⟩
  | ref p =>
    cases r
    rcases ty with⟨rfl,xs,hq⟩ | ⟨rfl,o,hk,hc,hd⟩ | ⟨rfl,hk⟩ | ⟨rfl,S,n,hk⟩
    · obtain⟨its,_,pl,_⟩:=I.list hq
      refine⟨pl.isList.typeIs,fun a e=>?_⟩
      cases e
      obtain⟨o,n,e,c,hd,_⟩:=pl
      exact⟨o,e,hd⟩
    · refine⟨⟨o,I.kIn p o hk,hc⟩,fun a e=>?_⟩
      cases e
      exact⟨o,I.kIn _ o hk,hd⟩
    · have z:∃ o,s.heap.get? p=some o/\o.ExactDict:=by
        rcases hk with⟨kvs,hk⟩ | ⟨kvs,hk⟩
        · obtain⟨_,_,_,_,o,_,_,e,ex,_⟩:=I.hok p _ hk
          exact⟨o,e,ex⟩
        · obtain⟨_,_,_,_,o,_,_,e,ex,_⟩:=I.hok p _ hk
          exact⟨o,e,ex⟩
      obtain⟨o,e,ex⟩:=z
      refine⟨⟨o,e,ex.1⟩,fun a e2=>?_⟩
      cases e2
      exact⟨o,e,ex.2.1⟩
    · obtain⟨o,_,_,_,e,ex,_⟩:=I.hok p _ hk
      refine⟨⟨o,e,ex.1⟩,fun a e2=>?_⟩
      cases e2
      exact⟨o,e,ex.2.1⟩
  | _=>exact False.elim ty
def Xh(K:PySem.W.Frag)(T:String)(r:V->List V->Hp->VK->Prop)(to:TE):TE:=fun σ H Q=>to σ H fun x H1=>tyV K T x H1/\r x [] H1 Q
def tBM(K:PySem.W.Frag)(T:String)(r:V->List V->Hp->VK->Prop)(to:TE)(t:TA):TE:=fun σ H Q=>to σ H fun x H1=>tyV K T x H1/\t σ H1 fun xs H2=>r x xs H2 Q
variable {o e:Expr} {es:List Expr} {to:TE} {t:TA} {name:Str} {apos cpos:Pos} {T id:String} {r:V->List V->Hp->VK->Prop}
theorem G4(pa:PlainAttrs T)(slot:Slot T name id)(hty:typeOf (.builtin id)=pure (.type "method_descriptor"))(hm:MtR X id r)(ho:PE X o to)
  (hbase:attributeBase o name X.env (eval o X.env)=eval o X.env:=by rfl) (hline:(apos.endLine==cpos.line)=true:=by rfl):PE X (.Call (.Attribute o name apos) [] [] cpos) (Xh X.K T r to):=by
 intro pins s σ H Q I h
 refine wpAny_Call_method0_late hbase hline (thn (ho pins s σ H _ I h) fun v s1 ⟨x,H1,I1,r1,ty,q1⟩=>?_)
 obtain⟨h1,h2⟩:=yW I1 r1 ty
 exact⟨T,id,pa,slot,hty,h1,h2,Calls.callWith_builtin rfl (PySem.evalArgs_none (hm pins s1 σ H1 x [] v [] Q I1 r1 .nil q1))⟩
theorem uo(pa:PlainAttrs T)(slot:Slot T name id)(hty:typeOf (.builtin id)=pure (.type "method_descriptor"))(hm:MtR X id r)(ho:PE X o to)(ha:PA X (e::es) t)
    (hbase:attributeBase o name X.env (eval o X.env)=eval o X.env:=by rfl)
    (hfew:((backTo cpos (starEach (e::es) X.env)).all (fun x => !x.1)&&(backToKw cpos (keywordEach [] X.env)).all (fun x=>x.1.isSome)
      && decide ((e::es).length+([]:List Keyword).length+(if([]:List Keyword).isEmpty then 0 else 1)<30))=true:=by rfl)
    (hline:(apos.endLine==cpos.line)=true:=by rfl) (hs:starEach (e::es) X.env=(false,eval e X.env)::starEach es X.env:=by rfl) (hplain:(backTo cpos (starEach es X.env)).any (·.1)=false:=by rfl) :
    PE X (.Call (.Attribute o name apos) (e::es) [] cpos) (tBM X.K T r to t):=by
  intro pins s σ H Q I h
  refine wpAny_Call_method_late hbase hfew hline rfl (thn (ho pins s σ H _ I h) fun v s1 ⟨x,H1,I1,r1,ty,q1⟩=>?_)
  obtain⟨h1,h2⟩:=yW I1 r1 ty
  refine⟨T,id,pa,slot,hty,h1,h2,?_⟩
  have hA:=ha cpos pins s1 σ H1 _ I1 q1
  rw[hs] at hA ⊢
  refine Calls.callWith_builtin (by show(false||(backTo cpos (starEach es X.env)).any (·.1))=false;rw[hplain]<;>rfl) (Calls.evalArgs_plain ?_)
  exact thn hA fun us s2 ⟨vs,H2,I2,r2,q2⟩=>hm pins s2 σ H2 x vs v us Q I2 r1 r2 q2
end
end L2
namespace L2
open PySem PySem.Spec PyProof.Rows
def MtM(X:Cx)(id:String)(r:V->List V->Hp->VK->Prop):Prop :=
  ∀ (pins : List (Addr × Obj)) (s : Shared) (σ : St) (H : Hp) (x : V) (xs : List V) (v : Value) (us : List Value) (Q : VK), Inv X pins σ H s -> RelV x v -> Vals xs us -> r x xs H Q ->
    wpAny (model X.prog X.w) X.A (call (.builtin id) (v::us)) (EP X pins σ Q) X.xe s
theorem Vals.one:∀ {x:V} {us:List Value},Vals [x] us->∃ u,us=[u]/\RelV x u
 | _,_,.cons r .nil=>⟨_,rfl,r⟩
theorem Vals.zero:∀ {us:List Value},Vals [] us->us=[]
 | _,.nil=>rfl
theorem Vals.dropLast{xs:List V}{us:List Value}(h:Vals xs us):Vals xs.dropLast us.dropLast:=by
  induction h with
  | nil=>exact .nil
  | cons r t ih =>
    cases t with
    | nil=>exact .nil
    | cons q t'=>exact .cons r ih
theorem Vals.reverse{xs:List V}{us:List Value}(h:Vals xs us):Vals xs.reverse us.reverse:=by
 induction h with
 | nil=>exact .nil
 | cons r t ih=>rw[List.reverse_cons,List.reverse_cons];exact Vals.append ih (.cons r .nil)
theorem Vals.rep{xs:List V}{us:List Value}(h:Vals xs us):∀ k:Nat,Vals (List.replicate k xs).flatten (List.replicate k us).flatten
  | 0=>.nil
  | k + 1 => by
    rw[List.replicate_succ,List.replicate_succ,List.flatten_cons,List.flatten_cons]
    exact Vals.append h (Vals.rep h k)
theorem rQ{α:Type}(l:List α):l.eraseIdx (l.length-1)=l.dropLast:=by
  induction l with
  | nil=>rfl
  | cons a r ih =>
    cases r with
    | nil=>rfl
    | cons b r =>
      have e:(a::b::r).length-1=((b::r).length-1)+1:=by
        have h1:(a::b::r).length=r.length+2:=rfl
        have h2:(b::r).length=r.length+1:=rfl
        omega
      rw[e,List.eraseIdx_cons_succ,ih]
      all_goals rfl
theorem foldl_rep(its:List Value):∀ (k:Nat) (acc:List Value),
    List.foldl (fun x1 x2=>x1++x2) acc.toArray (List.replicate k its.toArray)=(acc++(List.replicate k its).flatten).toArray
  | 0,acc=>by simp
  | k + 1, acc => by
    have e:acc.toArray++its.toArray=(acc++its).toArray:=by simp
    have e2:(acc++its)++(List.replicate k its).flatten=acc++(List.replicate (k+1) its).flatten:=by
      rw[List.replicate_succ,List.flatten_cons,List.append_assoc]
    rw[<- e2,<- foldl_rep its k (acc++its),<- e,List.replicate_succ,List.foldl_cons]
section
variable {X:Cx} {pins:List (Addr×Obj)} {σ:St} {H:Hp} {s:Shared} {l b:Addr} {xs ys zs:List V}
theorem Inv.lset{its its':List Value}{n:Nat}{f:Array Value->Array Value}{t':Nat}(I:Inv X pins σ H s)(hH:H l=some (.lst xs))
  (e:s.heap.get? l=some { cls:=.type "list",data:=.seq its.toArray n }) (hf:f its.toArray=its'.toArray) (hv:Vals ys its') (hz:ys.length<=sizeLine) :
  Inv X pins σ (upd H l (.lst ys)) { s with heap:=s.heap.update l (Obj.mapSeq f),toks:=t' }:=by
 have q:=PySem.IsL.update e f
 rw[hf] at q
 refine I.write (x:=l) (e:=l) (by rw[hH];exact trivial) (.inl rfl) (fun b' u hb hu=>(Heap.get?_update_other s.heap (Obj.mapSeq f) (Ne.symm hb)).trans hu) ⟨_,q⟩ ?_
 exact⟨hz,its',_,hv,q⟩
theorem Inv.lnew{its:List Value}{t':Nat}(I:Inv X pins σ H s)(hv:Vals ys its)(hz:ys.length<=sizeLine) :
  Inv X pins σ (upd H s.heap.objs.size (.lst ys)) { s with heap:=s.heap.push { cls:=.type "list",data:=.seq its.toArray },toks:=t' } :=
 I.laid (fun _ _ q=>Heap.get?_push_of_some _ q) (Nat.le_refl _) ⟨hz,its,0,hv,Heap.get?_push_size _ rfl⟩
theorem Inv.fresh(I:Inv X pins σ H s):H s.heap.objs.size=none:=I.hok.fresh (Nat.le_refl _)
theorem Inv.lstM(I:Inv X pins σ H s)(hH:H l=some (.lst xs)):xs.length<=sizeLine/\∃ (its:List Value) (n:Nat),Vals xs its/\xs.length=its.length/\s.heap.get? l=some { cls:=.type "list",data:=.seq its.toArray n }:=by
 obtain⟨z,its,n,r,e⟩:=I.hok l _ hH
 exact⟨z,its,n,r,r.length,e⟩
theorem j8{n:Nat}(h:n<=sizeLine):Builtin.List.listTooLong n=false:=by
 unfold Builtin.List.listTooLong
 exact decide_eq_false (by omega)
end
section
variable {X:Cx}
def Bg:V->List V->Hp->VK->Prop:=fun x vs H Q=>∃ l xs y,x=.ref l/\vs=[y]/\H l=some (.lst xs)/\xs.length<sizeLine/\Q .non (upd H l (.lst (xs++[y])))
theorem jg:MtM X "list.append" Bg:=by
 intro pins s σ H x vs v us Q I rx rv h
 obtain⟨l,xs,y,rfl,rfl,hH,hz,q⟩:=h
 cases rx
 obtain⟨u,rfl,ru⟩:=rv.one
 obtain⟨z,its,n,r,hl,e⟩:=I.lstM hH
 refine call_meets F.slot_list_append ⟨_,e,rfl⟩ F.entry_list_append (F.args_list_append_2 _ _) (PySem.list_append l its.toArray n u (by rw[List.size_toArray];omega)) ⟨e,?_⟩
 refine⟨.non,_,I.lset (its':=its++[u]) hH e (by simp) (r.append (.cons ru .nil)) ?_,rfl,q⟩
 rw[List.length_append,List.length_singleton]
 omega
def Xo:V->List V->Hp->VK->Prop:=fun x vs H Q=>∃ l xs y,x=.ref l/\vs=[]/\H l=some (.lst xs)/\xs[xs.length-1]?=some y/\Q y (upd H l (.lst xs.dropLast))
theorem Ho:MtM X "list.pop" Xo:=by
 intro pins s σ H x vs v us Q I rx rv h
 obtain⟨l,xs,y,rfl,rfl,hH,hy,q⟩:=h
 cases rx
 have hus:=rv.zero
 subst hus
 obtain⟨z,its,n,r,hl,e⟩:=I.lstM hH
 obtain⟨u,hu,ru⟩:=r.get hy
 have hy':its.toArray[its.toArray.size-1]?=some u:=by
  show its.toArray[its.length-1]?=some u
  rw[<- Array.getElem?_toList,<- hl]
  exact hu
 refine call_meets F.slot_list_pop ⟨_,e,rfl⟩ F.entry_list_pop (F.args_list_pop_1 _) (MeetsSeq.list_pop_last l its.toArray n u hy' (by rw[List.size_toArray];omega)) ⟨e,?_⟩
 refine⟨y,_,I.lset (its':=its.dropLast) hH e ?_ r.dropLast ?_,ru,q⟩
 ·show its.toArray.eraseIdxIfInBounds (its.toArray.size-1)=its.dropLast.toArray
  rw[List.size_toArray,List.eraseIdxIfInBounds_toArray,rQ]
 ·rw[List.length_dropLast]
  omega
theorem len_rep{α:Type}(xs:List α)(k:Nat):(List.replicate k xs).flatten.length=k*xs.length:=by
 induction k with
 | zero=>simp
 | succ k ih=>rw[List.replicate_succ,List.flatten_cons,List.length_append,ih,Nat.succ_mul,Nat.add_comm]
end
section
variable {prog:Program} {w:World} {A:Around} {E:Value->Shared->Prop} {s:Shared}
set_option maxRecDepth 100000 in
end
section
variable {X:Cx}
end
end L2
namespace Att
open PySem PySem.W PySem.Calls PyProof.Rows
theorem ji{P:Params}{h:Heap}:∀ (ns:List Int) (vs:List Value),WellAll P h vs (ns.map WData.int)->IntsAre vs ns:=by
  intro ns
  induction ns with
  | nil =>
    intro vs w
    rw[List.map_nil] at w
    cases w
    exact .nil
  | cons n ns ih =>
    intro vs w
    rw[List.map_cons] at w
    cases w with
    | cons a b =>
      cases a
      exact .cons _ _ (ih _ b)
theorem tR{l:OpenLaw}{n:Nat}(hn:l.most=some n){P:Params}{h:Heap}{args:List WData}{vals:List Value}
    (hpre:l.row.toRowW.claim.pre args=true) (hwl:WellAll P h vals args) :
    ∃ a vs ns,vals=[Value.ref a]/\args=[WData.list (ns.map WData.int)]/\h.get? a=some { cls:=.type "list",data:=.seq vs.toArray }/\IntsAre vs ns/\ns.length<=n:=by
  have hsh:WShape.hasAll [] args [.list .int]=true:=(pre_splitW hpre).1
  have hc:l.pre.holds [] { args:=args }=true:=(pre_splitW hpre).2
  obtain⟨d,r,rfl,h1,h2⟩:=hasAllW_cons hsh
  obtain rfl:=hasAllW_nil h2
  obtain⟨xs,rfl,h3⟩:=hasW_list h1
  obtain⟨ns,rfl⟩:=items_int h3
  have hlen:ns.length<=n:=by
    unfold OpenLaw.pre at hc
    have h4:(WTm.not (.lt (.lit (.int (n:Int))) (.len (.arg 0)))).holds [] { args:=[.list (ns.map .int)] }=true:=by
      have h4:=(holds_andW hc).1
      rw[hn] at h4
      exact h4
    have h5:=condW_of h4 (w_not (w_lt w_lit (w_len_list (w_arg rfl))))
    rw[List.length_map] at h5
    refine Nat.le_of_not_lt fun q=>?_
    have q':(n:Int)<((ns.length:Nat):Int):=by omega
    first
      | (rw[decide_eq_true q'] at h5;exact absurd h5 (by decide))
      | (simp at h5;omega)
  cases hwl with
  | cons w1 w2 =>
    cases w2
    cases w1 with
    | list ho hall=>exact⟨_,_,ns,rfl,rfl,ho,ji ns _ hall,hlen⟩
theorem ud(l:OpenLaw)(args:List WData):l.row.toRowW.claim.post args (.bool true) args=true :=
 postW_of (r:=l.row.toRowW) (X:=(true==true))
  (show WShape.has [] (.bool true) .bool=true by first | rfl | decide | simp[WShape.has,WShape.arms,WShape.armsAll])
  (show(WTm.eq .res (.lit (.bool true))).value [] { args:=args,res:=some (.bool true),after:=args }=some (.bool (true==true)) from w_eq_bool (w_res rfl) w_lit) rfl
theorem oW{l:OpenLaw}{n:Nat}{q:Program}{loose:List Str}{XP:(Str->Option Value)->Heap->Prop}{YP:World->Heap->Prop}{d:DefRec}
    (hn:l.most=some n) (hdf:d.params.defaults=[])
    (call:∀ (w:World) (s₀ s₁:Shared) (mg mb:Str->Option Value) (fa:Addr) (o:Obj) (pm cd doc:Value) (a:Addr) (vs:List Value) (ns:List Int),
      Ground q loose [] XP w s₀ mg mb s₁.heap->YP w s₁.heap ->
      s₁.heap.get? fa=some o->o.data=.func (docDef d.name d.params d.body d.scope pm cd doc)->s₁.heap.CodeRec cd d.name->mg d.name=some (.ref fa) ->
      s₁.heap.get? a=some { cls:=.type "list",data:=.seq vs.toArray }->IntsAre vs ns->ns.length<=n->s₁.gens = #[] ->
      codeAny (model l.prog w) callerA (.call (.ref fa) ⟨[.ref a],[]⟩) (fun r s'=>r=.ok (.ret (.bool true))/\OldK s₁.heap s'.heap/\s'.os=s₁.os/\AllBare s'.gens) s₁) :
    WalkO q loose XP YP l.row.toRowW d [] (fun f vs=>PySem.call f vs):=by
  intro w s₀ s₁ mg mb G Y fa o pm cd doc dV kV ho hd hcd hD hmg hg args vals as hpre hlay hrd hwl hlo
  obtain rfl:dV=.none:=Dflts.none hD hdf
  obtain rfl:kV=.none:=Dflts.noKw hD
  obtain⟨a,vs,ns,rfl,rfl,hobj,hints,hlen⟩:=tR hn hpre hwl
  refine enter_call (codeAny_mono (call w s₀ s₁ mg mb fa o pm cd doc a vs ns G Y ho (fd_plain hd) hcd hmg hobj hints hlen hg) fun r s' hq=>?_)
  obtain⟨rfl,h2,h3,h4⟩:=hq
  exact⟨.inl ⟨.bool true,.bool true,[],rfl,fun _=>rfl,.bool true,ud l _,fun _=>⟨List.Pairwise.nil,fun _ hm=>(nomatch hm)⟩⟩,h2,h3,h4⟩
section
variable {prog:Program} {w:World} {A:Around} {E:Value->Shared->Prop} {s:Shared} {K:Frag}
def ledger(h:Heap)(L d:Addr):List (Addr×Obj):=(List.range h.objs.size).filterMap fun a=>if a=L\/a=d then none else(h.get? a).map fun o=>(a,o)
end
end Att
namespace L2
open PySem PySem.Spec PyProof.Rows
theorem lU:∀ {vs:List Value} {ns:List Int},IntsAre vs ns->Vals (ns.map V.int) vs
 | _,_,.nil=>.nil
 | _,_,.cons n t h=>.cons ⟨t,rfl⟩ (lU h)
def Only(H:Hp):Prop:=∀ b,H b=none\/∃ o xs,H b=some (.frz o (.lst xs))
theorem yc{P:Program}{w:World}{K:PySem.W.Frag}{mg mb:Str->Option Value}{CX:CXT}{k:Nat}{fa a:Addr}{fd:FuncData}{x:Str}{sp:Sp}{s₁:Shared}{vs:List Value}{ns:List Int}
    (KX:K.In s₁.heap) (hns:s₁.heap.Ns mainGlobals mg) (hb:s₁.heap.Ns builtinsNs mb) (hbb:∀ x:Str,x≠"__name__"->mb x=bootBuiltins x) (hlim:s₁.heap.NoLimit) (hg:s₁.gens = #[])
    (ha:s₁.heap.get? a=some { cls:=.type "list",data:=.seq vs.toArray }) (hi:IntsAre vs ns) (hl:ns.length<=sizeLine) (hr:Room k callerA)
    (F:∀ base:Heap,K.In base->base.Ns mainGlobals mg->FnOk P w K mg base CX k fa fd [x] sp) (hbind:∀ (s:Shared) (u:Value),BindsTo s fd ⟨[u],[]⟩ [(x,u)])
    (hsp:∀ H:Hp,Only H->SqL K H a (ns.map V.int)->sp [.ref a] H (fun v _=>v=.bl true) fun _ _ _=>False)
    (hCX:∀ H e s',CX [] H s₁ (fun _ _ _=>False) e s'->False) :
    codeAny (model P w) callerA (.call (.ref fa) ⟨[.ref a],[]⟩) (fun r s'=>r=.ok (.ret (.bool true))/\OldK s₁.heap s'.heap/\s'.os=s₁.os/\AllBare s'.gens) s₁:=by
  have rv:=lU hi
  have lenV:=hi.length
  have core:∀ H:Hp,Only H->SqL K H a (ns.map V.int)->HOk P w H s₁.heap->(∀ b,H b≠none->b=a)->(H a≠none->K.lookup a=none) ->
      codeAny (model P w) callerA (.call (.ref fa) ⟨[.ref a],[]⟩) (fun r s'=>r=.ok (.ret (.bool true))/\OldK s₁.heap s'.heap/\s'.os=s₁.os/\AllBare s'.gens) s₁:=by
    intro H hO hS hok hA hK
    have base_of:∀ {b:Addr} {o:Obj},s₁.heap.get? b=some o->H b=none->(yq s₁.heap H).get? b=some o:=fun e n=>yp e n
    have noA:∀ {b:Addr} {o:Obj} {es:Array DictEntry} {ep:Nat},s₁.heap.get? b=some o->o.data=.dict es ep->H b=none:=fun {b o es ep} e d=>by
      cases q:H b with
      | none=>rfl
      | some u =>
        have e':b=a:=hA b (by rw[q];simp)
        subst e'
        rw[ha] at e;cases e
        have d':Data.seq vs.toArray _=Data.dict es ep:=d
        cases d'
    have nsK:∀ {b:Addr} {m:Str->Option Value},s₁.heap.Ns b m->(yq s₁.heap H).Ns b m:=fun {b m} ⟨o,es,ep,e,d,r⟩=>⟨o,es,ep,base_of e (noA e d),d,r⟩
    have hKb:K.In (yq s₁.heap H):=fun b o e=>base_of (KX b o e) (by
      cases q:H b with
      | none=>rfl
      | some u =>
        have e':b=a:=hA b (by rw[q];simp)
        subst e'
        rw[hK (by rw[q];simp)] at e;cases e)
    have hM:Mod K mg (yq s₁.heap H):=⟨hKb,nsK hns,⟨mb,nsK hb,hbb⟩,let ⟨mc,h1,h2⟩:=hlim;⟨mc,nsK h1,h2⟩⟩
    have e0:Env0 P w K mg (yq s₁.heap H) callerA [] s₁ H:=⟨rfl,hM,fun b o e=>Cr e,Nat.le_of_eq (uY _ _),trivial,fun b hb=>absurd (show b∈([]:List Addr) from hb) (by simp),hok,.of_eq hg⟩
    refine codeAny_mono ((F _ hKb (nsK hns)).run callerA [] s₁ H ⟨[.ref a],[]⟩ [.ref a] [.ref a] _ _ hr e0 (hbind s₁ (.ref a)) (.cons rfl .nil) (hsp H hO hS)) fun r s' h=>?_
    cases r with
    | error e=>exact(hCX H e s' h).elim
    | ok fl =>
      cases fl with
      | next=>exact False.elim h
      | brk=>exact False.elim h
      | cont=>exact False.elim h
      | ret u =>
        obtain⟨v,H',os,bare,un,hok',r',q⟩:=h
        have q':v=.bl true:=q
        subst q'
        obtain rfl:u=Value.bool true:=r'
        refine⟨rfl,OldK.of_keep fun b o e=>?_,os,bare⟩
        cases q:H b with
        | none=>exact un.keep b o e q (by intro z;exact absurd (show b∈([]:List Addr) from z) (by simp)) (by simp)
        | some u =>
          rcases hO b with z | ⟨ob,xs,z⟩
          · rw[q] at z;cases z
          · have z2:=un.frzs b ob _ z
            obtain⟨e1,_⟩:=hok b _ z
            obtain⟨e2,_⟩:=hok' b _ z2
            rw[e] at e1;cases e1
            exact e2
  cases hk:K.lookup a with
  | some o =>
    have e:=KX a o hk
    rw[ha] at e
    cases e
    refine core (fun _=>none) (fun _=>.inl rfl) (.inr ⟨_,vs.toArray,_,hk,rfl,rfl,rfl,by rw[List.size_toArray,lenV];exact hl,by simpa using rv⟩) (fun b u z=>by have z':(none:Option HO)=some u:=z;cases z') (fun b z=>absurd rfl z) fun z=>absurd rfl z
  | none =>
    refine core (fun b=>if b=a then some (.frz { cls:=.type "list",data:=.seq vs.toArray } (.lst (ns.map V.int))) else none) (fun b=>?_) (.inl (.inr ⟨{ cls:=.type "list",data:=.seq vs.toArray },if_pos rfl⟩)) (fun b u z=>?_) (fun b z=>?_) fun _=>hk
    · by_cases hb:b=a
      · exact .inr ⟨_,_,if_pos hb⟩
      · exact .inl (if_neg hb)
    · by_cases hb:b=a
      · have z':=(if_pos hb).symm.trans z
        cases z'
        subst hb
        exact⟨ha,by rw[List.length_map];exact hl,vs,_,rv,ha⟩
      · have z':=(if_neg hb).symm.trans z
        cases z'
    · by_cases hb:b=a
      · exact hb
      · exact absurd (if_neg hb) z
end L2
namespace L2
open PySem PySem.Spec PyProof.Rows
theorem Ag{l:PySem.W.OpenLaw}{n k:Nat}{q:Program}{loose:List Str}{XP:(Str->Option Value)->Heap->Prop}{YP:World->Heap->Prop}{d:DefRec}{K:Params->PySem.W.Frag}{CX:World->CXT}{sp:World->Sp}{x:Str}
    (hn:l.most=some n) (hn2:n<=sizeLine) (hdf:d.params.defaults=[]) (hr:Room k callerA)
    (hY:∀ (w:World) (h:Heap),YP w h->(K w.params).In h)
    (F:∀ (w:World) (mg:Str->Option Value) (fa:Addr) (h:Heap),(K w.params).In h->h.Ns mainGlobals mg->mg d.name=some (.ref fa) ->
      ∃ fd : FuncData, (∀ (s : Shared) (u : Value), BindsTo s fd ⟨[u], []⟩ [(x, u)]) /\
        ∀ base:Heap,(K w.params).In base->base.Ns mainGlobals mg->FnOk l.prog w (K w.params) mg base (CX w) k fa fd [x] (sp w))
    (hsp:∀ (w:World) (H:Hp) (a:Addr) (ns:List Int),ns.length<=n->Only H->SqL (K w.params) H a (ns.map V.int)->sp w [.ref a] H (fun v _=>v=.bl true) fun _ _ _=>False)
    (hCX:∀ (w:World) (H:Hp) (s:Shared) (e:Value) (s':Shared),CX w [] H s (fun _ _ _=>False) e s'->False) :
    PySem.W.WalkO q loose XP YP l.row.toRowW d [] (fun f vs=>PySem.call f vs):=by
  refine Att.oW hn hdf fun w s₀ s₁ mg mb fa o pm cd doc a vs ns G Y ho hd hcd hmg hobj hints hlen hg=>?_
  have KX:=hY w _ Y
  obtain⟨fd,hb,hF⟩:=F w mg fa _ KX G.T.g hmg
  exact yc KX G.T.g G.T.b G.T.builtins G.T.nolimit hg hobj hints (Nat.le_trans hlen hn2) hr hF hb (fun H hO hS=>hsp w H a ns hlen hO hS) fun H e s'=>hCX w H s₁ e s'
end L2
namespace L2
open PySem PySem.Spec PyProof.Rows
def dF(s:Stmt):Arguments:=match s with
 | .FunctionDef _ a _ _ _ _ _ _ _ _=>a
 | _=>{ posonlyargs:=[],args:=[],vararg:=none,kwonlyargs:=[],kw_defaults:=[],kwarg:=none,defaults:=[] }
def bL(s:Stmt):List Stmt:=match s with
 | .FunctionDef _ _ b _ _ _ _ _ _ _=>b
 | _=>[]
def bf(s:Stmt):Scope:=match s with
 | .FunctionDef _ _ _ _ _ _ sc _ _ _=>sc
 | _=>{ kind:=.function,names:=[],isGenerator:=false,isCoroutine:=false }
abbrev CX0:CXT:=fun _ _ _ _ _ _=>False
abbrev E0:XK:=fun _ _ _=>False
structure Fun (K:PySem.W.Frag) (x qual:Str) (st:Stmt) (f:Addr) (fd:FuncData):Prop where
 ex:∃ (oc:Value) (od:Option Addr) (kV doc pm:Value) (an:Option Addr) (cdv ct:Value) (osl:Array (Option Value)),
  fd=PySem.W.fnOf x qual (dF st) (bL st) (bf st) .none kV doc pm an cdv ct/\K.lookup f=some ⟨oc,od,.func fd,osl⟩/\PySem.W.codeIn K cdv qual=true
 kp:PySem.W.keepIn K (.ref f)=true
section
variable {P:Program} {w:World} {K:PySem.W.Frag} {mg:Str->Option Value} {base:Heap}
theorem Fun.binds{x qual:Str}{st:Stmt}{f:Addr}{fd:FuncData}{ps:List Str}(F:Fun K x qual st f fd)
  (h:∀ (kV doc pm:Value) (an:Option Addr) (cdv ct:Value) (us:List Value),us.length=ps.length->bindArgs (PySem.W.fnOf x qual (dF st) (bL st) (bf st) .none kV doc pm an cdv ct) ⟨us,[]⟩=pure (ps.zip us)):Binds K fd ps []:=by
 obtain⟨oc,od,kV,doc,pm,an,cdv,ct,osl,rfl,lk,hcd⟩:=F.ex
 exact .all (h kV doc pm an cdv ct)
theorem u9{x qual:Str}{st:Stmt}{f:Addr}{oc:Value}{od an:Option Addr}{osl:Array (Option Value)}{kV doc pm cdv ct:Value}(l:K.lookup f=some ⟨oc,od,.func (PySem.W.fnOf x qual (dF st) (bL st) (bf st) .none kV doc pm an cdv ct),osl⟩)
  (c:PySem.W.codeIn K cdv qual=true) (k:PySem.W.keepIn K (.ref f)=true):Fun K x qual st f (PySem.W.fnOf x qual (dF st) (bL st) (bf st) .none kV doc pm an cdv ct):=⟨⟨oc,od,kV,doc,pm,an,cdv,ct,osl,rfl,l,c⟩,k⟩
end
section
variable {X:Cx}
end
theorem yg{A B:Prop}(h:B):if false=true then A else B:=by
 rw[if_neg Bool.false_ne_true]
 exact h
theorem wF{A B:Prop}(h:A):if true=true then A else B:=by
 rw[if_pos rfl]
 exact h
def Same(H H':Hp):Prop:=∀ b o,H b=some o->H' b=some o
theorem Same.refl(H:Hp):Same H H:=fun _ _ h=>h
theorem Same.trans{H H1 H2:Hp}(a:Same H H1)(b:Same H1 H2):Same H H2:=fun c o h=>b c o (a c o h)
theorem Same.free{H H':Hp}(e:Same H H'){l:Addr}(h:H' l=Option.none):H l=Option.none:=by
  cases q:H l with
  | none=>rfl
  | some o =>
    rw[e l o q] at h
    cases h
theorem Same.seq{K:PySem.W.Frag}{H H':Hp}{a:Addr}{xs:List V}(e:Same H H')(h:SqL K H a xs):SqL K H' a xs:=by
 rcases h with(h | ⟨o,h⟩) | h
 ·exact .inl (.inl (e _ _ h))
 ·exact .inl (.inr ⟨o,e _ _ h⟩)
 ·exact .inr h
end L2
namespace L2
open PySem PySem.Spec PyProof.Rows
def iu(cells:List (Str×Addr)):List (Str×NameKind)->List (Str×Addr)->List (Str×Addr)
 | [],acc=>acc
 | (x,k)::r,acc=>if k==.free then iu cells r ((x,(cells.lookup x).getD 0)::acc) else iu cells r acc
theorem kZ{env:Env}(f:Str×NameKind->List (Str×Addr)->Sem (ForInStep (List (Str×Addr))))
    (hf:∀ name kind cs,f (name,kind) cs=if kind==.free then(do let a <- cellOf env name;pure (.yield ((name,a)::cs))) else pure (.yield cs)) :
    ∀ (l:List (Str×NameKind)) (acc:List (Str×Addr)),(∀ x,(x,NameKind.free)∈l->∃ c,env.cells.lookup x=some c)->(forIn l acc f:Sem (List (Str×Addr)))=pure (iu env.cells l acc)
  | [],acc,_=>by rw[List.forIn_nil];rfl
  | (x, k) :: r, acc, h => by
    rw[List.forIn_cons,hf]
    unfold iu
    cases hk:k==NameKind.free with
    | false =>
      simp only[Bool.false_eq_true,if_false]
      show(forIn r acc f:Sem _)=_
      exact kZ f hf r acc fun y hy=>h y (List.mem_cons_of_mem _ hy)
    | true =>
      simp only[if_true]
      have ek:k=.free:=by simpa using hk
      obtain⟨c,hc⟩:=h x (by rw[ek];exact List.mem_cons_self)
      have e1:cellOf env x=pure c:=by unfold cellOf;rw[hc]
      rw[e1,hc]
      show(forIn r ((x,c)::acc) f:Sem _)=_
      exact kZ f hf r _ fun y hy=>h y (List.mem_cons_of_mem _ hy)
theorem d9{env:Env}{scope:Scope}(h:∀ x,(x,NameKind.free)∈scope.names->∃ c,env.cells.lookup x=some c):closureFor scope env=pure (iu env.cells scope.names []):=by
 simp only[closureFor]
 rw[kZ (env:=env) _ (fun name kind cs=>by cases hk:kind==NameKind.free<;>simp[hk]) scope.names [] h]
 rfl
theorem n6{M:Model}{A:Around}{E:Value->Shared->Prop}{s:Shared}{scope:Scope}{globals:Addr}{closure:List (Str×Addr)}{qual:Str}{outer:Env}{Q:Env->Shared->Prop}
  (hQ:Q (newEnv scope s.heap.objs.size globals (cellsFrom (s.heap.objs.size+1) scope.names closure) qual none .none (some outer) builtinsNs) { s with heap:=pushCells (s.heap.push { cls:=.type "dict",data:=.dict #[] }) scope.names }) :
  wpAny M A (newFunctionEnv scope globals closure [] qual none .none (some outer)) Q E s:=by
 simp only[newFunctionEnv,Option.isSome_some,if_true]
 refine wpAny_bind (wpAny_alloc ?_)
 refine wpAny_bind (wpAny_layCells _ (fun name kind cells=>by cases hkc:kind==NameKind.cell<;>simp[hkc]) _ _ _ _ ?_)
 rw[show({ s with heap:=s.heap.push { cls:=.type "dict",data:=.dict #[] } }:Shared).heap.objs.size=s.heap.objs.size+1 from Heap.size_push ..]
 rw[List.forIn_nil]
 exact wpAny_bind (wpAny_pure (wpAny_pure hQ))
theorem gj{α:Type}:∀ {l:List (Str×α)} {x:Str} {c:α},(x,c)∈l->∃ d,l.lookup x=some d
  | (y, d) :: r, x, c, h => by
    rw[List.lookup_cons]
    cases hb:x==y with
    | true=>exact⟨d,rfl⟩
    | false =>
      rcases List.mem_cons.mp h with e | h
      · cases e;simp at hb
      · exact gj h
theorem bJ{α:Type}:∀ {l:List (Str×α)} {x:Str} {c:α},(l.map (·.1)).Nodup->(x,c)∈l->l.lookup x=some c
  | (y, d) :: r, x, c, hn, h => by
    rw[List.map_cons,List.nodup_cons] at hn
    rw[List.lookup_cons]
    rcases List.mem_cons.mp h with e | h'
    · cases e;simp
    · have hne:(x==y)=false:=by
        rw[beq_eq_false_iff_ne]
        intro exy
        exact hn.1 (List.mem_map.mpr ⟨(x,c),h',exy⟩)
      rw[hne]
      exact bJ hn.2 h'
theorem cL{x:Str}{c:Addr}:∀ (names:List (Str×NameKind)) (n:Nat) (acc:List (Str×Addr)),(cellsFrom n names acc).lookup x=some c ->
    ((x,NameKind.cell)∈names/\n<=c)\/((x,NameKind.cell)∉names/\acc.lookup x=some c)
  | [],_,_,h=>.inr ⟨by simp,h⟩
  | (y, k) :: r, n, acc, h => by
    unfold cellsFrom at h
    cases hk:k==NameKind.cell with
    | true =>
      have ek:k=.cell:=by simpa using hk
      subst ek
      rw[if_pos (show(NameKind.cell==NameKind.cell)=true from rfl)] at h
      rcases cL r _ _ h with⟨h1,h2⟩ | ⟨h1,h2⟩
      · exact .inl ⟨List.mem_cons_of_mem _ h1,by omega⟩
      · rw[List.lookup_cons] at h2
        cases hb:x==y with
        | true =>
          rw[hb] at h2
          cases h2
          have:x=y:=by simpa using hb
          subst this
          exact .inl ⟨List.mem_cons_self,Nat.le_refl _⟩
        | false =>
          rw[hb] at h2
          refine .inr ⟨fun hm=>?_,h2⟩
          rcases List.mem_cons.mp hm with e | hm
          · cases e;simp at hb
          · exact h1 hm
    | false =>
      rw[hk] at h
      simp only[Bool.false_eq_true,if_false] at h
      rcases cL r _ _ h with⟨h1,h2⟩ | ⟨h1,h2⟩
      · exact .inl ⟨List.mem_cons_of_mem _ h1,h2⟩
      · refine .inr ⟨fun hm=>?_,h2⟩
        rcases List.mem_cons.mp hm with e | hm
        · cases e;simp at hk
        · exact h1 hm
theorem cY:∀ (names:List (Str×NameKind)) (n:Nat) (acc:List (Str×Addr)),(acc.Pairwise fun x y=>x.2≠y.2)->(∀ p∈acc,p.2<n)->(cellsFrom n names acc).Pairwise fun x y=>x.2≠y.2
  | [],_,_,h,_=>h
  | (y, k) :: r, n, acc, h, hl => by
    unfold cellsFrom
    split
    · refine cY r _ _ (List.pairwise_cons.mpr ⟨fun p hp e=>?_,h⟩) fun p hp=>?_
      · have e':n=p.2:=e
        have q:=hl p hp
        rw[<- e'] at q
        exact Nat.lt_irrefl _ q
      · rcases List.mem_cons.mp hp with e | hp
        · subst e;exact Nat.lt_succ_self _
        · exact Nat.lt_succ_of_lt (hl p hp)
    · exact cY r _ _ h hl
theorem oO{cells:List (Str×Addr)}(inj:∀ x y c,cells.lookup x=some c->cells.lookup y=some c->x=y):∀ (names:List (Str×NameKind)) (acc:List (Str×Addr)),(names.map (·.1)).Nodup->(∀ x,(x,NameKind.free)∈names->∃ c,cells.lookup x=some c) ->
    (acc.Pairwise fun x y=>x.2≠y.2)->(∀ p∈acc,cells.lookup p.1=some p.2/\p.1∉names.map (·.1))->((iu cells names acc).Pairwise fun x y=>x.2≠y.2)/\∀ p∈iu cells names acc,cells.lookup p.1=some p.2
  | [],acc,_,_,h1,h2=>⟨h1,fun p hp=>(h2 p hp).1⟩
  | (y, k) :: r, acc, hn, hf, h1, h2 => by
    rw[List.map_cons,List.nodup_cons] at hn
    have hf':∀ x,(x,NameKind.free)∈r->∃ c,cells.lookup x=some c:=fun x hx=>hf x (List.mem_cons_of_mem _ hx)
    unfold iu
    split
    · rename_i hk
      have ek:k=.free:=by simpa using hk
      subst ek
      obtain⟨c,hc⟩:=hf y List.mem_cons_self
      rw[hc]
      refine oO inj r _ hn.2 hf' (List.pairwise_cons.mpr ⟨fun p hp e=>?_,h1⟩) fun p hp=>?_
      · have e':c=p.2:=e
        obtain⟨a1,a2⟩:=h2 p hp
        rw[<- e'] at a1
        have:=inj _ _ _ a1 hc
        exact a2 (by rw[this];simp)
      · rcases List.mem_cons.mp hp with e | hp
        · subst e;exact⟨hc,hn.1⟩
        · exact⟨(h2 p hp).1,fun z=>(h2 p hp).2 (List.mem_cons_of_mem _ z)⟩
    · exact oO inj r _ hn.2 hf' h1 fun p hp=>⟨(h2 p hp).1,fun z=>(h2 p hp).2 (List.mem_cons_of_mem _ z)⟩
theorem lG{cells:List (Str×Addr)}{p:Str×Addr}:∀ (names:List (Str×NameKind)) (acc:List (Str×Addr)),p∈acc->p∈iu cells names acc
  | [],_,h=>h
  | (y, k) :: r, acc, h => by
    unfold iu
    split
    · exact lG r _ (List.mem_cons_of_mem _ h)
    · exact lG r _ h
theorem lF{cells:List (Str×Addr)}{x:Str}:∀ (names:List (Str×NameKind)) (acc:List (Str×Addr)),(x,NameKind.free)∈names->∃ c,(x,c)∈iu cells names acc
  | (y, k) :: r, acc, h => by
    unfold iu
    rcases List.mem_cons.mp h with e | h
    · cases e
      rw[if_pos (show(NameKind.free==NameKind.free)=true from rfl)]
      exact⟨_,lG r _ List.mem_cons_self⟩
    · split
      · exact lF r _ h
      · exact lF r _ h
theorem dB{env:Env}{x:Str}:∀ (names:List (Str×NameKind)),
    (names.map fun(n,k)=>if(k==NameKind.free&&env.scope.kind==.function&&env.kindOf n==some .cell) then(n,NameKind.cell) else(n,k)).lookup x =
      (names.lookup x).map fun k=>if(k==NameKind.free&&env.scope.kind==.function&&env.kindOf x==some .cell) then NameKind.cell else k
  | []=>rfl
  | (y, k) :: r => by
    have ih:=dB (x:=x) (env:=env) r
    by_cases hx:x=y
    · subst hx
      cases hc:(k==NameKind.free&&env.scope.kind==.function&&env.kindOf x==some .cell)<;>simp only[List.map_cons,hc,List.lookup_cons,beq_self_eq_true,Option.map_some,if_true,if_false,Bool.false_eq_true]
    · have hb:(x==y)=false:=by simpa using hx
      cases hc:(k==NameKind.free&&env.scope.kind==.function&&env.kindOf y==some .cell)<;>simp only[List.map_cons,hc,List.lookup_cons,hb,if_true,if_false,Bool.false_eq_true]<;>exact ih
def pD(N:List Str)(σ:St)(x:Str):Option V:=match N.idxOf? x with
 | some j=>(σ[j]?).getD none
 | none=>none
def n8(N:List Str)(names:List (Str×NameKind))(σ:St):St:=names.map fun p=>if p.2==.free then pD N σ p.1 else none
def qx(scope:Scope)(cells:List (Str×Addr))(C:Addr)(env:Env):Env :=
 { scope:=relabel scope env,locals:=C,globals:=env.globals,cells:=cells,qual:=env.qual,func:=none,code:=env.code,frame:=env.frame,builtins:=env.builtins }
structure CompOf (X:Cx) (scope:Scope) (Xc:Cx):Prop where
 prog:Xc.prog=X.prog
 w:Xc.w=X.w
 K:Xc.K=X.K
 mg:Xc.mg=X.mg
 base:Xc.base=X.base
 A:Xc.A=X.A
 N:Xc.N=scope.names.map (·.1)
 sc:Xc.env.scope=relabel scope X.env
 calm:Xc.calm=true
 fn:Xc.fn=fun x=>scope.names.lookup x==some .cell
 xe:Xc.xe=fun _ _=>False
def m6(X:Cx)(scope:Scope)(cells:List (Str×Addr))(C:Addr)(s:Shared)(H:Hp)(fp:List Addr):Cx where
 prog:=X.prog
 w:=X.w
 K:=X.K
 mg:=X.mg
 base:=X.base
 A:=X.A
 N:=scope.names.map (·.1)
 s₀:=s
 H₀:=H
 env:=qx scope cells C X.env
 outer:=X.stack
 stack:=X.stack
 ex:=fp
 fn:=fun x=>scope.names.lookup x==some .cell
 calm:=true
 pn:=[]
 xe:=fun _ _=>False
def wH(X:Cx)(ifs:List Expr)(t:TT):Prop :=
  ∀ (pins : List (Addr × Obj)) (s : Shared) (σ : St) (H : Hp) (Q : Bool -> Hp -> Prop), Inv X pins σ H s -> t σ H Q ->
    wpAny (model X.prog X.w) X.A (forIn ifs true fun c r=>if r=true then do let ok <- isTrue c X.env (eval c X.env);pure (ForInStep.yield ok) else pure (ForInStep.yield r)) (TP X pins σ Q) X.xe s
theorem xu{X:Cx}:wH X [] (fun _ H Q=>Q true H):=fun _ _ _ H _ I h=>wpAny_tests_nil ⟨H,I,h⟩
theorem xr{X:Cx}{c:Expr}{t:TT}(h:PT X c t):wH X [c] t:=fun pins s σ H Q I hw=>wpAny_tests_one (h pins s σ H Q I hw)
def nT(X:Cx)(scope:Scope)(wi:TI)(mk:St->St)(g:Cx->TG)(tc:Cx->TT)(te:Cx->TE):TE:=fun σ H Q=>wi σ H fun J H1=>∀ acc,H1 acc=none->∀ Xc,CompOf X scope Xc ->
  ∃ W : Nat -> Nat -> St -> Hp -> Prop, (∃ m, W 0 m (mk σ) (upd H1 acc (.lst []))) /\ ∀ i m σc H, W i m σc H ->
    (J.stop i H/\Q (.ref acc) H)\/(J.go i H/\∃ N:St->Hp->Prop,(∀ σ' H',N σ' H'->∃ m',m'<m/\W (i+1) m' σ' H')/\∀ x H',J.yld i H x H' ->
      g Xc x σc H' fun σ2 H2=>tc Xc σ2 H2 fun b H3=>if b=true then te Xc σ2 H3 fun v H4=>∃ ys,H4 acc=some (.lst ys)/\ys.length<sizeLine/\N σ2 (upd H4 acc (.lst (ys++[v]))) else N σ2 H3)
theorem eY{prog:Program}{w:World}{A:Around}{R:Result->Shared->Prop}{s:Shared}{elt target iter:Expr}{ifs:List Expr}{scope:Scope}{pos:Pos}{it acc:Value}{env:Env}(I:Nat->Shared->Prop)
    (turn:∀ n s,I n s->wpAny (model prog w) A (pyNext it) (fun r s₁=>match r with
      | none=>R (.ok .next) s₁
      | some v=>wpAny (model prog w) A (letOwnedTupleGo target it v) (fun _ s₁'=>wpAny (model prog w) A (assign target env v) (fun _ s₂ =>
          wpAny (model prog w) A (forIn ifs true fun c r=>if r=true then do let ok <- isTrue c env (eval c env);pure (ForInStep.yield ok) else pure (ForInStep.yield r)) (fun ok s₃ =>
            if ok=true then wpAny (model prog w) A (eval elt env) (fun x s₄ =>
              wpAny (model prog w) A (call (.builtin "list.append") [acc,x]) (fun _ s₅=>∃ m,m<n/\I m s₅) (fun _ _=>False) s₄) (fun _ _=>False) s₃
            else ∃ m,m<n/\I m s₃) (fun _ _=>False) s₂) (fun _ _=>False) s₁') (fun _ _=>False) s₁) (fun _ _=>False) s)
    (n:Nat) (h:I n s) :
    codeAny (model prog w) A (.compLoop (.ListComp elt [⟨target,iter,ifs,0⟩] scope pos) 0 it acc env) R s:=by
  refine codeAny_loop rfl I (fun n s hI=>?_) n h
  show wpAny _ A ((compTurn (.ListComp elt [⟨target,iter,ifs,0⟩] scope pos) 0 it acc env).onRaise (fun x=>do noteFrame x env;theTreesLotGoes x)) _ _ s
  refine wpAny_noted ?_
  rw[compTurn_list]
  refine wpAny_bind (wpAny_standAt (wpAny_bind (wpAny_mono (turn n s hI) (fun r s₁ h₁=>?_) fun _ _ h'=>h'.elim)))
  cases r with
  | none=>exact wpAny_pure h₁
  | some v =>
    refine wpAny_bind (wpAny_mono h₁ (fun _ s₁' h₁'=>?_) fun _ _ h'=>h'.elim)
    refine wpAny_bind (wpAny_mono h₁' (fun _ s₂ h₂=>wpAny_bind (wpAny_mono h₂ (fun ok s₃ h₃=>?_) fun _ _ h'=>h'.elim)) fun _ _ h'=>h'.elim)
    cases ok with
    | false=>exact wpAny_pure ⟨rfl,h₃⟩
    | true =>
      exact wpAny_bind (wpAny_bind (wpAny_mono h₃ (fun x s₄ h₄=>wpAny_bind (wpAny_mono h₄ (fun _ s₅ h₅=>wpAny_pure (wpAny_pure ⟨rfl,h₅⟩)) fun _ _ h'=>h'.elim)) fun _ _ h'=>h'.elim))
section
variable {X:Cx}
theorem g8{pins:List (Addr×Obj)}{σ:St}{H:Hp}{s:Shared}{scope:Scope}(I:Inv X pins σ H s)(hnd:(scope.names.map (·.1)).Nodup)
  (hcap:∀ x,(x,NameKind.free)∈scope.names->X.env.kindOf x=some .cell\/X.env.kindOf x=some .free) :
  (∀ x,(x,NameKind.free)∈scope.names->∃ c,X.env.cells.lookup x=some c) /\
  ((cellsFrom (s.heap.objs.size+1) scope.names (iu X.env.cells scope.names [])).Pairwise fun x y=>x.2≠y.2) /\
  (∀ x c,(cellsFrom (s.heap.objs.size+1) scope.names (iu X.env.cells scope.names [])).lookup x=some c->((x,NameKind.cell)∈scope.names/\s.heap.objs.size+1<=c)\/((x,NameKind.cell)∉scope.names/\X.env.cells.lookup x=some c/\c<s.heap.objs.size)) /\
  (∀ x,(x,NameKind.free)∈scope.names->(cellsFrom (s.heap.objs.size+1) scope.names (iu X.env.cells scope.names [])).lookup x=X.env.cells.lookup x):=by
 have hf:∀ x,(x,NameKind.free)∈scope.names->∃ c,X.env.cells.lookup x=some c:=fun x hx=>I.ok.has x (hcap x hx)
 have ok:=oO I.ok.inj scope.names [] hnd hf List.Pairwise.nil (fun p hp=>absurd hp (by simp))
 have small:∀ x c,X.env.cells.lookup x=some c->c<s.heap.objs.size:=fun x c e=>by
  obtain⟨v,z⟩:=I.cell x c e
  exact z.lt
 refine⟨hf,cY _ _ _ ok.1 fun p hp=>Nat.lt_succ_of_lt (small p.1 p.2 (ok.2 p hp)),fun x c e=>?_,fun x hx=>?_⟩
 ·rcases cL _ _ _ e with h | ⟨h1,h2⟩
  ·exact .inl h
  ·have h3:=ok.2 _ (PySem.mem_of_lookup h2)
   exact .inr ⟨h1,h3,small _ _ h3⟩
 ·obtain⟨c,hc⟩:=hf x hx
  have nc:(x,NameKind.cell)∉scope.names:=fun z=>by
   have e1:=bJ hnd z
   rw[bJ hnd hx] at e1
   cases e1
  obtain⟨d,hd⟩:=lF (cells:=X.env.cells) scope.names [] hx
  obtain⟨d',hd'⟩:=gj hd
  have hs:((cellsFrom (s.heap.objs.size+1) scope.names (iu X.env.cells scope.names [])).lookup x).isSome=true:=PySem.W.cellsFrom_some _ _ _ (.inr (by rw[hd'];rfl))
  obtain⟨c',hc'⟩:=Option.isSome_iff_exists.mp hs
  rcases cL _ _ _ hc' with⟨h,_⟩ | ⟨_,h2⟩
  ·exact absurd h nc
  ·rw[hc',ok.2 _ (PySem.mem_of_lookup h2)]
theorem BZ:∀ (names:List (Str×NameKind)) (h:Heap) (acc:List (Str×Addr)) {x:Str} {c:Addr},(cellsFrom h.objs.size names acc).lookup x=some c->(x,NameKind.cell)∈names->(pushCells h names).IsCell c none:=by
  intro names
  induction names with
  | nil=>intro h acc x c e hx;cases hx
  | cons p r ih =>
    obtain⟨y,k⟩:=p
    intro h acc x c e hx
    unfold cellsFrom at e
    unfold pushCells
    by_cases hin:(x,NameKind.cell)∈r
    · split at e
      · rename_i hk
        rw[if_pos hk]
        refine ih (h.push { cls:=.type "cell",data:=.cell none }) ((y,h.objs.size)::acc) ?_ hin
        rw[Heap.size_push];exact e
      · rename_i hk
        rw[if_neg hk]
        exact ih h acc e hin
    · rcases List.mem_cons.mp hx with ex | hx
      · cases ex
        rw[if_pos (show(NameKind.cell==NameKind.cell)=true from rfl)] at e ⊢
        rcases cL _ _ _ e with⟨h1,_⟩ | ⟨_,h2⟩
        · exact absurd h1 hin
        · rw[List.lookup_cons] at h2
          simp at h2
          subst h2
          exact⟨_,pushCells_keeps _ _ _ _ (Heap.get?_push_size _ rfl),rfl⟩
      · exact absurd hx hin
theorem yO{pins:List (Addr×Obj)}{σ:St}{H:Hp}{s:Shared}{scope:Scope}{fp:List Addr}(I:Inv X pins σ H s)(hc:X.calm=true)(hk:scope.kind=.function)(hnd:(scope.names.map (·.1)).Nodup)
    (hcap:∀ x,(x,NameKind.free)∈scope.names->X.env.kindOf x=some .cell\/X.env.kindOf x=some .free) (hfp:∀ b∈fp,nJ X pins H b) (hlt:∀ b∈fp,b<s.heap.objs.size) :
    Inv (m6 X scope (cellsFrom (s.heap.objs.size+1) scope.names (iu X.env.cells scope.names [])) s.heap.objs.size s H fp) [] (n8 X.N scope.names σ) H { s with heap:=pushCells (s.heap.push { cls:=.type "dict",data:=.dict #[] }) scope.names }:=by
  obtain⟨hf,apart,look,same⟩:=g8 I hnd hcap
  have keep:∀ b o,s.heap.get? b=some o->(pushCells (s.heap.push { cls:=.type "dict",data:=.dict #[] }) scope.names).get? b=some o:=fun b o e=>pushCells_keeps _ _ b o (Heap.get?_push_of_some _ e)
  have ckd:=cellsFrom_ok scope.names (s.heap.push { cls:=.type "dict",data:=.dict #[] }) (s.heap.objs.size+1) [] ⟨fun _ _ hm=>(nomatch hm),List.Pairwise.nil⟩ (by rw[Heap.size_push];exact Nat.le_refl _)
  rw[Heap.size_push] at ckd
  have own:∀ x c,(cellsFrom (s.heap.objs.size+1) scope.names (iu X.env.cells scope.names [])).lookup x=some c->(x,NameKind.cell)∈scope.names->(pushCells (s.heap.push { cls:=.type "dict",data:=.dict #[] }) scope.names).IsCell c none:=fun x c e hx=>BZ scope.names (s.heap.push { cls:=.type "dict",data:=.dict #[] }) _ (by rw[Heap.size_push];exact e) hx
  have kinds:∀ x,(m6 X scope (cellsFrom (s.heap.objs.size+1) scope.names (iu X.env.cells scope.names [])) s.heap.objs.size s H fp).env.kindOf x=(scope.names.lookup x).map fun k=>if(k==NameKind.free&&X.env.scope.kind==.function&&X.env.kindOf x==some .cell) then NameKind.cell else k:=fun x=>dB scope.names
  have fresh:∀ {b:Addr},s.heap.objs.size<=b->H b=none:=fun hb=>I.hok.fresh hb
  refine⟨⟨I.ok.mod,hk,I.ok.glob,I.ok.blt,Nat.le_refl _,fun x y c e1 e2=>name_of_addr apart (PySem.mem_of_lookup e1) (PySem.mem_of_lookup e2),fun x hx=>?_,fun x c hx e=>?_,fun _=>I.ok.hd hc,I.ok.frames,.inl rfl,fun b hb=>⟨Nat.ne_of_lt (hlt b hb),fun x c e=>?_⟩,I.bs,Nat.le_trans I.ok.bsz I.sz,fun b o e hb=>?_,fun b hb z=>?_,I.stack,I.stkFree⟩,
    rfl,I.bare,Un.kept keep,⟨fun _=>none,?_,fun i x v e1 e2 e3=>?_⟩,fun x c e=>?_,fresh (Nat.le_refl _),fun x c e=>?_,fun p hp=>absurd (show p∈([]:List (Addr×Obj)) from hp) (by simp),I.hok.kept keep,?_⟩
  ·
    rw[kinds x] at hx
    cases hl:scope.names.lookup x with
    | none=>rw[hl] at hx;rcases hx with h | h<;>cases h
    | some k =>
      rw[hl] at hx
      have hm:=PySem.mem_of_lookup hl
      cases k with
      | cell=>exact Option.isSome_iff_exists.mp (PySem.W.cellsFrom_some _ _ _ (.inl hl))
      | free =>
        obtain⟨c,h⟩:=hf x hm
        exact⟨c,(same x hm).trans h⟩
      | _=>simp at hx
  · have hm:(x,NameKind.cell)∈scope.names:=PySem.mem_of_lookup (by simpa[m6] using hx)
    rcases look x c e with⟨_,h⟩ | ⟨h,_⟩
    · exact Nat.le_of_succ_le h
    · exact absurd hm h
  · rcases look x c e with⟨_,h⟩ | ⟨_,h,_⟩
    · exact Nat.ne_of_gt (Nat.lt_of_lt_of_le (hlt b hb) (Nat.le_of_succ_le h))
    · exact(hfp b hb).2.2.2.2.1 x c h
  · rcases(hfp b hb).2.2.2.1 with z | z
    · exact I.ok.noex b o e z
    · exact absurd (Nat.lt_of_lt_of_le (Heap.lt_size e) (Nat.le_trans I.ok.bsz z)) (Nat.lt_irrefl _)
  · rcases List.mem_cons.mp (I.stkSub b z) with h | h
    · exact(hfp b hb).2.1 h
    · exact(hfp b hb).2.2.1 h
  · exact(Heap.Ns.new s.heap (.type "dict")).keeps (pushCells_keeps _ _)
  ·
    have e1':(scope.names.map (·.1))[i]?=some x:=e1
    rw[List.getElem?_map] at e1'
    unfold n8 at e2
    rw[List.getElem?_map] at e2
    cases hp:scope.names[i]? with
    | none=>rw[hp] at e2;cases e2
    | some p =>
      rw[hp] at e1' e2
      have ex:p.1=x:=Option.some.inj e1'
      have e2':(if p.2==.free then pD X.N σ p.1 else none)=some v:=Option.some.inj e2
      cases hk2:p.2==NameKind.free with
      | false=>rw[hk2] at e2';simp at e2'
      | true =>
        rw[hk2] at e2'
        simp only[if_true] at e2'
        have ek:p.2=.free:=by simpa using hk2
        have hm:(x,NameKind.free)∈scope.names:=by
          have:=List.mem_of_getElem? hp
          rw[<- ex,<- ek];exact this
        unfold pD at e2'
        rw[ex] at e2'
        cases hj:X.N.idxOf? x with
        | none=>rw[hj] at e2';cases e2'
        | some j =>
          rw[hj] at e2'
          have e3:(σ[j]?).getD none=some v:=e2'
          have hσ:σ[j]?=some (some v):=by
            cases q:σ[j]? with
            | none=>rw[q] at e3;simp at e3
            | some o=>rw[q] at e3;simp at e3;rw[e3]
          have hN:X.N[j]?=some x:=by
            rw[List.idxOf?,List.findIdx?_eq_some_iff_getElem] at hj
            obtain⟨h1,h2,_⟩:=hj
            rw[List.getElem?_eq_getElem h1]
            simpa using h2
          obtain⟨m,hn,hl⟩:=I.loc
          have kx:=hcap x hm
          obtain⟨u,r,l⟩:=hl j x v hN hσ (by rcases kx with k | k;exact .inr (.inl k);exact .inr (.inr k))
          refine⟨u,r,.inr ⟨?_,?_⟩⟩
          · rw[kinds x,bJ hnd hm]
            simp only[Option.map_some]
            split
            · exact .inl rfl
            · exact .inr rfl
          · rcases l with⟨k,_⟩ | ⟨_,c,hc',z⟩
            · rcases kx with k' | k'<;>(rw[k'] at k;cases k)
            · exact⟨c,(same x hm).trans hc',z.keeps keep⟩
  · rcases look x c e with⟨h,_⟩ | ⟨_,h,_⟩
    · exact⟨_,own x c e h⟩
    · obtain⟨v,z⟩:=I.cell x c h
      exact⟨v,z.keeps keep⟩
  · rcases look x c e with⟨_,h⟩ | ⟨_,h,_⟩
    · exact fresh (Nat.le_of_succ_le h)
    · exact I.freeC x c h
  · show(n8 X.N scope.names σ).length=(scope.names.map (·.1)).length
    unfold n8
    rw[List.length_map,List.length_map]
structure Blk (X:Cx) (pins:List (Addr×Obj)) (H:Hp) (s:Shared) (C:Addr):Prop where
 ns:∃ m,s.heap.Ns C m
 free:H C=none
 loc:C≠X.env.locals
 abv:X.s₀.heap.objs.size<=C
 cel:∀ x c,X.env.cells.lookup x=some c->c≠C
 pin:∀ p∈X.pn++pins,p.1≠C
theorem m7{elt tg iter:Expr}{ifs:List Expr}{scope:Scope}{pos:Pos}{wi:TI}{g:Cx->TG}{tc:Cx->TT}{te:Cx->TE}(hc:X.calm=true)(hk:scope.kind=.function)(hnd:(scope.names.map (·.1)).Nodup)
    (hcap:∀ x,(x,NameKind.free)∈scope.names->X.env.kindOf x=some .cell\/X.env.kindOf x=some .free) (hi:PI X tg iter wi)
    (hin:∀ Xc:Cx,CompOf X scope Xc->PG Xc tg (g Xc)/\wH Xc ifs (tc Xc)/\PE Xc elt (te Xc)) {pins:List (Addr×Obj)} {s:Shared} {σ:St} {H:Hp} {Q:VK} (I:Inv X pins σ H s) (h:nT X scope wi (n8 X.N scope.names) g tc te σ H Q) {R:Value->Addr->Result->Shared->Prop}
    (fin:∀ acc C H' s',Inv X pins σ H' s'->Blk X pins H' s' C->Q (.ref acc) H'->R (.ref acc) C (.ok .next) s') :
    wpAny (model X.prog X.w) X.A (eval iter X.env) (fun x s₁=>wpAny (model X.prog X.w) X.A (pyIter x) (fun it s₂=>wpAny (model X.prog X.w) X.A (newList []) (fun acc s₃ =>
      wpAny (model X.prog X.w) X.A (newFunctionEnv scope X.env.globals (iu X.env.cells scope.names []) [] X.env.qual none .none (some X.env)) (fun cenv s₄ =>
        codeAny (model X.prog X.w) X.A (.compStart (.ListComp elt [⟨tg,iter,ifs,0⟩] scope pos) 0 it acc { cenv with scope:=relabel scope X.env }) (R acc cenv.locals) s₄) X.xe s₃) X.xe s₂) X.xe s₁) X.xe s:=by
  refine thn (hi pins s σ H _ I h) fun v s1 h1=>thn h1 fun itv s2 h2=>?_
  obtain⟨it,fp,tn,J,H2,rfl,I2,T,st2,f2,q2⟩:=h2
  refine wpAny_newObj_type ?_
  have hf:H2 s2.heap.objs.size=none:=I2.hok.fresh (Nat.le_refl _)
  have I3:=I2.lnew (ys:=[]) (its:=[]) (t':=s2.toks) .nil (Nat.zero_le _)
  generalize hs3:({ s2 with heap:=s2.heap.push { cls:=.type "list",data:=.seq ([]:List Value).toArray },toks:=s2.toks }:Shared)=s3 at I3
  have lt2:∀ b∈fp,b<s2.heap.objs.size:=fun b hb=>by
    obtain⟨o,e,_⟩:=T.obj _ _ st2 b hb
    exact Heap.lt_size e
  have f3:∀ b∈fp,nJ X pins (upd H2 s2.heap.objs.size (.lst [])) b:=fun b hb=>⟨by rw[aM (Nat.ne_of_lt (lt2 b hb))];exact(f2 b hb).1,(f2 b hb).2⟩
  have sz3:s3.heap.objs.size=s2.heap.objs.size+1:=by rw[<- hs3];exact Heap.size_push ..
  have lt3:∀ b∈fp,b<s3.heap.objs.size:=fun b hb=>by rw[sz3];exact Nat.lt_succ_of_lt (lt2 b hb)
  have st3:tn 0 s3.heap:=T.keep _ _ _ st2 fun b hb o e=>by rw[<- hs3];exact Heap.get?_push_of_some _ e
  have J0:=yO I3 hc hk hnd hcap f3 lt3
  have cO:CompOf X scope (m6 X scope (cellsFrom (s3.heap.objs.size+1) scope.names (iu X.env.cells scope.names [])) s3.heap.objs.size s3 (upd H2 s2.heap.objs.size (.lst [])) fp):=⟨rfl,rfl,rfl,rfl,rfl,rfl,rfl,rfl,rfl,rfl,rfl⟩
  obtain⟨hg,hif,he⟩:=hin _ cO
  obtain⟨W,⟨m0,w0⟩,turn⟩:=q2 s2.heap.objs.size hf _ cO
  refine n6 ?_
  have st4:tn 0 (pushCells (s3.heap.push { cls:=.type "dict",data:=.dict #[] }) scope.names):=T.keep _ _ _ st3 fun b _ o e=>pushCells_keeps _ _ b o (Heap.get?_push_of_some _ e)
  generalize hXc:m6 X scope (cellsFrom (s3.heap.objs.size+1) scope.names (iu X.env.cells scope.names [])) s3.heap.objs.size s3 (upd H2 s2.heap.objs.size (.lst [])) fp=Xc at J0 hg hif he turn
  have hprog:Xc.prog=X.prog:=by rw[<- hXc];rfl
  have hw:Xc.w=X.w:=by rw[<- hXc];rfl
  have hK:Xc.K=X.K:=by rw[<- hXc];rfl
  have hA:Xc.A=X.A:=by rw[<- hXc];rfl
  have hcm:Xc.calm=true:=by rw[<- hXc];rfl
  have hxe:Xc.xe=fun _ _=>False:=by rw[<- hXc];rfl
  have hen:Xc.env=qx scope (cellsFrom (s3.heap.objs.size+1) scope.names (iu X.env.cells scope.names [])) s3.heap.objs.size X.env:=by rw[<- hXc];rfl
  have hex:Xc.ex=fp:=by rw[<- hXc];rfl
  have hfs:Xc.fs=frs X.stack:=by rw[<- hXc];rfl
  have hs0:Xc.s₀=s3:=by rw[<- hXc];rfl
  have hH0:Xc.H₀=upd H2 s2.heap.objs.size (.lst []):=by rw[<- hXc];rfl
  have hpn:Xc.pn=[]:=by rw[<- hXc];rfl
  have stat:∀ {H':Hp},(∀ b∈fp,H' b=none)->∀ b∈fp,nJ Xc [] H' b:=fun {H'} hn b hb=>by
    refine⟨hn b hb,(J0.ok.exf b (by rw[hex];exact hb)).1,fun z=>J0.ok.exfs b (by rw[hex];exact hb) z,.inl (by rw[hex];exact hb),(J0.ok.exf b (by rw[hex];exact hb)).2,fun p hp=>?_⟩
    rw[hpn] at hp
    exact absurd hp (by simp)
  have loop:codeAny (model X.prog X.w) X.A (.compLoop (.ListComp elt [⟨tg,iter,ifs,0⟩] scope pos) 0 (.ref it) (.ref s2.heap.objs.size) Xc.env)
      (R (.ref s2.heap.objs.size) s3.heap.objs.size) { s3 with heap:=pushCells (s3.heap.push { cls:=.type "dict",data:=.dict #[] }) scope.names }:=by
    refine eY (fun n s'=>∃ i σ' H',Inv Xc [] σ' H' s'/\tn i s'.heap/\(∀ b∈fp,H' b=none)/\W i n σ' H') ?_ m0 ⟨0,_,_,J0,st4,fun b hb=>(f3 b hb).1,w0⟩
    rintro n s5 ⟨i,σ5,H5,I5,st5,fr5,w5⟩
    rcases turn i n σ5 H5 w5 with⟨stop,qn⟩ | ⟨go,N,hN,step⟩
    · have q:=T.done Xc hprog hw hK hcm i [] s5 σ5 H5 (fun _ _=>False) I5 (stat fr5) st5 stop
      rw[hA] at q
      refine thn q fun r s6 ⟨hr,I6⟩=>?_
      subst hr
      have hL:Xc.env.locals=s3.heap.objs.size:=by rw[hen];rfl
      have ub:=I6.base
      rw[hfs,hex,hH0,hs0] at ub
      have IX:Inv X pins σ H5 s6:=by
        refine I3.call' (ch:=fp) ?_ ub ?_ I6.bare fun b hb=>⟨(f3 b hb).2.2.2.1,(f3 b hb).2.1,(f3 b hb).2.2.2.2.1,(f3 b hb).2.2.2.2.2⟩
        · have:=I6.os
          rw[hs0] at this
          exact this
        · have hok:=I6.hok
          rw[hprog,hw] at hok
          exact hok
      refine fin _ _ _ _ IX ⟨?_,?_,Nat.ne_of_gt I3.lt,I3.sz,fun x c e=>?_,fun p hp=>?_⟩ qn
      · obtain⟨m,hn,_⟩:=I6.loc
        rw[hL] at hn
        exact⟨m,hn⟩
      · have:=I6.free
        rw[hL] at this
        exact this
      · obtain⟨v,z⟩:=I3.cell x c e
        exact Nat.ne_of_lt z.lt
      · exact Nat.ne_of_lt (Heap.lt_size (I3.pin p hp).1)
    · have q:=T.item Xc hprog hw hK hcm i [] s5 σ5 H5 (fun _ _=>False) I5 (stat fr5) st5 go
      rw[hA] at q
      refine thn q fun r s6 ⟨u,hr,h6⟩=>?_
      subst hr
      refine thn h6 fun _ s7 ⟨x,H7,I7,r7,y7,st7,fr7⟩=>?_
      have I7':=I7.pinned (stat fr7) (T.obj _ _ st7)
      have q8:=hg _ s7 σ5 H7 x u _ I7' r7 (step x H7 y7)
      rw[hprog,hw,hA,hxe] at q8
      refine thn q8 fun _ s8 ⟨σ8,H8,I8,z8⟩=>?_
      have q9:=hif _ s8 σ8 H8 _ I8 z8
      rw[hprog,hw,hA,hxe] at q9
      refine thn q9 fun ok s9 ⟨H9,I9,z9⟩=>?_
      have again:∀ {s':Shared} {σ':St} {H':Hp},Inv Xc ([]++mG fp s7.heap) σ' H' s'->N σ' H'->∃ m,m<n/\∃ i σ' H',Inv Xc [] σ' H' s'/\tn i s'.heap/\(∀ b∈fp,H' b=none)/\W i m σ' H':=fun {s' σ' H'} I' n'=>by
        obtain⟨m',hm,w'⟩:=hN σ' H' n'
        refine⟨m',hm,i+1,σ',H',I'.unpinned,T.keep _ _ _ st7 fun b hb o e=>(I'.pin (b,o) (List.mem_append_right _ (List.mem_append_right _ (eH hb e)))).1,fun b hb=>?_,w'⟩
        obtain⟨o,e,d⟩:=T.obj _ _ st7 b hb
        exact(I'.pin (b,o) (List.mem_append_right _ (List.mem_append_right _ (eH hb e)))).2.1
      cases ok with
      | false =>
        rw[if_neg Bool.false_ne_true] at z9 ⊢
        exact again I9 z9
      | true =>
        rw[if_pos rfl] at z9 ⊢
        have q10:=he _ s9 σ8 H9 _ I9 z9
        rw[hprog,hw,hA,hxe] at q10
        refine thn q10 fun uv s10 ⟨v,H10,I10,r10,ys,hy,hz,z10⟩=>?_
        have q11:=jg (X:=Xc) _ s10 σ8 H10 (.ref s2.heap.objs.size) [v] (.ref s2.heap.objs.size) [uv] (fun _ H'=>N σ8 H') I10 rfl (.cons r10 .nil) ⟨_,ys,v,rfl,rfl,hy,hz,z10⟩
        rw[hprog,hw,hA,hxe] at q11
        exact thn q11 fun _ s11 ⟨_,H11,I11,_,z11⟩=>again I11 z11
  have eenv:({ (newEnv scope s3.heap.objs.size X.env.globals (cellsFrom (s3.heap.objs.size+1) scope.names (iu X.env.cells scope.names [])) X.env.qual none .none (some X.env) builtinsNs) with scope:=relabel scope X.env }:Env)=Xc.env:=by rw[hen];rfl
  rw[eenv]
  exact codeAny_compStart_list loop (T.self X.A 0 _ _ _ st4 loop)
theorem Blk.gone{pins:List (Addr×Obj)}{σ:St}{H:Hp}{s:Shared}{C:Addr}{h':Heap}(b:Blk X pins H s C)(I:Inv X pins σ H s)(hs:Heap.SameBut C s.heap h'):Inv X pins σ H { s with heap:=h' } :=
 I.turned (t':=s.toks) (fun c o hc e=>(hs.2 c hc).trans e) b.free b.loc (.inr b.abv) b.cel b.pin
theorem j6{elt tg iter:Expr}{ifs:List Expr}{scope:Scope}{pos:Pos}{wi:TI}{g:Cx->TG}{tc:Cx->TT}{te:Cx->TE}(hc:X.calm=true)(hk:scope.kind=.function)(hnd:(scope.names.map (·.1)).Nodup)
  (hcap:∀ x,(x,NameKind.free)∈scope.names->X.env.kindOf x=some .cell\/X.env.kindOf x=some .free) (hi:PI X tg iter wi)
  (hin:∀ Xc:Cx,CompOf X scope Xc->PG Xc tg (g Xc)/\wH Xc ifs (tc Xc)/\PE Xc elt (te Xc)) (hs:∀ x,foldedSetIterable iter X.env x=pure x) :
  PE X (.ListComp elt [⟨tg,iter,ifs,0⟩] scope pos) (nT X scope wi (n8 X.N scope.names) g tc te):=by
 intro pins s σ H Q I h
 rw[eval_ListComp]
 refine wpAny_comprehension_free (use:=none) (cl:=iu X.env.cells scope.names []) rfl hs (d9 (g8 I hnd hcap).1) hk (fun x hx hl=>bJ hnd (by rw[<- hl];exact hx)) ?_
 refine m7 hc hk hnd hcap hi hin I h fun acc C H' s' I' b q=>?_
 obtain⟨m,hn⟩:=b.ns
 exact⟨m,hn,fun h' hsb=>⟨.ref acc,H',b.gone I' hsb,rfl,q⟩⟩
theorem tZ{i:Nat}{x:Str}{elt tg iter:Expr}{ifs:List Expr}{scope:Scope}{pos pos' spos:Pos}{wi:TI}{g:Cx->TG}{tc:Cx->TT}{te:Cx->TE}(hN:X.N.Nodup)(hix:X.N[i]?=some x)(hx:X.env.scope.names.lookup x=some .local)
    (hc:X.calm=true) (hk:scope.kind=.function) (hnd:(scope.names.map (·.1)).Nodup)
    (hcap:∀ x,(x,NameKind.free)∈scope.names->X.env.kindOf x=some .cell\/X.env.kindOf x=some .free) (hi:PI X tg iter wi)
    (hin:∀ Xc:Cx,CompOf X scope Xc->PG Xc tg (g Xc)/\wH Xc ifs (tc Xc)/\PE Xc elt (te Xc)) (hs:∀ x,foldedSetIterable iter X.env x=pure x)
    (hsw:swapsWith (.ListComp elt [⟨tg,iter,ifs,0⟩] scope pos) (some (.Name x pos')) spos.line X.env=pure true) :
    PS X (.Assign [.Name x pos'] (.ListComp elt [⟨tg,iter,ifs,0⟩] scope pos) spos) (J5 (nT X scope wi (n8 X.N scope.names) g tc te) (Dk i)):=by
  intro pins s σ H D I h
  rw[exec_Assign_Name_used _ _ _ _ hsw]
  refine wpAny_bind (wpAny_standAt (wpAny_bind ?_))
  show wpAny _ X.A (do let _ <- comprehension (.ListComp elt [⟨tg,iter,ifs,0⟩] scope pos) scope X.env _ (newList []) false (eval iter X.env) (some (assign (.Name x pos') X.env))) _ _ s
  refine wpAny_bind (thn (wpAny_comprehension_free (use:=some (assign (.Name x pos') X.env)) (Q:=fun _ s'=>SP X pins D .next s') (cl:=iu X.env.cells scope.names []) rfl hs (d9 (g8 I hnd hcap).1) hk (fun x hx hl=>bJ hnd (by rw[<- hl];exact hx))
    (m7 hc hk hnd hcap hi hin I h fun acc C H' s' I' b q=>?_)) fun _ s' hq=>wpAny_pure (wpAny_pure hq))
  show wpAny _ X.A (assign (.Name x pos') X.env (.ref acc)) _ _ s'
  refine wpAny_assign_Name (lX I' hN hix (.inl hx) (v:=.ref acc) rfl (fun s'' I'' ⟨a,hsb,ha⟩=>?_) (.inr hx))
  obtain⟨m,hn⟩:=b.ns
  have hCa:C≠a:=by
    rcases ha with ha | ha
    · rw[ha];exact b.loc
    · exact(b.cel x a ha).symm
  have b2:Blk X pins H' s'' C:=⟨⟨m,hn.sameBut hsb hCa⟩,b.free,b.loc,b.abv,b.cel,b.pin⟩
  exact⟨m,hn.sameBut hsb hCa,fun h' hsb'=>⟨_,H',b2.gone I'' hsb',q⟩⟩
end
end L2
namespace L2
open PySem PySem.Spec PyProof.Rows
section
variable {prog:Program} {w:World} {A:Around} {E:Value->Shared->Prop} {s:Shared}
theorem vJ{it t:Addr}{i:Nat}{its:Array Value}{Q:Value->Shared->Prop}(hh:A.handled=none)(hit:s.heap.IsTupleIter it t i)(ht:s.heap.IsTuple t its)
    (hs:∀ x h',its[i]?=some x->h'.IsTupleIter it t (i+1)->Heap.SameBut it s.heap h'->Q x { s with heap:=h' })
    (he:∀ h' e,its[i]?=none->Heap.ExtBut it s.heap h'->(∃ o,h'.get? e=some o/\o.cls=.type "StopIteration")->E (.ref e) { s with heap:=h' }) :
    wpAny (model prog w) A (Builtin.SmallTypes.nextOf (.ref it)) Q E s:=by
  obtain⟨oi,hoi,hci,hdi⟩:=id hit
  obtain⟨ot,hot,_,nt,hdt⟩:=ht
  unfold Builtin.SmallTypes.nextOf
  refine wpAny_bind (wpAny_callSpecial?_slot (name:=Str.ofString "__next__") hit.typeIs F.slot_tuple_iterator_next (wpAny_call_entry F.slot_tuple_iterator_next hit.typeIs F.entry_tuple_iterator_next ?_ (F.args_tuple_iterator_next_1 _)))
  show wpAny _ _ (field (.ref it) 0 >>=_) _ _ s;refine wpAny_bind (wpAny_field hoi hdi (x:=.ref t) rfl ?_)
  have nn:¬ ((Value.ref t==Value.none)=true):=Bool.false_ne_true
  show wpAny _ _ (if(Value.ref t==Value.none)=true then _ else _) _ _ s;rw[if_neg nn]
  show wpAny _ _ (field (.ref it) 1 >>=_) _ _ s;refine wpAny_bind (wpAny_field hoi hdi (x:=.int i 0) rfl ?_)
  show wpAny _ _ (seqItems? (.ref t) >>=_) _ _ s;refine wpAny_bind (wpAny_seqItems hot hdt ?_)
  cases hx:its[i]? with
  | some x =>
    simp only[Int.toNat_natCast,hx]
    have fin:(s.heap.update it fun o=>o.mapFields (·.setIfInBounds 1 (rawInt ((i:Int)+1)))).IsTupleIter it t (i+1):=⟨_,Heap.get?_update_self _ hoi (Obj.isFreed_of_fields (Obj.data_mapFields hdi _)),(Obj.cls_mapFields ..).trans hci,by rw[Obj.data_mapFields hdi];simp[rawInt]⟩
    exact wpAny_bind (wpAny_setField hoi hdi (by simp) (wpAny_pure ⟨x,rfl,wpAny_pure (hs x _ hx fin (Heap.SameBut.update ..))⟩))
  | none =>
    simp only[Int.toNat_natCast,hx]
    refine wpAny_bind (wpAny_rule (wpAny_bind (wpAny_setField hoi hdi (by simp) (wpAny_bind (m:=newExc (.type "StopIteration") []) ?_))))
    simp only[newExc,newTuple]
    refine wpAny_bind (wpAny_newObj_type (wpAny_bind (m:=firstArgMember _ _) (wpAny_of_eq (a:=Value.none) (by first | rfl | (simp only[firstArgMember];rfl)) (wpAny_newObj_type ?_ (by size_fits)))) (by size_fits))
    simp only[raiseNew]
    refine wpAny_bind (wpAny_handled ?_)
    first | rw[show A.in1.handled=none from hh] | rw[hh]
    exact wpAny_bind (wpAny_pure (wpAny_throw (he _ _ hx (((Heap.SameBut.update ..).extBut.push _).push _) ⟨_,Heap.get?_push_size _ rfl,rfl⟩)))
structure ZT (h:Heap) (z ti to i1 i2 t1 t2:Addr) (k:Nat) (f:Value):Prop where
 hz:IsZip h z ti to f
 hi:IsPair h ti (.ref i1) (.ref i2)
 ho:∃ a b,IsPair h to a b
 h1:h.IsTupleIter i1 t1 k
 h2:h.IsTupleIter i2 t2 k
theorem ZT.keep{h h':Heap}{z ti to i1 i2 t1 t2:Addr}{k:Nat}{f:Value}(x:ZT h z ti to i1 i2 t1 t2 k f)(kp:∀ b∈[z,ti,to,i1,i2],∀ o,h.get? b=some o->h'.get? b=some o):ZT h' z ti to i1 i2 t1 t2 k f :=
 ⟨kp z (by simp) _ x.hz,kp ti (by simp) _ x.hi,let ⟨a,b,e⟩:=x.ho;⟨a,b,kp to (by simp) _ e⟩,x.h1.at fun o e=>kp i1 (by simp) o e,x.h2.at fun o e=>kp i2 (by simp) o e⟩
theorem sy{z ti to i1 i2 t1 t2:Addr}{k:Nat}{xs ys:Array Value}{Q:Fin->Shared->Prop}(hh:A.handled=none)(D:ZipApart z ti to i1 i2 t1 t2)(hZ:ZT s.heap z ti to i1 i2 t1 t2 k .none)
    (ht1:s.heap.IsTuple t1 xs) (ht2:s.heap.IsTuple t2 ys)
    (hs:∀ x y h',xs[k]?=some x->ys[k]?=some y->ZT h' z ti to i1 i2 t1 t2 (k+1) (rawInt s.heap.objs.size)->IsPair h' s.heap.objs.size x y->h'.objs.size=s.heap.objs.size+1 ->
      (∀ c o,c∉[z,to,i1,i2]->s.heap.get? c=some o->h'.get? c=some o)->Q (.done (.ret (.ref s.heap.objs.size))) { s with heap:=h' })
    (he:∀ h' e,(xs[k]?=none\/ys[k]?=none)->(∀ c o,c∉[z,to,i1,i2]->s.heap.get? c=some o->h'.get? c=some o)->(∃ o,h'.get? e=some o/\o.cls=.type "StopIteration")->E (.ref e) { s with heap:=h' }) :
    wpAny (model prog w) A (Builtin.«zip.__next__» ⟨[.ref z],[]⟩) Q E s:=by
  obtain⟨hz,hi,⟨a,b,ho⟩,h1,h2⟩:=hZ
  show wpAny _ _ (field (.ref z) 2 >>=_) _ _ _;refine wpAny_bind (wpAny_field hz rfl (x:=.bool false) rfl ?_)
  show wpAny _ _ (field (.ref z) 3 >>=_) _ _ _;refine wpAny_bind (wpAny_field hz rfl (x:=.ref ti) rfl (wpAny_bind (wpAny_seqItems hi rfl ?_)))
  show wpAny _ _ (Builtin.SmallTypes.ownedTupleIsFree (.ref z) >>=_) _ _ _
  unfold Builtin.SmallTypes.ownedTupleIsFree
  refine wpAny_bind (wpAny_bind (wpAny_field hz rfl (x:=.none) rfl (wpAny_pure ?_)))
  simp only[if_true]
  refine wpAny_bind (wpAny_rule (wpAny_bind (wpAny_field hz rfl (x:=.ref to) rfl (wpAny_bind (wpAny_setField_rec hz (by simp) fun ha za sa=>?_)))))
  replace za:IsZip ha z ti to .ellipsis:=za
  refine wpAny_bind ?_
  simp only[List.zipIdx_cons,List.zipIdx_nil,List.forIn_cons,List.forIn_nil]
  refine wpAny_bind (wpAny_bind (wpAny_onRaise ?_))
  have ne4:∀ {c:Addr},c∉[z,to,i1,i2]->c≠z/\c≠to/\c≠i1/\c≠i2:=fun hc=>by simpa using hc
  show wpAny _ _ (Builtin.SmallTypes.nextOf (.ref i1) >>=_) _ _ _
  refine wpAny_bind (vJ hh (h1.extBut sa.extBut D.i1z) (ht1.extBut sa.extBut D.l1z) (fun x hb hx itb sb=>wpAny_pure ?_) fun hb e hx eb ⟨oe,oe1,oe2⟩=>?_)
  · have tob:IsPair hb to a b:=sb.extBut _ _ D.TOi1 (sa.extBut _ _ D.TOz ho)
    refine wpAny_bind (wpAny_seqItems tob rfl (wpAny_bind (wpAny_updateSeq_pair tob fun hc toc sc=>wpAny_bind (wpAny_letGo (wpAny_pure ?_)))))
    replace toc:IsPair hc to x b:=toc
    refine wpAny_bind (wpAny_bind (wpAny_onRaise ?_))
    have h2c:hc.IsTupleIter i2 t2 k:=((h2.extBut sa.extBut D.i2z).extBut sb.extBut D.i12.symm).extBut sc.extBut D.TOi2.symm
    have t2c:hc.IsTuple t2 ys:=((ht2.extBut sa.extBut D.l2z).extBut sb.extBut D.l2i1).extBut sc.extBut D.l2TO
    show wpAny _ _ (Builtin.SmallTypes.nextOf (.ref i2) >>=_) _ _ _
    refine wpAny_bind (vJ hh h2c t2c (fun y hd hy itd sd=>wpAny_pure ?_) fun hd e hy ed ⟨oe,oe1,oe2⟩=>?_)
    · have tod:IsPair hd to x b:=sd.extBut _ _ D.TOi2 toc
      refine wpAny_bind (wpAny_seqItems tod rfl (wpAny_bind (wpAny_updateSeq_pair tod fun hf tof sf=>wpAny_bind (wpAny_letGo (wpAny_pure (wpAny_pure ?_))))))
      replace tof:IsPair hf to x y:=tof
      refine wpAny_bind (wpAny_seqItems tof rfl (wpAny_bind (wpAny_newTuple ?_)))
      have szf:hf.objs.size=s.heap.objs.size:=by rw[sf.1,sd.1,sc.1,sb.1,sa.1]
      have zf:IsZip hf z ti to .ellipsis:=sf.extBut _ _ D.TOz.symm (sd.extBut _ _ D.i2z.symm (sc.extBut _ _ D.TOz.symm (sb.extBut _ _ D.i1z.symm za)))
      have kf:∀ c o,c∉[z,to,i1,i2]->s.heap.get? c=some o->hf.get? c=some o:=fun c o hc' e=>by
        obtain⟨c1,c2,c3,c4⟩:=ne4 hc'
        exact sf.extBut _ _ c2 (sd.extBut _ _ c4 (sc.extBut _ _ c2 (sb.extBut _ _ c3 (sa.extBut _ _ c1 e))))
      have i1f:hf.IsTupleIter i1 t1 (k+1):=((itb.extBut sc.extBut D.TOi1.symm).extBut sd.extBut D.i12).extBut sf.extBut D.TOi1.symm
      have i2f:hf.IsTupleIter i2 t2 (k+1):=itd.extBut sf.extBut D.TOi2.symm
      have tif:IsPair hf ti (.ref i1) (.ref i2):=sf.extBut _ _ D.TITO (sd.extBut _ _ D.TIi2 (sc.extBut _ _ D.TITO (sb.extBut _ _ D.TIi1 (sa.extBut _ _ D.TIz hi))))
      have zlt:z<hf.objs.size:=Heap.lt_size zf
      show wpAny _ _ (Builtin.SmallTypes.ownedTupleHandOut (.ref z) (.ref hf.objs.size) >>=_) _ _ _
      unfold Builtin.SmallTypes.ownedTupleHandOut
      have zg:IsZip (hf.push { cls:=.type "tuple",data:=.seq #[x,y] }) z ti to .ellipsis:=Heap.get?_push_of_some _ zf
      refine wpAny_bind (wpAny_bind (wpAny_setField_rec zg (by simp) fun hk zk sk=>wpAny_setField_rec (show IsZip hk z ti to (rawInt hf.objs.size) from zk) (by simp) fun hm zm sm=>wpAny_pure ?_))
      replace zm:IsZip hm z ti to (rawInt hf.objs.size):=zm
      have up:∀ c o,c≠z->hf.get? c=some o->hm.get? c=some o:=fun c o c1 e=>sm.extBut _ _ c1 (sk.extBut _ _ c1 (Heap.get?_push_of_some _ e))
      have new:IsPair hm hf.objs.size x y:=sm.extBut _ _ (Nat.ne_of_gt zlt) (sk.extBut _ _ (Nat.ne_of_gt zlt) (Heap.get?_push_size _ rfl))
      have szm:hm.objs.size=hf.objs.size+1:=by rw[sm.1,sk.1,Heap.size_push]
      have q:=hs x y hm hx hy ⟨by rw[<- szf];exact zm,up _ _ D.TIz tif,⟨x,y,up _ _ D.TOz tof⟩,i1f.at fun o e=>up _ o D.i1z e,i2f.at fun o e=>up _ o D.i2z e⟩ (by rw[<- szf];exact new) (by rw[szm,szf]) fun c o hc' e=>up c o (ne4 hc').1 (kf c o hc' e)
      rw[<- szf] at q
      exact q
    · have zd:IsZip hd z ti to .ellipsis:=ed _ _ D.i2z.symm (sc.extBut _ _ D.TOz.symm (sb.extBut _ _ D.i1z.symm za))
      have ez:e≠z:=fun q=>by subst q;rw[zd] at oe1;cases oe1;simp at oe2
      refine wpAny_setField_rec zd (by simp) fun hf _ sf=>he hf e (.inr hy) (fun c o hc' q=>?_) ⟨oe,sf.extBut _ _ ez oe1,oe2⟩
      obtain⟨c1,c2,c3,c4⟩:=ne4 hc'
      exact sf.extBut _ _ c1 (ed _ _ c4 (sc.extBut _ _ c2 (sb.extBut _ _ c3 (sa.extBut _ _ c1 q))))
  · have zb:IsZip hb z ti to .ellipsis:=eb _ _ D.i1z.symm za
    have ez:e≠z:=fun q=>by subst q;rw[zb] at oe1;cases oe1;simp at oe2
    refine wpAny_setField_rec zb (by simp) fun hf _ sf=>he hf e (.inl hx) (fun c o hc' q=>?_) ⟨oe,sf.extBut _ _ ez oe1,oe2⟩
    obtain⟨c1,c2,c3,c4⟩:=ne4 hc'
    exact sf.extBut _ _ c1 (eb _ _ c3 (sa.extBut _ _ c1 q))
theorem iU{z ti to i1 i2 t1 t2:Addr}{k:Nat}{xs ys:Array Value}{Q:Option Value->Shared->Prop}(hh:A.handled=none)(D:ZipApart z ti to i1 i2 t1 t2)(hZ:ZT s.heap z ti to i1 i2 t1 t2 k .none)
    (ht1:s.heap.IsTuple t1 xs) (ht2:s.heap.IsTuple t2 ys)
    (hs:∀ x y h',xs[k]?=some x->ys[k]?=some y->ZT h' z ti to i1 i2 t1 t2 (k+1) (rawInt s.heap.objs.size)->IsPair h' s.heap.objs.size x y->h'.objs.size=s.heap.objs.size+1 ->
      (∀ c o,c∉[z,to,i1,i2]->s.heap.get? c=some o->h'.get? c=some o)->Q (some (.ref s.heap.objs.size)) { s with heap:=h' })
    (he:∀ h',(xs[k]?=none\/ys[k]?=none)->(∀ c o,c∉[z,to,i1,i2]->s.heap.get? c=some o->h'.get? c=some o)->Q none { s with heap:=h' }) :
    wpAny (model prog w) A (pyNext (.ref z)) Q E s:=by
  have hT:s.TypeIs (.ref z) "zip":=⟨_,hZ.hz,rfl⟩
  unfold pyNext
  refine wpAny_bind (wpAny_attempt (wpAny_callSpecial?_slot (name:=Str.ofString "__next__") hT F.slot_zip_next (wpAny_call_entry F.slot_zip_next hT F.entry_zip_next
    (sy hh D hZ ht1 ht2 (fun x y h' a1 a2 a3 a4 a5 a6=>⟨_,rfl,wpAny_pure (hs x y h' a1 a2 a3 a4 a5 a6)⟩) fun h' e a1 a2 ⟨o,e1,e2⟩=>?_) (F.args_zip_next_1 _))))
  exact wpAny_bind (wpAny_isInstance (T:="StopIteration") (b:=true) ⟨o,e1,e2⟩ isSubtype_stop (wpAny_pure (he h' a1 a2)))
abbrev itT(t:Addr):Obj:={ cls:=.type "tuple_iterator",data:=.fields #[.ref t,.int 0 0] }
theorem Ad(hp H1 H2 H3 H4 H5:Heap)(t1 t2:Addr)(e1:H1=hp.push (itT t1))(e2:H2=H1.push (itT t2))(e3:H3=H2.push { cls:=.type "tuple",data:=.seq #[.ref hp.objs.size,.ref H1.objs.size] })(e4:H4=H3.push { cls:=.type "tuple",data:=.seq #[.none,.none] })
  (e5:H5=H4.push { cls:=.type "zip",data:=.fields #[.none,.bool false,.bool false,.ref H2.objs.size,.ref H3.objs.size] }) :
  H4.objs.size=hp.objs.size+4/\H5.objs.size=hp.objs.size+5/\(∀ c o,hp.get? c=some o->H5.get? c=some o)/\ZT H5 (hp.objs.size+4) (hp.objs.size+2) (hp.objs.size+3) hp.objs.size (hp.objs.size+1) t1 t2 0 .none:=by
 have z1:H1.objs.size=hp.objs.size+1:=by rw[e1,Heap.size_push]
 have z2:H2.objs.size=hp.objs.size+2:=by rw[e2,Heap.size_push,z1]
 have z3:H3.objs.size=hp.objs.size+3:=by rw[e3,Heap.size_push,z2]
 have z4:H4.objs.size=hp.objs.size+4:=by rw[e4,Heap.size_push,z3]
 have z5:H5.objs.size=hp.objs.size+5:=by rw[e5,Heap.size_push,z4]
 have k5:∀ c o,H4.get? c=some o->H5.get? c=some o:=fun c o e=>by rw[e5];exact Heap.get?_push_of_some _ e
 have k4:∀ c o,H3.get? c=some o->H5.get? c=some o:=fun c o e=>k5 c o (by rw[e4];exact Heap.get?_push_of_some _ e)
 have k3:∀ c o,H2.get? c=some o->H5.get? c=some o:=fun c o e=>k4 c o (by rw[e3];exact Heap.get?_push_of_some _ e)
 have k2:∀ c o,H1.get? c=some o->H5.get? c=some o:=fun c o e=>k3 c o (by rw[e2];exact Heap.get?_push_of_some _ e)
 have k1:∀ c o,hp.get? c=some o->H5.get? c=some o:=fun c o e=>k2 c o (by rw[e1];exact Heap.get?_push_of_some _ e)
 refine⟨z4,z5,k1,?_,?_,⟨.none,.none,?_⟩,⟨_,k2 _ _ (by rw[e1];exact Heap.get?_push_size _ rfl),rfl,rfl⟩,⟨_,k3 _ _ (by rw[e2,<- z1];exact Heap.get?_push_size _ rfl),rfl,rfl⟩⟩
 ·have q:H5.get? H4.objs.size=some { cls:=.type "zip",data:=.fields #[.none,.bool false,.bool false,.ref H2.objs.size,.ref H3.objs.size] }:=by rw[e5];exact Heap.get?_push_size _ rfl
  rw[z2,z3,z4] at q
  exact q
 ·have q:H5.get? H2.objs.size=some { cls:=.type "tuple",data:=.seq #[.ref hp.objs.size,.ref H1.objs.size] }:=k4 _ _ (by rw[e3];exact Heap.get?_push_size _ rfl)
  rw[z1,z2] at q
  exact q
 ·have q:H5.get? H3.objs.size=some { cls:=.type "tuple",data:=.seq #[.none,.none] }:=k5 _ _ (by rw[e4];exact Heap.get?_push_size _ rfl)
  rw[z3] at q
  exact q
theorem wI(t1 t2:Addr)(xs ys:Array Value) :
    Meets (Builtin.«zip.__new__» ⟨[.type "zip",.ref t1,.ref t2],[]⟩) (fun _ R s=>s.heap.IsTuple t1 xs/\s.heap.IsTuple t2 ys /\
      ∀ h', (∀ c o, s.heap.get? c = some o -> h'.get? c = some o) -> h'.objs.size = s.heap.objs.size + 5 -> ZT h' (s.heap.objs.size + 4) (s.heap.objs.size + 2) (s.heap.objs.size + 3) s.heap.objs.size (s.heap.objs.size + 1) t1 t2 0 .none ->
        R (.ok (.ret (.ref (s.heap.objs.size+4)))) { s with heap:=h' }) :=
  .of_wp fun prog w A R s h=>by
    obtain⟨hp,g,d,tk,os⟩:=s;obtain⟨hl1,hl2,h⟩:=h
    have hsub:=sub_zip
    have hL1:Heap.IsTuple (Shared.heap ⟨hp,g,d,tk,os⟩) t1 xs:=hl1
    have hL2:Heap.IsTuple (Shared.heap ⟨hp.push (itT t1),g,d,tk,os⟩) t2 ys:=let ⟨o,e,r⟩:=hl2;⟨o,Heap.get?_push_of_some _ e,r⟩
    wp_walk using wpAny_pyIter_tuple hL1,wpAny_pyIter_tuple hL2
    refine⟨_,rfl,?_⟩
    obtain⟨z4,z5,kp,Z⟩:=Ad hp _ _ _ _ _ t1 t2 rfl rfl rfl rfl rfl
    have q:=h _ kp z5 Z
    rw[<- z4] at q
    exact q
theorem vP{t1 t2:Addr}{xs ys:Array Value}{Q:Value->Shared->Prop}(hl1:s.heap.IsTuple t1 xs)(hl2:s.heap.IsTuple t2 ys)
    (h:∀ h',(∀ c o,s.heap.get? c=some o->h'.get? c=some o)->h'.objs.size=s.heap.objs.size+5->ZT h' (s.heap.objs.size+4) (s.heap.objs.size+2) (s.heap.objs.size+3) s.heap.objs.size (s.heap.objs.size+1) t1 t2 0 .none ->
      Q (.ref (s.heap.objs.size+4)) { s with heap:=h' }):wpAny (model prog w) A (call (.type "zip") [.ref t1,.ref t2]) Q E s:=by
  refine callType_new F.called_zip (by decide) (F.typeCall_zip_2 _ _) (F.newCall_zip_2 _ _) (fun obj=>F.args_object_init_3 obj _ _) F.entry_zip_new (wI t1 t2 xs ys) ⟨hl1,hl2,fun h' kp z5 Z=>?_⟩
  exact⟨⟨_,Z.hz,rfl⟩,h h' kp z5 Z⟩
end
end L2
namespace L2
open PySem PySem.Spec PyProof.Rows
namespace RF
end RF
end L2
namespace L2
open PySem PySem.Spec PyProof.Rows
section
variable {prog:Program} {w:World} {A:Around} {E:Value->Shared->Prop} {s:Shared}
end
end L2
namespace L2
open PySem PySem.Spec PyProof.Rows PySem.SeqAt
section
variable {prog:Program} {w:World} {A:Around} {E:Value->Shared->Prop} {s:Shared}
end
end L2
namespace L2
open PySem PySem.Spec PyProof.Rows
def Itz(K:PySem.W.Frag)(t1 t2:Addr):It :=
  ⟨fun i H=>∃ xs ys x y,SqT K H t1 xs/\SqT K H t2 ys/\xs[i]?=some x/\ys[i]?=some y,
   fun i H v H'=>∃ p,H p=none/\v=.ref p/\∀ xs ys x y,SqT K H t1 xs->SqT K H t2 ys->xs[i]?=some x->ys[i]?=some y->H'=upd H p (.tup [x,y]),
   fun i H=>∃ xs ys,SqT K H t1 xs/\SqT K H t2 ys/\(xs.length<=i\/ys.length<=i)⟩
theorem Inv.turnedNew{X:Cx}{pins:List (Addr×Obj)}{σ:St}{H:Hp}{s:Shared}{h':Heap}{ch:List Addr}{o:HO}{t':Nat}(I:Inv X pins σ H s)(hf:∀ b∈ch,nJ X pins H b)(k:∀ b u,b∉ch->s.heap.get? b=some u->h'.get? b=some u)
  (new:cZ X.prog X.w (upd H s.heap.objs.size o) h' s.heap.objs.size o):Inv X pins σ (upd H s.heap.objs.size o) { s with heap:=h',toks:=t' }:=by
 have hn:H s.heap.objs.size=none:=I.hok.fresh (Nat.le_refl _)
 refine I.call' (s':={ s with heap:=h',toks:=t' }) (ch:=ch) rfl ?_ ?_ I.bare fun b hb=>⟨(hf b hb).2.2.2.1,(hf b hb).2.1,(hf b hb).2.2.2.2.1,(hf b hb).2.2.2.2.2⟩
 ·refine⟨fun b u e _ _ hc=>k b u hc e,fun b u e _ _ hc=>⟨u.slots,k b u hc e⟩,fun b u e n hc=>?_,fun b u e hc=>⟨u,k b u hc e⟩,fun b xs e=>?_,fun b u xs e=>?_,fun b ps e=>⟨#[],?_⟩⟩
  ·rw[aM (Nat.ne_of_lt (Heap.lt_size e))];exact n
  ·rw[aM (aJ e hn)];exact e
  ·rw[aM (aJ e hn)];exact e
  ·rw[aM (aJ e hn),e];simp
 ·intro b u e
  by_cases hb:b=s.heap.objs.size
  ·subst hb;rw[aQ] at e;cases e;exact new
  ·rw[aM hb] at e
   refine(I.hok b u e).stay (fun c v hc q=>k c v (fun z=>?_) q) (fun c q=>by rw[aM (aJ q hn)];exact q) fun c xs q=>by rw[aM (aJ q hn)];exact q
   have zn:=(hf c z).1
   rcases hc with rfl | hc
   ·rw[zn] at e;cases e
   ·rw[zn] at hc;cases hc
theorem Inv.turnedAll{X:Cx}{pins:List (Addr×Obj)}{σ:St}{H:Hp}{s:Shared}{h':Heap}{ch:List Addr}{t':Nat}(I:Inv X pins σ H s)(hf:∀ b∈ch,nJ X pins H b)(k:∀ b u,b∉ch->s.heap.get? b=some u->h'.get? b=some u) :
  Inv X pins σ H { s with heap:=h',toks:=t' }:=by
 refine I.call' (s':={ s with heap:=h',toks:=t' }) (ch:=ch) rfl ?_ ?_ I.bare fun b hb=>⟨(hf b hb).2.2.2.1,(hf b hb).2.1,(hf b hb).2.2.2.2.1,(hf b hb).2.2.2.2.2⟩
 ·exact⟨fun b u e _ _ hc=>k b u hc e,fun b u e _ _ hc=>⟨u.slots,k b u hc e⟩,fun b u e n hc=>n,fun b u e hc=>⟨u,k b u hc e⟩,fun b xs e=>e,fun b u xs e=>e,fun b ps e=>⟨#[],by rw[e];simp⟩⟩
 ·intro b u e
  refine(I.hok b u e).stay (fun c v hc q=>k c v (fun z=>?_) q) (fun c q=>q) fun c xs q=>q
  have zn:=(hf c z).1
  rcases hc with rfl | hc
  ·rw[zn] at e;cases e
  ·rw[zn] at hc;cases hc
theorem wO{P:Program}{w:World}{K:PySem.W.Frag}{es:List Expr}{kt:Nat}{pt:Pos}{z ti to i1 i2 t1 t2:Addr}(D:ZipApart z ti to i1 i2 t1 t2) :
    Turn P w K (.Tuple es kt pt) (Itz K t1 t2) [z,ti,to,i1,i2] z (fun i h=>ZT h z ti to i1 i2 t1 t2 i .none) where
  mem:=by simp
  obj:=fun i h st b hb=>by
    simp at hb
    rcases hb with rfl | rfl | rfl | rfl | rfl
    · exact⟨_,st.hz,fun v q=>by have q':Data.fields _=Data.cell v:=q;cases q'⟩
    · exact⟨_,st.hi,fun v q=>by have q':Data.seq _ _=Data.cell v:=q;cases q'⟩
    · obtain⟨a,c,e⟩:=st.ho
      exact⟨_,e,fun v q=>by have q':Data.seq _ _=Data.cell v:=q;cases q'⟩
    · obtain⟨o,e,_,d⟩:=st.h1
      exact⟨o,e,fun v q=>by rw[d] at q;cases q⟩
    · obtain⟨o,e,_,d⟩:=st.h2
      exact⟨o,e,fun v q=>by rw[d] at q;cases q⟩
  keep:=fun i h h' st k=>st.keep k
  item:=by
    intro X hP hw hK hc i pins s σ H E I hf st hg
    subst hP hw hK
    obtain⟨xs,ys,x,y,hq1,hq2,hx,hy⟩:=hg
    obtain⟨its1,rv1,p1,_⟩:=I.tuple hq1
    obtain⟨its2,rv2,p2,_⟩:=I.tuple hq2
    obtain⟨u1,hu1,ru1⟩:=rv1.get hx
    obtain⟨u2,hu2,ru2⟩:=rv2.get hy
    refine iU (I.ok.hd hc) D st (show s.heap.IsTuple t1 its1.toArray from p1) (show s.heap.IsTuple t2 its2.toArray from p2) (fun a b h' ha hb Z pr sz kp=>?_) fun h' hn _=>?_
    · have ea : a = u1 := by have : its1[i]? = some a := by simpa using ha
                             rw[hu1] at this;exact(Option.some.inj this).symm
      have eb : b = u2 := by have : its2[i]? = some b := by simpa using hb
                             rw[hu2] at this;exact(Option.some.inj this).symm
      subst ea eb
      have szl:2<=sizeLine:=by decide
      have hf4:∀ c∈[z,to,i1,i2],nJ X pins H c:=fun c hc'=>hf c (by simp at hc' ⊢;rcases hc' with h | h | h | h<;>simp[h])
      have I1:Inv X pins σ (upd H s.heap.objs.size (.tup [x,y])) { s with heap:=h',toks:=s.toks }:=I.turnedNew hf4 kp ⟨szl,[a,b],.cons ru1 (.cons ru2 .nil),⟨_,pr,rfl,_,rfl⟩⟩
      have fresh:H s.heap.objs.size=none:=I.hok.fresh (Nat.le_refl _)
      have ltf:∀ c∈[z,ti,to,i1,i2],c≠s.heap.objs.size:=fun c hc' e=>by
        have:H c=none:=(hf c hc').1
        simp at hc'
        have lt:c<s.heap.objs.size:=by
          rcases hc' with rfl | rfl | rfl | rfl | rfl
          · exact Heap.lt_size st.hz
          · exact Heap.lt_size st.hi
          · obtain⟨_,_,e'⟩:=st.ho;exact Heap.lt_size e'
          · obtain⟨o,e',_⟩:=st.h1;exact Heap.lt_size e'
          · obtain⟨o,e',_⟩:=st.h2;exact Heap.lt_size e'
        exact Nat.ne_of_lt lt e
      refine⟨_,rfl,wpAny_letOwnedTupleGo_zip (s:={ s with heap:=h' }) Z.hz fun h2 z2 sb=>?_⟩
      have fz:=hf z (by simp)
      have I2:Inv X pins σ (upd H s.heap.objs.size (.tup [x,y])) { s with heap:=h2 }:=I1.turned (t':=s.toks) (fun c o hc' e=>(sb.2 c hc').trans e) (by rw[aM (ltf z (by simp))];exact fz.1) fz.2.1 fz.2.2.2.1 fz.2.2.2.2.1 fz.2.2.2.2.2
      refine⟨.ref s.heap.objs.size,_,I2,rfl,⟨_,fresh,rfl,fun xs' ys' x' y' a1 a2 a3 a4=>?_⟩,?_,fun c hc'=>by rw[aM (ltf c hc')];exact(hf c hc').1⟩
      · have e1:=I.tuple_inj a1 hq1
        have e2:=I.tuple_inj a2 hq2
        subst e1 e2
        rw[hx] at a3;rw[hy] at a4
        cases a3;cases a4
        rfl
      · obtain⟨a',b',e'⟩:=Z.ho
        exact⟨z2,(sb.2 ti D.TIz).trans Z.hi,⟨a',b',(sb.2 to D.TOz).trans e'⟩,Z.h1.at fun o e=>(sb.2 i1 D.i1z).trans e,Z.h2.at fun o e=>(sb.2 i2 D.i2z).trans e⟩
    · rcases hn with hn | hn
      · have:its1[i]?=none:=by simpa using hn
        rw[hu1] at this;cases this
      · have:its2[i]?=none:=by simpa using hn
        rw[hu2] at this;cases this
  done:=by
    intro X hP hw hK hc i pins s σ H E I hf st hg
    subst hP hw hK
    obtain⟨xs,ys,hq1,hq2,hl⟩:=hg
    obtain⟨its1,rv1,p1,_⟩:=I.tuple hq1
    obtain⟨its2,rv2,p2,_⟩:=I.tuple hq2
    have l1:=rv1.length
    have l2:=rv2.length
    refine iU (I.ok.hd hc) D st (show s.heap.IsTuple t1 its1.toArray from p1) (show s.heap.IsTuple t2 its2.toArray from p2) (fun a b h' ha hb Z pr sz kp=>?_) fun h' _ kp=>⟨rfl,?_⟩
    · exfalso
      have h1 : i < its1.length := by have : its1[i]? = some a := by simpa using ha
                                      exact(List.getElem?_eq_some_iff.mp this).1
      have h2 : i < its2.length := by have : its2[i]? = some b := by simpa using hb
                                      exact(List.getElem?_eq_some_iff.mp this).1
      omega
    · have hf4:∀ c∈[z,to,i1,i2],nJ X pins H c:=fun c hc'=>hf c (by simp at hc' ⊢;rcases hc' with h | h | h | h<;>simp[h])
      exact I.turnedAll (t':=s.toks) hf4 kp
  self:=fun _ _ _ _ _ st h=>wpAny_pyIter_zip st.hz h
section
variable {X:Cx}
def X5(K:PySem.W.Frag)(ta:TA):TI:=fun σ H R=>ta σ H fun vs H1=>∃ a b,vs=[.ref a,.ref b]/\(∃ xs,SqT K H1 a xs)/\(∃ ys,SqT K H1 b ys)/\R (Itz K a b) H1
theorem GF{a b:Expr}{ta:TA}{p pos pt:Pos}{es:List Expr}{kt:Nat}(hg:Gl X "zip")(hm:X.mg "zip"=none)(ha:PA X [a,b] ta)(hs:starEach [a,b] X.env=[(false,eval a X.env),(false,eval b X.env)])(hs2:starEach [b] X.env=[(false,eval b X.env)]) :
    PI X (.Tuple es kt pt) (.Call (.Name "zip" p) [a,b] [] pos) (X5 X.K ta):=by
  intro pins s σ H R I h
  refine Call_ (bV I hg hm boot_zip (PyProof.Rows.callWith_type1 (thn (ha pos pins s σ H _ I h) fun us s1 ⟨vs,H1,I1,r1,q1⟩=>?_) (by rw[hs,hs2]) (by rw[hs2];rfl)))
  obtain⟨a1,b1,e,⟨xs,hx⟩,⟨ys,hy⟩,q⟩:=q1
  subst e
  cases r1 with
  | cons r rr =>
    cases rr with
    | cons r' rr =>
      cases rr
      cases (show _=Value.ref a1 from r)
      cases (show _=Value.ref b1 from r')
      obtain⟨its1,_,p1,_⟩:=I1.tuple hx
      obtain⟨its2,_,p2,_⟩:=I1.tuple hy
      refine vP (show s1.heap.IsTuple a1 its1.toArray from p1) (show s1.heap.IsTuple b1 its2.toArray from p2) fun h' kp sz Z=>?_
      refine wpAny_pyIter_zip (s:={ s1 with heap:=h' }) Z.hz ?_
      have I2:Inv X pins σ H1 { s1 with heap:=h' }:=I1.kept (t':=s1.toks) kp
      refine⟨s1.heap.objs.size+4,_,_,_,H1,rfl,I2,wO (zipApart_new p1.lt p2.lt),Z,fun c hc=>?_,q⟩
      have hc':s1.heap.objs.size<=c:=by
        simp at hc
        rcases hc with h | h | h | h | h<;>rw[h]<;>first | exact Nat.le_refl _ | exact Nat.le_add_right _ _
      exact I1.fpOk hc' (I1.hok.fresh hc')
end
end L2
namespace L2
open PySem PySem.Spec PyProof.Rows
def WR(K:PySem.W.Frag)(t:Addr)(n:Nat):It :=
 ⟨fun i H=>∃ ys,SqL K H t ys/\ys.length=n/\i<n,fun i H x H'=>H'=H/\∀ ys,SqL K H t ys->ys[n-1-i]?=some x,fun i _=>i=n⟩
theorem sV{P:Program}{w:World}{K:PySem.W.Frag}{tg:Expr}(t r:Addr)(n:Nat):Turn P w K tg (WR K t n) [r] r (fun i h=>h.IsRevIter r t ((n:Int)-1-(i:Int))) where
 mem:=by simp
 obj:=fun i h st b hb=>by
  have e:b=r:=by simpa using hb
  subst e
  obtain⟨o,h1,h2,h3⟩:=st
  exact⟨o,h1,fun v z=>by rw[h3] at z;cases z⟩
 keep:=fun i h h' st k=>st.at fun o e=>k r (by simp) o e
 item:=by
  intro X hP hw hK hc i pins s σ H E I hf st hg
  subst hP hw hK
  obtain⟨ys,hq,hl,hi⟩:=hg
  obtain⟨its,rv,p0,_⟩:=I.list hq
  have p:=p0.isList
  have hn:its.length=n:=by rw[<- rv.length,hl]
  obtain⟨f0,f1,f2,f3,f4,f5⟩:=hf r (by simp)
  have e1:(n:Int)-1-(i:Int)=((n-1-i:Nat):Int):=by omega
  have st':=st
  rw[e1] at st'
  have hlt:n-1-i<its.length:=by omega
  obtain⟨x,hx,rx⟩:∃ x,ys[n-1-i]?=some x/\RelV x its[n-1-i]:=by
   have hly:n-1-i<ys.length:=by omega
   obtain⟨u,hu,ru⟩:=rv.get (i:=n-1-i) (x:=ys[n-1-i]) (by simp)
   rw[List.getElem?_eq_getElem hlt] at hu
   cases hu
   exact⟨_,by simp,ru⟩
  refine wpAny_pyNext_rev_item st' p (x:=its[n-1-i]) (by simp[hlt]) fun h' st2 sb=>?_
  have I1:Inv X pins σ H { s with heap:=h' }:=I.turned (t':=s.toks) (fun b o hb e=>(sb.2 b hb).trans e) f0 f1 f3 f4 f5
  have e2:((n-1-i:Nat):Int)-1=(n:Int)-1-((i+1:Nat):Int):=by omega
  rw[e2] at st2
  obtain⟨o,g1,g2,g3⟩:=st2
  exact⟨_,rfl,u5 (s:={ s with heap:=h' }) (n:="list_reverseiterator") g1 g2 g3 (by decide) ⟨x,H,I1,rx,⟨rfl,fun zs hy=>by rw[I.list_inj hy hq];exact hx⟩,⟨o,g1,g2,g3⟩,fun b hb=>(hf b hb).1⟩⟩
 done:=by
  intro X hP hw hK hc i pins s σ H E I hf st hg
  subst hP hw hK
  obtain⟨f0,f1,f2,f3,f4,f5⟩:=hf r (by simp)
  have hg':i=n:=hg
  have e1:(n:Int)-1-(i:Int)=-1:=by omega
  rw[e1] at st
  exact wpAny_pyNext_rev_end (I.ok.hd hc) st fun h' eb=>⟨rfl,I.turned (t':=s.toks) (fun b o hb e=>eb b o hb e) f0 f1 f3 f4 f5⟩
 self:=fun _ _ _ _ _ st h=>wpAny_pyIter_revIter st h
section
variable {X:Cx}
def R5(K:PySem.W.Frag)(ta:TA):TI:=fun σ H R=>ta σ H fun vs H1=>∃ a xs,vs=[.ref a]/\SqL K H1 a xs/\R (WR K a xs.length) H1
theorem xJ{a:Expr}{ta:TA}{p pos:Pos}{tg:Expr}(hg:Gl X "reversed")(hm:X.mg "reversed"=none)(ha:PA X [a] ta)(hs:starEach [a] X.env=[(false,eval a X.env)]) :
    PI X tg (.Call (.Name "reversed" p) [a] [] pos) (R5 X.K ta):=by
  intro pins s σ H R I h
  refine Call_ (bV I hg hm boot_reversed (PyProof.Rows.callWith_type1 (thn (ha pos pins s σ H _ I h) fun us s1 ⟨vs,H1,I1,r1,q1⟩=>?_) hs rfl))
  obtain⟨a1,xs,e,hx,q⟩:=q1
  subst e
  cases r1 with
  | cons r rr =>
    cases rr
    cases (show _=Value.ref a1 from r)
    obtain⟨its1,rv,p0,_⟩:=I1.list hx
    have p1:=p0.isList
    have hl:=rv.length
    refine call_reversed_list p1 ?_
    have st:(s1.heap.push (revObj a1 ((its1.toArray.size:Int)-1))).IsRevIter s1.heap.objs.size a1 ((xs.length:Int)-1-((0:Nat):Int)):=by
      have e0:((xs.length:Int)-1-((0:Nat):Int))=(its1.toArray.size:Int)-1:=by rw[List.size_toArray];omega
      rw[e0]
      exact⟨_,Heap.get?_push_size _ rfl,rfl,rfl⟩
    refine wpAny_pyIter_revIter (s:={ s1 with heap:=s1.heap.push (revObj a1 ((its1.toArray.size:Int)-1)) }) st ?_
    refine⟨s1.heap.objs.size,_,_,_,H1,rfl,I1.kept (t':=s1.toks) fun b o e=>Heap.get?_push_of_some _ e,sV a1 _ xs.length,st,fun c hc=>?_,q⟩
    have hc':c=s1.heap.objs.size:=by simpa using hc
    subst hc'
    exact I1.fpOk (Nat.le_refl _) (I1.hok.fresh (Nat.le_refl _))
end
end L2
namespace L2
open PySem PySem.Spec PyProof.Rows
def Jx(hi:Int)(n:Nat):It:=⟨fun i _=>i<n,fun i H x H'=>H'=H/\x=.int (hi-i),fun i _=>n<=i⟩
theorem nQ{P:Program}{w:World}{K:PySem.W.Frag}{tg:Expr}(it:Addr)(hi:Int)(n:Nat):Turn P w K tg (Jx hi n) [it] it (fun i h=>IsRangeIter h it (hi+(i:Nat)*(-1)) ((n:Int)-(i:Nat)) (-1)) where
  mem:=by simp
  obj:=fun i h st b hb=>by
    have e:b=it:=by simpa using hb
    subst e
    exact⟨_,st,fun v z=>by
      have z':Data.fields _=Data.cell v:=z
      cases z'⟩
  keep:=fun i h h' st k=>k it (by simp) _ st
  item:=by
    intro X hP hw hK hc i pins s σ H E I hf st hg
    subst hP hw hK
    obtain⟨f0,f1,f2,f3,f4,f5⟩:=hf it (by simp)
    have W:=Walks.range (prog:=X.prog) (w:=X.w) (I.ok.hd hc) it hi (-1) n
    refine W.item i s _ _ hg st fun v h' tk hv st' kk=>?_
    obtain⟨t,rfl⟩:=hv
    have I1:Inv X pins σ H { s with heap:=h',toks:=tk }:=I.turned (fun b o hb e=>kk b o (by simpa using hb) e) f0 f1 f3 f4 f5
    refine⟨_,rfl,u5 (s:={ s with heap:=h',toks:=tk }) (n:="range_iterator") st' rfl rfl (by decide) ⟨.int (hi-i),H,I1,⟨t,?_⟩,⟨rfl,rfl⟩,st',fun b hb=>(hf b hb).1⟩⟩
    rw[show hi+(i:Int)*(-1)=hi-i by omega]
  done:=by
    intro X hP hw hK hc i pins s σ H E I hf st hg
    subst hP hw hK
    obtain⟨f0,f1,f2,f3,f4,f5⟩:=hf it (by simp)
    exact wpAny_pyNext_range_end (I.ok.hd hc) st (by have:n<=i:=hg;omega) fun h' eb=>⟨rfl,I.turned (t':=s.toks) (fun b o hb e=>eb b o hb e) f0 f1 f3 f4 f5⟩
  self:=fun _ _ _ _ _ st h=>wpAny_pyIter_rangeiter st h
theorem ig(a b:Int):Builtin.Range.rangeSize a b (-1)=if b<a then a-b else 0:=by
 unfold Builtin.Range.rangeSize
 simp only[show ¬ (-1:Int)>0 by decide,if_false,show -(-1:Int)=1 by decide,Int.ediv_one]
 split<;>omega
theorem wW{a b:Int}(ha:-(2^62)<=a)(ha':a<2^62)(hb:-(2^62)<=b)(hb':b<2^62):Builtin.Range.small a b (-1)=true:=by
 unfold Builtin.Range.small
 rw[ig]
 simp only[Builtin.Range.rangeFitsLong,Bool.and_eq_true,Bool.or_eq_true,decide_eq_true_eq,beq_iff_eq,show ¬ (-1:Int)>0 by decide,if_false]
 split<;>omega
section
variable {X:Cx} {tg:Expr}
theorem tW{pins:List (Addr×Obj)}{σ:St}{H:Hp}{s:Shared}{R:It->Hp->Prop}{E:Value->Shared->Prop}{hi lo:Int}{t u v:Tok}{tk:Nat}(I:Inv X pins σ H s)(h1:-(2^62)<=hi)(h2:hi<2^62)(h3:-(2^62)<=lo)(h4:lo<2^62)
    (q:R (Jx hi (hi-lo).toNat) H):wpAny (model X.prog X.w) X.A (pyIter (.ref s.heap.objs.size)) (PIE X pins σ tg R) E { s with heap:=s.heap.push { cls:=.type "range",data:=.fields #[.int hi t,.int lo u,.int (-1) v] },toks:=tk }:=by
  refine wpAny_pyIter_range (IsRange.new ..) (wW h1 h2 h3 h4) ?_
  have I1:Inv X pins σ H { s with heap:=s.heap.push { cls:=.type "range",data:=.fields #[.int hi t,.int lo u,.int (-1) v] },toks:=tk }:=I.kept fun b o e=>Heap.get?_push_of_some _ e
  refine⟨(s.heap.push { cls:=.type "range",data:=.fields #[.int hi t,.int lo u,.int (-1) v] }).objs.size,[(s.heap.push { cls:=.type "range",data:=.fields #[.int hi t,.int lo u,.int (-1) v] }).objs.size],_,_,H,rfl,
    I1.kept (t':=tk) fun b o e=>Heap.get?_push_of_some _ e,nQ _ hi (hi-lo).toNat,?_,fun b hb=>?_,q⟩
  · have e1:hi+((0:Nat):Int)*(-1)=hi:=by simp
    have e2:(((hi-lo).toNat:Nat):Int)-((0:Nat):Int)=Builtin.Range.rangeSize hi lo (-1):=by rw[ig];split<;>omega
    show IsRangeIter _ _ (hi+((0:Nat):Int)*(-1)) ((((hi-lo).toNat:Nat):Int)-((0:Nat):Int)) (-1)
    rw[e1,e2]
    exact Heap.get?_push_size _ rfl
  · have e:b=(s.heap.push { cls:=.type "range",data:=.fields #[.int hi t,.int lo u,.int (-1) v] }).objs.size:=by simpa using hb
    subst e
    exact I1.fpOk (Nat.le_refl _) (I1.hok.fresh (Nat.le_refl _))
def R0(ta:TA):TI:=fun σ H R=>ta σ H fun vs H1=>∃ i j:Int,vs=[.int i,.int j,.int (-1)]/\(-(2^62)<=i/\i<2^62 /\ -(2^62)<=j/\j<2^62)/\R (Jx i (i-j).toNat) H1
theorem uf{a b c:Expr}{ta:TA}{p pos:Pos}(hg:Gl X "range")(hm:X.mg "range"=none)(ha:PA X [a,b,c] ta)(hs:starEach [a,b,c] X.env=[(false,eval a X.env),(false,eval b X.env),(false,eval c X.env)])(hs2:starEach [b,c] X.env=[(false,eval b X.env),(false,eval c X.env)]) :
    PI X tg (.Call (.Name "range" p) [a,b,c] [] pos) (R0 ta):=by
  intro pins s σ H R I h
  refine Call_ (bV I hg hm boot_range (PyProof.Rows.callWith_type1 (thn (ha pos pins s σ H _ I h) fun us s1 ⟨vs,H1,I1,r1,q1⟩=>?_) (by rw[hs,hs2]) (by rw[hs2];rfl)))
  obtain⟨i,j,e,⟨q1,q2,q3,q4⟩,q⟩:=q1
  subst e
  cases r1 with
  | cons r rr =>
    cases rr with
    | cons r' rr =>
      cases rr with
      | cons r'' rr =>
        cases rr
        obtain⟨t,rfl⟩:=r
        obtain⟨t',rfl⟩:=r'
        obtain⟨t'',rfl⟩:=r''
        exact call_range_3 (by decide) (tW I1 q1 q2 q3 q4 q) (Or.inl (PyProof.noPylong_small (by omega)))
end
end L2
namespace L2
open PySem PySem.Spec PyProof.Rows
section
variable {prog:Program} {w:World} {A:Around} {E:Value->Shared->Prop} {s:Shared}
theorem zX(hh:A.handled=none)(it t:Addr)(ap:t≠it)(its:Array Value):Draws prog w A it [it,t] its.size (fun k v=>its[k]?=some v) (fun k h=>h.IsTupleIter it t k/\h.IsTuple t its) where
 live:=fun _ _ q=>by obtain⟨⟨o,e,_⟩,_⟩:=q;exact⟨o,e⟩
 frame:=fun _ _ _ q kp=>by
  obtain⟨⟨o,e,r⟩,⟨o2,e2,r2⟩⟩:=q
  exact⟨⟨o,kp it (by simp) o e,r⟩,⟨o2,kp t (by simp) o2 e2,r2⟩⟩
 item:=fun k s Q E lt q fin=>vJ hh q.1 q.2 (fun x h' hx a sb=>fin x h' s.toks hx ⟨a,by obtain⟨o2,e2,r2⟩:=q.2;exact⟨o2,(sb.2 t ap).trans e2,r2⟩⟩ sb) fun h' e hx _ _=>by
  have:its[k]?=some its[k]:=by simp[lt]
  rw[this] at hx;cases hx
 done:=fun s Q E q fin=>vJ hh q.1 q.2 (fun x h' hx _ _=>by simp at hx) fun h' e _ a b=>fin h' e a b
set_option maxHeartbeats 1000000 in
theorem vC(t:Addr)(its:Array Value)(n:Nat)(dd:Option Addr)(sl:Array (Option Value)) :
    Meets (Builtin.«enumerate.__new__» ⟨[.type "enumerate",.ref t],[]⟩) (fun _ R s=>s.heap.get? t=some { cls:=.type "tuple",dict:=dd,data:=.seq its n,slots:=sl } /\
      R (.ok (.ret (.ref (s.heap.push (itT t)).objs.size))) { s with heap:=(s.heap.push (itT t)).push { cls:=.type "enumerate",data:=.fields #[.none,.bool false,.ref s.heap.objs.size,rawInt 0,.none,.none] } }) :=
  .of_wp fun prog w A R s h=>by
    obtain⟨hp,g,d,tk,os⟩:=s;obtain⟨hl,h⟩:=h
    have hsub:=sub_enumerate
    have hL:Heap.IsTuple (Shared.heap ⟨hp,g,d,tk,os⟩) t its:=⟨_,hl,rfl,n,rfl⟩
    wp_walk using AutoSeq1.wpAny_loadPart' hl
    refine wpAny_stack_any fun fr=>wpAny_pure ?_
    split
    · rename_i c _ _ _ _ _
      cases (c==Value.type "enumerate")<;>(wp_walk using AutoSeq1.wpAny_loadPart' hl,wpAny_pyIter_tuple hL;exact⟨_,rfl,h⟩)
    · wp_walk using AutoSeq1.wpAny_loadPart' hl,wpAny_pyIter_tuple hL;exact⟨_,rfl,h⟩
theorem rY{t:Addr}{its:Array Value}{Q:Value->Shared->Prop}(ht:s.heap.IsTuple t its)
  (q:∀ h',IsEnum h' (s.heap.objs.size+1) s.heap.objs.size 0 .none->h'.IsTupleIter s.heap.objs.size t 0->(∀ b o,s.heap.get? b=some o->h'.get? b=some o)->Q (.ref (s.heap.objs.size+1)) { s with heap:=h' }) :
  wpAny (model prog w) A (call (.type "enumerate") [.ref t]) Q E s:=by
 obtain⟨⟨c,dd,dt,sl⟩,e,hc,n,hd⟩:=ht
 cases (show c=.type "tuple" from hc)
 cases (show dt=.seq its n from hd)
 refine callType_new F.called_enumerate (by decide) (F.typeCall_enumerate_1 _) (F.newCall_enumerate_1 _) (fun obj=>F.args_object_init_2 obj _) F.entry_enumerate_new (vC t its n dd sl) ⟨e,?_⟩
 have z:(s.heap.push (itT t)).objs.size=s.heap.objs.size+1:=Heap.size_push ..
 have en:=Heap.get?_push_size (s.heap.push (itT t)) (o:={ cls:=.type "enumerate",data:=.fields #[.none,.bool false,.ref s.heap.objs.size,rawInt 0,.none,.none] }) rfl
 rw[z] at en
 show _/\_
 rw[z]
 exact⟨⟨_,en,rfl⟩,q _ en ⟨_,Heap.get?_push_of_some _ (Heap.get?_push_size _ rfl),rfl,rfl⟩ fun b o x=>Heap.get?_push_of_some _ (Heap.get?_push_of_some _ x)⟩
end
def Ite(K:PySem.W.Frag)(t:Addr):It :=
 ⟨fun i H=>∃ xs x,SqT K H t xs/\xs[i]?=some x,fun i H v H'=>∃ p,H p=none/\v=.ref p/\∀ xs x,SqT K H t xs->xs[i]?=some x->H'=upd H p (.tup [.int (i:Int),x]),fun i H=>∃ xs,SqT K H t xs/\xs.length=i⟩
theorem sX{P:Program}{w:World}{K:PySem.W.Frag}{es:List Expr}{kt:Nat}{pt:Pos}{e it t:Addr}(d1:e≠it)(d2:e≠t)(d3:t≠it) :
  Turn P w K (.Tuple es kt pt) (Ite K t) [e,it] e (fun i h=>(∃ old,IsEnum h e it (i:Int) old)/\h.IsTupleIter it t i) where
 mem:=by simp
 obj:=fun i h q b hb=>by
  obtain⟨⟨old,q1⟩,o2,q2,_,q3⟩:=q
  simp at hb
  rcases hb with rfl | rfl
  ·exact⟨_,q1,fun v z=>by have z':Data.fields _=Data.cell v:=z;cases z'⟩
  ·exact⟨o2,q2,fun v z=>by rw[q3] at z;cases z⟩
 keep:=fun i h h' q kp=>by
  obtain⟨⟨old,q1⟩,o2,q2,q3⟩:=q
  exact⟨⟨old,kp e (by simp) _ q1⟩,o2,kp it (by simp) _ q2,q3⟩
 item:=by
  intro X hP hw hK hc i pins s σ H E I hf q hg
  subst hP hw hK
  obtain⟨xs,x,hq,hx⟩:=hg
  obtain⟨⟨old,q1⟩,q2⟩:=q
  obtain⟨its,rv,p,hz⟩:=I.tuple hq
  obtain⟨u,hu,ru⟩:=rv.get hx
  have hi:i<its.toArray.size:=by simpa using(List.getElem?_eq_some_iff.mp hu).1
  have D:=zX (prog:=X.prog) (w:=X.w) (A:=X.A.in1) (I.ok.hd hc) it t d3 its.toArray
  refine wpAny_pyNext_enum_itemD D q1 ⟨q2,(show s.heap.IsTuple t its.toArray from p)⟩ hi d1 (by simp;exact⟨d1,d2⟩) fun y h' tk hy eo st' new sz kp=>?_
  have ey:y=u:=by
   have:its[i]?=some y:=by simpa using hy
   rw[hu] at this;exact(Option.some.inj this).symm
  subst ey
  have szl:2<=sizeLine:=by decide
  have hlt:∀ c∈[e,it],c<s.heap.objs.size:=fun c hc'=>by
   simp at hc'
   rcases hc' with rfl | rfl
   ·exact Heap.lt_size q1
   ·obtain⟨o2,q2,_⟩:=q2;exact Heap.lt_size q2
  have I1:Inv X pins σ (upd H s.heap.objs.size (.tup [.int (i:Int),x])) { s with heap:=h',toks:=tk+1 }:=I.turnedNew (ch:=[e,it]) hf (fun b o hb z=>kp b o (fun q=>hb (by simp[q])) (fun q=>hb (by simp[q])) z) ⟨szl,[.int i tk,y],.cons ⟨tk,rfl⟩ (.cons ru .nil),⟨_,new,rfl,_,rfl⟩⟩
  refine⟨_,rfl,wpAny_letOwnedTupleGo_enum (s:={ s with heap:=h',toks:=tk+1 }) eo fun h2 e2 sb=>?_⟩
  obtain⟨f0,f1,f2,f3,f4,f5⟩:=hf e (by simp)
  have I2:Inv X pins σ (upd H s.heap.objs.size (.tup [.int (i:Int),x])) { s with heap:=h2,toks:=tk+1 }:=I1.turned (t':=tk+1) (fun c o hc' z=>(sb.2 c hc').trans z) (by rw[aM (Nat.ne_of_lt (hlt e (by simp)))];exact f0) f1 f3 f4 f5
  refine⟨.ref s.heap.objs.size,_,I2,rfl,⟨_,I.hok.fresh (Nat.le_refl _),rfl,fun xs' x' a1 a2=>?_⟩,⟨⟨y,by simpa using e2⟩,?_⟩,fun b hb=>by rw[aM (Nat.ne_of_lt (hlt b hb))];exact(hf b hb).1⟩
  ·have e1:=I.tuple_inj a1 hq
   subst e1
   rw[hx] at a2;cases a2;rfl
  ·obtain⟨o3,g1,g2⟩:=st'.1
   exact⟨o3,(sb.2 it d1.symm).trans g1,g2⟩
 done:=by
  intro X hP hw hK hc i pins s σ H E I hf q hg
  subst hP hw hK
  obtain⟨xs,hq,hl⟩:=hg
  obtain⟨⟨old,q1⟩,q2⟩:=q
  obtain⟨its,rv,p,hz⟩:=I.tuple hq
  have hn:its.toArray.size=i:=by rw[List.size_toArray,<- rv.length,hl]
  have D:=zX (prog:=X.prog) (w:=X.w) (A:=X.A.in1) (I.ok.hd hc) it t d3 its.toArray
  refine wpAny_pyNext_enum_endD D q1 ⟨by rw[hn];exact q2,(show s.heap.IsTuple t its.toArray from p)⟩ fun h' eb=>⟨rfl,?_⟩
  obtain⟨f0,f1,f2,f3,f4,f5⟩:=hf it (by simp)
  exact I.turned (t':=s.toks) (fun b o hb z=>eb b o hb z) f0 f1 f3 f4 f5
 self:=fun _ _ _ _ _ q h=>by obtain⟨⟨old,q1⟩,_⟩:=q;exact wpAny_pyIter_enum q1 h
section
variable {X:Cx}
def R7(K:PySem.W.Frag)(ta:TA):TI:=fun σ H R=>ta σ H fun vs H1=>∃ a,vs=[.ref a]/\(∃ xs,SqT K H1 a xs)/\R (Ite K a) H1
theorem Bu{a:Expr}{ta:TA}{p pos pt:Pos}{es:List Expr}{kt:Nat}(hg:Gl X "enumerate")(hm:X.mg "enumerate"=none)(ha:PA X [a] ta)(hs:starEach [a] X.env=[(false,eval a X.env)]) :
    PI X (.Tuple es kt pt) (.Call (.Name "enumerate" p) [a] [] pos) (R7 X.K ta):=by
  intro pins s σ H R I h
  refine Call_ (bV I hg hm (show bootBuiltins "enumerate"=some (.type "enumerate") by decide +kernel) (PyProof.Rows.callWith_type1 (thn (ha pos pins s σ H _ I h) fun us s1 ⟨vs,H1,I1,r1,q1⟩=>?_) hs rfl))
  obtain⟨a1,e,⟨xs,hx⟩,q⟩:=q1
  subst e
  cases r1 with
  | cons r rr =>
    cases rr
    cases (show _=Value.ref a1 from r)
    obtain⟨its1,rv,p1,hz⟩:=I1.tuple hx
    refine rY (show s1.heap.IsTuple a1 its1.toArray from p1) fun h' en ti kp=>?_
    refine wpAny_pyIter_enum (s:={ s1 with heap:=h' }) en ?_
    have I2:Inv X pins σ H1 { s1 with heap:=h' }:=I1.kept (t':=s1.toks) kp
    have lt1:a1<s1.heap.objs.size:=p1.lt
    refine⟨s1.heap.objs.size+1,_,_,_,H1,rfl,I2,sX (Nat.succ_ne_self _) (Nat.ne_of_gt (Nat.lt_succ_of_lt lt1)) (Nat.ne_of_lt lt1),⟨⟨_,en⟩,ti⟩,fun c hc=>?_,q⟩
    have hc':s1.heap.objs.size<=c:=by
      simp at hc
      rcases hc with h | h<;>rw[h]<;>first | exact Nat.le_refl _ | exact Nat.le_add_right _ _
    exact I1.fpOk hc' (I1.hok.fresh hc')
end
end L2
namespace L2
open PySem PySem.Spec PyProof.Rows
structure ZL (h:Heap) (z ti to i1 i2 t1 t2:Addr) (k:Nat) (f:Value):Prop where
 hz:IsZip h z ti to f
 hi:IsPair h ti (.ref i1) (.ref i2)
 ho:∃ a b,IsPair h to a b
 h1:h.IsListIter i1 t1 k
 h2:h.IsListIter i2 t2 k
theorem ZL.keep{h h':Heap}{z ti to i1 i2 t1 t2:Addr}{k:Nat}{f:Value}(x:ZL h z ti to i1 i2 t1 t2 k f)(kp:∀ b∈[z,ti,to,i1,i2],∀ o,h.get? b=some o->h'.get? b=some o):ZL h' z ti to i1 i2 t1 t2 k f :=
 ⟨kp z (by simp) _ x.hz,kp ti (by simp) _ x.hi,let ⟨a,b,e⟩:=x.ho;⟨a,b,kp to (by simp) _ e⟩,x.h1.at fun o e=>kp i1 (by simp) o e,x.h2.at fun o e=>kp i2 (by simp) o e⟩
def WQ(K:PySem.W.Frag)(t1 t2:Addr):It :=
  ⟨fun i H=>∃ us ys x y,SqL K H t1 us/\SqL K H t2 ys/\us[i]?=some x/\ys[i]?=some y,
   fun i H v H'=>∃ p,H p=none/\v=.ref p/\∀ us ys x y,SqL K H t1 us->SqL K H t2 ys->us[i]?=some x->ys[i]?=some y->H'=upd H p (.tup [x,y]),
   fun i H=>∃ us ys,SqL K H t1 us/\SqL K H t2 ys/\(us.length<=i\/ys.length<=i)⟩
theorem sU{P:Program}{w:World}{K:PySem.W.Frag}{es:List Expr}{kt:Nat}{pt:Pos}{z ti to i1 i2 t1 t2:Addr}(D:ZipApart z ti to i1 i2 t1 t2) :
    Turn P w K (.Tuple es kt pt) (WQ K t1 t2) [z,ti,to,i1,i2] z (fun i h=>ZL h z ti to i1 i2 t1 t2 i .none) where
  mem:=by simp
  obj:=fun i h st b hb=>by
    simp at hb
    rcases hb with rfl | rfl | rfl | rfl | rfl
    · exact⟨_,st.hz,fun v q=>by have q':Data.fields _=Data.cell v:=q;cases q'⟩
    · exact⟨_,st.hi,fun v q=>by have q':Data.seq _ _=Data.cell v:=q;cases q'⟩
    · obtain⟨a,c,e⟩:=st.ho
      exact⟨_,e,fun v q=>by have q':Data.seq _ _=Data.cell v:=q;cases q'⟩
    · obtain⟨o,e,_,d⟩:=st.h1
      exact⟨o,e,fun v q=>by rw[d] at q;cases q⟩
    · obtain⟨o,e,_,d⟩:=st.h2
      exact⟨o,e,fun v q=>by rw[d] at q;cases q⟩
  keep:=fun i h h' st k=>st.keep k
  item:=by
    intro X hP hw hK hc i pins s σ H E I hf st hg
    subst hP hw hK
    obtain⟨us,ys,x,y,hq1,hq2,hx,hy⟩:=hg
    obtain⟨its1,rv1,p1,_⟩:=I.list hq1
    obtain⟨its2,rv2,p2,_⟩:=I.list hq2
    obtain⟨u1,hu1,ru1⟩:=rv1.get hx
    obtain⟨u2,hu2,ru2⟩:=rv2.get hy
    obtain⟨a0,b0,ho⟩:=st.ho
    refine wpAny_pyNext_zip_item D st.hz st.hi ho st.h1 st.h2 p1.isList p2.isList (x:=u1) (y:=u2) (by simpa using hu1) (by simpa using hu2) fun h' zz hto g1 g2 pr sz kp=>?_
    have kp4:∀ c o,c∉[z,to,i1,i2]->s.heap.get? c=some o->h'.get? c=some o:=fun c o hc' e=>by
      simp only[List.mem_cons,List.not_mem_nil,or_false,not_or] at hc'
      exact kp c o hc'.1 hc'.2.1 hc'.2.2.1 hc'.2.2.2 e
    have hti:IsPair h' ti (.ref i1) (.ref i2):=kp4 ti _ (by simp[D.TIz,D.TITO,D.TIi1,D.TIi2]) st.hi
    have Z:ZL h' z ti to i1 i2 t1 t2 (i+1) (rawInt s.heap.objs.size):=⟨zz,hti,⟨_,_,hto⟩,g1,g2⟩
    have two:2<=sizeLine:=by decide
    have hf4:∀ c∈[z,to,i1,i2],nJ X pins H c:=fun c hc'=>hf c (by simp at hc' ⊢;rcases hc' with h | h | h | h<;>simp[h])
    have I1:Inv X pins σ (upd H s.heap.objs.size (.tup [x,y])) { s with heap:=h',toks:=s.toks }:=I.turnedNew hf4 kp4 ⟨two,[u1,u2],.cons ru1 (.cons ru2 .nil),⟨_,pr,rfl,_,rfl⟩⟩
    have fresh:H s.heap.objs.size=none:=I.hok.fresh (Nat.le_refl _)
    have ltf:∀ c∈[z,ti,to,i1,i2],c≠s.heap.objs.size:=fun c hc' e=>by
      simp at hc'
      have lt:c<s.heap.objs.size:=by
        rcases hc' with rfl | rfl | rfl | rfl | rfl
        · exact Heap.lt_size st.hz
        · exact Heap.lt_size st.hi
        · exact Heap.lt_size ho
        · obtain⟨o,e',_⟩:=st.h1;exact Heap.lt_size e'
        · obtain⟨o,e',_⟩:=st.h2;exact Heap.lt_size e'
      exact Nat.ne_of_lt lt e
    refine⟨_,rfl,wpAny_letOwnedTupleGo_zip (s:={ s with heap:=h' }) Z.hz fun h2 z2 sb=>?_⟩
    have fz:=hf z (by simp)
    have I2:Inv X pins σ (upd H s.heap.objs.size (.tup [x,y])) { s with heap:=h2 }:=I1.turned (t':=s.toks) (fun c o hc' e=>(sb.2 c hc').trans e) (by rw[aM (ltf z (by simp))];exact fz.1) fz.2.1 fz.2.2.2.1 fz.2.2.2.2.1 fz.2.2.2.2.2
    refine⟨.ref s.heap.objs.size,_,I2,rfl,⟨_,fresh,rfl,fun us' ys' x' y' a1 a2 a3 a4=>?_⟩,?_,fun c hc'=>by rw[aM (ltf c hc')];exact(hf c hc').1⟩
    · have e1:=I.list_inj a1 hq1
      have e2:=I.list_inj a2 hq2
      subst e1 e2
      rw[hx] at a3;rw[hy] at a4
      cases a3;cases a4
      rfl
    · obtain⟨a',b',e'⟩:=Z.ho
      exact⟨z2,(sb.2 ti D.TIz).trans Z.hi,⟨a',b',(sb.2 to D.TOz).trans e'⟩,Z.h1.at fun o e=>(sb.2 i1 D.i1z).trans e,Z.h2.at fun o e=>(sb.2 i2 D.i2z).trans e⟩
  done:=by
    intro X hP hw hK hc i pins s σ H E I hf st hg
    subst hP hw hK
    obtain⟨us,ys,hq1,hq2,hl⟩:=hg
    obtain⟨its1,rv1,p1,_⟩:=I.list hq1
    obtain⟨its2,rv2,p2,_⟩:=I.list hq2
    have l1:=rv1.length
    have l2:=rv2.length
    obtain⟨a0,b0,ho⟩:=st.ho
    refine wpAny_pyNext_zip_end (I.ok.hd hc) D st.hz st.hi ho st.h1 st.h2 p1.isList p2.isList (by
      rcases hl with h | h
      · exact .inl (by rw[List.getElem?_toArray];exact List.getElem?_eq_none (by omega))
      · exact .inr (by rw[List.getElem?_toArray];exact List.getElem?_eq_none (by omega))) fun h' kp=>⟨rfl,?_⟩
    have hf4:∀ c∈[z,to,i1,i2],nJ X pins H c:=fun c hc'=>hf c (by simp at hc' ⊢;rcases hc' with h | h | h | h<;>simp[h])
    refine I.turnedAll (t':=s.toks) hf4 fun c o hc' e=>?_
    simp only[List.mem_cons,List.not_mem_nil,or_false,not_or] at hc'
    exact kp c o hc'.1 hc'.2.1 hc'.2.2.1 hc'.2.2.2 e
  self:=fun _ _ _ _ _ st h=>wpAny_pyIter_zip st.hz h
section
variable {X:Cx}
def RZ(K:PySem.W.Frag)(ta:TA):TI:=fun σ H R=>ta σ H fun vs H1=>∃ a b,vs=[.ref a,.ref b]/\(∃ us,SqL K H1 a us)/\(∃ ys,SqL K H1 b ys)/\R (WQ K a b) H1
theorem Bs{a b:Expr}{ta:TA}{p pos pt:Pos}{es:List Expr}{kt:Nat}(hg:Gl X "zip")(hm:X.mg "zip"=none)(ha:PA X [a,b] ta)(hs:starEach [a,b] X.env=[(false,eval a X.env),(false,eval b X.env)])(hs2:starEach [b] X.env=[(false,eval b X.env)]) :
  PI X (.Tuple es kt pt) (.Call (.Name "zip" p) [a,b] [] pos) (RZ X.K ta):=by
 intro pins s σ H R I h
 refine Call_ (bV I hg hm boot_zip (PyProof.Rows.callWith_type1 (thn (ha pos pins s σ H _ I h) fun us s1 ⟨vs,H1,I1,r1,q1⟩=>?_) (by rw[hs,hs2]) (by rw[hs2];rfl)))
 obtain⟨a1,b1,e,⟨us',hx⟩,⟨ys,hy⟩,q⟩:=q1
 subst e
 obtain⟨v1,v2,rfl,r,r'⟩:=vals2 r1
 cases (show v1=Value.ref a1 from r)
 cases (show v2=Value.ref b1 from r')
 obtain⟨its1,_,p1,_⟩:=I1.list hx
 obtain⟨its2,_,p2,_⟩:=I1.list hy
 have lt1:a1<s1.heap.objs.size:=by obtain⟨_,e,_⟩:=p1.isList;exact Heap.lt_size e
 have lt2:b1<s1.heap.objs.size:=by obtain⟨_,e,_⟩:=p2.isList;exact Heap.lt_size e
 refine call_zip_2 p1.isList p2.isList fun h' g1 g2 g3 g4 g5 sz kp=>?_
 have Z:ZL h' (s1.heap.objs.size+4) (s1.heap.objs.size+2) (s1.heap.objs.size+3) s1.heap.objs.size (s1.heap.objs.size+1) a1 b1 0 .none:=⟨g1,g2,⟨_,_,g3⟩,g4,g5⟩
 refine wpAny_pyIter_zip (s:={ s1 with heap:=h' }) Z.hz ?_
 have I2:Inv X pins σ H1 { s1 with heap:=h' }:=I1.kept (t':=s1.toks) kp
 refine⟨s1.heap.objs.size+4,_,_,_,H1,rfl,I2,sU (zipApart_new lt1 lt2),Z,fun c hc=>?_,q⟩
 have hc':s1.heap.objs.size<=c:=by
  simp at hc
  rcases hc with h | h | h | h | h<;>rw[h]<;>first | exact Nat.le_refl _ | exact Nat.le_add_right _ _
 exact I1.fpOk hc' (I1.hok.fresh hc')
end
end L2
namespace L2
open PySem PySem.Spec PyProof.Rows
section
variable {prog:Program} {w:World} {A:Around} {E:Value->Shared->Prop} {s:Shared}
theorem Sv{it t:Addr}{i:Nat}{its:Array Value}{Q:Value->Shared->Prop}(hh:A.handled=none)(hit:s.heap.IsListIter it t i)(ht:s.heap.IsList t its)
  (hs:∀ x h',its[i]?=some x->h'.IsListIter it t (i+1)->Heap.SameBut it s.heap h'->Q x { s with heap:=h' })
  (he:∀ h' e,its[i]?=none->Heap.ExtBut it s.heap h'->(∃ o,h'.get? e=some o/\o.cls=.type "StopIteration")->E (.ref e) { s with heap:=h' }) :
  wpAny (model prog w) A (Builtin.SmallTypes.nextOf (.ref it)) Q E s:=by
 cases hx:its[i]? with
 | some x=>exact wpAny_nextOf_list_item hit ht hx fun h' a b=>hs x h' hx a b
 | none=>exact wpAny_nextOf_list_end hh hit ht hx fun h' e a b=>he h' e hx a b
structure ZM (h:Heap) (z ti to i1 i2 t1 t2:Addr) (k:Nat) (f:Value):Prop where
 hz:IsZip h z ti to f
 hi:IsPair h ti (.ref i1) (.ref i2)
 ho:∃ a b,IsPair h to a b
 h1:h.IsListIter i1 t1 k
 h2:h.IsTupleIter i2 t2 k
theorem ZM.keep{h h':Heap}{z ti to i1 i2 t1 t2:Addr}{k:Nat}{f:Value}(x:ZM h z ti to i1 i2 t1 t2 k f)(kp:∀ b∈[z,ti,to,i1,i2],∀ o,h.get? b=some o->h'.get? b=some o):ZM h' z ti to i1 i2 t1 t2 k f :=
 ⟨kp z (by simp) _ x.hz,kp ti (by simp) _ x.hi,let ⟨a,b,e⟩:=x.ho;⟨a,b,kp to (by simp) _ e⟩,x.h1.at fun o e=>kp i1 (by simp) o e,x.h2.at fun o e=>kp i2 (by simp) o e⟩
theorem sE{z ti to i1 i2 t1 t2:Addr}{k:Nat}{xs ys:Array Value}{Q:Fin->Shared->Prop}(hh:A.handled=none)(D:ZipApart z ti to i1 i2 t1 t2)(hZ:ZM s.heap z ti to i1 i2 t1 t2 k .none)
    (ht1:s.heap.IsList t1 xs) (ht2:s.heap.IsTuple t2 ys)
    (hs:∀ x y h',xs[k]?=some x->ys[k]?=some y->ZM h' z ti to i1 i2 t1 t2 (k+1) (rawInt s.heap.objs.size)->IsPair h' s.heap.objs.size x y->h'.objs.size=s.heap.objs.size+1 ->
      (∀ c o,c∉[z,to,i1,i2]->s.heap.get? c=some o->h'.get? c=some o)->Q (.done (.ret (.ref s.heap.objs.size))) { s with heap:=h' })
    (he:∀ h' e,(xs[k]?=none\/ys[k]?=none)->(∀ c o,c∉[z,to,i1,i2]->s.heap.get? c=some o->h'.get? c=some o)->(∃ o,h'.get? e=some o/\o.cls=.type "StopIteration")->E (.ref e) { s with heap:=h' }) :
    wpAny (model prog w) A (Builtin.«zip.__next__» ⟨[.ref z],[]⟩) Q E s:=by
  obtain⟨hz,hi,⟨a,b,ho⟩,h1,h2⟩:=hZ
  show wpAny _ _ (field (.ref z) 2 >>=_) _ _ _;refine wpAny_bind (wpAny_field hz rfl (x:=.bool false) rfl ?_)
  show wpAny _ _ (field (.ref z) 3 >>=_) _ _ _;refine wpAny_bind (wpAny_field hz rfl (x:=.ref ti) rfl (wpAny_bind (wpAny_seqItems hi rfl ?_)))
  show wpAny _ _ (Builtin.SmallTypes.ownedTupleIsFree (.ref z) >>=_) _ _ _
  unfold Builtin.SmallTypes.ownedTupleIsFree
  refine wpAny_bind (wpAny_bind (wpAny_field hz rfl (x:=.none) rfl (wpAny_pure ?_)))
  simp only[if_true]
  refine wpAny_bind (wpAny_rule (wpAny_bind (wpAny_field hz rfl (x:=.ref to) rfl (wpAny_bind (wpAny_setField_rec hz (by simp) fun ha za sa=>?_)))))
  replace za:IsZip ha z ti to .ellipsis:=za
  refine wpAny_bind ?_
  simp only[List.zipIdx_cons,List.zipIdx_nil,List.forIn_cons,List.forIn_nil]
  refine wpAny_bind (wpAny_bind (wpAny_onRaise ?_))
  have ne4:∀ {c:Addr},c∉[z,to,i1,i2]->c≠z/\c≠to/\c≠i1/\c≠i2:=fun hc=>by simpa using hc
  show wpAny _ _ (Builtin.SmallTypes.nextOf (.ref i1) >>=_) _ _ _
  refine wpAny_bind (Sv hh (h1.extBut sa.extBut D.i1z) (ht1.extBut sa.extBut D.l1z) (fun x hb hx itb sb=>wpAny_pure ?_) fun hb e hx eb ⟨oe,oe1,oe2⟩=>?_)
  · have tob:IsPair hb to a b:=sb.extBut _ _ D.TOi1 (sa.extBut _ _ D.TOz ho)
    refine wpAny_bind (wpAny_seqItems tob rfl (wpAny_bind (wpAny_updateSeq_pair tob fun hc toc sc=>wpAny_bind (wpAny_letGo (wpAny_pure ?_)))))
    replace toc:IsPair hc to x b:=toc
    refine wpAny_bind (wpAny_bind (wpAny_onRaise ?_))
    have h2c:hc.IsTupleIter i2 t2 k:=((h2.extBut sa.extBut D.i2z).extBut sb.extBut D.i12.symm).extBut sc.extBut D.TOi2.symm
    have t2c:hc.IsTuple t2 ys:=((ht2.extBut sa.extBut D.l2z).extBut sb.extBut D.l2i1).extBut sc.extBut D.l2TO
    show wpAny _ _ (Builtin.SmallTypes.nextOf (.ref i2) >>=_) _ _ _
    refine wpAny_bind (vJ hh h2c t2c (fun y hd hy itd sd=>wpAny_pure ?_) fun hd e hy ed ⟨oe,oe1,oe2⟩=>?_)
    · have tod:IsPair hd to x b:=sd.extBut _ _ D.TOi2 toc
      refine wpAny_bind (wpAny_seqItems tod rfl (wpAny_bind (wpAny_updateSeq_pair tod fun hf tof sf=>wpAny_bind (wpAny_letGo (wpAny_pure (wpAny_pure ?_))))))
      replace tof:IsPair hf to x y:=tof
      refine wpAny_bind (wpAny_seqItems tof rfl (wpAny_bind (wpAny_newTuple ?_)))
      have szf:hf.objs.size=s.heap.objs.size:=by rw[sf.1,sd.1,sc.1,sb.1,sa.1]
      have zf:IsZip hf z ti to .ellipsis:=sf.extBut _ _ D.TOz.symm (sd.extBut _ _ D.i2z.symm (sc.extBut _ _ D.TOz.symm (sb.extBut _ _ D.i1z.symm za)))
      have kf:∀ c o,c∉[z,to,i1,i2]->s.heap.get? c=some o->hf.get? c=some o:=fun c o hc' e=>by
        obtain⟨c1,c2,c3,c4⟩:=ne4 hc'
        exact sf.extBut _ _ c2 (sd.extBut _ _ c4 (sc.extBut _ _ c2 (sb.extBut _ _ c3 (sa.extBut _ _ c1 e))))
      have i1f:hf.IsListIter i1 t1 (k+1):=((itb.extBut sc.extBut D.TOi1.symm).extBut sd.extBut D.i12).extBut sf.extBut D.TOi1.symm
      have i2f:hf.IsTupleIter i2 t2 (k+1):=itd.extBut sf.extBut D.TOi2.symm
      have tif:IsPair hf ti (.ref i1) (.ref i2):=sf.extBut _ _ D.TITO (sd.extBut _ _ D.TIi2 (sc.extBut _ _ D.TITO (sb.extBut _ _ D.TIi1 (sa.extBut _ _ D.TIz hi))))
      have zlt:z<hf.objs.size:=Heap.lt_size zf
      show wpAny _ _ (Builtin.SmallTypes.ownedTupleHandOut (.ref z) (.ref hf.objs.size) >>=_) _ _ _
      unfold Builtin.SmallTypes.ownedTupleHandOut
      have zg:IsZip (hf.push { cls:=.type "tuple",data:=.seq #[x,y] }) z ti to .ellipsis:=Heap.get?_push_of_some _ zf
      refine wpAny_bind (wpAny_bind (wpAny_setField_rec zg (by simp) fun hk zk sk=>wpAny_setField_rec (show IsZip hk z ti to (rawInt hf.objs.size) from zk) (by simp) fun hm zm sm=>wpAny_pure ?_))
      replace zm:IsZip hm z ti to (rawInt hf.objs.size):=zm
      have up:∀ c o,c≠z->hf.get? c=some o->hm.get? c=some o:=fun c o c1 e=>sm.extBut _ _ c1 (sk.extBut _ _ c1 (Heap.get?_push_of_some _ e))
      have new:IsPair hm hf.objs.size x y:=sm.extBut _ _ (Nat.ne_of_gt zlt) (sk.extBut _ _ (Nat.ne_of_gt zlt) (Heap.get?_push_size _ rfl))
      have szm:hm.objs.size=hf.objs.size+1:=by rw[sm.1,sk.1,Heap.size_push]
      have q:=hs x y hm hx hy ⟨by rw[<- szf];exact zm,up _ _ D.TIz tif,⟨x,y,up _ _ D.TOz tof⟩,i1f.at fun o e=>up _ o D.i1z e,i2f.at fun o e=>up _ o D.i2z e⟩ (by rw[<- szf];exact new) (by rw[szm,szf]) fun c o hc' e=>up c o (ne4 hc').1 (kf c o hc' e)
      rw[<- szf] at q
      exact q
    · have zd:IsZip hd z ti to .ellipsis:=ed _ _ D.i2z.symm (sc.extBut _ _ D.TOz.symm (sb.extBut _ _ D.i1z.symm za))
      have ez:e≠z:=fun q=>by subst q;rw[zd] at oe1;cases oe1;simp at oe2
      refine wpAny_setField_rec zd (by simp) fun hf _ sf=>he hf e (.inr hy) (fun c o hc' q=>?_) ⟨oe,sf.extBut _ _ ez oe1,oe2⟩
      obtain⟨c1,c2,c3,c4⟩:=ne4 hc'
      exact sf.extBut _ _ c1 (ed _ _ c4 (sc.extBut _ _ c2 (sb.extBut _ _ c3 (sa.extBut _ _ c1 q))))
  · have zb:IsZip hb z ti to .ellipsis:=eb _ _ D.i1z.symm za
    have ez:e≠z:=fun q=>by subst q;rw[zb] at oe1;cases oe1;simp at oe2
    refine wpAny_setField_rec zb (by simp) fun hf _ sf=>he hf e (.inl hx) (fun c o hc' q=>?_) ⟨oe,sf.extBut _ _ ez oe1,oe2⟩
    obtain⟨c1,c2,c3,c4⟩:=ne4 hc'
    exact sf.extBut _ _ c1 (eb _ _ c3 (sa.extBut _ _ c1 q))
theorem iV{z ti to i1 i2 t1 t2:Addr}{k:Nat}{xs ys:Array Value}{Q:Option Value->Shared->Prop}(hh:A.handled=none)(D:ZipApart z ti to i1 i2 t1 t2)(hZ:ZM s.heap z ti to i1 i2 t1 t2 k .none)
    (ht1:s.heap.IsList t1 xs) (ht2:s.heap.IsTuple t2 ys)
    (hs:∀ x y h',xs[k]?=some x->ys[k]?=some y->ZM h' z ti to i1 i2 t1 t2 (k+1) (rawInt s.heap.objs.size)->IsPair h' s.heap.objs.size x y->h'.objs.size=s.heap.objs.size+1 ->
      (∀ c o,c∉[z,to,i1,i2]->s.heap.get? c=some o->h'.get? c=some o)->Q (some (.ref s.heap.objs.size)) { s with heap:=h' })
    (he:∀ h',(xs[k]?=none\/ys[k]?=none)->(∀ c o,c∉[z,to,i1,i2]->s.heap.get? c=some o->h'.get? c=some o)->Q none { s with heap:=h' }) :
    wpAny (model prog w) A (pyNext (.ref z)) Q E s:=by
  have hT:s.TypeIs (.ref z) "zip":=⟨_,hZ.hz,rfl⟩
  unfold pyNext
  refine wpAny_bind (wpAny_attempt (wpAny_callSpecial?_slot (name:=Str.ofString "__next__") hT F.slot_zip_next (wpAny_call_entry F.slot_zip_next hT F.entry_zip_next
    (sE hh D hZ ht1 ht2 (fun x y h' a1 a2 a3 a4 a5 a6=>⟨_,rfl,wpAny_pure (hs x y h' a1 a2 a3 a4 a5 a6)⟩) fun h' e a1 a2 ⟨o,e1,e2⟩=>?_) (F.args_zip_next_1 _))))
  exact wpAny_bind (wpAny_isInstance (T:="StopIteration") (b:=true) ⟨o,e1,e2⟩ isSubtype_stop (wpAny_pure (he h' a1 a2)))
abbrev itL(t:Addr):Obj:={ cls:=.type "list_iterator",data:=.fields #[.ref t,.int 0 0] }
theorem Ae(hp H1 H2 H3 H4 H5:Heap)(t1 t2:Addr)(e1:H1=hp.push (itL t1))(e2:H2=H1.push (itT t2))(e3:H3=H2.push { cls:=.type "tuple",data:=.seq #[.ref hp.objs.size,.ref H1.objs.size] })(e4:H4=H3.push { cls:=.type "tuple",data:=.seq #[.none,.none] })
  (e5:H5=H4.push { cls:=.type "zip",data:=.fields #[.none,.bool false,.bool false,.ref H2.objs.size,.ref H3.objs.size] }) :
  H4.objs.size=hp.objs.size+4/\H5.objs.size=hp.objs.size+5/\(∀ c o,hp.get? c=some o->H5.get? c=some o)/\ZM H5 (hp.objs.size+4) (hp.objs.size+2) (hp.objs.size+3) hp.objs.size (hp.objs.size+1) t1 t2 0 .none:=by
 have z1:H1.objs.size=hp.objs.size+1:=by rw[e1,Heap.size_push]
 have z2:H2.objs.size=hp.objs.size+2:=by rw[e2,Heap.size_push,z1]
 have z3:H3.objs.size=hp.objs.size+3:=by rw[e3,Heap.size_push,z2]
 have z4:H4.objs.size=hp.objs.size+4:=by rw[e4,Heap.size_push,z3]
 have z5:H5.objs.size=hp.objs.size+5:=by rw[e5,Heap.size_push,z4]
 have k5:∀ c o,H4.get? c=some o->H5.get? c=some o:=fun c o e=>by rw[e5];exact Heap.get?_push_of_some _ e
 have k4:∀ c o,H3.get? c=some o->H5.get? c=some o:=fun c o e=>k5 c o (by rw[e4];exact Heap.get?_push_of_some _ e)
 have k3:∀ c o,H2.get? c=some o->H5.get? c=some o:=fun c o e=>k4 c o (by rw[e3];exact Heap.get?_push_of_some _ e)
 have k2:∀ c o,H1.get? c=some o->H5.get? c=some o:=fun c o e=>k3 c o (by rw[e2];exact Heap.get?_push_of_some _ e)
 have k1:∀ c o,hp.get? c=some o->H5.get? c=some o:=fun c o e=>k2 c o (by rw[e1];exact Heap.get?_push_of_some _ e)
 refine⟨z4,z5,k1,?_,?_,⟨.none,.none,?_⟩,⟨_,k2 _ _ (by rw[e1];exact Heap.get?_push_size _ rfl),rfl,rfl⟩,⟨_,k3 _ _ (by rw[e2,<- z1];exact Heap.get?_push_size _ rfl),rfl,rfl⟩⟩
 ·have q:H5.get? H4.objs.size=some { cls:=.type "zip",data:=.fields #[.none,.bool false,.bool false,.ref H2.objs.size,.ref H3.objs.size] }:=by rw[e5];exact Heap.get?_push_size _ rfl
  rw[z2,z3,z4] at q
  exact q
 ·have q:H5.get? H2.objs.size=some { cls:=.type "tuple",data:=.seq #[.ref hp.objs.size,.ref H1.objs.size] }:=k4 _ _ (by rw[e3];exact Heap.get?_push_size _ rfl)
  rw[z1,z2] at q
  exact q
 ·have q:H5.get? H3.objs.size=some { cls:=.type "tuple",data:=.seq #[.none,.none] }:=k5 _ _ (by rw[e4];exact Heap.get?_push_size _ rfl)
  rw[z3] at q
  exact q
theorem wJ(t1 t2:Addr)(xs ys:Array Value) :
    Meets (Builtin.«zip.__new__» ⟨[.type "zip",.ref t1,.ref t2],[]⟩) (fun _ R s=>s.heap.IsList t1 xs/\s.heap.IsTuple t2 ys /\
      ∀ h', (∀ c o, s.heap.get? c = some o -> h'.get? c = some o) -> h'.objs.size = s.heap.objs.size + 5 -> ZM h' (s.heap.objs.size + 4) (s.heap.objs.size + 2) (s.heap.objs.size + 3) s.heap.objs.size (s.heap.objs.size + 1) t1 t2 0 .none ->
        R (.ok (.ret (.ref (s.heap.objs.size+4)))) { s with heap:=h' }) :=
  .of_wp fun prog w A R s h=>by
    obtain⟨hp,g,d,tk,os⟩:=s;obtain⟨hl1,hl2,h⟩:=h
    have hsub:=sub_zip
    have hL1:Heap.IsList (Shared.heap ⟨hp,g,d,tk,os⟩) t1 xs:=hl1
    have hL2:Heap.IsTuple (Shared.heap ⟨hp.push (itL t1),g,d,tk,os⟩) t2 ys:=let ⟨o,e,r⟩:=hl2;⟨o,Heap.get?_push_of_some _ e,r⟩
    wp_walk using wpAny_pyIter_list hL1,wpAny_pyIter_tuple hL2
    refine⟨_,rfl,?_⟩
    obtain⟨z4,z5,kp,Z⟩:=Ae hp _ _ _ _ _ t1 t2 rfl rfl rfl rfl rfl
    have q:=h _ kp z5 Z
    rw[<- z4] at q
    exact q
theorem vQ{t1 t2:Addr}{xs ys:Array Value}{Q:Value->Shared->Prop}(hl1:s.heap.IsList t1 xs)(hl2:s.heap.IsTuple t2 ys)
    (h:∀ h',(∀ c o,s.heap.get? c=some o->h'.get? c=some o)->h'.objs.size=s.heap.objs.size+5->ZM h' (s.heap.objs.size+4) (s.heap.objs.size+2) (s.heap.objs.size+3) s.heap.objs.size (s.heap.objs.size+1) t1 t2 0 .none ->
      Q (.ref (s.heap.objs.size+4)) { s with heap:=h' }):wpAny (model prog w) A (call (.type "zip") [.ref t1,.ref t2]) Q E s:=by
  refine callType_new F.called_zip (by decide) (F.typeCall_zip_2 _ _) (F.newCall_zip_2 _ _) (fun obj=>F.args_object_init_3 obj _ _) F.entry_zip_new (wJ t1 t2 xs ys) ⟨hl1,hl2,fun h' kp z5 Z=>?_⟩
  exact⟨⟨_,Z.hz,rfl⟩,h h' kp z5 Z⟩
end
def WM(K:PySem.W.Frag)(t1 t2:Addr):It :=
  ⟨fun i H=>∃ xs ys x y,SqL K H t1 xs/\SqT K H t2 ys/\xs[i]?=some x/\ys[i]?=some y,
   fun i H v H'=>∃ p,H p=none/\v=.ref p/\∀ xs ys x y,SqL K H t1 xs->SqT K H t2 ys->xs[i]?=some x->ys[i]?=some y->H'=upd H p (.tup [x,y]),
   fun i H=>∃ xs ys,SqL K H t1 xs/\SqT K H t2 ys/\(xs.length<=i\/ys.length<=i)⟩
theorem sS{P:Program}{w:World}{K:PySem.W.Frag}{es:List Expr}{kt:Nat}{pt:Pos}{z ti to i1 i2 t1 t2:Addr}(D:ZipApart z ti to i1 i2 t1 t2) :
    Turn P w K (.Tuple es kt pt) (WM K t1 t2) [z,ti,to,i1,i2] z (fun i h=>ZM h z ti to i1 i2 t1 t2 i .none) where
  mem:=by simp
  obj:=fun i h st b hb=>by
    simp at hb
    rcases hb with rfl | rfl | rfl | rfl | rfl
    · exact⟨_,st.hz,fun v q=>by have q':Data.fields _=Data.cell v:=q;cases q'⟩
    · exact⟨_,st.hi,fun v q=>by have q':Data.seq _ _=Data.cell v:=q;cases q'⟩
    · obtain⟨a,c,e⟩:=st.ho
      exact⟨_,e,fun v q=>by have q':Data.seq _ _=Data.cell v:=q;cases q'⟩
    · obtain⟨o,e,_,d⟩:=st.h1
      exact⟨o,e,fun v q=>by rw[d] at q;cases q⟩
    · obtain⟨o,e,_,d⟩:=st.h2
      exact⟨o,e,fun v q=>by rw[d] at q;cases q⟩
  keep:=fun i h h' st k=>st.keep k
  item:=by
    intro X hP hw hK hc i pins s σ H E I hf st hg
    subst hP hw hK
    obtain⟨xs,ys,x,y,hq1,hq2,hx,hy⟩:=hg
    obtain⟨its1,rv1,p1,_⟩:=I.list hq1
    obtain⟨its2,rv2,p2,_⟩:=I.tuple hq2
    obtain⟨u1,hu1,ru1⟩:=rv1.get hx
    obtain⟨u2,hu2,ru2⟩:=rv2.get hy
    refine iV (I.ok.hd hc) D st p1.isList (show s.heap.IsTuple t2 its2.toArray from p2) (fun a b h' ha hb Z pr sz kp=>?_) fun h' hn _=>?_
    · have ea : a = u1 := by have : its1[i]? = some a := by simpa using ha
                             rw[hu1] at this;exact(Option.some.inj this).symm
      have eb : b = u2 := by have : its2[i]? = some b := by simpa using hb
                             rw[hu2] at this;exact(Option.some.inj this).symm
      subst ea eb
      have szl:2<=sizeLine:=by decide
      have hf4:∀ c∈[z,to,i1,i2],nJ X pins H c:=fun c hc'=>hf c (by simp at hc' ⊢;rcases hc' with h | h | h | h<;>simp[h])
      have I1:Inv X pins σ (upd H s.heap.objs.size (.tup [x,y])) { s with heap:=h',toks:=s.toks }:=I.turnedNew hf4 kp ⟨szl,[a,b],.cons ru1 (.cons ru2 .nil),⟨_,pr,rfl,_,rfl⟩⟩
      have fresh:H s.heap.objs.size=none:=I.hok.fresh (Nat.le_refl _)
      have ltf:∀ c∈[z,ti,to,i1,i2],c≠s.heap.objs.size:=fun c hc' e=>by
        have:H c=none:=(hf c hc').1
        simp at hc'
        have lt:c<s.heap.objs.size:=by
          rcases hc' with rfl | rfl | rfl | rfl | rfl
          · exact Heap.lt_size st.hz
          · exact Heap.lt_size st.hi
          · obtain⟨_,_,e'⟩:=st.ho;exact Heap.lt_size e'
          · obtain⟨o,e',_⟩:=st.h1;exact Heap.lt_size e'
          · obtain⟨o,e',_⟩:=st.h2;exact Heap.lt_size e'
        exact Nat.ne_of_lt lt e
      refine⟨_,rfl,wpAny_letOwnedTupleGo_zip (s:={ s with heap:=h' }) Z.hz fun h2 z2 sb=>?_⟩
      have fz:=hf z (by simp)
      have I2:Inv X pins σ (upd H s.heap.objs.size (.tup [x,y])) { s with heap:=h2 }:=I1.turned (t':=s.toks) (fun c o hc' e=>(sb.2 c hc').trans e) (by rw[aM (ltf z (by simp))];exact fz.1) fz.2.1 fz.2.2.2.1 fz.2.2.2.2.1 fz.2.2.2.2.2
      refine⟨.ref s.heap.objs.size,_,I2,rfl,⟨_,fresh,rfl,fun xs' ys' x' y' a1 a2 a3 a4=>?_⟩,?_,fun c hc'=>by rw[aM (ltf c hc')];exact(hf c hc').1⟩
      · have e1:=I.list_inj a1 hq1
        have e2:=I.tuple_inj a2 hq2
        subst e1 e2
        rw[hx] at a3;rw[hy] at a4
        cases a3;cases a4
        rfl
      · obtain⟨a',b',e'⟩:=Z.ho
        exact⟨z2,(sb.2 ti D.TIz).trans Z.hi,⟨a',b',(sb.2 to D.TOz).trans e'⟩,Z.h1.at fun o e=>(sb.2 i1 D.i1z).trans e,Z.h2.at fun o e=>(sb.2 i2 D.i2z).trans e⟩
    · rcases hn with hn | hn
      · have:its1[i]?=none:=by simpa using hn
        rw[hu1] at this;cases this
      · have:its2[i]?=none:=by simpa using hn
        rw[hu2] at this;cases this
  done:=by
    intro X hP hw hK hc i pins s σ H E I hf st hg
    subst hP hw hK
    obtain⟨xs,ys,hq1,hq2,hl⟩:=hg
    obtain⟨its1,rv1,p1,_⟩:=I.list hq1
    obtain⟨its2,rv2,p2,_⟩:=I.tuple hq2
    have l1:=rv1.length
    have l2:=rv2.length
    refine iV (I.ok.hd hc) D st p1.isList (show s.heap.IsTuple t2 its2.toArray from p2) (fun a b h' ha hb Z pr sz kp=>?_) fun h' _ kp=>⟨rfl,?_⟩
    · exfalso
      have h1 : i < its1.length := by have : its1[i]? = some a := by simpa using ha
                                      exact(List.getElem?_eq_some_iff.mp this).1
      have h2 : i < its2.length := by have : its2[i]? = some b := by simpa using hb
                                      exact(List.getElem?_eq_some_iff.mp this).1
      omega
    · have hf4:∀ c∈[z,to,i1,i2],nJ X pins H c:=fun c hc'=>hf c (by simp at hc' ⊢;rcases hc' with h | h | h | h<;>simp[h])
      exact I.turnedAll (t':=s.toks) hf4 kp
  self:=fun _ _ _ _ _ st h=>wpAny_pyIter_zip st.hz h
section
variable {X:Cx}
def RX(K:PySem.W.Frag)(ta:TA):TI:=fun σ H R=>ta σ H fun vs H1=>∃ a b,vs=[.ref a,.ref b]/\(∃ xs,SqL K H1 a xs)/\(∃ ys,SqT K H1 b ys)/\R (WM K a b) H1
theorem Br{a b:Expr}{ta:TA}{p pos pt:Pos}{es:List Expr}{kt:Nat}(hg:Gl X "zip")(hm:X.mg "zip"=none)(ha:PA X [a,b] ta)(hs:starEach [a,b] X.env=[(false,eval a X.env),(false,eval b X.env)])(hs2:starEach [b] X.env=[(false,eval b X.env)]) :
    PI X (.Tuple es kt pt) (.Call (.Name "zip" p) [a,b] [] pos) (RX X.K ta):=by
  intro pins s σ H R I h
  refine Call_ (bV I hg hm boot_zip (PyProof.Rows.callWith_type1 (thn (ha pos pins s σ H _ I h) fun us s1 ⟨vs,H1,I1,r1,q1⟩=>?_) (by rw[hs,hs2]) (by rw[hs2];rfl)))
  obtain⟨a1,b1,e,⟨xs,hx⟩,⟨ys,hy⟩,q⟩:=q1
  subst e
  cases r1 with
  | cons r rr =>
    cases rr with
    | cons r' rr =>
      cases rr
      cases (show _=Value.ref a1 from r)
      cases (show _=Value.ref b1 from r')
      obtain⟨its1,_,p1,_⟩:=I1.list hx
      obtain⟨its2,_,p2,_⟩:=I1.tuple hy
      refine vQ p1.isList (show s1.heap.IsTuple b1 its2.toArray from p2) fun h' kp sz Z=>?_
      refine wpAny_pyIter_zip (s:={ s1 with heap:=h' }) Z.hz ?_
      have I2:Inv X pins σ H1 { s1 with heap:=h' }:=I1.kept (t':=s1.toks) kp
      refine⟨s1.heap.objs.size+4,_,_,_,H1,rfl,I2,sS (zipApart_new (by obtain⟨_,e,_⟩:=p1.isList;exact Heap.lt_size e) p2.lt),Z,fun c hc=>?_,q⟩
      have hc':s1.heap.objs.size<=c:=by
        simp at hc
        rcases hc with h | h | h | h | h<;>rw[h]<;>first | exact Nat.le_refl _ | exact Nat.le_add_right _ _
      exact I1.fpOk hc' (I1.hok.fresh hc')
end
end L2
namespace L2
open PySem PySem.Spec PyProof.Rows
section
variable {prog:Program} {w:World} {A:Around} {E:Value->Shared->Prop} {s:Shared}
end
section
variable {X:Cx}
end
end L2
namespace L2
open PySem PySem.Spec PyProof.Rows
def WT(K:PySem.W.Frag)(t:Addr):It :=
 ⟨fun i H=>∃ us x,SqL K H t us/\us[i]?=some x,fun i H v H'=>∃ p,H p=none/\v=.ref p/\∀ us x,SqL K H t us->us[i]?=some x->H'=upd H p (.tup [.int (i:Int),x]),fun i H=>∃ us,SqL K H t us/\us.length=i⟩
theorem qQ{P:Program}{w:World}{K:PySem.W.Frag}{es:List Expr}{kt:Nat}{pt:Pos}{e it t:Addr}(d1:e≠it)(d2:e≠t)(d3:t≠it) :
  Turn P w K (.Tuple es kt pt) (WT K t) [e,it] e (fun i h=>(∃ old,IsEnum h e it (i:Int) old)/\h.IsListIter it t i) where
 mem:=by simp
 obj:=fun i h q b hb=>by
  obtain⟨⟨old,q1⟩,o2,q2,_,q3⟩:=q
  simp at hb
  rcases hb with rfl | rfl
  ·exact⟨_,q1,fun v z=>by have z':Data.fields _=Data.cell v:=z;cases z'⟩
  ·exact⟨o2,q2,fun v z=>by rw[q3] at z;cases z⟩
 keep:=fun i h h' q kp=>by
  obtain⟨⟨old,q1⟩,o2,q2,q3⟩:=q
  exact⟨⟨old,kp e (by simp) _ q1⟩,o2,kp it (by simp) _ q2,q3⟩
 item:=by
  intro X hP hw hK hc i pins s σ H E I hf q hg
  subst hP hw hK
  obtain⟨us,x,hq,hx⟩:=hg
  obtain⟨⟨old,q1⟩,q2⟩:=q
  obtain⟨its,rv,p,hz⟩:=I.list hq
  obtain⟨u,hu,ru⟩:=rv.get hx
  have hi:i<its.toArray.size:=by simpa using(List.getElem?_eq_some_iff.mp hu).1
  have D:=Draws.list (prog:=X.prog) (w:=X.w) (A:=X.A.in1) (I.ok.hd hc) it t d3 its.toArray
  refine wpAny_pyNext_enum_itemD D q1 ⟨q2,p.isList⟩ hi d1 (by simp;exact⟨d1,d2⟩) fun y h' tk hy eo st' new sz kp=>?_
  have ey:y=u:=by
   have:its[i]?=some y:=by simpa using hy
   rw[hu] at this;exact(Option.some.inj this).symm
  subst ey
  have szl:2<=sizeLine:=by decide
  have hlt:∀ c∈[e,it],c<s.heap.objs.size:=fun c hc'=>by
   simp at hc'
   rcases hc' with rfl | rfl
   ·exact Heap.lt_size q1
   ·obtain⟨o2,q2,_⟩:=q2;exact Heap.lt_size q2
  have I1:Inv X pins σ (upd H s.heap.objs.size (.tup [.int (i:Int),x])) { s with heap:=h',toks:=tk+1 }:=I.turnedNew (ch:=[e,it]) hf (fun b o hb z=>kp b o (fun q=>hb (by simp[q])) (fun q=>hb (by simp[q])) z) ⟨szl,[.int i tk,y],.cons ⟨tk,rfl⟩ (.cons ru .nil),⟨_,new,rfl,_,rfl⟩⟩
  refine⟨_,rfl,wpAny_letOwnedTupleGo_enum (s:={ s with heap:=h',toks:=tk+1 }) eo fun h2 e2 sb=>?_⟩
  obtain⟨f0,f1,f2,f3,f4,f5⟩:=hf e (by simp)
  have I2:Inv X pins σ (upd H s.heap.objs.size (.tup [.int (i:Int),x])) { s with heap:=h2,toks:=tk+1 }:=I1.turned (t':=tk+1) (fun c o hc' z=>(sb.2 c hc').trans z) (by rw[aM (Nat.ne_of_lt (hlt e (by simp)))];exact f0) f1 f3 f4 f5
  refine⟨.ref s.heap.objs.size,_,I2,rfl,⟨_,I.hok.fresh (Nat.le_refl _),rfl,fun us' x' a1 a2=>?_⟩,⟨⟨y,by simpa using e2⟩,?_⟩,fun b hb=>by rw[aM (Nat.ne_of_lt (hlt b hb))];exact(hf b hb).1⟩
  ·have e1:=I.list_inj a1 hq
   subst e1
   rw[hx] at a2;cases a2;rfl
  ·obtain⟨o3,g1,g2⟩:=st'.1
   exact⟨o3,(sb.2 it d1.symm).trans g1,g2⟩
 done:=by
  intro X hP hw hK hc i pins s σ H E I hf q hg
  subst hP hw hK
  obtain⟨us,hq,hl⟩:=hg
  obtain⟨⟨old,q1⟩,q2⟩:=q
  obtain⟨its,rv,p,hz⟩:=I.list hq
  have hn:its.toArray.size=i:=by rw[List.size_toArray,<- rv.length,hl]
  have D:=Draws.list (prog:=X.prog) (w:=X.w) (A:=X.A.in1) (I.ok.hd hc) it t d3 its.toArray
  refine wpAny_pyNext_enum_endD D q1 ⟨by rw[hn];exact q2,p.isList⟩ fun h' eb=>⟨rfl,?_⟩
  obtain⟨f0,f1,f2,f3,f4,f5⟩:=hf it (by simp)
  exact I.turned (t':=s.toks) (fun b o hb z=>eb b o hb z) f0 f1 f3 f4 f5
 self:=fun _ _ _ _ _ q h=>by obtain⟨⟨old,q1⟩,_⟩:=q;exact wpAny_pyIter_enum q1 h
section
variable {X:Cx}
def HY(K:PySem.W.Frag)(ta:TA):TI:=fun σ H R=>ta σ H fun vs H1=>∃ a,vs=[.ref a]/\(∃ us,SqL K H1 a us)/\R (WT K a) H1
theorem xK{a:Expr}{ta:TA}{p pos pt:Pos}{es:List Expr}{kt:Nat}(hg:Gl X "enumerate")(hm:X.mg "enumerate"=none)(ha:PA X [a] ta)(hs:starEach [a] X.env=[(false,eval a X.env)]) :
    PI X (.Tuple es kt pt) (.Call (.Name "enumerate" p) [a] [] pos) (HY X.K ta):=by
  intro pins s σ H R I h
  refine Call_ (bV I hg hm (show bootBuiltins "enumerate"=some (.type "enumerate") by decide +kernel) (PyProof.Rows.callWith_type1 (thn (ha pos pins s σ H _ I h) fun us s1 ⟨vs,H1,I1,r1,q1⟩=>?_) hs rfl))
  obtain⟨a1,e,⟨us,hx⟩,q⟩:=q1
  subst e
  cases r1 with
  | cons r rr =>
    cases rr
    cases (show _=Value.ref a1 from r)
    obtain⟨its1,rv,p1,hz⟩:=I1.list hx
    refine call_enumerate_list p1.isList fun h' en ti _ kp=>?_
    refine wpAny_pyIter_enum (s:={ s1 with heap:=h' }) en ?_
    have I2:Inv X pins σ H1 { s1 with heap:=h' }:=I1.kept (t':=s1.toks) kp
    have lt1:a1<s1.heap.objs.size:=by obtain⟨_,e,_⟩:=p1.isList;exact Heap.lt_size e
    refine⟨s1.heap.objs.size+1,_,_,_,H1,rfl,I2,qQ (Nat.succ_ne_self _) (Nat.ne_of_gt (Nat.lt_succ_of_lt lt1)) (Nat.ne_of_lt lt1),⟨⟨_,en⟩,ti⟩,fun c hc=>?_,q⟩
    have hc':s1.heap.objs.size<=c:=by
      simp at hc
      rcases hc with h | h<;>rw[h]<;>first | exact Nat.le_refl _ | exact Nat.le_add_right _ _
    exact I1.fpOk hc' (I1.hok.fresh hc')
end
end L2
namespace L2
open PySem PySem.Spec PyProof.Rows
theorem iz:fillsNumberSlot (.type "tuple") "mul"=pure false :=
 PySem.fillsNumberSlot_seq (id:="tuple.__mul__") (r:=some (.builtin "tuple.__rmul__")) PySem.F.slot_tuple_mul.lookup (by decide +kernel) PySem.F.slot_tuple_rmul.lookup (by decide +kernel)
theorem mq:seqRepeat? (.type "tuple")=pure (some (.builtin "tuple.__mul__")):=by
 unfold seqRepeat?
 rw[PySem.seqSlot_of (T:="tuple") (name:="__mul__") (id:="tuple.__mul__") PySem.F.slot_tuple_mul.lookup (by decide +kernel),PySem.seqSlot_of (T:="tuple") (name:="__rmul__") (id:="tuple.__rmul__") PySem.F.slot_tuple_rmul.lookup (by decide +kernel)]
 rfl
theorem jD(a:Int)(t:Tok)(l:Addr)(items:Array Value)(n:Nat)(dd:Option Addr)(sl:Array (Option Value)) :
  Meets (Builtin.«int.__rmul__» ⟨[.int a t,.ref l],[]⟩) (fun _ R s=>s.heap.get? l=some { cls:=.type "tuple",dict:=dd,data:=.seq items n,slots:=sl }/\R (.ok (.ret Value.notImplemented)) s) :=
 .of_wp fun prog w A R s h=>by obtain⟨hp,g,d,tk,os⟩:=s;obtain⟨hl,h⟩:=h;wp_walk;exact⟨_,rfl,h⟩
theorem qW(l:Addr)(items:Array Value)(n:Nat)(dd:Option Addr)(sl:Array (Option Value))(t:Tok) :
  Meets (Builtin.«tuple.__mul__» ⟨[.ref l,.int 1 t],[]⟩) (fun _ R s=>s.heap.get? l=some { cls:=.type "tuple",dict:=dd,data:=.seq items n,slots:=sl }/\R (.ok (.ret (Value.ref l))) { s with heap:=s.heap,toks:=s.toks }) :=
 .of_wp fun prog w A R s h=>by obtain⟨hp,g,d,tk,os⟩:=s;obtain⟨hl,h⟩:=h;have f1:=AutoSeq1.idx_int;have f2:=AutoSeq1.sub_tuple_tuple;wp_walk using wpAny_loadPart' hl;exact⟨_,rfl,h⟩
theorem qU(l:Addr)(x:Value)(n:Nat)(dd:Option Addr)(sl:Array (Option Value))(t:Tok) :
  Meets (Builtin.«tuple.__mul__» ⟨[.ref l,.int 2 t],[]⟩) (fun _ R s=>s.heap.get? l=some { cls:=.type "tuple",dict:=dd,data:=.seq #[x] n,slots:=sl }/\R (.ok (.ret (Value.ref s.heap.objs.size))) { s with heap:=s.heap.push { cls:=Value.type "tuple",data:=Data.seq #[x,x] },toks:=s.toks }) :=
 .of_wp fun prog w A R s h=>by obtain⟨hp,g,d,tk,os⟩:=s;obtain⟨hl,h⟩:=h;have f1:=AutoSeq1.idx_int;have f2:=AutoSeq1.sub_tuple_tuple;wp_walk using wpAny_loadPart' hl;exact⟨_,rfl,h⟩
theorem qT(l:Addr)(x:Value)(n:Nat)(dd:Option Addr)(sl:Array (Option Value))(t:Tok) :
  Meets (Builtin.«tuple.__mul__» ⟨[.ref l,.int 3 t],[]⟩) (fun _ R s=>s.heap.get? l=some { cls:=.type "tuple",dict:=dd,data:=.seq #[x] n,slots:=sl }/\R (.ok (.ret (Value.ref s.heap.objs.size))) { s with heap:=s.heap.push { cls:=Value.type "tuple",data:=Data.seq #[x,x,x] },toks:=s.toks }) :=
 .of_wp fun prog w A R s h=>by obtain⟨hp,g,d,tk,os⟩:=s;obtain⟨hl,h⟩:=h;have f1:=AutoSeq1.idx_int;have f2:=AutoSeq1.sub_tuple_tuple;wp_walk using wpAny_loadPart' hl;exact⟨_,rfl,h⟩
theorem qR(l:Addr)(x:Value)(n:Nat)(dd:Option Addr)(sl:Array (Option Value))(t:Tok) :
  Meets (Builtin.«tuple.__mul__» ⟨[.ref l,.int 4 t],[]⟩) (fun _ R s=>s.heap.get? l=some { cls:=.type "tuple",dict:=dd,data:=.seq #[x] n,slots:=sl }/\R (.ok (.ret (Value.ref s.heap.objs.size))) { s with heap:=s.heap.push { cls:=Value.type "tuple",data:=Data.seq #[x,x,x,x] },toks:=s.toks }) :=
 .of_wp fun prog w A R s h=>by obtain⟨hp,g,d,tk,os⟩:=s;obtain⟨hl,h⟩:=h;have f1:=AutoSeq1.idx_int;have f2:=AutoSeq1.sub_tuple_tuple;wp_walk using wpAny_loadPart' hl;exact⟨_,rfl,h⟩
theorem qX(l:Addr)(x:Value)(n:Nat)(dd:Option Addr)(sl:Array (Option Value))(t:Tok) :
  Meets (Builtin.«tuple.__mul__» ⟨[.ref l,.int 0 t],[]⟩) (fun _ R s=>s.heap.get? l=some { cls:=.type "tuple",dict:=dd,data:=.seq #[x] n,slots:=sl }/\R (.ok (.ret (Value.ref s.heap.objs.size))) { s with heap:=s.heap.push { cls:=.type "tuple",data:=.seq #[] },toks:=s.toks }) :=
 .of_wp fun prog w A R s h=>by obtain⟨hp,g,d,tk,os⟩:=s;obtain⟨hl,h⟩:=h;have f1:=AutoSeq1.idx_int;have f2:=AutoSeq1.sub_tuple_tuple;wp_walk using wpAny_loadPart' hl;exact⟨_,rfl,h⟩
end L2
namespace L2
open PySem PySem.Spec PyProof.Rows PySem.SeqAt
section
variable {X:Cx}
def Kq(K:PySem.W.Frag):R2:=fun x y H Q=>∃ l b us zs,x=.ref l/\y=.ref b/\SqL K H l us/\SqL K H b zs/\us.length+zs.length<=sizeLine/\∀ p,H p=none->Q (.ref p) (upd H p (.lst (us++zs)))
theorem Cm:OpR X (binaryOp .Add) (Kq X.K):=by
 intro pins s σ H x y v u Q I rx ry h
 obtain⟨l,b,us,zs,rfl,rfl,hH,hB,hz,q⟩:=h
 cases (show v=Value.ref l from rx)
 cases (show u=Value.ref b from ry)
 obtain⟨its,r,pl,z1⟩:=I.list hH
 obtain⟨its2,r2,pl2,z2⟩:=I.list hB
 have e1:=r.length
 have e2:=r2.length
 obtain⟨⟨c1,d1,w1,t1⟩,n1,o1,hc1,hd1,hs1⟩:=pl
 obtain⟨⟨c2,d2,w2,t2⟩,n2,o2,hc2,hd2,hs2⟩:=pl2
 simp only at hc1 hs1 hc2 hs2
 subst hc1 hs1 hc2 hs2
 refine concat_meets ⟨_,o1,rfl⟩ ⟨_,o2,rfl⟩ noFill_list_add seq_list_add PySem.F.slot_list_add PySem.F.entry_list_add (PySem.F.args_list_add_2 _ _) (list_addW l b its.toArray its2.toArray n1 n2 d1 d2 t1 t2 (by rw[List.size_toArray,List.size_toArray];omega)) ⟨o1,o2,?_⟩
 rw[show its.toArray++its2.toArray=(its++its2).toArray by simp]
 exact⟨.ref _,_,I.lnew (t':=s.toks) (r.append r2) (by rw[List.length_append];omega),rfl,q _ I.fresh⟩
def Kg(K:PySem.W.Frag):R2:=fun x y H Q=>∃ l k us,x=.ref l/\y=.int k/\SqL K H l us /\ -(2^63)<=k/\k<2^63/\us.length*k.toNat<=sizeLine /\
 ∀ p,H p=none->Q (.ref p) (upd H p (.lst (List.replicate k.toNat us).flatten))
theorem uw:OpR X (binaryOp .Mult) (Kg X.K):=by
 intro pins s σ H x y v u Q I rx ry h
 obtain⟨l,k,us,rfl,rfl,hH,h1,h2,hz,q⟩:=h
 cases (show v=Value.ref l from rx)
 obtain⟨t,rfl⟩:=ry
 obtain⟨its,r,pl,z1⟩:=I.list hH
 have hl:=r.length
 obtain⟨⟨c1,d1,w1,t1⟩,n1,e,hc1,hd1,hs1⟩:=pl
 simp only at hc1 hs1
 subst hc1 hs1
 have a1:its.toArray.size*k.toNat<=sizeLine:=by rw[List.size_toArray,<- hl];exact hz
 have a2:¬ its.toArray.size*k.toNat>(2^63-1) / 8:=by
  have:(sizeLine:Nat)<=(2^63-1) / 8:=by decide
  omega
 have a3:¬ (!Builtin.List.listFitsIndex k)=true:=by rw[fitsIndex_both h1 h2];exact Bool.false_ne_true
 have a4:¬ Builtin.List.listTooLong (its.toArray.size*k.toNat)=true:=by rw[j8 a1];exact Bool.false_ne_true
 have a5:List.foldl (fun x1 x2=>x1++x2) #[] (List.replicate (if its.toArray.isEmpty=true then 0 else k.toNat) its.toArray)=(List.replicate k.toNat its).flatten.toArray:=by
  have f0:∀ m:Nat,List.foldl (fun x1 x2=>x1++x2) #[] (List.replicate m its.toArray)=(List.replicate m its).flatten.toArray:=fun m=>(foldl_rep its m []).trans (by rw[List.nil_append])
  rw[f0]
  cases its with
  | nil=>simp
  | cons a r'=>rw[if_neg (by simp)]
 refine wpAny_binaryOp_repeat_ref (T:="list") (U:="int") (by decide) ⟨_,e,rfl⟩ (fun s'=>typeIs_int s' k t) noFill_list_mul F.fills_int_mul F.slot_int_rmul repeat_list F.slot_int_index.lookup ?_
 refine call_meets F.slot_int_rmul (typeIs_int s k t) F.entry_int_rmul (F.args_int_rmul_2 _ _) (lm_int_rmul_list_any k t l its.toArray n1 d1 t1) ⟨e,rfl,⟨_,e,rfl⟩,?_⟩
 refine call_meets F.slot_list_mul ⟨_,e,rfl⟩ F.entry_list_mul (F.args_list_mul_2 _ _) (lm_list_mul_any l its.toArray n1 d1 t1 k t a3 a2 a4) ⟨e,?_⟩
 rw[a5]
 exact⟨.ref _,_,I.lnew (t':=s.toks) (r.rep k.toNat) (by rw[len_rep,Nat.mul_comm];exact hz),rfl,q _ I.fresh⟩
end
end L2
namespace L2
open PySem PySem.Spec PyProof.Rows PySem.SeqAt
theorem xG(its:List Value):slicePick its.toArray none none (some (-1))=its.reverse.toArray:=by
 have e1:sliceBounds none none (some (-1)) its.toArray.size=((its.length:Int)-1,-1,-1):=by
  simp[sliceBounds]
 have e2:sliceRange ((its.length:Int)-1) (-1) (-1)=(List.range its.length).map fun k=>its.length-1-k:=by
  unfold sliceRange
  have hc:(if(-1:Int)>0 then(if(its.length:Int)-1 < -1 then(-1-((its.length:Int)-1) + -1-1) / -1 else 0) else(if(its.length:Int)-1 > -1 then((its.length:Int)-1 - -1 - -1-1) / (- -1) else 0))=(its.length:Int):=by
   rw[if_neg (by decide)]
   by_cases h:(its.length:Int)-1 > -1
   ·rw[if_pos h,show(- -1:Int)=1 from rfl,Int.ediv_one];omega
   ·rw[if_neg h];omega
  simp only[hc,Int.toNat_natCast]
  refine List.map_congr_left fun k hk=>?_
  have:=List.mem_range.mp hk
  omega
 unfold slicePick
 rw[e1]
 simp only[e2]
 congr 1
 have e3:(List.range its.length).map (fun k=>its[its.length-1-k]?)=its.reverse.map some:=by
  apply List.ext_getElem?
  intro i
  by_cases h:i<its.length
  ·rw[List.getElem?_map,List.getElem?_range h,List.getElem?_map,List.getElem?_reverse h,Option.map_some,List.getElem?_eq_getElem (by omega),Option.map_some]
  ·rw[List.getElem?_eq_none (by simp;omega),List.getElem?_eq_none (by simp;omega)]
 have e4:((List.range its.length).map fun k=>its.length-1-k).filterMap (fun x=>its.toArray[x]?)=((List.range its.length).map fun k=>its[its.length-1-k]?).filterMap id:=by
  rw[List.filterMap_map,List.filterMap_map]
  refine congrArg (fun f=>List.filterMap f (List.range its.length)) (funext fun k=>?_)
  simp
 rw[e4,e3,List.filterMap_map]
 simp
section
variable {X:Cx}
theorem Bx{e c:Expr}{te tc:TE}{p2 pos:Pos}(he:PE X e te)(hc:PE X c tc) :
    PE X (.Subscript e (.Slice none none (some c) p2) pos) (fun σ H Q=>te σ H fun x H1=>tc σ H1 fun y H2=>∃ p us,x=.ref p/\y=.int (-1)/\SqL X.K H2 p us/\∀ q,H2 q=none->Q (.ref q) (upd H2 q (.lst us.reverse))):=by
  intro pins s σ H Q I h
  refine Subscript_ (thn (he pins s σ H _ I h) fun v s1 ⟨x,H1,I1,r1,q1⟩=>?_)
  refine wpAny_Slice ?_
  rw[evalPart_none,evalPart_some]
  refine wpAny_pure (wpAny_pure (thn (hc pins s1 σ H1 _ I1 q1) fun u s2 ⟨y,H2,I2,r2,q2⟩=>?_))
  obtain⟨p,us,rfl,rfl,hq,q⟩:=q2
  cases (show v=Value.ref p from r1)
  obtain⟨t,rfl⟩:=r2
  have I3:Inv X pins σ H2 { s2 with heap:=s2.heap.push { cls:=.type "slice",data:=.fields #[.none,.none,.int (-1) t] } }:=I2.kept (t':=s2.toks) fun b ob q=>Heap.get?_push_of_some _ q
  obtain⟨its,r,pl,hz⟩:=I3.list hq
  have hl:=r.length
  have hg:=wpAny_getItem_list_slice (prog:=X.prog) (w:=X.w) (A:=X.A) (E:=X.xe) (Q:=EP X pins σ Q) (vl:=.none) (vu:=.none) (vs:=.int (-1) t) (lo:=none) (hi:=none) (st:=some (-1)) pl.isList (Heap.IsSliceOf.new ..) .none .none (.int _ t) (by decide) (by
    rw[xG]
    exact⟨.ref _,_,I3.lnew (t':=s2.toks) r.reverse (by rw[List.length_reverse];omega),rfl,q _ I3.fresh⟩) (by rw[List.size_toArray];omega)
  show wpAny (model X.prog X.w) X.A (subscriptTail e (.Slice none none (some c) p2) (.ref p) (.ref s2.heap.objs.size)) (EP X pins σ Q) X.xe { s2 with heap:=s2.heap.push { cls:=.type "slice",data:=.fields #[.none,.none,.int (-1) t] } }
  exact tail_any (ops:=[.ref p,.ref s2.heap.objs.size]) pl.isList.typeIs list_getitem_lookup hg (by with_unfolding_all rfl)
end
end L2
namespace L2
open PySem PySem.Spec PyProof.Rows PySem.SeqAt
section
variable {prog:Program} {w:World} {A:Around} {E:Value->Shared->Prop} {s:Shared}
end
section
variable {X:Cx}
end
end L2
namespace HT
open PySem PySem.Spec PyProof.Rows PySem.SeqAt L2
section
variable {prog:Program} {w:World} {A:Around} {E:Value->Shared->Prop} {s:Shared}
theorem fJ{t sl:Addr}{items:Array Value}{vl vu:Value}{lo hi:Option Int}{Q:Value->Shared->Prop}(ht:IsTup s.heap t items)(hs:s.heap.IsSliceOf sl vl vu .none)(pl:IsPart vl lo)(pu:IsPart vu hi)
    (hw:sIx items.size 0 lo=0/\sIx items.size items.size hi=items.size) (h:Q (.ref t) s):wpAny (model prog w) A (getItem (.ref t) (.ref sl)) Q E s:=by
  obtain⟨os,hos,hcs,hds⟩:=id hs
  have hTs:s.TypeIs (.ref sl) "slice":=⟨os,hos,hcs⟩
  unfold getItem
  try with_reducible refine wpAny_holding ?_
  first | refine wpAny_bind (wpAny_pure ?_) | skip
  refine wpAny_bind (wpAny_sequenceKey ht.typeIs (by decide) ?_)
  refine wpAny_bind (wpAny_callSpecial?_slot (name:=Str.ofString "__getitem__") ht.typeIs PyProof.Rows.slot_tuple_getitem
    (wpAny_call_entry PyProof.Rows.slot_tuple_getitem ht.typeIs entry_tuple_getitem ?_ (args_tuple_getitem _ _)))
  show wpAny _ _ (Builtin.Tuple.tupleItemsOf (.ref t) >>=_) _ _ s
  refine wpAny_bind (tupleItemsOf_ ht ?_)
  refine wpAny_bind (wpAny_typeOf hTs ?_)
  rw[if_pos (by decide)]
  refine wpAny_bind (dU hs pl pu ?_)
  have hyes:(((sIx items.size 0 lo:Nat):Int)==0&&(1:Int)==1&&(sIx items.size items.size hi-sIx items.size 0 lo)==items.size)=true:=by
    rw[hw.1,hw.2];simp
  show wpAny _ _ (if(((sIx items.size 0 lo:Nat):Int)==0&&(1:Int)==1&&(sIx items.size items.size hi-sIx items.size 0 lo)==items.size)=true then _ else _) _ _ s
  rw[if_pos hyes]
  refine wpAny_bind (wpAny_bind (wpAny_typeOf ht.typeIs (wpAny_pure ?_)))
  rw[if_pos (by decide)]
  first
    | exact wpAny_bind (wpAny_rule (wpAny_bind (wpAny_pure (wpAny_pure ⟨_,rfl,wpAny_pure h⟩))))
    | exact wpAny_bind (wpAny_rule (wpAny_bind (wpAny_pure ⟨_,rfl,wpAny_pure h⟩)))
    | exact wpAny_bind (wpAny_rule (wpAny_pure ⟨_,rfl,wpAny_pure h⟩))
end
end HT
namespace L2
open PySem PyProof.Rows
section
variable {X:Cx}
def Xl(K:PySem.W.Frag):V->Option Int->Option Int->Hp->VK->Prop:=fun x lo hi H Q=>∃ a xs,x=.ref a/\SqT K H a xs /\
 (HT.sIx xs.length 0 lo=0/\HT.sIx xs.length xs.length hi=xs.length)/\Q (.ref a) H
theorem Ay:SlR X (Xl X.K):=by
 intro pins s σ H x v vl vu lo hi sl Q I rx hs pl pu h
 obtain⟨a,xs,rfl,hx,hw,q⟩:=h
 cases rx
 obtain⟨its,r,ht,hz⟩:=I.tuple hx
 have hlen:its.toArray.size=xs.length:=by rw[List.size_toArray];exact r.length.symm
 refine⟨"tuple",_,PyProof.Rows.slot_tuple_getitem.lookup,ht.typeIs,?_⟩
 exact HT.fJ ht hs pl pu (by rw[hlen];exact hw) ⟨.ref a,H,I,rfl,q⟩
end
end L2
namespace DE
open PySem
inductive D where
 | non | bl (b:Bool) | int (i:Int) | str (x:Str) | tup (xs:List D) | lst (xs:List D)
 | exc (c:Str)
 | dic (ks:List (Sum Int Str)) (xs:List D)
 deriving Inhabited
inductive Sl where
 | no | sh (d:D) | ow (ds:List D) | oo (dss:List (List D))
 deriving Inhabited
abbrev Rho:=List (Str×Sl)
inductive Fl where
 | nxt (ρ:Rho) | ret (d:D)
 deriving Inhabited
def b2i(b:Bool):Int:=if b then 1 else 0
mutual
def deq:D->D->Bool
 | .non,.non=>true
 | .bl a,.bl b=>a==b
 | .bl a,.int j=>b2i a==j
 | .int i,.bl b=>i==b2i b
 | .int i,.int j=>i==j
 | .str x,.str y=>x==y
 | .tup xs,.tup ys=>mZ xs ys
 | .lst xs,.lst ys=>mZ xs ys
 | _,_=>false
def mZ:List D->List D->Bool
 | [],[]=>true
 | x::xs,y::ys=>deq x y&&mZ xs ys
 | _,_=>false
end
mutual
def dep:D->Nat
 | .tup xs=>deps xs+1
 | .lst xs=>deps xs+1
 | .exc _=>1000
 | .dic _ _=>1000
 | _=>0
def deps:List D->Nat
 | []=>0
 | x::xs=>max (dep x) (deps xs)
end
def asB:D->Option Bool
 | .bl b=>some b
 | _=>none
def asI:D->Option Int
 | .int i=>some i
 | _=>none
def items:D->Option (List D)
 | .tup xs=>some xs
 | .lst xs=>some xs
 | _=>none
def xZ:D->Option (List D)
 | .lst xs=>some xs
 | _=>none
def fU:List D->Option (List Int)
 | []=>some []
 | .int i::r=>(fU r).map (i::·)
 | _=>none
def oY:List D->Option (List Bool)
 | []=>some []
 | .bl i::r=>(oY r).map (i::·)
 | _=>none
def small(i:Int):Bool:=decide (-(2^64)<i)&&decide (i<2^64)
def mid(i:Int):Bool:=decide (i.natAbs.log2<10000)
def szl(n:Nat):Bool:=decide (n<=100000)
def Gp:List D->Int->Option D
 | [x],j=>if decide (0<=j)&&decide (j<=4) then some (.tup (List.replicate j.toNat x)) else none
 | _,_=>none
def binop:Operator->D->D->Option D
 | .Add,.int i,.int j=>some (.int (i+j))
 | .Add,.tup xs,.tup ys=>if szl (xs.length+ys.length) then some (.tup (xs++ys)) else none
 | .Add,.lst xs,.lst ys=>if szl (xs.length+ys.length) then some (.lst (xs++ys)) else none
 | .Sub,.int i,.int j=>some (.int (i-j))
 | .Mult,.int i,.int j=>if small i||small j||(mid i&&mid j) then some (.int (i*j)) else none
 | .Mult,.lst xs,.int j=>if decide (j<=1000)&&decide (-1000<=j)&&szl (xs.length*j.toNat) then some (.lst (List.replicate j.toNat xs).flatten) else none
 | .Mult,.tup xs,.int j=>Gp xs j
 | .FloorDiv,.int i,.int j=>if decide (0<j)&&decide (j<1073741824) then some (.int (i / j)) else if decide (j≠0)&&decide (j.natAbs.log2<9000) then some (.int (i.fdiv j)) else none
 | .Mod,.int i,.int j=>if decide (0<j) then some (.int (i%j)) else if decide (j≠0) then some (.int (i.fmod j)) else none
 | _,_,_=>none
def oX:List D->Option (List Str)
 | []=>some []
 | .str i::r=>(oX r).map (i::·)
 | _=>none
def inS(x:D)(ys:List D):Option Bool:=(oX ys).bind fun ss=>if decide (dep x<=50) then some (ss.any fun t=>deq (.str t) x) else none
def inT(x:D)(ys:List D):Option Bool:=match asI x,fU ys with
 | some i,some ns=>some (ns.any (· ==i))
 | _,_=>inS x ys
def Fe:D->Option (Sum Int Str)
 | .int i=>some (.inl i)
 | .str x=>some (.inr x)
 | _=>none
def putD(l:List (Sum Int Str×D))(k:Sum Int Str)(d:D):List (Sum Int Str×D):=if(l.any fun q=>decide (q.1=k))=true then l.map (fun q=>if q.1=k then(q.1,d) else q) else l++[(k,d)]
def Ey(ks:List (Sum Int Str))(ds:List D)(k:Sum Int Str):Option D:=((ks.zip ds).find? fun q=>decide (q.1=k)).map (·.2)
def DW(l:List (Sum Int Str×D)):D:=.dic (l.map (·.1)) (l.map (·.2))
def cX(f:Expr->Option D):List (Option Expr)->List Expr->Option (List (Sum Int Str×D))
 | [],[]=>some []
 | some k::ks,v::vs=>do let x <- (f k).bind Fe;let d <- f v;let r <- cX f ks vs;some ((x,d)::r)
 | _,_=>none
def Wq(l:List (Sum Int Str×D)):List (Sum Int Str×D):=l.foldl (fun a q=>putD a q.1 q.2) []
def CW:D->Bool
 | .non=>true
 | _=>false
def cmpop:CmpOp->D->D->Option D
 | .Eq,x,y=>if decide (dep x<=50)&&decide (dep y<=50) then some (.bl (deq x y)) else none
 | .NotEq,x,y=>if decide (dep x<=50)&&decide (dep y<=50) then some (.bl (!deq x y)) else none
 | .Lt,.int i,.int j=>some (.bl (decide (i<j)))
 | .LtE,.int i,.int j=>some (.bl (decide (i<=j)))
 | .Gt,.int i,.int j=>some (.bl (decide (j<i)))
 | .GtE,.int i,.int j=>some (.bl (decide (j<=i)))
 | .Is,x,.non=>some (.bl (CW x))
 | .IsNot,x,.non=>some (.bl (!CW x))
 | .Is,.bl a,.bl b=>some (.bl (a==b))
 | .IsNot,.bl a,.bl b=>some (.bl (!(a==b)))
 | .In,x,.tup ys=>(inT x ys).map fun b=>.bl b
 | .NotIn,x,.tup ys=>(inT x ys).map fun b=>.bl (!b)
 | .NotIn,.int i,.lst ys=>(fU ys).map fun ns=>.bl (!ns.any (· ==i))
 | _,_,_=>none
def ixD(n:Nat)(i:Int):Option Nat:=if 0<=i then(if i<n then some i.toNat else none) else if -(n:Int)<=i then some (i+n).toNat else none
def atD(xs:List D)(i:Int):Option D:=(ixD xs.length i).bind fun j=>xs[j]?
def fQ(n d:Nat):Option Int->Nat
 | none=>d
 | some v=>if v<0 then(v+(n:Int)).toNat else min v.toNat n
def lE(xs:List D)(lo hi:Option Int):List D:=(xs.drop (fQ xs.length 0 lo)).take (fQ xs.length xs.length hi-fQ xs.length 0 lo)
def Jk:D->D->Option D
 | .tup xs,.int i=>atD xs i
 | .lst xs,.int i=>atD xs i
 | .dic ks ds,y=>(Fe y).bind (Ey ks ds)
 | _,_=>none
mutual
def eX:D->Bool
 | .non=>true
 | .bl _=>true
 | .int _=>true
 | .str _=>true
 | .tup ds=>qp ds
 | _=>false
def qp:List D->Bool
 | []=>true
 | d::r=>eX d&&qp r
end
def zN:String->D->Bool
 | "int",.int _=>true
 | "int",.bl _=>true
 | "bool",.bl _=>true
 | "tuple",.tup _=>true
 | "list",.lst _=>true
 | "str",.str _=>true
 | _,_=>false
def mxL:List Int->Int->Int
 | [],b=>b
 | x::r,b=>mxL r (if x>b then x else b)
def mxD:List Int->Int->Int
 | [],d=>d
 | x::r,_=>mxL r x
def Js:D->Int->Option D
 | .lst xs,c=>(fU xs).map fun is=>.int (mxD is c)
 | _,_=>none
def Wv:Expr->Option Int
 | .Constant (.int c) _ _=>some c
 | _=>none
def Ju(k:Keyword):Option Int:=if k.arg==some "default" then Wv k.value else none
def blt:String->List D->Option D
 | "len",[d]=>do let l <- items d;some (.int l.length)
 | "all",[.lst xs]=>do let bs <- oY xs;some (.bl (bs.all id))
 | "sum",[.lst xs]=>do let is <- fU xs;some (.int is.sum)
 | "sum",[.tup xs]=>if true then none else none
 | "tuple",[d]=>do let l <- items d;some (.tup l)
 | "list",[d]=>do let l <- items d;some (.lst l)
 | "any",[.lst xs]=>if true then none else none
 | "min",[.tup xs]=>if true then none else none
 | "min",[.lst xs]=>if true then none else none
 | "max",[.lst xs]=>if true then none else none
 | "max",[.tup xs]=>if true then none else none
 | "min",[.int i,.int j]=>some (.int (if j<i then j else i))
 | "max",[.int i,.int j]=>if true then none else none
 | "abs",[.int i]=>some (.int (if i<0 then -i else i))
 | "int",[.bl b]=>some (.int (b2i b))
 | "int",[.int i]=>some (.int i)
 | _,_=>none
structure Cxt where
 cst:List (Str×D)
 blt:List (Str×String)
 fns:List Str
 exs:List Str
 top:Str
 rs:Bool
 call:Str->List D->Option D
 callx:Str->List D->Option Str
def isExc:D->Bool
 | .exc _=>true
 | .dic _ _=>true
 | _=>false
def Et(top c c':Str):Bool:=c==c'||c'==top
def jA(scope sc:Scope):Scope :=
 { scope with names:=scope.names.map fun(n,k)=>if(k==.free&&sc.kind==.function&&sc.names.lookup n==some .cell) then(n,.cell) else(n,k) }
def J8:Option Sl->Sl
 | some (.sh d)=>.sh d
 | _=>.no
def bG(scope:Scope)(ρ:Rho):Rho:=scope.names.map fun p=>(p.1,if p.2==.free then J8 (ρ.lookup p.1) else .no)
def mL:List Str->Bool
 | []=>true
 | x::r => !r.contains x&&mL r
def gD(sc scope:Scope):Bool :=
 scope.kind==.function&&mL (scope.names.map (·.1))&&scope.names.all fun p=>p.2 !=.free||sc.names.lookup p.1==some .cell||sc.names.lookup p.1==some .free
def cj:Rho->Str->Sl->Rho
 | [],_,_=>[]
 | (y,s)::r,x,v=>if x==y then(y,v)::r else(y,s)::cj r x v
def au(x:Str):Bool:=x !="__debug__"&&x !="__classdict__"
def ownIn(scope:Scope)(x:Str):Bool:=scope.names.lookup x==some .local||scope.names.lookup x==some .cell
def bindNames(scope:Scope):List Expr->List D->Rho->Option Rho
 | [],[],ρ=>some ρ
 | .Name x _::es,d::ds,ρ=>if ownIn scope x&&(ρ.map (·.1)).contains x then bindNames scope es ds (cj ρ x (.sh d)) else none
 | _,_,_=>none
def eZ(scope:Scope):Expr->D->Rho->Option Rho
 | .Name x _,d,ρ=>if ownIn scope x&&(ρ.map (·.1)).contains x then some (cj ρ x (.sh d)) else none
 | .Tuple es _ _,.tup ds,ρ=>bindNames scope es ds ρ
 | _,_,_=>none
def yh(cx:Cxt)(sc:Scope)(x:Str):Bool:=sc.names.lookup x==some .globalImplicit
def aY(cx:Cxt)(sc:Scope)(x:Str):Option String:=if yh cx sc x then cx.blt.lookup x else none
def bD(f:D->Option (Option D)):List D->Option (List D)
  | []=>some []
  | x :: r => do
    match <- f x with
    | some v=>(bD f r).map (v::·)
    | none=>bD f r
def bO(lo hi:Int):List D:=(List.range (hi-lo).toNat).map fun(k:Nat)=>.int (lo+(k:Int))
def dnD(i j:Int):List D:=(List.range (i-j).toNat).map fun(k:Nat)=>.int (i-(k:Int))
def kE(f:Expr->Option D):List Expr->Option (List D)
 | []=>some []
 | e::r=>do let d <- f e;let ds <- kE f r;some (d::ds)
def bT(op:BoolOp)(f:Expr->Option D):List Expr->Option D
  | []=>none
  | [e]=>f e
  | e :: e' :: r => do
    let d <- f e
    let b <- asB d
    match op with
    | .And=>if b then bT op f (e'::r) else some (.bl false)
    | .Or=>if b then some (.bl true) else bT op f (e'::r)
def bU(i:Int):Bool:=decide (-(2^62)<=i)&&decide (i<2^62)
def d7:Expr->Bool
 | .Tuple .. =>true
 | _=>false
inductive Wk where
 | r1 (a:Expr) | r2 (a b:Expr) | r3 (a b c:Expr) | zp (a b:Expr) | rv (a:Expr) | en (a:Expr) | sq
def jT(cx:Cxt)(sc:Scope):Expr->Wk
  | .Call (.Name x _) args [] _ => (match aY cx sc x with
    | some "range"=>(match args with | [a]=>.r1 a | [a,b]=>.r2 a b | [a,b,c]=>.r3 a b c | _=>.sq)
    | some "zip"=>(match args with | [a,b]=>.zp a b | _=>.sq)
    | some "reversed"=>(match args with | [a]=>.rv a | _=>.sq)
    | some "enumerate"=>(match args with | [a]=>.en a | _=>.sq)
    | _=>.sq)
  | _=>.sq
def enD(xs:List D):List D:=xs.zipIdx.map fun q=>.tup [.int (q.2:Int),q.1]
def Ji:D->D->Option (List D)
 | .tup xs,.tup ys=>some ((xs.zip ys).map fun q=>.tup [q.1,q.2])
 | .lst xs,.lst ys=>some ((xs.zip ys).map fun q=>.tup [q.1,q.2])
 | .lst xs,.tup ys=>some ((xs.zip ys).map fun q=>.tup [q.1,q.2])
 | .tup xs,.lst ys=>if true then none else none
 | _,_=>none
def evI(cx:Cxt)(tup:Bool)(f:Expr->Option D)(sc:Scope)(e:Expr):Option (List D):=match jT cx sc e with
 | .r1 a=>do let j <- (f a).bind asI;if bU j then some (bO 0 j) else none
 | .r2 a b=>do let i <- (f a).bind asI;let j <- (f b).bind asI;if bU i&&bU j then some (bO i j) else none
 | .r3 a b c=>do let i <- (f a).bind asI;let j <- (f b).bind asI;let s <- (f c).bind asI;if decide (s=-1)&&bU i&&bU j then some (dnD i j) else none
 | .zp a b=>do let x <- f a;let y <- f b;if tup then Ji x y else none
 | .rv a=>do let xs <- (f a).bind xZ;some xs.reverse
 | .en a=>do let x <- f a;if tup then(items x).map enD else none
 | .sq=>(f e).bind items
inductive Wc where
 | lr1 (a:Expr) | lr2 (a b:Expr) | tv (a:Expr) | ls (a:Expr) | tr1 (a:Expr) | al
def Ti(cx:Cxt)(sc:Scope):Expr->Option Expr
 | .Call (.Name y _) [a] [] _=>if aY cx sc y==some "set" then some a else none
 | _=>none
def ddp(ns:List Int):List Int:=ns.foldl (fun l k=>if l.any (· ==k) then l else l++[k]) []
def wL(cx:Cxt)(sc:Scope)(b:String)(args:List Expr):Wc:=match args with
  | [e] => (match b, jT cx sc e with
    | "list",.r1 a=>.lr1 a
    | "list",.r2 a b=>.lr2 a b
    | "tuple",.rv a=>.tv a
    | "tuple",.r1 a=>.tr1 a
    | "len",.sq=>(match Ti cx sc e with | some a=>.ls a | none=>.al)
    | _,_=>.al)
  | _=>.al
def fG:String->Bool
 | "int"=>true
 | "bool"=>true
 | "tuple"=>true
 | "list"=>true
 | "str"=>true
 | _=>false
def tyOf(cx:Cxt)(sc:Scope):Expr->Option String
 | .Name x _=>aY cx sc x
 | _=>none
def xOf(cx:Cxt)(sc:Scope):Expr->Option Str
 | .Name x _=>if yh cx sc x&&(cx.exs.contains x||x==cx.top)&&au x then some x else none
 | _=>none
def kW(f:Expr->Option D):List Expr->Option Bool
 | []=>some true
 | [c]=>(f c).bind asB
 | _=>none
def uD(m:Str):D->D->Option D
 | _,_=>if true then none else none
def aD:Expr->Bool
 | .Starred .. =>false
 | .Set .. =>false
 | .Slice .. =>false
 | _=>true
def Ka:D->Option Expr->Option Expr->Option Int->Option D
 | .lst xs,none,none,some i=>if i == -1 then some (.lst xs.reverse) else none
 | _,_,_,_=>none
def ev(cx:Cxt):Nat->Scope->Rho->Expr->Option D
  | 0,_,_,_=>none
  | n + 1, sc, ρ, e => match e with
    | .Name x _=>if au x then(match sc.names.lookup x with
        | some .local=>(match ρ.lookup x with | some (.sh d)=>some d | _=>none)
        | some .cell=>(match ρ.lookup x with | some (.sh d)=>some d | _=>none)
        | some .free=>(match ρ.lookup x with | some (.sh d)=>some d | _=>none)
        | some .globalImplicit=>cx.cst.lookup x
        | _=>none) else none
    | .Constant c _ _=>(match c with
        | .none=>some .non
        | .bool b=>some (.bl b)
        | .int i=>some (.int i)
        | .str x=>some (.str x)
        | _=>none)
    | .BinOp a op b _=>do let x <- ev cx n sc ρ a;let y <- ev cx n sc ρ b;binop op x y
    | .UnaryOp op a _=>do
        let x <- ev cx n sc ρ a
        match op with
        | .USub=>(asI x).map fun i=>.int (-i)
        | .Not=>(asB x).map fun b=>.bl (!b)
        | _=>none
    | .BoolOp op es _=>bT op (ev cx n sc ρ) es
    | .Compare a ops bs _=>(match ops,bs with
        | [op],[b]=>do let x <- ev cx n sc ρ a;let y <- ev cx n sc ρ b;cmpop op x y
        | [op, op'], [b, c] => if !aD c then none else do
          let x <- ev cx n sc ρ a
          let y <- ev cx n sc ρ b
          let k <- (cmpop op x y).bind asB
          if k then do let z <- ev cx n sc ρ c;cmpop op' y z else some (.bl false)
        | _,_=>none)
    | .IfExp c a b _=>do
        let k <- (ev cx n sc ρ c).bind asB
        if k then ev cx n sc ρ a else ev cx n sc ρ b
    | .Tuple es _ _=>do let ds <- kE (ev cx n sc ρ) es;if szl ds.length then some (.tup ds) else none
    | .List es _=>do let ds <- kE (ev cx n sc ρ) es;if szl ds.length then some (.lst ds) else none
    | .Subscript a b _=>do
        let x <- ev cx n sc ρ a
        match b with
        | .Slice lo hi st _ => (match st with
          | none => do
            let l <- (match lo with | none=>some none | some e=>(ev cx n sc ρ e).bind fun d=>(asI d).map some)
            let h <- (match hi with | none=>some none | some e=>(ev cx n sc ρ e).bind fun d=>(asI d).map some)
            match x with
            | .tup xs=>if fQ xs.length 0 l==0&&fQ xs.length xs.length h==xs.length then some (.tup xs) else some (.tup (lE xs l h))
            | .lst xs=>some (.lst (lE xs l h))
            | _=>none
          | some c=>Ka x lo hi ((ev cx n sc ρ c).bind asI))
        | b => do
          let y <- ev cx n sc ρ b
          Jk x y
    | .Dict ks vs _=>if ks.isEmpty||decide (15<ks.length) then none else(cX (ev cx n sc ρ) ks vs).map fun l=>DW (Wq l)
    | .Call f args kws p=>(match f,kws with
        | .Name x _, [] =>
          if yh cx sc x then
            match cx.blt.lookup x with
            | some "isinstance" => (match args with
              | [a, t] => do
                let d <- ev cx n sc ρ a
                match xOf cx sc t with
                | some c'=>(match d with | .exc c=>if cx.exs.contains c then some (.bl (Et cx.top c c')) else none | _=>none)
                | none => do
                  let ty <- tyOf cx sc t
                  match d with
                  | .exc c=>if cx.exs.contains c&&ty=="ValueError" then some (.bl true) else none
                  | .dic _ _=>none
                  | d=>if fG ty then some (.bl (zN ty d)) else none
              | _=>none)
            | some b => (match wL cx sc b args with
              | .lr1 a=>do let j <- (ev cx n sc ρ a).bind asI;if bU j&&szl j.toNat then some (.lst (bO 0 j)) else none
              | .lr2 a a'=>do let i <- (ev cx n sc ρ a).bind asI;let j <- (ev cx n sc ρ a').bind asI;if bU i&&bU j&&szl (j-i).toNat then some (.lst (bO i j)) else none
              | .tr1 a=>if true then none else none
              | .tv a=>if true then none else none
              | .ls a=>do let xs <- (ev cx n sc ρ a).bind xZ;let ns <- fU xs;if decide (xs.length<=1000) then some (.int (ddp ns).length) else none
              | .al=>if args.isEmpty then none else do let ds <- kE (ev cx n sc ρ) args;blt b ds)
            | none=>if cx.fns.contains x && !args.isEmpty then do let ds <- kE (ev cx n sc ρ) args;cx.call x ds else none
          else none
        | .Name x _, [k] => (match args with
          | [a]=>if aY cx sc x==some "max" then do let c <- Ju k;let d <- ev cx n sc ρ a;Js d c else none
          | _=>none)
        | .Attribute (.Name y py) m ap, [] => (match args with
          | [e]=>if ap.endLine==p.line then do
              let x <- ev cx n sc ρ (.Name y py)
              let z <- ev cx n sc ρ e
              uD m x z else none
          | _=>none)
        | .Attribute (.Dict ks vs dp) m ap,[]=>if true then none else none
        | .Subscript (.List es _) ix _,[]=>if true then none else none
        | _,_=>none)
    | .ListComp elt gens scope _=>(match gens with
        | [⟨tg,iter,ifs,a⟩]=>if a==0&&gD sc scope then do
            let l <- evI cx (d7 tg) (ev cx n sc ρ) sc iter
            if szl l.length then do
              let out <- bD (fun d=>do
                let ρ1 <- eZ scope tg d (bG scope ρ)
                let b <- kW (ev cx n (jA scope sc) ρ1) ifs
                if b then(ev cx n (jA scope sc) ρ1 elt).map some else some none) l
              some (.lst out)
            else none
          else none
        | _=>none)
    | _=>none
def dg:Nat->Str->Expr->Bool
  | 0,_,_=>true
  | n + 1, x, e => match e with
    | .Name y _=>x==y
    | .Constant .. =>false
    | .BinOp a _ b _=>dg n x a||dg n x b
    | .UnaryOp _ a _=>dg n x a
    | .BoolOp _ es _=>es.any (dg n x)
    | .Compare a _ bs _=>dg n x a||bs.any (dg n x)
    | .IfExp c a b _=>dg n x c||dg n x a||dg n x b
    | .Tuple es _ _=>es.any (dg n x)
    | .List es _=>es.any (dg n x)
    | .Subscript a b _=>dg n x a||dg n x b
    | .Slice lo hi st _=>(lo.map (dg n x)).getD false||(hi.map (dg n x)).getD false||(st.map (dg n x)).getD false
    | .Call f args kws _=>dg n x f||args.any (dg n x) || !kws.isEmpty
    | .ListComp elt gens _ _=>dg n x elt||gens.any fun g=>dg n x g.iter||g.ifs.any (dg n x)
    | _=>true
def frz(n:Nat)(e:Expr)(ρ:Rho):Rho:=ρ.map fun p=>match p.2 with
 | .ow ds=>if dg n p.1 e then(p.1,.sh (.lst ds)) else p
 | .oo dss=>if dg n p.1 e then(p.1,.sh (.lst (dss.map .lst))) else p
 | _=>p
def isL:Expr->Bool
 | .List .. =>true
 | _=>false
def Ws:Operator->Bool
 | .Mult=>true
 | _=>false
def bx:Expr->Bool
 | .List .. =>true
 | .ListComp .. =>true
 | .BinOp a op _ _=>isL a&&Ws op
 | _=>false
def vO:Sl->Bool
 | .no=>true
 | .sh _=>true
 | _=>false
def zP:Sl->Bool
 | .oo _=>true
 | _=>false
def rC(ρ:Rho)(x:Str):Bool:=ρ.all fun p=>p.1==x||vO p.2
def j9(ρ:Rho)(x:Str):Bool:=ρ.all fun p=>p.1==x || !zP p.2
def Jt(cx:Cxt)(sc:Scope):Expr->Bool
 | .Name y _=>au y&&sc.names.lookup y==some .local
 | .Call (.Name f _) _ [] _=>yh cx sc f&&(cx.blt.lookup f).isNone
 | _=>false
def Jm(cx:Cxt)(sc:Scope):Expr->Bool
 | .Call (.Name l _) [y] [] _=>aY cx sc l==some "list"&&Jt cx sc y
 | .ListComp .. =>true
 | _=>false
def wD(cx:Cxt)(sc:Scope):Expr->Bool
 | .Call (.Name l _) [y] [] _=>aY cx sc l==some "list"&&Jt cx sc y
 | _=>false
def ooE(cx:Cxt)(sc:Scope):Expr->Bool
 | .ListComp elt [⟨.Name _ _,_,[],_⟩] scope _=>Jm cx (jA scope sc) elt
 | _=>false
def EY:List D->Option (List (List D))
 | []=>some []
 | .lst ds::r=>(EY r).map (ds::·)
 | _=>none
def Hv:D->Option (List (List D))
 | .lst ds=>EY ds
 | _=>none
def SQ(x:Str):Expr->Option (Expr×Expr)
 | .BinOp (.Subscript (.Name y _) i _) .Add e _=>if x==y then some (i,e) else none
 | _=>none
def jC(e:Expr)(d:D):Sl:=match d with
 | .lst ds=>if bx e then .ow ds else .sh (.lst ds)
 | d=>.sh d
def nc0:Expr->Bool
 | .Call .. =>true
 | .Name x _=>x !="__debug__"
 | .IfExp .. =>true
 | .ListComp .. =>true
 | .Compare .. =>true
 | _=>false
def nc1:Expr->Bool
 | .Subscript v _ _=>nc0 v
 | e=>nc0 e
def nc:Expr->Bool
 | .Subscript v i _=>nc0 v||nc0 i
 | .BinOp l _ r _=>nc1 l||nc1 r
 | e=>nc0 e
def yj:Expr->Bool
 | .Constant .. =>true
 | _=>false
def swp(sc:Scope)(ts:List Expr)(value:Expr):Option Bool:=match value with
  | .Tuple vs _ _ => (match ts, vs with
    | [.Name x px, .Name y py], [a, b] =>
      if sc.names.lookup x==some .local&&sc.names.lookup y==some .local then
        (if px.line==py.line&&x !=y&&(nc a||nc b)&&aD a&&aD b then some true else if yj a&&yj b then some false else none)
      else some false
    | [.Name x _,.Name y _,.Name z _],[_,_,_]=>if sc.names.lookup x==some .cell&&sc.names.lookup y==some .cell&&sc.names.lookup z==some .cell then some false else none
    | _,_=>none)
  | _=>some false
def rdA:Expr->Bool
 | .Call (.Name _ _) [.Subscript _ _ _,.Subscript _ _ _] [] _=>true
 | _=>false
def Jv(ds:List D)(i:Nat)(d:D):List D:=ds.take i++[d]++ds.drop i
def dD(f:D->Rho->Option Fl):List D->Rho->Option Fl
  | [],ρ=>some (.nxt ρ)
  | x :: r, ρ => do
    match <- f x ρ with
    | .ret d=>some (.ret d)
    | .nxt ρ'=>dD f r ρ'
def jW(f:Rho->Stmt->Option Fl):List Stmt->Rho->Option Fl
  | [],ρ=>some (.nxt ρ)
  | s :: r, ρ => do
    match <- f ρ s with
    | .ret d=>some (.ret d)
    | .nxt ρ'=>jW f r ρ'
def Ew(c:Rho->Option (Rho×Bool))(f:Rho->Option Fl):Nat->Rho->Option Fl
  | 0,_=>none
  | m + 1, ρ => match c ρ with
    | none=>none
    | some (ρ1, b) => if b then (match f ρ1 with
      | none=>none
      | some (.ret d)=>some (.ret d)
      | some (.nxt ρ')=>Ew c f m ρ') else some (.nxt ρ1)
def tG(f:Rho->Stmt->Option Fl)(g:Rho->Stmt->Option (Str×Rho)):List Stmt->Rho->Option (Str×Rho)
  | [],_=>none
  | s :: r, ρ => match f ρ s with
    | some (.nxt ρ')=>tG f g r ρ'
    | some (.ret _)=>none
    | none=>g ρ s
def st(cx:Cxt)(F:Nat):Nat->Scope->Rho->Stmt->Option Fl
  | 0,_,_,_=>none
  | n + 1, sc, ρ, s => match s with
    | .Pass _=>some (.nxt ρ)
    | .Return v _=>(match v with
        | none=>some (.ret .non)
        | some e=>(ev cx F sc (frz F e ρ) e).map .ret)
    | .Assign tgs e _=>(match tgs with
        | [.Name x _]=>if ownIn sc x&&(ρ.map (·.1)).contains x then
            (if ooE cx sc e&&rC (frz F e ρ) x then(ev cx F sc (frz F e ρ) e).bind fun d=>(Hv d).map fun dss=>.nxt (cj (frz F e ρ) x (.oo dss))
            else if wD cx sc e&&j9 (frz F e ρ) x then(ev cx F sc (frz F e ρ) e).bind fun d=>(xZ d).map fun ds=>.nxt (cj (frz F e ρ) x (.ow ds))
            else if bx e && !j9 (frz F e ρ) x then(if j9 (frz F e (frz 0 e ρ)) x then(ev cx F sc (frz F e (frz 0 e ρ)) e).map fun d=>.nxt (cj (frz F e (frz 0 e ρ)) x (jC e d)) else none)
            else if rdA e then(ev cx F sc (frz F e ρ) e).bind fun d=>if eX d then some (.nxt (cj ρ x (.sh d))) else none
            else(ev cx F sc (frz F e ρ) e).map fun d=>.nxt (cj (frz F e ρ) x (jC e d))) else none
        | [.Tuple es _ _]=>if(swp sc es e).isSome||false then do
            let d <- ev cx F sc (frz F e ρ) e
            let l <- items d
            (bindNames sc es l (frz F e ρ)).map .nxt
          else none
        | [.Subscript t ie _] => (match t with
          | .Name x _ => (match SQ x e with
            | some (i2,e2)=>if true then none else none
            | none => (match (frz F ie (frz F e ρ)).lookup x with
              | some (.ow ds)=>if ownIn sc x&&au x && !bx e then do
                  let d <- ev cx F sc (frz F ie (frz F e ρ)) e
                  let j <- (ev cx F sc (frz F ie (frz F e ρ)) ie).bind asI
                  let n <- ixD ds.length j
                  some (.nxt (cj (frz F ie (frz F e ρ)) x (.ow (ds.set n d))))
                else none
              | some (.sh _) => (match ρ.lookup x with
                | some (.ow ds)=>if ownIn sc x&&au x && !bx e then do
                    let d <- ev cx F sc (frz F e ρ) e
                    let j <- (ev cx F sc (frz F e ρ) ie).bind asI
                    let n <- ixD ds.length j
                    if eX d then some (.nxt (cj ρ x (.ow (ds.set n d)))) else none
                  else none
                | _=>none)
              | _=>none))
          | .Subscript (.Name x _) i1 _ => (match ρ.lookup x with
            | some (.oo dss)=>if ownIn sc x&&au x && !bx e then do
                let d <- ev cx F sc (frz F e ρ) e
                let j1 <- (ev cx F sc (frz F i1 ρ) i1).bind asI
                let n1 <- ixD dss.length j1
                let ds <- dss[n1]?
                let j2 <- (ev cx F sc (frz F ie ρ) ie).bind asI
                let n2 <- ixD ds.length j2
                if eX d then some (.nxt (cj ρ x (.oo (dss.set n1 (ds.set n2 d))))) else none
              else none
            | _=>none)
          | _=>none)
        | _=>none)
    | .Expr v _=>(match v with
        | .Call (.Attribute (.Name x _) m ap) [e] [] cp=>(match (frz F e ρ).lookup x with
            | some (.ow ds)=>if ownIn sc x&&au x&&ap.endLine==cp.line then
                if m=="append"&&szl (ds.length+1) then(ev cx F sc (frz F e ρ) e).map fun d=>.nxt (cj (frz F e ρ) x (.ow (ds++[d])))
                else if m=="extend" then do
                  let d <- ev cx F sc (frz F e ρ) e
                  (match d with
                  | .lst zs=>if szl (ds.length+zs.length) then some (.nxt (cj (frz F e ρ) x (.ow (ds++zs)))) else none
                  | .tup zs=>if szl (ds.length+zs.length) then some (.nxt (cj (frz F e ρ) x (.ow (ds++zs)))) else none
                  | _=>none)
                else none
              else none
            | some (.sh _) => (match ρ.lookup x with
              | some (.ow ds)=>if ownIn sc x&&au x&&ap.endLine==cp.line&&(m=="append"&&szl (ds.length+1)) then do
                  let d <- ev cx F sc (frz F e ρ) e
                  if eX d then some (.nxt (cj ρ x (.ow (ds++[d])))) else none
                else none
              | _=>none)
            | _=>none)
        | .Call (.Attribute (.Name x _) m ap) [e,.Call (.Attribute (.Name y _) m2 ap2) [] [] cp2] [] cp=>(match (frz F e ρ).lookup x with
            | some (.ow ds)=>if ownIn sc x&&au x&&ap.endLine==cp.line&&ap2.endLine==cp2.line&&x==y&&m=="insert"&&m2=="pop" then do
                let i <- (ev cx F sc (frz F e ρ) e).bind asI
                let d <- ds[ds.length-1]?
                if decide (0<=i)&&decide (i<=ds.dropLast.length)&&szl ds.length then some (.nxt (cj (frz F e ρ) x (.ow (Jv ds.dropLast i.toNat d)))) else none
              else none
            | _=>none)
        | .ListComp .. =>none
        | .Constant .. =>none
        | e=>(ev cx F sc (frz F e ρ) e).map fun _=>.nxt (frz F e ρ))
    | .If c a b _=>do
        let k <- (ev cx F sc (frz F c ρ) c).bind asB
        if k then jW (fun ρ s=>st cx F n sc ρ s) a ρ else jW (fun ρ s=>st cx F n sc ρ s) b ρ
    | .For tg iter body orelse _=>(match orelse with
        | [] => do
          let l <- evI cx (d7 tg) (ev cx F sc (frz F iter ρ)) sc iter
          dD (fun d ρ=>do let ρ1 <- eZ sc tg d ρ;jW (fun ρ s=>st cx F n sc ρ s) body ρ1) l (frz F iter ρ)
        | _=>none)
    | .While c body orelse _=>(match orelse with
        | []=>Ew (fun ρ=>((ev cx F sc (frz F c ρ) c).bind asB).map fun b=>(frz F c ρ,b)) (fun ρ=>jW (fun ρ s=>st cx F n sc ρ s) body ρ) 10000000000000000000000000000000000000000000000000000000000000000000000000000000000000000000000000000 ρ
        | _=>none)
    | _=>none
def stx(cx:Cxt)(F:Nat):Nat->Scope->Rho->Stmt->Option (Str×Rho):=fun _ _ _ _=>none
structure Fd where
 ps:List Str
 N:List Str
 sc:Scope
 body:List Stmt
def bY(fd:Fd)(ds:List D):Rho:=(fd.ps.zip (ds.map Sl.sh))++(fd.N.drop fd.ps.length).map fun x=>(x,.no)
structure Pg where
 cst:List (Str×D)
 blt:List (Str×String)
 defs:List (Str×Fd)
 exs:List Str:=[]
 top:Str:="MinorError"
inductive Rs where
 | val (d:D) | exc (c:Str)
def Rs.val?:Option Rs->Option D
 | some (.val d)=>some d
 | _=>none
def Rs.exc?:Option Rs->Option Str
 | some (.exc c)=>some c
 | _=>none
def Pg.cx(P:Pg)(c:Str->List D->Option Rs):Cxt:=⟨P.cst,P.blt,P.defs.map (·.1),P.exs,P.top,true,fun f ds=>Rs.val? (c f ds),fun f ds=>Rs.exc? (c f ds)⟩
def oU(cx:Cxt)(F:Nat)(sc:Scope)(body:List Stmt)(ρ:Rho):Option Rs:=match jW (fun ρ s=>st cx F F sc ρ s) body ρ with
  | some (.ret d)=>some (.val d)
  | some (.nxt _)=>some (.val .non)
  | none => (match tG (fun ρ s => st cx F F sc ρ s) (fun ρ s => stx cx F F sc ρ s) body ρ with
    | some (c,_)=>some (.exc c)
    | none=>none)
@[irreducible] def dW (P:Pg) (F:Nat):Nat->Str->List D->Option Rs
  | 0,_,_=>none
  | k + 1, f, ds => match P.defs.lookup f with
    | none=>none
    | some fd=>if ds.length==fd.ps.length then oU (P.cx (dW P F k)) F fd.sc fd.body (bY fd ds) else none
theorem lK{P:Pg}{F:Nat}{f:Str}{ds:List D}:dW P F 0 f ds=none:=by with_unfolding_all rfl
theorem lJ{P:Pg}{F k:Nat}{f:Str}{ds:List D}:dW P F (k+1) f ds=(match P.defs.lookup f with
    | none=>none
    | some fd=>if ds.length==fd.ps.length then oU (P.cx (dW P F k)) F fd.sc fd.body (bY fd ds) else none):=by with_unfolding_all rfl
@[irreducible] def aG (P:Pg) (F k:Nat) (f:Str) (ds:List D):Option D:=Rs.val? (dW P F k f ds)
theorem gH{P:Pg}{F k:Nat}{f:Str}{ds:List D}:aG P F k f ds=Rs.val? (dW P F k f ds):=by with_unfolding_all rfl
@[irreducible] def Ef (P:Pg) (F k:Nat) (f:Str) (ds:List D):Option Str:=Rs.exc? (dW P F k f ds)
theorem yR{P:Pg}{F k:Nat}{f:Str}{ds:List D}:Ef P F k f ds=Rs.exc? (dW P F k f ds):=by with_unfolding_all rfl
end DE
namespace L2
open PySem PySem.Spec PyProof.Rows PySem.SeqAt
def mxF(val:Nat->Int):Nat->Nat->Int->Int
 | _,0,b=>b
 | j,k+1,b=>mxF val (j+1) k (if val j>b then val j else b)
section
variable {prog:Program} {w:World} {A:Around} {I:Addr} {fp wr:List Addr} {n:Nat} {P:Nat->Value->Prop} {St:Nat->Heap->Prop}
theorem kh:(toString "max"++toString ".loop":String)="max.loop":=by decide
theorem RN(W:Walks prog w A.in1 I fp wr n P St){val:Nat->Int}(hv:∀ i v,P i v->∃ t,v=.int (val i) t){S:Addr}(hS:S∉fp){kw:List (Str×Value)}{R:Result->Shared->Prop} :
    ∀ (k j:Nat) (s:Shared) (b:Int) (t:Tok) (c:Nat),j+k=n->St j s.heap->s.heap.get? S=some { cls:=.type "list",dict:=none,data:=.seq #[.int b t,.int b t] c,slots := #[] } ->
    (∀ t' h' tk,(∀ x o,x∉wr->x≠S->s.heap.get? x=some o->h'.get? x=some o)->R (.ok (.ret (.int (mxF val j k b) t'))) { s with heap:=h',toks:=tk }) ->
    codeAny (model prog w) A (.builtin "max.loop" ⟨[.ref I,.none,.ref S],kw⟩) R s:=by
  have hw:S∉wr:=fun h=>hS (W.sub _ h)
  intro k
  induction k with
  | zero =>
    intro j s b t c hj st hb hR
    refine codeAny_builtin F.entry_max_loop ?_
    rw[Around.under_plainId F.plain_max_loop _]
    refine(show wpAny _ A.in1 (seqItems? (.ref S) >>=_) _ _ s from wpAny_bind (wpAny_seqItems hb rfl ?_))
    refine(show wpAny _ A.in1 (tryCatch (pyNext (.ref I)) _ >>=_) _ _ s from wpAny_bind (wpAny_tryCatch (W.done s _ _ ((show j=n from hj)▸st) fun h1 tk kp=>?_)))
    have hb1:=kp S _ hw hb
    refine(show wpAny _ A.in1 (updateSeq S (fun _ => #[]) >>=_) _ _ _ from wpAny_bind (wpAny_updateSeq hb1 rfl (wpAny_bind (wpAny_letGo (wpAny_pure ?_)))))
    exact hR t _ tk fun x o q1 q2 e=>(Heap.get?_update_other _ _ (Ne.symm q2)).trans (kp x o q1 e)
  | succ k ih =>
    intro j s b t c hj st hb hR
    refine codeAny_builtin F.entry_max_loop ?_
    rw[Around.under_plainId F.plain_max_loop _]
    refine(show wpAny _ A.in1 (seqItems? (.ref S) >>=_) _ _ s from wpAny_bind (wpAny_seqItems hb rfl ?_))
    refine(show wpAny _ A.in1 (tryCatch (pyNext (.ref I)) _ >>=_) _ _ s from wpAny_bind (wpAny_tryCatch (W.item j s _ _ (by omega) st fun v h1 tk hP st1 kp=>?_)))
    have hb1:=kp S _ hw hb
    have hcmp:CmpOf prog w A.in1 .Gt (fun i v=>∃ t,v=Value.int (if i=0 then val j else b) t) (fun i k=>decide ((if i=0 then val j else b)>(if k=0 then val j else b))):=CmpOf.ints_gt (fun i=>if i=0 then val j else b) fun i v h=>h
    obtain⟨t2,rfl⟩:=hv _ _ hP
    refine(show wpAny _ A.in1 (tryCatch (holding [.int (val j) t2,.int (val j) t2] (richCompare .Gt (.int (val j) t2) (.int b t) >>=_)) _ >>=_) _ _ _ from
      wpAny_bind (wpAny_tryCatch (wpAny_holding (wpAny_bind (hcmp 0 1 _ _ _ _ _ ⟨t2,rfl⟩ ⟨t,rfl⟩ ?_)))))
    refine wpAny_bind (wpAny_holding (wpAny_truthy_bool (wpAny_bind (wpAny_letGo (wpAny_pure ?_)))))
    simp only[if_true,Nat.one_ne_zero,if_false]
    by_cases q:val j>b
    · simp only[decide_eq_true q,if_true]
      refine wpAny_bind (wpAny_updateSeq hb1 rfl (wpAny_bind (wpAny_letGo ?_)))
      rw[kh]
      refine wpAny_pure ⟨plainId_quiet F.plain_max_loop _,ih (j+1) _ (val j) t2 _ (by omega) (W.frame _ _ _ st1 fun x hx o e=>?_) (Heap.get?_update_self _ hb1 rfl) fun t3 h3 tk3 kp3=>?_⟩
      · exact(Heap.get?_update_other _ _ (fun z:S=x=>hS (by rw[z];exact hx))).trans e
      · have:=hR t3 h3 tk3 fun x o q1 q2 e=>kp3 x o q1 q2 ((Heap.get?_update_other _ _ (Ne.symm q2)).trans (kp x o q1 e))
        simp only[mxF,if_pos q] at this
        exact this
    · simp only[decide_eq_false q,Bool.false_eq_true,if_false]
      refine wpAny_bind (wpAny_letGo ?_)
      rw[kh]
      refine wpAny_pure ⟨plainId_quiet F.plain_max_loop _,ih (j+1) _ b t _ (by omega) st1 hb1 fun t3 h3 tk3 kp3=>?_⟩
      have:=hR t3 h3 tk3 fun x o q1 q2 e=>kp3 x o q1 q2 (kp x o q1 e)
      simp only[mxF,if_neg q] at this
      exact this
theorem Hl{val:Nat->Int}:∀ (l:List Int) (j:Nat) (b:Int),(∀ i,i<l.length->val (j+i)=l.getD i 0)->mxF val j l.length b=DE.mxL l b
  | [],j,b,h=>rfl
  | x :: r, j, b, h => by
    have h0:val j=x:=by simpa using h 0 (by simp)
    show mxF val (j+1) r.length (if val j>b then val j else b)=_
    rw[h0,Hl r (j+1) _ fun i hi=>by rw[show j+1+i=j+(i+1) by omega,h (i+1) (by simpa using hi)];simp]
    rfl
theorem xY(W:Walks prog w A.in1 I fp wr n P St){val:Nat->Int}(hv:∀ i v,P i v->∃ t,v=.int (val i) t){S:Addr}(hS:S∉fp){dn:Str}{dv:Int}{dt:Tok}{R:Result->Shared->Prop}{s:Shared}{c:Nat}(st:St 0 s.heap)
    (hb:s.heap.get? S=some { cls:=.type "list",dict:=none,data:=.seq #[] c,slots := #[] })
    (hR:∀ t' h' tk,(∀ x o,x∉wr->x≠S->s.heap.get? x=some o->h'.get? x=some o)->R (.ok (.ret (.int (match n with | 0=>dv | m+1=>mxF val 1 m (val 0)) t'))) { s with heap:=h',toks:=tk }) :
    codeAny (model prog w) A (.builtin "max.loop" ⟨[.ref I,.none,.ref S],[(dn,.int dv dt)]⟩) R s:=by
  have hw:S∉wr:=fun h=>hS (W.sub _ h)
  refine codeAny_builtin F.entry_max_loop ?_
  rw[Around.under_plainId F.plain_max_loop _]
  refine(show wpAny _ A.in1 (seqItems? (.ref S) >>=_) _ _ s from wpAny_bind (wpAny_seqItems hb rfl ?_))
  cases n with
  | zero =>
    refine(show wpAny _ A.in1 (tryCatch (pyNext (.ref I)) _ >>=_) _ _ s from wpAny_bind (wpAny_tryCatch (W.done s _ _ st fun h1 tk kp=>?_)))
    refine wpAny_bind (wpAny_rule (wpAny_pure ?_))
    exact hR dt h1 tk fun x o q1 q2 e=>kp x o q1 e
  | succ m =>
    refine(show wpAny _ A.in1 (tryCatch (pyNext (.ref I)) _ >>=_) _ _ s from wpAny_bind (wpAny_tryCatch (W.item 0 s _ _ (by omega) st fun v h1 tk hP st1 kp=>?_)))
    have hb1:=kp S _ hw hb
    obtain⟨t2,rfl⟩:=hv _ _ hP
    refine(show wpAny _ A.in1 (updateSeq S (fun _ => #[.int (val 0) t2,.int (val 0) t2]) >>=_) _ _ _ from wpAny_bind (wpAny_updateSeq hb1 rfl ?_))
    rw[kh]
    refine wpAny_pure ⟨plainId_quiet F.plain_max_loop _,RN W hv hS m 1 _ (val 0) t2 _ (by omega) (W.frame _ _ _ st1 fun x hx o e=>?_) (Heap.get?_update_self _ hb1 rfl) fun t3 h3 tk3 kp3=>?_⟩
    · exact(Heap.get?_update_other _ _ (fun z:S=x=>hS (by rw[z];exact hx))).trans e
    · exact hR t3 h3 tk3 fun x o q1 q2 e=>kp3 x o q1 q2 ((Heap.get?_update_other _ _ (Ne.symm q2)).trans (kp x o q1 e))
theorem uz(v:Value):Builtin.Builtins.bindParams "max" ["key","default"] 0 ⟨[],[(("default":Str),v)]⟩=pure [none,some v]:=rfl
theorem CJ(a v:Value):argsOk "max" ⟨[a],[(("default":Str),v)]⟩:=by unfold argsOk;kernel_rfl
theorem CG{E:Value->Shared->Prop}{s:Shared}{l:Addr}{xs:Array (Int×Tok)}{dv:Int}{dt:Tok}{Q:Value->Shared->Prop}(hh:A.handled=none)(hl:s.heap.IsList l (intItems xs))
    (h:∀ t' h' tk,(∀ b o,s.heap.get? b=some o->h'.get? b=some o)->Q (.int (match xs.size with | 0=>dv | m+1=>mxF (numAt xs) 1 m (numAt xs 0)) t') { s with heap:=h',toks:=tk }) :
    wpAny (model prog w) A (call (.builtin "max") [.ref l] [(("default":Str),.int dv dt)]) Q E s:=by
  have hsz:(intItems xs).size=xs.size:=by simp[intItems]
  have key:wpAny (model prog w) A.in1 (Builtin.«max» ⟨[.ref l],[(("default":Str),.int dv dt)]⟩) (fun fin s'=>match fin with
      | .done f=>(match (Except.ok f:Result) with | .ok (.ret v)=>Q v s' | .ok _=>False | .error e=>E e s')
      | .again c'=>c'.quiet=true/\codeAny (model prog w) A c' (fun r s'=>match r with | .ok (.ret v)=>Q v s' | .ok _=>False | .error e=>E e s') s') E s:=by
    refine(show wpAny _ A.in1 (Builtin.Builtins.bindParams "max" ["key","default"] 0 ⟨[],[(("default":Str),.int dv dt)]⟩ >>=_) _ _ s from wpAny_bind (wpAny_of_eq (uz _) (wpAny_bind (wpAny_pure (wpAny_bind ?_)))))
    refine iter_intList hl fun s2 e st hfp hne=>?_
    subst e
    refine wpAny_bind (wpAny_newObj_type ?_)
    rw[kh]
    refine wpAny_pure ⟨plainId_quiet F.plain_max_loop _,xY (Walks.list (A:=A.in1) hh _ l hne (intItems xs)) (val:=numAt xs) (fun _ _=>intItems_at) (fun hm=>Nat.lt_irrefl _ (hfp _ hm)) ((Walks.list (A:=A.in1) (prog:=prog) (w:=w) hh _ l hne (intItems xs)).frame _ _ _ st fun b _ o e=>Heap.get?_push_of_some _ e) (Heap.get?_push_size _ rfl) fun t' h' tk kp=>?_⟩
    rw[hsz]
    exact h t' h' tk (old_kept fun b o hb e=>kp b o (by simpa using hb) (Nat.ne_of_lt (Heap.lt_size e)) (Heap.get?_push_of_some _ e))
  refine wpAny_call (codeAny_call_builtin F.plain_max F.entry_max ?_)
  simp only[checkBuiltinCall,F.kind_max]
  have ha:=CJ (.ref l) (.int dv dt)
  cases hsig:Manifest.signature? "max" with
  | none=>exact wpAny_pure key
  | some sig =>
    have h2:Bind.checkArgs "max" sig ⟨[.ref l],[(("default":Str),.int dv dt)]⟩=pure ():=by simpa only[argsOk,hsig] using ha
    simp only[h2]
    exact wpAny_pure key
end
end L2
namespace L2
open PySem PySem.Spec PyProof.Rows
end L2
namespace L2
open PySem PySem.Spec PyProof.Rows
section
variable (P:Program) (w:World)
end
section
variable {P:Program} {w:World} {H H':Hp} {h h':Heap} {a:Addr} {o:HO}
end
section
variable {P:Program} {w:World} {H:Hp} {h h':Heap} {x e:Addr} {o':HO}
end
section
variable {fs fs' ex ex':List Addr} {H H1 H2:Hp} {h h1 h2 h':Heap} {a x e:Addr} {o:HO}
end
end L2
namespace L2
open PySem PySem.Spec PyProof.Rows
section
variable {X:Cx} {pins:List (Addr×Obj)} {σ:List (Option V)} {H H':Hp} {s:Shared} {h':Heap}
end
end L2
namespace L2
open PySem PySem.Spec PyProof.Rows
section
variable {X:Cx}
variable {a b:Expr} {ta tb:TE} {pos:Pos}
variable {tA tB':TT} {rest:List Expr}
end
end L2
namespace L2
open PySem PySem.Spec PyProof.Rows
section
variable {X:Cx} {pins:List (Addr×Obj)} {σ:St} {H:Hp} {s:Shared} {a:Addr} {xs ys:List V}
end
section
variable {X:Cx} {pins:List (Addr×Obj)} {σ:St} {H:Hp} {s:Shared} {E:Value->Shared->Prop}
end
section
variable {X:Cx} {st:Stmt} {rest:List Stmt} {t u:TS} {e:Expr} {te:TE} {pos:Pos}
end
section
variable {X:Cx} {pos:Pos}
end
section
variable {X:Cx} {pos:Pos}
end
end L2
namespace L2
open PySem PySem.Spec PyProof.Rows
section
variable {X:Cx} {tg:Expr}
end
end L2
namespace L2
open PySem PySem.Spec PyProof.Rows
section
variable {X:Cx} {a b c:Expr} {ta tb tc:TE} {pos:Pos}
end
section
variable {X:Cx} {a b c:Expr} {ta tb tc:TE} {pos:Pos}
end
end L2
namespace L2
open PySem PySem.Spec PyProof.Rows
section
variable {prog:Program} {w:World} {A:Around} {E:Value->Shared->Prop} {s:Shared} {K:PySem.W.Frag} {x dx C f:Addr} {mA:Str->Option Value} {name:Str} {v:Value}
end
section
variable {P:Program} {w:World} {H H':Hp} {h h':Heap} {a C dx:Addr} {fs fs':List (Str×V)}
end
section
variable {X:Cx} {pins:List (Addr×Obj)} {σ:St} {H:Hp} {s:Shared} {a C dx:Addr} {fs:List (Str×V)} {f:Str} {v:V} {A:Around} {E:Value->Shared->Prop}
end
section
variable {X:Cx} {o e value:Expr} {f:Str} {pos pos' tpos:Pos} {ta tv:TE}
end
section
variable {X:Cx} {pins:List (Addr×Obj)} {σ:St} {H:Hp} {s:Shared} {A:Around} {E:Value->Shared->Prop} {Q:Value->Shared->Prop} {c:Value} {b:Bool}
end
end L2
namespace L2
open PySem PySem.Spec PyProof.Rows
section
variable {X:Cx} {e:Expr} {es:List Expr} {te:TE} {t:TA} {pos:Pos}
end
section
variable {X:Cx} {pins:List (Addr×Obj)} {σ:St} {H:Hp} {s s':Shared}
end
section
variable {X:Cx} {CX:CXT} {k:Nat} {f C:Addr} {fd:FuncData} {ps:List Str} {sp:Sp} {dvs:List V} {ds:List Value} {E:XK} {x m:Str} {p pos apos:Pos} {e o:Expr} {es:List Expr} {ta:TE} {t:TA}
end
section
variable {X:Cx} {CX:CXT} {k:Nat} {f C:Addr} {fd:FuncData} {ps ks:List Str} {sp:Sp} {E:XK} {x m:Str} {p pos apos kpos:Pos} {e o:Expr} {es:List Expr} {kws:List Keyword} {te ta:TE} {t tk:TA} {nm:Option Str}
variable {g:List Value->List Value->List Value} {gV:List V->List V->List V}
end
end L2
namespace L2
open PySem PySem.Spec PyProof.Rows
section
variable {X:Cx} {x:Str} {p pos:Pos} {e:Expr} {es:List Expr} {t:TA} {id T:String} {r:List V->Hp->VK->Prop}
end
end L2
namespace L2
open PySem PySem.Spec PyProof.Rows
section
variable {κ:Type} [DecidableEq κ]
def wA(kvs:List (κ×V))(k:κ):Option V:=(kvs.find? fun kv=>decide (kv.1=k)).map (·.2)
def putK(kvs:List (κ×V))(k:κ)(v:V):List (κ×V) :=
 if(kvs.any fun kv=>decide (kv.1=k))=true then kvs.map (fun kv=>if kv.1=k then(kv.1,v) else kv) else kvs++[(k,v)]
theorem wM{p:κ×V}{r:List (κ×V)}{k:κ}(e:p.1=k):wA (p::r) k=some p.2:=by simp[wA,List.find?_cons,e]
theorem wN{p:κ×V}{r:List (κ×V)}{k:κ}(e:¬ p.1=k):wA (p::r) k=wA r k:=by simp[wA,List.find?_cons,e]
theorem oG(kvs:List (κ×V))(k:κ)(v:V):(putK kvs k v).length<=kvs.length+1:=by
 unfold putK
 split
 ·rw[List.length_map];omega
 ·rw[List.length_append,List.length_cons,List.length_nil];omega
theorem KV.val{kvs:List (κ×V)}{vs:List (κ×Value)}(r:KV kvs vs)(k:κ):Fi (wA kvs k) (valueAt vs k):=by
  unfold KV at r
  induction r with
  | nil=>exact True.intro
  | @cons p q ps qs h t ih =>
    obtain⟨h1,h2⟩:=h
    by_cases e:p.1=k
    · have e':q.1=k:=h1.symm.trans e
      have b:valueAt (q::qs) k=some q.2:=by simp[valueAt,List.find?_cons,e']
      rw[wM e,b];exact h2
    · have e':¬ q.1=k:=fun z=>e (h1.trans z)
      have b:valueAt (q::qs) k=valueAt qs k:=by simp[valueAt,List.find?_cons,e']
      rw[wN e,b];exact ih
theorem KV.any{kvs:List (κ×V)}{vs:List (κ×Value)}(r:KV kvs vs)(k:κ):(kvs.any fun kv=>decide (kv.1=k))=vs.any fun kv=>decide (kv.1=k):=by
 unfold KV at r
 induction r with
 | nil=>rfl
 | cons h t ih=>rw[List.any_cons,List.any_cons,ih,h.1]
theorem KV.repl{kvs:List (κ×V)}{vs:List (κ×Value)}(r:KV kvs vs)(k:κ){y:V}{u:Value}(ry:RelV y u) :
    KV (kvs.map fun kv=>if kv.1=k then(kv.1,y) else kv) (vs.map fun kv=>if kv.1=k then(kv.1,u) else kv):=by
  unfold KV at r ⊢
  induction r with
  | nil=>exact .nil
  | @cons p q ps qs h t ih =>
    rw[List.map_cons,List.map_cons]
    refine .cons ?_ ih
    obtain⟨h1,h2⟩:=h
    by_cases e:p.1=k
    · rw[if_pos e,if_pos (h1.symm.trans e)];exact⟨h1,ry⟩
    · rw[if_neg e,if_neg (fun z=>e (h1.trans z))];exact⟨h1,h2⟩
theorem KV.put{kvs:List (κ×V)}{vs:List (κ×Value)}(r:KV kvs vs)(k:κ){y:V}{u:Value}(ry:RelV y u):KV (putK kvs k y) (stored vs k u):=by
 unfold putK stored
 rw[r.any k]
 by_cases e:(vs.any fun kv=>decide (kv.1=k))=true
 ·rw[if_pos e,if_pos e];exact r.repl k ry
 ·rw[if_neg e,if_neg e];exact Paired.snoc r ⟨rfl,ry⟩
end
theorem HJ{P:Program}{w:World}{k:Key}{u:Value}(r:RelV (kV k) u):(bQ P w).is k u=true:=by
 cases k with
 | inl i=>obtain⟨t,e⟩:=(show ∃ t,u=Value.int i t from r);subst e;exact ou P w i t
 | inr x=>obtain⟨t,e⟩:=(show ∃ t,u=Value.str x t from r);subst e;exact oh P w x t
section
variable {P:Program} {w:World} {H:Hp} {h:Heap} {a:Addr}
theorem Kd{u:HO}(ok:HOk P w H h)(e:Rd H a u):cZ P w H h a u:=e.ok ok
theorem Iz{kvs:List (Key×V)}(ok:HOk P w H h)(e:Rd H a (.dK kvs)):kvs.length<=sizeLine/\(a==sysModules)=false/\∃ vs,KV kvs vs/\h.DictOf (bQ P w) a vs :=
 show cZ P w H h a (.dK kvs) from Kd ok e
theorem Sw{kvs:List (Key×V)}(ok:HOk P w H h)(e:H a=some (.dK kvs)):kvs.length<=sizeLine/\(a==sysModules)=false/\∃ vs,KV kvs vs/\h.DictOf (bQ P w) a vs:=Iz ok (.inl e)
end
section
variable {X:Cx} {pins:List (Addr×Obj)} {σ:St} {H:Hp} {s:Shared} {a:Addr} {y v:V} {u r:Value} {o:Option V} {A:Around} {E:Value->Shared->Prop}
theorem Inv.big(I:Inv X pins σ H s):sysModules<s.heap.objs.size:=by
 have h:mainGlobals<s.heap.objs.size:=(I.mod.glob.keeps I.bk).lt
 exact Nat.lt_trans (by decide) h
theorem DY{h':Heap}{t':Nat}{ob:HO}(I:Inv X pins σ H s)(mu:Mut (H a))(hs:Heap.SameBut a s.heap h')(he:∃ q,h'.get? a=some q)(new:cZ X.prog X.w (upd H a ob) h' a ob) :
  Inv X pins σ (upd H a ob) { s with heap:=h',toks:=t' } :=
 I.write (x:=a) (e:=a) mu (.inl rfl) (fun b q hb z=>(hs.2 b hb).trans z) he new
theorem IK{P:Program}{w:World}{H':Hp}{h':Heap}{kvs:List (Key×V)}{vs:List (Key×Value)}(z:kvs.length<=sizeLine)(hd:(a==sysModules)=false)(rel:KV kvs vs)(dd:h'.DictOf (bQ P w) a vs) :
  cZ P w H' h' a (.dK kvs):=⟨z,hd,vs,rel,dd⟩
end
section
variable {X:Cx} {pins:List (Addr×Obj)} {σ:St} {H:Hp} {s:Shared} {a:Addr} {kvs:List (Key×V)} {k:Key} {u:Value} {A:Around} {E:Value->Shared->Prop}
end
def WL(i:Expr):Prop:=∀ ov iv,subscripted i false ov iv=operate [ov,iv] (getItem ov iv)
theorem Am{prog:Program}{w:World}{A:Around}{E:Value->Shared->Prop}{s:Shared}{env:Env}{value slice:Expr}{pos:Pos}{T id:String}{Q:Value->Shared->Prop}
  (hl:typeLookup (.type T) "__getitem__"=pure (some (.builtin id))) (hs:WL slice)
  (h:wpAny (model prog w) A (eval value env) (fun o s₁=>wpAny (model prog w) A (eval slice env) (fun i s₂=>s₂.TypeIs o T/\wpAny (model prog w) A (getItem o i) Q E s₂) E s₁) E s) :
  wpAny (model prog w) A (eval (.Subscript value slice pos) env) Q E s:=by
 refine Subscript_ (wpAny_mono h (fun o s₁ h₁=>wpAny_mono h₁ (fun i s₂ h₂=>?_) fun _ _ x=>x) fun _ _ x=>x)
 obtain⟨hT,h₂⟩:=h₂
 unfold subscriptTail
 refine wpAny_bind ?_
 rw[getitemInPython_of_ne hT.not_modules]
 refine wpAny_bind (wpAny_specialOf hT hl ?_)
 have fin:wpAny (model prog w) A (subscripted slice false o i) (fun r s₃=>wpAny (model prog w) A (letTemporaryGo value o r >>=fun _=>pure r) Q E s₃) E s₂:=by
  rw[hs o i]
  exact wpAny_operating (wpAny_mono h₂ (fun r s₃ h₃=>wpAny_bind (wpAny_letTemporaryGo (wpAny_pure h₃))) fun _ _ x=>x)
 first
  | exact wpAny_pure (wpAny_bind fin)
  | exact wpAny_bind (wpAny_pure (wpAny_bind fin))
  | exact wpAny_bind fin
section
variable {X:Cx} {o i e value:Expr} {pos pos' tpos:Pos} {td ty tv:TE}
end
theorem yM{P:Program}{w:World}{H:Hp}(h:Heap)(hb:sysModules<h.objs.size):cZ P w H (h.push { cls:=.type "dict",data:=.dict #[] }) h.objs.size (.dK []) :=
 ⟨Nat.zero_le _,beq_eq_false_iff_ne.mpr (Ne.symm (Nat.ne_of_lt hb)),[],.nil,Heap.DictOf.new h⟩
section
variable {X:Cx} {pos:Pos}
end
def pq:List (TE×TE)->St->Hp->(List (V×V)->Hp->Prop)->Prop
 | [],_,H,Q=>Q [] H
 | (tk,tv)::r,σ,H,Q=>tk σ H fun x H1=>tv σ H1 fun y H2=>pq r σ H2 fun ps H3=>Q ((x,y)::ps) H3
abbrev VV:List (V×V)->List (Value×Value)->Prop:=Paired fun p q=>RelV p.1 q.1/\RelV p.2 q.2
def PPs(X:Cx)(pos:Pos)(keys:List (Option Expr))(values:List Expr)(trs:List (TE×TE)):Prop :=
  ∀ (pins : List (Addr × Obj)) (s : Shared) (σ : St) (H : Hp) (Q : List (V × V) -> Hp -> Prop), Inv X pins σ H s -> pq trs σ H Q ->
    wpAny (model X.prog X.w) X.A (evalPairs (pairTrees keys values X.env pos)) (fun vs s'=>∃ ps H',Inv X pins σ H' s'/\VV ps vs/\Q ps H') X.xe s
theorem Bo{X:Cx}{pos:Pos}:PPs X pos [] [] []:=fun pins s σ H Q I h=>pairTrees_nil_walk ⟨[],H,I,.nil,h⟩
theorem xq{X:Cx}{pos:Pos}{k v:Expr}{ks:List (Option Expr)}{vs:List Expr}{tk tv:TE}{trs:List (TE×TE)}(hk:PE X k tk)(hv:PE X v tv)(hr:PPs X pos ks vs trs) :
    PPs X pos (some k::ks) (v::vs) ((tk,tv)::trs):=fun pins s σ H Q I h =>
  pairTrees_cons_walk (thn (hk pins s σ H _ I h) fun u s1 ⟨x,H1,I1,rx,q1⟩=>thn (hv pins s1 σ H1 _ I1 q1) fun w2 s2 ⟨y,H2,I2,ry,q2⟩ =>
    thn (hr pins s2 σ H2 _ I2 q2) fun ws s3 ⟨ps,H3,I3,rel,q3⟩=>⟨(x,y)::ps,H3,I3,.cons ⟨rx,ry⟩ rel,q3⟩)
def gb(kvs more:List (Key×V)):List (Key×V):=more.foldl (fun acc kv=>putK acc kv.1 kv.2) kvs
theorem KV.merge:∀ {more:List (Key×V)} {rs:List (Key×Value)} {kvs:List (Key×V)} {vs:List (Key×Value)},KV more rs->KV kvs vs->KV (gb kvs more) (merged vs rs):=by
  intro more rs kvs vs r
  unfold KV at r
  induction r generalizing kvs vs with
  | nil=>intro q;exact q
  | @cons p q ps qs h t ih =>
    intro r0
    have e:KV (putK kvs p.1 p.2) (stored vs q.1 q.2):=by
      have:=r0.put p.1 h.2
      rw[<- h.1];exact this
    exact ih e
theorem gq:∀ (more kvs:List (Key×V)),(gb kvs more).length<=kvs.length+more.length
  | [],kvs=>by show kvs.length<=kvs.length+0;omega
  | p :: r, kvs => by
    have h1:=gq r (putK kvs p.1 p.2)
    have h2:=oG kvs p.1 p.2
    show(gb (putK kvs p.1 p.2) r).length<=_
    rw[List.length_cons];omega
theorem jP{P:Program}{w:World}:∀ {kvs:List (Key×V)} {ws:List (Value×Value)},VV (kvs.map fun kv=>(kV kv.1,kv.2)) ws->∃ rs,Carries (bQ P w) ws rs/\KV kvs rs
  | [],_,r=>by rw[List.map_nil] at r;cases r;exact⟨[],True.intro,.nil⟩
  | p :: kvs, _, r => by
    rw[List.map_cons] at r
    cases r with
    | @cons a b as bs h t =>
      obtain⟨rs,c,q⟩:=jP (P:=P) (w:=w) t
      obtain⟨b1,b2⟩:=b
      exact⟨(p.1,b2)::rs,⟨HJ h.1,rfl,c⟩,.cons ⟨rfl,h.2⟩ q⟩
def J2(trs:List (TE×TE)):TE:=fun σ H Q=>∀ p,H p=none->pq trs σ (upd H p (.dK [])) fun ps H2=>H2 p=some (.dK [])/\∃ kvs:List (Key×V),ps=kvs.map (fun kv=>(kV kv.1,kv.2))/\kvs.length<=15/\Q (.ref p) (upd H2 p (.dK (gb [] kvs)))
theorem BP{X:Cx}{pos:Pos}{keys:List (Option Expr)}{values:List Expr}{trs:List (TE×TE)}(h:PPs X pos keys values trs)(hall:keys.all (·.isSome)=true)(hl:keys.length=values.length)(h0:keys≠[])
  (h15:keys.length<=15):PE X (.Dict keys values pos) (J2 trs):=by
 intro pins s σ H Q I q
 have hn:=I.hok.fresh (Nat.le_refl s.heap.objs.size)
 have I1:=I.laid (a:=s.heap.objs.size) (o:=.dK []) (h':=s.heap.push { cls:=.type "dict",data:=.dict #[] }) (t':=s.toks) (fun _ _ q=>Heap.get?_push_of_some _ q) (Nat.le_refl _) (yM s.heap I.big)
 refine wpAny_Dict_walk (knd:=bQ X.prog X.w) hall hl h0 h15 (thn (h pins _ σ _ _ I1 (q _ hn)) fun ws s2 ⟨ps,H2,I2,rel,e,kvs,ep,lk,q2⟩=>?_)
 subst ep
 obtain⟨rs,c,rk⟩:=jP (P:=X.prog) (w:=X.w) rel
 obtain⟨z,hd,vs0,r0,dd⟩:=Sw I2.hok e
 cases r0
 refine⟨rs,c,dd,fun h' dd' hs=>⟨.ref s.heap.objs.size,_,?_,rfl,q2⟩⟩
 have hz:(gb [] kvs).length<=sizeLine:=by
  have h1:=gq kvs []
  rw[List.length_nil] at h1
  rw[sizeLine_eq];omega
 have he:∃ q,h'.get? s.heap.objs.size=some q:=let ⟨q,_,_,hq,_⟩:=dd';⟨q,hq⟩
 exact DY I2 (by rw[e];exact True.intro) hs he (IK hz hd (rk.merge .nil) dd')
structure M2 (X:Cx) (o:Expr) (m:Str) (apos:Pos) (e f:Expr) (cpos:Pos):Prop where
  base:attributeBase o m X.env (eval o X.env)=eval o X.env
  few:((backTo cpos (starEach [e,f] X.env)).all (fun x => !x.1)&&(backToKw cpos (keywordEach [] X.env)).all (fun x=>x.1.isSome)
    && decide (([e,f]:List Expr).length+([]:List Keyword).length+(if([]:List Keyword).isEmpty then 0 else 1)<30))=true
  line:(apos.endLine==cpos.line)=true
  trees:backTo cpos (starEach [e,f] X.env)=[(false,eval e X.env),(false,eval f X.env)]
section
variable {X:Cx} {pins:List (Addr×Obj)} {σ:St} {H:Hp} {s:Shared} {a:Addr} {y d:V} {u r:Value} {o:Option V} {A:Around} {E:Value->Shared->Prop}
end
section
variable {X:Cx} {o e f:Expr} {apos cpos:Pos} {td ty tx:TE}
end
section
variable {X:Cx} {pins:List (Addr×Obj)} {σ:St} {H:Hp} {s:Shared} {a:Addr} {kvs:List (Key×V)} {A:Around} {E:Value->Shared->Prop}
end
section
variable {X:Cx} {pins:List (Addr×Obj)} {σ:St} {H:Hp} {s:Shared} {a:Addr} {y:V} {u:Value} {A:Around} {E:Value->Shared->Prop}
end
end L2
namespace Att
open PySem PySem.W PySem.Calls PyProof.Rows
section
variable {prog:Program} {w:World} {A:Around} {E:Value->Shared->Prop} {s:Shared} {K:Frag}
end
end Att
namespace L2
open PySem PySem.Spec PyProof.Rows
end L2
namespace L2
open PySem PySem.Spec PyProof.Rows
end L2
namespace L2
open PySem PySem.Spec PyProof.Rows
section
variable {P:Program} {w:World} {K:PySem.W.Frag} {mg:Str->Option Value} {base:Heap}
end
section
variable {X:Cx}
end
section
variable {κ:Type} [DecidableEq κ]
end
end L2
namespace L2
open PySem PySem.Spec PyProof.Rows
def KDc(K:PySem.W.Frag)(a:Addr)(kvs:List (Key×V)):Prop:=∃ (o:Obj) (es:Array DictEntry) (n:Nat),K.lookup a=some o/\o.ExactDict/\o.data=.dict es n/\(a==sysModules)=false/\(kvs.map (·.1)).Nodup/\Paired (fun(p:Key×V) (e:DictEntry)=>(∃ x t,p.1=.inr x/\e.key=.str x t)/\RelV p.2 e.val) kvs es.toList
def hsO(o:Obj):List Int:=match o.data with | .dict es _=>es.toList.map (·.hash) | _=>[]
def hsX(w:World)(o:Obj):List Int:=match o.data with | .dict es _=>es.toList.map (fun e=>match e.key with | .str x _=>hashStr w x | _=>e.hash) | _=>[]
def KnW(K:PySem.W.Frag)(w:World):Prop:=K.map (fun p=>hsO p.2)=K.map (fun p=>hsX w p.2)
theorem lookup_mem{α:Type}:∀ {l:List (Addr×α)} {a:Addr} {o:α},l.lookup a=some o->(a,o)∈l
  | (b, u) :: r, a, o, h => by
    rw[List.lookup_cons] at h
    cases hb:a==b with
    | true =>
      rw[hb] at h
      have e1:a=b:=by simpa using hb
      cases h
      subst e1
      exact List.mem_cons_self
    | false =>
      rw[hb] at h
      exact List.mem_cons_of_mem _ (lookup_mem h)
theorem KnW.at{K:PySem.W.Frag}{w:World}{a:Addr}{o:Obj}{es:Array DictEntry}{n:Nat}(kw:KnW K w)(h:K.lookup a=some o)(hd:o.data=.dict es n):∀ e∈es.toList,∀ x t,e.key=.str x t->e.hash=hashStr w x:=by
 have:=List.map_inj_left.mp kw (a,o) (lookup_mem h)
 simp only[hsO,hsX,hd] at this
 intro e he x t hk
 have q:=List.map_inj_left.mp this e he
 rw[hk] at q
 exact q
theorem uQ{P:Program}{w:World}{kvs:List (Key×V)}{es:List DictEntry}(p:Paired (fun(p:Key×V) (e:DictEntry)=>(∃ x t,p.1=.inr x/\e.key=.str x t)/\RelV p.2 e.val) kvs es)(hh:∀ e∈es,∀ x t,e.key=.str x t->e.hash=hashStr w x) :
    ∃ vs:List (Key×Value),KV kvs vs/\Pairs (bQ P w) es vs/\vs.map (·.1)=kvs.map (·.1)/\∀ e∈es,∃ k,(bQ P w).is k e.key=true/\e.hash=(bQ P w).hash k:=by
  induction p with
  | nil=>exact⟨[],.nil,.nil,rfl,fun e he=>nomatch he⟩
  | @cons q e kvs es h t ih =>
    obtain⟨vs,h1,h2,h3,h4⟩:=ih fun e he=>hh e (List.mem_cons_of_mem _ he)
    obtain⟨⟨x,tk,g1,g2⟩,g3⟩:=h
    have gi:(bQ P w).is q.1 e.key=true:=by
      rw[g1,g2]
      show Value.isStrOf x (.str x tk)=true
      simp[Value.isStrOf]
    refine⟨(q.1,e.val)::vs,.cons ⟨rfl,g3⟩ h1,.cons gi rfl h2,by simp[h3],fun e' he=>?_⟩
    rcases List.mem_cons.mp he with r | r
    · subst r
      refine⟨q.1,gi,?_⟩
      rw[hh _ List.mem_cons_self x tk g2,g1]
      rfl
    · exact h4 e' r
def DAt(K:PySem.W.Frag)(H:Hp)(a:Addr)(kvs:List (Key×V)):Prop:=Rd H a (.dK kvs)\/KDc K a kvs
section
variable {X:Cx} {pins:List (Addr×Obj)} {σ:St} {H:Hp} {s:Shared} {a:Addr} {kvs:List (Key×V)} {k:Key} {v d:V} {u r:Value} {A:Around} {E:Value->Shared->Prop} {o i e f:Expr} {td ty tx:TE} {pos apos cpos:Pos}
theorem yN(I:Inv X pins σ H s)(kw:KnW X.K X.w)(g:DAt X.K H a kvs):(a==sysModules)=false/\∃ vs,KV kvs vs/\s.heap.DictOf (bQ X.prog X.w) a vs:=by
 rcases g with g | ⟨o,es,n,h1,h2,h3,h4,h5,h6⟩
 ·exact(Iz I.hok g).2
 ·obtain⟨vs,g1,g2,g3,g4⟩:=uQ (P:=X.prog) h6 (kw.at h1 h3)
  exact⟨h4,vs,g1,o,es,n,I.kIn a o h1,h2,h3,fun e he=>g4 e (by simpa using he),g2,by rw[g3];exact h5⟩
theorem uR{Q:Value->Shared->Prop}(I:Inv X pins σ H s)(kw:KnW X.K X.w)(g:DAt X.K H a kvs)(l:some v=wA kvs k)(ry:RelV (kV k) u)(h:∀ w' s',Inv X pins σ H s'->RelV v w'->Q w' s') :
  s.TypeIs (.ref a) "dict"/\wpAny (model X.prog X.w) A (getItem (.ref a) u) Q E s:=by
 obtain⟨hd,vs,rel,dd⟩:=yN I kw g
 obtain⟨w',hw,rw'⟩:=Fi.some_of (v:=v) (o:=valueAt vs k) (by rw[l];exact rel.val k)
 exact⟨dd.typeIs,wpAny_getItem_of (HJ ry) dd.mapOf hw (h w' _ (I.tok _) rw')⟩
def JZ(K:PySem.W.Frag)(td ty:TE):TE:=fun σ H Q=>td σ H fun x H1=>ty σ H1 fun y H2=>∃ a v kvs k,x=.ref a/\DAt K H2 a kvs/\y=kV k/\some v=wA kvs k/\Q v H2
theorem BK(kw:KnW X.K X.w)(ho:PE X o td)(hi:PE X i ty)(hs:WL i):PE X (.Subscript o i pos) (JZ X.K td ty):=by
 intro pins s σ H Q I h
 refine Am PySem.F.slot_dict_getitem.lookup hs (thn (ho pins s σ H _ I h) fun u s1 ⟨x,H1,I1,rx,q1⟩=>thn (hi pins s1 σ H1 _ I1 q1) fun iv s2 ⟨y,H2,I2,ry,a,v,kvs,k,ex,g,ey,l,q2⟩=>?_)
 subst ex
 subst ey
 obtain rfl:u=Value.ref a:=rx
 exact uR I2 kw g l ry fun w' s3 I3 rw'=>⟨v,H2,I3,rw',q2⟩
end
end L2
namespace L2
open PySem PySem.Spec PyProof.Rows
section
variable {P:Program} {w:World} {H H':Hp} {h h':Heap} {a:Addr} {o:HO}
theorem cZ.there(x:cZ P w H h a o):∃ ob,h.get? a=some ob:=by
 cases o with
 | lst xs=>obtain⟨_,_,_,_,e⟩:=x;exact⟨_,e⟩
 | tup xs=>obtain⟨_,_,_,ob,e,_⟩:=x;exact⟨_,e⟩
 | dK kvs=>obtain⟨_,_,_,_,o,_,_,e,_⟩:=x;exact⟨_,e⟩
 | dT kvs=>obtain⟨_,_,_,_,o,_,_,e,_⟩:=x;exact⟨_,e⟩
 | set S n=>obtain⟨o,_,_,_,e,_⟩:=x;exact⟨_,e⟩
 | ins C dx fs=>obtain⟨_,_,_,e,_⟩:=x;exact⟨_,e⟩
 | own y=>exact x
 | xd fs=>obtain⟨_,⟨_,_,_,e,_⟩,_⟩:=x;exact⟨_,e⟩
 | rng lo hi=>obtain⟨_,_,_,e⟩:=x;exact⟨_,e⟩
 | frz ob u=>obtain⟨e,_⟩:=x;exact⟨_,e⟩
 | tbl ps=>exact⟨_,(show h.get? a=some _ from x)⟩
 | met f y=>exact⟨_,(show h.get? a=some _ from x)⟩
 | ext φ=>exact x.2.1
theorem HOk.none_of(x:HOk P w H h)(e:h.get? a=none):H a=none:=by
  cases q:H a with
  | none=>rfl
  | some u =>
    obtain⟨ob,r⟩:=(x a u q).there
    rw[e] at r;cases r
theorem HOk.part{B:Heap}(x:HOk P w H h)(k:∀ b u ob,H b=some u->h.get? b=some ob->B.get? b=some ob):HOk P w H B:=fun b u e=>by
 refine(x b u e).stay (fun c v hc q=>?_) (fun _ q=>q) fun _ _ q=>q
 rcases hc with rfl | hc
 ·exact k _ _ _ e q
 ·exact k _ _ _ hc q
end
section
variable {fs fs' ex:List Addr} {H H':Hp} {h h1 h2 B:Heap}
theorem Un.fly(U:Un fs [] H H' h h1)(kB:∀ b o,h.get? b=some o->H b=none->b∉fs->B.get? b=some o)(tB:∀ b o,h.get? b=some o->b∉fs->∃ o',B.get? b=some o')(st:B.StaysIn h2)
  (nf:∀ b∈fs,∀ o,h1.get? b=some o->∀ vs,o.data≠.fields vs) (up:h1.UpToSlots h2):Un fs [] H H' h h2 where
 keep:=fun b o q n hb _=>st b o (kB b o q n hb)
 slot:=fun b o q n hb hx=>by
  obtain⟨sl,e⟩:=U.slot b o q n hb hx
  obtain⟨sl',e'⟩:=up b _ e (nf b hb _ e)
  exact⟨sl',e'⟩
 free:=U.free
 there:=fun b o q hx=>by
  by_cases hb:b∈fs
  ·obtain⟨o',e⟩:=U.there b o q hx
   obtain⟨sl,e'⟩:=up b _ e (nf b hb _ e)
   exact⟨_,e'⟩
  ·obtain⟨o',e⟩:=tB b o q hb
   exact⟨o',st b o' e⟩
 tups:=U.tups
 frzs:=U.frzs
 tbls:=U.tbls
theorem Un.restrict(U:Un fs' ex H H' h h1)(hs:∀ b o,b∈fs'->h.get? b=some o->b∈fs):Un fs ex H H' h h1 where
 keep:=fun b o q n hb hx=>U.keep b o q n (fun z=>hb (hs b o z q)) hx
 slot:=fun b o q n _ hx=>U.any q n hx
 free:=U.free
 there:=U.there
 tups:=U.tups
 frzs:=U.frzs
 tbls:=U.tbls
end
structure Fly (P:Program) (w:World) (outer:List Env) (H:Hp) (s:Shared) (H':Hp) (ea:Addr) (cls:Value) (s':Shared):Prop where
 os:s'.os=s.os
 bare:AllBare s'.gens
 un:Un (frs outer) [] H H' s.heap s'.heap
 fly:∃ B a0,Heap.FlyingW B outer ea cls a0 s'.heap/\HOk P w H' B/\(∀ b o,s.heap.get? b=some o->H b=none->b∉frs outer->B.get? b=some o)/\(∀ b o,s.heap.get? b=some o->b∉frs outer->∃ o',B.get? b=some o')
 fresh:s.heap.get? ea=none
def CX1(P:Program)(w:World):CXT:=fun outer H s E e s'=>∃ ea cls H',e=.ref ea/\Fly P w outer H s H' ea cls s'/\H' ea=none/\E cls none H'
theorem Kw{P:Program}{w:World}{X:Cx}:Passes (CX1 P w) X E0:=fun _ _ _ _ _ _ _ h=>by obtain⟨_,_,_,_,_,_,z⟩:=h;exact z.elim
theorem Hh{B h:Heap}{l:List Env}(f:h.FunFrames B l):∀ b∈frs l,∀ o,h.get? b=some o->∀ vs,o.data≠.fields vs:=fun b hb o e=>by
 obtain⟨_,o',e',hd⟩:=f.mem hb
 rw[e] at e';cases e'
 exact hd
section
variable {P:Program} {w:World} {K:PySem.W.Frag} {mg:Str->Option Value} {base:Heap} {N:List Str} {qual:Str} {scope:Scope} {f:Addr} {cd:Value} {A:Around} {outer:List Env} {s:Shared} {H:Hp} {E:XK}
theorem qj{env:Env}{L:Addr}(hf:env.frame=some L):frs (env::outer)=L::frs outer:=by
 unfold frs;rw[List.filterMap_cons,hf]
theorem ur:Passes (CX1 P w) (gZ (CX1 P w) P w K mg base N qual scope f cd A outer s H E) E:=by
  intro pins σ H1 s1 e s' I h
  obtain⟨ea,cls,H',rfl,Fl,hn,hE⟩:=h
  obtain⟨B,a0,fl,hokB,kB,tB⟩:=Fl.fly
  have hfr:frs (gZ (CX1 P w) P w K mg base N qual scope f cd A outer s H E).stack=s.heap.objs.size::frs outer:=qj rfl
  have nL:∀ b o,s.heap.get? b=some o->b≠s.heap.objs.size:=fun b o q=>Nat.ne_of_lt (Heap.lt_size q)
  have nin:∀ b o,s.heap.get? b=some o->b∉frs outer->b∉frs (gZ (CX1 P w) P w K mg base N qual scope f cd A outer s H E).stack:=fun b o q hb z=>by
    rw[hfr] at z
    rcases List.mem_cons.mp z with z | z
    · exact nL b o q z
    · exact hb z
  have noex:∀ b:Addr,b∉(gZ (CX1 P w) P w K mg base N qual scope f cd A outer s H E).ex:=fun b z=>absurd (show b∈([]:List Addr) from z) (by simp)
  show wpAny _ _ (leaving _ (.ref ea)) _ _ _
  refine wpAny_leaves_onW I.ok.frames rfl fl fun h2 fl2 up=>?_
  refine⟨ea,cls,H',rfl,⟨Fl.os.trans I.os,Fl.bare,?_,⟨B,a0,fl2,hokB,fun b o q n hb=>?_,fun b o q hb=>?_⟩,?_⟩,hn,hE⟩
  · have U1:=Un.fly Fl.un kB tB fl2.1 (Hh fl.2.2.1) up
    have U0:Un (frs (gZ (CX1 P w) P w K mg base N qual scope f cd A outer s H E).stack) [] H H1 s.heap s1.heap:=I.base.mono (fun b hb=>by rw[hfr];exact List.mem_cons_of_mem _ hb) (fun b hb=>hb)
    exact(U0.trans U1).restrict fun b o hb q=>by
      rw[hfr] at hb
      rcases List.mem_cons.mp hb with z | z
      · exact absurd z (nL b o q)
      · exact z
  · exact kB b o (I.base.keep b o q n hb (noex b)) (I.base.free b o q n (noex b)) (nin b o q hb)
  · obtain⟨o1,q1⟩:=I.base.there b o q (noex b)
    exact tB b o1 q1 (nin b o q hb)
  · cases q:s.heap.get? ea with
    | none=>rfl
    | some o =>
      obtain⟨o1,q1⟩:=I.base.there ea o q (noex ea)
      rw[Fl.fresh] at q1;cases q1
theorem rA{pins:List (Addr×Obj)}{σ:St}{H1:Hp}{s1:Shared}{C e:Addr}{h':Heap}{args:List Value}(I:Inv (gZ (CX1 P w) P w K mg base N qual scope f cd A outer s H E) pins σ H1 s1)(hx:Heap.MadeExcOf s1.heap h' e (.ref C) args)(hE:E (.ref C) none H1) :
    (gZ (CX1 P w) P w K mg base N qual scope f cd A outer s H E).xe (.ref e) { s1 with heap:=h' }:=by
  have hfr:frs (gZ (CX1 P w) P w K mg base N qual scope f cd A outer s H E).stack=s.heap.objs.size::frs outer:=qj rfl
  have nL:∀ b o,s.heap.get? b=some o->b≠s.heap.objs.size:=fun b o q=>Nat.ne_of_lt (Heap.lt_size q)
  have nin:∀ b o,s.heap.get? b=some o->b∉frs outer->b∉frs (gZ (CX1 P w) P w K mg base N qual scope f cd A outer s H E).stack:=fun b o q hb z=>by
    rw[hfr] at z
    rcases List.mem_cons.mp z with z | z
    · exact nL b o q z
    · exact hb z
  have noex:∀ b:Addr,b∉(gZ (CX1 P w) P w K mg base N qual scope f cd A outer s H E).ex:=fun b z=>absurd (show b∈([]:List Addr) from z) (by simp)
  have hin:∀ env∈(gZ (CX1 P w) P w K mg base N qual scope f cd A outer s H E).stack,∀ b,env.frame=some b->b∈frs (gZ (CX1 P w) P w K mg base N qual scope f cd A outer s H E).stack:=fun env he b hb=>List.mem_filterMap.mpr ⟨env,he,hb⟩
  show wpAny _ _ (leaving _ (.ref e)) _ _ _
  have kB:∀ b o,s1.heap.get? b=some o->b∉frs (gZ (CX1 P w) P w K mg base N qual scope f cd A outer s H E).stack->(PySem.W.hideAll s1.heap (frs (gZ (CX1 P w) P w K mg base N qual scope f cd A outer s H E).stack)).get? b=some o:=fun b o q hb=>PySem.W.hideAll_get _ q hb
  refine wpAny_leaves_madeW I.ok.frames rfl (fun b o q=>PySem.W.of_hideAll _ q) (PySem.W.funFrames_hide I.stack hin) hx fun h2 t x1 x2 x3 x4=>?_
  have up:s1.heap.UpToSlots h2:=(Heap.UpToSlots.of_keeps hx.keeps).trans x4
  have hok:HOk P w H1 (PySem.W.hideAll s1.heap (frs (gZ (CX1 P w) P w K mg base N qual scope f cd A outer s H E).stack)):=HOk.part I.hok fun b u ob hu q=>kB b ob q fun z=>by
    rw[I.stkFree b z] at hu;cases hu
  have hn:H1 e=none:=HOk.none_of I.hok hx.new
  refine⟨e,.ref C,H1,rfl,⟨I.os,I.bare,?_,⟨_,_,x1,hok,fun b o q n hb=>?_,fun b o q hb=>?_⟩,?_⟩,hn,hE⟩
  · have U1:Un (frs (gZ (CX1 P w) P w K mg base N qual scope f cd A outer s H E).stack) [] H1 H1 s1.heap h2:=Un.fly Un.refl (fun b o q _ hb=>kB b o q hb) (fun b o q hb=>⟨o,kB b o q hb⟩) x1.1 (Hh I.stack) up
    have U0:Un (frs (gZ (CX1 P w) P w K mg base N qual scope f cd A outer s H E).stack) [] H H1 s.heap s1.heap:=I.base.mono (fun b hb=>by rw[hfr];exact List.mem_cons_of_mem _ hb) (fun b hb=>hb)
    exact(U0.trans U1).restrict fun b o hb q=>by
      rw[hfr] at hb
      rcases List.mem_cons.mp hb with z | z
      · exact absurd z (nL b o q)
      · exact z
  · exact kB b o (I.base.keep b o q n hb (noex b)) (nin b o q hb)
  · obtain⟨o1,q1⟩:=I.base.there b o q (noex b)
    exact⟨o1,kB b o1 q1 (nin b o q hb)⟩
  · cases q:s.heap.get? e with
    | none=>rfl
    | some o =>
      obtain⟨o1,q1⟩:=I.base.there e o q (noex e)
      have:=hx.new
      rw[this] at q1;cases q1
end
def nsOk(K:PySem.W.Frag)(N:Addr):Bool:=match K.lookup N with
 | some ⟨_,_,.dict es _,_⟩=>es.toList.all (fun e=>match e.key with | .str _ _=>true | _=>false)&&(PySem.W.nsIn K N "__init__"==some none)
 | _=>false
def xIn(K:PySem.W.Frag)(C M:Addr):Bool:=match K.lookup C,K.lookup M with
  | some ⟨.type "type", _, .cls cd, sl⟩, some ⟨_, _, .cls cdM, _⟩ =>
    (match sl.toList with | [_,_,_,_,some (.builtin n),_]=>n=="ValueError.__new__" | _=>false)&&cd.mro==[.ref C,.ref M,.type "ValueError",.type "Exception",.type "BaseException",.type "object"] && !cd.hasDel&&nsOk K cd.ns&&nsOk K cdM.ns
  | _,_=>false
section
variable {X:Cx}
end
section
variable {X:Cx} {pins:List (Addr×Obj)} {σ:St} {H H':Hp} {s s':Shared} {e:Value} {xe:Value->Shared->Prop}
end
def isX(a:Addr)(cls:Value)(h:Heap):Prop:=∃ o,h.get? a=some o/\o.cls=cls/\∃ vs,o.data=.fields vs
section
variable {X:Cx} {pins:List (Addr×Obj)} {σ:St} {H H':Hp} {s s':Shared} {ea:Addr} {cls:Value}
end
def jR(K:PySem.W.Frag)(C:Addr):Bool :=
 PySem.W.findIn K (.ref C) "__getattribute__"==some (some (.builtin "BaseException.__getattribute__"))&&PySem.W.findIn K (.ref C) "__getattr__"==some none&&PySem.W.findIn K (.ref C) "__class__"==some (some (.builtin "object.__class__")) &&
  PySem.W.mroIn K C (.type "object")==some true&&PySem.W.mroIn K C (.type "BaseException")==some true&&(PySem.W.clsIn K C).isSome
section
open PySem.Builtin PySem.Builtin.ObjectAttr PySem.Builtin.Getset_descriptor
variable {prog:Program} {w:World} {A:Around} {E:Value->Shared->Prop} {K:PySem.W.Frag} {h:Heap} {g:Array GenState} {d:Drawn} {t:Nat} {os:OsState} {a C:Addr} {o:Obj}
theorem xty{M:Model}(hx:h.get? a=some o)(hc:o.cls=.ref C):PySem.W.Looks M h (typeOf (.ref a)) (.ref C):=hc▸(PySem.W.Looks.ld hx).andThen .now
theorem qL{R:Result->Shared->Prop}(X:K.In h)(hx:h.get? a=some o)(hc:o.cls=.ref C)(hm:PySem.W.mroIn K C (.type "object")=some true)(hq:R (.ok (.ret (.ref C))) ⟨h,g,d,t,os⟩) :
  codeAny (model prog w) A (.call (.builtin "getset_descriptor.__get__") ⟨[.builtin "object.__class__",.ref a,.ref C],[]⟩) R ⟨h,g,d,t,os⟩:=by
 have hT5:(⟨h,g,d,t,os⟩:Shared).TypeIs (.builtin "object.__class__") "getset_descriptor":=F.typeOf_object_class
 have L0:=xty (M:=model prog w) hx hc
 have L1:=PySem.W.looks_mroIn (M:=model prog w) X hm
 refine codeAny_call_builtin PySem.W.KF.slot_gs.plain PySem.W.KF.entry_gs (PySem.W.KF.slot_gs.check _ _ _ _ _ _ _ _ PySem.W.KF.type_class (PySem.W.KF.args_gs _ _ _) ?_)
 unfold Builtin.«getset_descriptor.__get__» descrGet
 rw[PySem.W.dga_obj]
 refine wpAny_bind (wpAny_pure ?_)
 unfold descrGetter descrCheckInstance descrNameAndClass isInstance
 simp only[PySem.W.KF.owner_class]
 repeat lk
 refine⟨Code.quiet_builtin _ (by decide +kernel),codeAny_builtin PySem.W.KF.entry_class ?_⟩
 unfold Builtin.«object.__class__» shownTypeOf
 repeat lk
 exact hq
theorem lO{tk:Tok}{Q:Fin->Shared->Prop}(X:K.In h)(hx:h.get? a=some o)(hc:o.cls=.ref C)(hm:PySem.W.mroIn K C (.type "object")=some true)(hf:PySem.W.findIn K (.ref C) "__class__"=some (some (.builtin "object.__class__")))(hq:Q (.done (.ret (.ref C))) ⟨h,g,d,t,os⟩) :
  wpAny (model prog w) A (Builtin.«object.__getattribute__» ⟨[.ref a,.str "__class__" tk],[]⟩) Q E ⟨h,g,d,t,os⟩:=by
 have hT5:(⟨h,g,d,t,os⟩:Shared).TypeIs (.builtin "object.__class__") "getset_descriptor":=F.typeOf_object_class
 have f5:=F.typeOf_object_class
 have f6:=F.slot_gs_get.lookup
 have f7:=F.slot_gs_set.lookup
 have LF:=PySem.W.looks_findIn (M:=model prog w) X hf
 repeat (any_goals (first | assumption | (with_reducible refine wpAny_loadPart_at hx ?_;rw[hc]) | with_reducible refine LF.at ?_ | wp_step))
 refine qL X hx hc hm ?_
 repeat (any_goals (first | assumption | wp_step))
theorem lQ{M:Model}{nameV:Value}{Q:Unit->Shared->Prop}(X:K.In h)(hx:h.get? a=some o)(hc:o.cls=.ref C)(hm:PySem.W.mroIn K C (.type "BaseException")=some true)(hq:Q () ⟨h,g,d,t,os⟩):wpAny M A (checkBuiltinCall "BaseException.__getattribute__" ⟨[.ref a,nameV],[]⟩) Q E ⟨h,g,d,t,os⟩:=by
 have hk:builtinKind "BaseException.__getattribute__"=some .slot:=by decide +kernel
 have hsplit:splitId "BaseException.__getattribute__"=some ("BaseException","__getattribute__"):=by decide +kernel
 have ha:=F.args_bexc_ga (.ref a) nameV
 have LM:=PySem.W.looks_mroIn (M:=M) X hm
 simp only[checkBuiltinCall,hk,hsplit]
 refine wpAny_bind ?_
 ·unfold isInstance
  repeat (first | (with_reducible refine wpAny_loadPart_at hx ?_;rw[hc]) | with_reducible refine LM.at ?_ | wp_step)
  exact hq
theorem sG{tk:Tok}{fill expr:Bool}{Q:Value->Shared->Prop}(X:K.In h)(hx:h.get? a=some o)(hc:o.cls=.ref C)(hA:jR K C=true)(hq:Q (.ref C) ⟨h,g,d,t,os⟩) :
  wpAny (model prog w) A (getAttrBy (.ref a) (.str "__class__" tk) fill expr) Q E ⟨h,g,d,t,os⟩:=by
 unfold jR at hA
 simp only[Bool.and_eq_true,beq_iff_eq] at hA
 obtain⟨⟨⟨⟨⟨g1,g2⟩,g3⟩,g4⟩,g5⟩,g6⟩:=hA
 have f3:=F.excAttr_ValueError.ga.bind (.ref a)
 have hx0:(expr&&onTheHeap (Value.builtin "BaseException.__getattribute__"))=false:=by cases expr<;>rfl
 have hx2:(Value.builtin "BaseException.__getattribute__"==Value.builtin "object.__getattribute__")=false:=by decide +kernel
 have hx1:(onTheHeap (Value.ref C)&&Value.builtin "BaseException.__getattribute__"==Value.builtin "object.__getattribute__")=false:=by rw[hx2];rfl
 have L1:=PySem.W.looks_findIn (M:=model prog w) X g1
 have L2':=PySem.W.looks_findIn (M:=model prog w) X g2
 repeat (any_goals (first | assumption | (with_reducible refine wpAny_loadPart_at hx ?_;rw[hc]) | with_reducible refine L1.at ?_ | with_reducible refine L2'.at ?_ | wp_step))
 refine codeAny_call_builtin F.excAttr_ValueError.ga.plain F.entry_bexc_ga (lQ X hx hc g5 (lO X hx hc g4 g3 ?_))
 repeat (any_goals (first | assumption | wp_step))
theorem Fq{Q:Option Value->Shared->Prop}(X:K.In h)(hx:h.get? a=some o)(hc:o.cls=.ref C)(hA:jR K C=true)(hq:Q (some (.ref C)) ⟨h,g,d,t+1,os⟩) :
  wpAny (model prog w) A (getAttr? (.ref a) "__class__") Q E ⟨h,g,d,t,os⟩:=by
 unfold getAttr? getAttrBy?
 repeat (any_goals (first | assumption | with_reducible apply sG X hx hc hA | wp_step))
end
theorem yd{K:PySem.W.Frag}{a C:Addr}(hA:jR K C=true):PySem.W.KitX K (.ref a) (.ref C) (isX a (.ref C)) where
 ty:=fun _ _ _ ⟨o,e,c,_⟩=>xty e c
 it:=fun _ _ X _=>by
  unfold jR at hA
  rw[Bool.and_eq_true] at hA
  obtain⟨cdD,hcD⟩:=Option.isSome_iff_exists.mp hA.2
  unfold PySem.W.clsIn at hcD
  split at hcD
  ·rename_i c' d' cd' sl' ho
   intro A' Q' E' s' k q
   unfold isType loadHead
   exact wpAny_bind (wpAny_loadPart (k _ _ (X _ _ ho)) (wpAny_pure q))
  ·cases hcD
 ne:=fun h tp dd its n sl X htp=>by
  unfold jR at hA
  rw[Bool.and_eq_true] at hA
  obtain⟨cdD,hcD⟩:=Option.isSome_iff_exists.mp hA.2
  refine Bool.eq_false_iff.mpr fun q=>?_
  have e:C=tp:=Value.ref.inj (beq_iff_eq.mp q)
  subst e
  unfold PySem.W.clsIn at hcD
  split at hcD
  ·rename_i c' d' cd' sl' ho
   have z:=(X _ _ ho).symm.trans htp
   cases z
  ·cases hcD
 ca:=fun {prog w A E Q s} X p k=>by
  obtain⟨h,g,d,t,os⟩:=s
  obtain⟨o,e,c,_⟩:=p
  exact Fq X e c hA k
section
variable {X:Cx} {pins:List (Addr×Obj)} {σ:St} {H H':Hp} {s s':Shared} {ea C:Addr}
end
end L2
namespace L2
open PySem PySem.Spec PyProof.Rows DE PySem.SeqAt
theorem Same.tup{K:PySem.W.Frag}{H H':Hp}{a:Addr}{xs:List V}(e:Same H H')(h:SqT K H a xs):SqT K H' a xs:=by
 rcases h with(h | ⟨o,h⟩) | h
 ·exact .inl (.inl (e _ _ h))
 ·exact .inl (.inr ⟨o,e _ _ h⟩)
 ·exact .inr h
mutual
def Rep(K:PySem.W.Frag)(H:Hp):D->V->Prop
 | .non,v=>v=.non
 | .bl b,v=>v=.bl b
 | .int i,v=>v=.int i
 | .str x,v=>v=.str x
 | .tup ds,v=>∃ a vs,v=.ref a/\SqT K H a vs/\aL K H ds vs
 | .lst ds,v=>∃ a vs,v=.ref a/\SqL K H a vs/\aL K H ds vs
 | .exc c,v=>∃ a C,v=.ref a/\PySem.W.nsIn K mainGlobals c=some (some (.ref C))/\H a=some (.ext (isX a (.ref C)))
 | .dic ks ds,v=>∃ (a:Addr) (kvs:List (Key×V)),v=.ref a/\DAt K H a kvs/\kvs.map (·.1)=ks/\aL K H ds (kvs.map (·.2))
def aL(K:PySem.W.Frag)(H:Hp):List D->List V->Prop
 | [],vs=>vs=[]
 | d::ds,vs=>∃ v r,vs=v::r/\Rep K H d v/\aL K H ds r
end
mutual
theorem Rep.same{K:PySem.W.Frag}{H H':Hp}(e:Same H H'):∀ (d:D) (v:V),Rep K H d v->Rep K H' d v
  | .non,v,h=>by simpa[Rep] using h
  | .bl b,v,h=>by simpa[Rep] using h
  | .int i,v,h=>by simpa[Rep] using h
  | .str x,v,h=>by simpa[Rep] using h
  | .tup ds, v, h => by
    simp only[Rep] at h ⊢
    obtain⟨a,vs,h1,h2,h3⟩:=h
    exact⟨a,vs,h1,e.tup h2,aL.same e ds vs h3⟩
  | .lst ds, v, h => by
    simp only[Rep] at h ⊢
    obtain⟨a,vs,h1,h2,h3⟩:=h
    exact⟨a,vs,h1,e.seq h2,aL.same e ds vs h3⟩
  | .exc c, v, h => by
    simp only[Rep] at h ⊢
    obtain⟨a,C,h1,h2,h3⟩:=h
    exact⟨a,C,h1,h2,e _ _ h3⟩
  | .dic ks ds, v, h => by
    simp only[Rep] at h ⊢
    obtain⟨a,kvs,h1,h2,h3,h4⟩:=h
    refine⟨a,kvs,h1,?_,h3,aL.same e ds _ h4⟩
    rcases h2 with(h2 | ⟨o,h2⟩) | h2
    · exact .inl (.inl (e _ _ h2))
    · exact .inl (.inr ⟨o,e _ _ h2⟩)
    · exact .inr h2
theorem aL.same{K:PySem.W.Frag}{H H':Hp}(e:Same H H'):∀ (ds:List D) (vs:List V),aL K H ds vs->aL K H' ds vs
  | [],vs,h=>by simpa[aL] using h
  | d :: ds, vs, h => by
    simp only[aL] at h ⊢
    obtain⟨v,r,h1,h2,h3⟩:=h
    exact⟨v,r,h1,Rep.same e d v h2,aL.same e ds r h3⟩
end
theorem aL.length{K:PySem.W.Frag}{H:Hp}:∀ {ds:List D} {vs:List V},aL K H ds vs->ds.length=vs.length
  | [],vs,h=>by simp only[aL] at h;subst h;rfl
  | d :: ds, vs, h => by
    simp only[aL] at h
    obtain⟨v,r,rfl,_,h3⟩:=h
    simp[h3.length]
theorem aL.nil{K:PySem.W.Frag}{H:Hp}:aL K H [] []:=by simp[aL]
theorem aL.cons{K:PySem.W.Frag}{H:Hp}{d:D}{ds:List D}{v:V}{vs:List V}(h:Rep K H d v)(r:aL K H ds vs):aL K H (d::ds) (v::vs):=by
 simp only[aL];exact⟨v,vs,rfl,h,r⟩
theorem aL.append{K:PySem.W.Frag}{H:Hp}:∀ {ds es:List D} {vs us:List V},aL K H ds vs->aL K H es us->aL K H (ds++es) (vs++us)
  | [],es,vs,us,h,h'=>by simp only[aL] at h;subst h;exact h'
  | d :: ds, es, vs, us, h, h' => by
    simp only[aL] at h
    obtain⟨v,r,rfl,h2,h3⟩:=h
    exact .cons h2 (h3.append h')
theorem aL.get{K:PySem.W.Frag}{H:Hp}:∀ {ds:List D} {vs:List V} {i:Nat} {d:D},aL K H ds vs->ds[i]?=some d->∃ v,vs[i]?=some v/\Rep K H d v
  | [],vs,i,d,_,e=>by simp at e
  | d' :: ds, vs, 0, d, h, e => by
    simp only[aL] at h
    obtain⟨v,r,rfl,h2,h3⟩:=h
    simp at e;subst e
    exact⟨v,rfl,h2⟩
  | d' :: ds, vs, i + 1, d, h, e => by
    simp only[aL] at h
    obtain⟨v,r,rfl,h2,h3⟩:=h
    obtain⟨u,e1,e2⟩:=h3.get (i:=i) (d:=d) (by simpa using e)
    exact⟨u,by simpa using e1,e2⟩
theorem aL.take{K:PySem.W.Frag}{H:Hp}:∀ (n:Nat) {ds:List D} {vs:List V},aL K H ds vs->aL K H (ds.take n) (vs.take n)
  | 0,_,_,_=>by simpa using aL.nil
  | n+1,[],vs,h=>by simp only[aL] at h;subst h;simpa using aL.nil
  | n + 1, d :: ds, vs, h => by
    simp only[aL] at h
    obtain⟨v,r,rfl,h2,h3⟩:=h
    simpa using aL.cons h2 (h3.take n)
theorem aL.drop{K:PySem.W.Frag}{H:Hp}:∀ (n:Nat) {ds:List D} {vs:List V},aL K H ds vs->aL K H (ds.drop n) (vs.drop n)
  | 0,_,_,h=>by simpa using h
  | n+1,[],vs,h=>by simp only[aL] at h;subst h;simpa using aL.nil
  | n + 1, d :: ds, vs, h => by
    simp only[aL] at h
    obtain⟨v,r,rfl,h2,h3⟩:=h
    simpa using h3.drop n
theorem aL.reverse{K:PySem.W.Frag}{H:Hp}:∀ {ds:List D} {vs:List V},aL K H ds vs->aL K H ds.reverse vs.reverse
  | [],vs,h=>by simp only[aL] at h;subst h;simpa using aL.nil
  | d :: ds, vs, h => by
    simp only[aL] at h
    obtain⟨v,r,rfl,h2,h3⟩:=h
    simpa using h3.reverse.append (.cons h2 .nil)
structure Ext (Hs H Hs' H':Hp):Prop where
 vis:Same Hs Hs'
 all:Same H H'
 sub:Same Hs' H'
 hid:∀ b o,H b=some o->Hs b=none->Hs' b=none
theorem Ext.refl{Hs H:Hp}(h:Same Hs H):Ext Hs H Hs H:=⟨.refl _,.refl _,h,fun _ _ _ h=>h⟩
theorem Ext.trans{Hs H Hs1 H1 Hs2 H2:Hp}(a:Ext Hs H Hs1 H1)(b:Ext Hs1 H1 Hs2 H2):Ext Hs H Hs2 H2 :=
 ⟨a.vis.trans b.vis,a.all.trans b.all,b.sub,fun c o h1 h2=>b.hid c o (a.all c o h1) (a.hid c o h1 h2)⟩
theorem Ext.new{Hs H:Hp}(h:Same Hs H){p:Addr}(o:HO)(hp:H p=none):Ext Hs H (upd Hs p o) (upd H p o) where
 vis:=fun b u e=>by rw[aM (aJ (h b u e) hp)];exact e
 all:=fun b u e=>by rw[aM (aJ e hp)];exact e
 sub:=fun b u e=>by
  by_cases hb:b=p
  ·subst hb;rw[aQ] at e ⊢;exact e
  ·rw[aM hb] at e ⊢;exact h b u e
 hid:=fun b u e n=>by rw[aM (aJ e hp)];exact n
theorem isT{X:Cx}{pins:List (Addr×Obj)}{σ:St}{H:Hp}{s:Shared}{a:Addr}{vs:List V}(I:Inv X pins σ H s)(h:SqT X.K H a vs):∃ its:List Value,Vals vs its/\s.heap.IsTuple a its.toArray:=by
 obtain⟨its,r,p,_⟩:=I.tuple h
 exact⟨its,r,p⟩
theorem isL{X:Cx}{pins:List (Addr×Obj)}{σ:St}{H:Hp}{s:Shared}{a:Addr}{vs:List V}(I:Inv X pins σ H s)(h:SqL X.K H a vs):∃ its:List Value,Vals vs its/\s.heap.IsList a its.toArray:=by
 obtain⟨its,r,p,_⟩:=I.list h
 exact⟨its,r,p.isList⟩
mutual
theorem lC:∀ d:D,dep d<1000->deq d d=true
 | .non,_=>rfl
 | .bl b,_=>by simp[deq]
 | .int i,_=>by simp[deq]
 | .str x,_=>by simp[deq]
 | .tup xs,h=>by simp only[deq];exact jm xs (by simp only[dep] at h;omega)
 | .lst xs,h=>by simp only[deq];exact jm xs (by simp only[dep] at h;omega)
 | .exc c,h=>absurd h (by simp[dep])
 | .dic _ _,h=>absurd h (by simp[dep])
theorem jm:∀ ds:List D,deps ds<1000->mZ ds ds=true
  | [],_=>rfl
  | d :: ds, h => by
    simp only[deps] at h
    simp only[mZ,lC d (by omega),jm ds (by omega),Bool.and_self]
end
theorem qw:∀ {xs ys:List D} {e:Nat->Bool},(∀ (j:Nat) (x y:D),xs[j]?=some x->ys[j]?=some y->e j=deq x y)->((List.range (min xs.length ys.length)).all e&&xs.length==ys.length)=mZ xs ys
  | [],[],_,_=>rfl
  | [],y::ys,_,_=>by simp[mZ]
  | x::xs,[],_,_=>by simp[mZ]
  | x :: xs, y :: ys, e, h => by
    have ih:=qw (xs:=xs) (ys:=ys) (e:=fun j=>e (j+1)) fun j a b e1 e2=>h (j+1) a b (by simpa using e1) (by simpa using e2)
    have h0:=h 0 x y rfl rfl
    simp only[mZ,<- ih,<- h0,List.length_cons]
    rw[show min (xs.length+1) (ys.length+1)=min xs.length ys.length+1 by omega,List.range_succ_eq_map,List.all_cons,List.all_map]
    rw[Bool.and_assoc]
    congr 1
    congr 1
    simp
section
variable {X:Cx} {pins:List (Addr×Obj)} {σ:St} {H:Hp} {s:Shared}
mutual
theorem Rep.inj(I:Inv X pins σ H s):∀ (d d':D) (v:V),dep d<1000->dep d'<1000->Rep X.K H d v->Rep X.K H d' v->d=d'
  | .non,d',v,z,z',h,h'=>by simp only[Rep] at h;subst h;cases d'<;>simp[Rep] at h' ⊢
  | .bl b,d',v,z,z',h,h'=>by simp only[Rep] at h;subst h;cases d'<;>simp[Rep] at h' ⊢;exact h'
  | .int b,d',v,z,z',h,h'=>by simp only[Rep] at h;subst h;cases d'<;>simp[Rep] at h' ⊢;exact h'
  | .str b,d',v,z,z',h,h'=>by simp only[Rep] at h;subst h;cases d'<;>simp[Rep] at h' ⊢;exact h'
  | .tup ds, d', v, z, z', h, h' => by
    simp only[Rep] at h
    obtain⟨a,vs,rfl,h2,h3⟩:=h
    cases d' with
    | tup es =>
      simp only[Rep] at h'
      obtain⟨a',vs',e,h2',h3'⟩:=h'
      cases e
      have:=I.tuple_inj h2 h2'
      subst this
      rw[aL.inj I ds es vs (by simp only[dep] at z;omega) (by simp only[dep] at z';omega) h3 h3']
    | lst es =>
      simp only[Rep] at h'
      obtain⟨a',vs',e,h2',h3'⟩:=h'
      cases e
      obtain⟨i1,_,p1⟩:=isT I h2
      obtain⟨i2,_,p2⟩:=isL I h2'
      exact absurd rfl (ne_of_list_tuple p2 p1)
    | non=>simp[Rep] at h'
    | bl _=>simp[Rep] at h'
    | int _=>simp[Rep] at h'
    | str _=>simp[Rep] at h'
    | exc _=>exact absurd z' (by simp[dep])
    | dic _ _=>exact absurd z' (by simp[dep])
  | .lst ds, d', v, z, z', h, h' => by
    simp only[Rep] at h
    obtain⟨a,vs,rfl,h2,h3⟩:=h
    cases d' with
    | lst es =>
      simp only[Rep] at h'
      obtain⟨a',vs',e,h2',h3'⟩:=h'
      cases e
      have:=I.list_inj h2 h2'
      subst this
      rw[aL.inj I ds es vs (by simp only[dep] at z;omega) (by simp only[dep] at z';omega) h3 h3']
    | tup es =>
      simp only[Rep] at h'
      obtain⟨a',vs',e,h2',h3'⟩:=h'
      cases e
      obtain⟨i1,_,p1⟩:=isL I h2
      obtain⟨i2,_,p2⟩:=isT I h2'
      exact absurd rfl (ne_of_list_tuple p1 p2)
    | non=>simp[Rep] at h'
    | bl _=>simp[Rep] at h'
    | int _=>simp[Rep] at h'
    | str _=>simp[Rep] at h'
    | exc _=>exact absurd z' (by simp[dep])
    | dic _ _=>exact absurd z' (by simp[dep])
  | .exc c,d',v,z,z',h,h'=>absurd z (by simp[dep])
  | .dic _ _,d',v,z,z',h,h'=>absurd z (by simp[dep])
theorem aL.inj(I:Inv X pins σ H s):∀ (ds es:List D) (vs:List V),deps ds<1000->deps es<1000->aL X.K H ds vs->aL X.K H es vs->ds=es
  | [], es, vs, z, z', h, h' => by
    simp only[aL] at h;subst h
    cases es with
    | nil=>rfl
    | cons e es=>simp[aL] at h'
  | d :: ds, es, vs, z, z', h, h' => by
    simp only[aL] at h
    obtain⟨v,r,rfl,h2,h3⟩:=h
    cases es with
    | nil=>simp[aL] at h'
    | cons e es =>
      simp only[aL] at h'
      obtain⟨v',r',e',h2',h3'⟩:=h'
      cases e'
      simp only[deps] at z z'
      rw[Rep.inj I d e v (by omega) (by omega) h2 h2',aL.inj I ds es r (by omega) (by omega) h3 h3']
end
def eJ(ds es:List D)(j:Nat):Bool:=match ds[j]?,es[j]? with
 | some x,some y=>deq x y
 | _,_=>true
theorem vI(ds es:List D):((List.range (min ds.length es.length)).all (eJ ds es)&&ds.length==es.length)=mZ ds es :=
 qw fun j x y e1 e2=>by unfold eJ;rw[e1,e2]
theorem vH(ds es:List D)(h:ds.length=es.length):(List.range ds.length).all (eJ ds es)=mZ ds es:=by
 rw[<- vI ds es,<- h];simp
theorem lB:∀ {xs ys:List D},xs.length≠ys.length->mZ xs ys=false
  | [],[],h=>absurd rfl h
  | [],_::_,_=>rfl
  | _::_,[],_=>rfl
  | x :: xs, y :: ys, h => by
    simp only[mZ,lB (xs:=xs) (ys:=ys) (by intro e;exact h (by simp[e])),Bool.and_false]
theorem fV{A:Around}:A.in1.units=A.units+1:=rfl
mutual
theorem vB(I:Inv X pins σ H s):∀ (d d':D) (v v':V) (u u':Value) (A:Around),Rep X.K H d v->Rep X.K H d' v'->RelV v u->RelV v' u'->A.units+dep d<cLine->dep d<1000->dep d'<1000->EqAt A s u u' (deq d d')
  | .non, d', v, v', u, u', A, h, h', r, r', hu, z, z' => by
    simp only[Rep] at h;subst h;cases (show u=Value.none from r)
    have hu0:A.units<cLine:=Nat.lt_of_le_of_lt (Nat.le_add_right _ _) hu
    cases d' with
    | exc _=>exact absurd z' (by simp[dep])
    | dic _ _=>exact absurd z' (by simp[dep])
    | non=>simp only[Rep] at h';subst h';cases (show u'=Value.none from r');exact EqAt.same _
    | bl b=>simp only[Rep] at h';subst h';cases (show u'=Value.bool b from r');exact EqAt.none_bool b
    | int i=>simp only[Rep] at h';subst h';obtain⟨t,rfl⟩:=r';exact EqAt.none_int i t
    | str x=>simp only[Rep] at h';subst h';obtain⟨t,rfl⟩:=r';exact EqAt.none_str x t
    | tup es=>simp only[Rep] at h';obtain⟨a,vs,rfl,h2,h3⟩:=h';cases (show u'=Value.ref a from r');obtain⟨its,_,p⟩:=isT I h2;exact EqAt.none_tuple p hu0
    | lst es=>simp only[Rep] at h';obtain⟨a,vs,rfl,h2,h3⟩:=h';cases (show u'=Value.ref a from r');obtain⟨its,_,p⟩:=isL I h2;exact EqAt.none_list p hu0
  | .bl c, d', v, v', u, u', A, h, h', r, r', hu, z, z' => by
    simp only[Rep] at h;subst h;cases (show u=Value.bool c from r)
    have hu0:A.units<cLine:=Nat.lt_of_le_of_lt (Nat.le_add_right _ _) hu
    cases d' with
    | exc _=>exact absurd z' (by simp[dep])
    | dic _ _=>exact absurd z' (by simp[dep])
    | non=>simp only[Rep] at h';subst h';cases (show u'=Value.none from r');exact EqAt.bool_none c
    | bl b=>simp only[Rep] at h';subst h';cases (show u'=Value.bool b from r');exact EqAt.bool_bool c b
    | int i=>simp only[Rep] at h';subst h';obtain⟨t,rfl⟩:=r';exact EqAt.bool_int c i t
    | str x=>simp only[Rep] at h';subst h';obtain⟨t,rfl⟩:=r';exact EqAt.bool_str c x t
    | tup es=>simp only[Rep] at h';obtain⟨a,vs,rfl,h2,h3⟩:=h';cases (show u'=Value.ref a from r');obtain⟨its,_,p⟩:=isT I h2;exact EqAt.bool_tuple c p hu0
    | lst es=>simp only[Rep] at h';obtain⟨a,vs,rfl,h2,h3⟩:=h';cases (show u'=Value.ref a from r');obtain⟨its,_,p⟩:=isL I h2;exact EqAt.bool_list c p hu0
  | .int c, d', v, v', u, u', A, h, h', r, r', hu, z, z' => by
    simp only[Rep] at h;subst h;obtain⟨t0,rfl⟩:=r
    have hu0:A.units<cLine:=Nat.lt_of_le_of_lt (Nat.le_add_right _ _) hu
    cases d' with
    | exc _=>exact absurd z' (by simp[dep])
    | dic _ _=>exact absurd z' (by simp[dep])
    | non=>simp only[Rep] at h';subst h';cases (show u'=Value.none from r');exact EqAt.int_none c t0
    | bl b=>simp only[Rep] at h';subst h';cases (show u'=Value.bool b from r');exact EqAt.int_bool c t0 b
    | int i=>simp only[Rep] at h';subst h';obtain⟨t,rfl⟩:=r';exact EqAt.int_int c t0 i t
    | str x=>simp only[Rep] at h';subst h';obtain⟨t,rfl⟩:=r';exact EqAt.int_str c t0 x t
    | tup es=>simp only[Rep] at h';obtain⟨a,vs,rfl,h2,h3⟩:=h';cases (show u'=Value.ref a from r');obtain⟨its,_,p⟩:=isT I h2;exact EqAt.int_tuple c t0 p hu0
    | lst es=>simp only[Rep] at h';obtain⟨a,vs,rfl,h2,h3⟩:=h';cases (show u'=Value.ref a from r');obtain⟨its,_,p⟩:=isL I h2;exact EqAt.int_list c t0 p hu0
  | .str c, d', v, v', u, u', A, h, h', r, r', hu, z, z' => by
    simp only[Rep] at h;subst h;obtain⟨t0,rfl⟩:=r
    have hu0:A.units<cLine:=Nat.lt_of_le_of_lt (Nat.le_add_right _ _) hu
    cases d' with
    | exc _=>exact absurd z' (by simp[dep])
    | dic _ _=>exact absurd z' (by simp[dep])
    | non=>simp only[Rep] at h';subst h';cases (show u'=Value.none from r');exact EqAt.str_none c t0
    | bl b=>simp only[Rep] at h';subst h';cases (show u'=Value.bool b from r');exact EqAt.str_bool c t0 b
    | int i=>simp only[Rep] at h';subst h';obtain⟨t,rfl⟩:=r';exact EqAt.str_int c t0 i t
    | str x=>simp only[Rep] at h';subst h';obtain⟨t,rfl⟩:=r';exact EqAt.str_str c t0 x t
    | tup es=>simp only[Rep] at h';obtain⟨a,vs,rfl,h2,h3⟩:=h';cases (show u'=Value.ref a from r');obtain⟨its,_,p⟩:=isT I h2;exact EqAt.str_tuple c t0 p hu0
    | lst es=>simp only[Rep] at h';obtain⟨a,vs,rfl,h2,h3⟩:=h';cases (show u'=Value.ref a from r');obtain⟨its,_,p⟩:=isL I h2;exact EqAt.str_list c t0 p hu0
  | .tup ds, d', v, v', u, u', A, h, h', r, r', hu, z, z' => by
    have hh:=h
    simp only[Rep] at h;obtain⟨a,vs,rfl,h2,h3⟩:=h;cases (show u=Value.ref a from r);obtain⟨its,rv,p⟩:=isT I h2
    have hu0:A.units<cLine:=Nat.lt_of_le_of_lt (Nat.le_add_right _ _) hu
    have hu1:A.in1.units+deps ds<cLine:=by have:dep (.tup ds)=deps ds+1:=rfl;rw[fV];omega
    cases d' with
    | exc _=>exact absurd z' (by simp[dep])
    | dic _ _=>exact absurd z' (by simp[dep])
    | non=>simp only[Rep] at h';subst h';cases (show u'=Value.none from r');exact EqAt.tuple_none p hu0
    | bl b=>simp only[Rep] at h';subst h';cases (show u'=Value.bool b from r');exact EqAt.tuple_bool b p hu0
    | int i=>simp only[Rep] at h';subst h';obtain⟨t,rfl⟩:=r';exact EqAt.tuple_int i t p hu0
    | str x=>simp only[Rep] at h';subst h';obtain⟨t,rfl⟩:=r';exact EqAt.tuple_str x t p hu0
    | tup es =>
      have hh':=h'
      simp only[Rep] at h';obtain⟨b,us,rfl,h2',h3'⟩:=h';cases (show u'=Value.ref b from r');obtain⟨its',rv',p'⟩:=isT I h2'
      by_cases hab:a=b
      · subst hab
        have:=Rep.inj I _ _ _ z z' hh hh'
        rw[<- this,lC _ z]
        exact EqAt.same _
      · have q:=RcAt.tuples p p' hu0 (e:=eJ ds es) fun j g1 g2=>gC I ds es vs us its its' A.in1 h3 h3' rv rv' hu1 (by simp only[dep] at z;omega) (by simp only[dep] at z';omega) j _ _ (by simp at g1 ⊢) (by simp at g2 ⊢)
        have l1:=h3.length;have l2:=rv.length;have l3:=h3'.length;have l4:=rv'.length
        rw[List.size_toArray,List.size_toArray,<- l2,<- l1,<- l4,<- l3,vI] at q
        exact .of_refs hab q
    | lst es=>simp only[Rep] at h';obtain⟨a,vs,rfl,h2,h3⟩:=h';cases (show u'=Value.ref a from r');obtain⟨its,_,p'⟩:=isL I h2;exact EqAt.tuple_list p p' hu0
  | .lst ds, d', v, v', u, u', A, h, h', r, r', hu, z, z' => by
    have hh:=h
    simp only[Rep] at h;obtain⟨a,vs,rfl,h2,h3⟩:=h;cases (show u=Value.ref a from r);obtain⟨its,rv,p⟩:=isL I h2
    have hu0:A.units<cLine:=Nat.lt_of_le_of_lt (Nat.le_add_right _ _) hu
    have hu1:A.in1.units+deps ds<cLine:=by have:dep (.lst ds)=deps ds+1:=rfl;rw[fV];omega
    cases d' with
    | exc _=>exact absurd z' (by simp[dep])
    | dic _ _=>exact absurd z' (by simp[dep])
    | non=>simp only[Rep] at h';subst h';cases (show u'=Value.none from r');exact EqAt.list_none p hu0
    | bl b=>simp only[Rep] at h';subst h';cases (show u'=Value.bool b from r');exact EqAt.list_bool b p hu0
    | int i=>simp only[Rep] at h';subst h';obtain⟨t,rfl⟩:=r';exact EqAt.list_int i t p hu0
    | str x=>simp only[Rep] at h';subst h';obtain⟨t,rfl⟩:=r';exact EqAt.list_str x t p hu0
    | lst es =>
      have hh':=h'
      simp only[Rep] at h';obtain⟨b,us,rfl,h2',h3'⟩:=h';cases (show u'=Value.ref b from r');obtain⟨its',rv',p'⟩:=isL I h2'
      have l1:=h3.length;have l2:=rv.length;have l3:=h3'.length;have l4:=rv'.length
      by_cases hab:a=b
      · subst hab
        have:=Rep.inj I _ _ _ z z' hh hh'
        rw[<- this,lC _ z]
        exact EqAt.same _
      · by_cases hl:ds.length=es.length
        · have q:=RcAt.lists p p' (by simp;omega) hu0 (e:=eJ ds es) fun j g1 g2=>gC I ds es vs us its its' A.in1 h3 h3' rv rv' hu1 (by simp only[dep] at z;omega) (by simp only[dep] at z';omega) j _ _ (by simp at g1 ⊢) (by simp at g2 ⊢)
          rw[List.size_toArray,<- l2,<- l1,vH _ _ hl] at q
          exact .of_refs hab q
        · have q:=RcAt.lists_lengths p p' (by simp;omega) hu0
          rw[show deq (.lst ds) (.lst es)=mZ ds es from rfl,lB hl]
          exact .of_refs hab q
    | tup es=>simp only[Rep] at h';obtain⟨a,vs,rfl,h2,h3⟩:=h';cases (show u'=Value.ref a from r');obtain⟨its,_,p'⟩:=isT I h2;exact EqAt.list_tuple p p' hu0
  | .exc c,d',v,v',u,u',A,h,h',r,r',hu,z,z'=>absurd z (by simp[dep])
  | .dic _ _,d',v,v',u,u',A,h,h',r,r',hu,z,z'=>absurd z (by simp[dep])
theorem gC(I:Inv X pins σ H s):∀ (ds es:List D) (vs us:List V) (its its':List Value) (A:Around),aL X.K H ds vs->aL X.K H es us->Vals vs its->Vals us its'->A.units+deps ds<cLine->deps ds<1000->deps es<1000 ->
    ∀ (j:Nat) (u u':Value),its[j]?=some u->its'[j]?=some u'->EqAt A s u u' (eJ ds es j)
  | [], es, vs, us, its, its', A, h, h', r, r', hu, z, z', j, u, u', e1, e2 => by
    simp only[aL] at h;subst h;cases r;simp at e1
  | d :: ds, es, vs, us, its, its', A, h, h', r, r', hu, z, z', j, u, u', e1, e2 => by
    simp only[aL] at h
    obtain⟨v,vr,rfl,h2,h3⟩:=h
    cases r with
    | cons r rr =>
      cases es with
      | nil=>simp only[aL] at h';subst h';cases r';simp at e2
      | cons e es =>
        simp only[aL] at h'
        obtain⟨v',vr',rfl,h2',h3'⟩:=h'
        cases r' with
        | cons r' rr' =>
          have hd:dep d<=deps (d::ds):=Nat.le_max_left _ _
          have hds:deps ds<=deps (d::ds):=Nat.le_max_right _ _
          cases j with
          | zero =>
            simp at e1 e2;subst e1 e2
            exact vB I d e v v' _ _ A h2 h2' r r' (by omega) (by simp only[deps] at z;omega) (by simp only[deps] at z';omega)
          | succ j =>
            have q:=gC I ds es vr vr' _ _ A h3 h3' rr rr' (by omega) (by simp only[deps] at z;omega) (by simp only[deps] at z';omega) j u u' (by simpa using e1) (by simpa using e2)
            simpa[eJ] using q
end
theorem qy(I:Inv X pins σ H s){d d':D}{v v':V}{u u':Value}(A:Around)(h:Rep X.K H d v)(h':Rep X.K H d' v')(r:RelV v u)(r':RelV v' u')(hu:A.units+dep d<cLine)(z:dep d<1000)(z':dep d'<1000):RcAt A s u u' (deq d d')/\RcNeAt A s u u' (!deq d d'):=by
  have hu0:A.units<cLine:=Nat.lt_of_le_of_lt (Nat.le_add_right _ _) hu
  cases d with
  | exc _=>exact absurd z (by simp[dep])
  | dic _ _=>exact absurd z (by simp[dep])
  | non =>
    simp only[Rep] at h;subst h;cases (show u=Value.none from r)
    cases d' with
    | exc _=>exact absurd z' (by simp[dep])
    | dic _ _=>exact absurd z' (by simp[dep])
    | non=>simp only[Rep] at h';subst h';cases (show u'=Value.none from r');exact⟨RcAt.none_none,RcNeAt.none_none⟩
    | bl b=>simp only[Rep] at h';subst h';cases (show u'=Value.bool b from r');exact⟨RcAt.none_bool b,RcNeAt.none_bool b⟩
    | int i=>simp only[Rep] at h';subst h';obtain⟨t,rfl⟩:=r';exact⟨RcAt.none_int i t,RcNeAt.none_int i t⟩
    | str x=>simp only[Rep] at h';subst h';obtain⟨t,rfl⟩:=r';exact⟨RcAt.none_str x t,RcNeAt.none_str x t⟩
    | tup es=>simp only[Rep] at h';obtain⟨a,vs,rfl,h2,h3⟩:=h';cases (show u'=Value.ref a from r');obtain⟨its,_,p⟩:=isT I h2;exact⟨RcAt.none_tuple p hu0,RcNeAt.none_tuple p hu0⟩
    | lst es=>simp only[Rep] at h';obtain⟨a,vs,rfl,h2,h3⟩:=h';cases (show u'=Value.ref a from r');obtain⟨its,_,p⟩:=isL I h2;exact⟨RcAt.none_list p hu0,RcNeAt.none_list p hu0⟩
  | bl c =>
    simp only[Rep] at h;subst h;cases (show u=Value.bool c from r)
    cases d' with
    | exc _=>exact absurd z' (by simp[dep])
    | dic _ _=>exact absurd z' (by simp[dep])
    | non=>simp only[Rep] at h';subst h';cases (show u'=Value.none from r');exact⟨RcAt.bool_none c,RcNeAt.bool_none c⟩
    | bl b=>simp only[Rep] at h';subst h';cases (show u'=Value.bool b from r');exact⟨RcAt.bool_bool c b,RcNeAt.bool_bool c b⟩
    | int i=>simp only[Rep] at h';subst h';obtain⟨t,rfl⟩:=r';exact⟨RcAt.bool_int c i t,RcNeAt.bool_int c i t⟩
    | str x=>simp only[Rep] at h';subst h';obtain⟨t,rfl⟩:=r';exact⟨RcAt.bool_str c x t,RcNeAt.bool_str c x t⟩
    | tup es=>simp only[Rep] at h';obtain⟨a,vs,rfl,h2,h3⟩:=h';cases (show u'=Value.ref a from r');obtain⟨its,_,p⟩:=isT I h2;exact⟨RcAt.bool_tuple c p hu0,RcNeAt.bool_tuple c p hu0⟩
    | lst es=>simp only[Rep] at h';obtain⟨a,vs,rfl,h2,h3⟩:=h';cases (show u'=Value.ref a from r');obtain⟨its,_,p⟩:=isL I h2;exact⟨RcAt.bool_list c p hu0,RcNeAt.bool_list c p hu0⟩
  | int c =>
    simp only[Rep] at h;subst h;obtain⟨t0,rfl⟩:=r
    cases d' with
    | exc _=>exact absurd z' (by simp[dep])
    | dic _ _=>exact absurd z' (by simp[dep])
    | non=>simp only[Rep] at h';subst h';cases (show u'=Value.none from r');exact⟨RcAt.int_none c t0,RcNeAt.int_none c t0⟩
    | bl b=>simp only[Rep] at h';subst h';cases (show u'=Value.bool b from r');exact⟨RcAt.int_bool c t0 b,RcNeAt.int_bool c t0 b⟩
    | int i=>simp only[Rep] at h';subst h';obtain⟨t,rfl⟩:=r';exact⟨RcAt.int_int c t0 i t,RcNeAt.int_int c t0 i t⟩
    | str x=>simp only[Rep] at h';subst h';obtain⟨t,rfl⟩:=r';exact⟨RcAt.int_str c t0 x t,RcNeAt.int_str c t0 x t⟩
    | tup es=>simp only[Rep] at h';obtain⟨a,vs,rfl,h2,h3⟩:=h';cases (show u'=Value.ref a from r');obtain⟨its,_,p⟩:=isT I h2;exact⟨RcAt.int_tuple c t0 p hu0,RcNeAt.int_tuple c t0 p hu0⟩
    | lst es=>simp only[Rep] at h';obtain⟨a,vs,rfl,h2,h3⟩:=h';cases (show u'=Value.ref a from r');obtain⟨its,_,p⟩:=isL I h2;exact⟨RcAt.int_list c t0 p hu0,RcNeAt.int_list c t0 p hu0⟩
  | str c =>
    simp only[Rep] at h;subst h;obtain⟨t0,rfl⟩:=r
    cases d' with
    | exc _=>exact absurd z' (by simp[dep])
    | dic _ _=>exact absurd z' (by simp[dep])
    | non=>simp only[Rep] at h';subst h';cases (show u'=Value.none from r');exact⟨RcAt.str_none c t0,RcNeAt.str_none c t0⟩
    | bl b=>simp only[Rep] at h';subst h';cases (show u'=Value.bool b from r');exact⟨RcAt.str_bool c t0 b,RcNeAt.str_bool c t0 b⟩
    | int i=>simp only[Rep] at h';subst h';obtain⟨t,rfl⟩:=r';exact⟨RcAt.str_int c t0 i t,RcNeAt.str_int c t0 i t⟩
    | str x=>simp only[Rep] at h';subst h';obtain⟨t,rfl⟩:=r';exact⟨RcAt.str_str c t0 x t,RcNeAt.str_str c t0 x t⟩
    | tup es=>simp only[Rep] at h';obtain⟨a,vs,rfl,h2,h3⟩:=h';cases (show u'=Value.ref a from r');obtain⟨its,_,p⟩:=isT I h2;exact⟨RcAt.str_tuple c t0 p hu0,RcNeAt.str_tuple c t0 p hu0⟩
    | lst es=>simp only[Rep] at h';obtain⟨a,vs,rfl,h2,h3⟩:=h';cases (show u'=Value.ref a from r');obtain⟨its,_,p⟩:=isL I h2;exact⟨RcAt.str_list c t0 p hu0,RcNeAt.str_list c t0 p hu0⟩
  | tup ds =>
    simp only[Rep] at h;obtain⟨a,vs,rfl,h2,h3⟩:=h;cases (show u=Value.ref a from r);obtain⟨its,rv,p⟩:=isT I h2
    have hu1:A.in1.units+deps ds<cLine:=by have:dep (.tup ds)=deps ds+1:=rfl;rw[fV];omega
    cases d' with
    | exc _=>exact absurd z' (by simp[dep])
    | dic _ _=>exact absurd z' (by simp[dep])
    | non=>simp only[Rep] at h';subst h';cases (show u'=Value.none from r');exact⟨RcAt.tuple_none p hu0,RcNeAt.tuple_none p hu0⟩
    | bl b=>simp only[Rep] at h';subst h';cases (show u'=Value.bool b from r');exact⟨RcAt.tuple_bool b p hu0,RcNeAt.tuple_bool b p hu0⟩
    | int i=>simp only[Rep] at h';subst h';obtain⟨t,rfl⟩:=r';exact⟨RcAt.tuple_int i t p hu0,RcNeAt.tuple_int i t p hu0⟩
    | str x=>simp only[Rep] at h';subst h';obtain⟨t,rfl⟩:=r';exact⟨RcAt.tuple_str x t p hu0,RcNeAt.tuple_str x t p hu0⟩
    | tup es =>
      simp only[Rep] at h';obtain⟨b,us,rfl,h2',h3'⟩:=h';cases (show u'=Value.ref b from r');obtain⟨its',rv',p'⟩:=isT I h2'
      have l1:=h3.length;have l2:=rv.length;have l3:=h3'.length;have l4:=rv'.length
      have he:∀ j (g1:j<its.toArray.size) (g2:j<its'.toArray.size),EqAt A.in1 s its.toArray[j] its'.toArray[j] (eJ ds es j):=fun j g1 g2=>gC I ds es vs us its its' A.in1 h3 h3' rv rv' hu1 (by simp only[dep] at z;omega) (by simp only[dep] at z';omega) j _ _ (by simp at g1 ⊢) (by simp at g2 ⊢)
      have q:=RcAt.tuples p p' hu0 he
      have q':=RcNeAt.tuples p p' hu0 he
      rw[List.size_toArray,List.size_toArray,<- l2,<- l1,<- l4,<- l3,vI] at q q'
      exact⟨q,q'⟩
    | lst es=>simp only[Rep] at h';obtain⟨a,vs,rfl,h2,h3⟩:=h';cases (show u'=Value.ref a from r');obtain⟨its,_,p'⟩:=isL I h2;exact⟨RcAt.tuple_list p p' hu0,RcNeAt.tuple_list p p' hu0⟩
  | lst ds =>
    simp only[Rep] at h;obtain⟨a,vs,rfl,h2,h3⟩:=h;cases (show u=Value.ref a from r);obtain⟨its,rv,p⟩:=isL I h2
    have hu1:A.in1.units+deps ds<cLine:=by have:dep (.lst ds)=deps ds+1:=rfl;rw[fV];omega
    cases d' with
    | exc _=>exact absurd z' (by simp[dep])
    | dic _ _=>exact absurd z' (by simp[dep])
    | non=>simp only[Rep] at h';subst h';cases (show u'=Value.none from r');exact⟨RcAt.list_none p hu0,RcNeAt.list_none p hu0⟩
    | bl b=>simp only[Rep] at h';subst h';cases (show u'=Value.bool b from r');exact⟨RcAt.list_bool b p hu0,RcNeAt.list_bool b p hu0⟩
    | int i=>simp only[Rep] at h';subst h';obtain⟨t,rfl⟩:=r';exact⟨RcAt.list_int i t p hu0,RcNeAt.list_int i t p hu0⟩
    | str x=>simp only[Rep] at h';subst h';obtain⟨t,rfl⟩:=r';exact⟨RcAt.list_str x t p hu0,RcNeAt.list_str x t p hu0⟩
    | lst es =>
      simp only[Rep] at h';obtain⟨b,us,rfl,h2',h3'⟩:=h';cases (show u'=Value.ref b from r');obtain⟨its',rv',p'⟩:=isL I h2'
      have l1:=h3.length;have l2:=rv.length;have l3:=h3'.length;have l4:=rv'.length
      by_cases hl:ds.length=es.length
      · have he:∀ j (g1:j<its.toArray.size) (g2:j<its'.toArray.size),EqAt A.in1 s its.toArray[j] its'.toArray[j] (eJ ds es j):=fun j g1 g2=>gC I ds es vs us its its' A.in1 h3 h3' rv rv' hu1 (by simp only[dep] at z;omega) (by simp only[dep] at z';omega) j _ _ (by simp at g1 ⊢) (by simp at g2 ⊢)
        have q:=RcAt.lists p p' (by simp;omega) hu0 he
        have q':=RcNeAt.lists p p' (by simp;omega) hu0 he
        rw[List.size_toArray,<- l2,<- l1,vH _ _ hl] at q q'
        exact⟨q,q'⟩
      · rw[show deq (.lst ds) (.lst es)=mZ ds es from rfl,lB hl]
        exact⟨RcAt.lists_lengths p p' (by simp;omega) hu0,RcNeAt.lists_lengths p p' (by simp;omega) hu0⟩
    | tup es=>simp only[Rep] at h';obtain⟨a,vs,rfl,h2,h3⟩:=h';cases (show u'=Value.ref a from r');obtain⟨its,_,p'⟩:=isT I h2;exact⟨RcAt.list_tuple p p' hu0,RcNeAt.list_tuple p p' hu0⟩
end
end L2
namespace L2
open PySem PySem.Spec PyProof.Rows DE PySem.SeqAt
def nO(X:Cx)(e:Expr):TE:=fun σ H Q=>∀ pins s,Inv X pins σ H s->wpAny (model X.prog X.w) X.A (eval e X.env) (EP X pins σ Q) X.xe s
def sY(X:Cx)(e:Expr):TT:=fun σ H Q=>∀ pins s,Inv X pins σ H s->wpAny (model X.prog X.w) X.A (isTrue e X.env (eval e X.env)) (TP X pins σ Q) X.xe s
def wQ(X:Cx)(es:List Expr):TA:=fun σ H Q=>∀ pos pins s,Inv X pins σ H s->wpAny (model X.prog X.w) X.A (spliced (backTo pos (starEach es X.env))) (AP X pins σ Q) X.xe s
def nR(X:Cx)(tg iter:Expr):TI:=fun σ H R=>∀ pins s,Inv X pins σ H s->wpAny (model X.prog X.w) X.A (eval iter X.env) (fun v s1=>wpAny (model X.prog X.w) X.A (pyIter v) (PIE X pins σ tg R) X.xe s1) X.xe s
section
variable {X:Cx} {e:Expr}
theorem ak:PE X e (nO X e):=fun pins s σ H Q I h=>h pins s I
theorem dY:PT X e (sY X e):=fun pins s σ H Q I h=>h pins s I
theorem cN{es:List Expr}:PA X es (wQ X es):=fun pos pins s σ H Q I h=>h pos pins s I
theorem iZ{tg iter:Expr}:PI X tg iter (nR X tg iter):=fun pins s σ H R I h=>h pins s I
theorem PE.sem{t:TE}{σ:St}{H:Hp}{Q:VK}(h:PE X e t)(q:t σ H Q):nO X e σ H Q:=fun pins s I=>h pins s σ H Q I q
theorem PT.sem{t:TT}{σ:St}{H:Hp}{Q:Bool->Hp->Prop}(h:PT X e t)(q:t σ H Q):sY X e σ H Q:=fun pins s I=>h pins s σ H Q I q
theorem PA.sem{es:List Expr}{t:TA}{σ:St}{H:Hp}{Q:List V->Hp->Prop}(h:PA X es t)(q:t σ H Q):wQ X es σ H Q:=fun pos pins s I=>h pos pins s σ H Q I q
theorem PI.sem{tg iter:Expr}{t:TI}{σ:St}{H:Hp}{R:It->Hp->Prop}(h:PI X tg iter t)(q:t σ H R):nR X tg iter σ H R:=fun pins s I=>h pins s σ H R I q
end
def bW(K:PySem.W.Frag)(Hs:Hp)(ρ:Rho)(σ:St):Prop:=∀ (i:Nat) (x:Str) (d:D),ρ[i]?=some (x,.sh d)->∃ v,σ[i]?=some (some v)/\Rep K Hs d v
theorem bW.same{K:PySem.W.Frag}{Hs Hs':Hp}{ρ:Rho}{σ:St}(h:bW K Hs ρ σ)(e:Same Hs Hs'):bW K Hs' ρ σ:=fun i x d q=>by
 obtain⟨v,e1,e2⟩:=h i x d q
 exact⟨v,e1,Rep.same e d v e2⟩
def Es(K:PySem.W.Frag)(J:It)(Hs0:Hp)(ds:List D):Prop:=∀ Hs H,Same Hs0 Hs->Same Hs H->J.stop ds.length H/\∀ (i:Nat) (d:D),ds[i]?=some d->J.go i H/\∀ x H',J.yld i H x H'->∃ Hs',Ext Hs H Hs' H'/\Rep K Hs' d x
def Ev(X:Cx)(ρ:Rho)(e:Expr)(d:D):Prop:=∀ σ H Hs Q,Same Hs H->bW X.K Hs ρ σ->(∀ v H' Hs',Ext Hs H Hs' H'->Rep X.K Hs' d v->Q v H')->nO X e σ H Q
def EvT(X:Cx)(ρ:Rho)(e:Expr)(b:Bool):Prop:=∀ σ H Hs Q,Same Hs H->bW X.K Hs ρ σ->(∀ H' Hs',Ext Hs H Hs' H'->Q b H')->sY X e σ H Q
def EvA(X:Cx)(ρ:Rho)(es:List Expr)(ds:List D):Prop:=∀ σ H Hs Q,Same Hs H->bW X.K Hs ρ σ->(∀ vs H' Hs',Ext Hs H Hs' H'->aL X.K Hs' ds vs->Q vs H')->wQ X es σ H Q
def EvI(X:Cx)(ρ:Rho)(tg iter:Expr)(ds:List D):Prop:=∀ σ H Hs R,Same Hs H->bW X.K Hs ρ σ->(∀ J H' Hs',Ext Hs H Hs' H'->Es X.K J Hs' ds->R J H')->nR X tg iter σ H R
def spX(K:PySem.W.Frag)(call:Str->List D->Option D)(callx:Str->List D->Option Str)(f:Str)(ps:List Str):Sp:=fun vs H Q E=>vs.length=ps.length/\∃ Hs ds,Same Hs H/\aL K Hs ds vs /\
 ((∃ d,call f ds=some d/\∀ v H' Hs',Ext Hs H Hs' H'->Rep K Hs' d v->Q v H')\/(∃ c,callx f ds=some c/\∀ C H' Hs',PySem.W.nsIn K mainGlobals c=some (some (.ref C))->Ext Hs H Hs' H'->E (.ref C) none H'))
def yU(K:PySem.W.Frag)(exs:List Str)(top:Str):Bool:=match PySem.W.nsIn K mainGlobals top with
  | some (some (.ref M)) => exs.all fun c => match PySem.W.nsIn K mainGlobals c with
    | some (some (.ref C)) => xIn K C M && jR K C && PySem.W.exmOne K (.ref C) (.ref M) == some true && PySem.W.kitOne K (.ref C) (.ref M) == some true && PySem.W.kitOne K (.ref C) (.type "ValueError") == some true &&
      exs.all fun c'=>match PySem.W.nsIn K mainGlobals c' with
        | some (some (.ref C'))=>PySem.W.kitOne K (.ref C) (.ref C')==some (c==c')
        | _=>false
    | _=>false
  | _=>exs.isEmpty
structure XText (K:PySem.W.Frag) (mg:Str->Option Value) (exs:List Str) (top:Str):Prop where
 glob:∀ x v,PySem.W.nsIn K mainGlobals x=some (some v)->mg x=some v
 cls:∀ c,exs.contains c=true->∃ C M,PySem.W.nsIn K mainGlobals c=some (some (.ref C))/\PySem.W.nsIn K mainGlobals top=some (some (.ref M))/\xIn K C M=true/\jR K C=true/\PySem.W.exmOne K (.ref C) (.ref M)=some true/\PySem.W.kitOne K (.ref C) (.ref M)=some true/\PySem.W.kitOne K (.ref C) (.type "ValueError")=some true
 sub:∀ c c',exs.contains c=true->exs.contains c'=true->∃ C C',PySem.W.nsIn K mainGlobals c=some (some (.ref C))/\PySem.W.nsIn K mainGlobals c'=some (some (.ref C'))/\PySem.W.kitOne K (.ref C) (.ref C')=some (c==c')
theorem XText.of{K:PySem.W.Frag}{mg:Str->Option Value}{exs:List Str}{top:Str}(hg:∀ x v,PySem.W.nsIn K mainGlobals x=some (some v)->mg x=some v)(h:yU K exs top=true):XText K mg exs top:=by
 unfold yU at h
 split at h
 ·rename_i M hM
  have all:=fun c (hc:exs.contains c=true)=>List.all_eq_true.mp h c (by simpa using hc)
  refine⟨hg,fun c hc=>?_,fun c c' hc hc'=>?_⟩
  ·have q:=all c hc
   split at q
   ·rename_i C hC
    simp only[Bool.and_eq_true,beq_iff_eq] at q
    exact⟨C,M,hC,hM,q.1.1.1.1.1,q.1.1.1.1.2,q.1.1.1.2,q.1.1.2,q.1.2⟩
   ·cases q
  ·have q:=all c hc
   split at q
   ·rename_i C hC
    simp only[Bool.and_eq_true] at q
    have q2:=List.all_eq_true.mp q.2 c' (by simpa using hc')
    split at q2
    ·rename_i C' hC'
     exact⟨C,C',hC,hC',by simpa using q2⟩
    ·cases q2
   ·cases q
 ·have e:exs=[]:=by simpa using h
  subst e
  exact⟨hg,fun c hc=>absurd hc (by simp),fun c c' hc=>absurd hc (by simp)⟩
structure Good (cx:Cxt) (k:Nat) (X:Cx) (sc:Scope):Prop where
 calm:X.calm=true
 room:Room k X.A
 sce:X.env.scope=sc
 kind:sc.kind=.function
 nd:X.N.Nodup
 cst:∀ x d,cx.cst.lookup x=some d->∃ v u,(∀ H,Rep X.K H d v)/\X.mg x=some u/\RelV v u
 blt:∀ x b,cx.blt.lookup x=some b->X.mg x=none/\x=Str.ofString b
 exs:XText X.K X.mg cx.exs cx.top
 fns:∀ f,cx.fns.contains f=true->(f==("__debug__":Str))=false/\∃ a fd ps,(∀ ds d,cx.call f ds=some d->ds.length=ps.length)/\(∀ ds c,cx.callx f ds=some c->ds.length=ps.length)/\X.mg f=some (.ref a)/\PySem.W.keepIn X.K (.ref a)=true/\Binds X.K fd ps []/\FnOk X.prog X.w X.K X.mg X.base (CX1 X.prog X.w) k a fd ps (spX X.K cx.call cx.callx f ps)
 kw:KnW X.K X.w
section
variable {X:Cx} {ρ:Rho} {cx:Cxt} {k:Nat} {sc:Scope}
theorem bK:∀ {ρ:Rho} {x:Str} {s:Sl},ρ.lookup x=some s->∃ i:Nat,ρ[i]?=some (x,s)/\(ρ.map (·.1)).idxOf? x=some i
  | (y, t) :: r, x, s, h => by
    rw[List.lookup_cons] at h
    cases hb:x==y with
    | true =>
      rw[hb] at h
      cases h
      have:x=y:=by simpa using hb
      subst this
      exact⟨0,rfl,by simp[List.idxOf?,List.findIdx?_cons]⟩
    | false =>
      rw[hb] at h
      obtain⟨i,h1,h2⟩:=bK h
      refine⟨i+1,by simpa using h1,?_⟩
      have hy:(y==x)=false:=by
        rw[beq_eq_false_iff_ne] at hb ⊢
        exact fun e=>hb e.symm
      simp only[List.map_cons,List.idxOf?,List.findIdx?_cons,hy,Bool.false_eq_true,if_false]
      simp only[List.idxOf?] at h2
      rw[h2];rfl
theorem Dr{x:Str}{d:D}{pos:Pos}(hN:X.N=ρ.map (·.1))(hv:Vis X.env.scope x)(hp:au x=true)(h:ρ.lookup x=some (.sh d)):Ev X ρ (.Name x pos) d:=by
 intro σ H Hs Q hs hr hq
 obtain⟨i,h1,_⟩:=bK h
 obtain⟨v,e1,e2⟩:=hr i x d h1
 unfold au at hp
 rw[Bool.and_eq_true,bne_iff_ne,bne_iff_ne] at hp
 refine PE.sem (fZ (i:=i) (by rw[hN,List.getElem?_map,h1];rfl) hv (by simpa using hp.1) (by simpa using hp.2)) ⟨v,e1,hq v H Hs (.refl hs) e2⟩
theorem Iv{x:Str}{d:D}{v:V}{u:Value}{pos:Pos}(hg:Gl X x)(hd:∀ H,Rep X.K H d v)(hm:X.mg x=some u)(r:RelV v u)(hp:au x=true):Ev X ρ (.Name x pos) d:=by
 intro σ H Hs Q hs hr hq
 unfold au at hp
 rw[Bool.and_eq_true,bne_iff_ne,bne_iff_ne] at hp
 exact PE.sem (nY hg hm r (by simpa using hp.1)) (hq _ H Hs (.refl hs) (hd Hs))
theorem yE{c:Const}{d:D}{j:Nat}{pos:Pos}(h:(match c with | .none=>some D.non | .bool b=>some (.bl b) | .int i=>some (.int i) | .str x=>some (.str x) | _=>none)=some d):Ev X ρ (.Constant c j pos) d:=by
 intro σ H Hs Q hs hr hq
 cases c<;>simp at h<;>subst h
 ·exact PE.sem G3 (hq _ H Hs (.refl hs) (by simp[Rep]))
 ·exact PE.sem Kv (hq _ H Hs (.refl hs) (by simp[Rep]))
 ·exact PE.sem zE (hq _ H Hs (.refl hs) (by simp[Rep]))
 ·exact PE.sem GQ (hq _ H Hs (.refl hs) (by simp[Rep]))
theorem dw{a b:Expr}{x y d:D}{r:R2}{e:Expr}(ha:Ev X ρ a x)(hb:Ev X ρ b y)(hp:PE X e (tOp r (nO X a) (nO X b)))
  (hr:∀ u v H Hs Q,Same Hs H->Rep X.K Hs x u->Rep X.K Hs y v->(∀ w H' Hs',Ext Hs H Hs' H'->Rep X.K Hs' d w->Q w H')->r u v H Q):Ev X ρ e d:=by
 intro σ H Hs Q hs hst hq
 refine hp.sem (ha σ H Hs _ hs hst fun u H1 Hs1 E1 r1=>hb σ H1 Hs1 _ E1.sub (hst.same E1.vis) fun v H2 Hs2 E2 r2=>?_)
 exact hr u v H2 Hs2 Q E2.sub (Rep.same E2.vis x u r1) r2 fun w H' Hs' E3 r3=>hq w H' Hs' (E1.trans (E2.trans E3)) r3
theorem pC{i:Int}(h:small i=true):-(2^64)<i/\i<2^64:=by
 unfold small at h
 rw[Bool.and_eq_true,decide_eq_true_eq,decide_eq_true_eq] at h
 exact h
theorem fj{n:Nat}(h:szl n=true):n<=sizeLine:=by
 unfold szl at h
 rw[decide_eq_true_eq] at h
 exact Nat.le_trans h (by rw[sizeLine_eq];decide)
theorem lW{n:Nat}(h:szl n=true):n<sizeLine:=by
 unfold szl at h
 rw[decide_eq_true_eq] at h
 exact Nat.lt_of_le_of_lt h (by rw[sizeLine_eq];decide)
theorem aA{K:PySem.W.Frag}{H:Hp}{i:Int}{v:V}(h:Rep K H (.int i) v):v=.int i:=by simpa[Rep] using h
theorem cM{K:PySem.W.Frag}{H:Hp}{i:Bool}{v:V}(h:Rep K H (.bl i) v):v=.bl i:=by simpa[Rep] using h
theorem bF{K:PySem.W.Frag}{H:Hp}{ds:List D}{v:V}(h:Rep K H (.tup ds) v):∃ a vs,v=.ref a/\SqT K H a vs/\aL K H ds vs:=by simpa[Rep] using h
theorem bw{K:PySem.W.Frag}{H:Hp}{ds:List D}{v:V}(h:Rep K H (.lst ds) v):∃ a vs,v=.ref a/\SqL K H a vs/\aL K H ds vs:=by simpa[Rep] using h
theorem jf{Hs H:Hp}{ds:List D}{vs:List V}{p:Addr}{Q:VK}(hs:Same Hs H)(hr:aL X.K Hs ds vs)(hp:H p=none)(hq:∀ w H' Hs',Ext Hs H Hs' H'->Rep X.K Hs' (.tup ds) w->Q w H'):Q (.ref p) (upd H p (.tup vs)) :=
 hq _ _ _ (Ext.new hs (.tup vs) hp) (by simp only[Rep];exact⟨p,vs,rfl,.of aQ,aL.same (Ext.new hs (.tup vs) hp).vis ds vs hr⟩)
theorem dZ{Hs H:Hp}{ds:List D}{vs:List V}{p:Addr}{Q:VK}(hs:Same Hs H)(hr:aL X.K Hs ds vs)(hp:H p=none)(hq:∀ w H' Hs',Ext Hs H Hs' H'->Rep X.K Hs' (.lst ds) w->Q w H'):Q (.ref p) (upd H p (.lst vs)) :=
 hq _ _ _ (Ext.new hs (.lst vs) hp) (by simp only[Rep];exact⟨p,vs,rfl,.of aQ,aL.same (Ext.new hs (.lst vs) hp).vis ds vs hr⟩)
def Kr(K:PySem.W.Frag):R2:=fun x y H Q=>∃ a b xs ys,x=.ref a/\y=.ref b/\SqT K H a xs/\SqT K H b ys/\xs.length+ys.length<=sizeLine /\
 (xs=[]->Q (.ref b) H)/\(xs≠[]->ys=[]->Q (.ref a) H)/\(xs≠[]->ys≠[]->∀ p,H p=none->Q (.ref p) (upd H p (.tup (xs++ys))))
theorem Cp:OpR X (binaryOp .Add) (Kr X.K):=by
 intro pins s σ H x y v u Q I rx ry h
 obtain⟨a,b,xs,ys,rfl,rfl,ha,hb,hz,q0,q1,q2⟩:=h
 by_cases hx:xs=[]
 ·subst hx
  cases (show v=Value.ref a from rx)
  cases (show u=Value.ref b from ry)
  obtain⟨its,r1,p1,_⟩:=I.tuple ha
  obtain⟨its2,r2,p2,_⟩:=I.tuple hb
  have e0:its=[]:=r1.nil_iff.mpr rfl
  subst e0
  obtain⟨⟨c,dd,data,sl⟩,ho,hc,n,hd⟩:=id p1
  obtain⟨⟨c2,dd2,data2,sl2⟩,ho2,hc2,n2,hd2⟩:=id p2
  simp only at hc hd hc2 hd2
  subst hc hd hc2 hd2
  exact concat_meets ⟨_,ho,rfl⟩ ⟨_,ho2,rfl⟩ noFill_tuple_add seq_tuple_add PySem.F.slot_tuple_add PySem.F.entry_tuple_add (PySem.F.args_tuple_add_2 _ _) (tuple_addW0 a b _ its2.toArray n n2 dd dd2 sl sl2 rfl) ⟨ho,ho2,.ref b,H,I,rfl,q0 rfl⟩
 ·exact Ck pins s σ H (.ref a) (.ref b) v u Q I rx ry ⟨a,b,xs,ys,rfl,rfl,ha,hb,hx,hz,q1 hx,q2 hx⟩
def Kf(K:PySem.W.Frag):R2:=fun x y H Q=>∃ a v k,x=.ref a/\y=.int k/\SqT K H a [v]/\0<=k/\k<=4/\(k=1->Q (.ref a) H)/\(k≠1->∀ p,H p=none->Q (.ref p) (upd H p (.tup (List.replicate k.toNat v))))
theorem Ca:OpR X (binaryOp .Mult) (Kf X.K):=by
 intro pins s σ H x y v u Q I rx ry h
 obtain⟨a,w,k,rfl,rfl,ha,k1,k4,q1,q2⟩:=h
 cases (show v=Value.ref a from rx)
 obtain⟨t,e⟩:=(show ∃ t,u=Value.int k t from ry)
 subst e
 obtain⟨its,r1,p1,_⟩:=I.tuple ha
 obtain⟨u0,rfl,ru⟩:=vals1 r1
 obtain⟨⟨c,dd,data,sl⟩,ho,hc,n,hd⟩:=id p1
 simp only at hc hd
 subst hc hd
 have new:∀ (vs:List V) (us:List Value),Vals vs us->vs.length<=4->(∀ p,H p=none->Q (.ref p) (upd H p (.tup vs)))->EP X pins σ Q (Value.ref s.heap.objs.size) { s with heap:=s.heap.push { cls:=Value.type "tuple",data:=Data.seq us.toArray },toks:=s.toks }:=fun vs us r hl q =>
  ⟨.ref s.heap.objs.size,_,I.laid (t':=s.toks) (o:=.tup vs) (fun b ob q=>Heap.get?_push_of_some _ q) (Nat.le_refl _) ⟨Nat.le_trans hl (by decide),us,r,IsTup.new _ _⟩,rfl,q _ (I.hok.fresh (Nat.le_refl _))⟩
 refine wpAny_binaryOp_repeat_ref (T:="tuple") (U:="int") (by decide) ⟨_,ho,rfl⟩ (fun s'=>typeIs_int s' k t) iz PySem.F.fills_int_mul PySem.F.slot_int_rmul mq PySem.F.slot_int_index.lookup
  (call_meets PySem.F.slot_int_rmul (typeIs_int s k t) PySem.F.entry_int_rmul (PySem.F.args_int_rmul_2 _ _) (jD k t a _ n dd sl) ⟨ho,rfl,⟨_,ho,rfl⟩,?_⟩)
 have hk:k=0\/k=1\/k=2\/k=3\/k=4:=by omega
 rcases hk with rfl | rfl | rfl | rfl | rfl
 ·exact call_meets PySem.F.slot_tuple_mul ⟨_,ho,rfl⟩ PySem.F.entry_tuple_mul (PySem.F.args_tuple_mul_2 _ _) (qX a u0 n dd sl t) ⟨ho,new [] [] .nil (by simp) (q2 (by decide))⟩
 ·exact call_meets PySem.F.slot_tuple_mul ⟨_,ho,rfl⟩ PySem.F.entry_tuple_mul (PySem.F.args_tuple_mul_2 _ _) (qW a _ n dd sl t) ⟨ho,.ref a,H,I,rfl,q1 rfl⟩
 ·exact call_meets PySem.F.slot_tuple_mul ⟨_,ho,rfl⟩ PySem.F.entry_tuple_mul (PySem.F.args_tuple_mul_2 _ _) (qU a u0 n dd sl t) ⟨ho,new [w,w] [u0,u0] (.cons ru (.cons ru .nil)) (by simp) (q2 (by decide))⟩
 ·exact call_meets PySem.F.slot_tuple_mul ⟨_,ho,rfl⟩ PySem.F.entry_tuple_mul (PySem.F.args_tuple_mul_2 _ _) (qT a u0 n dd sl t) ⟨ho,new [w,w,w] [u0,u0,u0] (.cons ru (.cons ru (.cons ru .nil))) (by simp) (q2 (by decide))⟩
 ·exact call_meets PySem.F.slot_tuple_mul ⟨_,ho,rfl⟩ PySem.F.entry_tuple_mul (PySem.F.args_tuple_mul_2 _ _) (qR a u0 n dd sl t) ⟨ho,new [w,w,w,w] [u0,u0,u0,u0] (.cons ru (.cons ru (.cons ru (.cons ru .nil)))) (by simp) (q2 (by decide))⟩
theorem pG{K:PySem.W.Frag}{H:Hp}{d:D}{v:V}(h:Rep K H d v):∀ n:Nat,aL K H (List.replicate n d) (List.replicate n v)
 | 0=>.nil
 | n+1=>.cons h (pG h n)
theorem aL.rep{K:PySem.W.Frag}{H:Hp}{ds:List D}{vs:List V}(h:aL K H ds vs):∀ n:Nat,aL K H (List.replicate n ds).flatten (List.replicate n vs).flatten
  | 0=>by simp[aL]
  | n + 1 => by
    simp only[List.replicate_succ,List.flatten_cons]
    exact h.append (h.rep n)
theorem Dq{a b:Expr}{xs:List D}{j:Int}{d:D}{pos:Pos}(ha:Ev X ρ a (.tup xs))(hb:Ev X ρ b (.int j))(h:Gp xs j=some d):Ev X ρ (.BinOp a .Mult b pos) d:=by
  match xs,ha,h with
  | [],_,h=>exact absurd h (by simp[Gp])
  | _::_::_,_,h=>exact absurd h (by simp[Gp])
  | [x], ha, h =>
    simp only[Gp] at h
    split at h
    · rename_i hz
      rw[Bool.and_eq_true,decide_eq_true_eq,decide_eq_true_eq] at hz
      cases h
      refine dw ha hb (iy Ca ak ak) fun u v H Hs Q hs r1 r2 hq=>?_
      obtain⟨p,us,rfl,h1,h2⟩:=bF r1
      simp only[aL] at h2
      obtain⟨w,r,rfl,hw,hr⟩:=h2
      subst hr
      refine⟨p,w,j,rfl,aA r2,hs.tup h1,hz.1,hz.2,fun e=>?_,fun _ l hl=>jf hs (pG hw _) hl hq⟩
      subst e
      exact hq _ H Hs (.refl hs) r1
    · cases h
def Jh(i j:Int):Prop:=Td i j\/(i.natAbs.log2<10000/\j.natAbs.log2<10000)
theorem zK{i:Int}(h:mid i=true):i.natAbs.log2<10000:=by unfold mid at h;simpa using h
theorem qC{i:Int}(h:i.natAbs.log2<10000):Builtin.Int.intBits i<=2^20:=by
 unfold Builtin.Int.intBits
 split<;>omega
theorem Cg:OpR X (binaryOp .Mult) (rI Jh fun i j=>.int (i*j)):=opI fun _ _ _ _ _ _ _ hc q=>mul_int q (hc.elim (fun z=>z.ok) fun z=>.of_bits (qC z.1) (qC z.2))
def Te(i j:Int):Prop:=j≠0/\j.natAbs.log2<9000
theorem xU:OpR X (binaryOp .FloorDiv) (rI Te fun i j=>.int (i.fdiv j)):=opI fun _ _ _ _ _ _ _ hc q=>floordiv_int hc.1 q (.inl (PyProof.noPylong_of_log2 hc.2))
theorem yF{a b:Expr}{op:Operator}{x y d:D}{pos:Pos}(ha:Ev X ρ a x)(hb:Ev X ρ b y)(h:binop op x y=some d):Ev X ρ (.BinOp a op b pos) d:=by
 unfold binop at h
 split at h
 ·cases h
  exact dw ha hb (iy G9 ak ak) fun u v H Hs Q hs r1 r2 hq=>⟨_,_,aA r1,aA r2,hq _ H Hs (.refl hs) (by simp[Rep])⟩
 ·split at h
  ·rename_i hz
   cases h
   refine dw ha hb (iy Cp ak ak) fun u v H Hs Q hs r1 r2 hq=>?_
   obtain⟨p,us,rfl,h1,h2⟩:=bF r1
   obtain⟨q,ws,rfl,h3,h4⟩:=bF r2
   have l1:=h2.length
   have l2:=h4.length
   have nil:∀ (l:List D),l.length=0->l=[]:=fun l hl=>by cases l<;>simp at hl ⊢
   refine⟨p,q,us,ws,rfl,rfl,hs.tup h1,hs.tup h3,by have:=fj hz;omega,fun e=>?_,fun _ e=>?_,fun _ _ l hl=>jf hs (h2.append h4) hl hq⟩
   ·subst e
    have e2:=nil _ l1
    subst e2
    exact hq _ H Hs (.refl hs) r2
   ·subst e
    have e2:=nil _ l2
    subst e2
    refine hq _ H Hs (.refl hs) ?_
    rw[List.append_nil]
    exact r1
  ·cases h
 ·split at h
  ·rename_i hz
   cases h
   refine dw ha hb (iy Cm ak ak) fun u v H Hs Q hs r1 r2 hq=>?_
   obtain⟨p,us,rfl,h1,h2⟩:=bw r1
   obtain⟨q,ws,rfl,h3,h4⟩:=bw r2
   have l1:=h2.length
   have l2:=h4.length
   exact⟨p,q,us,ws,rfl,rfl,hs.seq h1,hs.seq h3,by have:=fj hz;omega,fun l hl=>dZ hs (h2.append h4) hl hq⟩
  ·cases h
 ·cases h
  exact dw ha hb (iy G5 ak ak) fun u v H Hs Q hs r1 r2 hq=>⟨_,_,aA r1,aA r2,hq _ H Hs (.refl hs) (by simp[Rep])⟩
 ·split at h
  ·rename_i hz
   cases h
   rw[Bool.or_eq_true,Bool.or_eq_true,Bool.and_eq_true] at hz
   have hz':Jh _ _:=hz.elim (fun z=>z.elim (fun z=>.inl (.inl (pC z))) (fun z=>.inl (.inr (pC z)))) (fun z=>.inr ⟨zK z.1,zK z.2⟩)
   exact dw ha hb (iy Cg ak ak) fun u v H Hs Q hs r1 r2 hq=>⟨_,_,aA r1,aA r2,hz',hq _ H Hs (.refl hs) (by simp[Rep])⟩
  ·cases h
 ·split at h
  ·rename_i hz
   cases h
   rw[Bool.and_eq_true,Bool.and_eq_true,decide_eq_true_eq,decide_eq_true_eq] at hz
   refine dw ha hb (iy uw ak ak) fun u v H Hs Q hs r1 r2 hq=>?_
   obtain⟨p,us,rfl,h1,h2⟩:=bw r1
   have l1:=h2.length
   exact⟨p,_,us,rfl,aA r2,hs.seq h1,by omega,by omega,by have:=fj hz.2;rw[<- l1];exact this,fun l hl=>dZ hs (h2.rep _) hl hq⟩
  ·cases h
 ·exact Dq ha hb h
 ·split at h
  ·rename_i hz
   cases h
   rw[Bool.and_eq_true,decide_eq_true_eq,decide_eq_true_eq] at hz
   exact dw ha hb (iy Cj ak ak) fun u v H Hs Q hs r1 r2 hq=>⟨_,_,aA r1,aA r2,hz,hq _ H Hs (.refl hs) (by simp[Rep])⟩
  ·split at h
   ·rename_i hz
    cases h
    rw[Bool.and_eq_true,decide_eq_true_eq,decide_eq_true_eq] at hz
    exact dw ha hb (iy xU ak ak) fun u v H Hs Q hs r1 r2 hq=>⟨_,_,aA r1,aA r2,hz,hq _ H Hs (.refl hs) (by simp[Rep])⟩
   ·cases h
 ·split at h
  ·rename_i hz
   cases h
   rw[decide_eq_true_eq] at hz
   exact dw ha hb (iy G6 ak ak) fun u v H Hs Q hs r1 r2 hq=>⟨_,_,aA r1,aA r2,hz,hq _ H Hs (.refl hs) (by simp[Rep])⟩
  ·split at h
   ·rename_i hz
    cases h
    rw[decide_eq_true_eq] at hz
    exact dw ha hb (iy Ci ak ak) fun u v H Hs Q hs r1 r2 hq=>⟨_,_,aA r1,aA r2,hz,hq _ H Hs (.refl hs) (by simp[Rep])⟩
   ·cases h
 ·cases h
end
end L2
namespace L2
open PySem PySem.Spec PyProof.Rows DE PySem.SeqAt
section
variable {X:Cx} {ρ:Rho} {cx:Cxt} {k:Nat} {sc:Scope}
theorem aj{e:Expr}{es:List Expr}{env:Env}(h:aD e=true):starEach (e::es) env=(false,eval e env)::starEach es env:=by
 cases e<;>first | rfl | (simp[aD] at h)
theorem iG{e:Expr}(h:aD e=true):wk e:=by
 intro o i
 cases e<;>first | rfl | (simp[aD] at h)
theorem cW{e:Expr}{env:Env}(h:aD e=true)(x:Value):foldedSetIterable e env x=pure x:=by
 cases e<;>first | rfl | (simp[aD] at h)
theorem gU{e:Expr}{op:CmpOp}(h:aD e=true):behindInMarks op e=false:=by
 cases e<;>first | rfl | (simp[aD] at h)
theorem fW{env:Env}{pos:Pos}:∀ {es:List Expr},(∀ e∈es,aD e=true)->(backTo pos (starEach es env)).any (·.1)=false
  | [],_=>rfl
  | e :: es, h => by
    rw[aj (h e List.mem_cons_self)]
    have ih:=fW (env:=env) (pos:=pos) fun e' he=>h e' (List.mem_cons_of_mem _ he)
    show((false:Bool)||(backTo pos (starEach es env)).any (·.1))=false
    rw[ih];rfl
theorem aV:∀ {n:Nat} {ρ:Rho} {e:Expr} {d:D},ev cx n sc ρ e=some d->aD e=true
  | 0,_,_,_,h=>by simp[ev] at h
  | n + 1, ρ, e, d, h => by
    cases e<;>first | rfl | (exact nomatch (show(Option.none:Option D)=some d from h))
def Aj(X:Cx)(e:Expr):TT:=fun σ H Q=>∀ whole pins s,Inv X pins σ H s->wpAny (model X.prog X.w) X.A (isTrue e X.env whole) (TP X pins σ Q) X.xe s
def EvW(X:Cx)(ρ:Rho)(e:Expr)(b:Bool):Prop:=∀ σ H Hs Q,Same Hs H->bW X.K Hs ρ σ->(∀ H' Hs',Ext Hs H Hs' H'->Q b H')->Aj X e σ H Q
theorem pI{e:Expr}:PW X e (Aj X e):=fun whole pins s σ H Q I h=>h whole pins s I
theorem PW.sem{e:Expr}{t:TT}{σ:St}{H:Hp}{Q:Bool->Hp->Prop}(h:PW X e t)(q:t σ H Q):Aj X e σ H Q:=fun whole pins s I=>h whole pins s σ H Q I q
theorem EvW.t{e:Expr}{b:Bool}(h:EvW X ρ e b):EvT X ρ e b:=fun σ H Hs Q hs hr hq pins s I=>h σ H Hs Q hs hr hq _ pins s I
theorem DN{e:Expr}{b:Bool}(h:Ev X ρ e (.bl b))(he:∀ whole,isTrue e X.env whole=(do let v <- whole;standAt e.pos;holding [v] (truthy v))):EvT X ρ e b:=fun σ H Hs Q hs hr hq =>
 (Gw ak he).sem (h σ H Hs _ hs hr fun v H' Hs' E1 r1=>⟨b,cM r1,hq H' Hs' E1⟩)
theorem Io{a:Expr}{b:Bool}{pos:Pos}(h:Ev X ρ a (.bl b)):Ev X ρ (.UnaryOp .Not a pos) (.bl (!b)):=fun σ H Hs Q hs hr hq =>
 (GZ ak).sem (h σ H Hs _ hs hr fun v H' Hs' E1 r1=>⟨b,cM r1,hq _ H' Hs' E1 (by simp[Rep])⟩)
theorem DP{a:Expr}{b:Bool}{pos:Pos}(h:EvT X ρ a b):EvT X ρ (.UnaryOp .Not a pos) (!b):=fun σ H Hs Q hs hr hq =>
 (Gx dY).sem (h σ H Hs _ hs hr fun H' Hs' E1=>hq H' Hs' E1)
theorem Ip{a:Expr}{i:Int}{pos:Pos}(h:Ev X ρ a (.int i)):Ev X ρ (.UnaryOp .USub a pos) (.int (-i)):=fun σ H Hs Q hs hr hq =>
 (Ku FP ak).sem (h σ H Hs _ hs hr fun v H' Hs' E1 r1=>⟨i,aA r1,hq _ H' Hs' E1 (by simp[Rep])⟩)
theorem mY{op:BoolOp}{f:Expr->Option D}{pos:Pos}:∀ {es:List Expr} {d:D},(∀ e∈es,∀ d,f e=some d->Ev X ρ e d/\∀ b,d=.bl b->EvT X ρ e b)->bT op f es=some d ->
    Ev X ρ (.BoolOp op es pos) d/\∀ b,d=.bl b->EvW X ρ (.BoolOp op es pos) b
  | [],d,_,h=>by simp[bT] at h
  | [e], d, hf, h => by
    obtain⟨h1,h2⟩:=hf e (by simp) d (by simpa[bT] using h)
    refine⟨fun σ H Hs Q hs hr hq=>(GX ak).sem (h1 σ H Hs Q hs hr hq),fun b hb σ H Hs Q hs hr hq=>?_⟩
    cases op with
    | And=>exact(Bh dY).sem (h2 b hb σ H Hs Q hs hr hq)
    | Or=>exact(Gu dY).sem (h2 b hb σ H Hs Q hs hr hq)
  | e :: e' :: r, d, hf, h => by
    simp only[bT] at h
    cases he:f e with
    | none=>rw[he] at h;simp at h
    | some x =>
      rw[he] at h
      cases x with
      | bl c =>
        obtain⟨h1,h2⟩:=hf e (by simp) _ he
        have h2':=h2 c rfl
        simp only[asB,Option.bind_some,Option.bind_eq_bind,bind,Option.bind] at h
        have ih:=fun d' (q:bT op f (e'::r)=some d')=>mY (pos:=pos) (es:=e'::r) (fun a ha=>hf a (List.mem_cons_of_mem _ ha)) q
        cases op with
        | And =>
          cases c with
          | true =>
            simp only[if_true] at h
            obtain⟨i1,i2⟩:=ih d h
            refine⟨fun σ H Hs Q hs hr hq=>(zF ak ak).sem (h1 σ H Hs _ hs hr fun v H' Hs' E1 r1=>⟨true,cM r1,wF (i1 σ H' Hs' Q E1.sub (hr.same E1.vis) fun w H2 Hs2 E2 r2=>hq w H2 Hs2 (E1.trans E2) r2)⟩),fun b hb σ H Hs Q hs hr hq=>?_⟩
            exact(zq dY pI).sem (h2' σ H Hs _ hs hr fun H' Hs' E1=>wF (i2 b hb σ H' Hs' Q E1.sub (hr.same E1.vis) fun H2 Hs2 E2=>hq H2 Hs2 (E1.trans E2)))
          | false =>
            simp only[Bool.false_eq_true,if_false,Option.some.injEq] at h
            subst h
            refine⟨fun σ H Hs Q hs hr hq=>(zF ak ak).sem (h1 σ H Hs _ hs hr fun v H' Hs' E1 r1=>⟨false,cM r1,yg (hq _ H' Hs' E1 (by simp[Rep]))⟩),fun b hb σ H Hs Q hs hr hq=>?_⟩
            cases hb
            exact(zq dY pI).sem (h2' σ H Hs _ hs hr fun H' Hs' E1=>yg (hq H' Hs' E1))
        | Or =>
          cases c with
          | true =>
            simp only[if_true,Option.some.injEq] at h
            subst h
            refine⟨fun σ H Hs Q hs hr hq=>(GR ak ak).sem (h1 σ H Hs _ hs hr fun v H' Hs' E1 r1=>⟨true,cM r1,wF (hq _ H' Hs' E1 (by simp[Rep]))⟩),fun b hb σ H Hs Q hs hr hq=>?_⟩
            cases hb
            exact(Gv dY pI).sem (h2' σ H Hs _ hs hr fun H' Hs' E1=>wF (hq H' Hs' E1))
          | false =>
            simp only[Bool.false_eq_true,if_false] at h
            obtain⟨i1,i2⟩:=ih d h
            refine⟨fun σ H Hs Q hs hr hq=>(GR ak ak).sem (h1 σ H Hs _ hs hr fun v H' Hs' E1 r1=>⟨false,cM r1,yg (i1 σ H' Hs' Q E1.sub (hr.same E1.vis) fun w H2 Hs2 E2 r2=>hq w H2 Hs2 (E1.trans E2) r2)⟩),fun b hb σ H Hs Q hs hr hq=>?_⟩
            exact(Gv dY pI).sem (h2' σ H Hs _ hs hr fun H' Hs' E1=>yg (i2 b hb σ H' Hs' Q E1.sub (hr.same E1.vis) fun H2 Hs2 E2=>hq H2 Hs2 (E1.trans E2)))
      | _=>simp[asB] at h
def Ko(X:Cx)(op:CmpOp):R2:=fun u v H Q=>∃ Hs x y d,Same Hs H/\Rep X.K Hs x u/\Rep X.K Hs y v/\cmpop op x y=some d/\∃ b,d=.bl b/\Q (.bl b) H
theorem jY{K:PySem.W.Frag}{H:Hp}{v:V}(h:Rep K H .non v):v=.non:=by simpa[Rep] using h
theorem pZ{K:PySem.W.Frag}{H:Hp}{x:D}{v:V}(h:Rep K H x v):CW x=decide (v=V.non):=by
  cases x with
  | non=>rw[jY h];rfl
  | bl b=>rw[cM h];rfl
  | int b=>rw[aA h];rfl
  | str b => have e : v = .str b := by simpa [Rep] using h
             rw[e];rfl
  | tup b=>obtain⟨a,vs,e,_⟩:=bF h;rw[e];rfl
  | lst b=>obtain⟨a,vs,e,_⟩:=bw h;rw[e];rfl
  | exc c=>simp only[Rep] at h;obtain⟨a,C,e,_⟩:=h;rw[e];rfl
  | dic k x=>simp only[Rep] at h;obtain⟨a,C,e,_⟩:=h;rw[e];rfl
theorem eU{K:PySem.W.Frag}{H:Hp}:∀ {ds:List D} {ns:List Int} {vs:List V},fU ds=some ns->aL K H ds vs->vs=ns.map V.int
  | [], ns, vs, h, r => by
    simp only[fU,Option.some.injEq] at h;subst h
    simpa[aL] using r
  | .int i :: ds, ns, vs, h, r => by
    simp only[fU,Option.map_eq_some_iff] at h
    obtain⟨ms,h1,rfl⟩:=h
    simp only[aL] at r
    obtain⟨v,r',rfl,h2,h3⟩:=r
    rw[aA h2,eU h1 h3]
    rfl
  | .non::ds,ns,vs,h,r=>by simp[fU] at h
  | .bl _::ds,ns,vs,h,r=>by simp[fU] at h
  | .str _::ds,ns,vs,h,r=>by simp[fU] at h
  | .tup _::ds,ns,vs,h,r=>by simp[fU] at h
  | .lst _::ds,ns,vs,h,r=>by simp[fU] at h
  | .exc _::ds,ns,vs,h,r=>by simp[fU] at h
  | .dic _ _::ds,ns,vs,h,r=>by simp[fU] at h
theorem any_ints(i:Int):∀ {ns:List Int} {us:List Value},Vals (ns.map V.int) us->us.any (fun y=>match y with | .int j _=>j==i | _=>false)=ns.any (· ==i)
  | [],us,r=>by rw[List.map_nil] at r;cases r;rfl
  | n :: ns, us, r => by
    rw[List.map_cons] at r
    cases r with
    | cons r1 r2 =>
      obtain⟨t,e⟩:=(show ∃ t,_=Value.int n t from r1)
      subst e
      simp only[List.any_cons,any_ints i r2]
theorem kj:∀ {ns:List Int} {us:List Value},Vals (ns.map V.int) us->∀ y∈us,∃ j t,y=Value.int j t
  | [],us,r,y,hy=>by rw[List.map_nil] at r;cases r;simp at hy
  | n :: ns, us, r, y, hy => by
    rw[List.map_cons] at r
    cases r with
    | cons r1 r2 =>
      obtain⟨t,e⟩:=(show ∃ t,_=Value.int n t from r1)
      subst e
      rcases List.mem_cons.mp hy with rfl | hy
      · exact⟨n,t,rfl⟩
      · exact kj r2 y hy
theorem Dc{pins:List (Addr×Obj)}{σ:St}{H:Hp}{s:Shared}{i:Int}{ys:List D}{ns:List Int}{u v:V}{w z:Value}(I:Inv X pins σ H s)(A:Around)(hu:u=.int i)(hv:Rep X.K H (.tup ys) v)(hn:fU ys=some ns)(ru:RelV u w)(rv:RelV v z) :
  (∀ (Q:Value->Shared->Prop) (E:Value->Shared->Prop),Q (.bool (ns.any (· ==i))) s->wpAny (model X.prog X.w) A (compareOp .In w z) Q E s)/\(∀ (Q:Value->Shared->Prop) (E:Value->Shared->Prop),Q (.bool (!ns.any (· ==i))) s->wpAny (model X.prog X.w) A (compareOp .NotIn w z) Q E s):=by
 subst hu
 obtain⟨t,e⟩:=(show ∃ t,w=Value.int i t from ru)
 subst e
 obtain⟨a,vs,rfl,h1,h2⟩:=bF hv
 cases (show z=Value.ref a from rv)
 have e:=eU hn h2
 subst e
 obtain⟨its,r,p⟩:=isT I h1
 have he:∀ y,y∈its.toArray->EqAt A.in1 s y (.int i t) (match y with | .int j _=>j==i | _=>false):=fun y hy=>by
  obtain⟨j,t',rfl⟩:=kj r y (by simpa using hy)
  exact fun P w Q E q=>wpAny_eqBool_int q
 have ea:its.toArray.any (fun y=>match y with | .int j _=>j==i | _=>false)=ns.any (· ==i):=by
  rw[List.any_toArray];exact any_ints i r
 refine⟨fun Q E q=>in_tupleAt _ p he (by rw[ea];exact q),fun Q E q=>notIn_tupleAt _ p he (by rw[ea];exact q)⟩
theorem qH{K:PySem.W.Frag}{H:Hp}:∀ {ds:List D} {ns:List Str} {vs:List V},oX ds=some ns->aL K H ds vs->vs=ns.map V.str
  | [], ns, vs, h, r => by
    simp only[oX,Option.some.injEq] at h;subst h
    simpa[aL] using r
  | .str i :: ds, ns, vs, h, r => by
    simp only[oX] at h
    obtain⟨ms,h1,rfl⟩:=Option.map_eq_some_iff.mp h
    simp only[aL] at r
    obtain⟨v,rr,rfl,h2,h3⟩:=r
    have e:v=.str i:=by simpa[Rep] using h2
    rw[qH h1 h3,e];rfl
  | .non::ds,ns,vs,h,r=>by simp[oX] at h
  | .bl _::ds,ns,vs,h,r=>by simp[oX] at h
  | .int _::ds,ns,vs,h,r=>by simp[oX] at h
  | .tup _::ds,ns,vs,h,r=>by simp[oX] at h
  | .lst _::ds,ns,vs,h,r=>by simp[oX] at h
  | .exc _::ds,ns,vs,h,r=>by simp[oX] at h
  | .dic _ _::ds,ns,vs,h,r=>by simp[oX] at h
def eS(x:D):Value->Bool
 | .str t _=>deq (.str t) x
 | _=>false
theorem qK(x:D):∀ {ns:List Str} {us:List Value},Vals (ns.map V.str) us->us.any (eS x)=ns.any fun t=>deq (.str t) x
  | [],us,r=>by rw[List.map_nil] at r;cases r;rfl
  | n :: ns, us, r => by
    rw[List.map_cons] at r
    cases r with
    | cons r1 r2 =>
      obtain⟨t,e⟩:=(show ∃ t,_=Value.str n t from r1)
      subst e
      simp only[List.any_cons,qK x r2,eS]
theorem pQ:∀ {ns:List Str} {us:List Value},Vals (ns.map V.str) us->∀ y∈us,∃ j t,y=Value.str j t
  | [],us,r,y,hy=>by rw[List.map_nil] at r;cases r;simp at hy
  | n :: ns, us, r, y, hy => by
    rw[List.map_cons] at r
    cases r with
    | cons r1 r2 =>
      obtain⟨t,e⟩:=(show ∃ t,_=Value.str n t from r1)
      subst e
      rcases List.mem_cons.mp hy with rfl | hy
      · exact⟨n,t,rfl⟩
      · exact pQ r2 y hy
theorem CZ{pins:List (Addr×Obj)}{σ:St}{H:Hp}{s:Shared}{x:D}{ys:List D}{ns:List Str}{u v:V}{w z:Value}(I:Inv X pins σ H s)(A:Around)(hA:A.units+2<cLine)(hx:Rep X.K H x u)(hd:dep x<=50)(hv:Rep X.K H (.tup ys) v)(hn:oX ys=some ns)(ru:RelV u w)(rv:RelV v z) :
  (∀ (Q:Value->Shared->Prop) (E:Value->Shared->Prop),Q (.bool (ns.any fun t=>deq (.str t) x)) s->wpAny (model X.prog X.w) A (compareOp .In w z) Q E s)/\(∀ (Q:Value->Shared->Prop) (E:Value->Shared->Prop),Q (.bool (!ns.any fun t=>deq (.str t) x)) s->wpAny (model X.prog X.w) A (compareOp .NotIn w z) Q E s):=by
 obtain⟨a,vs,rfl,h1,h2⟩:=bF hv
 cases (show z=Value.ref a from rv)
 have e:=qH hn h2
 subst e
 obtain⟨its,r,p⟩:=isT I h1
 have he:∀ y,y∈its.toArray->EqAt A.in1 s y w (eS x y):=fun y hy=>by
  obtain⟨j,t',rfl⟩:=pQ r y (by simpa using hy)
  exact vB I (.str j) x (.str j) u (.str j t') w A.in1 (by simp[Rep]) hx ⟨t',rfl⟩ ru (by rw[fV];simp only[dep];omega) (by simp[dep]) (by omega)
 have ea:its.toArray.any (eS x)=ns.any fun t=>deq (.str t) x:=by
  rw[List.any_toArray];exact qK x r
 refine⟨fun Q E q=>in_tupleAt _ p he (by rw[ea];exact q),fun Q E q=>notIn_tupleAt _ p he (by rw[ea];exact q)⟩
theorem HX{x:D}{ys:List D}{b:Bool}(h:inT x ys=some b):(∃ i ns,x=.int i/\fU ys=some ns/\b=ns.any (· ==i))\/∃ ss,oX ys=some ss/\dep x<=50/\b=ss.any fun t=>deq (.str t) x:=by
 have hS:∀ {b},inS x ys=some b->∃ ss,oX ys=some ss/\dep x<=50/\b=ss.any fun t=>deq (.str t) x:=fun {b} h=>by
  unfold inS at h
  obtain⟨ss,h1,h2⟩:=Option.bind_eq_some_iff.mp h
  split at h2
  ·rename_i hd
   cases h2
   exact⟨ss,h1,by simpa using hd,rfl⟩
  ·cases h2
 unfold inT at h
 split at h
 ·rename_i i ns e1 e2
  cases x<;>simp[asI] at e1
  cases h
  subst e1
  exact .inl ⟨_,ns,rfl,e2,rfl⟩
 ·exact .inr (hS h)
theorem zQ{pins:List (Addr×Obj)}{σ:St}{H:Hp}{s:Shared}{x:D}{ys:List D}{b:Bool}{u v:V}{w z:Value}(I:Inv X pins σ H s)(A:Around)(hA:A.units+2<cLine)(hx:Rep X.K H x u)(hv:Rep X.K H (.tup ys) v)(h:inT x ys=some b)(ru:RelV u w)(rv:RelV v z) :
  (∀ (Q:Value->Shared->Prop) (E:Value->Shared->Prop),Q (.bool b) s->wpAny (model X.prog X.w) A (compareOp .In w z) Q E s)/\(∀ (Q:Value->Shared->Prop) (E:Value->Shared->Prop),Q (.bool (!b)) s->wpAny (model X.prog X.w) A (compareOp .NotIn w z) Q E s):=by
 rcases HX h with⟨i,ns,rfl,e1,rfl⟩ | ⟨ss,e1,e2,rfl⟩
 ·exact Dc I A (aA hx) hv e1 ru rv
 ·exact CZ I A hA hx e2 hv e1 ru rv
theorem nZ{pins:List (Addr×Obj)}{σ:St}{H:Hp}{s:Shared}{i:Int}{ys:List D}{ns:List Int}{u v:V}{w z:Value}(I:Inv X pins σ H s)(A:Around)(hu:u=.int i)(hv:Rep X.K H (.lst ys) v)(hn:fU ys=some ns)(ru:RelV u w)(rv:RelV v z) :
  ∀ (Q:Value->Shared->Prop) (E:Value->Shared->Prop),Q (.bool (!ns.any (· ==i))) s->wpAny (model X.prog X.w) A (compareOp .NotIn w z) Q E s:=by
 subst hu
 obtain⟨t,e⟩:=(show ∃ t,w=Value.int i t from ru)
 subst e
 obtain⟨a,vs,rfl,h1,h2⟩:=bw hv
 cases (show z=Value.ref a from rv)
 have e:=eU hn h2
 subst e
 obtain⟨its,r,p,_⟩:=I.list h1
 have he:∀ y,y∈its.toArray->EqAt A.in1 s y (.int i t) (match y with | .int j _=>j==i | _=>false):=fun y hy=>by
  obtain⟨j,t',rfl⟩:=kj r y (by simpa using hy)
  exact fun P w Q E q=>wpAny_eqBool_int q
 have ea:its.toArray.any (fun y=>match y with | .int j _=>j==i | _=>false)=ns.any (· ==i):=by
  rw[List.any_toArray];exact any_ints i r
 exact fun Q E q=>notIn_listAt _ p.isList he (by rw[ea];exact q)
theorem G8:OpR X (compareOp .Is) (fun x y H Q=>∃ a b,x=.bl a/\y=.bl b/\Q (.bl (a==b)) H):=by
 intro pins s σ H x y v u Q I rx ry h
 obtain⟨a,b,rfl,rfl,q⟩:=h
 cases (show v=Value.bool a from rx)
 cases (show u=Value.bool b from ry)
 cases a<;>cases b<;>exact wpAny_pure ⟨.bl _,H,I,rfl,q⟩
theorem Ce:OpR X (compareOp .IsNot) (fun x y H Q=>∃ a b,x=.bl a/\y=.bl b/\Q (.bl (!(a==b))) H):=by
 intro pins s σ H x y v u Q I rx ry h
 obtain⟨a,b,rfl,rfl,q⟩:=h
 cases (show v=Value.bool a from rx)
 cases (show u=Value.bool b from ry)
 cases a<;>cases b<;>exact wpAny_pure ⟨.bl _,H,I,rfl,q⟩
theorem jK(hr:Room k X.A)(op:CmpOp):OpR X (compareOp op) (Ko X op):=by
 intro pins s σ H u v w z Q I ru rv h
 obtain⟨Hs,x,y,d,hs,rx,ry,hc,b,rfl,q⟩:=h
 have rx':=Rep.same hs x u rx
 have ry':=Rep.same hs y v ry
 unfold cmpop at hc
 split at hc
 ·split at hc
  ·rename_i hd
   rw[Bool.and_eq_true,decide_eq_true_eq,decide_eq_true_eq] at hd
   cases hc
   exact(qy I X.A rx' ry' ru rv (by have:=hr.un;omega) (by omega) (by omega)).1 _ _ _ _ ⟨.bl _,H,I,rfl,q⟩
  ·cases hc
 ·split at hc
  ·rename_i hd
   rw[Bool.and_eq_true,decide_eq_true_eq,decide_eq_true_eq] at hd
   cases hc
   exact(qy I X.A rx' ry' ru rv (by have:=hr.un;omega) (by omega) (by omega)).2 _ _ _ _ ⟨.bl _,H,I,rfl,q⟩
  ·cases hc
 ·cases hc;exact Ky pins s σ H u v w z Q I ru rv ⟨_,_,aA rx,aA ry,q⟩
 ·cases hc;exact Kz pins s σ H u v w z Q I ru rv ⟨_,_,aA rx,aA ry,q⟩
 ·cases hc;exact KC pins s σ H u v w z Q I ru rv ⟨_,_,aA rx,aA ry,q⟩
 ·cases hc;exact KD pins s σ H u v w z Q I ru rv ⟨_,_,aA rx,aA ry,q⟩
 ·cases hc;rw[pZ rx] at q;exact G7 pins s σ H u v w z Q I ru rv ⟨jY ry,q⟩
 ·cases hc;rw[pZ rx] at q;exact Cd pins s σ H u v w z Q I ru rv ⟨jY ry,q⟩
 ·cases hc;exact G8 pins s σ H u v w z Q I ru rv ⟨_,_,cM rx,cM ry,q⟩
 ·cases hc;exact Ce pins s σ H u v w z Q I ru rv ⟨_,_,cM rx,cM ry,q⟩
 ·obtain⟨ns,hn,he⟩:=Option.map_eq_some_iff.mp hc
  cases he
  exact(zQ I X.A (by have:=hr.un;omega) rx' ry' hn ru rv).1 _ _ ⟨.bl _,H,I,rfl,q⟩
 ·obtain⟨ns,hn,he⟩:=Option.map_eq_some_iff.mp hc
  cases he
  exact(zQ I X.A (by have:=hr.un;omega) rx' ry' hn ru rv).2 _ _ ⟨.bl _,H,I,rfl,q⟩
 ·obtain⟨ns,hn,he⟩:=Option.map_eq_some_iff.mp hc
  cases he
  exact nZ I X.A (aA rx') ry' hn ru rv _ _ ⟨.bl _,H,I,rfl,q⟩
 ·cases hc
theorem z6{op:CmpOp}{x y d:D}(h:cmpop op x y=some d):∃ b,d=.bl b:=by
 unfold cmpop at h
 split at h<;>first | (cases h;exact⟨_,rfl⟩) | (obtain⟨_,_,rfl⟩:=Option.map_eq_some_iff.mp h;exact⟨_,rfl⟩) | (split at h<;>first | (cases h;exact⟨_,rfl⟩) | cases h) | cases h
theorem DG{a b:Expr}{op:CmpOp}{x y d:D}{pos:Pos}(hr:Room k X.A)(ha:Ev X ρ a x)(hb:Ev X ρ b y)(hm:aD b=true)(h:cmpop op x y=some d):Ev X ρ (.Compare a [op] [b] pos) d/\∀ c,d=.bl c->EvT X ρ (.Compare a [op] [b] pos) c:=by
 obtain⟨c,rfl⟩:=z6 h
 refine⟨dw ha hb (BR (jK hr op) ak ak (gU hm)) fun u v H Hs Q hs r1 r2 hq=>⟨Hs,x,y,_,hs,r1,r2,h,c,rfl,hq _ H Hs (.refl hs) (by simp[Rep])⟩,fun c' hc' σ H Hs Q hs hst hq=>?_⟩
 cases hc'
 refine(Bj (jK hr op) ak ak (gU hm)).sem (ha σ H Hs _ hs hst fun u H1 Hs1 E1 r1=>hb σ H1 Hs1 _ E1.sub (hst.same E1.vis) fun v H2 Hs2 E2 r2=>?_)
 exact⟨Hs2,x,y,_,E2.sub,Rep.same E2.vis x u r1,r2,h,c,rfl,c,rfl,hq H2 Hs2 (E1.trans E2)⟩
theorem uM{op op':CmpOp}{b c:Expr}(h:aD c=true):lastMarks [op,op'] [b,c]=false:=gU h
theorem vo{a b e:Expr}{op op':CmpOp}{x y d:D}{c:Bool}{pos:Pos}(hr:Room k X.A)(ha:Ev X ρ a x)(hb:Ev X ρ b y)(hm:aD e=true)(h:cmpop op x y=some (.bl c))(hd:(c=true->∃ z,Ev X ρ e z/\cmpop op' y z=some d)/\(c=false->d=.bl false)) :
    Ev X ρ (.Compare a [op,op'] [b,e] pos) d/\∀ c,d=.bl c->EvT X ρ (.Compare a [op,op'] [b,e] pos) c:=by
  have core:∀ σ H Hs Q,Same Hs H->bW X.K Hs ρ σ->(∀ v H' Hs',Ext Hs H Hs' H'->Rep X.K Hs' d v->Q v H')->sZ (Ko X op) (Ko X op') (nO X a) (nO X b) (nO X e) σ H Q:=by
    intro σ H Hs Q hs hst hq
    refine ha σ H Hs _ hs hst fun u H1 Hs1 E1 r1=>hb σ H1 Hs1 _ E1.sub (hst.same E1.vis) fun v H2 Hs2 E2 r2=>?_
    refine⟨Hs2,x,y,_,E2.sub,Rep.same E2.vis x u r1,r2,h,c,rfl,c,rfl,?_⟩
    cases c with
    | false=>rw[hd.2 rfl] at hq;exact yg (hq _ H2 Hs2 (E1.trans E2) (by simp[Rep]))
    | true =>
      obtain⟨z,hz,hc⟩:=hd.1 rfl
      obtain⟨c',rfl⟩:=z6 hc
      refine wF (hz σ H2 Hs2 _ E2.sub ((hst.same E1.vis).same E2.vis) fun w H3 Hs3 E3 r3=>?_)
      exact⟨Hs3,y,z,_,E3.sub,Rep.same E3.vis y v r2,r3,hc,c',rfl,hq _ H3 Hs3 (E1.trans (E2.trans E3)) (by simp[Rep])⟩
  refine⟨fun σ H Hs Q hs hst hq=>(xP (jK hr op) (jK hr op') ak ak ak (uM hm)).sem (core σ H Hs Q hs hst hq),fun c' hc' σ H Hs Q hs hst hq=>?_⟩
  subst hc'
  exact(w6 (jK hr op) (jK hr op') ak ak ak (uM hm)).sem (core σ H Hs _ hs hst fun v H' Hs' E1 r1=>⟨c',cM r1,hq H' Hs' E1⟩)
theorem Iu{c a b:Expr}{t:Bool}{d:D}{pos:Pos}(hc:EvT X ρ c t)(ha:t=true->Ev X ρ a d)(hb:t=false->Ev X ρ b d):Ev X ρ (.IfExp c a b pos) d:=fun σ H Hs Q hs hst hq =>
  (xO dY ak ak).sem (hc σ H Hs _ hs hst fun H1 Hs1 E1=>by
    cases t with
    | true=>exact wF (ha rfl σ H1 Hs1 Q E1.sub (hst.same E1.vis) fun v H' Hs' E2 r=>hq v H' Hs' (E1.trans E2) r)
    | false=>exact yg (hb rfl σ H1 Hs1 Q E1.sub (hst.same E1.vis) fun v H' Hs' E2 r=>hq v H' Hs' (E1.trans E2) r))
theorem zV{c a b:Expr}{t r:Bool}{pos:Pos}(hc:EvT X ρ c t)(ha:t=true->EvT X ρ a r)(hb:t=false->EvT X ρ b r):EvT X ρ (.IfExp c a b pos) r:=by
 intro σ H Hs Q hs hst hq pins s I
 refine isTrue_IfExp (thn (hc σ H Hs (fun b' H'=>b'=t/\∃ Hs',Ext Hs H Hs' H') hs hst (fun H1 Hs1 E1=>⟨rfl,Hs1,E1⟩) pins s I) fun b' s2 ⟨H2,I2,e2,Hs2,E2⟩=>?_)
 subst e2
 cases b' with
 | true=>exact wF (ha rfl σ H2 Hs2 Q E2.sub (hst.same E2.vis) (fun H' Hs' E3=>hq H' Hs' (E2.trans E3)) pins s2 I2)
 | false=>exact yg (hb rfl σ H2 Hs2 Q E2.sub (hst.same E2.vis) (fun H' Hs' E3=>hq H' Hs' (E2.trans E3)) pins s2 I2)
theorem fK{f:Expr->Option D}:∀ {es:List Expr} {ds:List D},(∀ e∈es,∀ d,f e=some d->Ev X ρ e d/\aD e=true)->kE f es=some ds->EvA X ρ es ds/\(∀ e∈es,aD e=true)
  | [], ds, _, h => by
    simp only[kE,Option.some.injEq] at h
    subst h
    exact⟨fun σ H Hs Q hs hst hq=>bN.sem (hq [] H Hs (.refl hs) .nil),fun e he=>absurd he (by simp)⟩
  | e :: es, ds, hf, h => by
    simp only[kE,bind,Option.bind] at h
    cases he:f e with
    | none=>rw[he] at h;cases h
    | some d =>
      rw[he] at h
      simp only at h
      cases hr:kE f es with
      | none=>rw[hr] at h;cases h
      | some dr =>
        rw[hr] at h
        simp only[Option.some.injEq] at h
        subst h
        obtain⟨h1,hp⟩:=hf e (by simp) d he
        obtain⟨h2,hps⟩:=fK (fun a ha=>hf a (List.mem_cons_of_mem _ ha)) hr
        refine⟨fun σ H Hs Q hs hst hq=>(aU ak cN (aj hp)).sem (h1 σ H Hs _ hs hst fun v H1 Hs1 E1 r1=>h2 σ H1 Hs1 _ E1.sub (hst.same E1.vis) fun vs H2 Hs2 E2 r2=>?_),fun a ha=>?_⟩
        · exact hq _ H2 Hs2 (E1.trans E2) (.cons (Rep.same E2.vis d v r1) r2)
        · rcases List.mem_cons.mp ha with rfl | ha
          · exact hp
          · exact hps a ha
theorem yx{es:List Expr}{ds:List D}{j:Nat}{pos:Pos}(h:EvA X ρ es ds)(hz:szl ds.length=true):Ev X ρ (.Tuple es j pos) (.tup ds):=fun σ H Hs Q hs hst hq =>
 (GP cN).sem (h σ H Hs _ hs hst fun vs H1 Hs1 E1 r1=>⟨by rw[<- r1.length];exact fj hz,fun p hp=>jf E1.sub r1 hp fun w H' Hs' E2 r2=>hq w H' Hs' (E1.trans E2) r2⟩)
theorem Dt{es:List Expr}{ds:List D}{pos:Pos}(h:EvA X ρ es ds)(hz:szl ds.length=true):Ev X ρ (.List es pos) (.lst ds):=fun σ H Hs Q hs hst hq =>
 (zB cN).sem (h σ H Hs _ hs hst fun vs H1 Hs1 E1 r1=>⟨by rw[<- r1.length];exact fj hz,fun p hp=>dZ E1.sub r1 hp fun w H' Hs' E2 r2=>hq w H' Hs' (E1.trans E2) r2⟩)
theorem mU(n:Nat)(i:Int):ixD n i=ixN n i:=rfl
theorem v9{K:PySem.W.Frag}{H:Hp}{ds:List D}{vs:List V}{i:Int}{d:D}(h:aL K H ds vs)(e:atD ds i=some d):∃ v,atI vs i=some v/\Rep K H d v:=by
  unfold atD at e
  rw[mU,h.length] at e
  cases q:ixN vs.length i with
  | none=>rw[q] at e;cases e
  | some j =>
    rw[q] at e
    obtain⟨v,h1,h2⟩:=h.get (i:=j) (d:=d) e
    exact⟨v,by unfold atI;rw[q];exact h1,h2⟩
theorem Bf{K:PySem.W.Frag}{H:Hp}{ks:List (Sum Int Str)}{ds:List D}{v:V}(h:Rep K H (.dic ks ds) v):∃ (a:Addr) (kvs:List (Key×V)),v=.ref a/\DAt K H a kvs/\kvs.map (·.1)=ks/\aL K H ds (kvs.map (·.2)):=by simpa[Rep] using h
theorem sO{K:PySem.W.Frag}{H:Hp}{k:Key}{d:D}:∀ {kvs:List (Key×V)} {ds:List D},aL K H ds (kvs.map (·.2))->Ey (kvs.map (·.1)) ds k=some d->∃ v,wA kvs k=some v/\Rep K H d v
  | [],ds,r,h=>by simp[Ey] at h
  | (k', v') :: kvs, ds, r, h => by
    cases ds with
    | nil=>simp[Ey] at h
    | cons d' ds =>
      simp only[List.map_cons,aL] at r
      obtain⟨v,rr,e,h2,h3⟩:=r
      cases e
      unfold Ey at h
      simp only[List.map_cons,List.zip_cons_cons,List.find?_cons] at h
      unfold wA
      rw[List.find?_cons]
      by_cases q:k'=k
      · simp only[q,decide_true] at h ⊢
        simp only[Option.map_some,Option.some.injEq] at h ⊢
        subst h
        exact⟨v',rfl,h2⟩
      · simp only[q,decide_false] at h ⊢
        exact sO h3 h
theorem uN{K:PySem.W.Frag}{H:Hp}{d:D}{v:V}{k:Key}(h:Fe d=some k)(r:Rep K H d v):v=kV k:=by
 cases d<;>simp[Fe] at h
 ·subst h;exact aA r
 ·subst h
  rename_i x
  have e:v=.str x:=by simpa[Rep] using r
  exact e
theorem Dw{a b:Expr}{ks:List (Sum Int Str)}{ds:List D}{y d:D}{k':Key}{pos:Pos}(kw:KnW X.K X.w)(ha:Ev X ρ a (.dic ks ds))(hb:Ev X ρ b y)(hp:aD b=true)(hk:Fe y=some k')(hd:Ey ks ds k'=some d):Ev X ρ (.Subscript a b pos) d:=by
 intro σ H Hs Q hs hst hq
 refine PE.sem (BK kw ak ak fun ov iv=>iG hp ov iv) (ha σ H Hs _ hs hst fun v H1 Hs1 E1 r1=>hb σ H1 Hs1 _ E1.sub (hst.same E1.vis) fun u H2 Hs2 E2 r2=>?_)
 have rdE:∀ {H1 H2:Hp} {a:Addr} {u:List (Key×V)},Same H1 H2->DAt X.K H1 a u->DAt X.K H2 a u:=fun e r=>r.elim (fun r=>.inl (r.elim (fun q=>.inl (e _ _ q)) fun⟨o,q⟩=>.inr ⟨o,e _ _ q⟩)) .inr
 obtain⟨p,kvs,rfl,h1,rfl,h3⟩:=Bf (Rep.same E2.vis _ v r1)
 obtain⟨w,h4,h5⟩:=sO h3 hd
 exact⟨p,w,kvs,k',rfl,rdE E2.sub h1,uN hk r2,h4.symm,hq w H2 Hs2 (E1.trans E2) h5⟩
theorem obd{α β:Type}{x:Option α}{f:α->Option β}{b:β}(h:(x >>=f)=some b):∃ a,x=some a/\f a=some b:=Option.bind_eq_some_iff.mp h
def J9(X:Cx):List (Option Expr)->List Expr->List (TE×TE)
 | some k::ks,v::vs=>(nO X k,nO X v)::J9 X ks vs
 | _,_=>[]
theorem jc{f:Expr->Option D}:∀ {ks:List (Option Expr)} {vs:List Expr} {l:List (Sum Int Str×D)} {pos:Pos},cX f ks vs=some l->PPs X pos ks vs (J9 X ks vs)/\ks.all (·.isSome)=true/\ks.length=vs.length/\l.length=ks.length
  | [],[],l,pos,h=>by simp only[cX,Option.some.injEq] at h;subst h;exact⟨Bo,rfl,rfl,rfl⟩
  | some k :: ks, v :: vs, l, pos, h => by
    simp only[cX] at h
    obtain⟨x,h1,h⟩:=obd h
    obtain⟨d,h2,h⟩:=obd h
    obtain⟨r,h3,h⟩:=obd h
    cases h
    obtain⟨a1,a2,a3,a4⟩:=jc (pos:=pos) h3
    exact⟨xq ak ak a1,by simpa using a2,by simp[a3],by simp[a4]⟩
  | [],_::_,l,pos,h=>by simp[cX] at h
  | none::ks,vs,l,pos,h=>by cases vs<;>simp[cX] at h
  | some k::ks,[],l,pos,h=>by simp[cX] at h
def fC(K:PySem.W.Frag)(H:Hp)(l:List (Sum Int Str×D))(kvs:List (Key×V)):Prop:=kvs.map (·.1)=l.map (·.1)/\aL K H (l.map (·.2)) (kvs.map (·.2))
theorem fC.nil{K:PySem.W.Frag}{H:Hp}:fC K H [] []:=⟨rfl,.nil⟩
theorem fC.cons{K:PySem.W.Frag}{H:Hp}{l:List (Sum Int Str×D)}{kvs:List (Key×V)}{k:Key}{d:D}{v:V}(h:Rep K H d v)(r:fC K H l kvs):fC K H ((k,d)::l) ((k,v)::kvs):=⟨by simp[r.1],.cons h r.2⟩
theorem fC.inv{K:PySem.W.Frag}{H:Hp}{k:Key}{d:D}{l:List (Sum Int Str×D)}{kvs:List (Key×V)}(r:fC K H ((k,d)::l) kvs):∃ v kvs',kvs=(k,v)::kvs'/\Rep K H d v/\fC K H l kvs':=by
  obtain⟨r1,r2⟩:=r
  cases kvs with
  | nil=>simp at r1
  | cons q kvs =>
    obtain⟨k',v⟩:=q
    simp only[List.map_cons,List.cons.injEq] at r1
    simp only[List.map_cons,aL] at r2
    obtain⟨v',rr,e,h2,h3⟩:=r2
    cases e
    exact⟨v,kvs,by rw[r1.1],h2,r1.2,h3⟩
theorem fC.nil_inv{K:PySem.W.Frag}{H:Hp}{kvs:List (Key×V)}(r:fC K H [] kvs):kvs=[]:=by
 have:=r.1
 simpa using this
theorem fC.any{K:PySem.W.Frag}{H:Hp}(k:Key):∀ {l:List (Sum Int Str×D)} {kvs:List (Key×V)},fC K H l kvs->(l.any fun q=>decide (q.1=k))=kvs.any fun q=>decide (q.1=k)
  | [],kvs,r=>by rw[r.nil_inv];rfl
  | (k', d) :: l, kvs, r => by
    obtain⟨v,kvs',rfl,_,r'⟩:=r.inv
    simp only[List.any_cons,fC.any k r']
theorem fC.repl{K:PySem.W.Frag}{H:Hp}{k:Key}{d:D}{v:V}(hd:Rep K H d v):∀ {l:List (Sum Int Str×D)} {kvs:List (Key×V)},fC K H l kvs->fC K H (l.map fun q=>if q.1=k then(q.1,d) else q) (kvs.map fun q=>if q.1=k then(q.1,v) else q)
  | [],kvs,r=>by rw[r.nil_inv];exact .nil
  | (k', d') :: l, kvs, r => by
    obtain⟨v',kvs',rfl,h,r'⟩:=r.inv
    simp only[List.map_cons]
    by_cases q:k'=k
    · rw[if_pos q,if_pos q];exact .cons hd (fC.repl hd r')
    · rw[if_neg q,if_neg q];exact .cons h (fC.repl hd r')
theorem fC.snoc{K:PySem.W.Frag}{H:Hp}{k:Key}{d:D}{v:V}(hd:Rep K H d v):∀ {l:List (Sum Int Str×D)} {kvs:List (Key×V)},fC K H l kvs->fC K H (l++[(k,d)]) (kvs++[(k,v)])
  | [],kvs,r=>by rw[r.nil_inv];exact .cons hd .nil
  | (k', d') :: l, kvs, r => by
    obtain⟨v',kvs',rfl,h,r'⟩:=r.inv
    exact .cons h (fC.snoc hd r')
theorem fC.put{K:PySem.W.Frag}{H:Hp}{k:Key}{d:D}{v:V}{l:List (Sum Int Str×D)}{kvs:List (Key×V)}(hd:Rep K H d v)(r:fC K H l kvs):fC K H (putD l k d) (putK kvs k v):=by
 unfold putD putK
 rw[r.any k]
 split
 ·exact r.repl hd
 ·exact r.snoc hd
theorem fC.mrg{K:PySem.W.Frag}{H:Hp}:∀ {l:List (Sum Int Str×D)} {kvs:List (Key×V)} {a:List (Sum Int Str×D)} {b:List (Key×V)},fC K H l kvs->fC K H a b->fC K H (l.foldl (fun a q=>putD a q.1 q.2) a) (gb b kvs)
  | [],kvs,a,b,r,r2=>by rw[r.nil_inv];exact r2
  | (k', d') :: l, kvs, a, b, r, r2 => by
    obtain⟨v',kvs',rfl,h,r'⟩:=r.inv
    exact fC.mrg (l:=l) (kvs:=kvs') r' (r2.put h)
theorem jJ{f:Expr->Option D}(hf:∀ e d,f e=some d->Ev X ρ e d):∀ {ks:List (Option Expr)} {vs:List Expr} {l:List (Sum Int Str×D)},cX f ks vs=some l->∀ σ H Hs (Q:List (V×V)->Hp->Prop),Same Hs H->bW X.K Hs ρ σ ->
    (∀ kvs H' Hs',Ext Hs H Hs' H'->fC X.K Hs' l kvs->Q (kvs.map fun q=>(kV q.1,q.2)) H')->pq (J9 X ks vs) σ H Q
  | [], [], l, h, σ, H, Hs, Q, hs, hst, hq => by
    simp only[cX,Option.some.injEq] at h;subst h
    exact hq [] H Hs (.refl hs) .nil
  | some k :: ks, v :: vs, l, h, σ, H, Hs, Q, hs, hst, hq => by
    simp only[cX] at h
    obtain⟨x,h1,h⟩:=obd h
    obtain⟨d,h2,h⟩:=obd h
    obtain⟨r,h3,h⟩:=obd h
    cases h
    obtain⟨kd,h4,h5⟩:=obd (show(f k >>=Fe)=some x from h1)
    refine hf _ _ h4 σ H Hs _ hs hst fun u H1 Hs1 E1 r1=>hf _ _ h2 σ H1 Hs1 _ E1.sub (hst.same E1.vis) fun w H2 Hs2 E2 r2=>?_
    refine jJ hf h3 σ H2 Hs2 _ E2.sub ((hst.same E1.vis).same E2.vis) fun kvs H3 Hs3 E3 r3=>?_
    have:=hq ((x,w)::kvs) H3 Hs3 (E1.trans (E2.trans E3)) (.cons (Rep.same E3.vis _ _ r2) r3)
    rw[List.map_cons,<- uN h5 r1] at this
    exact this
  | [],_::_,l,h,_,_,_,_,_,_,_=>by simp[cX] at h
  | none::ks,vs,l,h,_,_,_,_,_,_,_=>by cases vs<;>simp[cX] at h
  | some k::ks,[],l,h,_,_,_,_,_,_,_=>by simp[cX] at h
theorem Dy{f:Expr->Option D}{ks:List (Option Expr)}{vs:List Expr}{l:List (Sum Int Str×D)}{pos:Pos}(hf:∀ e d,f e=some d->Ev X ρ e d)(h0:ks.isEmpty=false)(h15:ks.length<=15)(h:cX f ks vs=some l):Ev X ρ (.Dict ks vs pos) (DW (Wq l)):=by
  intro σ H Hs Q hs hst hq
  obtain⟨a1,a2,a3,a4⟩:=jc (X:=X) (pos:=pos) h
  refine PE.sem (BP a1 a2 a3 (by intro e;rw[e] at h0;simp at h0) h15) fun p hp=>?_
  have Hn:Hs p=none:=by
    cases e:Hs p with
    | none=>rfl
    | some u=>rw[hs _ _ e] at hp;cases hp
  have hs1:Same Hs (upd H p (.dK [])):=fun b u e=>by rw[aM (aJ e Hn)];exact hs b u e
  refine jJ hf h σ _ Hs _ hs1 hst fun kvs H' Hs' E r=>?_
  have hH':H' p=some (.dK []):=E.all _ _ aQ
  have Hn':Hs' p=none:=E.hid _ _ aQ Hn
  have hz:kvs.length=l.length:=by have:=congrArg List.length r.1;simpa using this
  refine⟨hH',kvs,rfl,by omega,?_⟩
  have E2:Ext Hs H (upd Hs' p (.dK (gb [] kvs))) (upd H' p (.dK (gb [] kvs))) :=
    { vis := fun b u e => by rw [aM (aJ e Hn)]; exact E.vis b u e
      all:=fun b u e=>by rw[aM (aJ e hp)];exact E.all b u (by rw[aM (aJ e hp)];exact e)
      sub:=fun b u e=>by
        by_cases hb:b=p
        · subst hb;rw[aQ] at e ⊢;exact e
        · rw[aM hb] at e ⊢;exact E.sub b u e
      hid:=fun b u e n=>by rw[aM (aJ e hp)];exact E.hid b u (by rw[aM (aJ e hp)];exact e) n }
  refine hq _ _ _ E2 ?_
  have r2:=fC.mrg (a:=[]) (b:=[]) r .nil
  simp only[DW,Rep]
  refine⟨p,gb [] kvs,rfl,.inl (.inl aQ),r2.1,aL.same (fun b u e=>?_) _ _ r2.2⟩
  rw[aM (aJ e Hn')];exact e
theorem qt{a b:Expr}{x d:D}{i:Int}{xs:List D}{pos:Pos}(ha:Ev X ρ a x)(hb:Ev X ρ b (.int i))(hp:aD b=true)(hx:items x=some xs)(hd:atD xs i=some d):Ev X ρ (.Subscript a b pos) d:=by
  cases x with
  | tup ys =>
    simp only[items,Option.some.injEq] at hx
    subst hx
    refine dw ha hb (BL HW ak ak (iG hp)) fun u v H Hs Q hs r1 r2 hq=>?_
    obtain⟨p,vs,rfl,h1,h2⟩:=bF r1
    obtain⟨w,h3,h4⟩:=v9 h2 hd
    exact⟨p,vs,i,w,rfl,aA r2,hs.tup h1,h3,hq w H Hs (.refl hs) h4⟩
  | lst ys =>
    simp only[items,Option.some.injEq] at hx
    subst hx
    refine dw ha hb (BL uT ak ak (iG hp)) fun u v H Hs Q hs r1 r2 hq=>?_
    obtain⟨p,vs,rfl,h1,h2⟩:=bw r1
    obtain⟨w,h3,h4⟩:=v9 h2 hd
    exact⟨p,vs,i,w,rfl,aA r2,hs.seq h1,h3,hq w H Hs (.refl hs) h4⟩
  | _=>simp[items] at hx
theorem gP(n d:Nat)(o:Option Int):fQ n d o=HT.sIx n d o:=by cases o<;>rfl
theorem vM{K:PySem.W.Frag}{H:Hp}{ds:List D}{vs:List V}(lo hi:Option Int)(h:aL K H ds vs):aL K H (lE ds lo hi) (zZ vs lo hi):=by
 unfold lE zZ
 rw[gP,gP,h.length]
 exact(h.drop _).take _
def EvO(X:Cx)(ρ:Rho)(e:Option Expr)(o:Option Int):Prop:=∃ t:TO,PO X e t/\∀ σ H Hs Q,Same Hs H->bW X.K Hs ρ σ->(∀ H' Hs',Ext Hs H Hs' H'->Q o H')->t σ H Q
theorem yI:EvO X ρ none none:=⟨_,Bq,fun σ H Hs Q hs hst hq=>hq H Hs (.refl hs)⟩
theorem yH{e:Expr}{i:Int}(h:Ev X ρ e (.int i)):EvO X ρ (some e) (some i):=⟨_,Bp ak,fun σ H Hs Q hs hst hq=>h σ H Hs _ hs hst fun v H' Hs' E1 r1=>⟨i,aA r1,hq H' Hs' E1⟩⟩
theorem yD{a:Expr}{lo hi:Option Expr}{l u:Option Int}{xs:List D}{p2 pos:Pos}(ha:Ev X ρ a (.tup xs))(hl:EvO X ρ lo l)(hu:EvO X ρ hi u)(hw:¬ (fQ xs.length 0 l=0/\fQ xs.length xs.length u=xs.length)) :
  Ev X ρ (.Subscript a (.Slice lo hi none p2) pos) (.tup (lE xs l u)):=by
 obtain⟨tl,pl,ql⟩:=hl
 obtain⟨tu,pu,qu⟩:=hu
 intro σ H Hs Q hs hst hq
 refine(j5 Gh ak pl pu).sem (ha σ H Hs _ hs hst fun v H1 Hs1 E1 r1=>ql σ H1 Hs1 _ E1.sub (hst.same E1.vis) fun H2 Hs2 E2=>qu σ H2 Hs2 _ E2.sub ((hst.same E1.vis).same E2.vis) fun H3 Hs3 E3=>?_)
 obtain⟨p,vs,rfl,h1,h2⟩:=bF (Rep.same (E2.trans E3).vis _ _ r1)
 refine⟨p,vs,rfl,E3.sub.tup h1,?_,fun q hq'=>jf E3.sub (vM l u h2) hq' fun w H' Hs' E4 r4=>hq w H' Hs' (E1.trans (E2.trans (E3.trans E4))) r4⟩
 rw[gP,gP,h2.length] at hw
 exact hw
theorem vg{a:Expr}{lo hi:Option Expr}{l u:Option Int}{xs:List D}{p2 pos:Pos}(ha:Ev X ρ a (.tup xs))(hl:EvO X ρ lo l)(hu:EvO X ρ hi u)(hw:fQ xs.length 0 l=0/\fQ xs.length xs.length u=xs.length) :
  Ev X ρ (.Subscript a (.Slice lo hi none p2) pos) (.tup xs):=by
 obtain⟨tl,pl,ql⟩:=hl
 obtain⟨tu,pu,qu⟩:=hu
 intro σ H Hs Q hs hst hq
 refine(j5 Ay ak pl pu).sem (ha σ H Hs _ hs hst fun v H1 Hs1 E1 r1=>ql σ H1 Hs1 _ E1.sub (hst.same E1.vis) fun H2 Hs2 E2=>qu σ H2 Hs2 _ E2.sub ((hst.same E1.vis).same E2.vis) fun H3 Hs3 E3=>?_)
 have r3:=Rep.same (E2.trans E3).vis _ _ r1
 obtain⟨p,vs,rfl,h1,h2⟩:=bF r3
 refine⟨p,vs,rfl,E3.sub.tup h1,?_,hq _ H3 Hs3 (E1.trans (E2.trans E3)) r3⟩
 rw[gP,gP,h2.length] at hw
 exact hw
theorem Bd{x d:D}{lo hi:Option Expr}{oi:Option Int}(h:Ka x lo hi oi=some d):lo=none/\hi=none/\oi=some (-1)/\∃ us,x=.lst us/\d=.lst us.reverse:=by
 unfold Ka at h
 split at h
 ·split at h
  ·rename_i i q
   cases h
   have e:i=(-1:Int):=by simpa using q
   subst e
   exact⟨rfl,rfl,rfl,_,rfl,rfl⟩
  ·cases h
 ·cases h
theorem aL.rev{K:PySem.W.Frag}{H:Hp}:∀ {ds:List D} {vs:List V},aL K H ds vs->aL K H ds.reverse vs.reverse
  | [], vs, h => by
    have:vs=[]:=by simpa[aL] using h
    subst this
    simpa[aL] using h
  | d :: ds, vs, h => by
    simp only[aL] at h
    obtain⟨w,r,rfl,h1,h2⟩:=h
    rw[List.reverse_cons,List.reverse_cons]
    exact(aL.rev h2).append (.cons h1 .nil)
theorem Dp{a c:Expr}{us:List D}{p2 pos:Pos}(ha:Ev X ρ a (.lst us))(hc:Ev X ρ c (.int (-1))):Ev X ρ (.Subscript a (.Slice none none (some c) p2) pos) (.lst us.reverse):=by
 intro σ H Hs Q hs hst hq
 refine(Bx ak ak).sem (ha σ H Hs _ hs hst fun u H1 Hs1 E1 r1=>hc σ H1 Hs1 _ E1.sub (hst.same E1.vis) fun v H2 Hs2 E2 r2=>?_)
 obtain⟨p,ws,rfl,g1,g2⟩:=bw (Rep.same E2.vis _ _ r1)
 exact⟨p,ws,rfl,aA r2,E2.sub.seq g1,fun q hq'=>dZ E2.sub g2.rev hq' fun w H' Hs' E r=>hq w H' Hs' ((E1.trans E2).trans E) r⟩
theorem vh{a:Expr}{lo hi:Option Expr}{l u:Option Int}{xs:List D}{p2 pos:Pos}(ha:Ev X ρ a (.lst xs))(hl:EvO X ρ lo l)(hu:EvO X ρ hi u) :
  Ev X ρ (.Subscript a (.Slice lo hi none p2) pos) (.lst (lE xs l u)):=by
 obtain⟨tl,pl,ql⟩:=hl
 obtain⟨tu,pu,qu⟩:=hu
 intro σ H Hs Q hs hst hq
 refine(j5 Az ak pl pu).sem (ha σ H Hs _ hs hst fun v H1 Hs1 E1 r1=>ql σ H1 Hs1 _ E1.sub (hst.same E1.vis) fun H2 Hs2 E2=>qu σ H2 Hs2 _ E2.sub ((hst.same E1.vis).same E2.vis) fun H3 Hs3 E3=>?_)
 obtain⟨p,vs,rfl,h1,h2⟩:=bw (Rep.same (E2.trans E3).vis _ _ r1)
 exact⟨p,vs,rfl,E3.sub.seq h1,fun q hq'=>dZ E3.sub (vM l u h2) hq' fun w H' Hs' E4 r4=>hq w H' Hs' (E1.trans (E2.trans (E3.trans E4))) r4⟩
theorem DK{f:Str}{es:List Expr}{ds:List D}{d:D}{p pos:Pos}(G:Good cx k X sc)(hg:Gl X f)(hf:cx.fns.contains f=true)(hne:es≠[])(h:EvA X ρ es ds)(hp:∀ e∈es,aD e=true)(hc:cx.call f ds=some d) :
    Ev X ρ (.Call (.Name f p) es [] pos) d:=by
  obtain⟨hdb,a,fd,ps,har,_,hm,hk,hb,F⟩:=G.fns f hf
  cases es with
  | nil=>exact absurd rfl hne
  | cons e es =>
    intro σ H Hs Q hs hst hq
    refine(BW F G.room hg hm hk hb .nil Kw cN hdb (aj (hp e (by simp))) (fW fun e' he=>hp e' (List.mem_cons_of_mem _ he))).sem (h σ H Hs _ hs hst fun vs H1 Hs1 E1 r1=>?_)
    refine⟨?_,Hs1,ds,E1.sub,?_,.inl ⟨d,hc,fun v H' Hs' E2 r2=>hq v H' Hs' (E1.trans E2) r2⟩⟩
    · rw[List.append_nil,<- r1.length,har ds d hc]
    · rw[List.append_nil];exact r1
def Jl(X:Cx)(f:Value):List V->Hp->VK->Prop:=fun vs H Q=>∀ pins s σ us,Inv X pins σ H s->Vals vs us->wpAny (model X.prog X.w) X.A (call f us) (EP X pins σ Q) X.xe s
theorem cG{f:Value}:cU X f (Jl X f):=fun pins s σ H xs us Q I r h=>h pins s σ us I r
theorem cU.sem{f:Value}{r:List V->Hp->VK->Prop}{vs:List V}{H:Hp}{Q:VK}(h:cU X f r)(q:r vs H Q):Jl X f vs H Q:=fun pins s σ us I rv=>h pins s σ H vs us Q I rv q
def EvC(X:Cx)(f:Value)(ds:List D)(d:D):Prop:=∀ vs H Hs Q,Same Hs H->aL X.K Hs ds vs->(∀ v H' Hs',Ext Hs H Hs' H'->Rep X.K Hs' d v->Q v H')->Jl X f vs H Q
theorem mC{K:PySem.W.Frag}{H:Hp}{d:D}{vs:List V}(h:aL K H [d] vs):∃ v,vs=[v]/\Rep K H d v:=by
 simp only[aL] at h
 obtain⟨v,r,rfl,h1,h2⟩:=h
 subst h2
 exact⟨v,rfl,h1⟩
theorem Gq{K:PySem.W.Frag}{H:Hp}{d e:D}{vs:List V}(h:aL K H [d,e] vs):∃ v w,vs=[v,w]/\Rep K H d v/\Rep K H e w:=by
 simp only[aL] at h
 obtain⟨v,r,rfl,h1,w,r2,rfl,h2,h3⟩:=h
 subst h3
 exact⟨v,w,rfl,h1,h2⟩
theorem iR{K:PySem.W.Frag}{H:Hp}{d:D}{l:List D}{v:V}(h:Rep K H d v)(e:items d=some l):∃ a vs,v=.ref a/\(SqL K H a vs\/SqT K H a vs)/\aL K H l vs:=by
 cases d with
 | tup xs=>simp only[items,Option.some.injEq] at e;subst e;obtain⟨a,vs,e1,e2,e3⟩:=bF h;exact⟨a,vs,e1,.inr e2,e3⟩
 | lst xs=>simp only[items,Option.some.injEq] at e;subst e;obtain⟨a,vs,e1,e2,e3⟩:=bw h;exact⟨a,vs,e1,.inl e2,e3⟩
 | _=>simp[items] at e
theorem qJ{K:PySem.W.Frag}{H:Hp}:∀ {ds:List D} {bs:List Bool} {vs:List V},oY ds=some bs->aL K H ds vs->vs=bs.map V.bl
  | [], ns, vs, h, r => by
    simp only[oY,Option.some.injEq] at h;subst h
    simpa[aL] using r
  | .bl i :: ds, ns, vs, h, r => by
    simp only[oY,Option.map_eq_some_iff] at h
    obtain⟨ms,h1,rfl⟩:=h
    simp only[aL] at r
    obtain⟨v,r',rfl,h2,h3⟩:=r
    rw[cM h2,qJ h1 h3]
    rfl
  | .non::ds,ns,vs,h,r=>by simp[oY] at h
  | .int _::ds,ns,vs,h,r=>by simp[oY] at h
  | .str _::ds,ns,vs,h,r=>by simp[oY] at h
  | .tup _::ds,ns,vs,h,r=>by simp[oY] at h
  | .lst _::ds,ns,vs,h,r=>by simp[oY] at h
  | .exc _::ds,ns,vs,h,r=>by simp[oY] at h
  | .dic _ _::ds,ns,vs,h,r=>by simp[oY] at h
theorem jx:∀ {bs:List Bool} {us:List Value},Vals (bs.map V.bl) us->LSm.BoolsAre us bs
  | [],us,r=>by rw[List.map_nil] at r;cases r;exact .nil
  | b :: bs, us, r => by
    rw[List.map_cons] at r
    cases r with
    | cons r1 r2 =>
      cases (show _=Value.bool b from r1)
      exact .cons b (jx r2)
theorem vU(hc:X.calm=true):cU X (.builtin "sum") (fun xs H Q=>∃ (p:Addr) (ns:List Int),xs=[.ref p]/\SqL X.K H p (ns.map V.int)/\Q (.int ns.sum) H):=by
 intro pins s σ H xs us Q I r h
 obtain⟨p,ns,rfl,hq,q⟩:=h
 obtain⟨u,rfl,rx⟩:=vals1 r
 cases (show u=Value.ref p from rx)
 obtain⟨its,r',pl,hz⟩:=I.list hq
 have hi:=intsAre_of r'
 obtain⟨zs,hx⟩:=hi.allInts.items
 have hl':s.heap.IsList p (intItems zs):=hx▸pl.isList
 refine sum_intListG (I.ok.hd hc) hl' fun h' tk t' hk=>⟨.int ns.sum,H,I.kept hk,⟨t',?_⟩,q⟩
 have e1:ns=zs.toList.map (·.1):=by
  rw[<- nums_intItems,<- hx]
  exact(show numsOf its.toArray.toList=ns from hi.numsOf).symm
 rw[preSum_eq,List.take_of_length_le (by simp),e1]
theorem vX(hc:X.calm=true):cU X (.builtin "all") (fun xs H Q=>∃ (p:Addr) (bs:List Bool),xs=[.ref p]/\SqL X.K H p (bs.map V.bl)/\Q (.bl (bs.all id)) H):=by
 intro pins s σ H xs us Q I r h
 obtain⟨p,bs,rfl,hq,q⟩:=h
 obtain⟨u,rfl,rx⟩:=vals1 r
 cases (show u=Value.ref p from rx)
 obtain⟨its,r',pl,hz⟩:=I.list hq
 have hb:=jx r'
 have hl:=pl.isList
 have hlt:p<s.heap.objs.size:=by obtain⟨_,e,_⟩:=hl;exact Heap.lt_size e
 refine call_all_walk (wpAny_pyIter_list hl ⟨s.heap.objs.size,[s.heap.objs.size,p],[s.heap.objs.size],its.toArray.size,_,_,fun i=>(bs[i]?).getD true,rfl,Walks.list (A:=X.A.in1) (I.ok.hd hc) _ p (Nat.ne_of_lt hlt) its.toArray,⟨⟨_,Heap.get?_push_size _ rfl,rfl,rfl⟩,hl.push _⟩,fun i v s' Q' E' hP hQ=>?_,fun h' tk hk=>?_⟩)
 ·obtain⟨b,e,rfl⟩:=hb.get i v (by simpa using hP)
  simp only[e,Option.getD_some] at hQ
  exact wpAny_truthy_bool hQ
 ·have e:((List.range its.toArray.size).all fun i=>(bs[i]?).getD true)=bs.all id:=by rw[List.size_toArray,hb.length];exact LSm.range_all bs
  rw[e]
  exact⟨.bl _,H,I.kept (LSm.kept_iter hk),rfl,q⟩
theorem Dm{d0:D}{l:List D}(hl:items d0=some l):EvC X (.type "tuple") [d0] (.tup l):=by
  intro vs H Hs Q hs hr hq
  obtain⟨v,rfl,r1⟩:=mC hr
  refine cU.sem lH ?_
  cases d0 with
  | tup xs =>
    simp only[items,Option.some.injEq] at hl;subst hl
    obtain⟨a,us,rfl,h1,h2⟩:=bF r1
    exact⟨a,us,rfl,.inr ⟨hs.tup h1,hq _ H Hs (.refl hs) r1⟩⟩
  | lst xs =>
    simp only[items,Option.some.injEq] at hl;subst hl
    obtain⟨a,us,rfl,h1,h2⟩:=bw r1
    exact⟨a,us,rfl,.inl ⟨hs.seq h1,fun p hp=>jf hs h2 hp hq⟩⟩
  | _=>simp[items] at hl
def Wy:String->Value
 | "tuple"=>.type "tuple"
 | "list"=>.type "list"
 | "int"=>.type "int"
 | b=>.builtin b
theorem Iw{b:String}{ds:List D}{d:D}(hc:X.calm=true)(h:DE.blt b ds=some d):EvC X (Wy b) ds d:=by
 intro vs H Hs Q hs hr hq
 unfold DE.blt at h
 split at h
 ·simp only[bind,Option.bind] at h
  split at h
  ·cases h
  ·rename_i l hl
   cases h
   obtain⟨v,rfl,r1⟩:=mC hr
   obtain⟨a,us,rfl,h1,h2⟩:=iR r1 hl
   refine cU.sem nq ⟨a,us,rfl,h1.imp hs.seq hs.tup,?_⟩
   rw[<- h2.length]
   exact hq _ H Hs (.refl hs) (by simp[Rep])
 ·simp only[bind,Option.bind] at h
  split at h
  ·cases h
  ·rename_i l hl
   cases h
   obtain⟨v,rfl,r1⟩:=mC hr
   obtain⟨a,us,rfl,h1,h2⟩:=bw r1
   have e:=qJ hl h2
   subst e
   exact cU.sem (vX hc) ⟨a,_,rfl,hs.seq h1,hq _ H Hs (.refl hs) (by simp[Rep])⟩
 ·simp only[bind,Option.bind] at h
  split at h
  ·cases h
  ·rename_i l hl
   cases h
   obtain⟨v,rfl,r1⟩:=mC hr
   obtain⟨a,us,rfl,h1,h2⟩:=bw r1
   have e:=eU hl h2
   subst e
   exact cU.sem (vU hc) ⟨a,_,rfl,hs.seq h1,hq _ H Hs (.refl hs) (by simp[Rep])⟩
 ·simp at h
 ·simp only[bind,Option.bind] at h
  split at h
  ·cases h
  ·rename_i l hl
   cases h
   exact Dm hl vs H Hs Q hs hr hq
 ·simp only[bind,Option.bind] at h
  split at h
  ·cases h
  ·rename_i l hl
   cases h
   obtain⟨v,rfl,r1⟩:=mC hr
   obtain⟨a,us,rfl,h1,h2⟩:=iR r1 hl
   exact cU.sem iw ⟨a,us,rfl,h1.imp hs.seq hs.tup,fun p hp=>dZ hs h2 hp hq⟩
 ·simp at h
 ·simp at h
 ·simp at h
 ·simp at h
 ·simp at h
 ·cases h
  obtain⟨v,w,rfl,r1,r2⟩:=Gq hr
  exact cU.sem (vV hc) ⟨_,_,by rw[aA r1,aA r2],hq _ H Hs (.refl hs) (by simp[Rep])⟩
 ·simp at h
 ·cases h
  obtain⟨v,rfl,r1⟩:=mC hr
  exact cU.sem yQ ⟨_,by rw[aA r1],hq _ H Hs (.refl hs) (by simp[Rep])⟩
 ·cases h
  obtain⟨v,rfl,r1⟩:=mC hr
  exact cU.sem nA (.inr ⟨_,by rw[cM r1],hq _ H Hs (.refl hs) (by simp[Rep,DE.b2i])⟩)
 ·cases h
  obtain⟨v,rfl,r1⟩:=mC hr
  exact cU.sem nA (.inl ⟨_,by rw[aA r1],hq _ H Hs (.refl hs) (by simp[Rep])⟩)
 ·cases h
end
end L2
namespace L2
open PySem PySem.Spec PyProof.Rows DE PySem.SeqAt
section
variable {X:Cx} {ρ:Rho} {cx:Cxt} {k:Nat} {sc:Scope}
theorem aZ{x:Str}{b:String}(G:Good cx k X sc)(h:aY cx sc x=some b):Gl X x/\X.mg x=none/\x=Str.ofString b:=by
 unfold aY yh at h
 split at h
 ·rename_i hg
  have e:sc.names.lookup x=some .globalImplicit:=by simpa using hg
  refine⟨?_,G.blt x b h⟩
  show X.env.scope.names.lookup x=_
  rw[G.sce,e]
 ·cases h
theorem vY{b:String}{ds:List D}{d:D}(h:DE.blt b ds=some d):b="len"\/b="all"\/b="sum"\/b="tuple"\/b="list"\/b="min"\/b="max"\/b="abs"\/b="int"\/b="any":=by
 unfold DE.blt at h
 split at h<;>first | (simp;done) | cases h
theorem yG{x:Str}{b:String}{e:Expr}{es:List Expr}{ds:List D}{d:D}{p pos:Pos}(G:Good cx k X sc)(hx:aY cx sc x=some b)(h:EvA X ρ (e::es) ds)(hp:∀ a∈e::es,aD a=true)(hd:DE.blt b ds=some d) :
  Ev X ρ (.Call (.Name x p) (e::es) [] pos) d:=by
 obtain⟨hg,hm,rfl⟩:=aZ G hx
 have c:=Iw (X:=X) G.calm hd
 have s1:=aj (env:=X.env) (es:=es) (hp e (by simp))
 have s2:=fW (env:=X.env) (pos:=pos) fun a ha=>hp a (List.mem_cons_of_mem _ ha)
 have fin:∀ f:Value,Wy b=f->PE X (.Call (.Name (Str.ofString b) p) (e::es) [] pos) (tCB (Jl X f) (wQ X (e::es)))->Ev X ρ (.Call (.Name (Str.ofString b) p) (e::es) [] pos) d:=by
  intro f hf hpe σ H Hs Q hs hst hq
  rw[hf] at c
  refine hpe.sem (h σ H Hs _ hs hst fun vs H1 Hs1 E1 r1=>?_)
  exact c vs H1 Hs1 Q E1.sub r1 fun v H' Hs' E2 r2=>hq v H' Hs' (E1.trans E2) r2
 rcases vY hd with rfl | rfl | rfl | rfl | rfl | rfl | rfl | rfl | rfl | rfl
 ·exact fin (.builtin "len") rfl (cP cG hg hm (by decide +kernel) cN (by decide) (by decide) s1 s2)
 ·exact fin (.builtin "all") rfl (cP cG hg hm (by decide +kernel) cN (by decide) (by decide) s1 s2)
 ·exact fin (.builtin "sum") rfl (cP cG hg hm (by decide +kernel) cN (by decide) (by decide) s1 s2)
 ·exact fin (.type "tuple") rfl (f9 cG hg hm (by decide +kernel) cN (by decide) (by decide) s1 s2)
 ·exact fin (.type "list") rfl (f9 cG hg hm (by decide +kernel) cN (by decide) (by decide) s1 s2)
 ·exact fin (.builtin "min") rfl (cP cG hg hm (by decide +kernel) cN (by decide) (by decide) s1 s2)
 ·exact fin (.builtin "max") rfl (cP cG hg hm (by decide +kernel) cN (by decide) (by decide) s1 s2)
 ·exact fin (.builtin "abs") rfl (cP cG hg hm (by decide +kernel) cN (by decide) (by decide) s1 s2)
 ·exact fin (.type "int") rfl (f9 cG hg hm (by decide +kernel) cN (by decide) (by decide) s1 s2)
 ·exact fin (.builtin "any") rfl (cP cG hg hm (by decide +kernel) cN (by decide) (by decide) s1 s2)
theorem mK{zs:Array (Int×Tok)}{i:Nat}:numAt zs i=(zs.toList.map (·.1)).getD i 0:=by
 unfold numAt
 rw[List.getD_eq_getElem?_getD,List.getElem?_map,Array.getElem?_toList]
theorem BJ{x:Str}{a:Expr}{t:TE}{c:Int}{p pos kp q:Pos}{n:Nat}(hc:X.calm=true)(hg:Gl X x)(hm:X.mg x=none)(hv:bootBuiltins x=some (.builtin "max"))(hn:x≠"__name__")(hdb:(x==("__debug__":Str))=false)(ha:PE X a t)
    (he:starEach [a] X.env=(false,eval a X.env)::starEach [] X.env) :
    PE X (.Call (.Name x p) [a] [⟨some "default",.Constant (.int c) n q,kp⟩] pos) (fun σ H Q=>t σ H fun v H1=>∃ l ns,v=.ref l/\SqL X.K H1 l (ns.map V.int)/\Q (.int (mxD ns c)) H1):=by
  intro pins s σ H Q I h
  refine wpAny_Call_Name_kw (bV I hg hm hv ?_ hn hdb)
  have hbt:backTo pos (starEach [a] X.env)=(false,eval a X.env)::backTo pos (starEach [] X.env):=by rw[he];rfl
  refine PyProof.Rows.callWith_kw ?_ hbt (by rw[hbt];rfl) rfl rfl
  refine thn (aU ha bN he pos pins s σ H (fun vs H1=>∃ l ns,vs=[.ref l]/\SqL X.K H1 l (ns.map V.int)/\Q (.int (mxD ns c)) H1) I ?_) fun us s1 ⟨vs,H1,I1,r1,q1⟩=>?_
  · refine(show t σ H _ from ?_)
    have e:(fun(v:V) (H1:Hp)=>∃ l ns,v=.ref l/\SqL X.K H1 l (ns.map V.int)/\Q (.int (mxD ns c)) H1)=(fun(x:V) (H1:Hp)=>JX σ H1 fun us H2=>∃ l ns,x::us=[.ref l]/\SqL X.K H2 l (ns.map V.int)/\Q (.int (mxD ns c)) H2):=by
      funext v H1
      simp only[JX,List.cons.injEq,and_true]
    rw[<- e]
    exact h
  obtain⟨l,ns,hx,hq,q2⟩:=q1
  subst hx
  obtain⟨u,rfl,rx⟩:=vals1 r1
  cases (show u=Value.ref l from rx)
  refine PyProof.Rows.kws_cons (thn (zE pins s1 σ H1 (fun v H2=>v=.int c/\H2=H1) I1 ⟨rfl,rfl⟩) fun u s2 ⟨v,H2,I2,r2,e1,e2⟩=>PyProof.Rows.kws_nil ?_)
  subst e1 e2
  obtain⟨dt,rfl⟩:=(show ∃ t,u=Value.int c t from r2)
  obtain⟨its,r',pl,hz⟩:=I2.list hq
  have hi:=intsAre_of r'
  obtain⟨zs,hx⟩:=hi.allInts.items
  have hl':s2.heap.IsList l (intItems zs):=hx▸pl.isList
  have e1:ns=zs.toList.map (·.1):=by
    rw[<- nums_intItems,<- hx]
    exact(show numsOf its.toArray.toList=ns from hi.numsOf).symm
  refine CG (I2.ok.hd hc) hl' fun t' h' tk hk=>⟨.int (mxD ns c),_,I2.kept hk,⟨t',?_⟩,q2⟩
  have hlen:zs.size=ns.length:=by rw[e1];simp
  rw[hlen]
  congr 1
  cases ns with
  | nil=>rfl
  | cons y r =>
    show mxF (numAt zs) 1 r.length (numAt zs 0)=mxL r y
    rw[mK,<- e1,Hl r 1 _ fun i hi=>by rw[mK,<- e1,Nat.add_comm 1 i];simp]
    rfl
theorem Ds{x:Str}{a:Expr}{k':Keyword}{c:Int}{d d':D}{p pos:Pos}(G:Good cx k X sc)(hx:aY cx sc x=some "max")(hk:Ju k'=some c)(ha:Ev X ρ a d)(hp:aD a=true)(h:Js d c=some d') :
  Ev X ρ (.Call (.Name x p) [a] [k'] pos) d':=by
 obtain⟨hg,hm,rfl⟩:=aZ G hx
 obtain⟨ka,kv,kp⟩:=k'
 unfold Ju at hk
 split at hk
 ·rename_i hka
  have:ka=some "default":=by simpa using hka
  subst this
  unfold Wv at hk
  split at hk
  ·rename_i c0 n q hkv
   cases hk
   have:kv=.Constant (.int c) n q:=hkv
   subst this
   unfold Js at h
   split at h
   ·rename_i xs c1
    obtain⟨is,h1,rfl⟩:=Option.map_eq_some_iff.mp h
    intro σ H Hs Q hs hst hq
    refine(BJ (X:=X) G.calm hg hm (by decide +kernel) (by decide) (by decide) ak (aj hp)).sem ?_
    refine ha σ H Hs _ hs hst fun v H1 Hs1 E1 r1=>?_
    obtain⟨l,vs,rfl,h3,h4⟩:=bw r1
    have e:=eU h1 h4
    subst e
    exact⟨l,is,rfl,E1.sub.seq h3,hq _ H1 Hs1 E1 (by simp[Rep])⟩
   ·cases h
  ·cases hk
 ·cases hk
def Xr(K:PySem.W.Frag)(T:String):List V->Hp->VK->Prop:=fun xs H Q=>∃ x d,xs=[x,.ty T]/\Rep K H d x/\isExc d=false/\Q (.bl (zN T d)) H
theorem o9{T:String}(h:fG T=true):T="int"\/T="bool"\/T="tuple"\/T="list"\/T="str":=by
 unfold fG at h
 split at h<;>first | (simp;done) | cases h
theorem lV{x:V}{vs:List V}{us:List Value}(r:Vals (x::vs) us):∃ u w,us=u::w/\RelV x u/\Vals vs w:=by
 cases r with
 | cons r rr=>exact⟨_,_,rfl,r,rr⟩
theorem yP{T:String}(hk:fG T=true):cU X (.builtin "isinstance") (Xr X.K T):=by
  intro pins s σ H xs us Q I r h
  obtain⟨x,d,rfl,rd,hne,q⟩:=h
  obtain⟨u,w1,rfl,rx,rr⟩:=lV r
  obtain⟨c,w2,rfl,rc,rr2⟩:=lV rr
  cases rr2
  cases (show c=Value.type T from rc)
  have fin:∀ b,b=zN T d->∀ tk,EP X pins σ Q (.bool b) { s with toks:=tk }:=fun b hb tk=>⟨.bl _,H,I.tok _,by rw[hb];rfl,q⟩
  have ks:=o9 hk
  cases d with
  | exc c=>exact absurd hne (by simp[isExc])
  | dic _ _=>exact absurd hne (by simp[isExc])
  | non =>
    cases jY rd;cases (show u=Value.none from rx)
    rcases ks with rfl | rfl | rfl | rfl | rfl<;>exact PySem.W.kia_one (b:=false) PySem.W.kitx_none I.kIn True.intro rfl (fun z=>nomatch z) (fin _ rfl)
  | bl y =>
    cases cM rd;cases (show u=Value.bool y from rx)
    rcases ks with rfl | rfl | rfl | rfl | rfl
    · exact PySem.W.kia_one (b:=true) PySem.W.kitx_bool I.kIn True.intro rfl (fun z=>nomatch z) (fin _ rfl)
    · exact PySem.W.kia_one (b:=true) PySem.W.kitx_bool I.kIn True.intro rfl (fun z=>nomatch z) (fin _ rfl)
    · exact PySem.W.kia_one (b:=false) PySem.W.kitx_bool I.kIn True.intro rfl (fun z=>nomatch z) (fin _ rfl)
    · exact PySem.W.kia_one (b:=false) PySem.W.kitx_bool I.kIn True.intro rfl (fun z=>nomatch z) (fin _ rfl)
    · exact PySem.W.kia_one (b:=false) PySem.W.kitx_bool I.kIn True.intro rfl (fun z=>nomatch z) (fin _ rfl)
  | int y =>
    cases aA rd
    obtain⟨t,e⟩:=(show ∃ t,u=Value.int y t from rx)
    cases e
    rcases ks with rfl | rfl | rfl | rfl | rfl
    · exact PySem.W.kia_one (b:=true) PySem.W.kitx_int I.kIn True.intro rfl (fun z=>nomatch z) (fin _ rfl)
    · exact PySem.W.kia_one (b:=false) PySem.W.kitx_int I.kIn True.intro rfl (fun z=>nomatch z) (fin _ rfl)
    · exact PySem.W.kia_one (b:=false) PySem.W.kitx_int I.kIn True.intro rfl (fun z=>nomatch z) (fin _ rfl)
    · exact PySem.W.kia_one (b:=false) PySem.W.kitx_int I.kIn True.intro rfl (fun z=>nomatch z) (fin _ rfl)
    · exact PySem.W.kia_one (b:=false) PySem.W.kitx_int I.kIn True.intro rfl (fun z=>nomatch z) (fin _ rfl)
  | str y =>
    have ev:x=.str y:=by simpa[Rep] using rd
    subst ev
    obtain⟨t,e⟩:=(show ∃ t,u=Value.str y t from rx)
    cases e
    rcases ks with rfl | rfl | rfl | rfl | rfl
    · exact PySem.W.kia_one (b:=false) PySem.W.kitx_str I.kIn True.intro rfl (fun z=>nomatch z) (fin _ rfl)
    · exact PySem.W.kia_one (b:=false) PySem.W.kitx_str I.kIn True.intro rfl (fun z=>nomatch z) (fin _ rfl)
    · exact PySem.W.kia_one (b:=false) PySem.W.kitx_str I.kIn True.intro rfl (fun z=>nomatch z) (fin _ rfl)
    · exact PySem.W.kia_one (b:=false) PySem.W.kitx_str I.kIn True.intro rfl (fun z=>nomatch z) (fin _ rfl)
    · exact PySem.W.kia_one (b:=true) PySem.W.kitx_str I.kIn True.intro rfl (fun z=>nomatch z) (fin _ rfl)
  | tup ds =>
    obtain⟨a,vs,rfl,h1,h2⟩:=bF rd
    cases (show u=Value.ref a from rx)
    obtain⟨its,_,o,g1,g2,_⟩:=isT I h1
    rcases ks with rfl | rfl | rfl | rfl | rfl
    · exact PySem.W.kia_one (b:=false) PySem.W.kitx_tuple I.kIn ⟨o,g1,g2⟩ rfl (fun z=>nomatch z) (fin _ rfl)
    · exact PySem.W.kia_one (b:=false) PySem.W.kitx_tuple I.kIn ⟨o,g1,g2⟩ rfl (fun z=>nomatch z) (fin _ rfl)
    · exact PySem.W.kia_one (b:=true) PySem.W.kitx_tuple I.kIn ⟨o,g1,g2⟩ rfl (fun z=>nomatch z) (fin _ rfl)
    · exact PySem.W.kia_one (b:=false) PySem.W.kitx_tuple I.kIn ⟨o,g1,g2⟩ rfl (fun z=>nomatch z) (fin _ rfl)
    · exact PySem.W.kia_one (b:=false) PySem.W.kitx_tuple I.kIn ⟨o,g1,g2⟩ rfl (fun z=>nomatch z) (fin _ rfl)
  | lst ds =>
    obtain⟨a,vs,rfl,h1,h2⟩:=bw rd
    cases (show u=Value.ref a from rx)
    obtain⟨its,_,o,g1,g2,_⟩:=isL I h1
    rcases ks with rfl | rfl | rfl | rfl | rfl
    · exact PySem.W.kia_one (b:=false) PySem.W.kitx_list I.kIn ⟨o,g1,g2⟩ rfl (fun z=>nomatch z) (fin _ rfl)
    · exact PySem.W.kia_one (b:=false) PySem.W.kitx_list I.kIn ⟨o,g1,g2⟩ rfl (fun z=>nomatch z) (fin _ rfl)
    · exact PySem.W.kia_one (b:=false) PySem.W.kitx_list I.kIn ⟨o,g1,g2⟩ rfl (fun z=>nomatch z) (fin _ rfl)
    · exact PySem.W.kia_one (b:=true) PySem.W.kitx_list I.kIn ⟨o,g1,g2⟩ rfl (fun z=>nomatch z) (fin _ rfl)
    · exact PySem.W.kia_one (b:=false) PySem.W.kitx_list I.kIn ⟨o,g1,g2⟩ rfl (fun z=>nomatch z) (fin _ rfl)
theorem Ir{x t:Str}{T:String}{a:Expr}{d:D}{p pt pos:Pos}(G:Good cx k X sc)(hx:aY cx sc x=some "isinstance")(ht:aY cx sc t=some T)(hk:fG T=true)(ha:Ev X ρ a d)(hp:aD a=true)(hne:isExc d=false) :
  Ev X ρ (.Call (.Name x p) [a,.Name t pt] [] pos) (.bl (zN T d)):=by
 obtain⟨hg,hm,rfl⟩:=aZ G hx
 obtain⟨hg2,hm2,rfl⟩:=aZ G ht
 have htv:PE X (.Name (Str.ofString T) pt) (tC (.ty T)):=by
  rcases o9 hk with rfl | rfl | rfl | rfl | rfl<;>exact uq hg2 hm2 (by decide +kernel) rfl
 intro σ H Hs Q hs hst hq
 refine(cP (yP (X:=X) hk) hg hm (by decide +kernel) (aU ak (aU htv bN (aj rfl)) (aj hp)) (by decide) (by decide) (aj hp) rfl).sem ?_
 exact ha σ H Hs _ hs hst fun v H1 Hs1 E1 r1=>⟨v,d,rfl,Rep.same E1.sub d v r1,hne,hq _ H1 Hs1 E1 (by simp[Rep])⟩
def Kh(K:PySem.W.Frag)(cv:V)(C:Addr)(b:Bool):List V->Hp->VK->Prop:=fun xs H Q=>∃ a,xs=[.ref a,cv]/\H a=some (.ext (isX a (.ref C)))/\Q (.bl b) H
theorem vW{cv:V}{c:Value}{C:Addr}{b:Bool}(hA:jR X.K C=true)(hc:∀ u,RelV cv u->u=c)(e:PySem.W.kitOne X.K (.ref C) c=some b):cU X (.builtin "isinstance") (Kh X.K cv C b):=by
 intro pins s σ H xs us Q I r h
 obtain⟨a,rfl,ha,q⟩:=h
 obtain⟨u,w1,rfl,rx,rr⟩:=lV r
 obtain⟨u2,w2,rfl,rc,rr2⟩:=lV rr
 cases rr2
 cases (show u=Value.ref a from rx)
 cases hc u2 rc
 exact PySem.W.kia_one (yd hA) I.kIn (I.hok _ _ ha).1 e (fun z=>nomatch z) fun tk=>⟨.bl _,H,I.tok _,rfl,q⟩
theorem oM{x c:Str}{t a:Expr}{tv:TE}{cv:V}{cw:Value}{b:Bool}{p pos:Pos}(G:Good cx k X sc)(hx:aY cx sc x=some "isinstance")(hc:cx.exs.contains c=true)(ht:PE X t (tC cv))(hpt:aD t=true)(hcv:∀ u,RelV cv u->u=cw)
  (hk:∀ C,PySem.W.nsIn X.K mainGlobals c=some (some (.ref C))->PySem.W.kitOne X.K (.ref C) cw=some b) (ha:Ev X ρ a (.exc c)) (hp:aD a=true):Ev X ρ (.Call (.Name x p) [a,t] [] pos) (.bl b):=by
 obtain⟨hg,hm,rfl⟩:=aZ G hx
 obtain⟨C,M,e1,_,_,e2,_⟩:=G.exs.cls c hc
 intro σ H Hs Q hs hst hq
 refine(cP (vW (X:=X) (cv:=cv) e2 hcv (hk C e1)) hg hm (by decide +kernel) (aU ak (aU ht bN (aj hpt)) (aj hp)) (by decide) (by decide) (aj hp) (by rw[aj hpt];rfl)).sem ?_
 refine ha σ H Hs _ hs hst fun v H1 Hs1 E1 r1=>?_
 have r2:=Rep.same E1.sub _ v r1
 simp only[Rep] at r2
 obtain⟨a0,C0,rfl,f1,f2⟩:=r2
 rw[e1] at f1
 cases f1
 exact⟨a0,rfl,f2,hq _ H1 Hs1 E1 (by simp[Rep])⟩
theorem Dv{x t c:Str}{a:Expr}{p pt pos:Pos}(G:Good cx k X sc)(hx:aY cx sc x=some "isinstance")(ht:aY cx sc t=some "ValueError")(hc:cx.exs.contains c=true)(ha:Ev X ρ a (.exc c))(hp:aD a=true):Ev X ρ (.Call (.Name x p) [a,.Name t pt] [] pos) (.bl true):=by
 obtain⟨hg2,hm2,rfl⟩:=aZ G ht
 refine oM (tv:=tC (.ty "ValueError")) (cv:=.ty "ValueError") (cw:=.type "ValueError") G hx hc (uq hg2 hm2 (by decide +kernel) rfl) rfl (fun u r=>r) (fun C e=>?_) ha hp
 obtain⟨C',M,e1,_,_,_,_,_,e2⟩:=G.exs.cls c hc
 rw[e] at e1
 cases e1
 exact e2
theorem Fv{t:Expr}{c':Str}(h:xOf cx sc t=some c'):∃ pt,t=.Name c' pt/\yh cx sc c'=true/\(cx.exs.contains c'=true\/c'=cx.top)/\(c'==("__debug__":Str))=false:=by
 unfold xOf at h
 split at h
 ·rename_i y pt
  split at h
  ·rename_i q
   cases h
   rw[Bool.and_eq_true,Bool.and_eq_true,Bool.or_eq_true] at q
   have q2:=q.2
   unfold au at q2
   rw[Bool.and_eq_true,bne_iff_ne] at q2
   exact⟨pt,rfl,q.1.1,q.1.2.imp id (fun z=>by simpa using z),by simpa using q2.1⟩
  ·cases h
 ·cases h
theorem Du{x c c':Str}{t a:Expr}{p pos:Pos}(G:Good cx k X sc)(hx:aY cx sc x=some "isinstance")(ht:xOf cx sc t=some c')(hc:cx.exs.contains c=true)(ha:Ev X ρ a (.exc c))(hp:aD a=true):Ev X ρ (.Call (.Name x p) [a,t] [] pos) (.bl (Et cx.top c c')):=by
 obtain⟨pt,rfl,hgl,hin,hd⟩:=Fv ht
 have hg:Gl X c':=by
  have e:sc.names.lookup c'=some .globalImplicit:=by unfold yh at hgl;simpa using hgl
  show X.env.scope.names.lookup c'=_
  rw[G.sce,e]
 by_cases htop:c'=cx.top
 ·subst htop
  obtain⟨C,M,e1,e2,_,_,_,e3,_⟩:=G.exs.cls c hc
  have:Et cx.top c cx.top=true:=by unfold Et;simp
  rw[this]
  refine oM (tv:=tC (.ref M)) (cv:=.ref M) (cw:=.ref M) G hx hc (nY hg (G.exs.glob _ _ e2) rfl hd) rfl (fun u r=>r) (fun C' e=>?_) ha hp
  rw[e] at e1;cases e1
  exact e3
 ·have hin':cx.exs.contains c'=true:=hin.resolve_right htop
  obtain⟨C,C',e1,e2,e3⟩:=G.exs.sub c c' hc hin'
  have:Et cx.top c c'=(c==c'):=by
   unfold Et
   have:(c'==cx.top)=false:=by simpa using htop
   rw[this,Bool.or_false]
  rw[this]
  refine oM (tv:=tC (.ref C')) (cv:=.ref C') (cw:=.ref C') G hx hc (nY hg (G.exs.glob _ _ e2) rfl hd) rfl (fun u r=>r) (fun C'' e=>?_) ha hp
  rw[e] at e1;cases e1
  exact e3
end
end L2
namespace L2
open PySem PySem.Spec PyProof.Rows DE PySem.SeqAt
section
variable {X:Cx} {ρ:Rho} {cx:Cxt} {k:Nat} {sc:Scope}
theorem sJ:∀ {vs:List V} {us:List Value},vs.length=us.length->(∀ (i:Nat) (v:V) (u:Value),vs[i]?=some v->us[i]?=some u->RelV v u)->Vals vs us
 | [],[],_,_=>.nil
 | [],u::us,h,_=>by simp at h
 | v::vs,[],h,_=>by simp at h
 | v::vs,u::us,h,hr=>.cons (hr 0 v u rfl rfl) (sJ (by simpa using h) fun i a b e1 e2=>hr (i+1) a b (by simpa using e1) (by simpa using e2))
def iT(lo hi:Int):List V:=(List.range (hi-lo).toNat).map fun(k:Nat)=>V.int (lo+(k:Int))
theorem jZ{α:Type}{K:PySem.W.Frag}{H:Hp}{f:α->D}{g:α->V}(h:∀ x,Rep K H (f x) (g x)):∀ l:List α,aL K H (l.map f) (l.map g)
 | []=>.nil
 | x::r=>.cons (h x) (jZ h r)
theorem mD{K:PySem.W.Frag}{H:Hp}{lo hi:Int}:aL K H (bO lo hi) (iT lo hi):=jZ (fun x=>by simp[Rep]) _
theorem dR{i:Int}(h:bU i=true):-(2^62)<=i/\i<2^62:=by
 unfold bU at h
 rw[Bool.and_eq_true,decide_eq_true_eq,decide_eq_true_eq] at h
 exact h
theorem gk{pins:List (Addr×Obj)}{σ:St}{H:Hp}{s:Shared}{Q:VK}{E:Value->Shared->Prop}{lo hi:Int}{t u v:Tok}{tk:Nat}(hc:X.calm=true)(I:Inv X pins σ H s)(h1:-(2^62)<=lo/\lo<2^62)(h3:-(2^62)<=hi/\hi<2^62)
  (hz:szl (hi-lo).toNat=true) (q:∀ p,H p=none->Q (.ref p) (upd H p (.lst (iT lo hi)))) :
  wpAny (model X.prog X.w) X.A (call (.type "list") [.ref s.heap.objs.size]) (EP X pins σ Q) E { s with heap:=s.heap.push { cls:=.type "range",data:=.fields #[.int lo t,.int hi u,.int 1 v] },toks:=tk }:=by
 have hz':(hi-lo).toNat<=100000:=by unfold szl at hz;simpa using hz
 refine call_list_range (n:=(hi-lo).toNat) (I.ok.hd hc) (IsRange.new ..) (small_one h1.1 h1.2 h3.1 h3.2) (by rw[rangeSize_one];split<;>omega) (by omega) fun h' tk' acc' c' kp e its=>?_
 have I1:Inv X pins σ H { s with heap:=s.heap.push { cls:=.type "range",data:=.fields #[.int lo t,.int hi u,.int 1 v] },toks:=tk }:=I.kept fun b o e=>Heap.get?_push_of_some _ e
 have hl:(iT lo hi).length=(hi-lo).toNat:=by simp[iT]
 have hv:Vals (iT lo hi) acc'.toList:=by
  refine sJ (by rw[hl,Array.length_toList,its.1]) fun i v u e1 e2=>?_
  obtain⟨t,rfl⟩:=its.2 i u (by simpa using e2)
  unfold iT at e1
  rw[List.getElem?_map] at e1
  obtain⟨j,e3,rfl⟩:=Option.map_eq_some_iff.mp e1
  rw[List.getElem?_eq_some_iff] at e3
  obtain⟨_,e3⟩:=e3
  rw[List.getElem_range] at e3
  subst e3
  exact⟨t,by rw[Int.mul_one]⟩
 refine⟨.ref _,_,I1.laid (t':=tk') kp (Nat.le_refl _) (show cZ X.prog X.w _ h' _ (.lst (iT lo hi)) from⟨by rw[hl];exact fj hz,acc'.toList,c',hv,e⟩),rfl,q _ (I1.hok.fresh (Nat.le_refl _))⟩
theorem rK{x y:Str}{a:Expr}{j:Int}{p q q' pos:Pos}(G:Good cx k X sc)(hx:aY cx sc x=some "list")(hy:aY cx sc y=some "range")(ha:Ev X ρ a (.int j))(hp:aD a=true)(hj:bU j=true)(hz:szl j.toNat=true) :
  Ev X ρ (.Call (.Name x p) [.Call (.Name y q) [a] [] q'] [] pos) (.lst (bO 0 j)):=by
 obtain⟨hg,hm,rfl⟩:=aZ G hx
 obtain⟨hg2,hm2,rfl⟩:=aZ G hy
 intro σ H Hs Q hs hst hq pins s I
 refine Call_ (bV I hg hm (show bootBuiltins "list"=some (.type "list") by decide +kernel) (PyProof.Rows.callWith_type1 ?_ rfl rfl))
 show wpAny _ _ (spliced [(false,eval (.Call (.Name _ q) [a] [] q') X.env)]) _ _ _
 refine Calls.spliced_cons ?_
 refine Call_ (bV I hg2 hm2 boot_range (PyProof.Rows.callWith_type1 ?_ (aj hp) rfl))
 refine thn ((aU ak bN (aj hp)) q' pins s σ H (fun vs H1=>∃ Hs1,vs=[.int j]/\Ext Hs H Hs1 H1) I (ha σ H Hs _ hs hst fun v H1 Hs1 E1 r1=>⟨Hs1,by rw[aA r1],E1⟩)) fun us s1 ⟨vs,H1,I1,r1,Hs1,e1,E1⟩=>?_
 subst e1
 obtain⟨u,w1,rfl,rx,rr⟩:=lV r1
 cases rr
 obtain⟨t,rfl⟩:=(show ∃ t,u=Value.int j t from rx)
 refine call_range_1 (Calls.spliced_nil ?_)
 exact gk G.calm I1 (by decide) (dR hj) (by simpa using hz) fun p hp=>dZ E1.sub mD hp fun w H' Hs' E2 r2=>hq w H' Hs' (E1.trans E2) r2
theorem rJ{x y:Str}{a b:Expr}{i j:Int}{p q q' pos:Pos}(G:Good cx k X sc)(hx:aY cx sc x=some "list")(hy:aY cx sc y=some "range")(ha:Ev X ρ a (.int i))(hp:aD a=true)(hb:Ev X ρ b (.int j))(hpb:aD b=true)(hi:bU i=true)(hj:bU j=true)(hz:szl (j-i).toNat=true) :
  Ev X ρ (.Call (.Name x p) [.Call (.Name y q) [a,b] [] q'] [] pos) (.lst (bO i j)):=by
 obtain⟨hg,hm,rfl⟩:=aZ G hx
 obtain⟨hg2,hm2,rfl⟩:=aZ G hy
 intro σ H Hs Q hs hst hq pins s I
 refine Call_ (bV I hg hm (show bootBuiltins "list"=some (.type "list") by decide +kernel) (PyProof.Rows.callWith_type1 ?_ rfl rfl))
 show wpAny _ _ (spliced [(false,eval (.Call (.Name _ q) [a,b] [] q') X.env)]) _ _ _
 refine Calls.spliced_cons ?_
 refine Call_ (bV I hg2 hm2 boot_range (PyProof.Rows.callWith_type1 ?_ (aj hp) (fW fun e he=>by rw[List.mem_singleton.mp he];exact hpb)))
 refine thn ((aU ak (aU ak bN (aj hpb)) (aj hp)) q' pins s σ H (fun vs H1=>∃ Hs1,vs=[.int i,.int j]/\Ext Hs H Hs1 H1) I (ha σ H Hs _ hs hst fun v H1 Hs1 E1 r1=>hb σ H1 Hs1 _ E1.sub (hst.same E1.vis) fun v' H2 Hs2 E2 r2=>⟨Hs2,by rw[aA r1,aA r2],E1.trans E2⟩)) fun us s1 ⟨vs,H1,I1,r1,Hs1,e1,E1⟩=>?_
 subst e1
 obtain⟨u,w1,rfl,rx,rr⟩:=lV r1
 obtain⟨u2,w2,rfl,rx2,rr2⟩:=lV rr
 cases rr2
 obtain⟨t,rfl⟩:=(show ∃ t,u=Value.int i t from rx)
 obtain⟨t2,rfl⟩:=(show ∃ t,u2=Value.int j t from rx2)
 refine call_range_2 (Calls.spliced_nil ?_)
 exact gk G.calm I1 (dR hi) (dR hj) hz fun p hp=>dZ E1.sub mD hp fun w H' Hs' E2 r2=>hq w H' Hs' (E1.trans E2) r2
variable {tg iter a b:Expr}
theorem DR{d:D}{l:List D}(h:Ev X ρ iter d)(hl:items d=some l):EvI X ρ tg iter l:=by
  intro σ H Hs R hs hst hq
  cases d with
  | lst xs =>
    simp only[items,Option.some.injEq] at hl;subst hl
    refine(Bt (tg:=tg) ak).sem (h σ H Hs _ hs hst fun v H1 Hs1 E1 r1=>?_)
    obtain⟨p,vs,rfl,h1,h2⟩:=bw r1
    refine⟨p,rfl,⟨vs,E1.sub.seq h1⟩,hq _ H1 Hs1 E1 fun Hs' H' e1 e2=>⟨⟨vs,e2.seq (e1.seq h1),by rw[h2.length];exact Nat.le_refl _⟩,fun i d hd=>?_⟩⟩
    obtain⟨v,g1,g2⟩:=h2.get hd
    refine⟨⟨vs,v,e2.seq (e1.seq h1),g1⟩,fun x H2 y=>?_⟩
    obtain⟨rfl,y⟩:=y
    have:=y vs (e2.seq (e1.seq h1))
    rw[g1] at this;cases this
    exact⟨Hs',.refl e2,Rep.same e1 d v g2⟩
  | tup xs =>
    simp only[items,Option.some.injEq] at hl;subst hl
    refine(GJ (tg:=tg) ak).sem (h σ H Hs _ hs hst fun v H1 Hs1 E1 r1=>?_)
    obtain⟨p,vs,rfl,h1,h2⟩:=bF r1
    refine⟨p,rfl,⟨vs,E1.sub.tup h1⟩,hq _ H1 Hs1 E1 fun Hs' H' e1 e2=>⟨⟨vs,e2.tup (e1.tup h1),by rw[h2.length];exact Nat.le_refl _⟩,fun i d hd=>?_⟩⟩
    obtain⟨v,g1,g2⟩:=h2.get hd
    refine⟨⟨vs,v,e2.tup (e1.tup h1),g1⟩,fun x H2 y=>?_⟩
    obtain⟨rfl,y⟩:=y
    have:=y vs (e2.tup (e1.tup h1))
    rw[g1] at this;cases this
    exact⟨Hs',.refl e2,Rep.same e1 d v g2⟩
  | _=>simp[items] at hl
theorem jh{K:PySem.W.Frag}{Hs0:Hp}{lo hi:Int}{n:Nat}(hn:n=(hi-lo).toNat):Es K (Itr lo n) Hs0 (bO lo hi):=by
 have hl:(bO lo hi).length=n:=by rw[hn];simp[bO]
 intro Hs H e1 e2
 refine⟨by show n<=_;rw[hl];exact Nat.le_refl _,fun i d hd=>?_⟩
 have hi:i<n:=by have:=(List.getElem?_eq_some_iff.mp hd).1;rw[hl] at this;exact this
 refine⟨hi,fun x H' y=>?_⟩
 obtain⟨rfl,rfl⟩:=y
 refine⟨Hs,.refl e2,?_⟩
 unfold bO at hd
 rw[List.getElem?_map] at hd
 obtain⟨j,e3,rfl⟩:=Option.map_eq_some_iff.mp hd
 rw[List.getElem?_eq_some_iff] at e3
 obtain⟨_,e3⟩:=e3
 rw[List.getElem_range] at e3
 subst e3
 simp[Rep]
theorem rP{x:Str}{j:Int}{p pos:Pos}(G:Good cx k X sc)(hx:aY cx sc x=some "range")(ha:Ev X ρ a (.int j))(hp:aD a=true)(hj:bU j=true):EvI X ρ tg (.Call (.Name x p) [a] [] pos) (bO 0 j):=by
 obtain⟨hg,hm,rfl⟩:=aZ G hx
 intro σ H Hs R hs hst hq
 have q:=uh (tg:=tg) (p:=p) (pos:=pos) hg hm (aU (ak (X:=X) (e:=a)) bN (aj hp)) (aj hp)
 refine PI.sem q (ha σ H Hs _ hs hst fun v H1 Hs1 E1 r1=>?_)
 exact⟨j,by rw[aA r1],(dR hj).1,(dR hj).2,hq _ H1 Hs1 E1 (jh (by simp))⟩
theorem rO{x:Str}{i j:Int}{p pos:Pos}(G:Good cx k X sc)(hx:aY cx sc x=some "range")(ha:Ev X ρ a (.int i))(hp:aD a=true)(hb:Ev X ρ b (.int j))(hpb:aD b=true)(hi:bU i=true)(hj:bU j=true):EvI X ρ tg (.Call (.Name x p) [a,b] [] pos) (bO i j):=by
 obtain⟨hg,hm,rfl⟩:=aZ G hx
 intro σ H Hs R hs hst hq
 have q:=ug (tg:=tg) (p:=p) (pos:=pos) hg hm (aU (ak (X:=X) (e:=a)) (aU (ak (X:=X) (e:=b)) bN (aj hpb)) (aj hp)) (by rw[aj hp,aj hpb];rfl) (aj hpb)
 refine PI.sem q (ha σ H Hs _ hs hst fun v H1 Hs1 E1 r1=>hb σ H1 Hs1 _ E1.sub (hst.same E1.vis) fun v' H2 Hs2 E2 r2=>?_)
 exact⟨i,j,by rw[aA r1,aA r2],⟨(dR hi).1,(dR hi).2,(dR hj).1,(dR hj).2⟩,hq _ H2 Hs2 (E1.trans E2) (jh rfl)⟩
theorem mV{K:PySem.W.Frag}{Hs0:Hp}{hi lo:Int}{n:Nat}(hn:n=(hi-lo).toNat):Es K (Jx hi n) Hs0 (dnD hi lo):=by
 have hl:(dnD hi lo).length=n:=by rw[hn];simp[dnD]
 intro Hs H e1 e2
 refine⟨by show n<=_;rw[hl];exact Nat.le_refl _,fun i d hd=>?_⟩
 have hi':i<n:=by have:=(List.getElem?_eq_some_iff.mp hd).1;rw[hl] at this;exact this
 refine⟨hi',fun x H' y=>?_⟩
 obtain⟨rfl,rfl⟩:=y
 refine⟨Hs,.refl e2,?_⟩
 unfold dnD at hd
 rw[List.getElem?_map,List.getElem?_range (by omega)] at hd
 cases hd
 simp[Rep]
theorem rN{x:Str}{i j:Int}{c:Expr}{p pos:Pos}(G:Good cx k X sc)(hx:aY cx sc x=some "range")(ha:Ev X ρ a (.int i))(hp:aD a=true)(hb:Ev X ρ b (.int j))(hpb:aD b=true)(hc:Ev X ρ c (.int (-1)))(hpc:aD c=true)(hi:bU i=true)(hj:bU j=true):EvI X ρ tg (.Call (.Name x p) [a,b,c] [] pos) (dnD i j):=by
 obtain⟨hg,hm,rfl⟩:=aZ G hx
 intro σ H Hs R hs hst hq
 have q:=uf (tg:=tg) (p:=p) (pos:=pos) hg hm (aU (ak (X:=X) (e:=a)) (aU (ak (X:=X) (e:=b)) (aU (ak (X:=X) (e:=c)) bN (aj hpc)) (aj hpb)) (aj hp)) (by rw[aj hp,aj hpb,aj hpc];rfl) (by rw[aj hpb,aj hpc];rfl)
 refine PI.sem q (ha σ H Hs _ hs hst fun v H1 Hs1 E1 r1=>hb σ H1 Hs1 _ E1.sub (hst.same E1.vis) fun v' H2 Hs2 E2 r2=>hc σ H2 Hs2 _ E2.sub ((hst.same E1.vis).same E2.vis) fun v'' H3 Hs3 E3 r3=>?_)
 exact⟨i,j,by rw[aA r1,aA r2,aA r3],⟨(dR hi).1,(dR hi).2,(dR hj).1,(dR hj).2⟩,hq _ H3 Hs3 ((E1.trans E2).trans E3) (mV rfl)⟩
theorem vp{x:Str}{xs:List D}{p pos:Pos}(G:Good cx k X sc)(hx:aY cx sc x=some "reversed")(ha:Ev X ρ a (.lst xs))(hp:aD a=true):EvI X ρ tg (.Call (.Name x p) [a] [] pos) xs.reverse:=by
 obtain⟨hg,hm,rfl⟩:=aZ G hx
 intro σ H Hs R hs hst hq
 have q:=xJ (tg:=tg) (p:=p) (pos:=pos) hg hm (aU (ak (X:=X) (e:=a)) bN (aj hp)) (aj hp)
 refine PI.sem q (ha σ H Hs _ hs hst fun v H1 Hs1 E1 r1=>?_)
 obtain⟨b,vs,rfl,h1,h2⟩:=bw r1
 have hl:=h2.length
 refine⟨b,vs,rfl,E1.sub.seq h1,hq _ H1 Hs1 E1 fun Hs' H' e1 e2=>⟨by show _=_;rw[List.length_reverse,hl],fun i d hd=>?_⟩⟩
 have hi:i<xs.length:=by have:=(List.getElem?_eq_some_iff.mp hd).1;simpa using this
 rw[List.getElem?_reverse hi] at hd
 obtain⟨v,g1,g2⟩:=h2.get hd
 rw[hl] at g1
 refine⟨⟨vs,e2.seq (e1.seq h1),rfl,by rw[<- hl];exact hi⟩,fun x H2 y=>?_⟩
 obtain⟨rfl,y⟩:=y
 have:=y vs (e2.seq (e1.seq h1))
 rw[g1] at this;cases this
 exact⟨Hs',.refl e2,Rep.same e1 d v g2⟩
theorem DQ{x:Str}{xs ys:List D}{p pos pt:Pos}{es:List Expr}{kt:Nat}(G:Good cx k X sc)(hx:aY cx sc x=some "zip")(ha:Ev X ρ a (.tup xs))(hp:aD a=true)(hb:Ev X ρ b (.tup ys))(hpb:aD b=true) :
  EvI X ρ (.Tuple es kt pt) (.Call (.Name x p) [a,b] [] pos) ((xs.zip ys).map fun q=>.tup [q.1,q.2]):=by
 obtain⟨hg,hm,rfl⟩:=aZ G hx
 intro σ H Hs R hs hst hq
 have q:=GF (es:=es) (kt:=kt) (pt:=pt) (p:=p) (pos:=pos) hg hm (aU (ak (X:=X) (e:=a)) (aU (ak (X:=X) (e:=b)) bN (aj hpb)) (aj hp)) (by rw[aj hp,aj hpb];rfl) (aj hpb)
 refine PI.sem q (ha σ H Hs _ hs hst fun v H1 Hs1 E1 r1=>hb σ H1 Hs1 _ E1.sub (hst.same E1.vis) fun v' H2 Hs2 E2 r2=>?_)
 obtain⟨c,vs,rfl,h1,h2⟩:=bF (Rep.same E2.vis _ _ r1)
 obtain⟨d,us,rfl,h3,h4⟩:=bF r2
 have l1:=h2.length
 have l2:=h4.length
 refine⟨c,d,rfl,⟨vs,E2.sub.tup h1⟩,⟨us,E2.sub.tup h3⟩,hq _ H2 Hs2 (E1.trans E2) fun Hs' H' e1 e2=>⟨⟨vs,us,e2.tup (e1.tup h1),e2.tup (e1.tup h3),?_⟩,fun i z hz=>?_⟩⟩
 ·rw[List.length_map,List.length_zip]
  omega
 ·rw[List.getElem?_map] at hz
  obtain⟨⟨x1,y1⟩,e3,rfl⟩:=Option.map_eq_some_iff.mp hz
  rw[List.getElem?_zip_eq_some] at e3
  obtain⟨v1,g1,g2⟩:=h2.get e3.1
  obtain⟨v2,g3,g4⟩:=h4.get e3.2
  refine⟨⟨vs,us,v1,v2,e2.tup (e1.tup h1),e2.tup (e1.tup h3),g1,g3⟩,fun w H3 y=>?_⟩
  obtain⟨p,hp',rfl,y⟩:=y
  rw[y vs us v1 v2 (e2.tup (e1.tup h1)) (e2.tup (e1.tup h3)) g1 g3]
  refine⟨_,Ext.new e2 (.tup [v1,v2]) hp',?_⟩
  have sm:=(Ext.new e2 (.tup [v1,v2]) hp').vis
  simp only[Rep]
  exact⟨p,[v1,v2],rfl,.of aQ,.cons (Rep.same sm _ _ (Rep.same e1 _ _ g2)) (.cons (Rep.same sm _ _ (Rep.same e1 _ _ g4)) .nil)⟩
theorem yK{x:Str}{xs ys:List D}{p pos pt:Pos}{es:List Expr}{kt:Nat}(G:Good cx k X sc)(hx:aY cx sc x=some "zip")(ha:Ev X ρ a (.lst xs))(hp:aD a=true)(hb:Ev X ρ b (.lst ys))(hpb:aD b=true) :
  EvI X ρ (.Tuple es kt pt) (.Call (.Name x p) [a,b] [] pos) ((xs.zip ys).map fun q=>.tup [q.1,q.2]):=by
 obtain⟨hg,hm,rfl⟩:=aZ G hx
 intro σ H Hs R hs hst hq
 have q:=Bs (es:=es) (kt:=kt) (pt:=pt) (p:=p) (pos:=pos) hg hm (aU (ak (X:=X) (e:=a)) (aU (ak (X:=X) (e:=b)) bN (aj hpb)) (aj hp)) (by rw[aj hp,aj hpb];rfl) (aj hpb)
 refine PI.sem q (ha σ H Hs _ hs hst fun v H1 Hs1 E1 r1=>hb σ H1 Hs1 _ E1.sub (hst.same E1.vis) fun v' H2 Hs2 E2 r2=>?_)
 obtain⟨c,vs,rfl,h1,h2⟩:=bw (Rep.same E2.vis _ _ r1)
 obtain⟨d,us,rfl,h3,h4⟩:=bw r2
 have l1:=h2.length
 have l2:=h4.length
 refine⟨c,d,rfl,⟨vs,E2.sub.seq h1⟩,⟨us,E2.sub.seq h3⟩,hq _ H2 Hs2 (E1.trans E2) fun Hs' H' e1 e2=>⟨⟨vs,us,e2.seq (e1.seq h1),e2.seq (e1.seq h3),?_⟩,fun i z hz=>?_⟩⟩
 ·rw[List.length_map,List.length_zip]
  omega
 ·rw[List.getElem?_map] at hz
  obtain⟨⟨x1,y1⟩,e3,rfl⟩:=Option.map_eq_some_iff.mp hz
  rw[List.getElem?_zip_eq_some] at e3
  obtain⟨v1,g1,g2⟩:=h2.get e3.1
  obtain⟨v2,g3,g4⟩:=h4.get e3.2
  refine⟨⟨vs,us,v1,v2,e2.seq (e1.seq h1),e2.seq (e1.seq h3),g1,g3⟩,fun w H3 y=>?_⟩
  obtain⟨p,hp',rfl,y⟩:=y
  rw[y vs us v1 v2 (e2.seq (e1.seq h1)) (e2.seq (e1.seq h3)) g1 g3]
  refine⟨_,Ext.new e2 (.tup [v1,v2]) hp',?_⟩
  have sm:=(Ext.new e2 (.tup [v1,v2]) hp').vis
  simp only[Rep]
  exact⟨p,[v1,v2],rfl,.of aQ,.cons (Rep.same sm _ _ (Rep.same e1 _ _ g2)) (.cons (Rep.same sm _ _ (Rep.same e1 _ _ g4)) .nil)⟩
theorem qb:∀ {ns:List Int} {us:List Value},Vals (ns.map V.int) us->PyProof.Rows.IntsAre us ns
  | [],us,r=>by rw[List.map_nil] at r;cases r;exact .nil
  | n :: ns, us, r => by
    rw[List.map_cons] at r
    cases r with
    | cons r1 r2 =>
      obtain⟨t,e⟩:=(show ∃ t,_=Value.int n t from r1)
      subst e
      exact .cons n t (qb r2)
theorem vL{ns:List Int}:PyProof.Rows.firstMet (fun i=>ns.getD i 0) ns.length=ddp ns:=by
 unfold PyProof.Rows.firstMet ddp
 have e:(List.range ns.length).map (fun i=>ns.getD i 0)=ns:=by
  apply List.ext_getElem?
  intro i
  rw[List.getElem?_map]
  by_cases h:i<ns.length
  ·rw[List.getElem?_range h]
   simp[List.getD_eq_getElem?_getD,List.getElem?_eq_getElem h]
  ·rw[List.getElem?_eq_none (by simpa using h),List.getElem?_eq_none (by omega)]
   rfl
 rw[e]
 rfl
theorem vm{x y:Str}{a:Expr}{xs:List D}{ns:List Int}{p q q' pos:Pos}(G:Good cx k X sc)(hx:aY cx sc x=some "len")(hy:aY cx sc y=some "set")(ha:Ev X ρ a (.lst xs))(hp:aD a=true)(hn:fU xs=some ns)(hz:xs.length<=1000) :
    Ev X ρ (.Call (.Name x p) [.Call (.Name y q) [a] [] q'] [] pos) (.int (ddp ns).length):=by
  obtain⟨hg,hm,rfl⟩:=aZ G hx
  obtain⟨hg2,hm2,rfl⟩:=aZ G hy
  intro σ H Hs Q hs hst hq pins s I
  refine Call_ (bV I hg hm (show bootBuiltins "len"=some (.builtin "len") by decide +kernel) (PyProof.Rows.callWith_builtin1 ?_ rfl rfl))
  show wpAny _ _ (spliced [(false,eval (.Call (.Name _ q) [a] [] q') X.env)]) _ _ _
  refine Calls.spliced_cons ?_
  refine Call_ (bV I hg2 hm2 (show bootBuiltins "set"=some (.type "set") by decide +kernel) (PyProof.Rows.callWith_type1 ?_ (aj hp) rfl))
  refine thn ((aU ak bN (aj hp)) q' pins s σ H (fun vs H1=>∃ Hs1 b ws,vs=[.ref b]/\SqL X.K Hs1 b ws/\aL X.K Hs1 xs ws/\Ext Hs H Hs1 H1) I (ha σ H Hs _ hs hst fun v H1 Hs1 E1 r1=>by
    obtain⟨b,ws,rfl,h1,h2⟩:=bw r1
    exact⟨Hs1,b,ws,rfl,h1,h2,E1⟩)) fun us s1 ⟨vs,H1,I1,r1,Hs1,b,ws,e1,t1,r2,E1⟩=>?_
  subst e1
  obtain⟨u,w1,rfl,rx,rr⟩:=lV r1
  cases rr
  cases (show u=Value.ref b from rx)
  obtain⟨its,rv,pt,hz'⟩:=I1.list (E1.sub.seq t1)
  have hl:=rv.length
  have hl2:=r2.length
  have e:=eU hn r2
  subst e
  have ia:=qb rv
  have ln:its.length=ns.length:=by rw[<- hl,List.length_map]
  have lx:xs.length=ns.length:=by rw[hl2,List.length_map]
  refine PySem.call_set_list (I1.ok.hd G.calm) pt.isList (ns:=ns) ia (by simp only[List.size_toArray];show its.length+1<4096;omega) fun h' tk hS kp=>Calls.spliced_nil ?_
  simp only[List.size_toArray,ln,vL] at hS
  obtain⟨o,es,ep,t,ho,hex,hd,_,_,hb,hf,hsz⟩:=hS
  have I2:Inv X pins σ H1 { s1 with heap:=h',toks:=tk }:=I1.kept (t':=tk) fun c o e=>kp c o (Heap.lt_size e) e
  have le:(ddp ns).length<=ns.length:=by rw[<- vL];exact PyProof.Rows.firstMet_length_le _ _
  refine call_len_set (s:={ s1 with heap:=h',toks:=tk }) ho hex hd hf (by rw[hsz];omega) ?_
  exact⟨.int (ddp ns).length,H1,I2.tok _,⟨tk+1,by rw[hsz]⟩,hq _ H1 Hs1 E1 (by simp[Rep])⟩
theorem yJ{x:Str}{xs ys:List D}{p pos pt:Pos}{es:List Expr}{kt:Nat}(G:Good cx k X sc)(hx:aY cx sc x=some "zip")(ha:Ev X ρ a (.lst xs))(hp:aD a=true)(hb:Ev X ρ b (.tup ys))(hpb:aD b=true) :
  EvI X ρ (.Tuple es kt pt) (.Call (.Name x p) [a,b] [] pos) ((xs.zip ys).map fun q=>.tup [q.1,q.2]):=by
 obtain⟨hg,hm,rfl⟩:=aZ G hx
 intro σ H Hs R hs hst hq
 have q:=Br (es:=es) (kt:=kt) (pt:=pt) (p:=p) (pos:=pos) hg hm (aU (ak (X:=X) (e:=a)) (aU (ak (X:=X) (e:=b)) bN (aj hpb)) (aj hp)) (by rw[aj hp,aj hpb];rfl) (aj hpb)
 refine PI.sem q (ha σ H Hs _ hs hst fun v H1 Hs1 E1 r1=>hb σ H1 Hs1 _ E1.sub (hst.same E1.vis) fun v' H2 Hs2 E2 r2=>?_)
 obtain⟨c,vs,rfl,h1,h2⟩:=bw (Rep.same E2.vis _ _ r1)
 obtain⟨d,us,rfl,h3,h4⟩:=bF r2
 have l1:=h2.length
 have l2:=h4.length
 refine⟨c,d,rfl,⟨vs,E2.sub.seq h1⟩,⟨us,E2.sub.tup h3⟩,hq _ H2 Hs2 (E1.trans E2) fun Hs' H' e1 e2=>⟨⟨vs,us,e2.seq (e1.seq h1),e2.tup (e1.tup h3),?_⟩,fun i z hz=>?_⟩⟩
 ·rw[List.length_map,List.length_zip]
  omega
 ·rw[List.getElem?_map] at hz
  obtain⟨⟨x1,y1⟩,e3,rfl⟩:=Option.map_eq_some_iff.mp hz
  rw[List.getElem?_zip_eq_some] at e3
  obtain⟨v1,g1,g2⟩:=h2.get e3.1
  obtain⟨v2,g3,g4⟩:=h4.get e3.2
  refine⟨⟨vs,us,v1,v2,e2.seq (e1.seq h1),e2.tup (e1.tup h3),g1,g3⟩,fun w H3 y=>?_⟩
  obtain⟨p,hp',rfl,y⟩:=y
  rw[y vs us v1 v2 (e2.seq (e1.seq h1)) (e2.tup (e1.tup h3)) g1 g3]
  refine⟨_,Ext.new e2 (.tup [v1,v2]) hp',?_⟩
  have sm:=(Ext.new e2 (.tup [v1,v2]) hp').vis
  simp only[Rep]
  exact⟨p,[v1,v2],rfl,.of aQ,.cons (Rep.same sm _ _ (Rep.same e1 _ _ g2)) (.cons (Rep.same sm _ _ (Rep.same e1 _ _ g4)) .nil)⟩
theorem vD{xs:List D}:(enD xs).length=xs.length:=by simp[enD]
theorem vG{xs:List D}{i:Nat}{d:D}(h:(enD xs)[i]?=some d):∃ x,xs[i]?=some x/\d=.tup [.int (i:Int),x]:=by
 unfold enD at h
 rw[List.getElem?_map] at h
 obtain⟨⟨x,j⟩,e1,e2⟩:=Option.map_eq_some_iff.mp h
 rw[List.getElem?_zipIdx] at e1
 obtain⟨y,e3,e4⟩:=Option.map_eq_some_iff.mp e1
 simp at e4
 obtain⟨rfl,rfl⟩:=e4
 exact⟨y,e3,e2.symm⟩
theorem yL{x:Str}{xs:List D}{p pos pt:Pos}{es:List Expr}{kt:Nat}(G:Good cx k X sc)(hx:aY cx sc x=some "enumerate")(ha:Ev X ρ a (.tup xs))(hp:aD a=true) :
  EvI X ρ (.Tuple es kt pt) (.Call (.Name x p) [a] [] pos) (enD xs):=by
 obtain⟨hg,hm,rfl⟩:=aZ G hx
 intro σ H Hs R hs hst hq
 have q:=Bu (es:=es) (kt:=kt) (pt:=pt) (p:=p) (pos:=pos) hg hm (aU (ak (X:=X) (e:=a)) bN (aj hp)) (aj hp)
 refine PI.sem q (ha σ H Hs _ hs hst fun v H1 Hs1 E1 r1=>?_)
 obtain⟨c,vs,rfl,h1,h2⟩:=bF r1
 refine⟨c,rfl,⟨vs,E1.sub.tup h1⟩,hq _ H1 Hs1 E1 fun Hs' H' e1 e2=>⟨⟨vs,e2.tup (e1.tup h1),by rw[vD,h2.length]⟩,fun i d hd=>?_⟩⟩
 obtain⟨y,e3,rfl⟩:=vG hd
 obtain⟨w,g1,g2⟩:=h2.get e3
 refine⟨⟨vs,w,e2.tup (e1.tup h1),g1⟩,fun u H2 yl=>?_⟩
 obtain⟨p,hp',rfl,yl⟩:=yl
 rw[yl vs w (e2.tup (e1.tup h1)) g1]
 refine⟨_,Ext.new e2 (.tup [.int (i:Int),w]) hp',?_⟩
 have sm:=(Ext.new e2 (.tup [.int (i:Int),w]) hp').vis
 simp only[Rep]
 exact⟨p,[.int (i:Int),w],rfl,.of aQ,.cons (by simp[Rep]) (.cons (Rep.same sm _ _ (Rep.same e1 _ _ g2)) .nil)⟩
theorem vA{x:Str}{xs:List D}{p pos pt:Pos}{es:List Expr}{kt:Nat}(G:Good cx k X sc)(hx:aY cx sc x=some "enumerate")(ha:Ev X ρ a (.lst xs))(hp:aD a=true) :
  EvI X ρ (.Tuple es kt pt) (.Call (.Name x p) [a] [] pos) (enD xs):=by
 obtain⟨hg,hm,rfl⟩:=aZ G hx
 intro σ H Hs R hs hst hq
 have q:=xK (es:=es) (kt:=kt) (pt:=pt) (p:=p) (pos:=pos) hg hm (aU (ak (X:=X) (e:=a)) bN (aj hp)) (aj hp)
 refine PI.sem q (ha σ H Hs _ hs hst fun v H1 Hs1 E1 r1=>?_)
 obtain⟨c,vs,rfl,h1,h2⟩:=bw r1
 refine⟨c,rfl,⟨vs,E1.sub.seq h1⟩,hq _ H1 Hs1 E1 fun Hs' H' e1 e2=>⟨⟨vs,e2.seq (e1.seq h1),by rw[vD,h2.length]⟩,fun i d hd=>?_⟩⟩
 obtain⟨y,e3,rfl⟩:=vG hd
 obtain⟨w,g1,g2⟩:=h2.get e3
 refine⟨⟨vs,w,e2.seq (e1.seq h1),g1⟩,fun u H2 yl=>?_⟩
 obtain⟨p,hp',rfl,yl⟩:=yl
 rw[yl vs w (e2.seq (e1.seq h1)) g1]
 refine⟨_,Ext.new e2 (.tup [.int (i:Int),w]) hp',?_⟩
 have sm:=(Ext.new e2 (.tup [.int (i:Int),w]) hp').vis
 simp only[Rep]
 exact⟨p,[.int (i:Int),w],rfl,.of aQ,.cons (by simp[Rep]) (.cons (Rep.same sm _ _ (Rep.same e1 _ _ g2)) .nil)⟩
end
end L2
namespace L2
open PySem PySem.Spec PyProof.Rows DE PySem.SeqAt
theorem aO{α β:Type}{x:Option α}{f:α->Option β}{y:β}(h:(x >>=f)=some y):∃ a,x=some a/\f a=some y:=by
 cases x with
 | none=>cases h
 | some a=>exact⟨a,rfl,h⟩
def yu(X:Cx)(tg:Expr):TG:=fun v σ H Q=>∀ pins s u,Inv X pins σ H s->RelV v u->wpAny (model X.prog X.w) X.A (assign tg X.env u) (fun _ s'=>∃ σ' H',Inv X pins σ' H' s'/\Q σ' H') X.xe s
def Dh(X:Cx)(es:List Expr):TGs:=fun vs σ H Q=>∀ pins s us,Inv X pins σ H s->Vals vs us->wpAny (model X.prog X.w) X.A (assignInOrder ((assignEach es X.env).map (·.2)) us) (fun _ s'=>∃ σ' H',Inv X pins σ' H' s'/\Q σ' H') X.xe s
section
variable {X:Cx} {tg:Expr} {es:List Expr}
theorem fY:PG X tg (yu X tg):=fun pins s σ H v u Q I r h=>h pins s u I r
theorem PG.sem{t:TG}{v:V}{σ:St}{H:Hp}{Q:St->Hp->Prop}(h:PG X tg t)(q:t v σ H Q):yu X tg v σ H Q:=fun pins s u I r=>h pins s σ H v u Q I r q
theorem j4:PGs X es (Dh X es):=fun pins s σ H v u Q I r h=>h pins s u I r
theorem PGs.sem{t:TGs}{v:List V}{σ:St}{H:Hp}{Q:St->Hp->Prop}(h:PGs X es t)(q:t v σ H Q):Dh X es v σ H Q:=fun pins s u I r=>h pins s σ H v u Q I r q
end
theorem aH:∀ (ρ:Rho) (x:Str) (v:Sl),(cj ρ x v).map (·.1)=ρ.map (·.1)
  | [],_,_=>rfl
  | (y, s) :: r, x, v => by
    unfold cj
    split
    · rfl
    · simp[aH r x v]
theorem aX:∀ {ρ:Rho} {x:Str} {v:Sl} {i:Nat},(ρ.map (·.1)).Nodup->(ρ.map (·.1))[i]?=some x->∀ j:Nat,(cj ρ x v)[j]?=if j=i then some (x,v) else ρ[j]?
  | [],x,v,i,_,h,_=>by simp at h
  | (y, s) :: r, x, v, 0, hn, h, j => by
    simp at h;subst h
    cases j with
    | zero=>simp[cj]
    | succ j=>simp[cj]
  | (y, s) :: r, x, v, i + 1, hn, h, j => by
    rw[List.map_cons,List.nodup_cons] at hn
    have h':(r.map (·.1))[i]?=some x:=by simpa using h
    have hne:(x==y)=false:=by
      rw[beq_eq_false_iff_ne]
      intro e
      subst e
      exact hn.1 (List.mem_of_getElem? h')
    simp only[cj,hne,Bool.false_eq_true,if_false]
    cases j with
    | zero=>simp
    | succ j =>
      have:=aX (v:=v) hn.2 h' j
      simp only[List.getElem?_cons_succ,this,Nat.add_right_cancel_iff]
theorem bR{l:List Str}{x:Str}(h:l.contains x=true):∃ i:Nat,l[i]?=some x:=by
 have:=List.mem_of_elem_eq_true h
 exact List.mem_iff_getElem?.mp this
structure Owns (X:Cx) (scope:Scope):Prop where
 own:∀ x,ownIn scope x=true->Loc X.env.scope x/\(X.fn x=true\/X.env.scope.names.lookup x=some .local)
def jQ(K:PySem.W.Frag)(Hs:Hp)(scope:Scope)(P:Rho->St->Prop):Prop:=∀ ρ σ (i:Nat) x d v,(ρ.map (·.1)).Nodup->(ρ.map (·.1))[i]?=some x->ownIn scope x=true->P ρ σ->Rep K Hs d v->P (cj ρ x (.sh d)) (σ.set i (some v))
section
variable {X:Cx} {scope:Scope} {Hs H:Hp} {P:Rho->St->Prop} {Q:St->Hp->Prop}
theorem nC{x:Str}{pos:Pos}{ρ ρ':Rho}{σ:St}{d:D}{v:V}(hO:Owns X scope)(hnd:X.N.Nodup)(hN:X.N=ρ.map (·.1))(KE:jQ X.K Hs scope P)(hb:(if ownIn scope x&&(ρ.map (·.1)).contains x then some (cj ρ x (.sh d)) else none)=some ρ')(hp:P ρ σ)(rd:Rep X.K Hs d v)
  (hq:∀ σ',X.N=ρ'.map (·.1)->P ρ' σ'->Q σ' H):yu X (.Name x pos) v σ H Q:=by
 split at hb
 ·rename_i hc
  cases hb
  rw[Bool.and_eq_true] at hc
  obtain⟨i,hi⟩:=bR hc.2
  obtain⟨h1,h2⟩:=hO.own x hc.1
  exact PG.sem (Bw (i:=i) hnd (by rw[hN];exact hi) h1 h2) (hq _ (by rw[aH];exact hN) (KE ρ σ i x d v (by rw[<- hN];exact hnd) hi hc.1 hp rd))
 ·cases hb
theorem eG{env:Env}:∀ {es:List Expr} {ds:List D} {ρ ρ':Rho},bindNames scope es ds ρ=some ρ'->(assignEach es env).length=es.length/\(assignEach es env).findIdx? (·.1)=none/\es.length=ds.length
  | [],[],_,_,_=>⟨rfl,rfl,rfl⟩
  | [],d::ds,ρ,ρ',h=>by simp[bindNames] at h
  | e::es,[],ρ,ρ',h=>by cases e<;>simp[bindNames] at h
  | e :: es, d :: ds, ρ, ρ', h => by
    cases e<;>try (simp[bindNames] at h;done)
    rename_i x pos
    simp only[bindNames] at h
    split at h
    · obtain⟨h1,h2,h3⟩:=eG (env:=env) h
      refine⟨by show(assignEach es env).length+1=_;rw[h1];rfl,?_,by simp[h3]⟩
      show((false,assign (.Name x pos) env)::assignEach es env).findIdx? (·.1)=none
      rw[List.findIdx?_cons]
      simp only[Bool.false_eq_true,if_false,h2]
      rfl
    · cases h
theorem eO(hO:Owns X scope)(hnd:X.N.Nodup)(KE:jQ X.K Hs scope P):∀ {es:List Expr} {ds:List D} {vs:List V} {ρ ρ':Rho} {σ:St},X.N=ρ.map (·.1)->bindNames scope es ds ρ=some ρ'->P ρ σ->aL X.K Hs ds vs->(∀ σ',X.N=ρ'.map (·.1)->P ρ' σ'->Q σ' H)->Dh X es vs σ H Q
  | [], [], vs, ρ, ρ', σ, hN, h, hp, rd, hq => by
    simp only[bindNames,Option.some.injEq] at h
    subst h
    simp only[aL] at rd
    exact PGs.sem Bv ⟨rd,hq _ hN hp⟩
  | [],d::ds,vs,ρ,ρ',σ,hN,h,hp,rd,hq=>by simp[bindNames] at h
  | e::es,[],vs,ρ,ρ',σ,hN,h,hp,rd,hq=>by cases e<;>simp[bindNames] at h
  | e :: es, d :: ds, vs, ρ, ρ', σ, hN, h, hp, rd, hq => by
    cases e<;>try (simp[bindNames] at h;done)
    rename_i x pos
    simp only[bindNames] at h
    split at h
    · rename_i hc
      simp only[aL] at rd
      obtain⟨v,r,rfl,r1,r2⟩:=rd
      refine PGs.sem (xM fY j4) ⟨v,r,rfl,?_⟩
      exact nC hO hnd hN KE (ρ':=cj ρ x (.sh d)) (by rw[if_pos hc]) hp r1 fun σ' hN' hp'=>eO hO hnd KE hN' h hp' r2 hq
    · cases h
theorem oV{tg:Expr}{ρ ρ':Rho}{σ:St}{d:D}{v:V}(hc:X.calm=true)(hO:Owns X scope)(hnd:X.N.Nodup)(hs:Same Hs H)(hN:X.N=ρ.map (·.1))(KE:jQ X.K Hs scope P)(hb:eZ scope tg d ρ=some ρ')(hp:P ρ σ)(rd:Rep X.K Hs d v)
  (hq:∀ σ',X.N=ρ'.map (·.1)->P ρ' σ'->Q σ' H):yu X tg v σ H Q:=by
 unfold eZ at hb
 split at hb
 ·exact nC hO hnd hN KE hb hp rd hq
 ·rename_i es k pos ds
  obtain⟨a,vs,rfl,h1,h2⟩:=bF rd
  obtain⟨e1,e2,e3⟩:=eG (env:=X.env) hb
  exact PG.sem (zA hc j4 e1 e2) ⟨a,vs,rfl,hs.tup h1,by rw[<- h2.length,e3],eO hO hnd KE hN hb hp h2 hq⟩
 ·cases hb
end
section
variable {X Xc:Cx} {scope sc:Scope} {cx:Cxt} {k:Nat} {ρ:Rho}
theorem je:∀ {l:List Str},mL l=true->l.Nodup
  | [],_=>.nil
  | x :: r, h => by
    unfold mL at h
    rw[Bool.and_eq_true] at h
    refine List.nodup_cons.mpr ⟨fun hm=>?_,je h.2⟩
    have:r.contains x=true:=by simpa using hm
    rw[this] at h
    exact absurd h.1 (by decide)
theorem cJ(G:Good cx k X sc)(h:gD sc scope=true):scope.kind=.function/\(scope.names.map (·.1)).Nodup/\∀ x,(x,NameKind.free)∈scope.names->X.env.kindOf x=some .cell\/X.env.kindOf x=some .free:=by
 unfold gD at h
 rw[Bool.and_eq_true,Bool.and_eq_true] at h
 refine⟨by simpa using h.1.1,je h.1.2,fun x hx=>?_⟩
 have:=List.all_eq_true.mp h.2 _ hx
 show X.env.scope.names.lookup x=_\/X.env.scope.names.lookup x=_
 rw[G.sce]
 simpa using this
theorem Gs(G:Good cx k X sc):relabel scope X.env=jA scope sc:=by
 unfold relabel jA Env.kindOf
 rw[G.sce]
theorem Good.comp(G:Good cx k X sc)(C:CompOf X scope Xc)(h:gD sc scope=true):Good cx k Xc (jA scope sc) where
 calm:=C.calm
 room:=by rw[C.A];exact G.room
 sce:=by rw[C.sc,Gs G]
 kind:=(cJ G h).1
 nd:=by rw[C.N];exact(cJ G h).2.1
 cst:=by rw[C.mg,C.K];exact G.cst
 blt:=by rw[C.mg];exact G.blt
 exs:=by rw[C.mg,C.K];exact G.exs
 fns:=by rw[C.mg,C.prog,C.w,C.K,C.base];exact G.fns
 kw:=by rw[C.K,C.w];exact G.kw
theorem Owns.comp(G:Good cx k X sc)(C:CompOf X scope Xc):Owns Xc scope where
 own:=fun x hx=>by
  unfold ownIn at hx
  rw[Bool.or_eq_true] at hx
  have look:∀ kd,scope.names.lookup x=some kd->kd≠.free->Xc.env.scope.names.lookup x=some kd:=fun kd e hne=>by
   rw[C.sc]
   show(scope.names.map _).lookup x=_
   rw[dB,e]
   simp[hne]
  rcases hx with hx | hx
  ·have e:scope.names.lookup x=some .local:=by simpa using hx
   have e2:=look _ e (by decide)
   exact⟨.inl e2,.inr e2⟩
  ·have e:scope.names.lookup x=some .cell:=by simpa using hx
   have e2:=look _ e (by decide)
   refine⟨.inr e2,.inl ?_⟩
   rw[C.fn]
   show(scope.names.lookup x==some .cell)=true
   rw[e];rfl
theorem cQ:(bG scope ρ).map (·.1)=scope.names.map (·.1):=by
 unfold bG
 rw[List.map_map]
 rfl
theorem ju{K:PySem.W.Frag}{Hs:Hp}{σ:St}{N:List Str}(hN:N=ρ.map (·.1))(h:bW K Hs ρ σ):bW K Hs (bG scope ρ) (n8 N scope.names σ):=by
  intro i x d e
  unfold bG at e
  rw[List.getElem?_map] at e
  obtain⟨p,e1,e2⟩:=Option.map_eq_some_iff.mp e
  cases hk:p.2==NameKind.free with
  | false=>rw[hk] at e2;simp at e2
  | true =>
    rw[hk] at e2
    simp only[if_true,Prod.mk.injEq] at e2
    obtain⟨rfl,e2⟩:=e2
    have e3:ρ.lookup p.1=some (.sh d):=by
      cases q:ρ.lookup p.1 with
      | none=>rw[q] at e2;simp[J8] at e2
      | some sl =>
        rw[q] at e2
        cases sl<;>simp[J8] at e2
        rw[e2]
    obtain⟨j,g1,g2⟩:=bK e3
    obtain⟨v,g3,g4⟩:=h j _ d g1
    refine⟨v,?_,g4⟩
    unfold n8
    rw[List.getElem?_map,e1]
    simp only[Option.map_some,hk,if_true]
    unfold pD
    rw[hN,g2]
    simp[g3]
def CSt(K:PySem.W.Frag)(Hs:Hp)(n:Nat)(ρ0:Rho):Rho->St->Prop:=fun ρ σ=>σ.length=n/\bW K Hs ρ σ/\bW K Hs ρ0 σ
theorem mz{K:PySem.W.Frag}{Hs:Hp}{ρ:Rho}{σ:St}{i:Nat}{x:Str}{d:D}{v:V}(hn:(ρ.map (·.1)).Nodup)(hi:(ρ.map (·.1))[i]?=some x)(hl:i<σ.length)(h:bW K Hs ρ σ)(r:Rep K Hs d v):bW K Hs (cj ρ x (.sh d)) (σ.set i (some v)):=by
 intro j y d' e
 rw[aX hn hi j] at e
 split at e
 ·rename_i hj
  subst hj
  cases e
  exact⟨v,by rw[List.getElem?_set_self hl],r⟩
 ·rename_i hj
  obtain⟨w,h1,h2⟩:=h j y d' e
  exact⟨w,by rw[List.getElem?_set_ne (fun z=>hj z.symm)];exact h1,h2⟩
theorem jM{K:PySem.W.Frag}{Hs:Hp}{n:Nat}(hnd:(scope.names.map (·.1)).Nodup)(hn:n=scope.names.length):jQ K Hs scope (fun ρ1 σ=>ρ1.map (·.1)=scope.names.map (·.1)/\CSt K Hs n (bG scope ρ) ρ1 σ):=by
  intro ρ1 σ i x d v h1 h2 h3 ⟨h4,h5,h6,h7⟩ r
  refine⟨by rw[aH];exact h4,by rw[List.length_set];exact h5,?_,?_⟩
  · have hi:i<σ.length:=by
      rw[h5,hn]
      have:=(List.getElem?_eq_some_iff.mp h2).1
      rw[h4] at this
      simpa using this
    exact mz h1 h2 hi h6 r
  · intro j y d' e
    obtain⟨w,g1,g2⟩:=h7 j y d' e
    refine⟨w,?_,g2⟩
    have hj:i≠j:=by
      intro z
      subst z
      rw[h4] at h2
      unfold bG at e
      rw[List.getElem?_map] at e
      rw[List.getElem?_map] at h2
      obtain⟨p,e1,e2⟩:=Option.map_eq_some_iff.mp e
      rw[e1] at h2
      have ex:p.1=x:=by simpa using h2
      cases hk:p.2==NameKind.free with
      | false=>rw[hk] at e2;simp at e2
      | true =>
        have ek:p.2=.free:=by simpa using hk
        have hm:=List.mem_of_getElem? e1
        have:=bJ (c:=p.2) hnd (by rw[show p=(x,p.2) from by rw[<- ex]] at hm;exact hm)
        unfold ownIn at h3
        rw[this,ek] at h3
        exact absurd h3 (by decide)
    rw[List.getElem?_set_ne hj]
    exact g1
def oH(X:Cx)(ifs:List Expr):TT:=fun σ H Q=>∀ pins s,Inv X pins σ H s->wpAny (model X.prog X.w) X.A (forIn ifs true fun c r=>if r=true then do let ok <- isTrue c X.env (eval c X.env);pure (ForInStep.yield ok) else pure (ForInStep.yield r)) (TP X pins σ Q) X.xe s
theorem eF{ifs:List Expr}:wH X ifs (oH X ifs):=fun pins s σ H Q I h=>h pins s I
theorem wH.sem{ifs:List Expr}{t:TT}{σ:St}{H:Hp}{Q:Bool->Hp->Prop}(h:wH X ifs t)(q:t σ H Q):oH X ifs σ H Q:=fun pins s I=>h pins s σ H Q I q
theorem zU{f:Expr->Option D}{ifs:List Expr}{b:Bool}(hf:∀ e d,f e=some d->Ev X ρ e d/\∀ b,d=.bl b->EvT X ρ e b)(h:kW f ifs=some b){σ:St}{H Hs:Hp}{Q:Bool->Hp->Prop}(hs:Same Hs H)(hst:bW X.K Hs ρ σ)(hq:∀ H' Hs',Ext Hs H Hs' H'->Q b H'):oH X ifs σ H Q:=by
  unfold kW at h
  split at h
  · cases h
    exact wH.sem xu (hq H Hs (.refl hs))
  · rename_i c
    cases hc:f c with
    | none=>rw[hc] at h;cases h
    | some d =>
      rw[hc] at h
      cases d<;>simp[asB] at h
      subst h
      exact wH.sem (xr dY) ((hf c _ hc).2 _ rfl σ H Hs Q hs hst hq)
  · cases h
theorem Ext.acc{Hs H Hs' H':Hp}{acc:Addr}{o:HO}(E:Ext Hs H Hs' H')(h:H acc=none)(h':Hs' acc=none):Ext Hs H Hs' (upd H' acc o) where
 vis:=E.vis
 all:=fun b u e=>by rw[aM (aJ e h)];exact E.all b u e
 sub:=fun b u e=>by rw[aM (aJ e h')];exact E.sub b u e
 hid:=E.hid
theorem jw{f:D->Option (Option D)}{d:D}{r out:List D}(h:bD f (d::r)=some out):(∃ v o',f d=some (some v)/\bD f r=some o'/\out=v::o')\/(f d=some none/\bD f r=some out):=by
  simp only[bD,bind,Option.bind] at h
  cases hf:f d with
  | none=>rw[hf] at h;cases h
  | some o =>
    rw[hf] at h
    cases o with
    | none=>exact .inr ⟨rfl,h⟩
    | some v =>
      simp only[Option.map_eq_some_iff] at h
      obtain⟨o',h1,rfl⟩:=h
      exact .inl ⟨v,o',rfl,h1,rfl⟩
def ni(cx:Cxt)(n:Nat)(sc scope:Scope)(ρ:Rho)(tg elt:Expr)(ifs:List Expr):D->Option (Option D):=fun d=>do
 let ρ1 <- eZ scope tg d (bG scope ρ)
 let b <- kW (ev cx n (jA scope sc) ρ1) ifs
 if b then(ev cx n (jA scope sc) ρ1 elt).map some else some none
theorem jr{tg iter elt:Expr}{ifs:List Expr}{l out:List D}{n:Nat}(G:Good cx k X sc)(hN:X.N=ρ.map (·.1))(hok:gD sc scope=true)(hI:EvI X ρ tg iter l)(hz:szl l.length=true)(hgo:bD (ni cx n sc scope ρ tg elt ifs) l=some out)
    (hE:∀ Xc,CompOf X scope Xc->∀ ρ1:Rho,Xc.N=ρ1.map (·.1)->∀ e d,ev cx n (jA scope sc) ρ1 e=some d->Ev Xc ρ1 e d/\∀ b,d=.bl b->EvT Xc ρ1 e b)
    {σ:St} {H Hs:Hp} {Q:VK} (hs:Same Hs H) (hst:bW X.K Hs ρ σ) (hq:∀ acc vs Hs' H',Ext Hs H Hs' H'->H acc=none->Hs' acc=none->H' acc=some (.lst vs)->aL X.K Hs' out vs->Q (.ref acc) H') :
    nT X scope (nR X tg iter) (n8 X.N scope.names) (fun Xc=>yu Xc tg) (fun Xc=>oH Xc ifs) (fun Xc=>nO Xc elt) σ H Q:=by
  obtain⟨ok1,ok2,ok3⟩:=cJ G hok
  refine hI σ H Hs _ hs hst fun J H1 Hs1 E1 hJ acc hacc Xc C=>?_
  have GC:=G.comp C hok
  have OC:=Owns.comp (scope:=scope) G C
  have hNc:∀ ρ1:Rho,ρ1.map (·.1)=scope.names.map (·.1)->Xc.N=ρ1.map (·.1):=fun ρ1 h=>by rw[C.N,h]
  have a1:Hs1 acc=none:=E1.sub.free hacc
  have a0:H acc=none:=E1.all.free hacc
  let W:Nat->Nat->St->Hp->Prop:=fun i m σc H=>m=l.length-i/\i<=l.length/\∃ Hs3 ys pre rest,Ext Hs1 H1 Hs3 H/\Hs3 acc=none/\H acc=some (.lst ys)/\aL X.K Hs3 pre ys/\bD (ni cx n sc scope ρ tg elt ifs) (l.drop i)=some rest/\pre++rest=out/\pre.length<=i/\σc.length=scope.names.length/\bW X.K Hs3 (bG scope ρ) σc
  refine⟨W,⟨l.length,rfl,Nat.zero_le _,Hs1,[],[],out,Ext.acc (.refl E1.sub) hacc a1,a1,aQ,.nil,by simpa using hgo,rfl,Nat.le_refl _,by simp[n8],ju hN (hst.same E1.vis)⟩,?_⟩
  rintro i m σc H3 ⟨rfl,hi,Hs3,ys,pre,rest,E3,b3,c3,r3,g3,p3,q3,l3,s3⟩
  obtain⟨st3,go3⟩:=hJ Hs3 H3 E3.vis E3.sub
  by_cases hlt:i<l.length
  · have hd:l[i]?=some l[i]:=List.getElem?_eq_getElem hlt
    obtain⟨gi,yi⟩:=go3 i l[i] hd
    refine .inr ⟨gi,fun σ' H'=>W (i+1) (l.length-(i+1)) σ' H',fun σ' H' w=>⟨_,by omega,w⟩,fun x H4 y4=>?_⟩
    obtain⟨Hs4,E4,rx⟩:=yi x H4 y4
    have b4:Hs4 acc=none:=E4.hid acc _ c3 b3
    have c4:H4 acc=some (.lst ys):=E4.all _ _ c3
    rw[List.drop_eq_getElem_cons hlt] at g3
    have key:∃ ρ1,eZ scope tg l[i] (bG scope ρ)=some ρ1/\∃ b,kW (ev cx n (jA scope sc) ρ1) ifs=some b/\((b=true/\∃ v o',ev cx n (jA scope sc) ρ1 elt=some v/\bD (ni cx n sc scope ρ tg elt ifs) (l.drop (i+1))=some o'/\rest=v::o')\/(b=false/\bD (ni cx n sc scope ρ tg elt ifs) (l.drop (i+1))=some rest)):=by
      have inv:∀ o,ni cx n sc scope ρ tg elt ifs l[i]=some o->∃ ρ1,eZ scope tg l[i] (bG scope ρ)=some ρ1/\∃ b,kW (ev cx n (jA scope sc) ρ1) ifs=some b/\(if b then(ev cx n (jA scope sc) ρ1 elt).map some else some none)=some o:=by
        intro o h
        obtain⟨ρ1,h1,h⟩:=aO h
        obtain⟨b,h2,h⟩:=aO h
        exact⟨ρ1,h1,b,h2,h⟩
      rcases jw g3 with⟨v,o',f1,f2,f3⟩ | ⟨f1,f2⟩
      · obtain⟨ρ1,h1,b,h2,h3⟩:=inv _ f1
        refine⟨ρ1,h1,b,h2,?_⟩
        cases b with
        | false=>simp at h3
        | true =>
          simp only[if_true,Option.map_eq_some_iff] at h3
          obtain⟨w,h3,h4⟩:=h3
          have h5:w=v:=Option.some.inj h4
          subst h5
          exact .inl ⟨rfl,w,o',h3,f2,f3⟩
      · obtain⟨ρ1,h1,b,h2,h3⟩:=inv _ f1
        refine⟨ρ1,h1,b,h2,?_⟩
        cases b with
        | true=>simp at h3
        | false=>exact .inr ⟨rfl,f2⟩
    obtain⟨ρ1,k1,b,k2,k3⟩:=key
    have s4:bW X.K Hs4 (bG scope ρ) σc:=s3.same E4.vis
    have KE:=jM (K:=Xc.K) (Hs:=Hs4) (ρ:=ρ) (n:=scope.names.length) ok2 rfl
    refine oV (X:=Xc) (scope:=scope) (Hs:=Hs4) GC.calm OC GC.nd E4.sub (hNc _ cQ) KE k1 ⟨cQ,l3,by rw[C.K];exact s4,by rw[C.K];exact s4⟩ (by rw[C.K];exact rx) fun σ5 hN5 p5=>?_
    obtain⟨_,l5,s5,s5'⟩:=p5
    have hev:=hE Xc C ρ1 hN5
    refine zU hev k2 E4.sub s5 fun H6 Hs6 E6=>?_
    have b6:Hs6 acc=none:=E6.hid acc _ c4 b4
    have c6:H6 acc=some (.lst ys):=E6.all _ _ c4
    have s6:bW X.K Hs6 (bG scope ρ) σ5:=by rw[<- C.K];exact s5'.same E6.vis
    rcases k3 with⟨rfl,v,o',k3,k4,k5⟩ | ⟨rfl,k3⟩
    · refine wF ((hev elt v k3).1 σ5 H6 Hs6 _ E6.sub (s5.same E6.vis) fun w H7 Hs7 E7 r7=>?_)
      have b7:Hs7 acc=none:=E7.hid acc _ c6 b6
      have c7:H7 acc=some (.lst ys):=E7.all _ _ c6
      refine⟨ys,c7,?_,rfl,hlt,Hs7,ys++[w],pre++[v],o',Ext.acc (E3.trans (E4.trans (E6.trans E7))) hacc b7,b7,aQ,?_,k4,?_,by simp;omega,l5,s6.same E7.vis⟩
      · have:=r3.length
        have:=lW hz
        omega
      · rw[<- C.K]
        refine aL.append ?_ (.cons r7 .nil)
        rw[C.K]
        exact aL.same (E4.trans (E6.trans E7)).vis pre ys r3
      · rw[<- p3,k5];simp
    · refine yg ?_
      exact⟨rfl,hlt,Hs6,ys,pre,rest,E3.trans (E4.trans E6),b6,c6,aL.same (E4.trans E6).vis pre ys r3,k3,p3,by omega,l5,s6⟩
  · have hi':i=l.length:=by omega
    subst hi'
    refine .inl ⟨st3,?_⟩
    rw[List.drop_length] at g3
    simp only[bD,Option.some.injEq] at g3
    subst g3
    rw[List.append_nil] at p3
    subst p3
    exact hq acc ys Hs3 H3 (E1.trans E3) a0 b3 c3 r3
end
end L2
namespace L2
open PySem PySem.Spec PyProof.Rows DE PySem.SeqAt
section
variable {X:Cx} {ρ:Rho} {cx:Cxt} {k:Nat} {sc scope:Scope}
end
end L2
namespace L2
open PySem PySem.Spec PyProof.Rows DE PySem.SeqAt
theorem Ext.shown{Hs H Hs' H':Hp}{acc:Addr}{o:HO}(E:Ext Hs H Hs' H')(h:H acc=none)(h1:Hs' acc=none)(h2:H' acc=some o):Ext Hs H (upd Hs' acc o) H' where
 vis:=fun b u e=>by rw[aM (aJ (E.vis b u e) h1)];exact E.vis b u e
 all:=E.all
 sub:=fun b u e=>by
  by_cases hb:b=acc
  ·subst hb;rw[aQ] at e;rw[h2];exact e
  ·rw[aM hb] at e;exact E.sub b u e
 hid:=fun b u e n=>by rw[aM (aJ e h)];exact E.hid b u e n
section
variable {X:Cx} {ρ:Rho} {cx:Cxt} {k:Nat} {sc scope:Scope}
theorem Dz{tg iter elt:Expr}{ifs:List Expr}{l out:List D}{n:Nat}{pos:Pos}(G:Good cx k X sc)(hN:X.N=ρ.map (·.1))(hok:gD sc scope=true)(hI:EvI X ρ tg iter l)(hp:aD iter=true)(hz:szl l.length=true)(hgo:bD (ni cx n sc scope ρ tg elt ifs) l=some out)
  (hE:∀ Xc,CompOf X scope Xc->∀ ρ1:Rho,Xc.N=ρ1.map (·.1)->∀ e d,ev cx n (jA scope sc) ρ1 e=some d->Ev Xc ρ1 e d/\∀ b,d=.bl b->EvT Xc ρ1 e b) :
  Ev X ρ (.ListComp elt [⟨tg,iter,ifs,0⟩] scope pos) (.lst out):=by
 obtain⟨ok1,ok2,ok3⟩:=cJ G hok
 intro σ H Hs Q hs hst hq
 refine PE.sem (j6 G.calm ok1 ok2 ok3 iZ (fun Xc C=>⟨fY,eF,ak⟩) (cW hp)) (jr G hN hok hI hz hgo hE hs hst fun acc vs Hs' H' E1 h1 h2 h3 r=>?_)
 have E2:=E1.shown h1 h2 h3
 refine hq _ H' _ E2 ?_
 simp only[Rep]
 refine⟨acc,vs,rfl,.of aQ,aL.same (fun b u e=>?_) out vs r⟩
 rw[aM (aJ e h2)];exact e
def WkP (cx : Cxt) (sc : Scope) (e : Expr) : Wk -> Prop
    | .r1 a=>∃ x p pos,e=.Call (.Name x p) [a] [] pos/\aY cx sc x=some "range"
    | .r2 a b=>∃ x p pos,e=.Call (.Name x p) [a,b] [] pos/\aY cx sc x=some "range"
    | .r3 a b c=>∃ x p pos,e=.Call (.Name x p) [a,b,c] [] pos/\aY cx sc x=some "range"
    | .zp a b=>∃ x p pos,e=.Call (.Name x p) [a,b] [] pos/\aY cx sc x=some "zip"
    | .rv a=>∃ x p pos,e=.Call (.Name x p) [a] [] pos/\aY cx sc x=some "reversed"
    | .en a=>∃ x p pos,e=.Call (.Name x p) [a] [] pos/\aY cx sc x=some "enumerate"
    | .sq=>True
theorem FN{e:Expr}:WkP cx sc e (jT cx sc e):=by
 unfold jT
 split
 ·rename_i x p args pos
  split
  ·rename_i h
   split
   ·exact⟨x,p,pos,rfl,h⟩
   ·exact⟨x,p,pos,rfl,h⟩
   ·exact⟨x,p,pos,rfl,h⟩
   ·trivial
  ·rename_i h
   split
   ·exact⟨x,p,pos,rfl,h⟩
   ·trivial
  ·rename_i h
   split
   ·exact⟨x,p,pos,rfl,h⟩
   ·trivial
  ·rename_i h
   split
   ·exact⟨x,p,pos,rfl,h⟩
   ·trivial
  ·trivial
 ·trivial
theorem bI{x:Option D}{i:Int}(h:x.bind asI=some i):x=some (.int i):=by
 obtain⟨d,h1,h2⟩:=aO (show(x >>=asI)=some i from h)
 cases d<;>simp[asI] at h2
 subst h2;exact h1
theorem iM{x:Option D}{i:Bool}(h:x.bind asB=some i):x=some (.bl i):=by
 obtain⟨d,h1,h2⟩:=aO (show(x >>=asB)=some i from h)
 cases d<;>simp[asB] at h2
 subst h2;exact h1
theorem mR{x:Option D}{i:List D}(h:x.bind xZ=some i):x=some (.lst i):=by
 obtain⟨d,h1,h2⟩:=aO (show(x >>=xZ)=some i from h)
 cases d<;>simp[xZ] at h2
 subst h2;exact h1
theorem vq{f:Expr->Option D}{tg e:Expr}{l:List D}(G:Good cx k X sc)(hf:∀ e d,f e=some d->Ev X ρ e d/\aD e=true)(h:evI cx (d7 tg) f sc e=some l):EvI X ρ tg e l/\aD e=true:=by
 unfold evI at h
 have w:=FN (cx:=cx) (sc:=sc) (e:=e)
 split at h
 ·rename_i a hw
  rw[hw] at w
  obtain⟨x,p,pos,rfl,hx⟩:=w
  obtain⟨j,h1,h⟩:=aO h
  split at h
  ·rename_i hj
   cases h
   obtain⟨ha,hp⟩:=hf _ _ (bI h1)
   exact⟨rP G hx ha hp hj,rfl⟩
  ·cases h
 ·rename_i a b hw
  rw[hw] at w
  obtain⟨x,p,pos,rfl,hx⟩:=w
  obtain⟨i,h1,h⟩:=aO h
  obtain⟨j,h2,h⟩:=aO h
  split at h
  ·rename_i hj
   cases h
   rw[Bool.and_eq_true] at hj
   obtain⟨ha,hp⟩:=hf _ _ (bI h1)
   obtain⟨hb,hpb⟩:=hf _ _ (bI h2)
   exact⟨rO G hx ha hp hb hpb hj.1 hj.2,rfl⟩
  ·cases h
 ·rename_i a b c hw
  rw[hw] at w
  obtain⟨x,p,pos,rfl,hx⟩:=w
  obtain⟨i,h1,h⟩:=aO h
  obtain⟨j,h2,h⟩:=aO h
  obtain⟨s,h3,h⟩:=aO h
  split at h
  ·rename_i hj
   simp only[Bool.and_eq_true,decide_eq_true_eq] at hj
   obtain⟨⟨rfl,hj1⟩,hj2⟩:=hj
   cases h
   obtain⟨ha,hp⟩:=hf _ _ (bI h1)
   obtain⟨hb,hpb⟩:=hf _ _ (bI h2)
   obtain⟨hc,hpc⟩:=hf _ _ (bI h3)
   exact⟨rN G hx ha hp hb hpb hc hpc hj1 hj2,rfl⟩
  ·cases h
 ·rename_i a b hw
  rw[hw] at w
  obtain⟨x,p,pos,rfl,hx⟩:=w
  obtain⟨d1,h1,h⟩:=aO h
  obtain⟨d2,h2,h⟩:=aO (show(f b >>=fun y=>if d7 tg=true then Ji d1 y else none)=some l from h)
  have h':(if d7 tg=true then Ji d1 d2 else none)=some l:=h
  clear h
  split at h'
  ·rename_i ht
   obtain⟨ha,hp⟩:=hf _ _ h1
   obtain⟨hb,hpb⟩:=hf _ _ h2
   cases tg<;>simp[d7] at ht
   unfold Ji at h'
   split at h'
   ·cases h';exact⟨DQ G hx ha hp hb hpb,rfl⟩
   ·cases h';exact⟨yK G hx ha hp hb hpb,rfl⟩
   ·cases h';exact⟨yJ G hx ha hp hb hpb,rfl⟩
   ·simp at h'
   ·cases h'
  ·cases h'
 ·rename_i a hw
  rw[hw] at w
  obtain⟨x,p,pos,rfl,hx⟩:=w
  obtain⟨xs,h1,h⟩:=aO h
  cases h
  obtain⟨ha,hp⟩:=hf _ _ (mR h1)
  exact⟨vp G hx ha hp,rfl⟩
 ·rename_i a hw
  rw[hw] at w
  obtain⟨x,p,pos,rfl,hx⟩:=w
  obtain⟨d1,h1,h⟩:=aO h
  split at h
  ·rename_i ht
   obtain⟨us,hu,rfl⟩:=Option.map_eq_some_iff.mp h
   obtain⟨ha,hp⟩:=hf _ _ h1
   cases tg<;>simp[d7] at ht
   cases d1<;>simp[items] at hu
   ·subst hu;exact⟨yL G hx ha hp,rfl⟩
   ·subst hu;exact⟨vA G hx ha hp,rfl⟩
  ·cases h
 ·obtain⟨d,h1,h2⟩:=aO (show(f e >>=items)=some l from h)
  obtain⟨ha,hp⟩:=hf _ _ h1
  exact⟨DR ha h2,hp⟩
theorem Ah{t:Expr}{T:String}(h:tyOf cx sc t=some T):∃ x p,t=.Name x p/\aY cx sc x=some T:=by
 unfold tyOf at h
 split at h
 ·exact⟨_,_,rfl,h⟩
 ·cases h
def WcP (cx : Cxt) (sc : Scope) (b : String) (args : List Expr) : Wc -> Prop
    | .lr1 a=>∃ x p pos,args=[.Call (.Name x p) [a] [] pos]/\aY cx sc x=some "range"/\b="list"
    | .lr2 a a'=>∃ x p pos,args=[.Call (.Name x p) [a,a'] [] pos]/\aY cx sc x=some "range"/\b="list"
    | .tv a=>∃ x p pos,args=[.Call (.Name x p) [a] [] pos]/\aY cx sc x=some "reversed"/\b="tuple"
    | .tr1 a=>∃ x p pos,args=[.Call (.Name x p) [a] [] pos]/\aY cx sc x=some "range"/\b="tuple"
    | .ls a=>∃ x p pos,args=[.Call (.Name x p) [a] [] pos]/\aY cx sc x=some "set"/\b="len"
    | .al=>True
theorem JK{b:String}{args:List Expr}:WcP cx sc b args (wL cx sc b args):=by
 unfold wL
 split
 ·rename_i e
  have w:=FN (cx:=cx) (sc:=sc) (e:=e)
  split
  ·rename_i hw
   rw[hw] at w
   obtain⟨x,p,pos,rfl,hx⟩:=w
   exact⟨x,p,pos,rfl,hx,rfl⟩
  ·rename_i hw
   rw[hw] at w
   obtain⟨x,p,pos,rfl,hx⟩:=w
   exact⟨x,p,pos,rfl,hx,rfl⟩
  ·rename_i hw
   rw[hw] at w
   obtain⟨x,p,pos,rfl,hx⟩:=w
   exact⟨x,p,pos,rfl,hx,rfl⟩
  ·rename_i hw
   rw[hw] at w
   obtain⟨x,p,pos,rfl,hx⟩:=w
   exact⟨x,p,pos,rfl,hx,rfl⟩
  ·split
   ·rename_i a ha
    unfold Ti at ha
    split at ha
    ·rename_i y q a' q' _
     split at ha
     ·rename_i hb
      cases ha
      exact⟨y,q,q',rfl,by simpa using hb,rfl⟩
     ·cases ha
    ·cases ha
   ·trivial
  ·trivial
 ·trivial
end
theorem cI(cx:Cxt):∀ (n:Nat) {k:Nat} {X:Cx} {sc:Scope} {ρ:Rho} {e:Expr} {d:D},Good cx k X sc->X.N=ρ.map (·.1)->ev cx n sc ρ e=some d->Ev X ρ e d/\∀ b,d=.bl b->EvT X ρ e b
  | 0,k,X,sc,ρ,e,d,_,_,h=>by exact nomatch (show(Option.none:Option D)=some d from h)
  | n + 1, k, X, sc, ρ, e, d, G, hN, h => by
    have ih:∀ e d,ev cx n sc ρ e=some d->Ev X ρ e d/\∀ b,d=.bl b->EvT X ρ e b:=fun e d h=>cI cx n G hN h
    have ihp:∀ e d,ev cx n sc ρ e=some d->Ev X ρ e d/\aD e=true:=fun e d h=>⟨(ih e d h).1,aV h⟩
    have val:∀ {e d},(∀ whole,isTrue e X.env whole=(do let v <- whole;standAt e.pos;holding [v] (truthy v)))->Ev X ρ e d->Ev X ρ e d/\∀ b,d=.bl b->EvT X ρ e b:=fun he h1=>⟨h1,fun b hb=>by subst hb;exact DN h1 he⟩
    cases e with
    | Name x pos =>
      simp only[ev] at h
      split at h
      · rename_i hp
        refine val (fun _=>rfl) ?_
        have fin:∀ kd,sc.names.lookup x=some kd->(kd=.local\/kd=.cell\/kd=.free)->(match ρ.lookup x with | some (.sh d)=>some d | _=>none)=some d->Ev X ρ (.Name x pos) d:=by
          intro kd hk hkd hm
          split at hm
          · rename_i d' hl
            cases hm
            refine Dr hN ?_ hp hl
            unfold Vis
            rw[G.sce,hk]
            rcases hkd with rfl | rfl | rfl
            · exact .inl rfl
            · exact .inr (.inl rfl)
            · exact .inr (.inr rfl)
          · cases hm
        split at h
        · rename_i hk;exact fin _ hk (.inl rfl) h
        · rename_i hk;exact fin _ hk (.inr (.inl rfl)) h
        · rename_i hk;exact fin _ hk (.inr (.inr rfl)) h
        · rename_i hk
          obtain⟨v,u,h0,h1,h2⟩:=G.cst x d h
          exact Iv (show X.env.scope.names.lookup x=_ by rw[G.sce];exact hk) h0 h1 h2 hp
        · cases h
      · cases h
    | Constant c j pos =>
      simp only[ev] at h
      exact val (fun _=>rfl) (yE h)
    | BinOp a op b pos =>
      simp only[ev] at h
      obtain⟨x,h1,h⟩:=aO h
      obtain⟨y,h2,h⟩:=aO h
      exact val (fun _=>rfl) (yF (ih _ _ h1).1 (ih _ _ h2).1 h)
    | UnaryOp op a pos =>
      simp only[ev] at h
      obtain⟨x,h1,h⟩:=aO h
      cases op<;>simp only[Option.map_eq_some_iff] at h<;>try (cases h;done)
      · obtain⟨b,h2,rfl⟩:=h
        cases x<;>simp[asB] at h2
        subst h2
        refine⟨Io (ih _ _ h1).1,fun c hc=>?_⟩
        cases hc
        exact DP ((ih _ _ h1).2 _ rfl)
      · obtain⟨i,h2,rfl⟩:=h
        cases x<;>simp[asI] at h2
        subst h2
        exact val (fun _=>rfl) (Ip (ih _ _ h1).1)
    | BoolOp op es pos =>
      simp only[ev] at h
      obtain⟨h1,h2⟩:=mY (pos:=pos) (fun e _ d hd=>ih e d hd) h
      exact⟨h1,fun b hb=>(h2 b hb).t⟩
    | Compare a ops bs pos =>
      simp only[ev] at h
      split at h
      · obtain⟨x,h1,h⟩:=aO h
        obtain⟨y,h2,h⟩:=aO h
        exact DG G.room (ih _ _ h1).1 (ih _ _ h2).1 (aV h2) h
      · split at h
        · cases h
        rename_i e3 hpl
        have hpl':aD e3=true:=by simpa using hpl
        obtain⟨x,h1,h⟩:=aO h
        obtain⟨y,h2,h⟩:=aO h
        obtain⟨c,h3,h⟩:=aO h
        have h3':=iM h3
        cases c with
        | false =>
          simp only[Bool.false_eq_true,if_false,Option.some.injEq] at h
          subst h
          exact vo G.room (ih _ _ h1).1 (ih _ _ h2).1 hpl' h3' ⟨fun q=>(nomatch q),fun _=>rfl⟩
        | true =>
          simp only[if_true] at h
          obtain⟨z,h4,h⟩:=aO h
          exact vo G.room (ih _ _ h1).1 (ih _ _ h2).1 (aV h4) h3' ⟨fun _=>⟨z,(ih _ _ h4).1,h⟩,fun q=>nomatch q⟩
      · cases h
    | IfExp c a b pos =>
      simp only[ev] at h
      obtain⟨t,h1,h⟩:=aO h
      have h1':=(ih _ _ (iM h1)).2 _ rfl
      cases t with
      | true =>
        simp only[if_true] at h
        refine⟨Iu h1' (fun _=>(ih _ _ h).1) (fun q=>nomatch q),fun r hr=>zV h1' (fun _=>(ih _ _ h).2 r hr) (fun q=>nomatch q)⟩
      | false =>
        simp only[Bool.false_eq_true,if_false] at h
        refine⟨Iu h1' (fun q=>nomatch q) (fun _=>(ih _ _ h).1),fun r hr=>zV h1' (fun q=>nomatch q) (fun _=>(ih _ _ h).2 r hr)⟩
    | Tuple es j pos =>
      simp only[ev] at h
      obtain⟨ds,h1,h⟩:=aO h
      split at h
      · rename_i hz
        cases h
        exact val (fun _=>rfl) (yx (fK (fun e _ d hd=>ihp e d hd) h1).1 hz)
      · cases h
    | List es pos =>
      simp only[ev] at h
      obtain⟨ds,h1,h⟩:=aO h
      split at h
      · rename_i hz
        cases h
        exact val (fun _=>rfl) (Dt (fK (fun e _ d hd=>ihp e d hd) h1).1 hz)
      · cases h
    | Subscript a b pos =>
      simp only[ev] at h
      obtain⟨x,h1,h⟩:=aO h
      split at h
      · split at h
        · obtain⟨l,h2,h⟩:=aO h
          obtain⟨u,h3,h⟩:=aO h
          have hl:∀ {o:Option Expr} {l:Option Int},(match o with | none=>some none | some e=>(ev cx n sc ρ e).bind fun d=>(asI d).map some)=some l->EvO X ρ o l:=by
            intro o l h2
            cases o with
            | none=>cases h2;exact yI
            | some e =>
              simp only at h2
              obtain⟨d',g1,g2⟩:=Option.bind_eq_some_iff.mp h2
              obtain⟨i,g3,rfl⟩:=Option.map_eq_some_iff.mp g2
              cases d'<;>simp[asI] at g3
              subst g3
              exact yH (ih _ _ g1).1
          split at h
          · rename_i xs
            split at h
            · rename_i hw
              cases h
              rw[Bool.and_eq_true] at hw
              exact val (fun _=>rfl) (vg (ih _ _ h1).1 (hl h2) (hl h3) ⟨by simpa using hw.1,by simpa using hw.2⟩)
            · rename_i hw
              cases h
              refine val (fun _=>rfl) (yD (ih _ _ h1).1 (hl h2) (hl h3) fun q=>hw ?_)
              rw[q.1,q.2]
              simp
          · cases h
            exact val (fun _=>rfl) (vh (ih _ _ h1).1 (hl h2) (hl h3))
          · cases h
        · obtain⟨rfl,rfl,hc,us,rfl,rfl⟩:=Bd h
          exact val (fun _=>rfl) (Dp (ih _ _ h1).1 (ih _ _ (bI hc)).1)
      · obtain⟨y,h2,h⟩:=aO h
        have hp2:=aV h2
        have hr:=G.room
        unfold Jk at h
        split at h
        · exact val (fun _=>rfl) (qt (ih _ _ h1).1 (ih _ _ h2).1 hp2 rfl h)
        · exact val (fun _=>rfl) (qt (ih _ _ h1).1 (ih _ _ h2).1 hp2 rfl h)
        · obtain⟨k',h3,h4⟩:=Option.bind_eq_some_iff.mp h
          exact val (fun _=>rfl) (Dw G.kw (ih _ _ h1).1 (ih _ _ h2).1 hp2 h3 h4)
        · cases h
    | Dict ks vs pos =>
      simp only[ev] at h
      split at h
      · cases h
      · rename_i hz
        obtain⟨l,h1,rfl⟩:=Option.map_eq_some_iff.mp h
        simp only[Bool.or_eq_true,decide_eq_true_eq,not_or,Bool.not_eq_true] at hz
        exact val (fun _=>rfl) (Dy (fun e d hd=>(ih e d hd).1) hz.1 (by omega) h1)
    | Call f args kws pos =>
      refine val (fun _=>rfl) ?_
      simp only[ev] at h
      split at h
      · rename_i x p
        split at h
        · rename_i hg
          have hb:∀ {b},cx.blt.lookup x=some b->aY cx sc x=some b:=fun q=>by unfold aY;rw[if_pos hg];exact q
          split at h
          · rename_i hx
            split at h
            · obtain⟨d',h1,h⟩:=aO h
              split at h
              · rename_i c' hxo
                split at h
                · rename_i c
                  split at h
                  · rename_i hin
                    cases h
                    exact Du G (hb hx) hxo hin (ih _ _ h1).1 (aV h1)
                  · cases h
                · cases h
              · obtain⟨T,h2,h5⟩:=aO h
                clear h
                obtain⟨t,pt,rfl,ht⟩:=Ah h2
                split at h5
                · rename_i c
                  split at h5
                  · rename_i hc
                    rw[Bool.and_eq_true] at hc
                    have eT:T="ValueError":=by simpa using hc.2
                    subst eT
                    cases h5
                    exact Dv G (hb hx) ht hc.1 (ih _ _ h1).1 (aV h1)
                  · cases h5
                · cases h5
                · rename_i hne hne2
                  split at h5
                  · rename_i hk
                    cases h5
                    refine Ir G (hb hx) ht hk (ih _ _ h1).1 (aV h1) ?_
                    cases d'<;>first | rfl | exact absurd rfl (hne _) | exact absurd rfl (hne2 _ _)
                  · cases h5
            · cases h
          · rename_i b _ hx
            have wc:=JK (cx:=cx) (sc:=sc) (b:=b) (args:=args)
            split at h
            · rename_i a hw
              rw[hw] at wc
              obtain⟨y,q,q',rfl,hy,rfl⟩:=wc
              obtain⟨j,h1,h⟩:=aO h
              split at h
              · rename_i hz
                rw[Bool.and_eq_true] at hz
                cases h
                have h1':=bI h1
                exact rK G (hb hx) hy (ih _ _ h1').1 (aV h1') hz.1 hz.2
              · cases h
            · rename_i a a' hw
              rw[hw] at wc
              obtain⟨y,q,q',rfl,hy,rfl⟩:=wc
              obtain⟨i,h1,h⟩:=aO h
              obtain⟨j,h2,h⟩:=aO h
              split at h
              · rename_i hz
                rw[Bool.and_eq_true,Bool.and_eq_true] at hz
                cases h
                have h1':=bI h1
                have h2':=bI h2
                exact rJ G (hb hx) hy (ih _ _ h1').1 (aV h1') (ih _ _ h2').1 (aV h2') hz.1.1 hz.1.2 hz.2
              · cases h
            · rename_i a hw
              rw[hw] at wc
              obtain⟨y,q,q',rfl,hy,rfl⟩:=wc
              simp at h
            · rename_i a hw
              rw[hw] at wc
              obtain⟨y,q,q',rfl,hy,rfl⟩:=wc
              simp at h
            · rename_i a hw
              rw[hw] at wc
              obtain⟨y,q,q',rfl,hy,rfl⟩:=wc
              obtain⟨xs,h1,h⟩:=aO h
              obtain⟨ns,h2,h⟩:=aO h
              split at h
              · rename_i hz
                cases h
                have h1':=mR h1
                exact vm G (hb hx) hy (ih _ _ h1').1 (aV h1') h2 (by simpa using hz)
              · cases h
            · split at h
              · cases h
              · rename_i hne
                obtain⟨ds,h1,h2⟩:=aO h
                obtain⟨ha,hp⟩:=fK (fun e _ d hd=>ihp e d hd) h1
                cases args with
                | nil=>exact absurd rfl hne
                | cons e es=>exact yG G (hb hx) ha hp h2
          · split at h
            · rename_i hf
              rw[Bool.and_eq_true] at hf
              obtain⟨ds,h1,h⟩:=aO h
              obtain⟨ha,hp⟩:=fK (fun e _ d hd=>ihp e d hd) h1
              have hgl:Gl X x:=by
                have e:sc.names.lookup x=some .globalImplicit:=by unfold yh at hg;simpa using hg
                show X.env.scope.names.lookup x=_
                rw[G.sce,e]
              refine DK G hgl hf.1 (fun q=>?_) ha hp h
              rw[q] at hf
              exact absurd hf.2 (by decide)
            · cases h
        · cases h
      · split at h
        · split at h
          · rename_i hx
            obtain⟨c,h1,h⟩:=aO h
            obtain⟨d',h2,h⟩:=aO h
            exact Ds G (by simpa using hx) h1 (ih _ _ h2).1 (aV h2) h
          · cases h
        · cases h
      · split at h
        · split at h
          · rename_i hl
            obtain⟨x,h1,h⟩:=aO h
            obtain⟨z,h2,h⟩:=aO h
            simp[uD] at h
          · cases h
        · cases h
      · simp at h
      · simp at h
      · cases h
    | ListComp elt gens scope pos =>
      refine val (fun _=>rfl) ?_
      simp only[ev] at h
      split at h
      · rename_i tg iter ifs a
        split at h
        · rename_i hok
          rw[Bool.and_eq_true] at hok
          have ea:a=0:=by simpa using hok.1
          subst ea
          obtain⟨l,h1,h⟩:=aO h
          split at h
          · rename_i hz
            obtain⟨out,h2,h⟩:=aO h
            cases h
            obtain⟨hI,hp⟩:=vq (tg:=tg) G ihp h1
            exact Dz G hN hok.2 hI hp hz h2 fun Xc C ρ1 hN1 e d he=>cI cx n (G.comp C hok.2) hN1 he
          · cases h
        · cases h
      · cases h
    | _=>exact nomatch (show(Option.none:Option D)=some d from h)
end L2
namespace L2
open PySem PySem.Spec PyProof.Rows DE PySem.SeqAt
section
variable {prog:Program} {w:World} {A:Around} {E:Value->Shared->Prop}
theorem jN{it t:Addr}{xs:List Value}(apart:t≠it):∀ (more i:Nat) (s:Shared) (Q:List Value->Shared->Prop),s.heap.IsListIter it t i->s.heap.IsList t xs.toArray->i+more<=xs.length ->
    (∀ h',h'.IsListIter it t (i+more)->Heap.SameBut it s.heap h'->Q ((xs.drop i).take more) { s with heap:=h' })->wpAny (model prog w) A (draw (.ref it) more) Q E s
  | 0, i, s, Q, it0, _, _, q => by
    show wpAny _ _ (pure []) _ _ _
    exact wpAny_pure (by simpa using q s.heap it0 (Heap.SameBut.refl ..))
  | more + 1, i, s, Q, it0, hl, hle, q => by
    have lt:i<xs.length:=by omega
    show wpAny _ _ (pyNext (.ref it) >>=_) _ _ _
    refine wpAny_bind (wpAny_pyNext_list_item it0 hl (x:=xs[i]) (by simp[lt]) fun h1 st1 sb1=>?_)
    have hl1:h1.IsList t xs.toArray:=by
      obtain⟨o,e,r⟩:=hl
      exact⟨o,(sb1.2 t apart).trans e,r⟩
    refine wpAny_bind (wpAny_holding (jN apart more (i+1) _ _ st1 hl1 (by omega) fun h2 st2 sb2=>wpAny_pure ?_))
    have z:=q h2 (by rw[show i+(more+1)=i+1+more by omega];exact st2) (sb1.trans sb2)
    rw[List.drop_eq_getElem_cons lt,List.take_succ_cons] at z
    exact z
theorem jU{s:Shared}{t:Addr}{xs:List Value}{Q:List Value->Shared->Prop}(hh:A.handled=none)(hl:s.heap.IsList t xs.toArray)(q:∀ h',(∀ b o,s.heap.get? b=some o->h'.get? b=some o)->Q xs { s with heap:=h' }) :
  wpAny (model prog w) A (unpackItems (.ref t) xs.length none) Q E s:=by
 have apart:t≠s.heap.objs.size:=by obtain⟨o,e,_⟩:=hl;exact Nat.ne_of_lt (Heap.lt_size e)
 have keep:∀ {h':Heap},(∀ b o,b≠s.heap.objs.size->s.heap.get? b=some o->h'.get? b=some o)->∀ b o,s.heap.get? b=some o->h'.get? b=some o:=fun k b o e=>k b o (Nat.ne_of_lt (Heap.lt_size e)) e
 have pushed:∀ (n:Obj),(s.heap.push n).IsList t xs.toArray:=fun n=>by
  obtain⟨o,e,r⟩:=hl
  exact⟨o,Heap.get?_push_of_some _ e,r⟩
 simp only[unpackItems,notIterableAtAll]
 refine wpAny_bind (wpAny_bind (wpAny_specialOf hl.typeIs PySem.slot_list_iter.lookup (wpAny_pure ?_)))
 simp only[Bool.false_eq_true,if_false,Option.isNone_some,Bool.not_true,Bool.false_and]
 refine wpAny_bind (wpAny_holding (wpAny_pyIter_list hl ?_))
 refine wpAny_bind (wpAny_holding (jN apart xs.length 0 _ _ ⟨_,Heap.get?_push_size _ rfl,rfl,rfl⟩ (pushed _) (by omega) fun h1 st1 sb1=>?_))
 have all:List.take xs.length (List.drop 0 xs)=xs:=by simp
 rw[all,if_neg (by simp)]
 have hl1:h1.IsList t xs.toArray:=by
  obtain⟨o,e,r⟩:=pushed { cls:=.type "list_iterator",data:=.fields #[.ref t,.int 0 0] }
  exact⟨o,(sb1.2 t apart).trans e,r⟩
 refine wpAny_bind (wpAny_holding (wpAny_pyNext_list_end hh st1 hl1 (by simp) fun h2 eb=>?_))
 simp only[Option.isSome_none,Bool.false_eq_true,if_false]
 exact wpAny_pure (q h2 (keep fun b o hb e=>eb b o hb ((sb1.2 b hb).trans (Heap.get?_push_of_some _ e))))
end
section
variable {X:Cx} {es:List Expr} {k:Nat} {t:TGs} {n:Nat} {pos:Pos}
def Yc(K:PySem.W.Frag)(n:Nat)(t:TGs):TG:=fun v σ H Q=>∃ a xs,v=.ref a/\SqL K H a xs/\xs.length=n/\t xs σ H Q
theorem GK(hc:X.calm=true)(h:PGs X es t)(hn:(assignEach es X.env).length=n)(hst:(assignEach es X.env).findIdx? (·.1)=none):PG X (.Tuple es k pos) (Yc X.K n t):=by
 intro pins s σ H v u Q I r hw
 obtain⟨a,xs,rfl,hq,hl,hw⟩:=hw
 cases (show u=Value.ref a from r)
 obtain⟨its,rv,pl,hz⟩:=I.list hq
 have e:(assignEach es X.env).length=its.length:=by rw[hn,<- hl,rv.length]
 rw[assign_Tuple]
 refine wpAny_bind (wpAny_standAt ?_)
 unfold unpack
 rw[hst,e]
 refine wpAny_bind (wpAny_holding (jU (I.ok.hd hc) pl.isList fun h' kp=>?_))
 exact h pins _ σ H xs _ Q (I.kept (t':=s.toks) kp) rv hw
end
def OO(K:PySem.W.Frag)(H0 Hs H:Hp)(a:Addr)(bs:List Addr)(dss:List (List D)):Prop :=
  H a = some (.lst (bs.map V.ref)) /\ Hs a = none /\ H0 a = none /\ bs.Nodup /\ a ∉ bs /\ bs.length = dss.length /\
    ∀ (j:Nat) b,bs[j]?=some b->Hs b=none/\H0 b=none/\∃ ds us,dss[j]?=some ds/\H b=some (.lst us)/\aL K Hs ds us
structure Hd (K:PySem.W.Frag) (Hs0 H0 Hs H:Hp) (ρ:Rho) (σ:St):Prop where
 ext:Ext Hs0 H0 Hs H
 len:σ.length=ρ.length
 sh:bW K Hs ρ σ
 ow:∀ (i:Nat) (x:Str) (ds:List D),ρ[i]?=some (x,.ow ds)->∃ a vs,σ[i]?=some (some (.ref a))/\H a=some (.lst vs)/\aL K Hs ds vs/\Hs a=none/\H0 a=none
 dis:∀ (i j:Nat) (x y:Str) (ds es:List D) (a:Addr),i≠j->ρ[i]?=some (x,.ow ds)->ρ[j]?=some (y,.ow es)->σ[i]?=some (some (.ref a))->σ[j]?=some (some (.ref a))->False
 oo:∀ (i:Nat) (x:Str) (dss:List (List D)),ρ[i]?=some (x,.oo dss)->(∃ a bs,σ[i]?=some (some (.ref a))/\OO K H0 Hs H a bs dss)/\∀ (j:Nat) y s,j≠i->ρ[j]?=some (y,s)->vO s=true
section
variable {K:PySem.W.Frag} {Hs0 H0 Hs H Hs' H':Hp} {ρ:Rho} {σ:St}
theorem OO.step{a:Addr}{bs:List Addr}{dss:List (List D)}(h:OO K H0 Hs H a bs dss)(E:Ext Hs H Hs' H'):OO K H0 Hs' H' a bs dss:=by
 obtain⟨h1,h2,h3,h4,h5,h6,h7⟩:=h
 refine⟨E.all _ _ h1,E.hid a _ h1 h2,h3,h4,h5,h6,fun j b e=>?_⟩
 obtain⟨k1,k2,ds,us,k3,k4,k5⟩:=h7 j b e
 exact⟨E.hid b _ k4 k1,k2,ds,us,k3,E.all _ _ k4,aL.same E.vis ds us k5⟩
theorem Hd.step(h:Hd K Hs0 H0 Hs H ρ σ)(E:Ext Hs H Hs' H'):Hd K Hs0 H0 Hs' H' ρ σ where
 ext:=h.ext.trans E
 len:=h.len
 sh:=h.sh.same E.vis
 ow:=fun i x ds e=>by
  obtain⟨a,vs,h1,h2,h3,h4,h5⟩:=h.ow i x ds e
  exact⟨a,vs,h1,E.all _ _ h2,aL.same E.vis ds vs h3,E.hid a _ h2 h4,h5⟩
 dis:=h.dis
 oo:=fun i x dss e=>by
  obtain⟨⟨a,bs,h1,h2⟩,h3⟩:=h.oo i x dss e
  exact⟨⟨a,bs,h1,h2.step E⟩,h3⟩
theorem gY{n:Nat}{e:Expr}{i:Nat}{x:Str}{s:Sl}(h:(frz n e ρ)[i]?=some (x,s)):(ρ[i]?=some (x,s)/\(vO s=false->dg n x e=false))\/(∃ ds,s=.sh (.lst ds)/\ρ[i]?=some (x,.ow ds)/\dg n x e=true)\/∃ dss,s=.sh (.lst (dss.map .lst))/\ρ[i]?=some (x,.oo dss)/\dg n x e=true:=by
  unfold frz at h
  rw[List.getElem?_map] at h
  obtain⟨⟨y,t⟩,h1,h2⟩:=Option.map_eq_some_iff.mp h
  cases t with
  | no=>simp at h2;obtain⟨rfl,rfl⟩:=h2;exact .inl ⟨h1,fun z=>nomatch z⟩
  | sh d=>simp at h2;obtain⟨rfl,rfl⟩:=h2;exact .inl ⟨h1,fun z=>nomatch z⟩
  | ow ds =>
    simp only at h2
    cases hm:dg n y e with
    | true =>
      rw[hm,if_pos rfl] at h2
      cases h2
      exact .inr (.inl ⟨ds,rfl,h1,hm⟩)
    | false =>
      rw[hm] at h2
      simp at h2
      obtain⟨rfl,rfl⟩:=h2
      exact .inl ⟨h1,fun _=>hm⟩
  | oo dss =>
    simp only at h2
    cases hm:dg n y e with
    | true =>
      rw[hm,if_pos rfl] at h2
      cases h2
      exact .inr (.inr ⟨dss,rfl,h1,hm⟩)
    | false =>
      rw[hm] at h2
      simp at h2
      obtain⟨rfl,rfl⟩:=h2
      exact .inl ⟨h1,fun _=>hm⟩
theorem aK(n:Nat)(e:Expr):(frz n e ρ).map (·.1)=ρ.map (·.1):=by
 unfold frz
 rw[List.map_map]
 apply List.map_congr_left
 intro p _
 obtain⟨x,s⟩:=p
 cases s<;>simp<;>(split<;>rfl)
theorem aL.get_of{K:PySem.W.Frag}{H:Hp}:∀ {ds:List D} {vs:List V},ds.length=vs.length->(∀ (j:Nat) d v,ds[j]?=some d->vs[j]?=some v->Rep K H d v)->aL K H ds vs
 | [],[],_,_=>.nil
 | [],_::_,h,_=>by simp at h
 | _::_,[],h,_=>by simp at h
 | d::ds,v::vs,h,q=>.cons (q 0 d v rfl rfl) (aL.get_of (by simpa using h) fun j d' v' e1 e2=>q (j+1) d' v' (by simpa using e1) (by simpa using e2))
theorem OO.mem{a b:Addr}{bs:List Addr}{dss:List (List D)}(h:OO K H0 Hs H a bs dss)(hb:b∈bs):Hs b=none/\H0 b=none:=by
 obtain⟨j,e⟩:=List.mem_iff_getElem?.mp hb
 obtain⟨k1,k2,_⟩:=h.2.2.2.2.2.2 j b e
 exact⟨k1,k2⟩
open Classical in
theorem Hd.frozen2(n:Nat)(e:Expr)(h:Hd K Hs0 H0 Hs H ρ σ):∃ Hs1,Same Hs Hs1/\(∀ b o,Hs1 b=some o->Hs b=some o\/∃ vs,o=.lst vs)/\Hd K Hs0 H0 Hs1 H (frz n e ρ) σ:=by
 let Fo:Addr->Prop:=fun b=>∃ (i:Nat) (x:Str) (ds:List D),ρ[i]?=some (x,Sl.ow ds)/\dg n x e=true/\σ[i]?=some (some (V.ref b))
 let Fb:Addr->Prop:=fun b=>∃ (i:Nat) (x:Str) (dss:List (List D)) (a:Addr) (bs:List Addr),ρ[i]?=some (x,Sl.oo dss)/\dg n x e=true/\σ[i]?=some (some (V.ref a))/\OO K H0 Hs H a bs dss/\(b=a\/b∈bs)
 let Hs1:Hp:=fun b=>if Fo b\/Fb b then H b else Hs b
 have vis:Same Hs Hs1:=fun b o q=>by
  show(if Fo b\/Fb b then H b else Hs b)=some o
  split
  ·exact h.ext.sub b o q
  ·exact q
 have sub:Same Hs1 H:=fun b o q=>by
  have q':(if Fo b\/Fb b then H b else Hs b)=some o:=q
  split at q'
  ·exact q'
  ·exact h.ext.sub b o q'
 have fz0:∀ b,Fo b\/Fb b->H0 b=none/\Hs b=none:=fun b hb=>by
  rcases hb with⟨i,x,ds,g1,_,g3⟩ | ⟨i,x,dss,a,bs,g1,_,g3,g4,g5⟩
  ·obtain⟨a,vs,k1,k2,k3,k4,k5⟩:=h.ow i x ds g1
   rw[k1] at g3
   cases g3
   exact⟨k5,k4⟩
  ·rcases g5 with rfl | g5
   ·exact⟨g4.2.2.1,g4.2.1⟩
   ·exact⟨(g4.mem g5).2,(g4.mem g5).1⟩
 have shp:∀ b o,Hs1 b=some o->Hs b=some o\/∃ vs,o=.lst vs:=fun b o q=>by
  have q':(if Fo b\/Fb b then H b else Hs b)=some o:=q
  split at q'
  ·rename_i f
   rcases f with⟨i,x,ds,g1,_,g3⟩ | ⟨i,x,dss,a,bs,g1,_,g3,g4,g5⟩
   ·obtain⟨a,vs,k1,k2,k3,k4,k5⟩:=h.ow i x ds g1
    rw[k1] at g3
    cases g3
    rw[k2] at q'
    cases q'
    exact .inr ⟨vs,rfl⟩
   ·rcases g5 with rfl | g5
    ·rw[g4.1] at q'
     cases q'
     exact .inr ⟨_,rfl⟩
    ·obtain⟨j,ej⟩:=List.mem_iff_getElem?.mp g5
     obtain⟨_,_,_,us,_,m4,_⟩:=g4.2.2.2.2.2.2 j b ej
     rw[m4] at q'
     cases q'
     exact .inr ⟨us,rfl⟩
  ·exact .inl q'
 refine⟨Hs1,vis,shp,⟨h.ext.vis.trans vis,h.ext.all,sub,fun b o q z=>?_⟩,by rw[h.len];simp[frz],fun i x d q=>?_,fun i x ds q=>?_,fun i j x y ds es a hij q1 q2=>?_,fun i x dss q=>?_⟩
 ·show(if Fo b\/Fb b then H b else Hs b)=none
  rw[if_neg fun f=>by rw[(fz0 b f).1] at q;cases q]
  exact h.ext.hid b o q z
 ·rcases gY q with⟨q,_⟩ | ⟨ds,e1,q2,hm⟩ | ⟨dss,e1,q2,hm⟩
  ·obtain⟨v,k1,k2⟩:=h.sh i x d q
   exact⟨v,k1,Rep.same vis d v k2⟩
  ·cases e1
   obtain⟨a,vs,k1,k2,k3,k4,k5⟩:=h.ow i x ds q2
   refine⟨_,k1,?_⟩
   simp only[Rep]
   refine⟨a,vs,rfl,.of ?_,aL.same vis ds vs k3⟩
   show(if Fo a\/Fb a then H a else Hs a)=_
   rw[if_pos (.inl ⟨i,x,ds,q2,hm,k1⟩)]
   exact k2
  ·cases e1
   obtain⟨⟨a,bs,k1,k2⟩,_⟩:=h.oo i x dss q2
   refine⟨_,k1,?_⟩
   simp only[Rep]
   refine⟨a,bs.map V.ref,rfl,.of ?_,?_⟩
   ·show(if Fo a\/Fb a then H a else Hs a)=_
    rw[if_pos (.inr ⟨i,x,dss,a,bs,q2,hm,k1,k2,.inl rfl⟩)]
    exact k2.1
   ·refine aL.get_of (by rw[List.length_map,List.length_map,k2.2.2.2.2.2.1]) fun j d v g1 g2=>?_
    rw[List.getElem?_map] at g1 g2
    obtain⟨es,g3,rfl⟩:=Option.map_eq_some_iff.mp g1
    obtain⟨b,g4,rfl⟩:=Option.map_eq_some_iff.mp g2
    obtain⟨_,_,ds,us,m3,m4,m5⟩:=k2.2.2.2.2.2.2 j b g4
    rw[g3] at m3
    cases m3
    simp only[Rep]
    refine⟨b,us,rfl,.of ?_,aL.same vis es us m5⟩
    show(if Fo b\/Fb b then H b else Hs b)=_
    rw[if_pos (.inr ⟨i,x,dss,a,bs,q2,hm,k1,k2,.inr (List.mem_of_getElem? g4)⟩)]
    exact m4
 ·rcases gY q with⟨q,hm⟩ | ⟨ds',e1,q,hm⟩ | ⟨ds',e1,q,hm⟩
  ·obtain⟨a,vs,k1,k2,k3,k4,k5⟩:=h.ow i x ds q
   refine⟨a,vs,k1,k2,aL.same vis ds vs k3,?_,k5⟩
   show(if Fo a\/Fb a then H a else Hs a)=none
   rw[if_neg]
   ·exact k4
   ·rintro(⟨j,y,es,g1,g2,g3⟩ | ⟨j,y,dss,_,_,g1,_⟩)
    ·by_cases hij:i=j
     ·subst hij
      rw[q] at g1
      cases g1
      rw[hm rfl] at g2
      cases g2
     ·exact h.dis i j x y ds es a hij q g1 k1 g3
    ·by_cases hij:i=j
     ·subst hij
      rw[q] at g1
      cases g1
     ·exact nomatch (h.oo j y dss g1).2 i x _ hij q
  ·cases e1
  ·cases e1
 ·rcases gY q1 with⟨q1,_⟩ | ⟨ds',e1,_⟩ | ⟨ds',e1,_⟩
  ·rcases gY q2 with⟨q2,_⟩ | ⟨ds',e1,_⟩ | ⟨ds',e1,_⟩
   ·exact h.dis i j x y ds es a hij q1 q2
   ·cases e1
   ·cases e1
  ·cases e1
  ·cases e1
 ·rcases gY q with⟨q,hm⟩ | ⟨ds',e1,_⟩ | ⟨ds',e1,_⟩
  ·obtain⟨⟨a,bs,k1,k2⟩,k3⟩:=h.oo i x dss q
   have nf:∀ b,¬ (Fo b\/Fb b):=by
    rintro b (⟨j,y,es,g1,_⟩ | ⟨j,y,dss',_,_,g1,g2,_⟩)
    ·by_cases hij:j=i
     ·subst hij
      rw[q] at g1
      cases g1
     ·exact nomatch k3 j y _ hij g1
    ·by_cases hij:j=i
     ·subst hij
      rw[q] at g1
      cases g1
      rw[hm rfl] at g2
      cases g2
     ·exact nomatch k3 j y _ hij g1
   have sm:∀ b,Hs1 b=Hs b:=fun b=>by
    show(if Fo b\/Fb b then H b else Hs b)=_
    rw[if_neg (nf b)]
   refine⟨⟨a,bs,k1,k2.1,by rw[sm];exact k2.2.1,k2.2.2.1,k2.2.2.2.1,k2.2.2.2.2.1,k2.2.2.2.2.2.1,fun j b g=>?_⟩,fun j y s hj g=>?_⟩
   ·obtain⟨m1,m2,ds,us,m3,m4,m5⟩:=k2.2.2.2.2.2.2 j b g
    exact⟨by rw[sm];exact m1,m2,ds,us,m3,m4,aL.same vis ds us m5⟩
   ·rcases gY g with⟨g,_⟩ | ⟨_,e1,_⟩ | ⟨_,e1,_⟩
    ·exact k3 j y s hj g
    ·rw[e1];rfl
    ·rw[e1];rfl
  ·cases e1
  ·cases e1
theorem Hd.frozen(n:Nat)(e:Expr)(h:Hd K Hs0 H0 Hs H ρ σ):∃ Hs1,Same Hs Hs1/\Hd K Hs0 H0 Hs1 H (frz n e ρ) σ :=
 let ⟨Hs1,a,_,b⟩:=h.frozen2 n e
 ⟨Hs1,a,b⟩
def flH(Hs H Hs':Hp):Hp:=fun b=>match Hs b with
  | some o=>some o
  | none => match H b with
    | some _=>none
    | none => match Hs' b with
      | some (.tup vs)=>some (.tup vs)
      | some (.frz o (.tup vs))=>some (.frz o (.tup vs))
      | _=>none
mutual
theorem qm{Hs H Hs1 Hs' H':Hp}(vis:Same Hs Hs1)(shp:∀ b o,Hs1 b=some o->Hs b=some o\/∃ vs,o=.lst vs)(E:Ext Hs1 H Hs' H'):∀ (d:D) (v:V),eX d=true->Rep K Hs' d v->Rep K (flH Hs H Hs') d v
  | .non,v,_,r=>by simpa[Rep] using r
  | .bl b,v,_,r=>by simpa[Rep] using r
  | .int i,v,_,r=>by simpa[Rep] using r
  | .str x,v,_,r=>by simpa[Rep] using r
  | .lst _,v,h,_=>by simp[eX] at h
  | .exc _,v,h,_=>by simp[eX] at h
  | .dic _ _,v,h,_=>by simp[eX] at h
  | .tup ds, v, h, r => by
    simp only[eX] at h
    simp only[Rep] at r ⊢
    obtain⟨p,ws,rfl,h1,h2⟩:=r
    refine⟨p,ws,rfl,?_,mX vis shp E ds ws h h2⟩
    have fin:∀ u:HO,Hs' p=some u->(∀ vs,u≠.lst vs)->Hs p=some u\/(Hs p=none/\H p=none):=fun u hu hnl=>by
      cases hp:Hs p with
      | some u' =>
        have:=E.vis _ _ (vis _ _ hp)
        rw[hu] at this
        exact .inl this.symm
      | none =>
        have h1n:Hs1 p=none:=by
          cases q:Hs1 p with
          | none=>rfl
          | some o =>
            rcases shp p o q with z | ⟨vs,rfl⟩
            · rw[hp] at z;cases z
            · have:=E.vis _ _ q
              rw[hu] at this
              cases this
              exact absurd rfl (hnl vs)
        refine .inr ⟨rfl,?_⟩
        cases q:H p with
        | none=>rfl
        | some o=>have:=E.hid p o q h1n;rw[hu] at this;cases this
    rcases h1 with(h1 | ⟨o,h1⟩) | h1
    · refine .inl (.inl ?_)
      rcases fin _ h1 (fun vs z=>nomatch z) with z | ⟨z1,z2⟩
      · simp only[flH,z]
      · simp only[flH,z1,z2,h1]
    · refine .inl (.inr ⟨o,?_⟩)
      rcases fin _ h1 (fun vs z=>nomatch z) with z | ⟨z1,z2⟩
      · simp only[flH,z]
      · simp only[flH,z1,z2,h1]
    · exact .inr h1
theorem mX{Hs H Hs1 Hs' H':Hp}(vis:Same Hs Hs1)(shp:∀ b o,Hs1 b=some o->Hs b=some o\/∃ vs,o=.lst vs)(E:Ext Hs1 H Hs' H'):∀ (ds:List D) (vs:List V),qp ds=true->aL K Hs' ds vs->aL K (flH Hs H Hs') ds vs
  | [],vs,_,r=>by simpa[aL] using r
  | d :: ds, vs, h, r => by
    simp only[qp,Bool.and_eq_true] at h
    simp only[aL] at r ⊢
    obtain⟨w,r',rfl,h1,h2⟩:=r
    exact⟨w,r',rfl,qm vis shp E d w h.1 h1,mX vis shp E ds r' h.2 h2⟩
end
theorem d8{Hs1 Hs' H':Hp}{d:D}{v:V}(hs:Same Hs H)(vis:Same Hs Hs1)(shp:∀ b o,Hs1 b=some o->Hs b=some o\/∃ vs,o=.lst vs)(E:Ext Hs1 H Hs' H')(hd:eX d=true)(r:Rep K Hs' d v):∃ Hs3,Ext Hs H Hs3 H'/\Rep K Hs3 d v:=by
 refine⟨flH Hs H Hs',⟨fun b o q=>by simp only[flH,q],E.all,fun b o q=>?_,fun b o q z=>by simp only[flH,z,q]⟩,qm vis shp E d v hd r⟩
 unfold flH at q
 split at q
 ·rename_i o' e;cases q;exact E.all _ _ (hs _ _ e)
 ·split at q
  ·cases q
  ·split at q
   ·rename_i e;cases q;exact E.sub _ _ e
   ·rename_i e;cases q;exact E.sub _ _ e
   ·cases q
theorem Hd.set{x:Str}{i:Nat}{d:D}{v:V}(h:Hd K Hs0 H0 Hs H ρ σ)(hn:(ρ.map (·.1)).Nodup)(hi:(ρ.map (·.1))[i]?=some x)(r:Rep K Hs d v):Hd K Hs0 H0 Hs H (cj ρ x (.sh d)) (σ.set i (some v)):=by
 have hl:i<σ.length:=by have:=(List.getElem?_eq_some_iff.mp hi).1;rw[h.len];simpa using this
 refine⟨h.ext,by rw[List.length_set,h.len];have:=congrArg List.length (aH ρ x (.sh d));simpa using this.symm,mz hn hi hl h.sh r,fun j y ds e=>?_,fun j j' y y' ds es a hjj e1 e2 e3 e4=>?_,fun j y dss e=>?_⟩
 ·rw[aX hn hi j] at e
  split at e
  ·cases e
  ·rename_i hj
   obtain⟨a,vs,k1,k⟩:=h.ow j y ds e
   exact⟨a,vs,by rw[List.getElem?_set_ne (fun z=>hj z.symm)];exact k1,k⟩
 ·rw[aX hn hi] at e1 e2
  split at e1
  ·cases e1
  ·rename_i hj
   split at e2
   ·cases e2
   ·rename_i hj'
    rw[List.getElem?_set_ne (fun z=>hj z.symm)] at e3
    rw[List.getElem?_set_ne (fun z=>hj' z.symm)] at e4
    exact h.dis j j' y y' ds es a hjj e1 e2 e3 e4
 ·rw[aX hn hi j] at e
  split at e
  ·cases e
  ·rename_i hj
   obtain⟨⟨a,bs,k1,k2⟩,k3⟩:=h.oo j y dss e
   refine⟨⟨a,bs,by rw[List.getElem?_set_ne (fun z=>hj z.symm)];exact k1,k2⟩,fun l z s hl' g=>?_⟩
   rw[aX hn hi l] at g
   split at g
   ·cases g;rfl
   ·exact k3 l z s hl' g
theorem Hd.own{x:Str}{i:Nat}{ds:List D}{vs:List V}{acc:Addr}(h:Hd K Hs0 H0 Hs H ρ σ)(hn:(ρ.map (·.1)).Nodup)(hi:(ρ.map (·.1))[i]?=some x)(h1:H acc=some (.lst vs))(r:aL K Hs ds vs)(h2:Hs acc=none)(h3:H0 acc=none)
  (no:∀ (j:Nat) y dss,j≠i->ρ[j]?=some (y,.oo dss)->False) (ap:∀ (j:Nat) y es,j≠i->ρ[j]?=some (y,.ow es)->σ[j]?=some (some (.ref acc))->False):Hd K Hs0 H0 Hs H (cj ρ x (.ow ds)) (σ.set i (some (.ref acc))):=by
 have hl:i<σ.length:=by have:=(List.getElem?_eq_some_iff.mp hi).1;rw[h.len];simpa using this
 refine⟨h.ext,by rw[List.length_set,h.len];have:=congrArg List.length (aH ρ x (.ow ds));simpa using this.symm,fun j y d e=>?_,fun j y es e=>?_,fun j j' y y' ds' es a hjj e1 e2 e3 e4=>?_,fun j y dss e=>?_⟩
 ·rw[aX hn hi j] at e
  split at e
  ·cases e
  ·rename_i hj
   obtain⟨v,k1,k2⟩:=h.sh j y d e
   exact⟨v,by rw[List.getElem?_set_ne (fun z=>hj z.symm)];exact k1,k2⟩
 ·rw[aX hn hi j] at e
  split at e
  ·rename_i hj
   subst hj
   cases e
   exact⟨acc,vs,by rw[List.getElem?_set_self hl],h1,r,h2,h3⟩
  ·rename_i hj
   obtain⟨a,vs',k1,k⟩:=h.ow j y es e
   exact⟨a,vs',by rw[List.getElem?_set_ne (fun z=>hj z.symm)];exact k1,k⟩
 ·rw[aX hn hi] at e1 e2
  split at e1
  ·rename_i hj
   split at e2
   ·rename_i hj'
    exact hjj (hj.trans hj'.symm)
   ·rename_i hj'
    subst hj
    rw[List.getElem?_set_self hl] at e3
    cases e3
    rw[List.getElem?_set_ne (fun z=>hj' z.symm)] at e4
    exact ap j' y' es hj' e2 e4
  ·rename_i hj
   split at e2
   ·rename_i hj'
    subst hj'
    rw[List.getElem?_set_self hl] at e4
    cases e4
    rw[List.getElem?_set_ne (fun z=>hj z.symm)] at e3
    exact ap j y ds' hj e1 e3
   ·rename_i hj'
    rw[List.getElem?_set_ne (fun z=>hj z.symm)] at e3
    rw[List.getElem?_set_ne (fun z=>hj' z.symm)] at e4
    exact h.dis j j' y y' ds' es a hjj e1 e2 e3 e4
 ·rw[aX hn hi j] at e
  split at e
  ·cases e
  ·rename_i hj
   exact(no j y dss hj e).elim
theorem Hd.app{x:Str}{i:Nat}{ds es:List D}{vs:List V}{a:Addr}(h:Hd K Hs0 H0 Hs H ρ σ)(hn:(ρ.map (·.1)).Nodup)(hi:ρ[i]?=some (x,.ow ds))(hσ:σ[i]?=some (some (.ref a)))(r:aL K Hs es vs):Hd K Hs0 H0 Hs (upd H a (.lst vs)) (cj ρ x (.ow es)) σ:=by
 obtain⟨a',vs',k1,k2,k3,k4,k5⟩:=h.ow i x ds hi
 rw[hσ] at k1
 cases k1
 have hi':(ρ.map (·.1))[i]?=some x:=by rw[List.getElem?_map,hi];rfl
 refine⟨Ext.acc h.ext k5 k4,by rw[h.len];have:=congrArg List.length (aH ρ x (.ow es));simpa using this.symm,fun j y d e=>?_,fun j y es' e=>?_,fun j j' y y' ds' es' b hjj e1 e2 e3 e4=>?_,fun j y dss e=>?_⟩
 ·rw[aX hn hi' j] at e
  split at e
  ·cases e
  ·exact h.sh j y d e
 ·rw[aX hn hi' j] at e
  split at e
  ·rename_i hj
   subst hj
   cases e
   exact⟨a,vs,hσ,aQ,r,k4,k5⟩
  ·rename_i hj
   obtain⟨b,us,g1,g2,g⟩:=h.ow j y es' e
   refine⟨b,us,g1,?_,g⟩
   rw[aM]
   ·exact g2
   ·rintro rfl
    exact h.dis j i y x es' ds b hj e hi g1 hσ
 ·rw[aX hn hi'] at e1 e2
  split at e1
  ·rename_i hj
   split at e2
   ·rename_i hj'
    exact hjj (hj.trans hj'.symm)
   ·subst hj
    exact h.dis j j' x y' ds es' b hjj hi e2 e3 e4
  ·split at e2
   ·rename_i hj'
    subst hj'
    exact h.dis j j' y x ds' ds b hjj e1 hi e3 e4
   ·exact h.dis j j' y y' ds' es' b hjj e1 e2 e3 e4
 ·rw[aX hn hi' j] at e
  split at e
  ·cases e
  ·rename_i hj
   exact nomatch (h.oo j y dss e).2 i x _ (fun w=>hj w.symm) hi
theorem xV{x:Str}{i:Nat}(hn:(ρ.map (·.1)).Nodup)(hi:(ρ.map (·.1))[i]?=some x)(h:rC ρ x=true):∀ (j:Nat) y s,j≠i->ρ[j]?=some (y,s)->vO s=true:=fun j y s hj e=>by
 have:=List.all_eq_true.mp h _ (List.mem_of_getElem? e)
 rw[Bool.or_eq_true] at this
 rcases this with q | q
 ·exfalso
  have ey:y=x:=by simpa using q
  have e':(ρ.map (·.1))[j]?=some x:=by rw[List.getElem?_map,e,<- ey];rfl
  exact hj ((List.getElem?_inj (List.getElem?_eq_some_iff.mp e').1 hn).mp (e'.trans hi.symm))
 ·exact q
theorem Cy{x:Str}{i:Nat}(hn:(ρ.map (·.1)).Nodup)(hi:(ρ.map (·.1))[i]?=some x)(h:j9 ρ x=true):∀ (j:Nat) y dss,j≠i->ρ[j]?=some (y,.oo dss)->False:=fun j y dss hj e=>by
 have:=List.all_eq_true.mp h _ (List.mem_of_getElem? e)
 rw[Bool.or_eq_true] at this
 rcases this with q | q
 ·have ey:y=x:=by simpa using q
  have e':(ρ.map (·.1))[j]?=some x:=by rw[List.getElem?_map,e,<- ey];rfl
  exact hj ((List.getElem?_inj (List.getElem?_eq_some_iff.mp e').1 hn).mp (e'.trans hi.symm))
 ·exact nomatch q
theorem Hd.own2{x:Str}{i:Nat}{dss:List (List D)}{a:Addr}{bs:List Addr}(h:Hd K Hs0 H0 Hs H ρ σ)(hn:(ρ.map (·.1)).Nodup)(hi:(ρ.map (·.1))[i]?=some x)(o:OO K H0 Hs H a bs dss)(no:∀ (j:Nat) y s,j≠i->ρ[j]?=some (y,s)->vO s=true):Hd K Hs0 H0 Hs H (cj ρ x (.oo dss)) (σ.set i (some (.ref a))):=by
 have hl:i<σ.length:=by have:=(List.getElem?_eq_some_iff.mp hi).1;rw[h.len];simpa using this
 refine⟨h.ext,by rw[List.length_set,h.len];have:=congrArg List.length (aH ρ x (.oo dss));simpa using this.symm,fun j y d e=>?_,fun j y es e=>?_,fun j j' y y' ds' es a hjj e1 e2 e3 e4=>?_,fun j y dss' e=>?_⟩
 ·rw[aX hn hi j] at e
  split at e
  ·cases e
  ·rename_i hj
   obtain⟨v,k1,k2⟩:=h.sh j y d e
   exact⟨v,by rw[List.getElem?_set_ne (fun z=>hj z.symm)];exact k1,k2⟩
 ·rw[aX hn hi j] at e
  split at e
  ·cases e
  ·rename_i hj
   exact nomatch no j y _ hj e
 ·rw[aX hn hi] at e1
  split at e1
  ·cases e1
  ·rename_i hj
   exact nomatch no j y _ hj e1
 ·rw[aX hn hi j] at e
  split at e
  ·rename_i hj
   subst hj
   cases e
   refine⟨⟨a,bs,by rw[List.getElem?_set_self hl],o⟩,fun l z s hl' g=>?_⟩
   rw[aX hn hi l,if_neg hl'] at g
   exact no l z s hl' g
  ·rename_i hj
   exact nomatch no j y _ hj e
theorem Hd.app2{x:Str}{i:Nat}{dss dss':List (List D)}{a c:Addr}{bs':List Addr}{vs:List V}(h:Hd K Hs0 H0 Hs H ρ σ)(hn:(ρ.map (·.1)).Nodup)(hi:ρ[i]?=some (x,.oo dss))(hσ:σ[i]?=some (some (.ref a)))(c1:Hs c=none)(c2:H0 c=none)(o:OO K H0 Hs (upd H c (.lst vs)) a bs' dss'):Hd K Hs0 H0 Hs (upd H c (.lst vs)) (cj ρ x (.oo dss')) σ:=by
 have hi':(ρ.map (·.1))[i]?=some x:=by rw[List.getElem?_map,hi];rfl
 obtain⟨_,no⟩:=h.oo i x dss hi
 refine⟨Ext.acc h.ext c2 c1,by rw[h.len];have:=congrArg List.length (aH ρ x (.oo dss'));simpa using this.symm,fun j y d e=>?_,fun j y es e=>?_,fun j j' y y' ds' es a hjj e1 e2 e3 e4=>?_,fun j y dss'' e=>?_⟩
 ·rw[aX hn hi' j] at e
  split at e
  ·cases e
  ·exact h.sh j y d e
 ·rw[aX hn hi' j] at e
  split at e
  ·cases e
  ·rename_i hj
   exact nomatch no j y _ hj e
 ·rw[aX hn hi'] at e1
  split at e1
  ·cases e1
  ·rename_i hj
   exact nomatch no j y _ hj e1
 ·rw[aX hn hi' j] at e
  split at e
  ·rename_i hj
   subst hj
   cases e
   refine⟨⟨a,bs',hσ,o⟩,fun l z s hl' g=>?_⟩
   rw[aX hn hi' l,if_neg hl'] at g
   exact no l z s hl' g
  ·rename_i hj
   exact nomatch no j y _ hj e
theorem pY{scope:Scope}:jQ K Hs scope (fun ρ σ=>Hd K Hs0 H0 Hs H ρ σ):=fun ρ σ i x d v hn hi _ h r=>h.set hn hi r
end
end L2
namespace L2
open PySem PySem.Spec PyProof.Rows PySem.SeqAt
open DE hiding st
def gM(X:Cx)(s:Stmt):TS:=fun D σ H=>∀ pins s0,Inv X pins σ H s0->wpAny (model X.prog X.w) X.A (exec s X.env) (SP X pins D) X.xe s0
def jB(X:Cx)(s:List Stmt):TS:=fun D σ H=>∀ pins s0,Inv X pins σ H s0->wpAny (model X.prog X.w) X.A (execs s X.env) (SP X pins D) X.xe s0
section
variable {X:Cx} {s:Stmt} {ss:List Stmt} {t:TS} {D:Ends} {σ:St} {H:Hp}
theorem zx:PS X s (gM X s):=fun pins s σ H D I h=>h pins s I
theorem PS.sem(h:PS X s t)(q:t D σ H):gM X s D σ H:=fun pins s I=>h pins s σ H D I q
theorem fH:PSs X ss (jB X ss):=fun pins s σ H D I h=>h pins s I
theorem PSs.sem(h:PSs X ss t)(q:t D σ H):jB X ss D σ H:=fun pins s I=>h pins s σ H D I q
end
def Runs(X:Cx)(Hs0 H0:Hp)(ρ:Rho)(fl:Fl)(t:TS):Prop:=∀ σ H Hs D,Hd X.K Hs0 H0 Hs H ρ σ->X.N=ρ.map (·.1)->(∀ ρ' σ' Hs' H',fl=.nxt ρ'->Same Hs Hs'->X.N=ρ'.map (·.1)->Hd X.K Hs0 H0 Hs' H' ρ' σ'->D.nx σ' H') ->
 (∀ d v Hs' H',fl=.ret d->Ext Hs0 H0 Hs' H'->Rep X.K Hs' d v->D.rt v H')->t D σ H
structure GoodS (cx:Cxt) (k:Nat) (X:Cx) (sc:Scope):Prop where
 good:Good cx k X sc
 own:Owns X sc
 pass:PassesOwn (model X.prog X.w) X.A X.env X.xe
 stk:X.stack=X.env::X.outer/\X.env.frame=some X.env.locals
section
variable {X:Cx} {ρ:Rho} {cx:Cxt} {k F:Nat} {sc scope:Scope} {Hs0 H0:Hp} {e:Expr} {d:D}
theorem yC(G:GoodS cx k X sc)(hN:X.N=ρ.map (·.1))(he:ev cx F sc (frz F e ρ) e=some d){σ:St}{H Hs:Hp}{Q:VK}(h:Hd X.K Hs0 H0 Hs H ρ σ)(q:∀ v Hs' H',Same Hs Hs'->Hd X.K Hs0 H0 Hs' H' (frz F e ρ) σ->Rep X.K Hs' d v->Q v H'):nO X e σ H Q:=by
 obtain⟨Hs1,sm1,h1⟩:=h.frozen F e
 exact(cI cx F G.good (by rw[aK];exact hN) he).1 σ H Hs1 Q h1.ext.sub h1.sh fun v H' Hs' E r=>q v Hs' H' (sm1.trans E.vis) (h1.step E) r
theorem Im(G:GoodS cx k X sc)(hN:X.N=ρ.map (·.1)){b:Bool}(he:ev cx F sc (frz F e ρ) e=some (.bl b)){σ:St}{H Hs:Hp}{Q:Bool->Hp->Prop}(h:Hd X.K Hs0 H0 Hs H ρ σ)(q:∀ Hs' H',Same Hs Hs'->Hd X.K Hs0 H0 Hs' H' (frz F e ρ) σ->Q b H'):sY X e σ H Q:=by
 obtain⟨Hs1,sm1,h1⟩:=h.frozen F e
 exact(cI cx F G.good (by rw[aK];exact hN) he).2 b rfl σ H Hs1 Q h1.ext.sub h1.sh fun H' Hs' E=>q Hs' H' (sm1.trans E.vis) (h1.step E)
theorem Dn(G:GoodS cx k X sc)(hN:X.N=ρ.map (·.1)){b:Bool}(he:ev cx F sc (frz F e ρ) e=some (.bl b)){σ:St}{H Hs:Hp}{Q:Bool->Hp->Prop}(h:Hd X.K Hs0 H0 Hs H ρ σ)(q:∀ Hs' H',Same Hs Hs'->Hd X.K Hs0 H0 Hs' H' ρ σ->Q b H'):sY X e σ H Q:=by
 obtain⟨Hs1,sm1,shp,h1⟩:=h.frozen2 F e
 refine(cI cx F G.good (by rw[aK];exact hN) he).2 b rfl σ H Hs1 Q h1.ext.sub h1.sh fun H' Hs' E=>?_
 obtain⟨Hs3,E3,_⟩:=d8 (K:=X.K) (d:=.bl b) (v:=.bl b) h.ext.sub sm1 shp E rfl (by simp[Rep])
 exact q Hs3 H' E3.vis (h.step E3)
theorem dH{t:Option Expr}{l:Nat}{env:Env}(he:ev cx F sc ρ e=some d)(hc:∀ a b c p,e≠.ListComp a b c p):swapsWith e t l env=pure false:=by
  cases F with
  | zero=>simp[ev] at he
  | succ F =>
    cases e<;>first | rfl | (exact nomatch (show(Option.none:Option D)=some d from he)) | (exact absurd rfl (hc _ _ _ _))
theorem wY(h:bx e=false):jC e d=.sh d:=by
 unfold jC
 split
 ·rw[h];rfl
 ·rfl
def Jw(X:Cx)(ρ:Rho)(e:Expr)(ds:List D):Prop:=∀ σ H Hs Q,Same Hs H->bW X.K Hs ρ σ->(∀ acc vs Hs' H',Ext Hs H Hs' H'->H acc=none->Hs' acc=none->H' acc=some (.lst vs)->aL X.K Hs' ds vs->Q (.ref acc) H')->nO X e σ H Q
theorem xQ{es:List Expr}{ds:List D}{pos:Pos}(h:EvA X ρ es ds)(hz:szl ds.length=true):Jw X ρ (.List es pos) ds:=fun σ H Hs Q hs hst hq =>
  (zB cN).sem (h σ H Hs _ hs hst fun vs H1 Hs1 E1 r1=>⟨by rw[<- r1.length];exact fj hz,fun p hp =>
    hq p vs Hs1 _ (Ext.acc E1 (E1.all.free hp) (E1.sub.free hp)) (E1.all.free hp) (E1.sub.free hp) aQ r1⟩)
theorem jt{elt:Expr}{gens:List Comprehension}{pos:Pos}{n:Nat}(G:Good cx k X sc)(hN:X.N=ρ.map (·.1))(he:ev cx (n+1) sc ρ (.ListComp elt gens scope pos)=some d) :
    ∃ tg iter ifs l out, gens = [⟨tg, iter, ifs, 0⟩] /\ gD sc scope = true /\ EvI X ρ tg iter l /\ aD iter = true /\ szl l.length = true /\ bD (ni cx n sc scope ρ tg elt ifs) l = some out /\ d = .lst out /\
      (∀ Xc,CompOf X scope Xc->∀ ρ1:Rho,Xc.N=ρ1.map (·.1)->∀ e d,ev cx n (jA scope sc) ρ1 e=some d->Ev Xc ρ1 e d/\∀ b,d=.bl b->EvT Xc ρ1 e b):=by
  simp only[ev] at he
  split at he
  · rename_i tg iter ifs a
    split at he
    · rename_i hok
      rw[Bool.and_eq_true] at hok
      have ea:a=0:=by simpa using hok.1
      subst ea
      obtain⟨l,h1,he⟩:=aO he
      split at he
      · rename_i hz
        obtain⟨out,h2,he⟩:=aO he
        cases he
        obtain⟨hI,hp⟩:=vq (tg:=tg) G (fun e d h=>⟨(cI cx n G hN h).1,aV h⟩) h1
        exact⟨tg,iter,ifs,l,out,rfl,hok.2,hI,hp,hz,h2,rfl,fun Xc C ρ1 hN1 e d he=>cI cx n (G.comp C hok.2) hN1 he⟩
      · cases he
    · cases he
  · cases he
theorem BX{a b:Expr}{ds:List D}{j:Int}{pos:Pos}(ha:Ev X ρ a (.lst ds))(hb:Ev X ρ b (.int j))(h1:j<=1000)(h2:-1000<=j)(hz:szl (ds.length*j.toNat)=true):Jw X ρ (.BinOp a .Mult b pos) (List.replicate j.toNat ds).flatten:=fun σ H Hs Q hs hst hq=>by
 refine(iy uw ak ak).sem (ha σ H Hs _ hs hst fun u H1 Hs1 E1 r1=>hb σ H1 Hs1 _ E1.sub (hst.same E1.vis) fun v H2 Hs2 E2 r2=>?_)
 obtain⟨p,us,rfl,g1,g2⟩:=bw (Rep.same E2.vis _ _ r1)
 have l1:=g2.length
 have E:=E1.trans E2
 exact⟨p,_,us,rfl,aA r2,E2.sub.seq g1,by omega,by omega,by have:=fj hz;rw[<- l1];exact this,fun q hq'=>hq q _ Hs2 _ (Ext.acc E (E.all.free hq') (E.sub.free hq')) (E.all.free hq') (E.sub.free hq') aQ (g2.rep _)⟩
theorem pA{x:Str}{ds:List D}{px pos:Pos}(G:GoodS cx k X sc)(hN:X.N=ρ.map (·.1))(hx:ownIn sc x=true)(hc:(ρ.map (·.1)).contains x=true)(hno:j9 (frz F e ρ) x=true)
  (hrun:∀ (i:Nat),X.N[i]?=some x->∀ σ H Hs D,Same Hs H->bW X.K Hs (frz F e ρ) σ->(∀ acc vs Hs' H',Ext Hs H Hs' H'->H acc=none->Hs' acc=none->H' acc=some (.lst vs)->aL X.K Hs' ds vs->D.nx (σ.set i (some (.ref acc))) H')->gM X (.Assign [.Name x px] e pos) D σ H) :
  Runs X Hs0 H0 ρ (.nxt (cj (frz F e ρ) x (.ow ds))) (gM X (.Assign [.Name x px] e pos)):=by
 intro σ H Hs D h _ hn hr
 obtain⟨i,hi⟩:=bR hc
 obtain⟨Hs1,sm1,h1⟩:=h.frozen F e
 have hnd:((frz F e ρ).map (·.1)).Nodup:=by rw[aK,<- hN];exact G.good.nd
 refine hrun i (by rw[hN];exact hi) σ H Hs1 D h1.ext.sub h1.sh fun acc vs Hs' H' E a1 a2 a3 r=>?_
 refine hn _ _ Hs' H' rfl (sm1.trans E.vis) (by rw[aH,aK];exact hN) ((h1.step E).own hnd (by rw[aK];exact hi) a3 r a2 (h1.ext.all.free a1) (Cy hnd (by rw[aK];exact hi) hno) fun j y es hj q1 q2=>?_)
 obtain⟨b,us,k1,k2,_⟩:=h1.ow j y es q1
 rw[k1] at q2
 cases q2
 rw[a1] at k2
 cases k2
theorem tK{x:Str}{px pos:Pos}(G:GoodS cx k X sc)(hN:X.N=ρ.map (·.1))(hx:ownIn sc x=true)(hc:(ρ.map (·.1)).contains x=true)(hno:bx e=true->j9 (frz F e ρ) x=true)(he:ev cx F sc (frz F e ρ) e=some d) :
    Runs X Hs0 H0 ρ (.nxt (cj (frz F e ρ) x (jC e d))) (gM X (.Assign [.Name x px] e pos)):=by
  obtain⟨ox,of⟩:=G.own.own x hx
  have hN':X.N=(frz F e ρ).map (·.1):=by rw[aK];exact hN
  by_cases hfr:bx e=true
  · cases F with
    | zero=>simp[ev] at he
    | succ F =>
      cases e with
      | List es p2 =>
        simp only[ev] at he
        obtain⟨ds,h1,he⟩:=aO he
        split at he
        · rename_i hz
          cases he
          have hA:=(fK (fun e _ d hd=>⟨(cI cx F G.good hN' hd).1,aV hd⟩) h1).1
          refine pA G hN hx hc (hno rfl) fun i hi σ H Hs D hs hst hq=>?_
          refine PS.sem (iW G.good.nd hi ox ak rfl of) (xQ hA hz σ H Hs _ hs hst fun acc vs Hs' H' E a1 a2 a3 r=>hq acc vs Hs' H' E a1 a2 a3 r)
        · cases he
      | ListComp elt gens scope p2 =>
        obtain⟨tg,iter,ifs,l,out,rfl,hok,hI,hp,hz,hgo,rfl,hE⟩:=jt G.good hN' he
        obtain⟨ok1,ok2,ok3⟩:=cJ G.good hok
        refine pA G hN hx hc (hno rfl) fun i hi σ H Hs D hs hst hq=>?_
        have rd:nT X scope (nR X tg iter) (n8 X.N scope.names) (fun Xc=>yu Xc tg) (fun Xc=>oH Xc ifs) (fun Xc=>nO Xc elt) σ H (fun v H1=>D.nx (σ.set i (some v)) H1) :=
          jr G.good hN' hok hI hz hgo hE hs hst fun acc vs Hs' H' E a1 a2 a3 r=>hq acc vs Hs' H' E a1 a2 a3 r
        cases hsw:(X.env.blockKind==.function&&X.env.kindOf x==some .local&&px.line==p2.line && !(scope.names.any fun(n,k)=>n==x&&(k==.local||k==.cell))) with
        | true =>
          have e1:swapsWith (.ListComp elt [⟨tg,iter,ifs,0⟩] scope p2) (some (.Name x px)) pos.line X.env=pure true:=by rw[<- hsw];rfl
          rw[Bool.and_eq_true,Bool.and_eq_true,Bool.and_eq_true] at hsw
          have hl:X.env.scope.names.lookup x=some .local:=by simpa[Env.kindOf] using hsw.1.1.2
          exact PS.sem (tZ G.good.nd hi hl G.good.calm ok1 ok2 ok3 iZ (fun Xc C=>⟨fY,eF,ak⟩) (cW hp) e1) rd
        | false =>
          have e1:swapsWith (.ListComp elt [⟨tg,iter,ifs,0⟩] scope p2) (some (.Name x px)) pos.line X.env=pure false:=by rw[<- hsw];rfl
          exact PS.sem (iW G.good.nd hi ox (j6 G.good.calm ok1 ok2 ok3 iZ (fun Xc C=>⟨fY,eF,ak⟩) (cW hp)) e1 of) rd
      | BinOp a op b p2 =>
        have hno':=hno hfr
        simp only[bx,Bool.and_eq_true] at hfr
        obtain⟨q1,q2⟩:=hfr
        cases op<;>simp[Ws] at q2
        cases a with
        | List es p3 =>
          simp only[ev] at he
          obtain⟨dx,h1,he⟩:=aO he
          obtain⟨dy,h2,he⟩:=aO he
          have hl:∃ ds0,dx=.lst ds0:=by
            cases F with
            | zero=>simp[ev] at h1
            | succ F =>
              simp only[ev] at h1
              obtain⟨ds0,_,h1⟩:=aO h1
              split at h1
              · cases h1;exact⟨_,rfl⟩
              · cases h1
          obtain⟨ds0,rfl⟩:=hl
          cases dy with
          | int j =>
            simp only[binop] at he
            split at he
            · rename_i hz
              cases he
              rw[Bool.and_eq_true,Bool.and_eq_true,decide_eq_true_eq,decide_eq_true_eq] at hz
              have e1:=(cI cx F G.good hN' h1).1
              have e2:=(cI cx F G.good hN' h2).1
              refine pA G hN hx hc hno' fun i hi σ H Hs D hs hst hq=>?_
              refine PS.sem (iW G.good.nd hi ox ak rfl of) (BX e1 e2 hz.1.1 hz.1.2 hz.2 σ H Hs _ hs hst fun acc vs Hs' H' E a1 a2 a3 r=>hq acc vs Hs' H' E a1 a2 a3 r)
            · cases he
          | _=>simp[binop] at he
        | _=>exact absurd (show false=true from q1) Bool.false_ne_true
      | _=>simp[bx] at hfr
  · have hfr':bx e=false:=by simpa using hfr
    rw[wY hfr']
    intro σ H Hs D h _ hn hr
    obtain⟨i,hi⟩:=bR hc
    have hsw:=dH (t:=some (.Name x px)) (l:=pos.line) (env:=X.env) he fun a b c p q=>by rw[q] at hfr';cases hfr'
    refine PS.sem (iW (i:=i) G.good.nd (by rw[hN];exact hi) ox ak hsw of) (yC G hN he h fun v Hs' H' sm h' r=>?_)
    exact hn _ _ Hs' H' rfl sm (by rw[aH];exact hN') (h'.set (by rw[<- hN'];exact G.good.nd) (by rw[aK];exact hi) r)
theorem rZ{es:List Expr}{l:List D}{ρ':Rho}{σ:St}{v:V}{Hs H:Hp}{P:Rho->St->Prop}{Q:St->Hp->Prop}{kt:Nat}{pos:Pos}(G:GoodS cx k X sc)(hs:Same Hs H)(hN:X.N=ρ.map (·.1))(KE:jQ X.K Hs sc P)(hl:items d=some l)(hb:bindNames sc es l ρ=some ρ')(hp:P ρ σ)(rd:Rep X.K Hs d v)
    (hq:∀ σ',X.N=ρ'.map (·.1)->P ρ' σ'->Q σ' H):yu X (.Tuple es kt pos) v σ H Q:=by
  obtain⟨e1,e2,e3⟩:=eG (env:=X.env) hb
  cases d with
  | tup xs =>
    simp only[items,Option.some.injEq] at hl;subst hl
    obtain⟨a,vs,rfl,h1,h2⟩:=bF rd
    exact PG.sem (zA G.good.calm j4 e1 e2) ⟨a,vs,rfl,hs.tup h1,by rw[<- h2.length,e3],eO G.own G.good.nd KE hN hb hp h2 hq⟩
  | lst xs =>
    simp only[items,Option.some.injEq] at hl;subst hl
    obtain⟨a,vs,rfl,h1,h2⟩:=bw rd
    exact PG.sem (GK G.good.calm j4 e1 e2) ⟨a,vs,rfl,hs.seq h1,by rw[<- h2.length,e3],eO G.own G.good.nd KE hN hb hp h2 hq⟩
  | _=>simp[items] at hl
theorem pO{n:Nat}(h:nc0 e=true):foldedForSure n e=false/\constantsAlone n e=false:=by
 cases e<;>simp[nc0] at h<;>(constructor<;>simp[foldedForSure,constantsAlone,h])
theorem Hj{n:Nat}(h:nc1 e=true):constantsAlone (n+1) e=false:=by
 unfold nc1 at h
 split at h
 ·simp[constantsAlone,(pO (n:=n) h).2]
 ·exact(pO h).2
theorem xX(h:nc e=true):foldedForSure 8 e=false/\constantsAlone 8 e=false:=by
 unfold nc at h
 split at h
 ·rw[Bool.or_eq_true] at h
  refine⟨by simp[foldedForSure],?_⟩
  rcases h with h | h<;>simp[constantsAlone,(pO (n:=7) h).2]
 ·rw[Bool.or_eq_true] at h
  refine⟨by simp[foldedForSure],?_⟩
  rcases h with h | h<;>simp[constantsAlone,(Hj (n:=6) h)]
 ·exact pO h
theorem lM(G:Good cx k X sc):X.env.blockKind=.function:=by
 unfold Env.blockKind
 rw[G.sce,G.kind]
 rfl
theorem Ga{es:List Expr}{kt:Nat}{pt:Pos}(G:Good cx k X sc)(h:swp sc es e=some false):swappedStores [.Tuple es kt pt] e X.env=pure none:=by
  cases e with
  | Tuple vs k2 p2 =>
    simp only[swp] at h
    split at h
    · rename_i x px y py a b
      split at h
      · split at h
        · cases h
        · split at h
          · rename_i hcs
            rw[Bool.and_eq_true] at hcs
            have f1:foldedForSure 8 a=true:=by cases a<;>first | rfl | (simp[yj] at hcs)
            have f2:foldedForSure 8 b=true:=by cases b<;>first | rfl | (simp[yj] at hcs)
            have al1:[a,b].all (foldedForSure 8)=true:=by simp[f1,f2]
            unfold swappedStores
            simp only[al1,if_true]
            repeat' split
            all_goals rfl
          · cases h
      · rename_i hl
        have hl':¬ ((X.env.kindOf x==some .local)=true/\(X.env.kindOf y==some .local)=true):=by
          intro q
          apply hl
          rw[Bool.and_eq_true]
          unfold Env.kindOf at q
          rw[G.sce] at q
          exact q
        unfold swappedStores
        cases h1:X.env.kindOf x==some .local<;>cases h2:X.env.kindOf y==some .local
        all_goals simp only[h1,h2] at hl'
        all_goals simp[h1,h2,lM G]
        · intro _ _ hlen
          exfalso
          have n1:¬ X.env.kindOf x=some .local:=by simpa using h1
          have n2:¬ X.env.kindOf y=some .local:=by simpa using h2
          simp[List.filterMap_cons,n1,n2] at hlen
        · intro _ _ hlen
          exfalso
          have n1:¬ X.env.kindOf x=some .local:=by simpa using h1
          simp only[List.filterMap_cons,List.filterMap_nil,n1,false_and,if_false] at hlen
          split at hlen<;>simp at hlen
        · intro _ _ hlen
          exfalso
          have n1:¬ X.env.kindOf y=some .local:=by simpa using h2
          simp only[List.filterMap_cons,List.filterMap_nil,n1,false_and,if_false] at hlen
          split at hlen<;>simp at hlen
        · exact absurd ⟨trivial,trivial⟩ hl'
    · rename_i x px y py z pz a b c
      split at h
      · rename_i hl
        simp only[Bool.and_eq_true] at hl
        obtain⟨⟨l1,l2⟩,l3⟩:=hl
        have kd:∀ {v:Str},(sc.names.lookup v==some NameKind.cell)=true->¬ X.env.kindOf v=some .local:=fun {v} hv q=>by
          unfold Env.kindOf at q
          rw[G.sce,eq_of_beq hv] at q
          cases q
        have n1:=kd l1
        have n2:=kd l2
        have n3:=kd l3
        unfold swappedStores
        have b1:(X.env.kindOf x==some NameKind.local)=false:=by simpa using n1
        have b2:(X.env.kindOf y==some NameKind.local)=false:=by simpa using n2
        have b3:(X.env.kindOf z==some NameKind.local)=false:=by simpa using n3
        simp[lM G,List.filterMap_cons,b1,b2,b3,n1,n2,n3]
      · cases h
    · cases h
  | _=>rfl
theorem Al{es:List Expr}{kt:Nat}{pt:Pos}(G:Good cx k X sc)(h:swp sc es e=some true):∃ x px y py a b k2 p2,es=[.Name x px,.Name y py]/\e=.Tuple [a,b] k2 p2/\X.env.scope.names.lookup x=some .local/\X.env.scope.names.lookup y=some .local/\x≠y/\aD a=true/\aD b=true /\
    swappedStores [.Tuple es kt pt] e X.env=pure (some [x,y]):=by
  cases e with
  | Tuple vs k2 p2 =>
    simp only[swp] at h
    split at h
    · rename_i x px y py a b
      split at h
      · rename_i hl
        split at h
        · rename_i hq
          rw[Bool.and_eq_true] at hl
          rw[Bool.and_eq_true,Bool.and_eq_true,Bool.and_eq_true,Bool.and_eq_true,Bool.or_eq_true] at hq
          obtain⟨⟨⟨⟨q1,q2⟩,q3⟩,q4⟩,q5⟩:=hq
          have l1:X.env.kindOf x=some .local:=by unfold Env.kindOf;rw[G.sce];simpa using hl.1
          have l2:X.env.kindOf y=some .local:=by unfold Env.kindOf;rw[G.sce];simpa using hl.2
          have hxy:x≠y:=by simpa using q2
          have hpl : py.line = px.line := by have : px.line = py.line := by simpa using q1
                                             exact this.symm
          have f1:(foldedForSure 8 a&&foldedForSure 8 b)=false:=by
            rcases q3 with q | q
            · rw[(xX q).1];rfl
            · rw[(xX q).1,Bool.and_false]
          have f2:(constantsAlone 8 a&&constantsAlone 8 b)=false:=by
            rcases q3 with q | q
            · rw[(xX q).2];rfl
            · rw[(xX q).2,Bool.and_false]
          refine⟨x,px,y,py,a,b,k2,p2,rfl,rfl,l1,l2,hxy,q4,q5,?_⟩
          unfold swappedStores
          have ed:([x,y]:List Str).eraseDups.length=2:=by
            have:(y==x)=false:=by simpa using hxy.symm
            simp[List.eraseDups_cons,this]
          have al1:[a,b].all (foldedForSure 8)=false:=by simpa using f1
          have al2:[a,b].all (constantsAlone 8)=false:=by simpa using f2
          simp only[al1,al2,lM G]
          generalize hst:[a,b].any _=sb
          have hsb:sb=false:=by
            rw[<- hst,List.any_cons,List.any_cons,List.any_nil,Bool.or_false,Bool.or_eq_false_iff]
            clear hst f1 f2 al1 al2 q3
            refine⟨?_,?_⟩
            · cases a<;>first | rfl | (simp[aD] at q4)
            · cases b<;>first | rfl | (simp[aD] at q5)
          generalize hf:List.filterMap _ [Expr.Name x px,Expr.Name y py]=nm
          have hnm:nm=[x,y]:=by
            rw[<- hf]
            simp[List.filterMap_cons,l1,l2,hpl,Expr.pos]
          rw[hsb,hnm]
          simp only[ed]
          rfl
        · split at h<;>cases h
      · cases h
    · split at h<;>cases h
    · cases h
  | _=>simp[swp] at h
end
end L2
namespace L2
open PySem PySem.Spec PyProof.Rows PySem.SeqAt
open DE hiding st
def XOk(X:Cx)(σ:St)(E:XK):Prop:=∀ pins H s e s',Inv X pins σ H s->CX1 X.prog X.w X.stack H s E e s'->X.xe e s'
def Ep(X:Cx)(σ:St)(E:XK):Prop:=∀ pins H s (C e:Addr) h' args,Inv X pins σ H s->Heap.MadeExcOf s.heap h' e (.ref C) args->E (.ref C) none H->X.xe (.ref e) { s with heap:=h' }
def EX(X:Cx)(c:Str)(Hs H:Hp)(E:XK):Prop:=∀ C H' Hs',PySem.W.nsIn X.K mainGlobals c=some (some (.ref C))->Ext Hs H Hs' H'->E (.ref C) none H'
section
variable {X:Cx} {ρ:Rho} {cx:Cxt} {k:Nat} {sc scope:Scope}
end
end L2
namespace L2
open PySem PySem.Spec PyProof.Rows PySem.SeqAt
open DE hiding st
section
variable {X:Cx} {ρ:Rho} {cx:Cxt} {k F:Nat} {sc scope:Scope} {Hs0 H0:Hp} {e:Expr} {d:D}
theorem CV{y:Expr}(h:Jt cx sc y=true):wL cx sc "list" [y]=.al/\aD y=true:=by
 unfold Jt at h
 split at h
 ·exact⟨rfl,rfl⟩
 ·rename_i f p1 as p2
  rw[Bool.and_eq_true] at h
  have hb:aY cx sc f=none:=by
   unfold aY
   rw[if_pos h.1]
   cases q:cx.blt.lookup f with
   | none=>rfl
   | some z=>rw[q] at h;exact absurd h.2 (by simp)
  refine⟨?_,rfl⟩
  simp only[wL,jT,hb]
  rfl
 ·cases h
theorem uE{n:Nat}{lnm:Str}{y:Expr}{p1 p3:Pos}{v:D}(h:ev cx n sc ρ (.Call (.Name lnm p1) [y] [] p3)=some v)(hb:aY cx sc lnm=some "list")(hw:wL cx sc "list" [y]=.al):∃ m d es,ev cx m sc ρ y=some d/\items d=some es/\v=.lst es:=by
  cases n with
  | zero=>exact nomatch (show(Option.none:Option D)=some v from h)
  | succ n =>
    unfold aY at hb
    split at hb
    · rename_i hg
      have h':(match wL cx sc "list" [y] with
        | .lr1 a=>do let j <- (ev cx n sc ρ a).bind asI;if bU j&&szl j.toNat then some (.lst (bO 0 j)) else none
        | .lr2 a a'=>do let i <- (ev cx n sc ρ a).bind asI;let j <- (ev cx n sc ρ a').bind asI;if bU i&&bU j&&szl (j-i).toNat then some (.lst (bO i j)) else none
        | .tr1 a=>if true then none else none
        | .tv a=>if true then none else none
        | .ls a=>do let xs <- (ev cx n sc ρ a).bind xZ;let ns <- fU xs;if decide (xs.length<=1000) then some (.int (ddp ns).length) else none
        | .al=>do let ds <- kE (ev cx n sc ρ) [y];DE.blt "list" ds)=some v:=by
        rw[<- h]
        simp only[ev,hg,if_true,hb]
        rfl
      rw[hw] at h'
      obtain⟨ds,h1,h2⟩:=aO h'
      simp only[kE] at h1
      obtain⟨d',g1,g2⟩:=aO h1
      obtain⟨_,g3,g4⟩:=aO g2
      cases g3
      cases g4
      obtain⟨es,g5,g6⟩:=aO (show(items d' >>=fun l=>some (D.lst l))=some v from h2)
      cases g6
      exact⟨n,d',es,g1,g5,rfl⟩
    · cases hb
theorem zG{n:Nat}{es:List D}(G:Good cx k X sc)(hN:X.N=ρ.map (·.1))(ho:Jm cx sc e=true)(he:ev cx n sc ρ e=some (.lst es)):Jw X ρ e es:=by
  unfold Jm at ho
  split at ho
  · rename_i lnm p1 y p3
    simp only[Bool.and_eq_true] at ho
    obtain⟨q2,q3⟩:=ho
    have hb:aY cx sc lnm=some "list":=by simpa using q2
    obtain⟨hw,hpl⟩:=CV q3
    obtain⟨m,d',es',g1,g2,g3⟩:=uE he hb hw
    cases g3
    obtain⟨hg,hm,rfl⟩:=aZ G hb
    intro σ H Hs Q hs hst hq
    refine(f9 (iw (X:=X)) hg hm (by decide +kernel) (aU ak bN (aj hpl)) (by decide) (by decide) (aj hpl) rfl).sem ?_
    refine(cI cx m G hN g1).1 σ H Hs _ hs hst fun v H7 Hs7 E7 r7=>?_
    obtain⟨q,us,rfl,k1,k2⟩:=iR r7 g2
    exact⟨q,us,rfl,k1.imp E7.sub.seq E7.sub.tup,fun b hb7=>hq b us Hs7 _ (Ext.acc E7 (E7.all.free hb7) (E7.sub.free hb7)) (E7.all.free hb7) (E7.sub.free hb7) aQ k2⟩
  · cases n with
    | zero=>exact nomatch (show(Option.none:Option D)=some _ from he)
    | succ n =>
      obtain⟨tg,iter,ifs,l,out,rfl,hok,hI,hp,hz,hgo,e1,hE⟩:=jt G hN he
      cases e1
      obtain⟨ok1,ok2,ok3⟩:=cJ G hok
      intro σ H Hs Q hs hst hq
      exact(j6 G.calm ok1 ok2 ok3 iZ (fun Xc C=>⟨fY,eF,ak⟩) (cW hp)).sem (jr G hN hok hI hz hgo hE hs hst hq)
  · cases ho
theorem Eb{tg iter elt:Expr}{l:List D}{dss:List (List D)}(G:Good cx k X sc)(hN:X.N=ρ.map (·.1))(hok:gD sc scope=true)(hI:EvI X ρ tg iter l)(hz:szl l.length=true)(hlen:dss.length=l.length)
  (hs1:∀ Xc,CompOf X scope Xc->∀ (i:Nat) d,l[i]?=some d->∃ ρ1 es,eZ scope tg d (bG scope ρ)=some ρ1/\dss[i]?=some es/\(Xc.N=ρ1.map (·.1)->Jw Xc ρ1 elt es))
  {σ:St} {H Hs:Hp} {Q:VK} (hs:Same Hs H) (hst:bW X.K Hs ρ σ) (hq:∀ a bs Hs' H',Ext Hs H Hs' H'->OO X.K H Hs' H' a bs dss->Q (.ref a) H') :
  nT X scope (nR X tg iter) (n8 X.N scope.names) (fun Xc=>yu Xc tg) (fun Xc=>oH Xc []) (fun Xc=>nO Xc elt) σ H Q:=by
 obtain⟨ok1,ok2,ok3⟩:=cJ G hok
 refine hI σ H Hs _ hs hst fun J H1 Hs1 E1 hJ acc hacc Xc C=>?_
 have GC:=G.comp C hok
 have OC:=Owns.comp (scope:=scope) G C
 have hNc:∀ ρ1:Rho,ρ1.map (·.1)=scope.names.map (·.1)->Xc.N=ρ1.map (·.1):=fun ρ1 h=>by rw[C.N,h]
 have a1:Hs1 acc=none:=E1.sub.free hacc
 have a0:H acc=none:=E1.all.free hacc
 let W:Nat->Nat->St->Hp->Prop:=fun i m σc H3=>m=l.length-i/\i<=l.length/\∃ Hs3 bs,Ext Hs1 H1 Hs3 H3/\OO X.K H Hs3 H3 acc bs (dss.take i)/\σc.length=scope.names.length/\bW X.K Hs3 (bG scope ρ) σc
 refine⟨W,⟨l.length,rfl,Nat.zero_le _,Hs1,[],Ext.acc (.refl E1.sub) hacc a1,⟨aQ,a1,a0,.nil,by simp,by simp,fun j b e=>by simp at e⟩,by simp[n8],ju hN (hst.same E1.vis)⟩,?_⟩
 rintro i m σc H3 ⟨rfl,hi,Hs3,bs,E3,o3,l3,s3⟩
 obtain⟨st3,go3⟩:=hJ Hs3 H3 E3.vis E3.sub
 by_cases hlt:i<l.length
 ·have hd:l[i]?=some l[i]:=List.getElem?_eq_getElem hlt
  obtain⟨gi,yi⟩:=go3 i l[i] hd
  refine .inr ⟨gi,fun σ' H'=>W (i+1) (l.length-(i+1)) σ' H',fun σ' H' w=>⟨_,by omega,w⟩,fun x H4 y4=>?_⟩
  obtain⟨Hs4,E4,rx⟩:=yi x H4 y4
  obtain⟨ρ1,es,k1,k4,kO⟩:=hs1 Xc C i l[i] hd
  have s4:bW X.K Hs4 (bG scope ρ) σc:=s3.same E4.vis
  have KE:=jM (K:=Xc.K) (Hs:=Hs4) (ρ:=ρ) (n:=scope.names.length) ok2 rfl
  refine oV (X:=Xc) (scope:=scope) (Hs:=Hs4) GC.calm OC GC.nd E4.sub (hNc _ cQ) KE k1 ⟨cQ,l3,by rw[C.K];exact s4,by rw[C.K];exact s4⟩ (by rw[C.K];exact rx) fun σ5 hN5 p5=>?_
  obtain⟨_,l5,s5,s5'⟩:=p5
  refine zU (f:=fun _=>none) (ifs:=[]) (b:=true) (fun _ _ h=>nomatch h) rfl E4.sub s5 fun H6 Hs6 E6=>wF ?_
  have E46:=E4.trans E6
  have o6:=o3.step E46
  have E16:Ext Hs1 H1 Hs6 H6:=E3.trans E46
  refine kO hN5 σ5 H6 Hs6 _ E6.sub (s5.same E6.vis) fun b us Hs7 H7 E7 hb6 hbs hb7 g2=>?_
  have o7:=o6.step E7
  have E17:Ext Hs1 H1 Hs7 H7:=E16.trans E7
  have ne:acc≠b:=fun w=>by have:=o6.1;rw[w,hb6] at this;cases this
  refine⟨bs.map V.ref,o7.1,?_,rfl,hlt,Hs7,bs++[b],?_,?_,l5,?_⟩
  ·have:=lW hz
   have:=o7.2.2.2.2.2.1
   rw[List.length_map,this,List.length_take]
   omega
  ·exact Ext.acc E17 hacc o7.2.1
  ·have b0:H b=none:=E1.all.free (E16.all.free hb6)
   have ln:=o7.2.2.2.2.2.1
   have old:∀ (j:Nat) b',bs[j]?=some b'->b'≠b/\b'≠acc:=fun j b' e=>by
    obtain⟨_,_,_,_,_,m4,_⟩:=o6.2.2.2.2.2.2 j b' e
    refine⟨fun w=>?_,fun w=>o6.2.2.2.2.1 (by rw[<- w];exact List.mem_of_getElem? e)⟩
    rw[w,hb6] at m4
    cases m4
   refine⟨by rw[aQ,List.map_append];rfl,o7.2.1,o7.2.2.1,?_,?_,?_,fun j b' e=>?_⟩
   ·rw[List.nodup_append]
    refine⟨o7.2.2.2.1,by simp,fun x' hx' y' hy'=>?_⟩
    obtain⟨j,e⟩:=List.mem_iff_getElem?.mp hx'
    rw[List.mem_singleton.mp hy']
    exact(old j x' e).1
   ·rw[List.mem_append,not_or]
    exact⟨o7.2.2.2.2.1,by simpa using ne⟩
   ·rw[List.length_append,ln,List.length_take,List.length_take,List.length_singleton]
    omega
   ·by_cases hj:j<bs.length
    ·rw[List.getElem?_append_left hj] at e
     obtain⟨m1,m2,ds,ws,m3,m4,m5⟩:=o7.2.2.2.2.2.2 j b' e
     obtain⟨n1,n2⟩:=old j b' e
     refine⟨m1,m2,ds,ws,?_,by rw[aM n2];exact m4,m5⟩
     rw[ln,List.length_take] at hj
     rw[List.getElem?_take] at m3 ⊢
     rw[if_pos (by omega)] at m3 ⊢
     exact m3
    ·rw[List.getElem?_append_right (by omega)] at e
     have ej:j-bs.length=0:=by
      rcases Nat.eq_zero_or_pos (j-bs.length) with z | z
      ·exact z
      ·rw[List.getElem?_eq_none (by simp;omega)] at e;cases e
     rw[ej] at e
     have eb:b=b':=by simpa using e
     subst eb
     have jl:j=i:=by
      rw[ln,List.length_take] at hj ej
      omega
     subst jl
     refine⟨hbs,b0,es,us,?_,by rw[aM (Ne.symm ne)];exact hb7,by rw[<- C.K];exact g2⟩
     rw[List.getElem?_take,if_pos (by omega)]
     exact k4
  ·rw[<- C.K]
   exact s5'.same (E6.trans E7).vis
 ·have hi':i=l.length:=by omega
  subst hi'
  refine .inl ⟨st3,hq acc bs Hs3 H3 (E1.trans E3) ?_⟩
  rw[<- hlen,List.take_length] at o3
  exact o3
theorem OO.low{K:PySem.W.Frag}{H0 H1 Hs H:Hp}{a:Addr}{bs:List Addr}{dss:List (List D)}(h:OO K H1 Hs H a bs dss)(q:∀ b,H1 b=none->H0 b=none):OO K H0 Hs H a bs dss:=by
 obtain⟨h1,h2,h3,h4,h5,h6,h7⟩:=h
 refine⟨h1,h2,q _ h3,h4,h5,h6,fun j b e=>?_⟩
 obtain⟨k1,k2,k3⟩:=h7 j b e
 exact⟨k1,q _ k2,k3⟩
theorem pU:∀ {ds:List D} {dss:List (List D)},EY ds=some dss->dss.length=ds.length/\∀ (i:Nat) d,ds[i]?=some d->∃ es,d=.lst es/\dss[i]?=some es
  | [],dss,h=>by cases h;exact⟨rfl,fun i d e=>by simp at e⟩
  | d :: ds, dss, h => by
    cases d with
    | lst es =>
      simp only[EY,Option.map_eq_some_iff] at h
      obtain⟨r,h1,rfl⟩:=h
      obtain⟨g1,g2⟩:=pU h1
      refine⟨by simp[g1],fun i d e=>?_⟩
      cases i with
      | zero=>simp at e;subst e;exact⟨es,rfl,rfl⟩
      | succ i=>exact g2 i d (by simpa using e)
    | _=>simp[EY] at h
theorem jO{f:D->Option (Option D)}:∀ {l out:List D},(∀ d∈l,f d≠some none)->bD f l=some out->out.length=l.length/\∀ (i:Nat) d,l[i]?=some d->∃ v,f d=some (some v)/\out[i]?=some v
  | [],out,_,h=>by cases h;exact⟨rfl,fun i d e=>by simp at e⟩
  | d :: l, out, hn, h => by
    rcases jw h with⟨v,o',f1,f2,rfl⟩ | ⟨f1,_⟩
    · obtain⟨g1,g2⟩:=jO (fun d hd=>hn d (List.mem_cons_of_mem _ hd)) f2
      refine⟨by simp[g1],fun i d e=>?_⟩
      cases i with
      | zero=>simp at e;subst e;exact⟨v,f1,rfl⟩
      | succ i=>exact g2 i d (by simpa using e)
    · exact absurd f1 (hn d List.mem_cons_self)
theorem J7{x:Str}{px pos:Pos}{dss:List (List D)}(G:GoodS cx k X sc)(hN:X.N=ρ.map (·.1))(hx:ownIn sc x=true)(hc:(ρ.map (·.1)).contains x=true)(hoo:ooE cx sc e=true)(hon:rC (frz F e ρ) x=true)(he:ev cx F sc (frz F e ρ) e=some d)(hd:Hv d=some dss) :
    Runs X Hs0 H0 ρ (.nxt (cj (frz F e ρ) x (.oo dss))) (gM X (.Assign [.Name x px] e pos)):=by
  obtain⟨ox,of⟩:=G.own.own x hx
  have hN':X.N=(frz F e ρ).map (·.1):=by rw[aK];exact hN
  unfold ooE at hoo
  split at hoo
  · rename_i elt y' pt iter a0 scope p4
    cases F with
    | zero=>exact nomatch (show(Option.none:Option D)=some d from he)
    | succ F =>
      obtain⟨tg,iter',ifs,l,out,hg,hok,hI,hp,hz,hgo,rfl,hE⟩:=jt G.good hN' he
      cases hg
      obtain⟨ok1,ok2,ok3⟩:=cJ G.good hok
      intro σ H Hs D h _ hn hr
      obtain⟨i,hi⟩:=bR hc
      obtain⟨Hs1,sm1,h1⟩:=h.frozen (F+1) (.ListComp elt [⟨.Name y' pt,iter,[],0⟩] scope p4)
      generalize hρ:frz (F+1) (.ListComp elt [⟨.Name y' pt,iter,[],0⟩] scope p4) ρ=ρ' at *
      have nm:ρ'.map (·.1)=ρ.map (·.1):=by rw[<- hρ,aK]
      have hf:∀ d o,ni cx F sc scope ρ' (.Name y' pt) elt [] d=some o->∃ ρ1 v,eZ scope (.Name y' pt) d (bG scope ρ')=some ρ1/\ev cx F (jA scope sc) ρ1 elt=some v/\o=some v:=fun d o h=>by
        obtain⟨ρ1,h1,h⟩:=aO h
        obtain⟨b,h2,h⟩:=aO h
        cases h2
        simp only[if_true,Option.map_eq_some_iff] at h
        obtain⟨v,h3,h4⟩:=h
        exact⟨ρ1,v,h1,h3,h4.symm⟩
      obtain⟨n1,n2⟩:=jO (fun d _ h=>by obtain⟨_,_,_,_,h⟩:=hf d _ h;cases h) hgo
      obtain⟨m1,m2⟩:=pU (show EY out=some dss from hd)
      have hnd:(ρ'.map (·.1)).Nodup:=by rw[nm,<- hN];exact G.good.nd
      have hi':X.N[i]?=some x:=by rw[hN];exact hi
      have rd:nT X scope (nR X (.Name y' pt) iter) (n8 X.N scope.names) (fun Xc=>yu Xc (.Name y' pt)) (fun Xc=>oH Xc []) (fun Xc=>nO Xc elt) σ H (fun v H1=>D.nx (σ.set i (some v)) H1):=by
        refine Eb (dss:=dss) G.good hN' hok hI hz (by rw[m1,n1]) (fun Xc C j dd hj=>?_) h1.ext.sub h1.sh fun a bs Hs' H' E o=>?_
        · obtain⟨v,f1,f2⟩:=n2 j dd hj
          obtain⟨ρ1,v',b1,b2,b3⟩:=hf dd _ f1
          cases b3
          obtain⟨es',g3,g4⟩:=m2 j v f2
          subst g3
          exact⟨ρ1,es',b1,g4,fun hN1=>zG (G.good.comp C hok) hN1 hoo b2⟩
        · exact hn _ _ Hs' H' rfl (sm1.trans E.vis) (by rw[aH,nm];exact hN) ((h1.step E).own2 hnd (by rw[nm];exact hi) (o.low fun b q=>h1.ext.all.free q) (xV hnd (by rw[nm];exact hi) hon))
      cases hsw:(X.env.blockKind==.function&&X.env.kindOf x==some .local&&px.line==p4.line && !(scope.names.any fun(n,k)=>n==x&&(k==.local||k==.cell))) with
      | true =>
        have e1:swapsWith (.ListComp elt [⟨.Name y' pt,iter,[],0⟩] scope p4) (some (.Name x px)) pos.line X.env=pure true:=by rw[<- hsw];rfl
        rw[Bool.and_eq_true,Bool.and_eq_true,Bool.and_eq_true] at hsw
        have hl:X.env.scope.names.lookup x=some .local:=by simpa[Env.kindOf] using hsw.1.1.2
        exact PS.sem (tZ G.good.nd hi' hl G.good.calm ok1 ok2 ok3 iZ (fun Xc C=>⟨fY,eF,ak⟩) (cW hp) e1) rd
      | false =>
        have e1:swapsWith (.ListComp elt [⟨.Name y' pt,iter,[],0⟩] scope p4) (some (.Name x px)) pos.line X.env=pure false:=by rw[<- hsw];rfl
        exact PS.sem (iW G.good.nd hi' ox (j6 G.good.calm ok1 ok2 ok3 iZ (fun Xc C=>⟨fY,eF,ak⟩) (cW hp)) e1 of) rd
  · cases hoo
theorem iY{o i:Expr}{pos:Pos}{env:Env}(h:aD i=true):∀ v,assign (.Subscript o i pos) env v=(do
      let ov <- holding [v] (eval o env)
      let iv <- holding [v,ov] (eval i env)
      standAt pos
      holding [v,ov,iv] (setItem ov iv v)
      release [v,ov,iv] []):=by
  intro v
  cases i<;>first | rfl | (exact absurd h (by simp[aD]))
theorem aL.set{K:PySem.W.Frag}{H:Hp}{d:D}{v:V}(hv:Rep K H d v):∀ {ds:List D} {vs:List V} (n:Nat),aL K H ds vs->aL K H (ds.set n d) (vs.set n v)
  | [], vs, n, h => by
    have:vs=[]:=by simpa[aL] using h
    subst this
    simpa[aL] using h
  | e :: ds, vs, n, h => by
    simp only[aL] at h
    obtain⟨w,r,rfl,h1,h2⟩:=h
    cases n with
    | zero=>exact .cons hv h2
    | succ n=>exact .cons h1 (aL.set hv n h2)
theorem nU{tg:Expr}{l:Nat}{env:Env}(he:ev cx F sc ρ e=some d)(hc:bx e=false):swapsWithSole [tg] e l env=pure false:=by
 show swapsWith e (some tg) l env=pure false
 exact dH he fun a b c p q=>by rw[q] at hc;cases hc
theorem iQ{o i:Expr}{pos:Pos}{env:Env}:swappedStores [.Subscript o i pos] e env=pure none:=by
 cases e<;>rfl
theorem Aq{x:Str}{i1 i2:Expr}{dss:List (List D)}{ds:List D}{j1 j2:Int}{n1 n2:Nat}{px tp tp2 pos:Pos}(G:GoodS cx k X sc)(hN:X.N=ρ.map (·.1))(hx:ρ.lookup x=some (.oo dss))(ho:ownIn sc x=true)(hp:au x=true)(hfr:bx e=false)
  (q1:ev cx F sc (frz F e ρ) e=some d) (q2:ev cx F sc (frz F i1 ρ) i1=some (.int j1)) (q3:ixD dss.length j1=some n1) (q4:dss[n1]?=some ds) (q5:ev cx F sc (frz F i2 ρ) i2=some (.int j2)) (q6:ixD ds.length j2=some n2) (q7:eX d=true) :
  Runs X Hs0 H0 ρ (.nxt (cj ρ x (.oo (dss.set n1 (ds.set n2 d))))) (gM X (.Assign [.Subscript (.Subscript (.Name x px) i1 tp) i2 tp2] e pos)):=by
 have hNf:∀ e,X.N=(frz F e ρ).map (·.1):=fun e=>by rw[aK];exact hN
 obtain⟨i,hi,_⟩:=bK hx
 have nd:(ρ.map (·.1)).Nodup:=by rw[<- hN];exact G.good.nd
 intro σ H Hs D h _ hn hr
 obtain⟨⟨ad,bs,k1,k2⟩,_⟩:=h.oo i x dss hi
 unfold au at hp
 rw[Bool.and_eq_true,bne_iff_ne,bne_iff_ne] at hp
 have vis:Vis X.env.scope x:=(G.own.own x ho).1.elim .inl fun q=>.inr (.inl q)
 have hNi:X.N[i]?=some x:=by rw[hN,List.getElem?_map,hi];rfl
 have pv:∀ {pp:Pos},PE X (.Name x pp) (FT i):=fun {pp}=>fZ hNi vis (by simpa using hp.1) (by simpa using hp.2)
 have ll:=k2.2.2.2.2.2.1
 have nlt:n1<bs.length:=by
  rw[ll]
  exact(List.getElem?_eq_some_iff.mp q4).1
 obtain⟨b,hb⟩:∃ b,bs[n1]?=some b:=⟨_,List.getElem?_eq_getElem nlt⟩
 refine PS.sem (pK ak (um (BL uT pv ak (iG (aV q2))) ak set_list (iY (aV q5))) (nU q1 hfr) iQ rfl) ?_
 obtain⟨Hs1,sm1,shp,h1⟩:=h.frozen2 F e
 refine(cI cx F G.good (hNf e) q1).1 σ H Hs1 _ h1.ext.sub h1.sh fun v1 H1 Hs4 E1 r1=>?_
 obtain⟨Hs7,B1,r1'⟩:=d8 h.ext.sub sm1 shp E1 q7 r1
 have hB1:=h.step B1
 obtain⟨Hs2,sm2,h2⟩:=hB1.frozen F i1
 refine⟨.ref ad,k1,(cI cx F G.good (hNf i1) q2).1 σ H1 Hs2 _ h2.ext.sub h2.sh fun v2 H2 Hs5 E2 r2=>?_⟩
 have B2:Ext Hs7 H1 Hs7 H2:=⟨.refl _,E2.all,hB1.ext.sub.trans E2.all,fun _ _ _ h=>h⟩
 have hB2:=hB1.step B2
 have o2:=(k2.step B1).step B2
 refine⟨ad,bs.map V.ref,j1,.ref b,rfl,aA r2,.of o2.1,?_,?_⟩
 ·unfold atI
  rw[List.length_map,ll,<- mU,q3]
  show(bs.map V.ref)[n1]?=_
  rw[List.getElem?_map,hb];rfl
 obtain⟨Hs3,sm3,h3⟩:=hB2.frozen F i2
 refine(cI cx F G.good (hNf i2) q5).1 σ H2 Hs3 _ h3.ext.sub h3.sh fun v3 H3 Hs6 E3 r3=>?_
 have B3:Ext Hs7 H2 Hs7 H3:=⟨.refl _,E3.all,hB2.ext.sub.trans E3.all,fun _ _ _ h=>h⟩
 have o3:=o2.step B3
 obtain⟨m1,m2,ds',us,m3,m4,m5⟩:=o3.2.2.2.2.2.2 n1 b hb
 rw[q4] at m3
 cases m3
 have nab:ad≠b:=fun w=>o3.2.2.2.2.1 (by rw[w];exact List.mem_of_getElem? hb)
 refine⟨b,us,j2,n2,rfl,aA r3,m4,by rw[<- m5.length,<- mU];exact q6,?_⟩
 refine hn _ _ Hs7 _ rfl B1.vis (by rw[aH];exact hN) ((hB2.step B3).app2 nd hi k1 m1 m2 (bs':=bs) ⟨by rw[aM nab];exact o3.1,o3.2.1,o3.2.2.1,o3.2.2.2.1,o3.2.2.2.2.1,by rw[List.length_set];exact o3.2.2.2.2.2.1,fun jj b' e=>?_⟩)
 by_cases hjj:n1=jj
 ·subst hjj
  rw[hb] at e
  cases e
  refine⟨m1,m2,ds.set n2 d,us.set n2 v1,?_,aQ,aL.set r1' n2 m5⟩
  rw[List.getElem?_set,if_pos rfl,if_pos (by rw[<- ll];exact nlt)]
 ·obtain⟨m1',m2',ds',us',m3',m4',m5'⟩:=o3.2.2.2.2.2.2 jj b' e
  refine⟨m1',m2',ds',us',?_,?_,m5'⟩
  ·rw[List.getElem?_set,if_neg hjj];exact m3'
  ·rw[aM]
   ·exact m4'
   ·intro w
    rw[w] at e
    exact hjj ((List.getElem?_inj nlt o3.2.2.2.1).mp (hb.trans e.symm))
end
end L2
namespace L2
open PySem PySem.Spec PyProof.Rows PySem.SeqAt
open DE hiding st
section
variable {X:Cx} {pos:Pos}
end
section
variable {X:Cx} {ρ:Rho} {cx:Cxt} {k F:Nat} {sc scope:Scope} {Hs0 H0:Hp} {e:Expr} {d:D}
theorem Ge{es:List Expr}{l:List D}{ρ':Rho}{kt:Nat}{pt pos:Pos}(G:GoodS cx k X sc)(hN:X.N=ρ.map (·.1))(hs:(swp sc es e).isSome=true)(he:ev cx F sc (frz F e ρ) e=some d)(hl:items d=some l)(hb:bindNames sc es l (frz F e ρ)=some ρ') :
    Runs X Hs0 H0 ρ (.nxt ρ') (gM X (.Assign [.Tuple es kt pt] e pos)):=by
  have hN':X.N=(frz F e ρ).map (·.1):=by rw[aK];exact hN
  obtain⟨b,hb'⟩:=Option.isSome_iff_exists.mp hs
  cases b with
  | false =>
    have hw:=Ga (kt:=kt) (pt:=pt) G.good hb'
    have hso:swapsWithSole [.Tuple es kt pt] e pos.line X.env=pure false:=by
      show swapsWith e (some (.Tuple es kt pt)) pos.line X.env=pure false
      by_cases hc:∃ a b c p,e=.ListComp a b c p
      · obtain⟨a,b,c,p,rfl⟩:=hc
        rfl
      · exact dH he fun a b c p q=>hc ⟨a,b,c,p,q⟩
    intro σ H Hs D h _ hn hr
    exact PS.sem (pK ak fY hso hw rfl) (yC G hN he h fun v Hs' H' sm h' r=>rZ G h'.ext.sub hN' pY hl hb h' r fun σ' hN2 p=>hn ρ' σ' Hs' H' rfl sm hN2 p)
  | true =>
    obtain⟨x,px,y,py,a,b,k2,p2,rfl,rfl,lx,ly,hxy,pa,pb,hw⟩:=Al (kt:=kt) (pt:=pt) G.good hb'
    cases F with
    | zero=>simp[ev] at he
    | succ F =>
      simp only[ev] at he
      obtain⟨ds,h1,he⟩:=aO he
      split at he
      · cases he
        simp only[items,Option.some.injEq] at hl
        subst hl
        have hA:=(fK (fun e _ d hd=>⟨(cI cx F G.good hN' hd).1,aV hd⟩) h1).1
        have hlen:ds.length=2:=by have:=(eG (env:=X.env) hb).2.2;simpa using this.symm
        obtain⟨d1,d2,rfl⟩:∃ d1 d2,ds=[d1,d2]:=by
          match ds,hlen with
          | [d1,d2],_=>exact⟨d1,d2,rfl⟩
        simp only[bindNames] at hb
        split at hb
        · rename_i c1
          split at hb
          · rename_i c2
            cases hb
            rw[Bool.and_eq_true] at c1 c2
            rw[aH] at c2
            obtain⟨i,hi⟩:=bR c1.2
            obtain⟨j,hj⟩:=bR c2.2
            have hij:i≠j:=fun z=>by rw[z,hj] at hi;cases hi;exact hxy rfl
            intro σ H Hs D h _ hn hr
            obtain⟨Hs1,sm1,h1'⟩:=h.frozen (F+1) (.Tuple [a,b] k2 p2)
            refine PS.sem (Gz G.good.calm G.good.nd (by rw[hN'];exact hi) (by rw[hN'];exact hj) hij lx ly cN hw rfl) (hA σ H Hs1 _ h1'.ext.sub h1'.sh fun vs H' Hs' E r=>?_)
            obtain⟨v,w,rfl,r1,r2⟩:=Gq r
            have nd:((frz (F+1) (.Tuple [a,b] k2 p2) ρ).map (·.1)).Nodup:=by rw[<- hN'];exact G.good.nd
            have g1:=(h1'.step E).set nd hi r1
            have g2:=g1.set (by rw[aH];exact nd) (by rw[aH];exact hj) r2
            exact⟨v,w,rfl,hn _ _ Hs' H' rfl (sm1.trans E.vis) (by rw[aH,aH];exact hN') g2⟩
          · cases hb
        · cases hb
      · cases he
theorem Runs.frz0{fl:Fl}{t:TS}{e:Expr}(h:Runs X Hs0 H0 (frz 0 e ρ) fl t):Runs X Hs0 H0 ρ fl t:=by
 intro σ H Hs D hd hN hn hr
 obtain⟨Hs1,sm1,h1⟩:=hd.frozen 0 e
 exact h σ H Hs1 D h1 (by rw[aK];exact hN) (fun ρ' σ' Hs' H' q sm hN' h'=>hn ρ' σ' Hs' H' q (sm1.trans sm) hN' h') hr
theorem tO{x:Str}{ds:List D}{px ap cp pos:Pos}(G:GoodS cx k X sc)(hN:X.N=ρ.map (·.1))(hx:(frz F e ρ).lookup x=some (.ow ds))(ho:ownIn sc x=true)(hp:au x=true)(hline:(ap.endLine==cp.line)=true)(hz:szl (ds.length+1)=true)(he:ev cx F sc (frz F e ρ) e=some d) :
  Runs X Hs0 H0 ρ (.nxt (cj (frz F e ρ) x (.ow (ds++[d])))) (gM X (.Expr (.Call (.Attribute (.Name x px) "append" ap) [e] [] cp) pos)):=by
 have hN':X.N=(frz F e ρ).map (·.1):=by rw[aK];exact hN
 obtain⟨i,hi,_⟩:=bK hx
 have nd:((frz F e ρ).map (·.1)).Nodup:=by rw[<- hN'];exact G.good.nd
 have hpl:=aV he
 intro σ H Hs D h _ hn hr
 obtain⟨Hs1,sm1,h1⟩:=h.frozen F e
 obtain⟨a,vs,k1,k2,k3,k4,k5⟩:=h1.ow i x ds hi
 unfold au at hp
 rw[Bool.and_eq_true,bne_iff_ne,bne_iff_ne] at hp
 have vis:Vis X.env.scope x:=(G.own.own x ho).1.elim .inl fun q=>.inr (.inl q)
 refine PS.sem (gQ (uo PySem.F.plainAttrs_list PySem.F.slot_list_append PySem.F.type_list_append jg (fZ (i:=i) (by rw[hN',List.getElem?_map,hi];rfl) vis (by simpa using hp.1) (by simpa using hp.2)) (aU ak bN (aj hpl)) rfl (by rw[aj hpl];rfl) hline (aj hpl) rfl) rfl) ?_
 refine⟨_,k1,.inl ⟨rfl,vs,.of k2⟩,?_⟩
 refine(cI cx F G.good hN' he).1 σ H Hs1 _ h1.ext.sub h1.sh fun v H' Hs' E r=>?_
 have h2:=h1.step E
 refine⟨a,vs,v,rfl,rfl,E.all _ _ k2,by have:=k3.length;have:=lW hz;omega,?_⟩
 exact hn _ _ Hs' _ rfl (sm1.trans E.vis) (by rw[aH];exact hN') (h2.app nd hi k1 (aL.append (aL.same E.vis ds vs k3) (.cons r .nil)))
theorem rm{x:Str}{ds:List D}{px ap cp pos:Pos}(G:GoodS cx k X sc)(hN:X.N=ρ.map (·.1))(hx:ρ.lookup x=some (.ow ds))(ho:ownIn sc x=true)(hp:au x=true)(hline:(ap.endLine==cp.line)=true)(hz:szl (ds.length+1)=true)(he:ev cx F sc (frz F e ρ) e=some d)(hfl:eX d=true) :
  Runs X Hs0 H0 ρ (.nxt (cj ρ x (.ow (ds++[d])))) (gM X (.Expr (.Call (.Attribute (.Name x px) "append" ap) [e] [] cp) pos)):=by
 have hN':X.N=(frz F e ρ).map (·.1):=by rw[aK];exact hN
 obtain⟨i,hi,_⟩:=bK hx
 have nd:(ρ.map (·.1)).Nodup:=by rw[<- hN];exact G.good.nd
 have hpl:=aV he
 intro σ H Hs D h _ hn hr
 obtain⟨Hs1,sm1,shp,h1⟩:=h.frozen2 F e
 obtain⟨a,vs,k1,k2,k3,k4,k5⟩:=h.ow i x ds hi
 unfold au at hp
 rw[Bool.and_eq_true,bne_iff_ne,bne_iff_ne] at hp
 have vis:Vis X.env.scope x:=(G.own.own x ho).1.elim .inl fun q=>.inr (.inl q)
 refine PS.sem (gQ (uo PySem.F.plainAttrs_list PySem.F.slot_list_append PySem.F.type_list_append jg (fZ (i:=i) (by rw[hN,List.getElem?_map,hi];rfl) vis (by simpa using hp.1) (by simpa using hp.2)) (aU ak bN (aj hpl)) rfl (by rw[aj hpl];rfl) hline (aj hpl) rfl) rfl) ?_
 refine⟨_,k1,.inl ⟨rfl,vs,.of k2⟩,?_⟩
 refine(cI cx F G.good hN' he).1 σ H Hs1 _ h1.ext.sub h1.sh fun v H' Hs' E r=>?_
 obtain⟨Hs3,E3,r3⟩:=d8 h.ext.sub sm1 shp E hfl r
 have h2:=h.step E3
 refine⟨a,vs,v,rfl,rfl,E3.all _ _ k2,by have:=k3.length;have:=lW hz;omega,?_⟩
 exact hn _ _ Hs3 _ rfl E3.vis (by rw[aH];exact hN) (h2.app nd hi k1 (aL.append (aL.same E3.vis ds vs k3) (.cons r3 .nil)))
theorem Ar{x:Str}{ie:Expr}{ds:List D}{j:Int}{n:Nat}{px tp pos:Pos}(G:GoodS cx k X sc)(hN:X.N=ρ.map (·.1))(hx:(frz F ie (frz F e ρ)).lookup x=some (.ow ds))(ho:ownIn sc x=true)(hp:au x=true)(hfr:bx e=false)
  (q1:ev cx F sc (frz F ie (frz F e ρ)) e=some d) (q4:ev cx F sc (frz F ie (frz F e ρ)) ie=some (.int j)) (q5:ixD ds.length j=some n) :
  Runs X Hs0 H0 ρ (.nxt (cj (frz F ie (frz F e ρ)) x (.ow (ds.set n d)))) (gM X (.Assign [.Subscript (.Name x px) ie tp] e pos)):=by
 have hN':X.N=(frz F ie (frz F e ρ)).map (·.1):=by rw[aK,aK];exact hN
 obtain⟨i,hi,_⟩:=bK hx
 have nd:((frz F ie (frz F e ρ)).map (·.1)).Nodup:=by rw[<- hN'];exact G.good.nd
 intro σ H Hs D h _ hn hr
 obtain⟨Hs1,sm1,h1⟩:=h.frozen F e
 obtain⟨Hs3,sm3,h3⟩:=h1.frozen F ie
 obtain⟨ad,vs,k1,k2,k3,k4,k5⟩:=h3.ow i x ds hi
 unfold au at hp
 rw[Bool.and_eq_true,bne_iff_ne,bne_iff_ne] at hp
 have vis:Vis X.env.scope x:=(G.own.own x ho).1.elim .inl fun q=>.inr (.inl q)
 have hNi:X.N[i]?=some x:=by rw[hN',List.getElem?_map,hi];rfl
 have pv:∀ {pp:Pos},PE X (.Name x pp) (FT i):=fun {pp}=>fZ hNi vis (by simpa using hp.1) (by simpa using hp.2)
 refine PS.sem (pK ak (um pv ak set_list (iY (aV q4))) (nU q1 hfr) iQ rfl) ?_
 refine(cI cx F G.good hN' q1).1 σ H Hs3 _ h3.ext.sub h3.sh fun v1 H1 Hs4 E1 r1=>?_
 refine⟨.ref ad,k1,(cI cx F G.good hN' q4).1 σ H1 Hs4 _ E1.sub (h3.sh.same E1.vis) fun v3 H3 Hs6 E3 r3=>?_⟩
 have E:=E1.trans E3
 refine⟨ad,vs,j,n,rfl,aA r3,E.all _ _ k2,by rw[<- k3.length,<- mU];exact q5,?_⟩
 exact hn _ _ Hs6 _ rfl (sm1.trans (sm3.trans E.vis)) (by rw[aH];exact hN') ((h3.step E).app nd hi k1 (aL.set (Rep.same E3.vis _ _ r1) n (aL.same E.vis ds vs k3)))
theorem wU{x:Str}{ie:Expr}{ds:List D}{j:Int}{n:Nat}{px tp pos:Pos}(G:GoodS cx k X sc)(hN:X.N=ρ.map (·.1))(hx:ρ.lookup x=some (.ow ds))(ho:ownIn sc x=true)(hp:au x=true)(hfr:bx e=false)
  (q1:ev cx F sc (frz F e ρ) e=some d) (q4:ev cx F sc (frz F e ρ) ie=some (.int j)) (q5:ixD ds.length j=some n) (hfl:eX d=true) :
  Runs X Hs0 H0 ρ (.nxt (cj ρ x (.ow (ds.set n d)))) (gM X (.Assign [.Subscript (.Name x px) ie tp] e pos)):=by
 have hN':X.N=(frz F e ρ).map (·.1):=by rw[aK];exact hN
 obtain⟨i,hi,_⟩:=bK hx
 have nd:(ρ.map (·.1)).Nodup:=by rw[<- hN];exact G.good.nd
 intro σ H Hs D h _ hn hr
 obtain⟨Hs1,sm1,shp,h1⟩:=h.frozen2 F e
 obtain⟨ad,vs,k1,k2,k3,k4,k5⟩:=h.ow i x ds hi
 unfold au at hp
 rw[Bool.and_eq_true,bne_iff_ne,bne_iff_ne] at hp
 have vis:Vis X.env.scope x:=(G.own.own x ho).1.elim .inl fun q=>.inr (.inl q)
 have hNi:X.N[i]?=some x:=by rw[hN,List.getElem?_map,hi];rfl
 have pv:∀ {pp:Pos},PE X (.Name x pp) (FT i):=fun {pp}=>fZ hNi vis (by simpa using hp.1) (by simpa using hp.2)
 refine PS.sem (pK ak (um pv ak set_list (iY (aV q4))) (nU q1 hfr) iQ rfl) ?_
 refine(cI cx F G.good hN' q1).1 σ H Hs1 _ h1.ext.sub h1.sh fun v1 H1 Hs4 E1 r1=>?_
 refine⟨.ref ad,k1,(cI cx F G.good hN' q4).1 σ H1 Hs4 _ E1.sub (h1.sh.same E1.vis) fun v3 H3 Hs6 E3 r3=>?_⟩
 have E:=E1.trans E3
 obtain⟨Hs7,E7,r7⟩:=d8 h.ext.sub sm1 shp E hfl (Rep.same E3.vis _ _ r1)
 refine⟨ad,vs,j,n,rfl,aA r3,E.all _ _ k2,by rw[<- k3.length,<- mU];exact q5,?_⟩
 exact hn _ _ Hs7 _ rfl E7.vis (by rw[aH];exact hN) ((h.step E7).app nd hi k1 (aL.set r7 n (aL.same E7.vis ds vs k3)))
theorem uX(l:Addr)(items:Array Value)(n:Nat)(x:Int)(u:Tok)(y:Value)(hc0:Builtin.List.listFitsIndex x=true)(hs1:items.size<=sizeLine) :
  Meets (Builtin.«list.insert» ⟨[.ref l,.int x u,y],[]⟩) (fun _ R s=>s.heap.get? l=some { cls:=.type "list",dict:=none,data:=.seq items n,slots := #[] }/\R (.ok (.ret Value.none)) { s with heap:=s.heap.update l (Obj.mapSeq fun xs=>have k:=if x<0 then(x+(xs.size:Int)).toNat else min x.toNat xs.size;(xs.extract 0 k).push y++xs.extract k),toks:=s.toks }) :=
 AutoSeq1.list_insert_list_int_val_1 l items n x u y (by rw[hc0];decide) hs1
def Xu:V->List V->Hp->VK->Prop:=fun x vs H Q=>∃ l xs i y,x=.ref l/\vs=[.int i,y]/\H l=some (.lst xs)/\0<=i/\i<=(xs.length:Int)/\i<=100000/\xs.length+1<=sizeLine/\Q .non (upd H l (.lst (xs.take i.toNat++[y]++xs.drop i.toNat)))
theorem Hq:MtM X "list.insert" Xu:=by
  intro pins s σ H x vs v us Q I rx rv h
  obtain⟨l,xs,i,y,rfl,rfl,hH,h0,hi,hi2,hz,q⟩:=h
  cases rx
  cases rv with
  | cons r1 rv =>
    obtain⟨u,rfl,ru⟩:=(show Vals [y] _ from rv).one
    obtain⟨t,rfl⟩:=r1
    obtain⟨z,its,n,r,hl,e⟩:=I.lstM hH
    have hfit:Builtin.List.listFitsIndex i=true:=by
      simp only[Builtin.List.listFitsIndex,Bool.and_eq_true,decide_eq_true_eq]
      omega
    refine call_meets PySem.F.slot_list_insert ⟨_,e,rfl⟩ PySem.F.entry_list_insert (PySem.F.args_list_insert_3 _ _ _) (uX l its.toArray n i t u hfit (by rw[List.size_toArray];omega)) ⟨e,?_⟩
    refine⟨.non,_,I.lset (its':=its.take i.toNat++[u]++its.drop i.toNat) hH e ?_ (Vals.append (Vals.append (Vals.take i.toNat r) (.cons ru .nil)) (Vals.drop i.toNat r)) ?_,rfl,q⟩
    · have e1:(if i<0 then(i+(its.toArray.size:Int)).toNat else min i.toNat its.toArray.size)=i.toNat:=by
        rw[if_neg (by omega),List.size_toArray]
        omega
      simp only[e1]
      simp
      exact List.take_of_length_le (by rw[List.length_drop];omega)
    · simp
      omega
theorem tL{x:Str}{ds:List D}{j:Int}{px py ap cp ap2 cp2 pos:Pos}(G:GoodS cx k X sc)(hN:X.N=ρ.map (·.1))(hx:(frz F e ρ).lookup x=some (.ow ds))(ho:ownIn sc x=true)(hp:au x=true)(hline:(ap.endLine==cp.line)=true)(hline2:(ap2.endLine==cp2.line)=true)(he:ev cx F sc (frz F e ρ) e=some (.int j))(hd:ds[ds.length-1]?=some d)(h0:0<=j)(h1:j<=ds.dropLast.length)(hz:szl ds.length=true) :
  Runs X Hs0 H0 ρ (.nxt (cj (frz F e ρ) x (.ow (Jv ds.dropLast j.toNat d)))) (gM X (.Expr (.Call (.Attribute (.Name x px) "insert" ap) [e,.Call (.Attribute (.Name x py) "pop" ap2) [] [] cp2] [] cp) pos)):=by
 have hN':X.N=(frz F e ρ).map (·.1):=by rw[aK];exact hN
 obtain⟨i,hi,_⟩:=bK hx
 have nd:((frz F e ρ).map (·.1)).Nodup:=by rw[<- hN'];exact G.good.nd
 have hpl:=aV he
 intro σ H Hs D h _ hn hr
 obtain⟨Hs1,sm1,h1'⟩:=h.frozen F e
 obtain⟨a,vs,k1,k2,k3,k4,k5⟩:=h1'.ow i x ds hi
 unfold au at hp
 rw[Bool.and_eq_true,bne_iff_ne,bne_iff_ne] at hp
 have vis:Vis X.env.scope x:=(G.own.own x ho).1.elim .inl fun q=>.inr (.inl q)
 have pv:∀ {pp:Pos},PE X (.Name x pp) (FT i):=fun {pp}=>fZ (by rw[hN',List.getElem?_map,hi];rfl) vis (by simpa using hp.1) (by simpa using hp.2)
 refine PS.sem (gQ (uo PySem.F.plainAttrs_list PySem.F.slot_list_insert PySem.F.type_list_insert Hq pv (aU ak (aU (G4 PySem.F.plainAttrs_list PySem.F.slot_list_pop PySem.F.type_list_pop Ho pv rfl hline2) bN rfl) (aj hpl)) rfl (by rw[aj hpl];rfl) hline (aj hpl) rfl) rfl) ?_
 refine⟨_,k1,.inl ⟨rfl,vs,.of k2⟩,?_⟩
 refine(cI cx F G.good hN' he).1 σ H Hs1 _ h1'.ext.sub h1'.sh fun v H' Hs' E r=>?_
 have h2:=h1'.step E
 have hl:=k3.length
 obtain⟨w,hw,rw'⟩:=(aL.same E.vis ds vs k3).get hd
 have zz:=lW hz
 have zz2:ds.length<=100000:=by simpa[szl] using hz
 have zz3:ds.dropLast.length<=ds.length:=by rw[List.length_dropLast];omega
 refine⟨_,k1,.inl ⟨rfl,vs,.of (E.all _ _ k2)⟩,a,vs,w,rfl,rfl,E.all _ _ k2,by rw[<- hl];exact hw,?_⟩
 have hdl:vs.dropLast.length=ds.dropLast.length:=by rw[List.length_dropLast,List.length_dropLast,hl]
 refine⟨a,vs.dropLast,j,w,rfl,by rw[aA r],aQ,h0,by omega,by omega,by rw[List.length_dropLast];omega,?_⟩
 have kd:aL X.K Hs' ds.dropLast vs.dropLast:=by
  rw[List.dropLast_eq_take,List.dropLast_eq_take,<- hl]
  exact(aL.same E.vis ds vs k3).take _
 have fin:=h2.app nd hi k1 (((kd.take j.toNat).append (.cons rw' .nil)).append (kd.drop j.toNat))
 have eq:upd (upd H' a (.lst vs.dropLast)) a (.lst (vs.dropLast.take j.toNat++[w]++vs.dropLast.drop j.toNat))=upd H' a (.lst (vs.dropLast.take j.toNat++[w]++vs.dropLast.drop j.toNat)):=by
  funext b
  by_cases hb:b=a
  ·subst hb;rw[aQ,aQ]
  ·rw[aM hb,aM hb,aM hb]
 rw[eq]
 exact hn _ _ Hs' _ rfl (sm1.trans E.vis) (by rw[aH];exact hN') fin
theorem wV{x:Str}{px pos:Pos}(G:GoodS cx k X sc)(hN:X.N=ρ.map (·.1))(hx:ownIn sc x=true)(hc:(ρ.map (·.1)).contains x=true)(hrd:rdA e=true)(he:ev cx F sc (frz F e ρ) e=some d)(hfl:eX d=true) :
  Runs X Hs0 H0 ρ (.nxt (cj ρ x (.sh d))) (gM X (.Assign [.Name x px] e pos)):=by
 obtain⟨ox,of⟩:=G.own.own x hx
 have hN':X.N=(frz F e ρ).map (·.1):=by rw[aK];exact hN
 obtain⟨i,hi⟩:=bR hc
 have nd:(ρ.map (·.1)).Nodup:=by rw[<- hN];exact G.good.nd
 intro σ H Hs D h _ hn hr
 obtain⟨Hs1,sm1,shp,h1⟩:=h.frozen2 F e
 have hsw:=dH (t:=some (.Name x px)) (l:=pos.line) (env:=X.env) he fun a b c p q=>by rw[q] at hrd;cases hrd
 refine PS.sem (iW (i:=i) G.good.nd (by rw[hN];exact hi) ox ak hsw of) ?_
 refine(cI cx F G.good hN' he).1 σ H Hs1 _ h1.ext.sub h1.sh fun v H' Hs' E r=>?_
 obtain⟨Hs3,E3,r3⟩:=d8 h.ext.sub sm1 shp E hfl r
 exact hn _ _ Hs3 _ rfl E3.vis (by rw[aH];exact hN) ((h.step E3).set nd hi r3)
theorem Gf{x:Str}{ds:List D}{px pos:Pos}(G:GoodS cx k X sc)(hN:X.N=ρ.map (·.1))(hx:ownIn sc x=true)(hc:(ρ.map (·.1)).contains x=true)(hno:j9 (frz F e ρ) x=true)(hl:wD cx sc e=true)(he:ev cx F sc (frz F e ρ) e=some (.lst ds)) :
  Runs X Hs0 H0 ρ (.nxt (cj (frz F e ρ) x (.ow ds))) (gM X (.Assign [.Name x px] e pos)):=by
 have hN':X.N=(frz F e ρ).map (·.1):=by rw[aK];exact hN
 obtain⟨ox,of⟩:=G.own.own x hx
 have hfr:bx e=false:=by cases e<;>first | rfl | (simp[wD] at hl;done)
 have hown:Jm cx sc e=true:=by
  unfold wD at hl
  split at hl
  ·exact hl
  ·cases hl
 refine pA G hN hx hc hno fun i hi σ H Hs D hs hst hq=>?_
 have hsw:=dH (t:=some (.Name x px)) (l:=pos.line) (env:=X.env) he fun a b c p q=>by rw[q] at hfr;cases hfr
 exact PS.sem (iW (i:=i) G.good.nd hi ox ak hsw of) (zG G.good hN' hown he σ H Hs _ hs hst fun acc vs Hs' H' E a1 a2 a3 r=>hq acc vs Hs' H' E a1 a2 a3 r)
theorem vf(l:Addr)(xs:Array Value)(n:Nat)(b:Addr)(ys:Array Value)(m:Nat)(dd:Option Addr)(sl:Array (Option Value))(c0:¬(!xs.isEmpty&&Builtin.List.listTooLong (xs.size+ys.size))=true)(c1:xs.size<=sizeLine)(c2:xs.size+ys.size<=sizeLine+1) :
    Meets (Builtin.«list.extend» ⟨[.ref l,.ref b],[]⟩) (fun _ R s=>s.heap.get? l=some { cls:=.type "list",data:=.seq xs n }/\s.heap.get? b=some { cls:=.type "list",dict:=dd,data:=.seq ys m,slots:=sl } /\
      R (.ok (.ret Value.none)) { s with heap:=s.heap.update l (Obj.mapSeq fun x=>x++ys),toks:=s.toks }) :=
  .of_wp fun prog w A R s h=>by
    obtain⟨hp,g,d,tk,os⟩:=s
    obtain⟨hl,hb,h⟩:=h
    have f1:=sub_list_list;have f2:=AutoSeq1.sub_tuple_list;have f3:=AutoSeq1.sub_list_tuple
    have z:(xs++ys).size<=sizeLine+1:=by rw[Array.size_append];exact c2
    wp_walk using(wpAny_updateSeq hl rfl (hz:=c1) (_hz':=z)),AutoSeq1.wpAny_loadPart' hl,AutoSeq1.wpAny_loadPart' hb;exact⟨_,rfl,h⟩
def Km(K:PySem.W.Frag):V->List V->Hp->VK->Prop:=fun x vs H Q=>∃ l b xs zs,x=.ref l/\vs=[.ref b]/\H l=some (.lst xs)/\SqL K H b zs/\xs.length+zs.length<=sizeLine/\Q .non (upd H l (.lst (xs++zs)))
theorem CN:MtM X "list.extend" (Km X.K):=by
 intro pins s σ H x vs v us Q I rx rv h
 obtain⟨l,b,xs,zs,rfl,rfl,hH,hB,hz,q⟩:=h
 cases (show v=Value.ref l from rx)
 obtain⟨u,rfl,ru⟩:=rv.one
 cases (show u=Value.ref b from ru)
 obtain⟨z,its,n,r,hl,e⟩:=I.lstM hH
 obtain⟨its2,r2,pl,hz2⟩:=I.list hB
 have hl2:=r2.length
 obtain⟨⟨c2,dd2,data2,sl2⟩,n2,e2,hc2,hd2,hs2⟩:=pl
 simp only at hc2 hs2
 have hsz:its.toArray.size+its2.toArray.size<=sizeLine:=by rw[List.size_toArray,List.size_toArray];omega
 have lng:¬ (!its.toArray.isEmpty&&Builtin.List.listTooLong (its.toArray.size+its2.toArray.size))=true:=fun w=>by
  rw[j8 hsz,Bool.and_false] at w;cases w
 obtain⟨h3,h4⟩:=(show dd2=none/\data2=.seq its2.toArray n2 from⟨hd2,hs2⟩)
 subst hc2 h4
 refine call_meets F.slot_list_extend ⟨_,e,rfl⟩ F.entry_list_extend (F.args_list_extend_2 _ _) (vf l its.toArray n b its2.toArray n2 dd2 sl2 lng (by rw[List.size_toArray];omega) (by omega)) ⟨e,e2,?_⟩
 exact⟨.non,_,I.lset (its':=its++its2) hH e (by simp) (r.append r2) (by rw[List.length_append];omega),rfl,q⟩
theorem rH(l:Addr)(xs:Array Value)(n:Nat)(b:Addr)(ys:Array Value)(m:Nat)(dd:Option Addr)(sl:Array (Option Value))(c0:¬(!xs.isEmpty&&Builtin.List.listTooLong (xs.size+ys.size))=true)(c1:xs.size<=sizeLine)(c2:xs.size+ys.size<=sizeLine+1) :
    Meets (Builtin.«list.extend» ⟨[.ref l,.ref b],[]⟩) (fun _ R s=>s.heap.get? l=some { cls:=.type "list",data:=.seq xs n }/\s.heap.get? b=some { cls:=.type "tuple",dict:=dd,data:=.seq ys m,slots:=sl } /\
      R (.ok (.ret Value.none)) { s with heap:=s.heap.update l (Obj.mapSeq fun x=>x++ys),toks:=s.toks }) :=
  .of_wp fun prog w A R s h=>by
    obtain⟨hp,g,d,tk,os⟩:=s
    obtain⟨hl,hb,h⟩:=h
    have f1:=sub_list_list;have f2:=AutoSeq1.sub_tuple_list;have f3:=AutoSeq1.sub_list_tuple;have f4:=isSubtype_tuple_tuple
    have z:(xs++ys).size<=sizeLine+1:=by rw[Array.size_append];exact c2
    wp_walk using(wpAny_updateSeq hl rfl (hz:=c1) (_hz':=z)),AutoSeq1.wpAny_loadPart' hl,AutoSeq1.wpAny_loadPart' hb;exact⟨_,rfl,h⟩
def Kl(K:PySem.W.Frag):V->List V->Hp->VK->Prop:=fun x vs H Q=>∃ l b xs zs,x=.ref l/\vs=[.ref b]/\H l=some (.lst xs)/\SqT K H b zs/\xs.length+zs.length<=sizeLine/\Q .non (upd H l (.lst (xs++zs)))
theorem CK:MtM X "list.extend" (Kl X.K):=by
 intro pins s σ H x vs v us Q I rx rv h
 obtain⟨l,b,xs,zs,rfl,rfl,hH,hB,hz,q⟩:=h
 cases (show v=Value.ref l from rx)
 obtain⟨u,rfl,ru⟩:=rv.one
 cases (show u=Value.ref b from ru)
 obtain⟨z,its,n,r,hl,e⟩:=I.lstM hH
 obtain⟨its2,r2,pl,hz2⟩:=I.tuple hB
 have hl2:=r2.length
 obtain⟨⟨c2,dd2,data2,sl2⟩,e2,hc2,n2,hs2⟩:=pl
 simp only at hc2 hs2
 have hsz:its.toArray.size+its2.toArray.size<=sizeLine:=by rw[List.size_toArray,List.size_toArray];omega
 have lng:¬ (!its.toArray.isEmpty&&Builtin.List.listTooLong (its.toArray.size+its2.toArray.size))=true:=fun w=>by
  rw[j8 hsz,Bool.and_false] at w;cases w
 subst hc2 hs2
 refine call_meets F.slot_list_extend ⟨_,e,rfl⟩ F.entry_list_extend (F.args_list_extend_2 _ _) (rH l its.toArray n b its2.toArray n2 dd2 sl2 lng (by rw[List.size_toArray];omega) (by omega)) ⟨e,e2,?_⟩
 exact⟨.non,_,I.lset (its':=its++its2) hH e (by simp) (r.append r2) (by rw[List.length_append];omega),rfl,q⟩
theorem tM{x:Str}{ds zs:List D}{px ap cp pos:Pos}(G:GoodS cx k X sc)(hN:X.N=ρ.map (·.1))(hx:(frz F e ρ).lookup x=some (.ow ds))(ho:ownIn sc x=true)(hp:au x=true)(hline:(ap.endLine==cp.line)=true)(hz:szl (ds.length+zs.length)=true)(he:ev cx F sc (frz F e ρ) e=some (.lst zs)) :
  Runs X Hs0 H0 ρ (.nxt (cj (frz F e ρ) x (.ow (ds++zs)))) (gM X (.Expr (.Call (.Attribute (.Name x px) "extend" ap) [e] [] cp) pos)):=by
 have hN':X.N=(frz F e ρ).map (·.1):=by rw[aK];exact hN
 obtain⟨i,hi,_⟩:=bK hx
 have nd:((frz F e ρ).map (·.1)).Nodup:=by rw[<- hN'];exact G.good.nd
 have hpl:=aV he
 intro σ H Hs D h _ hn hr
 obtain⟨Hs1,sm1,h1⟩:=h.frozen F e
 obtain⟨a,vs,k1,k2,k3,k4,k5⟩:=h1.ow i x ds hi
 unfold au at hp
 rw[Bool.and_eq_true,bne_iff_ne,bne_iff_ne] at hp
 have vis:Vis X.env.scope x:=(G.own.own x ho).1.elim .inl fun q=>.inr (.inl q)
 refine PS.sem (gQ (uo PySem.F.plainAttrs_list PySem.F.slot_list_extend PySem.F.type_list_extend CN (fZ (i:=i) (by rw[hN',List.getElem?_map,hi];rfl) vis (by simpa using hp.1) (by simpa using hp.2)) (aU ak bN (aj hpl)) rfl (by rw[aj hpl];rfl) hline (aj hpl) rfl) rfl) ?_
 refine⟨_,k1,.inl ⟨rfl,vs,.of k2⟩,?_⟩
 refine(cI cx F G.good hN' he).1 σ H Hs1 _ h1.ext.sub h1.sh fun v H' Hs' E r=>?_
 have h2:=h1.step E
 obtain⟨b,us,rfl,g1,g2⟩:=bw r
 refine⟨a,b,vs,us,rfl,rfl,E.all _ _ k2,E.sub.seq g1,by have:=k3.length;have:=g2.length;have:=fj hz;omega,?_⟩
 exact hn _ _ Hs' _ rfl (sm1.trans E.vis) (by rw[aH];exact hN') (h2.app nd hi k1 (aL.append (aL.same E.vis ds vs k3) g2))
theorem qZ{x:Str}{ds zs:List D}{px ap cp pos:Pos}(G:GoodS cx k X sc)(hN:X.N=ρ.map (·.1))(hx:(frz F e ρ).lookup x=some (.ow ds))(ho:ownIn sc x=true)(hp:au x=true)(hline:(ap.endLine==cp.line)=true)(hz:szl (ds.length+zs.length)=true)(he:ev cx F sc (frz F e ρ) e=some (.tup zs)) :
  Runs X Hs0 H0 ρ (.nxt (cj (frz F e ρ) x (.ow (ds++zs)))) (gM X (.Expr (.Call (.Attribute (.Name x px) "extend" ap) [e] [] cp) pos)):=by
 have hN':X.N=(frz F e ρ).map (·.1):=by rw[aK];exact hN
 obtain⟨i,hi,_⟩:=bK hx
 have nd:((frz F e ρ).map (·.1)).Nodup:=by rw[<- hN'];exact G.good.nd
 have hpl:=aV he
 intro σ H Hs D h _ hn hr
 obtain⟨Hs1,sm1,h1⟩:=h.frozen F e
 obtain⟨a,vs,k1,k2,k3,k4,k5⟩:=h1.ow i x ds hi
 unfold au at hp
 rw[Bool.and_eq_true,bne_iff_ne,bne_iff_ne] at hp
 have vis:Vis X.env.scope x:=(G.own.own x ho).1.elim .inl fun q=>.inr (.inl q)
 refine PS.sem (gQ (uo PySem.F.plainAttrs_list PySem.F.slot_list_extend PySem.F.type_list_extend CK (fZ (i:=i) (by rw[hN',List.getElem?_map,hi];rfl) vis (by simpa using hp.1) (by simpa using hp.2)) (aU ak bN (aj hpl)) rfl (by rw[aj hpl];rfl) hline (aj hpl) rfl) rfl) ?_
 refine⟨_,k1,.inl ⟨rfl,vs,.of k2⟩,?_⟩
 refine(cI cx F G.good hN' he).1 σ H Hs1 _ h1.ext.sub h1.sh fun v H' Hs' E r=>?_
 have h2:=h1.step E
 obtain⟨b,us,rfl,g1,g2⟩:=bF r
 refine⟨a,b,vs,us,rfl,rfl,E.all _ _ k2,E.sub.tup g1,by have:=k3.length;have:=g2.length;have:=fj hz;omega,?_⟩
 exact hn _ _ Hs' _ rfl (sm1.trans E.vis) (by rw[aH];exact hN') (h2.app nd hi k1 (aL.append (aL.same E.vis ds vs k3) g2))
theorem Aw{pos:Pos}(G:GoodS cx k X sc)(hN:X.N=ρ.map (·.1))(he:ev cx F sc (frz F e ρ) e=some d)(hc:∀ a b c p,e≠.ListComp a b c p):Runs X Hs0 H0 ρ (.nxt (frz F e ρ)) (gM X (.Expr e pos)):=by
 intro σ H Hs D h _ hn hr
 exact PS.sem (gQ ak (dH he hc)) (yC G hN he h fun v Hs' H' sm h' r=>hn _ _ Hs' H' rfl sm (by rw[aK];exact hN) h')
theorem Di{f:Rho->Stmt->Option Fl}(hf:∀ ρ s fl,X.N=ρ.map (·.1)->f ρ s=some fl->Runs X Hs0 H0 ρ fl (gM X s)):∀ (l:List Stmt) (ρ:Rho) (fl:Fl),X.N=ρ.map (·.1)->jW f l ρ=some fl->Runs X Hs0 H0 ρ fl (jB X l)
  | [], ρ, fl, hN, h => by
    simp only[jW,Option.some.injEq] at h
    subst h
    intro σ H Hs D h _ hn hr
    exact PSs.sem Bk (hn _ _ Hs H rfl (.refl _) hN h)
  | s :: r, ρ, fl, hN, h => by
    simp only[jW] at h
    obtain⟨fl1,h1,h2⟩:=aO h
    intro σ H Hs D hd _ hn hr
    refine PSs.sem (pJ zx fH) (hf ρ s fl1 hN h1 σ H Hs _ hd hN (fun ρ' σ' Hs' H' q sm hN' hd'=>?_) fun d v Hs' H' q E rr=>?_)
    · subst q
      exact Di hf r ρ' fl hN' h2 σ' H' Hs' D hd' hN' (fun ρ2 σ2 Hs2 H2 q2 sm2=>hn ρ2 σ2 Hs2 H2 q2 (sm.trans sm2)) hr
    · subst q
      cases h2
      exact hr d v Hs' H' rfl E rr
theorem Gg{tg iter:Expr}{body:List Stmt}{l:List D}{fl:Fl}{pos:Pos}{f:D->Rho->Option Fl}(G:GoodS cx k X sc)(hN:X.N=ρ.map (·.1))(hI:evI cx (d7 tg) (ev cx F sc (frz F iter ρ)) sc iter=some l)
  (hf:∀ d ρ1 fl,f d ρ1=some fl->X.N=ρ1.map (·.1)->∃ ρ2,eZ sc tg d ρ1=some ρ2/\(X.N=ρ2.map (·.1)->Runs X Hs0 H0 ρ2 fl (jB X body))) (h:dD f l (frz F iter ρ)=some fl):Runs X Hs0 H0 ρ fl (gM X (.For tg iter body [] pos)):=by
 have hN':X.N=(frz F iter ρ).map (·.1):=by rw[aK];exact hN
 obtain⟨hI',hp⟩:=vq (tg:=tg) (ρ:=frz F iter ρ) G.good (fun e d h=>⟨(cI cx F G.good hN' h).1,aV h⟩) hI
 intro σ H Hs D hd _ hn hr
 obtain⟨Hs1,sm1,h1⟩:=hd.frozen F iter
 refine PS.sem (GD G.pass G.good.calm iZ fY fH (cW hp)) (hI' σ H Hs1 _ h1.ext.sub h1.sh fun J H2 Hs2 E2 hJ=>?_)
 let W:Nat->Nat->St->Hp->Prop:=fun i m σ H=>m=l.length-i/\i<=l.length/\∃ ρi Hsi,Same Hs2 Hsi/\Hd X.K Hs0 H0 Hsi H ρi σ/\X.N=ρi.map (·.1)/\dD f (l.drop i) ρi=some fl
 refine⟨W,⟨l.length,rfl,Nat.zero_le _,_,Hs2,.refl _,h1.step E2,hN',by simpa using h⟩,?_⟩
 rintro i m σi Hi ⟨rfl,hi,ρi,Hsi,sm,hdi,hNi,gi⟩
 obtain⟨stp,go⟩:=hJ Hsi Hi sm hdi.ext.sub
 by_cases hlt:i<l.length
 ·obtain⟨g1,g2⟩:=go i l[i] (List.getElem?_eq_getElem hlt)
  refine .inr ⟨g1,fun σ' H'=>W (i+1) (l.length-(i+1)) σ' H',fun σ' H' w=>⟨_,by omega,w⟩,fun x H' y=>?_⟩
  obtain⟨Hs3,E3,rx⟩:=g2 x H' y
  rw[List.drop_eq_getElem_cons hlt] at gi
  simp only[dD] at gi
  obtain⟨fl1,b1,b2⟩:=aO gi
  obtain⟨ρ2,c1,c2⟩:=hf _ _ _ b1 hNi
  have hd3:=hdi.step E3
  refine oV G.good.calm G.own G.good.nd hd3.ext.sub hNi (pY (Hs0:=Hs0) (H0:=H0) (H:=H')) c1 hd3 rx fun σ' hN2 p=>?_
  refine c2 hN2 σ' H' Hs3 _ p hN2 (fun ρ' σ'' Hs' H'' q sm4 hN3 hd4=>?_) fun d v Hs' H'' q E rr=>?_
  ·subst q
   exact⟨rfl,hlt,ρ',Hs',sm.trans (E3.vis.trans sm4),hd4,hN3,b2⟩
  ·subst q
   cases b2
   exact hr d v Hs' H'' rfl E rr
 ·have hi':i=l.length:=by omega
  subst hi'
  refine .inl ⟨stp,?_⟩
  rw[List.drop_length] at gi
  simp only[dD,Option.some.injEq] at gi
  exact hn ρi σi Hsi Hi gi.symm (sm1.trans (E2.vis.trans sm)) hNi hdi
theorem wR{c:Expr}{body:List Stmt}{fl:Fl}{pos:Pos}{f:Rho->Option Fl}{m:Nat}(G:GoodS cx k X sc)(hN:X.N=ρ.map (·.1))(hf:∀ ρ fl,X.N=ρ.map (·.1)->f ρ=some fl->Runs X Hs0 H0 ρ fl (jB X body))
    (h:Ew (fun ρ=>((ev cx F sc (frz F c ρ) c).bind asB).map fun b=>(frz F c ρ,b)) f m ρ=some fl):Runs X Hs0 H0 ρ fl (gM X (.While c body [] pos)):=by
  intro σ H Hs D hd _ hn hr
  let W:Nat->St->Hp->Prop:=fun m σ H=>∃ ρi Hsi,Same Hs Hsi/\Hd X.K Hs0 H0 Hsi H ρi σ/\X.N=ρi.map (·.1)/\Ew (fun ρ=>((ev cx F sc (frz F c ρ) c).bind asB).map fun b=>(frz F c ρ,b)) f m ρi=some fl
  refine PS.sem (xg G.pass dY fH) ⟨W,⟨m,ρ,Hs,.refl _,hd,hN,h⟩,?_⟩
  rintro m σi Hi ⟨ρi,Hsi,sm,hdi,hNi,gi⟩
  cases m with
  | zero=>simp[Ew] at gi
  | succ m =>
    simp only[Ew] at gi
    split at gi
    · cases gi
    · rename_i ρ1 b hb
      obtain⟨b',h1,h2⟩:=Option.map_eq_some_iff.mp hb
      cases h2
      have he:=iM h1
      have hN':X.N=(frz F c ρi).map (·.1):=by rw[aK];exact hNi
      refine Im G hNi he hdi fun Hs' H' sm' h'=>?_
      cases b with
      | true =>
        rw[if_pos rfl] at gi ⊢
        split at gi
        · cases gi
        · rename_i d hfd
          cases gi
          refine⟨fun σ' H'=>W m σ' H',fun σ' H' w=>⟨m,Nat.lt_succ_self _,w⟩,?_⟩
          exact hf _ _ hN' hfd σi H' Hs' _ h' hN' (fun ρ2 σ2 Hs2 H2 q2=>by cases q2) fun d2 v Hs2 H2 q2 E rr=>by cases q2;exact hr d v Hs2 H2 rfl E rr
        · rename_i ρ' hfd
          refine⟨fun σ' H'=>W m σ' H',fun σ' H' w=>⟨m,Nat.lt_succ_self _,w⟩,?_⟩
          refine hf _ _ hN' hfd σi H' Hs' _ h' hN' (fun ρ2 σ2 Hs2 H2 q2 sm2 hN2 hd2=>?_) fun d2 v Hs2 H2 q2=>by cases q2
          cases q2
          exact⟨_,Hs2,sm.trans (sm'.trans sm2),hd2,hN2,gi⟩
      | false =>
        rw[if_neg Bool.false_ne_true] at gi ⊢
        cases gi
        exact hn _ _ Hs' H' rfl (sm.trans sm') hN' h'
end
section
variable {X:Cx} {ρ:Rho} {cx:Cxt} {k F:Nat} {sc scope:Scope} {Hs0 H0:Hp} {e:Expr} {d:D}
theorem JR{s:Stmt}{D:Ends}{σ:St}{H:Hp}(h:gM X.nox s D σ H):gM X s D σ H:=fun pins s0 I=>wpAny_mono (h pins s0 (I.wish _)) (fun _ _ q=>q.unwish) fun _ _ z=>False.elim z
abbrev Cx.pinned(X:Cx)(pn:List (Addr×Obj))(xe:Value->Shared->Prop):Cx:={ X with pn:=pn,xe:=xe }
def Eo(rs:Bool)(X:Cx)(Hs0 H0:Hp)(ρ:Rho)(c:Str)(ρ':Rho)(t:TS):Prop:=∀ σ H Hs D,Hd X.K Hs0 H0 Hs H ρ σ->X.N=ρ.map (·.1) ->
 (∀ σ' Hs' H',Same Hs Hs'->X.N=ρ'.map (·.1)->Hd X.K Hs0 H0 Hs' H' ρ' σ'->∃ E,EX X c Hs' H' E/\XOk X σ' E/\(rs=true->Ep X σ' E))->t D σ H
theorem zR{rs:Bool}{f:Rho->Stmt->Option Fl}{g:Rho->Stmt->Option (Str×Rho)}{c:Str}{ρ':Rho}(hf:∀ ρ s fl,X.N=ρ.map (·.1)->f ρ s=some fl->Runs X.nox Hs0 H0 ρ fl (gM X.nox s))(hg:∀ ρ s c ρ',X.N=ρ.map (·.1)->g ρ s=some (c,ρ')->Eo rs X Hs0 H0 ρ c ρ' (gM X s)) :
    ∀ (l:List Stmt) (ρ:Rho),X.N=ρ.map (·.1)->tG f g l ρ=some (c,ρ')->Eo rs X Hs0 H0 ρ c ρ' (jB X l)
  | [],ρ,hN,h=>by simp[tG] at h
  | s :: r, ρ, hN, h => by
    simp only[tG] at h
    intro σ H Hs D hd _ hx
    refine PSs.sem (pJ zx fH) ?_
    split at h
    · rename_i ρ1 h1
      refine JR (hf ρ s _ hN h1 σ H Hs _ hd hN (fun ρ2 σ2 Hs2 H2 q sm hN2 hd2=>?_) fun d v Hs2 H2 q _ _=>nomatch q)
      cases q
      exact zR hf hg r ρ1 hN2 h σ2 H2 Hs2 D hd2 hN2 fun σ3 Hs3 H3 sm3=>hx σ3 Hs3 H3 (sm.trans sm3)
    · cases h
    · exact hg ρ s c ρ' hN h σ H Hs _ hd hN hx
end
mutual
theorem Av(cx:Cxt)(F:Nat):∀ (n:Nat) {k:Nat} {X:Cx} {sc:Scope} {ρ:Rho} {s:Stmt} {fl:Fl} {Hs0 H0:Hp},GoodS cx k X sc->X.N=ρ.map (·.1)->DE.st cx F n sc ρ s=some fl->Runs X Hs0 H0 ρ fl (gM X s)
  | 0,k,X,sc,ρ,s,fl,Hs0,H0,_,_,h=>by simp[DE.st] at h
  | n + 1, k, X, sc, ρ, s, fl, Hs0, H0, G, hN, h => by
    have block:∀ (l:List Stmt) (ρ:Rho) (fl:Fl),X.N=ρ.map (·.1)->jW (fun ρ s=>DE.st cx F n sc ρ s) l ρ=some fl->Runs X Hs0 H0 ρ fl (jB X l):=Di fun ρ s fl hN h=>Av cx F n G hN h
    cases s with
    | Pass pos =>
      simp only[DE.st,Option.some.injEq] at h
      subst h
      intro σ H Hs D hd _ hn hr
      exact PS.sem Bm (hn _ _ Hs H rfl (.refl _) hN hd)
    | Return v pos =>
      simp only[DE.st] at h
      cases v with
      | none =>
        simp only[Option.some.injEq] at h
        subst h
        intro σ H Hs D hd _ hn hr
        exact PS.sem Bl (hr .non .non Hs H rfl hd.ext (by simp[Rep]))
      | some e =>
        simp only[Option.map_eq_some_iff] at h
        obtain⟨d,he,rfl⟩:=h
        intro σ H Hs D hd _ hn hr
        exact PS.sem (Gy ak) (yC G hN he hd fun v Hs' H' sm h' r=>hr d v Hs' H' rfl h'.ext r)
    | Assign tgs e pos =>
      simp only[DE.st] at h
      split at h
      · split at h
        · rename_i hc
          rw[Bool.and_eq_true] at hc
          split at h
          · rename_i hoo
            rw[Bool.and_eq_true] at hoo
            obtain⟨d,he,h⟩:=Option.bind_eq_some_iff.mp h
            obtain⟨dss,hd,rfl⟩:=Option.map_eq_some_iff.mp h
            exact J7 G hN hc.1 hc.2 hoo.1 hoo.2 he hd
          · split at h
            · rename_i hle
              rw[Bool.and_eq_true] at hle
              obtain⟨d,he,h⟩:=Option.bind_eq_some_iff.mp h
              obtain⟨ds,hd,rfl⟩:=Option.map_eq_some_iff.mp h
              cases d<;>simp[xZ] at hd
              subst hd
              exact Gf G hN hc.1 hc.2 hle.2 hle.1 he
            · split at h
              · split at h
                · rename_i hno
                  simp only[Option.map_eq_some_iff] at h
                  obtain⟨d,he,rfl⟩:=h
                  exact Runs.frz0 (e:=e) (tK G (by rw[aK];exact hN) hc.1 (by rw[aK];exact hc.2) (fun _=>hno) he)
                · cases h
              · rename_i hno
                split at h
                · rename_i hrd
                  obtain⟨d,he,h⟩:=Option.bind_eq_some_iff.mp h
                  split at h
                  · rename_i hfl
                    cases h
                    exact wV G hN hc.1 hc.2 hrd he hfl
                  · cases h
                · simp only[Option.map_eq_some_iff] at h
                  obtain⟨d,he,rfl⟩:=h
                  refine tK G hN hc.1 hc.2 (fun hf=>?_) he
                  rw[hf,Bool.true_and] at hno
                  simpa using hno
        · cases h
      · split at h
        · rename_i hs
          obtain⟨d,he,h⟩:=aO h
          obtain⟨l,hl,h⟩:=aO h
          simp only[Option.map_eq_some_iff] at h
          obtain⟨ρ',hb,rfl⟩:=h
          rcases Bool.or_eq_true _ _ |>.mp hs with hs | hs
          · exact Ge G hN hs he hl hb
          · cases hs
        · cases h
      · split at h
        · rename_i x px
          split at h
          · simp at h
          · split at h
            · rename_i ds hx
              split at h
              · rename_i hc
                simp only[Bool.and_eq_true,Bool.not_eq_true'] at hc
                obtain⟨d,h1,h⟩:=aO h
                obtain⟨j,h4,h⟩:=aO h
                obtain⟨n,h5,h⟩:=aO h
                cases h
                exact Ar G hN hx hc.1.1 hc.1.2 hc.2 h1 (bI h4) h5
              · cases h
            · split at h
              · rename_i ds hx'
                split at h
                · rename_i hc
                  simp only[Bool.and_eq_true,Bool.not_eq_true'] at hc
                  obtain⟨d,h1,h⟩:=aO h
                  obtain⟨j,h4,h⟩:=aO h
                  obtain⟨n,h5,h⟩:=aO h
                  split at h
                  · rename_i hfl
                    cases h
                    exact wU G hN hx' hc.1.1 hc.1.2 hc.2 h1 (bI h4) h5 hfl
                  · cases h
                · cases h
              · cases h
            · cases h
        · split at h
          · rename_i dss hx
            split at h
            · rename_i hc
              rw[Bool.and_eq_true,Bool.and_eq_true] at hc
              obtain⟨d,h1,h⟩:=aO h
              obtain⟨j1,h2,h⟩:=aO h
              obtain⟨n1,h3,h⟩:=aO h
              obtain⟨ds,h4,h⟩:=aO h
              obtain⟨j2,h5,h⟩:=aO h
              obtain⟨n2,h6,h⟩:=aO h
              split at h
              · rename_i h7
                cases h
                exact Aq G hN hx hc.1.1 hc.1.2 (by simpa using hc.2) h1 (bI h2) h3 h4 (bI h5) h6 h7
              · cases h
            · cases h
          · cases h
        · cases h
      · cases h
    | Expr v pos =>
      simp only[DE.st] at h
      split at h
      · rename_i x px m ap e cp
        split at h
        · rename_i ds hx
          split at h
          · rename_i hc
            rw[Bool.and_eq_true,Bool.and_eq_true] at hc
            obtain⟨⟨c1,c2⟩,c4⟩:=hc
            split at h
            · rename_i hc2
              rw[Bool.and_eq_true] at hc2
              simp only[Option.map_eq_some_iff] at h
              obtain⟨d,he,rfl⟩:=h
              have em:m="append":=by simpa using hc2.1
              subst em
              exact tO G hN hx c1 c2 c4 hc2.2 he
            · split at h
              · rename_i hc3
                obtain⟨d,he,h⟩:=aO h
                have em:m="extend":=by simpa using hc3
                subst em
                split at h
                · split at h
                  · rename_i hz
                    cases h
                    exact tM G hN hx c1 c2 c4 hz he
                  · cases h
                · split at h
                  · rename_i hz
                    cases h
                    exact qZ G hN hx c1 c2 c4 hz he
                  · cases h
                · cases h
              · cases h
          · cases h
        · split at h
          · rename_i ds hx
            split at h
            · rename_i hc
              rw[Bool.and_eq_true,Bool.and_eq_true,Bool.and_eq_true,Bool.and_eq_true] at hc
              obtain⟨⟨⟨c1,c2⟩,c4⟩,c5,c6⟩:=hc
              obtain⟨d,he,h⟩:=aO h
              have em:m="append":=by simpa using c5
              subst em
              split at h
              · rename_i hfl
                cases h
                exact rm G hN hx c1 c2 c4 c6 he hfl
              · cases h
            · cases h
          · cases h
        · cases h
      · rename_i x px m ap e y py m2 ap2 cp2 cp
        split at h
        · rename_i ds hx
          split at h
          · rename_i hc
            simp only[Bool.and_eq_true] at hc
            obtain⟨⟨⟨⟨⟨⟨c1,c2⟩,c3⟩,c4⟩,c5⟩,c6⟩,c7⟩:=hc
            have e1:x=y:=by simpa using c5
            have e2:m="insert":=by simpa using c6
            have e3:m2="pop":=by simpa using c7
            subst e1 e2 e3
            obtain⟨i,h1,h⟩:=aO h
            obtain⟨d,h2,h⟩:=aO h
            split at h
            · rename_i hz
              simp only[Bool.and_eq_true,decide_eq_true_eq] at hz
              cases h
              exact tL G hN hx c1 c2 c3 c4 (bI h1) h2 hz.1.1 hz.1.2 hz.2
            · cases h
          · cases h
        · cases h
      · cases h
      · cases h
      · rename_i h1 h2 h3 h4
        simp only[Option.map_eq_some_iff] at h
        obtain⟨d,he,rfl⟩:=h
        exact Aw G hN he fun a b c p q=>h3 a b c p q
    | If c a b pos =>
      simp only[DE.st] at h
      obtain⟨t,h1,h⟩:=aO h
      have he:=iM h1
      intro σ H Hs D hd _ hn hr
      refine PS.sem (Ks dY fH fH) (Dn G hN he hd fun Hs' H' sm h'=>?_)
      cases t with
      | true =>
        simp only[if_true] at h
        exact wF (block a _ fl hN h σ H' Hs' D h' hN (fun ρ2 σ2 Hs2 H2 q2 sm2=>hn ρ2 σ2 Hs2 H2 q2 (sm.trans sm2)) hr)
      | false =>
        simp only[Bool.false_eq_true,if_false] at h
        exact yg (block b _ fl hN h σ H' Hs' D h' hN (fun ρ2 σ2 Hs2 H2 q2 sm2=>hn ρ2 σ2 Hs2 H2 q2 (sm.trans sm2)) hr)
    | For tg iter body orelse pos =>
      simp only[DE.st] at h
      split at h
      · obtain⟨l,hI,h⟩:=aO h
        refine Gg G hN hI (fun d ρ1 fl hf hN1=>?_) h
        obtain⟨ρ2,g1,g2⟩:=aO hf
        exact⟨ρ2,g1,fun hN2=>block body ρ2 fl hN2 g2⟩
      · cases h
    | While c body orelse pos =>
      simp only[DE.st] at h
      split at h
      · exact wR G hN (fun ρ fl hN h=>block body ρ fl hN h) h
      · cases h
    | _=>exact nomatch (show(Option.none:Option Fl)=some fl from h)
theorem Gd(cx:Cxt)(F:Nat):∀ (n:Nat) {k:Nat} {X:Cx} {sc:Scope} {ρ:Rho} {s:Stmt} {c:Str} {ρ':Rho} {Hs0 H0:Hp},GoodS cx k X.nox sc->X.N=ρ.map (·.1)->DE.stx cx F n sc ρ s=some (c,ρ')->Eo cx.rs X Hs0 H0 ρ c ρ' (gM X s)
 | _,_,_,_,_,_,_,_,_,_,_,_,h=>by cases h
end
end L2
namespace L2
open PySem PySem.Spec PyProof.Rows PySem.SeqAt
open DE hiding st
structure FunAt (K:PySem.W.Frag) (mg:Str->Option Value) (f:Str) (fd:Fd):Prop where
 ex:∃ (nm:Str) (t:Stmt) (a:Addr) (g:FuncData),mg f=some (.ref a)/\Fun K nm nm t a g/\Binds K g fd.ps []/\fd.body=bL t/\fd.sc=bf t
 fs:FnScope fd.N fd.ps fd.sc
 nd:(f==("__debug__":Str))=false
structure Text (w:World) (K:PySem.W.Frag) (mg:Str->Option Value) (P:Pg):Prop where
 cst:∀ x d,P.cst.lookup x=some d->∃ v u,(∀ H,Rep K H d v)/\mg x=some u/\RelV v u
 blt:∀ x b,P.blt.lookup x=some b->mg x=none/\x=Str.ofString b
 fns:∀ f fd,P.defs.lookup f=some fd->FunAt K mg f fd
 exs:XText K mg P.exs P.top
 kw:KnW K w
def Sx(ps:List (Str×Str)):D:=.dic (ps.map fun p=>.inr p.1) (ps.map fun p=>.str p.2)
def dEs(o:Obj):Array DictEntry:=match o.data with | .dict es _=>es | _ => #[]
def dN(o:Obj):Nat:=match o.data with | .dict _ n=>n | _=>0
def isS(x:Str):Value->Bool
 | .str y _=>x==y
 | _=>false
theorem zO{x:Str}{v:Value}(h:isS x v=true):∃ t,v=.str x t:=by
 unfold isS at h
 split at h
 ·rename_i y t
  have e:x=y:=by simpa using h
  subst e
  exact⟨t,rfl⟩
 ·cases h
def chk:List (Str×Str)->List DictEntry->Bool
 | [],[]=>true
 | p::r,e::es=>isS p.1 e.key&&isS p.2 e.val&&chk r es
 | _,_=>false
theorem z7{K:PySem.W.Frag}{H:Hp}:∀ {ps:List (Str×Str)} {es:List DictEntry},chk ps es=true->∃ kvs:List (Key×V),kvs.map (·.1)=ps.map (fun p=>Sum.inr p.1)/\aL K H (ps.map fun p=>D.str p.2) (kvs.map (·.2))/\Paired (fun(p:Key×V) (e:DictEntry)=>(∃ x t,p.1=.inr x/\e.key=.str x t)/\RelV p.2 e.val) kvs es
  | [],[],_=>⟨[],rfl,.nil,.nil⟩
  | p :: r, e :: es, h => by
    simp only[chk,Bool.and_eq_true] at h
    obtain⟨⟨h1,h2⟩,h3⟩:=h
    obtain⟨kvs,g1,g2,g3⟩:=z7 (K:=K) (H:=H) h3
    obtain⟨t,e1⟩:=zO h1
    obtain⟨t',e2⟩:=zO h2
    exact⟨(.inr p.1,.str p.2)::kvs,by simp[g1],.cons (by simp[Rep]) g2,.cons ⟨⟨p.1,t,rfl,e1⟩,⟨t',e2⟩⟩ g3⟩
  | [],_::_,h=>by simp[chk] at h
  | _::_,[],h=>by simp[chk] at h
theorem Jc{K:PySem.W.Frag}{H H':Hp}{ps:List (Str×Str)}{kvs:List (Key×V)}(h:aL K H (ps.map fun p=>D.str p.2) (kvs.map (·.2))):aL K H' (ps.map fun p=>D.str p.2) (kvs.map (·.2)):=by
  generalize kvs.map (·.2)=vs at h ⊢
  induction ps generalizing vs with
  | nil=>simpa[aL] using h
  | cons p r ih =>
    simp only[List.map_cons,aL] at h ⊢
    obtain⟨v,q,h1,h2,h3⟩:=h
    exact⟨v,q,h1,by simpa[Rep] using h2,ih _ h3⟩
theorem cD{K:PySem.W.Frag}{h:Heap}{mg:Str->Option Value}{x:Str}{ps:List (Str×Str)}(X:K.In h)(G:h.Ns mainGlobals mg)(a:Addr)(o:Obj)(e:PySem.W.nsIn K mainGlobals x=some (some (.ref a)))(l:K.lookup a=some o)(ex:o.ExactDict)(hd:o.data=.dict (dEs o) (dN o))(hc:(chk ps (dEs o).toList&&mL (ps.map (·.1)))=true)(hs:(a==sysModules)=false) :
  ∃ v u,(∀ H,Rep K H (Sx ps) v)/\mg x=some u/\RelV v u:=by
 rw[Bool.and_eq_true] at hc
 obtain⟨kvs,g1,g2,g3⟩:=z7 (K:=K) (H:=fun _=>none) hc.1
 have nd:(kvs.map (·.1)).Nodup:=by
  rw[g1]
  have n:=je hc.2
  have q:(ps.map fun p=>(Sum.inr p.1:Key))=(ps.map (·.1)).map Sum.inr:=by simp
  rw[q]
  exact List.Pairwise.map _ (fun a b hab z=>hab (Sum.inr.inj z)) n
 refine⟨.ref a,_,fun H=>?_,PySem.W.mg_of X G e,rfl⟩
 unfold Sx
 simp only[Rep]
 exact⟨a,kvs,rfl,.inr ⟨o,dEs o,dN o,l,ex,hd,hs,nd,g3⟩,g1,Jc g2⟩
theorem jL{α:Type}:∀ {l:List (Str×α)} {x:Str},(l.map (·.1)).contains x=true->∃ a,l.lookup x=some a
  | [],x,h=>by simp at h
  | (y, a) :: r, x, h => by
    rw[List.lookup_cons]
    cases hb:x==y with
    | true=>exact⟨a,rfl⟩
    | false =>
      refine jL ?_
      rw[List.map_cons,List.contains_cons,hb,Bool.false_or] at h
      exact h
theorem tH{K:PySem.W.Frag}{H:Hp}{fd:Fd}{ds:List D}{vs:List V}(S:FnScope fd.N fd.ps fd.sc)(hl:ds.length=fd.ps.length)(r:aL K H ds vs) :
  fd.N=(bY fd ds).map (·.1)/\(start fd.N vs).length=(bY fd ds).length/\∀ (i:Nat) (x:Str) (s:Sl),(bY fd ds)[i]?=some (x,s)->(s=.no\/∃ d v,s=.sh d/\(start fd.N vs)[i]?=some (some v)/\Rep K H d v):=by
 have lv:=r.length
 have lz:(fd.ps.zip (ds.map Sl.sh)).length=fd.ps.length:=by rw[List.length_zip,List.length_map];omega
 have hpl:fd.ps.length<=fd.N.length:=by have:=congrArg List.length S.pre;rw[List.length_take] at this;omega
 refine⟨?_,?_,fun i x s e=>?_⟩
 ·unfold bY
  rw[List.map_append,List.map_map,List.map_fst_zip (by rw[List.length_map];omega)]
  have:(fd.N.drop fd.ps.length).map ((fun p:Str×Sl=>p.1)∘fun x=>(x,Sl.no))=fd.N.drop fd.ps.length:=by
   rw[show((fun p:Str×Sl=>p.1)∘fun x=>(x,Sl.no))=id from rfl,List.map_id]
  rw[this]
  conv=>lhs;rw[<- List.take_append_drop fd.ps.length fd.N,S.pre]
 ·unfold start bY
  rw[List.length_append,List.length_append,lz]
  simp
  omega
 ·unfold bY at e
  by_cases hi:i<fd.ps.length
  ·rw[List.getElem?_append_left (by rw[lz];exact hi),List.getElem?_zip_eq_some] at e
   obtain⟨_,e2⟩:=e
   rw[List.getElem?_map] at e2
   obtain⟨d,e3,rfl⟩:=Option.map_eq_some_iff.mp e2
   obtain⟨v,g1,g2⟩:=r.get e3
   refine .inr ⟨d,v,rfl,?_,g2⟩
   unfold start
   rw[List.getElem?_append_left (by rw[List.length_map];omega),List.getElem?_map,g1]
   rfl
  ·rw[List.getElem?_append_right (by rw[lz];omega),List.getElem?_map] at e
   obtain⟨y,_,e3⟩:=Option.map_eq_some_iff.mp e
   cases e3
   exact .inl rfl
section
variable {P:Program} {w:World} {K:PySem.W.Frag} {mg:Str->Option Value} {base:Heap} {T:Pg} {F:Nat}
abbrev vR(c:Str->List D->Option Rs):Str->List D->Option D:=fun f ds=>Rs.val? (c f ds)
abbrev xR(c:Str->List D->Option Rs):Str->List D->Option Str:=fun f ds=>Rs.exc? (c f ds)
theorem iB{o:Option Rs}{d:D}(h:Rs.val? o=some d):o=some (.val d):=by
 unfold Rs.val? at h
 split at h
 ·cases h;rfl
 ·cases h
theorem iJ{o:Option Rs}{c:Str}(h:Rs.exc? o=some c):o=some (.exc c):=by
 unfold Rs.exc? at h
 split at h
 ·cases h;rfl
 ·cases h
theorem iK{k:Nat}{f:Str}{fd:Fd}(hf:T.defs.lookup f=some fd):∀ ds r,dW T F k f ds=some r->ds.length=fd.ps.length:=by
  intro ds d h
  cases k with
  | zero=>simp[lK] at h
  | succ k =>
    simp only[lJ,hf] at h
    split at h
    · rename_i hl;simpa using hl
    · cases h
theorem Fun.okX{x qual:Str}{st:Stmt}{f:Addr}{fd:FuncData}{N ps:List Str}{k:Nat}{sp:Sp}(F:Fun K x qual st f fd)(S:FnScope N ps (bf st))(len:∀ vs H Q E,sp vs H Q E->vs.length=ps.length)
    (hbody:∀ (cdv:Value) (A:Around) (outer:List Env) (s:Shared) (H:Hp) (vs:List V) (Q:VK) (E:XK),Room k (A.deeper (envOfC qual (bf st) s.heap.objs.size f cdv))->sp vs H Q E ->
      ∃ t,PSs (gZ (CX1 P w) P w K mg base N qual (bf st) f cdv A outer s H E) (bL st) t/\t { nx:=fun _ H'=>Q .non H',rt:=Q } (start N vs) H):FnOk P w K mg base (CX1 P w) (k+1) f fd ps sp:=by
  obtain⟨oc,od,kV,doc,pm,an,cdv,ct,osl,rfl,lk,hcd⟩:=F.ex
  exact Sq lk hcd S len fun A outer s H vs Q E hr hsp=>hbody cdv A outer s H vs Q E hr hsp
theorem Ac(X:Text w K mg T):∀ (k:Nat) (nm f:Str) (fd:Fd) (t:Stmt) (a:Addr) (g:FuncData),T.defs.lookup f=some fd->Fun K nm nm t a g->fd.body=bL t->fd.sc=bf t->FnScope fd.N fd.ps fd.sc->FnOk P w K mg base (CX1 P w) k a g fd.ps (spX K (vR (dW T F k)) (xR (dW T F k)) f fd.ps)
  | 0, nm, f, fd, t, a, g, hf, Fn, hb, hs, S => by
    refine⟨fun vs H Q E h=>h.1,fun A outer s H args us vs Q E _ _ _ _ h=>?_⟩
    obtain⟨_,Hs,ds,_,_,⟨d,hc,_⟩ | ⟨c,hc,_⟩⟩:=h
    · have:=iB hc;simp[lK] at this
    · have:=iJ hc;simp[lK] at this
  | k + 1, nm, f, fd, t, a, g, hf, Fn, hb, hs, S => by
    refine Fun.okX (N:=fd.N) Fn (by rw[<- hs];exact S) (fun vs H Q E h=>h.1) fun cdv A outer s H vs Q E hr h=>?_
    obtain⟨hlv,Hs,ds,hsm,rl,hcase⟩:=h
    have hld:ds.length=fd.ps.length:=by
      rcases hcase with⟨d,hc,_⟩ | ⟨c,hc,_⟩
      · exact iK hf ds _ (iB hc)
      · exact iK hf ds _ (iJ hc)
    have unf:dW T F (k+1) f ds=oU (T.cx (dW T F k)) F fd.sc fd.body (bY fd ds):=by
      simp only[lJ,hf]
      rw[if_pos (by simpa using hld)]
    obtain⟨s1,s2,s3⟩:=tH S hld rl
    refine⟨jB _ (bL t),fH,?_⟩
    have G:GoodS (T.cx (dW T F k)) k (gZ (CX1 P w) P w K mg base fd.N nm (bf t) a cdv A outer s H E).nox fd.sc :=
      { good := { calm := rfl, room := hr, sce := hs.symm, kind := S.kind, nd := S.nd, cst := X.cst, blt := X.blt, exs := X.exs, kw := X.kw
                  fns:=fun f' hf'=>by
                    obtain⟨fd',hl'⟩:=jL (l:=T.defs) hf'
                    have FA:=X.fns f' fd' hl'
                    obtain⟨nm',t',a',g',m1,m2,m3,m4,m5⟩:=FA.ex
                    exact⟨FA.nd,a',g',fd'.ps,fun ds d h=>iK hl' ds _ (iB h),fun ds c h=>iK hl' ds _ (iJ h),m1,m2.kp,m3,Ac X k nm' f' fd' t' a' g' hl' m2 m4 m5 FA.fs⟩ }
        own:=⟨fun x hx=>⟨by
          unfold ownIn at hx
          rw[Bool.or_eq_true] at hx
          show(bf t).names.lookup x=_\/(bf t).names.lookup x=_
          rw[<- hs]
          exact hx.imp (fun q=>by simpa using q) (fun q=>by simpa using q),.inl rfl⟩⟩
        pass:=PassesOwn.never
        stk:=⟨rfl,rfl⟩ }
    have noow:∀ (i:Nat) (x:Str) (ds':List D),(bY fd ds)[i]?=some (x,.ow ds')->False:=fun i x ds' e=>by
      rcases s3 i x _ e with q | ⟨d',v,q,q1,q2⟩
      · cases q
      · cases q
    have hd:Hd K Hs H Hs H (bY fd ds) (start fd.N vs):=by
      refine⟨.refl hsm,s2,fun i x d e=>?_,fun i x ds' e=>(noow i x ds' e).elim,fun i j x y ds' es a' _ e=>(noow i x ds' e).elim,fun i x dss e=>by
        rcases s3 i x _ e with q | ⟨d',v,q,q1,q2⟩
        · cases q
        · cases q⟩
      rcases s3 i x _ e with q | ⟨d',v,q,q1,q2⟩
      · cases q
      · cases q
        exact⟨v,q1,q2⟩
    rcases hcase with⟨d,hc,hq⟩ | ⟨c,hc,hq⟩
    · have hc':=iB hc
      rw[unf] at hc'
      unfold oU at hc'
      intro pins s0 I
      have fin:∀ fl,jW (fun ρ s=>DE.st (T.cx (dW T F k)) F F fd.sc ρ s) fd.body (bY fd ds)=some fl->(match fl with | .ret d'=>d'=d | .nxt _=>d=.non)->jB (gZ (CX1 P w) P w K mg base fd.N nm (bf t) a cdv A outer s H E).nox (bL t) { nx:=fun _ H'=>Q .non H',rt:=Q } (start fd.N vs) H:=by
        intro fl hg hfl
        rw[hb] at hg
        refine Di (fun ρ s fl hN h=>Av _ F F G hN h) (bL t) (bY fd ds) fl s1 hg (start fd.N vs) H Hs _ hd s1 (fun ρ' σ' Hs' H' q _ _ hd'=>?_) fun d' v Hs' H' q E' r=>?_
        · subst q
          have e:d=.non:=hfl
          subst e
          exact hq .non H' Hs' hd'.ext (by simp[Rep])
        · subst q
          have e:d'=d:=hfl
          subst e
          exact hq v H' Hs' E' r
      have key:jB (gZ (CX1 P w) P w K mg base fd.N nm (bf t) a cdv A outer s H E).nox (bL t) { nx:=fun _ H'=>Q .non H',rt:=Q } (start fd.N vs) H:=by
        split at hc'
        · rename_i d' hg;cases hc';exact fin _ hg rfl
        · rename_i ρ' hg;cases hc';exact fin _ hg rfl
        · split at hc'<;>cases hc'
      exact wpAny_mono (key pins s0 (I.wish _)) (fun _ _ q=>q.unwish) fun _ _ z=>False.elim z
    · have hc':=iJ hc
      rw[unf] at hc'
      unfold oU at hc'
      split at hc'
      · cases hc'
      · cases hc'
      · split at hc'
        · rename_i c' ρ' hg
          cases hc'
          rw[hb] at hg
          refine zR (rs:=true) (X:=gZ (CX1 P w) P w K mg base fd.N nm (bf t) a cdv A outer s H E) (fun ρ s fl hN h=>Av _ F F G hN h) (fun ρ s c ρ' hN h=>Gd _ F F G hN h) (bL t) (bY fd ds) s1 hg (start fd.N vs) H Hs _ hd s1 fun σ1 Hs1 H1 _ _ hd1=>?_
          refine⟨E,fun C H2 Hs2 q E2=>hq C H2 Hs2 q (hd1.ext.trans E2),fun pins H2 s2 e s3 I2 hcx=>ur pins σ1 H2 s2 e s3 I2 hcx,fun _ pins H2 s2 C e h' args I2 hm hE=>rA I2 hm hE⟩
        · cases hc'
theorem FnOk.calm{k:Nat}{f:Addr}{fd:FuncData}{ps:List Str}{sp:Sp}(F:FnOk P w K mg base (CX1 P w) k f fd ps sp)(h:∀ vs H Q E,sp vs H Q E->sp vs H Q E0):FnOk P w K mg base CX0 k f fd ps sp :=
  ⟨F.len,fun A outer s H args us vs Q E hr he hb hv hs=>codeAny_mono (F.run A outer s H args us vs Q E0 hr he hb hv (h _ _ _ _ hs)) fun r s' q=>by
    cases r with
    | error e=>obtain⟨_,_,_,_,_,_,z⟩:=(show CX1 P w outer H s E0 e s' from q);exact z.elim
    | ok fl=>cases fl<;>exact q⟩
def pB(K:PySem.W.Frag):Sp:=fun vs H Q _=>∃ (a:Addr) (ns:List Int),vs=[.ref a]/\SqL K H a (ns.map V.int)/\ns.length<=63/\∀ H',Q (.bl true) H'
theorem Hy{k:Nat}{f:Str}{fd:Fd}{t:Stmt}{a:Addr}{g:FuncData}(X:Text w K mg T)(hf:T.defs.lookup f=some fd)(Fn:Fun K f f t a g)(hb:fd.body=bL t)(hs:fd.sc=bf t)(S:FnScope fd.N fd.ps fd.sc)(h1:fd.ps.length=1)
  (hlaw:∀ ns:List Int,ns.length<=63->aG T F k f [.lst (ns.map D.int)]=some (.bl true)):FnOk P w K mg base CX0 k a g fd.ps (pB K):=by
 refine FnOk.calm ((Ac (F:=F) X k f f fd t a g hf Fn hb hs S).imp fun vs H Q E h=>?_) fun _ _ _ _ h=>h
 obtain⟨p,ns,rfl,hS,hl,q⟩:=h
 refine⟨by rw[h1];rfl,H,[.lst (ns.map D.int)],.refl _,.cons ?_ .nil,.inl ⟨.bl true,by have:=hlaw ns hl;rw[gH] at this;exact this,fun v H' Hs' _ r=>by rw[cM r];exact q H'⟩⟩
 simp only[Rep]
 exact⟨p,ns.map V.int,rfl,hS,jZ (fun x=>by simp[Rep]) ns⟩
end
end L2
namespace DE
open PySem
def Ls{α:Type}(m:Nat)(h:Nat->α):List α:=(List.range m).map h
theorem aR{α:Type}{m:Nat}{h:Nat->α}:(Ls m h).length=m:=by simp[Ls]
theorem bZ{α:Type}{m i:Nat}{h:Nat->α}(hi:i<m):(Ls m h)[i]?=some (h i):=by simp[Ls,hi]
theorem cR{α:Type}{m:Nat}{h g:Nat->α}(e:∀ i,i<m->h i=g i):Ls m h=Ls m g:=by
 unfold Ls
 exact List.map_congr_left fun i hi=>e i (List.mem_range.mp hi)
theorem jy{α β:Type}{m:Nat}{h:Nat->α}{f:α->β}:(Ls m h).map f=Ls m fun i=>f (h i):=by
 unfold Ls;rw[List.map_map];rfl
theorem wu{α β:Type}{m:Nat}{h:Nat->α}{g:Nat->β}:(Ls m h).zip (Ls m g)=Ls m fun i=>(h i,g i):=by
 apply List.ext_getElem?
 intro i
 by_cases hi:i<m
 ·rw[bZ hi,List.getElem?_zip_eq_some]
  exact⟨bZ hi,bZ hi⟩
 ·rw[List.getElem?_eq_none (by rw[List.length_zip,aR,aR];omega),List.getElem?_eq_none (by rw[aR];omega)]
theorem fO{α:Type}{m:Nat}{h:Nat->α}:Ls (m+1) h=Ls m h++[h m]:=by
 unfold Ls;rw[List.range_succ,List.map_append];rfl
theorem oZ{α:Type}{m k:Nat}{h:Nat->α}(hk:k<=m):(Ls m h).take k=Ls k h:=by
 apply List.ext_getElem?
 intro i
 rw[List.getElem?_take]
 split
 ·rw[bZ (by omega),bZ (by omega)]
 ·rw[List.getElem?_eq_none (by rw[aR];omega)]
theorem wz{α:Type}{m k:Nat}{h:Nat->α}:(Ls m h).drop k=Ls (m-k) fun i=>h (k+i):=by
 apply List.ext_getElem?
 intro i
 rw[List.getElem?_drop]
 by_cases hi:k+i<m
 ·rw[bZ hi,bZ (by omega)]
 ·rw[List.getElem?_eq_none (by rw[aR];omega),List.getElem?_eq_none (by rw[aR];omega)]
theorem wj{m:Nat}{h:Nat->D}{j:Nat}(hj:j<m):atD (Ls m h) (j:Int)=some (h j):=by
 unfold atD ixD
 rw[aR,if_pos (by omega),if_pos (by omega)]
 simp[bZ hj]
theorem wg{l:List D}{j:Nat}{d:D}(h:l[j]?=some d):atD l (j:Int)=some d:=by
 have hj:=(List.getElem?_eq_some_iff.mp h).1
 unfold atD ixD
 rw[if_pos (by omega),if_pos (by omega)]
 simpa using h
theorem tX{lo hi:Int}:bO lo hi=Ls (hi-lo).toNat fun k=>.int (lo+(k:Int)):=rfl
theorem tY{n:Nat}:bO 0 (n:Int)=Ls n fun k=>.int (k:Int):=by
 unfold bO Ls
 simp
def XS(cx:Cxt)(sc:Scope)(ρ:Rho)(x:Str):Option D:=if au x then(match sc.names.lookup x with
        | some .local=>(match ρ.lookup x with | some (.sh d)=>some d | _=>none)
        | some .cell=>(match ρ.lookup x with | some (.sh d)=>some d | _=>none)
        | some .free=>(match ρ.lookup x with | some (.sh d)=>some d | _=>none)
        | some .globalImplicit=>cx.cst.lookup x
        | _=>none) else none
def Ye(c:Const):Option D:=(match c with
        | .none=>some .non
        | .bool b=>some (.bl b)
        | .int i=>some (.int i)
        | .str x=>some (.str x)
        | _=>none)
section
variable {cx:Cxt} {n:Nat} {sc scope:Scope} {ρ:Rho} {a b c e:Expr} {es:List Expr} {p q:Pos} {x y z d:D} {ds:List D} {nm:Str} {op op':CmpOp}
theorem xName(h:XS cx sc ρ nm=some d):ev cx (n+1) sc ρ (.Name nm p)=some d:=h
theorem aW{k:Const}{j:Nat}(h:Ye k=some d):ev cx (n+1) sc ρ (.Constant k j p)=some d:=h
theorem cg{o:Operator}(h1:ev cx n sc ρ a=some x)(h2:ev cx n sc ρ b=some y)(h:binop o x y=some d):ev cx (n+1) sc ρ (.BinOp a o b p)=some d:=by
 simp only[ev,h1,h2];exact h
theorem JC{t:Bool}(h1:ev cx n sc ρ a=some (.bl t)):ev cx (n+1) sc ρ (.UnaryOp .Not a p)=some (.bl (!t)):=by
 simp only[ev,h1];rfl
theorem nP(h1:ev cx n sc ρ a=some (.bl true)):ev cx (n+1) sc ρ (.UnaryOp .Not a p)=some (.bl false):=JC h1
theorem Fw(h1:ev cx n sc ρ a=some (.bl false)):ev cx (n+1) sc ρ (.UnaryOp .Not a p)=some (.bl true):=JC h1
theorem Fx{i:Int}(h1:ev cx n sc ρ a=some (.int i)):ev cx (n+1) sc ρ (.UnaryOp .USub a p)=some (.int (-i)):=by
 simp only[ev,h1];rfl
theorem sI(h1:ev cx n sc ρ a=some (.bl true))(h2:bT .And (ev cx n sc ρ) (b::es)=some d):bT .And (ev cx n sc ρ) (a::b::es)=some d:=by
 simp only[bT,h1];exact h2
theorem wK(h1:ev cx n sc ρ a=some (.bl false)):bT .And (ev cx n sc ρ) (a::b::es)=some (.bl false):=by
 simp only[bT,h1];rfl
theorem Eu(h1:ev cx n sc ρ a=some (.bl false))(h2:bT .Or (ev cx n sc ρ) (b::es)=some d):bT .Or (ev cx n sc ρ) (a::b::es)=some d:=by
 simp only[bT,h1];exact h2
theorem Tg(h1:ev cx n sc ρ a=some (.bl true)):bT .Or (ev cx n sc ρ) (a::b::es)=some (.bl true):=by
 simp only[bT,h1];rfl
theorem sH{o:BoolOp}(h1:ev cx n sc ρ a=some d):bT o (ev cx n sc ρ) [a]=some d:=h1
theorem fD{o:BoolOp}(h:bT o (ev cx n sc ρ) es=some d):ev cx (n+1) sc ρ (.BoolOp o es p)=some d:=h
theorem fP(h1:ev cx n sc ρ a=some x)(h2:ev cx n sc ρ b=some y)(h:cmpop op x y=some d):ev cx (n+1) sc ρ (.Compare a [op] [b] p)=some d:=by
 simp only[ev,h1,h2];exact h
theorem Fz(h1:ev cx n sc ρ a=some x)(h2:ev cx n sc ρ b=some y)(h:cmpop op x y=some (.bl true))(h3:ev cx n sc ρ c=some z)(h4:cmpop op' y z=some d)(hp:aD c=true:=by rfl):ev cx (n+1) sc ρ (.Compare a [op,op'] [b,c] p)=some d:=by
 simp only[ev,h1,h2,h3,hp]
 show((cmpop op x y).bind asB).bind _=_
 rw[h];exact h4
theorem WY(h1:ev cx n sc ρ c=some (.bl true))(h2:ev cx n sc ρ a=some d):ev cx (n+1) sc ρ (.IfExp c a b p)=some d:=by
 simp only[ev,h1];exact h2
theorem W0(h1:ev cx n sc ρ c=some (.bl false))(h2:ev cx n sc ρ b=some d):ev cx (n+1) sc ρ (.IfExp c a b p)=some d:=by
 simp only[ev,h1];exact h2
theorem bh{f:Expr->Option D}:kE f []=some []:=rfl
theorem ao{f:Expr->Option D}(h1:f a=some x)(h2:kE f es=some ds):kE f (a::es)=some (x::ds):=by
 simp only[kE,h1,h2];rfl
theorem Jj{j:Nat}(h1:kE (ev cx n sc ρ) es=some ds)(hz:szl ds.length=true):ev cx (n+1) sc ρ (.Tuple es j p)=some (.tup ds):=by
 simp only[ev,h1]
 show(if szl ds.length=true then _ else _)=_
 rw[if_pos hz]
theorem Fy(h1:kE (ev cx n sc ρ) es=some ds)(hz:szl ds.length=true):ev cx (n+1) sc ρ (.List es p)=some (.lst ds):=by
 simp only[ev,h1]
 show(if szl ds.length=true then _ else _)=_
 rw[if_pos hz]
theorem Ao{x:D}{i:Int}{xs:List D}(h:items x=some xs):Jk x (.int i)=atD xs i:=by cases x<;>simp[items] at h<;>subst h<;>rfl
theorem xIx{i:Int}{xs:List D}(h1:ev cx n sc ρ a=some x)(h2:ev cx n sc ρ b=some (.int i))(h3:items x=some xs)(h4:atD xs i=some d)(hs:aD b=true:=by rfl):ev cx (n+1) sc ρ (.Subscript a b p)=some d:=by
 simp only[ev,h1]
 show Option.bind _ _=_
 cases b<;>first | (simp[aD] at hs;done) | (simp only[h2];show Jk x (.int i)=some d;rw[Ao h3];exact h4)
def oI(cx:Cxt)(n:Nat)(sc:Scope)(ρ:Rho):Option Expr->Option (Option Int)
 | none=>some none
 | some e=>(ev cx n sc ρ e).bind fun d=>(asI d).map some
theorem xSl{xs:List D}{lo hi:Option Expr}{l u:Option Int}(h1:ev cx n sc ρ a=some (.tup xs))(h2:oI cx n sc ρ lo=some l)(h3:oI cx n sc ρ hi=some u)(h4:(fQ xs.length 0 l==0&&fQ xs.length xs.length u==xs.length)=false) :
  ev cx (n+1) sc ρ (.Subscript a (.Slice lo hi none q) p)=some (.tup (lE xs l u)):=by
 unfold oI at h2 h3
 simp only[ev,h1,bind,Option.bind_some]
 have e:∀ (A B:Option (Option Int)),A=some l->B=some u->(A.bind fun l=>B.bind fun h=>if(fQ xs.length 0 l==0&&fQ xs.length xs.length h==xs.length)=true then some (D.tup xs) else some (D.tup (lE xs l h)))=some (.tup (lE xs l u)):=by
  intro A B ha hb
  subst ha hb
  simp only[Option.bind_some,h4,Bool.false_eq_true,if_false]
 exact e _ _ h2 h3
theorem WW{us:List D}{lo hi:Option Expr}{l u:Option Int}(h1:ev cx n sc ρ a=some (.lst us))(h2:oI cx n sc ρ lo=some l)(h3:oI cx n sc ρ hi=some u) :
  ev cx (n+1) sc ρ (.Subscript a (.Slice lo hi none q) p)=some (.lst (lE us l u)):=by
 unfold oI at h2 h3
 simp only[ev,h1,bind,Option.bind_some]
 have e:∀ (A B:Option (Option Int)),A=some l->B=some u->(A.bind fun l=>B.bind fun h=>some (D.lst (lE us l h)))=some (.lst (lE us l u)):=by
  intro A B ha hb
  subst ha hb
  rfl
 exact e _ _ h2 h3
theorem Cu:oI cx n sc ρ none=some none:=rfl
theorem uy{i:Int}(h:ev cx n sc ρ e=some (.int i)):oI cx n sc ρ (some e)=some (some i):=by
 simp only[oI,h];rfl
theorem JG{t:Expr}{T:String}(hg:aY cx sc nm=some "isinstance")(ht:tyOf cx sc t=some T)(hk:fG T=true)(h1:ev cx n sc ρ a=some x)(h:zN T x=c')(hxo:xOf cx sc t=none:=by rfl)(hne:isExc x=false:=by rfl):ev cx (n+1) sc ρ (.Call (.Name nm q) [a,t] [] p)=some (.bl c'):=by
 unfold aY at hg
 split at hg
 ·rename_i hgl
  subst h
  simp only[ev,hgl,hg,h1,ht,if_true,hxo,bind,Option.bind_some]
  cases x<;>first | (show(if fG T=true then _ else _)=_;rw[if_pos hk]) | exact absurd hne (by simp[isExc])
 ·cases hg
theorem dG{B:String}(hg:aY cx sc nm=some B)(hw:wL cx sc B es=.al)(hn:(B=="isinstance"||es.isEmpty)=false)(h1:kE (ev cx n sc ρ) es=some ds)(h:blt B ds=some d):ev cx (n+1) sc ρ (.Call (.Name nm q) es [] p)=some d:=by
 rw[Bool.or_eq_false_iff] at hn
 unfold aY at hg
 split at hg
 ·rename_i hgl
  simp only[ev,hgl,hg,if_true]
  split
  ·rename_i he;cases he;simp at hn
  ·rename_i he;cases he
   simp only[hw,hn.2,h1,Bool.false_eq_true,if_false]
   exact h
  ·rename_i he;cases he
 ·cases hg
theorem xLs{xs:List D}{ns:List Int}(hg:aY cx sc nm=some "len")(hw:wL cx sc "len" es=.ls a)(h1:ev cx n sc ρ a=some (.lst xs))(h2:fU xs=some ns)(hz:xs.length<=1000):ev cx (n+1) sc ρ (.Call (.Name nm q) es [] p)=some (.int (ddp ns).length):=by
 unfold aY at hg
 split at hg
 ·rename_i hgl
  simp only[ev,hgl,hg,if_true]
  split
  ·rename_i he;exact absurd he (by decide)
  ·rename_i he;cases he
   simp only[hw,h1,Option.bind_some,xZ,bind,h2,decide_eq_true hz,if_true]
  ·rename_i he;cases he
 ·cases hg
def isFn(cx:Cxt)(sc:Scope)(nm:Str)(es:List Expr):Bool:=yh cx sc nm&&(cx.blt.lookup nm).isNone&&cx.fns.contains nm && !es.isEmpty
theorem aB(hf:isFn cx sc nm es=true)(h1:kE (ev cx n sc ρ) es=some ds)(h:cx.call nm ds=some d):ev cx (n+1) sc ρ (.Call (.Name nm q) es [] p)=some d:=by
 unfold isFn at hf
 rw[Bool.and_eq_true,Bool.and_eq_true,Bool.and_eq_true] at hf
 obtain⟨⟨⟨h2,h3⟩,h4⟩,h5⟩:=hf
 have h3':cx.blt.lookup nm=none:=by simpa using h3
 simp only[ev,h2,h3',h4,h5,Bool.and_self,if_true,h1]
 exact h
theorem wR1{tup:Bool}{j:Int}(hw:jT cx sc e=.r1 a)(h1:ev cx n sc ρ a=some (.int j))(hz:bU j=true):evI cx tup (ev cx n sc ρ) sc e=some (bO 0 j):=by
 unfold evI
 rw[hw]
 simp only[h1,Option.bind_some,asI]
 show(if bU j=true then _ else _)=_
 rw[if_pos hz]
theorem wR2{tup:Bool}{i j:Int}(hw:jT cx sc e=.r2 a b)(h1:ev cx n sc ρ a=some (.int i))(h2:ev cx n sc ρ b=some (.int j))(hz:(bU i&&bU j)=true):evI cx tup (ev cx n sc ρ) sc e=some (bO i j):=by
 unfold evI
 rw[hw]
 simp only[h1,h2,Option.bind_some,asI]
 show(if(bU i&&bU j)=true then _ else _)=_
 rw[if_pos hz]
theorem wZp{xs ys:List D}(hw:jT cx sc e=.zp a b)(h1:ev cx n sc ρ a=some (.tup xs))(h2:ev cx n sc ρ b=some (.tup ys)):evI cx true (ev cx n sc ρ) sc e=some ((xs.zip ys).map fun q=>.tup [q.1,q.2]):=by
 unfold evI
 rw[hw]
 simp only[h1,h2,bind,Option.bind_some]
 rfl
theorem JM{xs ys:List D}(hw:jT cx sc e=.zp a b)(h1:ev cx n sc ρ a=some (.lst xs))(h2:ev cx n sc ρ b=some (.lst ys)):evI cx true (ev cx n sc ρ) sc e=some ((xs.zip ys).map fun q=>.tup [q.1,q.2]):=by
 unfold evI
 rw[hw]
 simp only[h1,h2,bind,Option.bind_some]
 rfl
theorem JL{xs ys:List D}(hw:jT cx sc e=.zp a b)(h1:ev cx n sc ρ a=some (.lst xs))(h2:ev cx n sc ρ b=some (.tup ys)):evI cx true (ev cx n sc ρ) sc e=some ((xs.zip ys).map fun q=>.tup [q.1,q.2]):=by
 unfold evI
 rw[hw]
 simp only[h1,h2,bind,Option.bind_some]
 rfl
theorem wEn{xs:List D}(hw:jT cx sc e=.en a)(h1:ev cx n sc ρ a=some (.tup xs)):evI cx true (ev cx n sc ρ) sc e=some (enD xs):=by
 unfold evI
 rw[hw]
 simp only[h1,bind,Option.bind_some]
 rfl
theorem JQ{xs:List D}(hw:jT cx sc e=.en a)(h1:ev cx n sc ρ a=some (.lst xs)):evI cx true (ev cx n sc ρ) sc e=some (enD xs):=by
 unfold evI
 rw[hw]
 simp only[h1,bind,Option.bind_some]
 rfl
theorem wSq{tup:Bool}{xs:List D}(hw:jT cx sc e=.sq)(h1:ev cx n sc ρ e=some x)(h2:items x=some xs):evI cx tup (ev cx n sc ρ) sc e=some xs:=by
 unfold evI
 rw[hw]
 simp only[h1,Option.bind_some]
 exact h2
theorem bC{f:D->Option (Option D)}{h g:Nat->D}:∀ {m:Nat},(∀ i,i<m->f (h i)=some (some (g i)))->bD f (Ls m h)=some (Ls m g):=by
  have key:∀ (l:List Nat),(∀ i∈l,f (h i)=some (some (g i)))->bD f (l.map h)=some (l.map g):=by
    intro l
    induction l with
    | nil=>intro _;rfl
    | cons i r ih =>
      intro hi
      simp only[List.map_cons,bD,hi i List.mem_cons_self,ih fun j hj=>hi j (List.mem_cons_of_mem _ hj)]
      rfl
  intro m hm
  exact key _ fun i hi=>hm i (List.mem_range.mp hi)
theorem m8{f:D->Option (Option D)}{t:D->Bool}{g:D->D}:∀ {l:List D},(∀ x∈l,f x=some (if t x then some (g x) else none))->bD f l=some ((l.filter t).map g)
  | [],_=>rfl
  | x :: r, h => by
    have h1:=h x List.mem_cons_self
    have h2:=m8 (l:=r) fun y hy=>h y (List.mem_cons_of_mem _ hy)
    simp only[bD,h1]
    cases ht:t x with
    | true=>simp only[if_true,List.filter_cons,ht,List.map_cons,h2];rfl
    | false=>simp only[Bool.false_eq_true,if_false,List.filter_cons,ht];exact h2
def cF(cx:Cxt)(n:Nat)(sc scope:Scope)(ρ:Rho)(tg elt:Expr)(ifs:List Expr):D->Option (Option D):=fun d=>do
 let ρ1 <- eZ scope tg d (bG scope ρ)
 let b <- kW (ev cx n (jA scope sc) ρ1) ifs
 if b then(ev cx n (jA scope sc) ρ1 elt).map some else some none
theorem dh{tg elt:Expr}{ρ1:Rho}(h1:eZ scope tg x (bG scope ρ)=some ρ1)(h2:ev cx n (jA scope sc) ρ1 elt=some d):cF cx n sc scope ρ tg elt [] x=some (some d):=by
 simp only[cF,h1,kW]
 show Option.map some (ev cx n (jA scope sc) ρ1 elt)=_
 rw[h2];rfl
theorem oR{tg elt:Expr}{ρ1:Rho}{t:Bool}(h1:eZ scope tg x (bG scope ρ)=some ρ1)(h3:ev cx n (jA scope sc) ρ1 c=some (.bl t))(h2:ev cx n (jA scope sc) ρ1 elt=some d):cF cx n sc scope ρ tg elt [c] x=some (if t then some d else none):=by
 simp only[cF,h1,kW,h3,h2,bind,Option.bind_some,asB]
 cases t<;>rfl
theorem cH{tg elt iter:Expr}{ifs:List Expr}{l out:List D}(hok:gD sc scope=true)(hI:evI cx (d7 tg) (ev cx n sc ρ) sc iter=some l)(hz:szl l.length=true)(hgo:bD (cF cx n sc scope ρ tg elt ifs) l=some out) :
  ev cx (n+1) sc ρ (.ListComp elt [⟨tg,iter,ifs,0⟩] scope p)=some (.lst out):=by
 simp only[ev,hok,hI]
 show(if szl l.length=true then(bD (cF cx n sc scope ρ tg elt ifs) l).bind (fun out=>some (D.lst out)) else none)=some (D.lst out)
 rw[if_pos hz,hgo]
 rfl
variable {F:Nat} {f:Rho->Stmt->Option Fl} {r:List Stmt} {fl:Fl} {m:Nat}
abbrev blk(cx:Cxt)(F m:Nat)(sc:Scope):List Stmt->Rho->Option Fl:=jW (fun ρ s=>st cx F m sc ρ s)
theorem jE:blk cx F m sc [] ρ=some (.nxt ρ):=rfl
def qY(cx:Cxt)(F m:Nat)(sc:Scope)(r:List Stmt):Fl->Option Fl
 | .ret d=>some (.ret d)
 | .nxt ρ'=>blk cx F m sc r ρ'
theorem gSt{s:Stmt}{fl1:Fl}(h:st cx F m sc ρ s=some fl1)(k:qY cx F m sc r fl1=some fl):blk cx F m sc (s::r) ρ=some fl:=by
 show(st cx F m sc ρ s).bind _=_
 rw[h]
 cases fl1<;>exact k
theorem cu(h:ev cx F sc (frz F e ρ) e=some d):blk cx F (m+1) sc (.Return (some e) p::r) ρ=some (.ret d):=by
 refine gSt (fl1:=.ret d) ?_ rfl
 simp only[st,h];rfl
theorem oJ{px:Pos}(ho:(ownIn sc nm&&(ρ.map (·.1)).contains nm)=true)(h:ev cx F sc (frz F e ρ) e=some d)(k:blk cx F (m+1) sc r (cj (frz F e ρ) nm (jC e d))=some fl)(hoo:(ooE cx sc e&&rC (frz F e ρ) nm)=false:=by rfl)(hno:(bx e && !j9 (frz F e ρ) nm)=false:=by rfl)(hle:wD cx sc e=false:=by rfl)(hrd:rdA e=false:=by rfl):blk cx F (m+1) sc (.Assign [.Name nm px] e p::r) ρ=some fl:=by
 refine gSt (fl1:=.nxt _) ?_ k
 simp only[st,h,if_pos ho,hoo,hno,hle,hrd,Bool.false_and,Bool.false_eq_true,if_false];rfl
theorem R8{px:Pos}{ρ':Rho}{ds:List D}(hf:frz F e ρ=ρ')(ho:(ownIn sc nm&&(ρ.map (·.1)).contains nm)=true)(h:ev cx F sc ρ' e=some (.lst ds))(hoo:ooE cx sc e=false)(hle:(wD cx sc e&&j9 ρ' nm)=true)(k:blk cx F (m+1) sc r (cj ρ' nm (.ow ds))=some fl):blk cx F (m+1) sc (.Assign [.Name nm px] e p::r) ρ=some fl:=by
 subst hf
 refine gSt (fl1:=.nxt _) ?_ k
 simp only[st,if_pos ho,hoo,hle,h,Bool.false_and,Bool.false_eq_true,if_false,if_true];rfl
theorem gTup{es:List Expr}{j:Nat}{ρ':Rho}{l:List D}(hs:(swp sc es e).isSome=true)(h:ev cx F sc (frz F e ρ) e=some d)(hl:items d=some l)(hb:bindNames sc es l (frz F e ρ)=some ρ')(k:blk cx F (m+1) sc r ρ'=some fl):blk cx F (m+1) sc (.Assign [.Tuple es j q] e p::r) ρ=some fl:=by
 refine gSt (fl1:=.nxt _) ?_ k
 simp only[st,h,hs,Bool.true_or,if_true,hl,bind,Option.bind_some,hb,Option.map_some]
def Fp:Expr->Bool
 | .Call (.Name ..) _ _ _=>true
 | _=>false
theorem rG(hx:Fp e=true)(h:ev cx F sc (frz F e ρ) e=some d)(k:blk cx F (m+1) sc r (frz F e ρ)=some fl):blk cx F (m+1) sc (.Expr e p::r) ρ=some fl:=by
 unfold Fp at hx
 split at hx
 ·refine gSt (fl1:=.nxt _) ?_ k
  simp only[st,h,Option.map_some]
 ·cases hx
theorem Yd{px ap cp:Pos}{M:Str}{ds:List D}(hx:(frz F e ρ).lookup nm=some (.ow ds))(ho:(ownIn sc nm&&au nm&&ap.endLine==cp.line)=true)(hM:(M=="append")=true)(hz:szl (ds.length+1)=true)(h:ev cx F sc (frz F e ρ) e=some d)(k:blk cx F (m+1) sc r (cj (frz F e ρ) nm (.ow (ds++[d])))=some fl) :
  blk cx F (m+1) sc (.Expr (.Call (.Attribute (.Name nm px) M ap) [e] [] cp) p::r) ρ=some fl:=by
 refine gSt (fl1:=.nxt _) ?_ k
 simp only[st,hx,ho,hM,hz,Bool.and_self,if_true,h,Option.map_some]
theorem Wu{px ap cp:Pos}{M:Str}{ds zs:List D}(hx:(frz F e ρ).lookup nm=some (.ow ds))(ho:(ownIn sc nm&&au nm&&ap.endLine==cp.line)=true)(hM:(M=="append")=false)(hM2:(M=="extend")=true)(hz:szl (ds.length+zs.length)=true)(h:ev cx F sc (frz F e ρ) e=some (.lst zs))(k:blk cx F (m+1) sc r (cj (frz F e ρ) nm (.ow (ds++zs)))=some fl) :
  blk cx F (m+1) sc (.Expr (.Call (.Attribute (.Name nm px) M ap) [e] [] cp) p::r) ρ=some fl:=by
 refine gSt (fl1:=.nxt _) ?_ k
 simp only[st,hx,ho,hM,hM2,Bool.false_and,Bool.false_eq_true,if_false,if_true,h,bind,Option.bind_some,hz]
theorem Ie{A B:List Stmt}{fl1:Fl}(h:ev cx F sc (frz F c ρ) c=some (.bl true))(k:blk cx F m sc A ρ=some fl1)(k2:qY cx F (m+1) sc r fl1=some fl):blk cx F (m+1) sc (.If c A B p::r) ρ=some fl:=by
 refine gSt ?_ k2
 have k':jW (fun ρ s=>st cx F m sc ρ s) A ρ=some fl1:=k
 simp only[st,h,bind,Option.bind_some,asB,if_true,k']
theorem Wt{A B:List Stmt}{fl1:Fl}(h:ev cx F sc (frz F c ρ) c=some (.bl false))(k:blk cx F m sc B ρ=some fl1)(k2:qY cx F (m+1) sc r fl1=some fl):blk cx F (m+1) sc (.If c A B p::r) ρ=some fl:=by
 refine gSt ?_ k2
 have k':jW (fun ρ s=>st cx F m sc ρ s) B ρ=some fl1:=k
 simp only[st,h,bind,Option.bind_some,asB,Bool.false_eq_true,if_false,k']
theorem wG{A:List Stmt}(h:ev cx F sc (frz F c ρ) c=some (.bl false))(k:blk cx F (m+1) sc r ρ=some fl):blk cx F (m+1) sc (.If c A [] p::r) ρ=some fl :=
 Wt h jE k
theorem gB{f:D->Rho->Option Fl}{h:Nat->D}{R:Nat->Rho}{N:Nat}(hs:∀ i,i<N->f (h i) (R i)=some (.nxt (R (i+1)))):dD f (Ls N h) (R 0)=some (.nxt (R N)):=by
  have key:∀ (j i:Nat),i+j=N->dD f ((List.range' i j).map h) (R i)=some (.nxt (R N)):=by
    intro j
    induction j with
    | zero => intro i hi; have : i = N := by omega
              subst this;rfl
    | succ j ih =>
      intro i hi
      rw[List.range'_succ,List.map_cons]
      simp only[dD,hs i (by omega)]
      exact ih (i+1) (by omega)
  have:=key N 0 (by omega)
  rw[<- List.range_eq_range'] at this
  exact this
def fF(cx:Cxt)(F m:Nat)(sc:Scope)(tg:Expr)(body:List Stmt):D->Rho->Option Fl:=fun d ρ=>do let ρ1 <- eZ sc tg d ρ;jW (fun ρ s=>st cx F m sc ρ s) body ρ1
theorem lq{tg:Expr}{body:List Stmt}{ρ1:Rho}(h1:eZ sc tg d ρ=some ρ1)(h2:blk cx F m sc body ρ1=some fl):fF cx F m sc tg body d ρ=some fl:=by
 have h2':jW (fun ρ s=>st cx F m sc ρ s) body ρ1=some fl:=h2
 simp only[fF,h1];exact h2'
theorem Ih{tg iter:Expr}{body:List Stmt}{l:List D}{fl1:Fl}(hI:evI cx (d7 tg) (ev cx F sc (frz F iter ρ)) sc iter=some l)(hgo:dD (fF cx F m sc tg body) l (frz F iter ρ)=some fl1)(k2:qY cx F (m+1) sc r fl1=some fl):blk cx F (m+1) sc (.For tg iter body [] p::r) ρ=some fl:=by
 refine gSt ?_ k2
 have hgo':dD (fun d ρ=>(eZ sc tg d ρ).bind fun ρ1=>jW (fun ρ s=>st cx F m sc ρ s) body ρ1) l (frz F iter ρ)=some fl1:=hgo
 simp only[st,hI,bind,Option.bind_some,hgo']
abbrev cxN(P:Pg)(F k:Nat):Cxt:=⟨P.cst,P.blt,P.defs.map (·.1),P.exs,P.top,true,aG P F k,Ef P F k⟩
theorem IV{P:Pg}{k:Nat}:P.cx (dW P F k)=cxN P F k:=by
 have e1:aG P F k=fun f ds=>Rs.val? (dW P F k f ds):=by funext f ds;exact gH
 have e2:Ef P F k=fun f ds=>Rs.exc? (dW P F k f ds):=by funext f ds;exact yR
 unfold cxN
 rw[e1,e2]
 rfl
theorem cC{P:Pg}{k:Nat}{f:Str}{fd:Fd}(hf:P.defs.lookup f=some fd)(hl:(ds.length==fd.ps.length)=true)(h:blk (cxN P F k) F F fd.sc fd.body (bY fd ds)=some (.ret d)):aG P F (k+1) f ds=some d:=by
 have h':jW (fun ρ s=>st (cxN P F k) F F fd.sc ρ s) fd.body (bY fd ds)=some (.ret d):=h
 rw[gH]
 simp only[lJ,hf,hl,if_true,oU,IV,h',Rs.val?]
theorem Af{P:Pg}{k:Nat}{f:Str}{fd:Fd}{ρ':Rho}(hf:P.defs.lookup f=some fd)(hl:(ds.length==fd.ps.length)=true)(h:blk (cxN P F k) F F fd.sc fd.body (bY fd ds)=some (.nxt ρ')):aG P F (k+1) f ds=some .non:=by
 have h':jW (fun ρ s=>st (cxN P F k) F F fd.sc ρ s) fd.body (bY fd ds)=some (.nxt ρ'):=h
 rw[gH]
 simp only[lJ,hf,hl,if_true,oU,IV,h',Rs.val?]
end
end DE
namespace DE
open PySem
abbrev row(n:Nat)(f:Nat->Int):D:=.tup (Ls n fun j=>.int (f j))
abbrev tbl(m n:Nat)(f:Nat->Nat->Int):D:=.tup (Ls m fun i=>.tup (Ls n fun j=>.int (f i j)))
def jz:Nat->(Nat->Int)->Int
 | 0,_=>0
 | n+1,f=>jz n f+f n
theorem Em{f:Nat->Int}:∀ {n:Nat},fU (Ls n fun i=>D.int (f i))=some (Ls n f):=by
 have key:∀ l:List Nat,fU (l.map fun i=>D.int (f i))=some (l.map f):=by
  intro l
  induction l with
  | nil=>rfl
  | cons a r ih=>simp only[List.map_cons,fU,ih];rfl
 intro n
 exact key _
theorem yX{f:Nat->Int}:∀ {n:Nat},(Ls n f).sum=jz n f
 | 0=>rfl
 | n+1=>by rw[fO,List.sum_append,yX];simp[jz]
theorem Yi{n:Nat}{h:Nat->D}:blt "len" [.tup (Ls n h)]=some (.int (n:Int)):=by
 show some (D.int ((Ls n h).length:Int))=_
 rw[aR]
theorem SM{n:Nat}{f:Nat->Int}:blt "sum" [.lst (Ls n fun i=>.int (f i))]=some (.int (jz n f)):=by
 show(fU (Ls n fun i=>D.int (f i))).bind (fun is=>some (D.int is.sum))=_
 rw[Em,Option.bind_some,yX]
theorem El{l:List D}:blt "tuple" [.lst l]=some (.tup l):=rfl
theorem gJ{n:Nat}(h:n<=100000):szl n=true:=by unfold szl;exact decide_eq_true h
theorem gK{α:Type}{n:Nat}{h:Nat->α}(hn:n<=100000):szl (Ls n h).length=true:=by rw[aR];exact gJ hn
theorem Xk{n:Nat}(h:n<=100000):bU (n:Int)=true:=by
 unfold bU
 rw[decide_eq_true (by omega),decide_eq_true (by omega)];rfl
theorem oLe{i j:Int}(h:i<=j):cmpop .LtE (.int i) (.int j)=some (.bl true):=by
 show some (D.bl (decide (i<=j)))=_
 rw[decide_eq_true h]
theorem oLt{i j:Int}(h:i<j):cmpop .Lt (.int i) (.int j)=some (.bl true):=by
 show some (D.bl (decide (i<j)))=_
 rw[decide_eq_true h]
theorem Tn{i j:Int}(h:¬ i<j):cmpop .Lt (.int i) (.int j)=some (.bl false):=by
 show some (D.bl (decide (i<j)))=_
 rw[decide_eq_false h]
theorem Jp{i j:Int}(h:i=j):cmpop .Eq (.int i) (.int j)=some (.bl true):=by
 subst h
 show some (D.bl (i==i))=_
 rw[beq_self_eq_true]
theorem Jq{i j:Int}(h:i≠j):cmpop .Eq (.int i) (.int j)=some (.bl false):=by
 show some (D.bl (i==j))=_
 rw[beq_eq_false_iff_ne.mpr h]
theorem Ez{i j:Int}(h:i=j):cmpop .NotEq (.int i) (.int j)=some (.bl false):=by
 subst h
 show some (D.bl (!(i==i)))=_
 rw[beq_self_eq_true];rfl
theorem vZ{i j:Int}(h:small i=true\/small j=true):binop .Mult (.int i) (.int j)=some (.int (i*j)):=by
 show(if(small i||small j||(mid i&&mid j))=true then _ else _)=_
 rw[if_pos (by rw[Bool.or_eq_true,Bool.or_eq_true];exact .inl h)]
theorem Fg{i j:Int}(h:0<j):binop .Mod (.int i) (.int j)=some (.int (i%j)):=by
 show(if decide (0<j)=true then _ else _)=_
 rw[if_pos (decide_eq_true h)]
theorem Yj{i j:Int}(h:0<j)(h':j<1073741824):binop .FloorDiv (.int i) (.int j)=some (.int (i / j)):=by
 show(if(decide (0<j)&&decide (j<1073741824))=true then _ else _)=_
 rw[if_pos (by rw[decide_eq_true h,decide_eq_true h'];rfl)]
mutual
theorem lA:∀ d:D,dep d<1000->deq d d=true
 | .non,_=>rfl
 | .bl b,_=>by simp[deq]
 | .int i,_=>by simp[deq]
 | .str x,_=>by simp[deq]
 | .tup xs,h=>by simp only[deq];exact lu xs (by simp only[dep] at h;omega)
 | .lst xs,h=>by simp only[deq];exact lu xs (by simp only[dep] at h;omega)
 | .exc c,h=>absurd h (by simp[dep])
 | .dic _ _,h=>absurd h (by simp[dep])
theorem lu:∀ ds:List D,deps ds<1000->mZ ds ds=true
  | [],_=>rfl
  | d :: ds, h => by
    simp only[deps] at h
    simp only[mZ,lA d (by omega),lu ds (by omega),Bool.and_self]
end
theorem oEq{x y:D}(h1:dep x<=50)(h2:dep y<=50):cmpop .Eq x y=some (.bl (deq x y)):=by
 show(if(decide (dep x<=50)&&decide (dep y<=50))=true then some (D.bl (deq x y)) else none)=_
 rw[decide_eq_true h1,decide_eq_true h2];rfl
theorem oNe{x y:D}(h1:dep x<=50)(h2:dep y<=50):cmpop .NotEq x y=some (.bl (!deq x y)):=by
 show(if(decide (dep x<=50)&&decide (dep y<=50))=true then some (D.bl (!deq x y)) else none)=_
 rw[decide_eq_true h1,decide_eq_true h2];rfl
theorem jo{b:Nat}:∀ {l:List D},(∀ d∈l,dep d<=b)->deps l<=b
  | [],_=>Nat.zero_le _
  | d :: r, h => by
    simp only[deps]
    exact Nat.max_le.mpr ⟨h d List.mem_cons_self,jo fun e he=>h e (List.mem_cons_of_mem _ he)⟩
theorem DX{n:Nat}{f:Nat->Int}:dep (row n f)<=1:=by
 simp only[dep]
 have:=jo (b:=0) (l:=Ls n fun j=>D.int (f j)) fun d hd=>by
  unfold Ls at hd
  obtain⟨i,_,rfl⟩:=List.mem_map.mp hd
  simp[dep]
 omega
theorem fL{m n:Nat}{f:Nat->Nat->Int}:dep (tbl m n f)<=2:=by
 simp only[dep]
 have:=jo (b:=1) (l:=Ls m fun i=>D.tup (Ls n fun j=>D.int (f i j))) fun d hd=>by
  unfold Ls at hd
  obtain⟨i,_,rfl⟩:=List.mem_map.mp hd
  exact DX (f:=f i)
 omega
theorem Xv{m n:Nat}{f g:Nat->Nat->Int}(h:∀ i j,i<m->j<n->f i j=g i j):cmpop .NotEq (tbl m n f) (tbl m n g)=some (.bl false):=by
 have e:tbl m n f=tbl m n g:=by
  show D.tup _=D.tup _
  congr 1
  refine cR fun i hi=>?_
  congr 1
  refine cR fun j hj=>?_
  rw[h i j hi hj]
 rw[e]
 rw[oNe (Nat.le_trans fL (by decide)) (Nat.le_trans fL (by decide)),lA _ (Nat.lt_of_le_of_lt fL (by decide))];rfl
theorem Xx{m n:Nat}{f g:Nat->Nat->Int}(h:∀ i j,i<m->j<n->f i j=g i j):cmpop .Eq (tbl m n f) (tbl m n g)=some (.bl true):=by
 have e:tbl m n f=tbl m n g:=by
  show D.tup _=D.tup _
  congr 1
  refine cR fun i hi=>?_
  congr 1
  refine cR fun j hj=>?_
  rw[h i j hi hj]
 rw[e]
 rw[oEq (Nat.le_trans fL (by decide)) (Nat.le_trans fL (by decide)),lA _ (Nat.lt_of_le_of_lt fL (by decide))]
section
variable {cx:Cxt} {n:Nat} {sc scope:Scope} {ρ:Rho} {a b c e:Expr} {es:List Expr} {p q:Pos} {x y z d:D} {ds:List D} {nm:Str}
theorem yV{tup:Bool}{j:Nat}(hw:jT cx sc e=.r1 a)(h1:ev cx n sc ρ a=some (.int (j:Int)))(hz:j<=100000):evI cx tup (ev cx n sc ρ) sc e=some (Ls j fun k=>.int (k:Int)):=by
 rw[wR1 hw h1 (Xk hz),tY]
theorem W3{m:Nat}{h g:Nat->D}(hw:jT cx sc e=.zp a b)(h1:ev cx n sc ρ a=some (.tup (Ls m h)))(h2:ev cx n sc ρ b=some (.tup (Ls m g))):evI cx true (ev cx n sc ρ) sc e=some (Ls m fun i=>.tup [h i,g i]):=by
 rw[wZp hw h1 h2,wu,jy]
theorem W4{tup:Bool}{xs:List D}(hw:jT cx sc e=.sq)(h1:ev cx n sc ρ e=some (.tup xs)):evI cx tup (ev cx n sc ρ) sc e=some xs:=wSq hw h1 rfl
theorem JF{m j:Nat}{h:Nat->D}(h1:ev cx n sc ρ a=some (.tup (Ls m h)))(h2:ev cx n sc ρ b=some (.int (j:Int)))(hj:j<m)(hs:aD b=true)(hd:h j=d):ev cx (n+1) sc ρ (.Subscript a b p)=some d:=hd▸xIx h1 h2 rfl (wj hj) hs
theorem WX{m:Nat}{h:Nat->D}(h1:ev cx n sc ρ a=some (.tup (Ls m h)))(h2:ev cx n sc ρ b=some (.int 0))(hj:0<m)(hs:aD b=true)(hd:h 0=d):ev cx (n+1) sc ρ (.Subscript a b p)=some d:=hd▸xIx h1 h2 rfl (wj (j:=0) hj) hs
theorem qM{m j:Nat}{h:Nat->D}(h1:ev cx n sc ρ a=some (.lst (Ls m h)))(h2:ev cx n sc ρ b=some (.int (j:Int)))(hj:j<m)(hs:aD b=true)(hd:h j=d):ev cx (n+1) sc ρ (.Subscript a b p)=some d:=hd▸xIx h1 h2 rfl (wj hj) hs
end
abbrev plc(q:Nat)(c:Nat->Nat):D:=.tup (Ls q fun j=>.int ((c j:Nat):Int))
theorem IW{m a:Nat}{h:Nat->D}(ha:a<=m):lE (Ls m h) (some (a:Int)) none=Ls (m-a) fun i=>h (a+i):=by
 unfold lE
 have e1:fQ (Ls m h).length 0 (some (a:Int))=a:=by
  unfold fQ
  rw[aR]
  simp only
  rw[if_neg (by omega)]
  omega
 have e2:fQ (Ls m h).length (Ls m h).length none=m:=aR
 rw[e1,e2,wz,oZ (Nat.le_refl _)]
theorem Ja{m a:Nat}{h:Nat->D}(ha:a<=m):lE (Ls m h) none (some (a:Int))=Ls a h:=by
 unfold lE
 have e1:fQ (Ls m h).length 0 none=0:=rfl
 have e2:fQ (Ls m h).length (Ls m h).length (some (a:Int))=a:=by
  unfold fQ
  rw[aR]
  simp only
  rw[if_neg (by omega)]
  omega
 rw[e1,e2,List.drop_zero,Nat.sub_zero,oZ ha]
section
variable {cx:Cxt} {n:Nat} {sc scope:Scope} {ρ:Rho} {a b c e:Expr} {es:List Expr} {p q:Pos} {x y z d:D} {ds:List D} {nm:Str}
theorem Jz{m j:Nat}{h:Nat->D}(h1:ev cx n sc ρ a=some (.tup (Ls m h)))(h2:ev cx n sc ρ b=some (.int (j:Int)))(hj:0<j)(hm:0<m)(hjm:j<=m):ev cx (n+1) sc ρ (.Subscript a (.Slice (some b) none none q) p)=some (.tup (Ls (m-j) fun i=>h (j+i))):=by
 rw[xSl h1 (uy h2) Cu,IW hjm]
 have:(fQ (Ls m h).length 0 (some (j:Int))==0)=false:=by
  unfold fQ
  rw[aR]
  simp only
  rw[if_neg (by omega)]
  have:min (j:Int).toNat m≠0:=by omega
  exact beq_eq_false_iff_ne.mpr this
 rw[this];rfl
end
theorem zW{m:Nat}{h:Nat->D}:enD (Ls m h)=Ls m fun i=>.tup [.int (i:Int),h i]:=by
 apply List.ext_getElem?
 intro i
 unfold enD
 rw[List.getElem?_map,List.getElem?_zipIdx]
 by_cases hi:i<m
 ·rw[bZ hi,bZ hi];simp
 ·rw[List.getElem?_eq_none (by rw[aR];omega),List.getElem?_eq_none (by rw[aR];omega)];rfl
theorem W5{cx:Cxt}{n:Nat}{sc:Scope}{ρ:Rho}{a e:Expr}{m:Nat}{h:Nat->D}(hw:jT cx sc e=.en a)(h1:ev cx n sc ρ a=some (.tup (Ls m h))):evI cx true (ev cx n sc ρ) sc e=some (Ls m fun i=>.tup [.int (i:Int),h i]):=by
 rw[wEn hw h1,zW]
theorem Jf{α β:Type}(d:α)(g:α->β)(l:List α):l.map g=Ls l.length fun i=>g (l.getD i d):=by
 apply List.ext_getElem?
 intro i
 by_cases hi:i<l.length
 ·rw[List.getElem?_map,bZ hi,List.getElem?_eq_getElem hi,List.getD_eq_getElem?_getD,List.getElem?_eq_getElem hi];rfl
 ·rw[List.getElem?_eq_none (by rw[List.length_map];omega),List.getElem?_eq_none (by rw[aR];omega)]
theorem jF{n:Nat}{f g:Nat->Int}(h:∀ i,i<n->f i=g i):jz n f=jz n g:=by
 induction n with
 | zero=>rfl
 | succ n ih=>simp only[jz];rw[ih fun i hi=>h i (by omega),h n (by omega)]
theorem tD{n:Nat}:jz n (fun _=>0)=0:=by
 induction n with
 | zero=>rfl
 | succ n ih=>simp only[jz,ih];rfl
theorem tE{n j:Nat}{f:Nat->Int}(hj:j<n):jz n (fun i=>if i=j then f i else 0)=f j:=by
  induction n with
  | zero=>omega
  | succ n ih =>
    simp only[jz]
    by_cases e:n=j
    · subst e
      rw[if_pos rfl,jF (g:=fun _=>0) fun i hi=>by rw[if_neg (by omega)],tD];omega
    · rw[if_neg e,ih (by omega)];omega
end DE
namespace DE
open PySem
theorem Tp{i j:Int}(h:¬ i<=j):cmpop .LtE (.int i) (.int j)=some (.bl false):=by
 show some (D.bl (decide (i<=j)))=_
 rw[decide_eq_false h]
theorem oGt{i j:Int}:cmpop .Gt (.int i) (.int j)=some (.bl (decide (j<i))):=rfl
theorem Tq{i j:Int}:cmpop .LtE (.int i) (.int j)=some (.bl (decide (i<=j))):=rfl
section
variable {cx:Cxt} {n:Nat} {sc scope:Scope} {ρ:Rho} {a b c e:Expr} {es:List Expr} {p q:Pos} {x y z d:D} {ds:List D} {nm:Str} {F m:Nat} {r:List Stmt} {fl:Fl} {op op':CmpOp}
theorem FJ(h1:ev cx n sc ρ a=some x)(h2:ev cx n sc ρ b=some y)(h:cmpop op x y=some (.bl false))(hp:aD c=true:=by rfl):ev cx (n+1) sc ρ (.Compare a [op,op'] [b,c] p)=some (.bl false):=by
 simp only[ev,hp,Bool.not_true,Bool.false_eq_true,if_false,h1,h2,bind,Option.bind_some,h,asB]
theorem Ii{px ap cp:Pos}{M:Str}{ds:List D}{dd:D}{ρ':Rho}(hf:frz F e ρ=ρ')(hx':ρ'.lookup nm=some (.sh dd))(hx:ρ.lookup nm=some (.ow ds))(ho:(ownIn sc nm&&au nm&&ap.endLine==cp.line&&(M=="append"&&szl (ds.length+1)))=true)(h:ev cx F sc ρ' e=some d)(hfl:eX d=true)(k:blk cx F (m+1) sc r (cj ρ nm (.ow (ds++[d])))=some fl) :
  blk cx F (m+1) sc (.Expr (.Call (.Attribute (.Name nm px) M ap) [e] [] cp) p::r) ρ=some fl:=by
 subst hf
 refine gSt (fl1:=.nxt _) ?_ k
 simp only[st,hx',hx,ho,if_true,h,bind,Option.bind_some,hfl]
theorem Sg{px ap cp:Pos}{M:Str}{ds zs:List D}(hx:(frz F e ρ).lookup nm=some (.ow ds))(ho:(ownIn sc nm&&au nm&&ap.endLine==cp.line)=true)(hM:(M=="append")=false)(hM2:(M=="extend")=true)(hz:szl (ds.length+zs.length)=true)(h:ev cx F sc (frz F e ρ) e=some (.tup zs))(k:blk cx F (m+1) sc r (cj (frz F e ρ) nm (.ow (ds++zs)))=some fl) :
  blk cx F (m+1) sc (.Expr (.Call (.Attribute (.Name nm px) M ap) [e] [] cp) p::r) ρ=some fl:=by
 refine gSt (fl1:=.nxt _) ?_ k
 simp only[st,hx,ho,hM,hM2,Bool.false_and,Bool.false_eq_true,if_false,if_true,h,bind,Option.bind_some,hz]
end
section
variable {cx:Cxt} {n:Nat} {sc scope:Scope} {ρ:Rho} {a b c e:Expr} {es:List Expr} {p q:Pos} {x y z d:D} {ds:List D} {nm:Str} {F m:Nat} {r:List Stmt} {fl:Fl}
end
section
variable {cx:Cxt} {n:Nat} {sc scope:Scope} {ρ:Rho} {a b c e:Expr} {p q:Pos}
theorem Jy{us:List D}{i:Nat}(h1:ev cx n sc ρ a=some (.tup us))(h2:ev cx n sc ρ b=some (.int (i:Int)))(hi:i<us.length):ev cx (n+1) sc ρ (.Subscript a (.Slice none (some b) none q) p)=some (.tup (us.take i)):=by
 have e1:fQ us.length us.length (some (i:Int))=i:=by unfold fQ;simp only;rw[if_neg (by omega)];omega
 rw[xSl h1 Cu (uy h2)]
 ·unfold lE
  rw[e1]
  show some (D.tup ((us.drop 0).take (i-0)))=_
  rw[List.drop_zero,Nat.sub_zero]
 ·rw[e1]
  have:(i==us.length)=false:=by rw[beq_eq_false_iff_ne];omega
  rw[this,Bool.and_false]
end
theorem vK{x:D}:∀ {l:List D},x∈l->dep x<=deps l
  | y :: l, h => by
    simp only[deps]
    rcases List.mem_cons.mp h with rfl | h
    · omega
    · have:=vK h;omega
theorem cV{f:D->Option (Option D)}{g:D->D}:∀ {l:List D},(∀ x∈l,f x=some (some (g x)))->bD f l=some (l.map g)
  | [],_=>rfl
  | x :: l, h => by
    simp only[bD,h x List.mem_cons_self,bind,Option.bind_some,cV (l:=l) fun y hy=>h y (List.mem_cons_of_mem _ hy),Option.map_some,List.map_cons]
theorem v7{l:List D}{t:D->Bool}:blt "all" [.lst (l.map fun x=>.bl (t x))]=some (.bl (l.all t)):=by
 have key:∀ l:List D,oY (l.map fun x=>.bl (t x))=some (l.map t):=by
  intro l
  induction l with
  | nil=>rfl
  | cons a r ih=>simp only[List.map_cons,oY,ih];rfl
 show(oY (l.map fun x=>.bl (t x))).bind (fun bs=>some (D.bl (bs.all id)))=_
 rw[key,Option.bind_some,List.all_map];rfl
theorem mW{f:D->Rho->Option Fl}{R:List D->Rho}{whole:List D}(h:∀ pre x post,pre++x::post=whole->f x (R pre)=some (.nxt (R (pre++[x])))):∀ {l pre:List D},pre++l=whole->dD f l (R pre)=some (.nxt (R whole))
  | [],pre,e=>by rw[List.append_nil] at e;rw[e];rfl
  | x :: l, pre, e => by
    simp only[dD,h pre x l e]
    exact mW h (l:=l) (pre:=pre++[x]) (by rw[List.append_assoc];exact e)
def CT:List D->Sl
 | []=>.no
 | x::r=>.sh (r.getLastD x)
theorem rE:∀ (l:List D) (x:D),CT (l++[x])=.sh x
  | [],x=>rfl
  | y :: l, x => by
    show Sl.sh ((l++[x]).getLastD y)=_
    simp
theorem XR{x:D}(h:dep x<1000):isExc x=false:=by cases x<;>first | rfl | exact absurd h (by simp[dep])
def nOw:Sl->Bool
 | .ow _=>false
 | .oo _=>false
 | _=>true
def fM(ρ:Rho):Bool:=ρ.all fun p=>nOw p.2
theorem fB{F:Nat}{e:Expr}{ρ:Rho}(h:fM ρ=true):frz F e ρ=ρ:=by
 unfold frz
 conv=>rhs;rw[<- List.map_id ρ]
 apply List.map_congr_left
 intro p hp
 have:=List.all_eq_true.mp h p hp
 obtain⟨x,s⟩:=p
 cases s<;>first | rfl | simp[nOw] at this
theorem nj{ρ:Rho}{x:Str}(h:fM ρ=true):j9 ρ x=true:=by
 unfold j9
 rw[List.all_eq_true]
 intro p hp
 have:=List.all_eq_true.mp h p hp
 obtain⟨y,s⟩:=p
 cases s<;>first | (simp[nOw] at this;done) | simp[zP]
section
variable {cx:Cxt} {sc:Scope} {ρ:Rho} {c e:Expr} {p:Pos} {d:D} {nm:Str} {F m:Nat} {r:List Stmt} {fl:Fl}
theorem Ww{px:Pos}(hc:fM ρ=true)(ho:(ownIn sc nm&&(ρ.map (·.1)).contains nm)=true)(h:ev cx F sc ρ e=some d)(k:blk cx F (m+1) sc r (cj ρ nm (jC e d))=some fl)(hoo:(ooE cx sc e&&rC ρ nm)=false:=by rfl)(hle:wD cx sc e=false:=by rfl)(hrd:rdA e=false:=by rfl):blk cx F (m+1) sc (.Assign [.Name nm px] e p::r) ρ=some fl:=by
 refine oJ ho (by rw[fB hc];exact h) ?_ (by rw[fB hc];exact hoo) (by rw[fB hc,nj hc];simp) hle hrd
 rw[fB hc];exact k
theorem mH(h:bx e=false):ooE cx sc e=false:=by
 cases e<;>first | rfl | exact absurd h (by simp[bx])
theorem lZ(h:bx e=false):jC e d=.sh d:=by
 unfold jC
 split
 ·rw[h];rfl
 ·rfl
theorem u6{px:Pos}{ρ':Rho}(hf:frz F e ρ=ρ')(ho:(ownIn sc nm&&(ρ.map (·.1)).contains nm)=true)(hfr:bx e=false)(h:ev cx F sc ρ' e=some d)(k:blk cx F (m+1) sc r (cj ρ' nm (.sh d))=some fl)(hle:wD cx sc e=false:=by rfl)(hrd:rdA e=false:=by rfl):blk cx F (m+1) sc (.Assign [.Name nm px] e p::r) ρ=some fl:=by
 refine oJ ho (by rw[hf];exact h) ?_ (by rw[mH hfr];rfl) (by rw[hfr];rfl) hle hrd
 rw[hf,lZ hfr];exact k
theorem qe{y:Str}{s:Sl}{ρ:Rho}:frz F e ((y,s)::ρ)=(match s with | .ow ds=>if dg F y e then(y,.sh (.lst ds)) else(y,.ow ds) | .oo dss=>if dg F y e then(y,.sh (.lst (dss.map .lst))) else(y,.oo dss) | s=>(y,s))::frz F e ρ:=by
 cases s<;>rfl
theorem qg{y:Str}{s:Sl}{ρ:Rho}(h:nOw s=true):frz F e ((y,s)::ρ)=(y,s)::frz F e ρ:=by
 cases s<;>first | rfl | simp[nOw] at h
theorem vd{y:Str}{ds:List D}{ρ:Rho}(h:dg F y e=true):frz F e ((y,.ow ds)::ρ)=(y,.sh (.lst ds))::frz F e ρ:=by
 show(if dg F y e=true then _ else _)::_=_
 rw[if_pos h]
 rfl
theorem Eh{px:Pos}(hc:fM ρ=true)(ho:(ownIn sc nm&&(ρ.map (·.1)).contains nm)=true)(hfr:bx e=false)(h:ev cx F sc ρ e=some d)(k:blk cx F (m+1) sc r (cj ρ nm (.sh d))=some fl)(hle:wD cx sc e=false:=by rfl)(hrd:rdA e=false:=by rfl):blk cx F (m+1) sc (.Assign [.Name nm px] e p::r) ρ=some fl:=Ww hc ho h (by rw[lZ hfr];exact k) (by rw[mH hfr];rfl) hle hrd
theorem Yg{A B:List Stmt}{fl1:Fl}(hc:fM ρ=true)(h:ev cx F sc ρ c=some (.bl true))(k:blk cx F m sc A ρ=some fl1)(k2:qY cx F (m+1) sc r fl1=some fl):blk cx F (m+1) sc (.If c A B p::r) ρ=some fl:=Ie (by rw[fB hc];exact h) k k2
theorem Yh{A B:List Stmt}{fl1:Fl}(hc:fM ρ=true)(h:ev cx F sc ρ c=some (.bl false))(k:blk cx F m sc B ρ=some fl1)(k2:qY cx F (m+1) sc r fl1=some fl):blk cx F (m+1) sc (.If c A B p::r) ρ=some fl:=Wt (by rw[fB hc];exact h) k k2
theorem Sy{A:List Stmt}(hc:fM ρ=true)(h:ev cx F sc ρ c=some (.bl false))(k:blk cx F (m+1) sc r ρ=some fl):blk cx F (m+1) sc (.If c A [] p::r) ρ=some fl:=Yh hc h jE k
theorem Wx(hc:fM ρ=true)(h:ev cx F sc ρ e=some d):blk cx F (m+1) sc (.Return (some e) p::r) ρ=some (.ret d):=cu (by rw[fB hc];exact h)
end
end DE
namespace DE
open PySem
theorem Xw{d:D}(h:dep d<=50):cmpop .NotEq d d=some (.bl false):=by
 rw[oNe h h,lA d (by omega)];rfl
theorem Ig{cx:Cxt}{sc:Scope}{ρ ρ':Rho}{p:Pos}{F m:Nat}{r A:List Stmt}{c:Expr}{fl:Fl}(hf:frz F c ρ=ρ')(h:ev cx F sc ρ' c=some (.bl false))(k:blk cx F (m+1) sc r ρ=some fl):blk cx F (m+1) sc (.If c A [] p::r) ρ=some fl:=wG (hf▸h) k
def ifX:Stmt->Expr
 | .If c _ _ _=>c
 | _=>.Name "" ⟨0,0,0,0⟩
theorem gF{α:Type}{f:D->Option (Option D)}{h g:α->D}:∀ {l:List α},(∀ x∈l,f (h x)=some (some (g x)))->bD f (l.map h)=some (l.map g)
  | [],_=>rfl
  | x :: l, q => by
    simp only[List.map_cons,bD,q x List.mem_cons_self,bind,Option.bind_some,gF (l:=l) fun y hy=>q y (List.mem_cons_of_mem _ hy),Option.map_some]
theorem gG{f:D->Option (Option D)}{t:D->Bool}{l:List D}(h:∀ x∈l,f x=some (if t x then some x else none)):bD f l=some (l.filter t):=by
 have:=m8 (g:=fun x=>x) h
 rwa [List.map_id'] at this
def upd(f:Nat->Nat->Int)(a b:Nat)(v:Int):Nat->Nat->Int:=fun i j=>if i=a then(if j=b then v else f i j) else f i j
theorem fz_n{F:Nat}{e:Expr}:frz F e []=[]:=rfl
theorem fz_c{F:Nat}{e:Expr}{y:Str}{s:Sl}{ρ ρ':Rho}(h:nOw s=true)(q:frz F e ρ=ρ'):frz F e ((y,s)::ρ)=(y,s)::ρ':=by rw[qg h,q]
end DE
namespace DE
open PySem
abbrev frD(u d:Int):D:=.tup [.int u,.int d]
end DE
namespace DE
open PySem
abbrev qD(q:Rat):D:=frD q.num (q.den:Int)
end DE
namespace DE
open PySem
section
variable {cx:Cxt} {sc:Scope} {ρ ρ' ρ2:Rho} {e:Expr} {p:Pos} {d:D} {nm:Str} {F m:Nat} {r:List Stmt} {fl:Fl} {ds:List D}
theorem calm_c{y:Str}{s:Sl}(h:nOw s=true)(r:fM ρ=true):fM ((y,s)::ρ)=true:=by
 unfold fM at r ⊢
 rw[List.all_cons,h,r];rfl
theorem oK{tg iter:Expr}{body:List Stmt}{l:List D}(hf:frz F iter ρ=ρ')(hI:evI cx (d7 tg) (ev cx F sc ρ') sc iter=some l)(hgo:dD (fF cx F m sc tg body) l ρ'=some (.nxt ρ2))(k2:blk cx F (m+1) sc r ρ2=some fl):blk cx F (m+1) sc (.For tg iter body [] p::r) ρ=some fl:=by
 subst hf
 exact Ih hI hgo k2
theorem yt{px:Pos}(hf:frz F e ρ=ρ')(ho:(ownIn sc nm&&(ρ.map (·.1)).contains nm)=true)(h:ev cx F sc ρ' e=some d)(k:blk cx F (m+1) sc r (cj ρ' nm (jC e d))=some fl)(hoo:(ooE cx sc e&&rC ρ' nm)=false:=by rfl)(hno:(bx e && !j9 ρ' nm)=false:=by rfl)(hle:wD cx sc e=false:=by rfl)(hrd:rdA e=false:=by rfl):blk cx F (m+1) sc (.Assign [.Name nm px] e p::r) ρ=some fl:=by
 subst hf
 exact oJ ho h k hoo hno hle hrd
theorem Dj(hf:frz F e ρ=ρ')(h:ev cx F sc ρ' e=some d):blk cx F (m+1) sc (.Return (some e) p::r) ρ=some (.ret d):=cu (by rw[hf];exact h)
theorem fz_k{y:Str}(h:dg F y e=false)(q:frz F e ρ=ρ'):frz F e ((y,.ow ds)::ρ)=(y,.ow ds)::ρ':=by
 rw[qe,q]
 simp only[h,Bool.false_eq_true,if_false]
theorem fz_o{y:Str}(h:dg F y e=true)(q:frz F e ρ=ρ'):frz F e ((y,.ow ds)::ρ)=(y,.sh (.lst ds))::ρ':=by rw[vd h,q]
end
theorem Cq{s:Sl}(h:nOw s=true):zP s=false:=by cases s<;>first | rfl | simp[nOw] at h
theorem Wo{x:Str}:j9 [] x=true:=rfl
theorem fu{x y:Str}{s:Sl}{ρ:Rho}(h:zP s=false)(q:j9 ρ x=true):j9 ((y,s)::ρ) x=true:=by
 unfold j9 at q ⊢
 rw[List.all_cons,q,h];simp
end DE
namespace M53
open PySem L2 DE
def top(i:Nat):Stmt:=PySem.Challenge.pw_minortables_k53_whole_kinds_worths.main.body.getD i (.Pass ⟨0,0,0,0⟩)
def aP(t:Stmt):Fd:=⟨(dF t).args.map (·.arg),(dF t).args.map (·.arg)++(((bf t).names.filter fun p=>(p.2==.local||p.2==.cell) && !((dF t).args.map (·.arg)).contains p.1).map (·.1)),bf t,bL t⟩
def cs:List (Str×D):=[("MOST_LINES",.int 4),("UP",.str "up"),("DOWN",.str "down"),("SCALE",.str "scale"),("TURNED_WORDS",Sx [("up","down"),("down","up"),("scale","scale")])]
def bl:List (Str×String):=[("len","len"),("all","all"),("sum","sum"),("tuple","tuple"),("list","list"),("min","min"),("max","max"),("abs","abs"),("int","int"),("bool","bool"),("isinstance","isinstance"),("range","range"),("zip","zip"),("enumerate","enumerate"),("reversed","reversed"),("set","set")]
def df:List (Str×Fd):=[(("is_whole":Str),aP (top 8)),(("is_whole_within":Str),aP (top 9)),(("is_short_tuple":Str),aP (top 10)),(("has_lines":Str),aP (top 11)),(("numbers_of":Str),aP (top 12)),(("has_table_form":Str),aP (top 13)),(("is_square":Str),aP (top 14)),(("is_place":Str),aP (top 15)),(("need_table":Str),aP (top 16)),(("need_square":Str),aP (top 17)),(("need_size":Str),aP (top 18)),(("power_row":Str),aP (top 20)),(("powers":Str),aP (top 21)),(("row_of_sums":Str),aP (top 22)),(("by_sums":Str),aP (top 23)),(("row_of_lesser":Str),aP (top 24)),(("lesser":Str),aP (top 25)),(("begun_at":Str),aP (top 26)),(("scaled":Str),aP (top 27)),(("heap_sums":Str),aP (top 28)),(("heaped":Str),aP (top 29)),(("common_measure":Str),aP (top 31)),(("lowest":Str),aP (top 32)),(("has_fraction_form":Str),aP (top 33)),(("is_fraction":Str),aP (top 34)),(("sum_of":Str),aP (top 35)),(("times_of":Str),aP (top 36)),(("less_of":Str),aP (top 37)),(("parted":Str),aP (top 38)),(("all_sum":Str),aP (top 39)),(("all_times":Str),aP (top 40)),(("need_fraction_table":Str),aP (top 41)),(("row_as_fractions":Str),aP (top 42)),(("as_fractions":Str),aP (top 43)),(("column_of":Str),aP (top 45)),(("columns_of":Str),aP (top 46)),(("turned":Str),aP (top 47)),(("picked":Str),aP (top 48)),(("part_at":Str),aP (top 49)),(("row_by_column_tables":Str),aP (top 50)),(("row_by_columns_tables":Str),aP (top 52)),(("times":Str),aP (top 54)),(("plain_row":Str),aP (top 55)),(("plain":Str),aP (top 56)),(("without":Str),aP (top 58)),(("worth_of":Str),aP (top 59)),(("rest_worth":Str),aP (top 60)),(("signed_rest":Str),aP (top 61)),(("row_with_rests":Str),aP (top 62)),(("with_behind":Str),aP (top 63)),(("rising_tuples":Str),aP (top 64)),(("greatest_size":Str),aP (top 65)),(("minors_of_rows":Str),aP (top 66)),(("minors_of_size":Str),aP (top 67)),(("minors_in":Str),aP (top 68)),(("all_minors":Str),aP (top 69)),(("whole_minor":Str),aP (top 70)),(("rank":Str),aP (top 71)),(("none_below":Str),aP (top 73)),(("is_good":Str),aP (top 74)),(("are_in_a_row":Str),aP (top 75)),(("is_solid":Str),aP (top 76)),(("is_at_first":Str),aP (top 77)),(("solid_minors":Str),aP (top 78)),(("first_minors":Str),aP (top 79)),(("is_step_of":Str),aP (top 85)),(("is_step":Str),aP (top 86)),(("need_steps":Str),aP (top 87)),(("row_by_column_steps":Str),aP (top 88)),(("row_by_columns_steps":Str),aP (top 90)),(("product_of":Str),aP (top 92)),(("table_of_step":Str),aP (top 93)),(("made_by":Str),aP (top 94)),(("turned_steps":Str),aP (top 95)),(("row_less":Str),aP (top 96)),(("down_steps":Str),aP (top 97)),(("corner_worth":Str),aP (top 98)),(("scale_steps":Str),aP (top 99)),(("can_be_taken_apart":Str),aP (top 100)),(("taken_apart":Str),aP (top 101)),(("_law_cell":Str),aP (top 103)),(("_law_pick":Str),aP (top 104)),(("law":Str),aP (top 112))]
def xs:List Str:=["NoTable","NoFit","NoStep","NoSteps"]
def T:Pg:=⟨cs,bl,df,xs,"MinorError"⟩
def BnO(nm:Str)(t:Stmt):Prop:=∀ (kV doc pm:Value) (an:Option Addr) (cdv ct:Value) (us:List Value),us.length=(aP t).ps.length->bindArgs (PySem.W.fnOf nm nm (dF t) (bL t) (bf t) .none kV doc pm an cdv ct) ⟨us,[]⟩=pure ((aP t).ps.zip us)
def fsB(fd:Fd):Bool:=decide (fd.sc.kind=.function) && !fd.sc.isCoroutine && !fd.sc.isGenerator&&decide fd.N.Nodup&&decide (fd.N.take fd.ps.length=fd.ps)&&fd.ps.all (fun x=>decide (fd.sc.names.lookup x=some .local)||decide (fd.sc.names.lookup x=some .cell))&&fd.sc.names.all fun y=>decide (y.2≠.free)
theorem Ij{fd:Fd}(h:fsB fd=true):FnScope fd.N fd.ps fd.sc:=by
 unfold fsB at h
 simp only[Bool.and_eq_true,decide_eq_true_eq,Bool.not_eq_true',List.all_eq_true,Bool.or_eq_true] at h
 obtain⟨⟨⟨⟨⟨⟨h1,h2⟩,h3⟩,h4⟩,h5⟩,h6⟩,h7⟩:=h
 exact⟨h1,h2,h3,h4,h5,h6,h7⟩
theorem aq{K:PySem.W.Frag}{h:Heap}{mg:Str->Option Value}{x nm:Str}{t:Stmt}(X:K.In h)(G:h.Ns mainGlobals mg)(f:Addr)(dc pm cd:Value)(hb:BnO nm t)(a:PySem.W.nsIn K mainGlobals x=some (some (.ref f)))
  (l:K.lookup f=some ⟨.type "function",none,.func (PySem.W.fnOf nm nm (dF t) (bL t) (bf t) .none .none dc pm none cd .none),#[]⟩) (c:(PySem.W.codeIn K cd nm&&PySem.W.keepIn K (.ref f)&&fsB (aP t) && !(x==("__debug__":Str)))=true):FunAt K mg x (aP t):=by
 simp only[Bool.and_eq_true,Bool.not_eq_true'] at c
 obtain⟨⟨⟨c,k⟩,hs⟩,hd⟩:=c
 exact⟨⟨nm,t,f,_,PySem.W.mg_of X G a,u9 l c k,(u9 l c k).binds hb,rfl,rfl⟩,Ij hs,hd⟩
theorem len1{us:List Value}(h:us.length=1):∃ a,us=[a]:=List.length_eq_one_iff.mp h
theorem len2{us:List Value}(h:us.length=2):∃ a b,us=[a,b]:=by cases us with | nil=>cases h | cons a r=>obtain⟨b,e⟩:=len1 (us:=r) (Nat.succ.inj h);exact⟨a,b,congrArg (List.cons a) e⟩
theorem uK{us:List Value}(h:us.length=3):∃ a b c,us=[a,b,c]:=by cases us with | nil=>cases h | cons a r=>obtain⟨b,c,e⟩:=len2 (us:=r) (Nat.succ.inj h);exact⟨a,b,c,congrArg (List.cons a) e⟩
theorem Wr{us:List Value}(h:us.length=4):∃ a b c d,us=[a,b,c,d]:=by cases us with | nil=>cases h | cons a r=>obtain⟨b,c,d,e⟩:=uK (us:=r) (Nat.succ.inj h);exact⟨a,b,c,d,congrArg (List.cons a) e⟩
theorem b8:BnO "is_whole" (top 8):=fun _ _ _ _ _ _ _ h=>by obtain⟨_,rfl⟩:=len1 h;rfl
theorem b9:BnO "is_whole_within" (top 9):=fun _ _ _ _ _ _ _ h=>by obtain⟨_,_,_,rfl⟩:=uK h;rfl
theorem b10:BnO "is_short_tuple" (top 10):=fun _ _ _ _ _ _ _ h=>by obtain⟨_,rfl⟩:=len1 h;rfl
theorem b11:BnO "has_lines" (top 11):=fun _ _ _ _ _ _ _ h=>by obtain⟨_,rfl⟩:=len1 h;rfl
theorem b12:BnO "numbers_of" (top 12):=fun _ _ _ _ _ _ _ h=>by obtain⟨_,rfl⟩:=len1 h;rfl
theorem b13:BnO "has_table_form" (top 13):=fun _ _ _ _ _ _ _ h=>by obtain⟨_,rfl⟩:=len1 h;rfl
theorem b14:BnO "is_square" (top 14):=fun _ _ _ _ _ _ _ h=>by obtain⟨_,rfl⟩:=len1 h;rfl
theorem b15:BnO "is_place" (top 15):=fun _ _ _ _ _ _ _ h=>by obtain⟨_,_,rfl⟩:=len2 h;rfl
theorem b16:BnO "need_table" (top 16):=fun _ _ _ _ _ _ _ h=>by obtain⟨_,rfl⟩:=len1 h;rfl
theorem b17:BnO "need_square" (top 17):=fun _ _ _ _ _ _ _ h=>by obtain⟨_,rfl⟩:=len1 h;rfl
theorem b18:BnO "need_size" (top 18):=fun _ _ _ _ _ _ _ h=>by obtain⟨_,_,rfl⟩:=len2 h;rfl
theorem b20:BnO "power_row" (top 20):=fun _ _ _ _ _ _ _ h=>by obtain⟨_,_,rfl⟩:=len2 h;rfl
theorem b21:BnO "powers" (top 21):=fun _ _ _ _ _ _ _ h=>by obtain⟨_,rfl⟩:=len1 h;rfl
theorem b22:BnO "row_of_sums" (top 22):=fun _ _ _ _ _ _ _ h=>by obtain⟨_,rfl⟩:=len1 h;rfl
theorem b23:BnO "by_sums" (top 23):=fun _ _ _ _ _ _ _ h=>by obtain⟨_,rfl⟩:=len1 h;rfl
theorem b24:BnO "row_of_lesser" (top 24):=fun _ _ _ _ _ _ _ h=>by obtain⟨_,_,rfl⟩:=len2 h;rfl
theorem b25:BnO "lesser" (top 25):=fun _ _ _ _ _ _ _ h=>by obtain⟨_,rfl⟩:=len1 h;rfl
theorem b26:BnO "begun_at" (top 26):=fun _ _ _ _ _ _ _ h=>by obtain⟨_,_,_,rfl⟩:=uK h;rfl
theorem b27:BnO "scaled" (top 27):=fun _ _ _ _ _ _ _ h=>by obtain⟨_,rfl⟩:=len1 h;rfl
theorem b28:BnO "heap_sums" (top 28):=fun _ _ _ _ _ _ _ h=>by obtain⟨_,_,_,rfl⟩:=uK h;rfl
theorem b29:BnO "heaped" (top 29):=fun _ _ _ _ _ _ _ h=>by obtain⟨_,_,_,rfl⟩:=uK h;rfl
theorem b31:BnO "common_measure" (top 31):=fun _ _ _ _ _ _ _ h=>by obtain⟨_,_,rfl⟩:=len2 h;rfl
theorem b32:BnO "lowest" (top 32):=fun _ _ _ _ _ _ _ h=>by obtain⟨_,_,rfl⟩:=len2 h;rfl
theorem b33:BnO "has_fraction_form" (top 33):=fun _ _ _ _ _ _ _ h=>by obtain⟨_,rfl⟩:=len1 h;rfl
theorem b34:BnO "is_fraction" (top 34):=fun _ _ _ _ _ _ _ h=>by obtain⟨_,rfl⟩:=len1 h;rfl
theorem b35:BnO "sum_of" (top 35):=fun _ _ _ _ _ _ _ h=>by obtain⟨_,_,rfl⟩:=len2 h;rfl
theorem b36:BnO "times_of" (top 36):=fun _ _ _ _ _ _ _ h=>by obtain⟨_,_,rfl⟩:=len2 h;rfl
theorem b37:BnO "less_of" (top 37):=fun _ _ _ _ _ _ _ h=>by obtain⟨_,_,rfl⟩:=len2 h;rfl
theorem b38:BnO "parted" (top 38):=fun _ _ _ _ _ _ _ h=>by obtain⟨_,_,rfl⟩:=len2 h;rfl
theorem b39:BnO "all_sum" (top 39):=fun _ _ _ _ _ _ _ h=>by obtain⟨_,rfl⟩:=len1 h;rfl
theorem b40:BnO "all_times" (top 40):=fun _ _ _ _ _ _ _ h=>by obtain⟨_,rfl⟩:=len1 h;rfl
theorem b41:BnO "need_fraction_table" (top 41):=fun _ _ _ _ _ _ _ h=>by obtain⟨_,rfl⟩:=len1 h;rfl
theorem b42:BnO "row_as_fractions" (top 42):=fun _ _ _ _ _ _ _ h=>by obtain⟨_,rfl⟩:=len1 h;rfl
theorem b43:BnO "as_fractions" (top 43):=fun _ _ _ _ _ _ _ h=>by obtain⟨_,rfl⟩:=len1 h;rfl
theorem b45:BnO "column_of" (top 45):=fun _ _ _ _ _ _ _ h=>by obtain⟨_,_,rfl⟩:=len2 h;rfl
theorem b46:BnO "columns_of" (top 46):=fun _ _ _ _ _ _ _ h=>by obtain⟨_,rfl⟩:=len1 h;rfl
theorem b47:BnO "turned" (top 47):=fun _ _ _ _ _ _ _ h=>by obtain⟨_,rfl⟩:=len1 h;rfl
theorem b48:BnO "picked" (top 48):=fun _ _ _ _ _ _ _ h=>by obtain⟨_,_,rfl⟩:=len2 h;rfl
theorem b49:BnO "part_at" (top 49):=fun _ _ _ _ _ _ _ h=>by obtain⟨_,_,_,rfl⟩:=uK h;rfl
theorem b50:BnO "row_by_column" (top 50):=fun _ _ _ _ _ _ _ h=>by obtain⟨_,_,rfl⟩:=len2 h;rfl
theorem b52:BnO "row_by_columns" (top 52):=fun _ _ _ _ _ _ _ h=>by obtain⟨_,_,rfl⟩:=len2 h;rfl
theorem b54:BnO "times" (top 54):=fun _ _ _ _ _ _ _ h=>by obtain⟨_,_,rfl⟩:=len2 h;rfl
theorem b55:BnO "plain_row" (top 55):=fun _ _ _ _ _ _ _ h=>by obtain⟨_,_,rfl⟩:=len2 h;rfl
theorem b56:BnO "plain" (top 56):=fun _ _ _ _ _ _ _ h=>by obtain⟨_,rfl⟩:=len1 h;rfl
theorem b58:BnO "without" (top 58):=fun _ _ _ _ _ _ _ h=>by obtain⟨_,_,_,rfl⟩:=uK h;rfl
theorem b59:BnO "worth_of" (top 59):=fun _ _ _ _ _ _ _ h=>by obtain⟨_,rfl⟩:=len1 h;rfl
theorem b60:BnO "rest_worth" (top 60):=fun _ _ _ _ _ _ _ h=>by obtain⟨_,_,_,rfl⟩:=uK h;rfl
theorem b61:BnO "signed_rest" (top 61):=fun _ _ _ _ _ _ _ h=>by obtain⟨_,_,_,rfl⟩:=uK h;rfl
theorem b62:BnO "row_with_rests" (top 62):=fun _ _ _ _ _ _ _ h=>by obtain⟨_,_,rfl⟩:=len2 h;rfl
theorem b63:BnO "with_behind" (top 63):=fun _ _ _ _ _ _ _ h=>by obtain⟨_,_,rfl⟩:=len2 h;rfl
theorem b64:BnO "rising_tuples" (top 64):=fun _ _ _ _ _ _ _ h=>by obtain⟨_,_,rfl⟩:=len2 h;rfl
theorem b65:BnO "greatest_size" (top 65):=fun _ _ _ _ _ _ _ h=>by obtain⟨_,rfl⟩:=len1 h;rfl
theorem b66:BnO "minors_of_rows" (top 66):=fun _ _ _ _ _ _ _ h=>by obtain⟨_,_,rfl⟩:=len2 h;rfl
theorem b67:BnO "minors_of_size" (top 67):=fun _ _ _ _ _ _ _ h=>by obtain⟨_,_,rfl⟩:=len2 h;rfl
theorem b68:BnO "minors_in" (top 68):=fun _ _ _ _ _ _ _ h=>by obtain⟨_,rfl⟩:=len1 h;rfl
theorem b69:BnO "all_minors" (top 69):=fun _ _ _ _ _ _ _ h=>by obtain⟨_,rfl⟩:=len1 h;rfl
theorem b70:BnO "whole_minor" (top 70):=fun _ _ _ _ _ _ _ h=>by obtain⟨_,rfl⟩:=len1 h;rfl
theorem b71:BnO "rank" (top 71):=fun _ _ _ _ _ _ _ h=>by obtain⟨_,rfl⟩:=len1 h;rfl
theorem b73:BnO "none_below" (top 73):=fun _ _ _ _ _ _ _ h=>by obtain⟨_,rfl⟩:=len1 h;rfl
theorem b74:BnO "is_good" (top 74):=fun _ _ _ _ _ _ _ h=>by obtain⟨_,rfl⟩:=len1 h;rfl
theorem b75:BnO "are_in_a_row" (top 75):=fun _ _ _ _ _ _ _ h=>by obtain⟨_,rfl⟩:=len1 h;rfl
theorem b76:BnO "is_solid" (top 76):=fun _ _ _ _ _ _ _ h=>by obtain⟨_,rfl⟩:=len1 h;rfl
theorem b77:BnO "is_at_first" (top 77):=fun _ _ _ _ _ _ _ h=>by obtain⟨_,rfl⟩:=len1 h;rfl
theorem b78:BnO "solid_minors" (top 78):=fun _ _ _ _ _ _ _ h=>by obtain⟨_,rfl⟩:=len1 h;rfl
theorem b79:BnO "first_minors" (top 79):=fun _ _ _ _ _ _ _ h=>by obtain⟨_,rfl⟩:=len1 h;rfl
theorem b85:BnO "is_step_of" (top 85):=fun _ _ _ _ _ _ _ h=>by obtain⟨_,_,_,_,rfl⟩:=Wr h;rfl
theorem b86:BnO "is_step" (top 86):=fun _ _ _ _ _ _ _ h=>by obtain⟨_,_,rfl⟩:=len2 h;rfl
theorem b87:BnO "need_steps" (top 87):=fun _ _ _ _ _ _ _ h=>by obtain⟨_,_,rfl⟩:=len2 h;rfl
theorem b88:BnO "row_by_column" (top 88):=fun _ _ _ _ _ _ _ h=>by obtain⟨_,_,rfl⟩:=len2 h;rfl
theorem b90:BnO "row_by_columns" (top 90):=fun _ _ _ _ _ _ _ h=>by obtain⟨_,_,rfl⟩:=len2 h;rfl
theorem b92:BnO "product_of" (top 92):=fun _ _ _ _ _ _ _ h=>by obtain⟨_,_,rfl⟩:=len2 h;rfl
theorem b93:BnO "table_of_step" (top 93):=fun _ _ _ _ _ _ _ h=>by obtain⟨_,_,_,_,rfl⟩:=Wr h;rfl
theorem b94:BnO "made_by" (top 94):=fun _ _ _ _ _ _ _ h=>by obtain⟨_,_,rfl⟩:=len2 h;rfl
theorem b95:BnO "turned_steps" (top 95):=fun _ _ _ _ _ _ _ h=>by obtain⟨_,rfl⟩:=len1 h;rfl
theorem b96:BnO "row_less" (top 96):=fun _ _ _ _ _ _ _ h=>by obtain⟨_,_,_,rfl⟩:=uK h;rfl
theorem b97:BnO "down_steps" (top 97):=fun _ _ _ _ _ _ _ h=>by obtain⟨_,rfl⟩:=len1 h;rfl
theorem b98:BnO "corner_worth" (top 98):=fun _ _ _ _ _ _ _ h=>by obtain⟨_,_,rfl⟩:=len2 h;rfl
theorem b99:BnO "scale_steps" (top 99):=fun _ _ _ _ _ _ _ h=>by obtain⟨_,rfl⟩:=len1 h;rfl
theorem Yn:BnO "can_be_taken_apart" (top 100):=fun _ _ _ _ _ _ _ h=>by obtain⟨_,rfl⟩:=len1 h;rfl
theorem Ym:BnO "taken_apart" (top 101):=fun _ _ _ _ _ _ _ h=>by obtain⟨_,rfl⟩:=len1 h;rfl
theorem Yl:BnO "_law_cell" (top 103):=fun _ _ _ _ _ _ _ h=>by obtain⟨_,_,rfl⟩:=len2 h;rfl
theorem Yk:BnO "_law_pick" (top 104):=fun _ _ _ _ _ _ _ h=>by obtain⟨_,_,_,rfl⟩:=uK h;rfl
theorem WD:BnO "law" (top 112):=fun _ _ _ _ _ _ _ h=>by obtain⟨_,rfl⟩:=len1 h;rfl
theorem in_of{α:Type}{Q:Str->α->Prop}:∀ {l:List (Str×α)},(∀ p∈l,Q p.1 p.2)->∀ f fd,l.lookup f=some fd->Q f fd
  | (y, e) :: r, hp, f, fd, h => by
    rw[List.lookup_cons] at h
    cases hb:f==y with
    | true =>
      rw[hb] at h
      have e1:f=y:=by simpa using hb
      cases h
      subst e1
      exact hp _ List.mem_cons_self
    | false =>
      rw[hb] at h
      exact in_of (fun p hm=>hp p (List.mem_cons_of_mem _ hm)) f fd h
theorem aC{α:Type}{Q:α->Prop}{a:α}{l:List α}(h:Q a)(t:∀ p∈l,Q p):∀ p∈a::l,Q p:=List.forall_mem_cons.mpr ⟨h,t⟩
theorem aN{α:Type}{Q:α->Prop}:∀ p∈([]:List α),Q p:=List.forall_mem_nil _
theorem cA{K:PySem.W.Frag}{h:Heap}{mg:Str->Option Value}{x:Str}{i:Int}(X:K.In h)(G:h.Ns mainGlobals mg)(tk:Tok)(e:PySem.W.nsIn K mainGlobals x=some (some (.int i tk))):∃ v u,(∀ H,Rep K H (D.int i) v)/\mg x=some u/\RelV v u:=⟨.int i,_,fun _=>by simp[Rep],PySem.W.mg_of X G e,⟨_,rfl⟩⟩
theorem cS{K:PySem.W.Frag}{h:Heap}{mg:Str->Option Value}{x y:Str}(X:K.In h)(G:h.Ns mainGlobals mg)(tk:Tok)(e:PySem.W.nsIn K mainGlobals x=some (some (.str y tk))):∃ v u,(∀ H,Rep K H (D.str y) v)/\mg x=some u/\RelV v u:=⟨.str y,_,fun _=>by simp[Rep],PySem.W.mg_of X G e,⟨_,rfl⟩⟩
theorem bA{K:PySem.W.Frag}{h:Heap}{mg:Str->Option Value}{x:Str}{b:String}(X:K.In h)(G:h.Ns mainGlobals mg)(e:PySem.W.nsIn K mainGlobals x=some none)(q:x=Str.ofString b):mg x=none/\x=Str.ofString b:=⟨PySem.W.mg_none_of X G e,q⟩
theorem RT:T.defs.lookup ("law":Str)=some (aP (top 112)):=by kernel_rfl
theorem fin{l:PySem.W.OpenLaw}{w:World}{K:PySem.W.Frag}{h:Heap}{mg:Str->Option Value}{fa:Addr}(hlaw:∀ ns:List Int,ns.length<=63->aG T 60 40 "law" [.lst (ns.map D.int)]=some (.bl true))(TX:Text w K mg T)(X:K.In h)(G:h.Ns mainGlobals mg)(hfa:mg "law"=some (.ref fa))(f:Addr)(dc pm cd:Value)(a:PySem.W.nsIn K mainGlobals "law"=some (some (.ref f)))
  (lk:K.lookup f=some ⟨.type "function",none,.func (PySem.W.fnOf "law" "law" (dF (top 112)) (bL (top 112)) (bf (top 112)) .none .none dc pm none cd .none),#[]⟩) (c:PySem.W.codeIn K cd "law"=true) (kp:PySem.W.keepIn K (.ref f)=true) :
  ∃ fd:FuncData,(∀ (s:Shared) (v:Value),BindsTo s fd ⟨[v],[]⟩ [("_law_script",v)])/\∀ base:Heap,K.In base->base.Ns mainGlobals mg->FnOk l.prog w K mg base CX0 40 fa fd ["_law_script"] (pB K):=by
 have e:=hfa.symm.trans (PySem.W.mg_of X G a)
 cases e
 refine⟨_,fun s v=>.of_eq (WD .none dc pm none cd .none [v] rfl),fun base _ _=>?_⟩
 exact Hy (fd:=aP (top 112)) (t:=top 112) (f:="law") TX RT (u9 lk c kp) rfl rfl (Ij (by decide +kernel)) rfl hlaw
theorem walk{l:PySem.W.OpenLaw}{q:Program}{loose:List Str}{XP:(Str->Option Value)->Heap->Prop}{YP:World->Heap->Prop}{d:DefRec}{K:Params->PySem.W.Frag}(hn:l.most=some 63)(hdf:d.params.defaults=[])
    (hY:∀ (w:World) (h:Heap),YP w h->(K w.params).In h)
    (F:∀ (w:World) (mg:Str->Option Value) (fa:Addr) (h:Heap),(K w.params).In h->h.Ns mainGlobals mg->mg d.name=some (.ref fa) ->
      ∃ fd:FuncData,(∀ (s:Shared) (u:Value),BindsTo s fd ⟨[u],[]⟩ [("_law_script",u)])/\∀ base:Heap,(K w.params).In base->base.Ns mainGlobals mg->FnOk l.prog w (K w.params) mg base CX0 40 fa fd ["_law_script"] (pB (K w.params))) :
    PySem.W.WalkO q loose XP YP l.row.toRowW d [] (fun f vs=>PySem.call f vs) :=
  L2.Ag (n:=63) (k:=40) (x:="_law_script") (CX:=fun _=>CX0) (sp:=fun w=>pB (K w.params)) hn (by decide) hdf ⟨rfl,by decide,by decide⟩ hY F (fun _ _ a ns hl _ hS=>⟨a,ns,rfl,hS,hl,fun _=>rfl⟩) fun _ _ _ _ _ z=>z
end M53
local macro_rules | `(tactic| walk_at "xs") => `(tactic| first | exact DE.Yi | exact DE.bLenL | exact DE.SM | rfl | assumption | omega)
local macro_rules | `(tactic| walk_at "xm") => `(tactic| first | exact DE.bh | (refine' DE.ao ?hA ?hB; (case hA => walk_at "xv"); (case hB => walk_at "xm")))
local macro_rules | `(tactic| walk_at "xi") => `(tactic| first
  | (refine' DE.W4 ?hA ?hB; (case hA => rfl); (case hB => walk_at "xv"))
  | (refine' DE.wSq ?hA ?hB ?hC; (case hA => rfl); (case hB => walk_at "xv"); (case hC => rfl))
  | (refine' DE.yV ?hA ?hB ?hC; (case hA => rfl); (case hB => walk_at "xv"); (case hC => omega))
  | (refine' DE.wR2 ?hA ?hB ?hC ?hD; (case hA => rfl); (case hB => walk_at "xv"); (case hC => walk_at "xv"); (case hD => walk_at "xs"))
  | (refine' DE.W3 ?hA ?hB ?hC; (case hA => rfl); (case hB => walk_at "xv"); (case hC => walk_at "xv"))
  | (refine' DE.wRvLL ?hA ?hB; (case hA => rfl); (case hB => walk_at "xv"))
  | (refine' DE.W5 ?hA ?hB; (case hA => rfl); (case hB => walk_at "xv")))
local macro_rules | `(tactic| walk_at "xl") => `(tactic| (refine' DE.cH ?hA ?hB ?hC (DE.bC ?hD); (case hA => rfl); (case hB => walk_at "xi"); (case hC => (exact DE.gK (by omega))); (case hD => (intro i hi; refine' DE.dh ?hE ?hF; (case hE => rfl); (case hF => walk_at "xv")))))
local macro_rules | `(tactic| walk_at "xv") => `(tactic| first
  | exact DE.xName rfl
  | exact DE.aW rfl
  | (refine' DE.cg ?hA ?hB ?hC; (case hA => walk_at "xv"); (case hB => walk_at "xv"); (case hC => walk_at "xs"))
  | (refine' DE.fP ?hA ?hB ?hC; (case hA => walk_at "xv"); (case hB => walk_at "xv"); (case hC => walk_at "xs"))
  | (refine' DE.WX ?hA ?hB ?hC ?hD ?hE; (case hA => walk_at "xv"); (case hB => walk_at "xv"); (case hC => omega); (case hD => rfl); (case hE => rfl))
  | (refine' DE.JF ?hA ?hB ?hC ?hD ?hE; (case hA => walk_at "xv"); (case hB => walk_at "xv"); (case hC => omega); (case hD => rfl); (case hE => rfl))
  | (refine' DE.qM ?hA ?hB ?hC ?hD ?hE; (case hA => walk_at "xv"); (case hB => walk_at "xv"); (case hC => omega); (case hD => rfl); (case hE => rfl))
  | (refine' DE.JG ?hA ?hB ?hC ?hD ?hE ?hF ?hG; (case hA => rfl); (case hB => rfl); (case hC => rfl); (case hD => walk_at "xv"); (case hE => rfl); (case hF => rfl); (case hG => rfl))
  | (refine' DE.dG ?hA ?hB ?hC ?hD ?hE; (case hA => rfl); (case hB => rfl); (case hC => rfl); (case hD => walk_at "xm"); (case hE => walk_at "xs"))
  | (refine' DE.aB ?hA ?hB ?hC; (case hA => rfl); (case hB => walk_at "xm"); (case hC => walk_at "xc"))
  | (refine' DE.xLr1n ?hA ?hB ?hC ?hD; (case hA => rfl); (case hB => rfl); (case hC => walk_at "xv"); (case hD => omega))
  | (refine' DE.Jj ?hA ?hB; (case hA => walk_at "xm"); (case hB => rfl))
  | (refine' DE.Fy ?hA ?hB; (case hA => walk_at "xm"); (case hB => rfl))
  | walk_at "xl"
  | (refine' DE.Fx ?hA; (case hA => walk_at "xv"))
  | (refine' DE.JC ?hA; (case hA => walk_at "xv")))
namespace M53
open PySem DE
theorem Ed{P:Pg}{F:Nat}{f:Str}{ds:List D}:aG P F 0 f ds=none:=by rw[gH,lK];rfl
def whole:D->Bool
 | .int _=>true
 | _=>false
theorem is_whole(k:Nat){d:D}(h:dep d<1000):aG T 60 (k+1) "is_whole" [d]=some (.bl (whole d)):=by
 cases d with
 | exc c=>exact absurd h (by simp[dep])
 | dic _ _=>exact absurd h (by simp[dep])
 | _=>kernel_rfl
def within(l m:Int):D->Bool
 | .int i=>decide (l<=i)&&decide (i<=m)
 | _=>false
theorem uV(k:Nat){d:D}{l m:Int}(h:dep d<1000):aG T 60 (k+2) "is_whole_within" [d,.int l,.int m]=some (.bl (within l m d)):=by
  cases hw:whole d with
  | false =>
    have e:within l m d=false:=by cases d<;>first | rfl | simp[whole] at hw
    rw[e]
    refine cC (fd:=aP (top 9)) rfl rfl (cu (fD (wK ?_)))
    refine' aB ?L53a_1a ?L53a_1b ?L53a_1c;(case L53a_1a=>rfl);(case L53a_1b=>walk_at "xm");(case L53a_1c=>exact hw▸is_whole k h)
  | true =>
    cases d<;>simp[whole] at hw
    rename_i i
    refine cC (fd:=aP (top 9)) rfl rfl (cu (fD (sI ?_ (sH ?_))))
    · refine' aB ?L53a_2a ?L53a_2b ?L53a_2c;(case L53a_2a=>rfl);(case L53a_2b=>walk_at "xm");(case L53a_2c=>exact is_whole k (by simp[dep]))
    · by_cases h1:l<=i
      · have e:within l m (.int i)=decide (i<=m):=by simp[within,h1]
        rw[e]
        exact Fz (by walk_at "xv") (by walk_at "xv") (oLe h1) (by walk_at "xv") Tq
      · have e:within l m (.int i)=false:=by simp[within,h1]
        rw[e]
        exact FJ (by walk_at "xv") (by walk_at "xv") (Tp h1)
def bB:D->Bool
 | .tup us=>decide (1<=us.length)&&decide (us.length<=4)
 | _=>false
theorem yS{us:List D}:blt "len" [.tup us]=some (.int (us.length:Int)):=rfl
theorem gA(k:Nat){d:D}(h:dep d<1000):aG T 60 (k+1) "is_short_tuple" [d]=some (.bl (bB d)):=by
  cases ht:zN "tuple" d with
  | false =>
    have e:bB d=false:=by cases d<;>first | rfl | simp[zN] at ht
    rw[e]
    exact cC (fd:=aP (top 10)) rfl rfl (cu (fD (wK (JG rfl rfl rfl (by walk_at "xv") ht rfl (XR h)))))
  | true =>
    cases d<;>simp[zN] at ht
    rename_i us
    refine cC (fd:=aP (top 10)) rfl rfl (cu (fD (sI (JG rfl rfl rfl (by walk_at "xv") rfl) (sH ?_))))
    by_cases h1:1<=us.length
    · have e:bB (.tup us)=decide ((us.length:Int)<=4):=by
        simp only[bB,h1,decide_true,Bool.true_and]
        exact decide_eq_decide.mpr (by omega)
      rw[e]
      refine Fz (by walk_at "xv") (y:=.int (us.length:Int)) ?_ (oLe (by omega)) (by walk_at "xv") Tq
      refine' dG ?L53a_3a ?L53a_3b ?L53a_3c ?L53a_3d ?L53a_3e;(case L53a_3a=>rfl);(case L53a_3b=>rfl);(case L53a_3c=>rfl);(case L53a_3d=>walk_at "xm");(case L53a_3e=>exact yS)
    · have e:bB (.tup us)=false:=by simp only[bB];rw[decide_eq_false h1];rfl
      rw[e]
      refine FJ (by walk_at "xv") (y:=.int (us.length:Int)) ?_ (Tp (by omega))
      refine' dG ?L53a_4a ?L53a_4b ?L53a_4c ?L53a_4d ?L53a_4e;(case L53a_4a=>rfl);(case L53a_4b=>rfl);(case L53a_4c=>rfl);(case L53a_4d=>walk_at "xm");(case L53a_4e=>exact yS)
theorem at0{z:D}{zs:List D}:atD (z::zs) 0=some z:=wg (j:=0) rfl
def Hx:D->Nat
 | .tup us=>us.length
 | _=>0
def lens(us:List D):Bool:=us.all fun r=>Hx r==Hx (us.headD .non)
def dj:D->Bool
 | .tup us=>bB (.tup us)&&us.all bB&&lens us
 | _=>false
theorem dJ{d:D}(h:bB d=true):∃ us,d=.tup us/\1<=us.length/\us.length<=4:=by
 cases d<;>simp[bB] at h
 rename_i us
 exact⟨us,rfl,by omega,by omega⟩
theorem oN{us:List D}(h:dep (.tup us)<1000):∀ x∈us,dep x<1000:=fun x hx=>by
 have:=vK hx
 simp only[dep] at h
 omega
theorem has_lines(k:Nat){d:D}(h:dep d<1000):aG T 60 (k+2) "has_lines" [d]=some (.bl (dj d)):=by
  cases hs:bB d with
  | false =>
    have e:dj d=false:=by cases d<;>first | rfl | (simp only[dj,hs];rfl)
    rw[e]
    refine cC (fd:=aP (top 11)) rfl rfl (Ie (fl1:=.ret (.bl false)) (fD (Tg (Fw ?_))) (cu (by walk_at "xv")) rfl)
    refine' aB ?L53a_5a ?L53a_5b ?L53a_5c;(case L53a_5a=>rfl);(case L53a_5b=>walk_at "xm");(case L53a_5c=>exact hs▸gA k h)
  | true =>
    obtain⟨us,rfl,g1,g4⟩:=dJ hs
    have hd:=oN h
    cases ha:us.all bB with
    | false =>
      have e:dj (.tup us)=false:=by simp only[dj,ha,Bool.and_false,Bool.false_and]
      rw[e]
      refine cC (fd:=aP (top 11)) rfl rfl (Ie (fl1:=.ret (.bl false)) (fD (Eu (nP ?_) (sH (Fw ?_)))) (cu (by walk_at "xv")) rfl)
      · refine' aB ?L53a_6a ?L53a_6b ?L53a_6c;(case L53a_6a=>rfl);(case L53a_6b=>walk_at "xm");(case L53a_6c=>exact hs▸gA k h)
      · refine dG rfl rfl rfl (ao (cH (l:=us) rfl (wSq rfl (by walk_at "xv") rfl) (gJ (by omega)) (cV (g:=fun x=>.bl (bB x)) fun x hx=>dh rfl ?_)) bh) (by rw[v7,ha])
        refine' aB ?L53a_7a ?L53a_7b ?L53a_7c;(case L53a_7a=>rfl);(case L53a_7b=>walk_at "xm");(case L53a_7c=>exact gA k (hd x hx))
    | true =>
      have e:dj (.tup us)=lens us:=by simp only[dj,ha,hs,Bool.true_and]
      rw[e]
      refine cC (fd:=aP (top 11)) rfl rfl (wG (fD (Eu (nP ?_) (sH (nP ?_)))) (cu ?_))
      · refine' aB ?L53a_8a ?L53a_8b ?L53a_8c;(case L53a_8a=>rfl);(case L53a_8b=>walk_at "xm");(case L53a_8c=>exact hs▸gA k h)
      · refine dG rfl rfl rfl (ao (cH (l:=us) rfl (wSq rfl (by walk_at "xv") rfl) (gJ (by omega)) (cV (g:=fun x=>.bl (bB x)) fun x hx=>dh rfl ?_)) bh) (by rw[v7,ha])
        refine' aB ?L53a_9a ?L53a_9b ?L53a_9c;(case L53a_9a=>rfl);(case L53a_9b=>walk_at "xm");(case L53a_9c=>exact gA k (hd x hx))
      · refine dG rfl rfl rfl (ao (cH (l:=us) rfl (wSq rfl (by walk_at "xv") rfl) (gJ (by omega)) (cV (g:=fun x=>.bl (Hx x==Hx (us.headD .non))) fun x hx=>dh rfl ?_)) bh) v7
        obtain⟨ys,rfl,y1,y4⟩:=dJ (List.all_eq_true.mp ha x hx)
        cases us with
        | nil=>simp at g1
        | cons z zs =>
          obtain⟨ws,rfl,w1,w4⟩:=dJ (List.all_eq_true.mp ha z (by simp))
          refine fP (x:=.int (ys.length:Int)) (y:=.int (ws.length:Int)) ?_ ?_ ?_
          · refine' dG ?L53a_10a ?L53a_10b ?L53a_10c ?L53a_10d ?L53a_10e;(case L53a_10a=>rfl);(case L53a_10b=>rfl);(case L53a_10c=>rfl);(case L53a_10d=>walk_at "xm");(case L53a_10e=>exact yS)
          · refine dG rfl rfl rfl (ao ?_ bh) yS
            exact xIx (by walk_at "xv") (by walk_at "xv") rfl at0
          · show some (D.bl ((ys.length:Int)==(ws.length:Int)))=_
            congr 2
            show _=(ys.length==ws.length)
            rw[Bool.eq_iff_iff]
            simp only[beq_iff_eq]
            omega
def gw:D->List D
 | .tup us=>us
 | _=>[]
def nums:List D->List D
 | []=>[]
 | r::rs=>gw r++nums rs
theorem mJ:∀ (a:List D) (r:D),nums (a++[r])=nums a++gw r
 | [],r=>by simp[nums]
 | x::a,r=>by simp[nums,mJ a r]
theorem iH:∀ {us:List D},us.all bB=true->(nums us).length<=4*us.length
  | [],_=>by simp[nums]
  | r :: us, h => by
    rw[List.all_cons,Bool.and_eq_true] at h
    obtain⟨ys,rfl,y1,y4⟩:=dJ h.1
    have:=iH h.2
    simp only[nums,gw,List.length_append,List.length_cons]
    omega
theorem numbers_of(k:Nat){us:List D}(h4:us.length<=4)(ha:us.all bB=true):aG T 60 (k+1) "numbers_of" [.tup us]=some (.lst (nums us)):=by
 have hl:=iH ha
 have key:∀ (s:Sl),(s=.no\/∃ d,s=.sh d)->blk (cxN T 60 k) 60 60 (aP (top 12)).sc ((aP (top 12)).body.drop 2) [("table",.sh (.tup us)),("told",.ow (nums us)),("row",s)]=some (.ret (.lst (nums us))):=by
  intro s hs
  rcases hs with rfl | ⟨d,rfl⟩
  ·exact cu (by walk_at "xv")
  ·exact cu (by walk_at "xv")
 refine cC (fd:=aP (top 12)) rfl rfl (oJ rfl (d:=.lst []) (by walk_at "xv") (Ih (l:=us) (fl1:=.nxt [("table",.sh (.tup us)),("told",.ow (nums us)),("row",CT us)]) (wSq rfl (by walk_at "xv") rfl) ?_ (key _ ?_)))
 ·refine mW (R:=fun pre=>[("table",.sh (.tup us)),("told",.ow (nums pre)),("row",CT pre)]) (whole:=us) (fun pre x post e=>?_) (pre:=[]) rfl
  have hx:bB x=true:=List.all_eq_true.mp ha x (by rw[<- e];simp)
  have hp:pre.all bB=true:=by rw[<- e,List.all_append,Bool.and_eq_true] at ha;exact ha.1
  have hl2:=iH hp
  have hl3:pre.length<=us.length:=by rw[<- e];simp
  obtain⟨ys,rfl,y1,y4⟩:=dJ hx
  rw[mJ,rE,show gw (.tup ys)=ys from rfl]
  exact lq rfl (Sg rfl rfl rfl rfl (gJ (by omega)) (by walk_at "xv") jE)
 ·cases us with
  | nil=>exact .inl rfl
  | cons x r=>exact .inr ⟨_,rfl⟩
def jk(d:D):Bool:=dj d&&(nums (gw d)).all whole
theorem uF{d:D}(h:dj d=true):∃ us,d=.tup us/\1<=us.length/\us.length<=4/\us.all bB=true/\lens us=true:=by
 cases d<;>simp only[dj,Bool.and_eq_true] at h<;>try (cases h;done)
 rename_i us
 obtain⟨us',e,h1,h4⟩:=dJ h.1.1
 cases e
 exact⟨us,rfl,h1,h4,h.1.2,h.2⟩
theorem j7{x:D}:∀ {us:List D},x∈nums us->∃ r∈us,x∈gw r
  | r :: us, h => by
    simp only[nums,List.mem_append] at h
    rcases h with h | h
    · exact⟨r,by simp,h⟩
    · obtain⟨r',h1,h2⟩:=j7 h
      exact⟨r',List.mem_cons_of_mem _ h1,h2⟩
theorem xW{us:List D}(h:dep (.tup us)<1000):∀ x∈nums us,dep x<1000:=fun x hx=>by
 obtain⟨r,h1,h2⟩:=j7 hx
 have h3:=oN h r h1
 cases r<;>simp only[gw] at h2<;>try (cases h2;done)
 exact oN h3 x h2
theorem yr(k:Nat){d:D}(h:dep d<1000):aG T 60 (k+3) "has_table_form" [d]=some (.bl (jk d)):=by
  cases hl:dj d with
  | false =>
    have e:jk d=false:=by simp only[jk,hl,Bool.false_and]
    rw[e]
    refine cC (fd:=aP (top 13)) rfl rfl (cu (fD (wK ?_)))
    refine' aB ?L53a_11a ?L53a_11b ?L53a_11c;(case L53a_11a=>rfl);(case L53a_11b=>walk_at "xm");(case L53a_11c=>exact hl▸has_lines k h)
  | true =>
    obtain⟨us,rfl,g1,g4,ga,_⟩:=uF hl
    have e:jk (.tup us)=(nums us).all whole:=by simp only[jk,hl,Bool.true_and,gw]
    have hn:=iH ga
    have hd:=xW h
    rw[e]
    refine cC (fd:=aP (top 13)) rfl rfl (cu (fD (sI ?_ (sH ?_))))
    · refine' aB ?L53a_12a ?L53a_12b ?L53a_12c;(case L53a_12a=>rfl);(case L53a_12b=>walk_at "xm");(case L53a_12c=>exact hl▸has_lines k h)
    · refine dG rfl rfl rfl (ao (cH (l:=nums us) rfl (wSq rfl (aB rfl (by walk_at "xm") (numbers_of (k+1) g4 ga)) rfl) (gJ (by omega)) (cV (g:=fun x=>.bl (whole x)) fun x hx=>dh rfl ?_)) bh) v7
      refine' aB ?L53a_13a ?L53a_13b ?L53a_13c;(case L53a_13a=>rfl);(case L53a_13b=>walk_at "xm");(case L53a_13c=>exact is_whole (k+1) (hd x hx))
theorem Cz(k:Nat){d:D}(h:dep d<1000)(hf:jk d=true):aG T 60 (k+4) "need_table" [d]=some .non:=by
 refine Af (fd:=aP (top 16)) rfl rfl (wG (nP ?_) jE)
 refine' aB ?L53a_14a ?L53a_14b ?L53a_14c;(case L53a_14a=>rfl);(case L53a_14b=>walk_at "xm");(case L53a_14c=>exact hf▸yr k h)
theorem iD{m:Nat}{h:Nat->D}:bB (.tup (Ls m h))=(decide (1<=m)&&decide (m<=4)):=by simp only[bB,aR]
theorem mQ{m:Nat}{h:Nat->D}{x:D}(hx:x∈Ls m h):∃ i,i<m/\x=h i:=by
 unfold Ls at hx
 obtain⟨i,hi,rfl⟩:=List.mem_map.mp hx
 exact⟨i,List.mem_range.mp hi,rfl⟩
theorem Dg{m:Nat}{h:Nat->D}(hm:1<=m):(Ls m h).headD .non=h 0:=by
 obtain⟨m',rfl⟩:∃ m',m=m'+1:=⟨m-1,by omega⟩
 unfold Ls
 rw[List.range_succ_eq_map];rfl
theorem yw{m n:Nat}{f:Nat->Nat->Int}(h1:1<=m)(h2:1<=n):jk (tbl m n f)=(decide (m<5)&&decide (n<5)):=by
 by_cases hm:m<=4
 ·by_cases hn:n<=4
  ·have e1:dj (tbl m n f)=true:=by
    show(bB (tbl m n f)&&(Ls m fun i=>row n (f i)).all bB&&lens (Ls m fun i=>row n (f i)))=true
    rw[iD,decide_eq_true h1,decide_eq_true hm]
    have a1:(Ls m fun i=>row n (f i)).all bB=true:=by
     rw[List.all_eq_true]
     intro x hx
     obtain⟨i,_,rfl⟩:=mQ hx
     rw[iD,decide_eq_true h2,decide_eq_true hn];rfl
    have a2:lens (Ls m fun i=>row n (f i))=true:=by
     unfold lens
     rw[List.all_eq_true,Dg h1]
     intro x hx
     obtain⟨i,_,rfl⟩:=mQ hx
     simp[Hx,aR]
    rw[a1,a2];rfl
   have e2:(nums (gw (tbl m n f))).all whole=true:=by
    rw[List.all_eq_true]
    intro x hx
    obtain⟨r,hr,hx⟩:=j7 hx
    obtain⟨i,_,rfl⟩:=mQ (show r∈Ls m fun i=>row n (f i) from hr)
    obtain⟨j,_,rfl⟩:=mQ (show x∈Ls n fun j=>D.int (f i j) from hx)
    rfl
   unfold jk
   rw[e1,e2,decide_eq_true (show m<5 by omega),decide_eq_true (show n<5 by omega)]
  ·have e1:dj (tbl m n f)=false:=by
    show(bB (tbl m n f)&&(Ls m fun i=>row n (f i)).all bB&&lens (Ls m fun i=>row n (f i)))=false
    have a1:(Ls m fun i=>row n (f i)).all bB=false:=by
     rw[List.all_eq_false]
     refine⟨row n (f 0),?_,?_⟩
     ·unfold Ls;exact List.mem_map.mpr ⟨0,List.mem_range.mpr (by omega),rfl⟩
     ·rw[iD,decide_eq_false hn];simp
    rw[a1,Bool.and_false,Bool.false_and]
   unfold jk
   rw[e1,decide_eq_false (show ¬ n<5 by omega),Bool.and_false,Bool.false_and]
 ·have e1:dj (tbl m n f)=false:=by
   show(bB (tbl m n f)&&(Ls m fun i=>row n (f i)).all bB&&lens (Ls m fun i=>row n (f i)))=false
   rw[iD,decide_eq_false hm,Bool.and_false,Bool.false_and,Bool.false_and]
  unfold jk
  rw[e1,decide_eq_false (show ¬ m<5 by omega),Bool.false_and,Bool.false_and]
theorem Dl{m n:Nat}{f:Nat->Nat->Int}(h1:1<=m)(h2:m<=4)(h3:1<=n)(h4:n<=4):jk (tbl m n f)=true:=by rw[yw h1 h3,decide_eq_true (by omega),decide_eq_true (by omega)];rfl
theorem need_table(k:Nat){m n:Nat}{f:Nat->Nat->Int}(h1:1<=m)(h2:m<=4)(h3:1<=n)(h4:n<=4):aG T 60 (k+4) "need_table" [tbl m n f]=some .non :=
 Cz k (Nat.lt_of_le_of_lt fL (by decide)) (Dl h1 h2 h3 h4)
theorem lR(k:Nat){i l h:Int}(h1:l<=i)(h2:i<=h):aG T 60 (k+2) "is_whole_within" [.int i,.int l,.int h]=some (.bl true):=by
 rw[uV k (by simp[dep])]
 simp[within,h1,h2]
theorem column_of(k:Nat){m n j:Nat}{f:Nat->Nat->Int}(hj:j<n)(h2:m<=4):aG T 60 (k+1) "column_of" [tbl m n f,.int (j:Int)]=some (row m fun i=>f i j):=by
 refine cC (fd:=aP (top 45)) rfl rfl (cu ?_)
 refine' dG ?L53a_15a ?L53a_15b ?L53a_15c ?L53a_15d ?L53a_15e;(case L53a_15a=>rfl);(case L53a_15b=>rfl);(case L53a_15c=>rfl);(case L53a_15d=>walk_at "xm");(case L53a_15e=>exact El)
theorem columns_of(k:Nat){m n:Nat}{f:Nat->Nat->Int}(h1:1<=m)(h2:m<=4)(h4:n<=4):aG T 60 (k+2) "columns_of" [tbl m n f]=some (tbl n m fun i j=>f j i):=by
 refine cC (fd:=aP (top 46)) rfl rfl (cu ?_)
 refine dG rfl rfl rfl (ao ?_ bh) El
 refine' cH ?L53a_16a ?L53a_16b ?L53a_16c (bC ?L53a_16d);(case L53a_16a=>rfl);(case L53a_16b=>walk_at "xi");(case L53a_16c=>exact gK (by omega))
 case L53a_16d =>
  intro i hi
  refine' dh ?L53a_16e ?L53a_16f;(case L53a_16e=>rfl)
  case L53a_16f =>
   refine' aB ?L53a_17a ?L53a_17b ?L53a_17c;(case L53a_17a=>rfl);(case L53a_17b=>walk_at "xm");(case L53a_17c=>exact column_of _ hi h2)
theorem picked(k:Nat){n q:Nat}{f:Nat->Int}{c:Nat->Nat}(h4:q<=4)(hc:∀ j,j<q->c j<n):aG T 60 (k+1) "picked" [row n f,plc q c]=some (row q fun j=>f (c j)):=by
 refine cC (fd:=aP (top 48)) rfl rfl (cu (dG rfl rfl rfl (ao ?_ bh) El))
 refine' cH ?L53a_19a ?L53a_19b ?L53a_19c (bC ?L53a_19d);(case L53a_19a=>rfl);(case L53a_19b=>walk_at "xi");(case L53a_19c=>exact gK (by omega))
 case L53a_19d =>
  intro j hj
  refine' dh ?L53a_19e ?L53a_19f;(case L53a_19e=>rfl)
  case L53a_19f =>
   refine' JF ?L53a_20a ?L53a_20b ?L53a_20c ?L53a_20d ?L53a_20e;(case L53a_20a=>walk_at "xv");(case L53a_20b=>walk_at "xv");(case L53a_20c=>exact hc j hj);(case L53a_20d=>rfl);(case L53a_20e=>rfl)
theorem part_at(k:Nat){m n q p:Nat}{f:Nat->Nat->Int}{r c:Nat->Nat}(g2:q<=4)(g4:p<=4)
  (hr:∀ j,j<q->r j<m) (hc:∀ j,j<p->c j<n):aG T 60 (k+2) "part_at" [tbl m n f,plc q r,plc p c]=some (tbl q p fun i j=>f (r i) (c j)):=by
 refine cC (fd:=aP (top 49)) rfl rfl (cu (dG rfl rfl rfl (ao ?_ bh) El))
 ·refine' cH ?L53a_21a ?L53a_21b ?L53a_21c (bC ?L53a_21d);(case L53a_21a=>rfl);(case L53a_21b=>walk_at "xi");(case L53a_21c=>exact gK (by omega))
  case L53a_21d =>
   intro i hi
   refine' dh ?L53a_21e ?L53a_21f;(case L53a_21e=>rfl)
   case L53a_21f =>
    refine' aB ?a1 (ao ?a2 (ao ?a3 bh)) (picked _ g4 hc);(case a1=>rfl)
    ·refine' JF ?L53a_22a ?L53a_22b ?L53a_22c ?L53a_22d ?L53a_22e;(case L53a_22a=>walk_at "xv");(case L53a_22b=>walk_at "xv");(case L53a_22c=>exact hr i hi);(case L53a_22d=>rfl);(case L53a_22e=>rfl)
    ·walk_at "xv"
def Sm(m n:Nat)(f:Nat->Nat->Int):Prop:=∀ i j,i<m->j<n->small (f i j)=true
def rR(ns:List Int)(k:Nat):Int:=if k<ns.length then ns.getD k 0 else if ns=[] then 0 else ns.getD (k%ns.length) 0*31+k
def dz(ns:List Int)(k:Nat):Int:=(rR ns k+6151*((k:Int)+1))*40692%2147483399
def pickN(ns:List Int)(k many:Nat):Nat:=((dz ns k*dz ns k+dz ns k / 31)%2147483629%(many:Int)).toNat
theorem fX{ns:List Int}{k many:Nat}(h:0<many):pickN ns k many<many:=by
 unfold pickN
 have h1:=Int.emod_nonneg ((dz ns k*dz ns k+dz ns k / 31)%2147483629) (show(many:Int)≠0 by omega)
 have h2:=Int.emod_lt_of_pos ((dz ns k*dz ns k+dz ns k / 31)%2147483629) (show(0:Int)<many by omega)
 omega
abbrev scr(ns:List Int):D:=.lst (ns.map D.int)
theorem dX{ns:List Int}:blt "len" [scr ns]=some (.int (ns.length:Int)):=by
 show some (D.int ((ns.map D.int).length:Int))=_
 rw[List.length_map]
theorem yZ{ns:List Int}{k:Nat}(h:k<ns.length):atD (ns.map D.int) (k:Int)=some (.int (ns.getD k 0)):=by
 refine wg ?_
 rw[List.getElem?_map,List.getElem?_eq_getElem h,List.getD_eq_getElem?_getD,List.getElem?_eq_getElem h];rfl
theorem Ba{ns:List Int}:dep (scr ns)<=50:=by
 simp only[dep]
 have:=jo (b:=0) (l:=ns.map D.int) fun d hd=>by
  obtain⟨i,_,rfl⟩:=List.mem_map.mp hd
  simp[dep]
 omega
theorem cell(k:Nat)(ns:List Int)(kk:Nat):aG T 60 (k+1) "_law_cell" [scr ns,.int (kk:Int)]=some (.int (rR ns kk)):=by
 unfold rR
 by_cases h:kk<ns.length
 ·rw[if_pos h]
  refine cC (fd:=aP (top 103)) rfl rfl (Ie (fl1:=.ret (.int (ns.getD kk 0))) (fP (by walk_at "xv") (dG rfl rfl rfl (by walk_at "xm") dX) (oLt (by omega))) (cu ?_) rfl)
  exact xIx (by walk_at "xv") (by walk_at "xv") rfl (yZ h)
 ·rw[if_neg h]
  by_cases e:ns=[]
  ·subst e
   rw[if_pos rfl]
   refine cC (fd:=aP (top 103)) rfl rfl (wG (fP (by walk_at "xv") (dG rfl rfl rfl (by walk_at "xm") (dX (ns:=[]))) (Tn (by simp))) (Ie (fl1:=.ret (.int 0)) (fP (by walk_at "xv") (by walk_at "xv") rfl) (cu (by walk_at "xv")) rfl))
  ·rw[if_neg e]
   have hl:0<ns.length:=List.length_pos_iff.mpr e
   refine cC (fd:=aP (top 103)) rfl rfl (wG (fP (by walk_at "xv") (dG rfl rfl rfl (by walk_at "xm") dX) (Tn (by omega))) (wG (fP (y:=.lst []) (by walk_at "xv") (by walk_at "xv") ?_) (cu ?_)))
   ·rw[oEq Ba (by simp[dep,deps])]
    cases ns with
    | nil=>exact absurd rfl e
    | cons a r=>rfl
   ·refine cg (cg (x:=.int (ns.getD (kk%ns.length) 0)) (xIx (i:=((kk%ns.length:Nat):Int)) (by walk_at "xv") ?_ rfl (yZ (Nat.mod_lt _ hl))) (by walk_at "xv") (vZ (.inr (by decide)))) (by walk_at "xv") rfl
    refine cg (by walk_at "xv") (dG rfl rfl rfl (by walk_at "xm") dX) ?_
    rw[Fg (by omega)]
    rfl
theorem pick(k:Nat)(ns:List Int)(kk:Nat){many:Nat}(h:0<many):aG T 60 (k+2) "_law_pick" [scr ns,.int (kk:Int),.int (many:Int)]=some (.int ((pickN ns kk many:Nat):Int)):=by
 have d0:=Int.emod_nonneg ((rR ns kk+6151*((kk:Int)+1))*40692) (show(2147483399:Int)≠0 by decide)
 have d1:=Int.emod_lt_of_pos ((rR ns kk+6151*((kk:Int)+1))*40692) (show(0:Int)<2147483399 by decide)
 have e:((pickN ns kk many:Nat):Int)=(dz ns kk*dz ns kk+dz ns kk / 31)%2147483629%(many:Int):=by
  unfold pickN
  exact Int.toNat_of_nonneg (Int.emod_nonneg _ (by omega))
 rw[e]
 refine cC (fd:=aP (top 104)) rfl rfl (oJ rfl (d:=.int (dz ns kk)) ?_ (cu ?_))
 ·refine cg (cg (cg (x:=.int (rR ns kk)) (y:=.int (6151*((kk:Int)+1))) ?_ ?_ rfl) (by walk_at "xv") (vZ (.inr (by decide)))) (by walk_at "xv") (Fg (by decide))
  ·refine' aB ?L53a_23a ?L53a_23b ?L53a_23c;(case L53a_23a=>rfl);(case L53a_23b=>walk_at "xm");(case L53a_23c=>exact cell _ ns kk)
  ·exact cg (by walk_at "xv") (cg (by walk_at "xv") (by walk_at "xv") rfl) (vZ (.inl (by decide)))
 ·refine cg (cg (cg (cg (by walk_at "xv") (by walk_at "xv") (vZ (.inl ?_))) (cg (by walk_at "xv") (by walk_at "xv") (Yj (by decide) (by decide))) rfl) (by walk_at "xv") (Fg (by decide))) (by walk_at "xv") (Fg (by omega))
  unfold small
  unfold dz
  rw[decide_eq_true (by omega),decide_eq_true (by omega)];rfl
theorem nM{cx:Cxt}{n:Nat}{sc:Scope}{ρ:Rho}{e:Expr}{d d':D}(h:ev cx n sc ρ e=some d)(q:d=d'):ev cx n sc ρ e=some d':=q▸h
theorem turned(k:Nat){m n:Nat}{f:Nat->Nat->Int}(h1:1<=m)(h2:m<=4)(h3:1<=n)(h4:n<=4):aG T 60 (k+5) "turned" [tbl m n f]=some (tbl n m fun i j=>f j i):=by
 refine cC (fd:=aP (top 47)) rfl rfl (rG rfl (d:=.non) ?_ (cu ?_))
 ·refine' aB ?L53a_24a ?L53a_24b ?L53a_24c;(case L53a_24a=>rfl);(case L53a_24b=>walk_at "xm");(case L53a_24c=>exact need_table k h1 h2 h3 h4)
 ·refine' aB ?L53a_25a ?L53a_25b ?L53a_25c;(case L53a_25a=>rfl);(case L53a_25b=>walk_at "xm");(case L53a_25c=>exact columns_of (k+2) h1 h2 h4)
theorem row_by_column(k:Nat){n:Nat}{f g:Nat->Int}(h4:n<=4)(hs:∀ j,j<n->small (f j)=true\/small (g j)=true):aG T 60 (k+1) "row_by_column_tables" [row n f,row n g]=some (.int (jz n fun j=>f j*g j)):=by
 refine cC (fd:=aP (top 50)) rfl rfl (cu (dG rfl rfl rfl (ao ?_ bh) SM))
 refine' cH ?L53a_26a ?L53a_26b ?L53a_26c (bC ?L53a_26d);(case L53a_26a=>rfl);(case L53a_26b=>walk_at "xi");(case L53a_26c=>exact gK (by omega))
 case L53a_26d =>
  intro j hj
  refine' dh ?L53a_26e ?L53a_26f;(case L53a_26e=>rfl)
  case L53a_26f =>
   refine' cg ?a1 ?a2 (vZ (hs j hj));(case a1=>walk_at "xv");(case a2=>walk_at "xv")
theorem row_by_columns(k:Nat){n p:Nat}{f:Nat->Int}{g:Nat->Nat->Int}(h4:n<=4)(h5:p<=4)(hs:∀ i j,i<p->j<n->small (f j)=true\/small (g i j)=true):aG T 60 (k+2) "row_by_columns_tables" [row n f,tbl p n g]=some (row p fun i=>jz n fun j=>f j*g i j):=by
 refine cC (fd:=aP (top 52)) rfl rfl (cu (dG rfl rfl rfl (ao ?_ bh) El))
 refine' cH ?L53a_27a ?L53a_27b ?L53a_27c (bC ?L53a_27d);(case L53a_27a=>rfl);(case L53a_27b=>walk_at "xi");(case L53a_27c=>exact gK (by omega))
 case L53a_27d =>
  intro i hi
  refine' dh ?L53a_27e ?L53a_27f;(case L53a_27e=>rfl)
  case L53a_27f =>
   refine' aB ?L53a_28a ?L53a_28b ?L53a_28c;(case L53a_28a=>rfl);(case L53a_28b=>walk_at "xm");(case L53a_28c=>exact row_by_column k h4 (hs i · hi ·))
def mul(n:Nat)(f g:Nat->Nat->Int):Nat->Nat->Int:=fun i j=>jz n fun l=>f i l*g l j
theorem times(k:Nat){m n p:Nat}{f g:Nat->Nat->Int}(h1:1<=m)(h2:m<=4)(h3:1<=n)(h4:n<=4)(h5:1<=p)(h6:p<=4)(hs:Sm m n f\/Sm n p g):aG T 60 (k+6) "times" [tbl m n f,tbl n p g]=some (tbl m p (mul n f g)):=by
 refine cC (fd:=aP (top 54)) rfl rfl (rG rfl (d:=.non) ?_ (rG rfl (d:=.non) ?_ (wG (fP (x:=.int (n:Int)) ?_ ?_ (Ez rfl)) (oJ rfl (d:=tbl p n fun i j=>g j i) ?_ (cu (dG rfl rfl rfl (ao ?_ bh) El))))))
 ·refine' aB ?L53a_29a ?L53a_29b ?L53a_29c;(case L53a_29a=>rfl);(case L53a_29b=>walk_at "xm");(case L53a_29c=>exact need_table (k+1) h1 h2 h3 h4)
 ·refine' aB ?L53a_30a ?L53a_30b ?L53a_30c;(case L53a_30a=>rfl);(case L53a_30b=>walk_at "xm");(case L53a_30c=>exact need_table (k+1) h3 h4 h5 h6)
 ·walk_at "xv"
 ·walk_at "xv"
 ·refine' aB ?L53a_31a ?L53a_31b ?L53a_31c;(case L53a_31a=>rfl);(case L53a_31b=>walk_at "xm");(case L53a_31c=>exact columns_of (k+3) h3 h4 h6)
 ·refine' cH ?L53a_32a ?L53a_32b ?L53a_32c (bC ?L53a_32d);(case L53a_32a=>rfl);(case L53a_32b=>walk_at "xi");(case L53a_32c=>exact gK (by omega))
  case L53a_32d =>
   intro i hi
   refine' dh ?L53a_32e ?L53a_32f;(case L53a_32e=>rfl)
   case L53a_32f =>
    refine' aB ?a1 (ao ?a2 (ao ?a3 bh)) (row_by_columns (k+3) (f:=f i) (g:=fun i j=>g j i) h4 h6 ?a4);(case a1=>rfl)
    case a2=>walk_at "xv"
    case a3=>walk_at "xv"
    case a4=>exact fun a b ha hb=>hs.imp (fun q=>q i b hi hb) (fun q=>q b a hb ha)
def dl(i j:Nat):Int:=if j=i then 1 else 0
theorem need_size(k:Nat){n:Nat}(h1:1<=n)(h4:n<=4):aG T 60 (k+3) "need_size" [.int (n:Int),.int 4]=some .non:=by
 refine Af (fd:=aP (top 18)) rfl rfl (wG (nP ?_) jE)
 refine' aB ?L53a_34a ?L53a_34b ?L53a_34c;(case L53a_34a=>rfl);(case L53a_34b=>walk_at "xm");(case L53a_34c=>exact lR k (by omega) (by omega))
def skip(j b:Nat):Nat:=if b<j then b else b+1
def sg(b:Nat)(w:Int):Int:=if b%2=1 then -w else w
def sub(f:Nat->Nat->Int)(r c:Nat):Nat->Nat->Int:=fun a b=>f (skip r a) (skip c b)
def det:Nat->(Nat->Nat->Int)->Int
 | 0,_=>1
 | n+1,f=>jz (n+1) fun j=>f 0 j*sg (0+j) (det n (sub f 0 j))
def cof(n:Nat)(f:Nat->Nat->Int)(r c:Nat):Int:=sg (r+c) (det (n-1) (sub f r c))
theorem Jg{m r:Nat}{h:Nat->D}(hr:r<m):Ls r h++Ls (m-(r+1)) (fun i=>h (r+1+i))=Ls (m-1) fun i=>h (skip r i):=by
 apply List.ext_getElem?
 intro i
 by_cases h1:i<r
 ·rw[List.getElem?_append_left (by rw[aR];exact h1),bZ h1,bZ (by omega)]
  simp[skip,h1]
 ·rw[List.getElem?_append_right (by rw[aR];omega),aR]
  by_cases h2:i<m-1
  ·rw[bZ (by omega),bZ h2]
   simp only[skip,h1,if_false]
   rw[show r+1+(i-r)=i+1 by omega]
  ·rw[List.getElem?_eq_none (by rw[aR];omega),List.getElem?_eq_none (by rw[aR];omega)]
section
variable {cx:Cxt} {n:Nat} {sc:Scope} {ρ:Rho} {a b a2 b2:Expr} {p p2 q q2:Pos} {op:Pos}
theorem JB{m j:Nat}{h:Nat->D}(h1:ev cx n sc ρ a=some (.tup (Ls m h)))(h2:ev cx n sc ρ b=some (.int (j:Int)))(hj:j<m):ev cx (n+1) sc ρ (.Subscript a (.Slice none (some b) none q) p)=some (.tup (Ls j h)):=by
 rw[xSl h1 Cu (uy h2),Ja (by omega)]
 have:(fQ (Ls m h).length (Ls m h).length (some (j:Int))==(Ls m h).length)=false:=by
  unfold fQ
  rw[aR]
  simp only
  rw[if_neg (by omega)]
  exact beq_eq_false_iff_ne.mpr (by omega)
 rw[this,Bool.and_false]
theorem Tf{m r:Nat}{h:Nat->D}(h1:ev cx n sc ρ a=some (.tup (Ls m h)))(h2:ev cx n sc ρ b=some (.int (r:Int)))(h3:ev cx n sc ρ a2=some (.tup (Ls m h)))(h4:ev cx n sc ρ b2=some (.int ((r:Int)+1)))(hr:r<m)(hm:m<=100000) :
  ev cx (n+2) sc ρ (.BinOp (.Subscript a (.Slice none (some b) none q) p) .Add (.Subscript a2 (.Slice (some b2) none none q2) p2) op)=some (.tup (Ls (m-1) fun i=>h (skip r i))):=by
 refine cg (JB h1 h2 hr) (Jz (j:=r+1) h3 (by rw[h4];rfl) (by omega) (by omega) (by omega)) ?_
 rw[<- Jg hr]
 show(if szl ((Ls r h).length+(Ls (m-(r+1)) _).length)=true then _ else _)=_
 rw[if_pos (by rw[aR,aR];exact gJ (by omega))]
end
theorem without(k:Nat){m n r c:Nat}{f:Nat->Nat->Int}(hr:r<m)(hc:c<n)(h2:m<=4)(h4:n<=4):aG T 60 (k+1) "without" [tbl m n f,.int (r:Int),.int (c:Int)]=some (tbl (m-1) (n-1) (sub f r c)):=by
 refine cC (fd:=aP (top 58)) rfl rfl (oJ rfl (d:=.tup (Ls (m-1) fun i=>row n (f (skip r i)))) ?_ (cu (dG rfl rfl rfl (ao ?_ bh) El)))
 ·refine Tf (h:=fun i=>row n (f i)) ?_ ?_ ?_ ?_ hr (by omega)
  ·walk_at "xv"
  ·walk_at "xv"
  ·walk_at "xv"
  ·exact cg (by walk_at "xv") (by walk_at "xv") rfl
 ·refine' cH ?L53a_38a ?L53a_38b ?L53a_38c (bC ?L53a_38d);(case L53a_38a=>rfl);(case L53a_38b=>walk_at "xi");(case L53a_38c=>exact gK (by omega))
  case L53a_38d =>
   intro i hi
   refine' dh ?L53a_38e ?L53a_38f;(case L53a_38e=>rfl)
   case L53a_38f =>
    refine Tf (h:=fun j=>.int (f (skip r i) j)) ?_ ?_ ?_ ?_ hc (by omega)
    ·walk_at "xv"
    ·walk_at "xv"
    ·walk_at "xv"
    ·exact cg (by walk_at "xv") (by walk_at "xv") rfl
theorem qN(k:Nat){n:Nat}{f:Nat->Nat->Int}(h4:n+1<=4)(hs:Sm (n+1) (n+1) f)(ih:∀ r c,r<n+1->c<n+1->aG T 60 k "worth_of" [tbl n n (sub f r c)]=some (.int (det n (sub f r c)))) :
  (∀ r c,r<n+1->c<n+1->aG T 60 (k+2) "signed_rest" [tbl (n+1) (n+1) f,.int (r:Int),.int (c:Int)]=some (.int (cof (n+1) f r c)))/\aG T 60 (k+4) "worth_of" [tbl (n+1) (n+1) f]=some (.int (det (n+1) f)):=by
 have rest:∀ r c,r<n+1->c<n+1->aG T 60 (k+1) "rest_worth" [tbl (n+1) (n+1) f,.int (r:Int),.int (c:Int)]=some (.int (det n (sub f r c))):=by
  intro r c hr hc
  refine cC (fd:=aP (top 60)) rfl rfl (cu ?_)
  refine aB rfl (ao ?_ bh) (ih r c hr hc)
  cases k with
  | zero=>have:=ih r c hr hc;rw[Ed] at this;cases this
  | succ k=>refine' aB ?L53a_39a ?L53a_39b ?L53a_39c;(case L53a_39a=>rfl);(case L53a_39b=>walk_at "xm");(case L53a_39c=>exact without k hr hc h4 h4)
 have sgn:∀ r c,r<n+1->c<n+1->aG T 60 (k+2) "signed_rest" [tbl (n+1) (n+1) f,.int (r:Int),.int (c:Int)]=some (.int (cof (n+1) f r c)):=by
  intro r c hr hc
  refine cC (fd:=aP (top 61)) rfl rfl (oJ rfl (d:=.int (det n (sub f r c))) ?_ (cu ?_))
  ·refine' aB ?L53a_40a ?L53a_40b ?L53a_40c;(case L53a_40a=>rfl);(case L53a_40b=>walk_at "xm");(case L53a_40c=>exact rest r c hr hc)
  ·unfold cof sg
   by_cases q:(r+c)%2=1
   ·rw[if_pos q]
    refine WY (fP (x:=.int (((r+c)%2:Nat):Int)) (nM (cg (cg (by walk_at "xv") (by walk_at "xv") rfl) (by walk_at "xv") (Fg (by decide))) (congrArg D.int (by omega))) (by walk_at "xv") (Jp (by omega))) (Fx ?_)
    walk_at "xv"
   ·rw[if_neg q]
    refine W0 (fP (x:=.int (((r+c)%2:Nat):Int)) (nM (cg (cg (by walk_at "xv") (by walk_at "xv") rfl) (by walk_at "xv") (Fg (by decide))) (congrArg D.int (by omega))) (by walk_at "xv") (Jq (by omega))) ?_
    walk_at "xv"
 refine⟨sgn,?_⟩
 have rows:aG T 60 (k+3) "row_with_rests" [tbl (n+1) (n+1) f,.int 0]=some (.lst (Ls (n+1) fun c=>.tup [.int (f 0 c),.int (cof (n+1) f 0 c)])):=by
  refine cC (fd:=aP (top 62)) rfl rfl (cu ?_)
  refine' cH ?L53a_41a ?L53a_41b ?L53a_41c (bC ?L53a_41d);(case L53a_41a=>rfl);(case L53a_41b=>walk_at "xi");(case L53a_41c=>exact gK (by omega))
  case L53a_41d =>
   intro c hc
   refine' dh ?L53a_41e ?L53a_41f;(case L53a_41e=>rfl)
   case L53a_41f =>
    refine Jj (ao (by walk_at "xv") (ao ?_ bh)) rfl
    refine aB rfl (ao ?_ (ao ?_ (ao ?_ bh))) (sgn 0 c (by omega) hc)
    ·walk_at "xv"
    ·walk_at "xv"
    ·walk_at "xv"
 refine cC (fd:=aP (top 59)) rfl rfl (wG (fP (x:=.int ((n+1:Nat):Int)) ?_ (by walk_at "xv") (Jq (by omega))) (cu ?_))
 ·walk_at "xv"
 ·have e:det (n+1) f=jz (n+1) fun j=>f 0 j*cof (n+1) f 0 j:=rfl
  rw[e]
  refine dG rfl rfl rfl (ao ?_ bh) SM
  refine' cH ?a1 ?a2 ?a3 (bC ?a4);(case a1=>rfl)
  case a2 =>
   refine wSq rfl (x:=.lst (Ls (n+1) fun c=>.tup [.int (f 0 c),.int (cof (n+1) f 0 c)])) ?_ rfl
   refine' aB ?L53a_42a ?L53a_42b ?L53a_42c;(case L53a_42a=>rfl);(case L53a_42b=>walk_at "xm");(case L53a_42c=>exact rows)
  case a3=>exact gK (by omega)
  case a4 =>
   intro c hc
   refine' dh ?b1 (cg ?b2 ?b3 (vZ (.inl (hs 0 c (by omega) hc))));(case b1=>rfl);(case b2=>walk_at "xv");(case b3=>walk_at "xv")
theorem worth:∀ (n k:Nat) {f:Nat->Nat->Int},n<=4->Sm n n f->aG T 60 (k+4*n+1) "worth_of" [tbl n n f]=some (.int (det n f))
  | 0, k, f, _, _ => by
    show aG T 60 (k+1) "worth_of" [.tup []]=some (.int 1)
    kernel_rfl
  | n + 1, k, f, h, hs => by
    have q:=qN (k+4*n+1) h hs fun r c hr hc=>worth n k (by omega) fun i j hi hj=>hs _ _ (by unfold skip;split<;>omega) (by unfold skip;split<;>omega)
    have e:k+4*(n+1)+1=k+4*n+1+4:=by omega
    rw[e]
    exact q.2
theorem whole_minor(k n:Nat){f:Nat->Nat->Int}(h1:1<=n)(h4:n<=4)(hs:Sm n n f):aG T 60 (k+4*n+5) "whole_minor" [tbl n n f]=some (.int (det n f)):=by
 have sq:aG T 60 (k+4*n+3) "is_square" [tbl n n f]=some (.bl true):=by
  refine cC (fd:=aP (top 14)) rfl rfl (cu (fP (x:=.int (n:Int)) ?_ ?_ (Jp rfl)))
  ·walk_at "xv"
  ·walk_at "xv"
 have ns:aG T 60 (k+4*n+4) "need_square" [tbl n n f]=some .non:=by
  refine Af (fd:=aP (top 17)) rfl rfl (wG (nP ?_) jE)
  refine' aB ?L53a_43a ?L53a_43b ?L53a_43c;(case L53a_43a=>rfl);(case L53a_43b=>walk_at "xm");(case L53a_43c=>exact sq)
 refine cC (fd:=aP (top 70)) rfl rfl (rG rfl (d:=.non) ?_ (rG rfl (d:=.non) ?_ (cu ?_)))
 ·refine' aB ?L53a_44a ?L53a_44b ?L53a_44c;(case L53a_44a=>rfl);(case L53a_44b=>walk_at "xm");(case L53a_44c=>exact need_table (k+4*n) h1 h4 h1 h4)
 ·refine' aB ?L53a_45a ?L53a_45b ?L53a_45c;(case L53a_45a=>rfl);(case L53a_45b=>walk_at "xm");(case L53a_45c=>exact ns)
 ·refine aB rfl (by walk_at "xm") ?_
  have q:=worth n (k+3) h4 hs
  rw[show k+3+4*n+1=k+4*n+4 by omega] at q
  exact q
end M53
namespace M53
open PySem DE
abbrev plL(l:List Nat):D:=.tup (l.map fun(k:Nat)=>D.int (k:Int))
theorem zy(l:List Nat):plL l=plc l.length fun i=>l.getD i 0:=by
 show D.tup _=D.tup _
 rw[Jf 0]
def subs(many:Nat):Nat->List (List Nat)
 | 0=>[[]]
 | s+1=>(subs many s).flatMap fun a=>(List.range' ((a.getLast?.map (· + 1)).getD 0) (many-(a.getLast?.map (· + 1)).getD 0)).map fun x=>a++[x]
theorem mj(k:Nat){n s:Nat}(h1:1<=n)(h4:n<=4)(s1:1<=s)(sn:s<=n):aG T 60 (k+2) "rising_tuples" [.int (n:Int),.int (s:Int)]=some (.lst ((subs n s).map plL)):=by
 match n,s,h1,h4,s1,sn with
 | 1,1,_,_,_,_=>kernel_rfl
 | 2,1,_,_,_,_=>kernel_rfl
 | 2,2,_,_,_,_=>kernel_rfl
 | 3,1,_,_,_,_=>kernel_rfl
 | 3,2,_,_,_,_=>kernel_rfl
 | 3,3,_,_,_,_=>kernel_rfl
 | 4,1,_,_,_,_=>kernel_rfl
 | 4,2,_,_,_,_=>kernel_rfl
 | 4,3,_,_,_,_=>kernel_rfl
 | 4,4,_,_,_,_=>kernel_rfl
def okL(n:Nat)(l:List Nat):Bool:=l.all fun x=>decide (x<n)
theorem zH{n:Nat}{l:List Nat}(h:okL n l=true):∀ j,j<l.length->l.getD j 0<n:=by
 unfold okL at h
 rw[List.all_eq_true] at h
 intro j hj
 have:=h l[j] (List.getElem_mem _)
 rw[List.getD_eq_getElem?_getD,List.getElem?_eq_getElem hj]
 simpa using this
def SX(n s:Nat):Bool:=(subs n s).all fun S=>okL n S&&decide (S.length=s)
theorem eE{n s:Nat}(h1:1<=n)(h4:n<=4)(s1:1<=s)(sn:s<=n):SX n s=true/\(subs n s).length<=6:=by
 match n,s,h1,h4,s1,sn with
 | 1,1,_,_,_,_=>decide
 | 2,1,_,_,_,_=>decide
 | 2,2,_,_,_,_=>decide
 | 3,1,_,_,_,_=>decide
 | 3,2,_,_,_,_=>decide
 | 3,3,_,_,_,_=>decide
 | 4,1,_,_,_,_=>decide
 | 4,2,_,_,_,_=>decide
 | 4,3,_,_,_,_=>decide
 | 4,4,_,_,_,_=>decide
theorem jV{n s:Nat}{S:List Nat}(h1:1<=n)(h4:n<=4)(s1:1<=s)(sn:s<=n)(hS:S∈subs n s):okL n S=true/\S.length=s:=by
 have q:=List.all_eq_true.mp (eE h1 h4 s1 sn).1 S hS
 simp only[Bool.and_eq_true,decide_eq_true_eq] at q
 exact q
def dM(f:Nat->Nat->Int)(R C:List Nat):Int:=det R.length fun i j=>f (R.getD i 0) (C.getD j 0)
def mnD(f:Nat->Nat->Int)(R C:List Nat):D:=.tup [plL R,plL C,.int (dM f R C)]
theorem iI{α:Type}{f:D->Rho->Option Fl}{g:α->D}{R:List α->Rho}{whole:List α}(h:∀ pre x post,pre++x::post=whole->f (g x) (R pre)=some (.nxt (R (pre++[x])))):∀ {l pre:List α},pre++l=whole->dD f (l.map g) (R pre)=some (.nxt (R whole))
  | [],pre,e=>by rw[List.append_nil] at e;rw[e];rfl
  | x :: l, pre, e => by
    simp only[List.map_cons,dD,h pre x l e]
    exact iI h (l:=l) (pre:=pre++[x]) (by rw[List.append_assoc];exact e)
def eV{α:Type}(g:α->D)(l:List α):Sl:=match l.getLast? with
 | none=>.no
 | some x=>.sh (g x)
theorem eN{α:Type}{g:α->D}{l:List α}{x:α}:eV g (l++[x])=.sh (g x):=by simp[eV]
theorem kJ{α:Type}(g:α->D)(l:List α):eV g l=.no\/∃ d,eV g l=.sh d:=by
 unfold eV
 split
 ·exact .inl rfl
 ·exact .inr ⟨_,rfl⟩
structure Tb (m n:Nat) (f:Nat->Nat->Int):Prop where
 m1:1<=m
 m4:m<=4
 n1:1<=n
 n4:n<=4
 sm:Sm m n f
theorem jH(k:Nat){m n:Nat}{f:Nat->Nat->Int}{R C:List Nat}(t:Tb m n f)(hR:okL m R=true)(hC:okL n C=true)(hl:C.length=R.length)(h4:R.length<=4) :
  aG T 60 (k+2) "part_at" [tbl m n f,plL R,plL C]=some (tbl R.length R.length fun i j=>f (R.getD i 0) (C.getD j 0))/\aG T 60 (k+4*R.length+1) "worth_of" [tbl R.length R.length fun i j=>f (R.getD i 0) (C.getD j 0)]=some (.int (dM f R C)):=by
 have r:=zH hR
 have c:=zH hC
 rw[hl] at c
 refine⟨?_,worth R.length k h4 fun i j hi hj=>t.sm _ _ (r i hi) (c j hj)⟩
 rw[zy R,zy C,hl]
 exact part_at k h4 h4 r c
theorem uJ(l:List Nat):blt "len" [plL l]=some (.int (l.length:Int)):=by
 show some (D.int ((l.map fun(k:Nat)=>D.int (k:Int)).length:Int))=_
 rw[List.length_map]
def Gm(t R:D)(md:List D)(c:Sl):Rho:=[("table",.sh t),("rows",.sh R),("told",.ow md),("columns",c)]
theorem oE(k:Nat){m n:Nat}{f:Nat->Nat->Int}{R:List Nat}(t:Tb m n f)(hR:okL m R=true)(g1:1<=R.length)(gn:R.length<=n):aG T 60 (k+4*R.length+2) "minors_of_rows" [tbl m n f,plL R]=some (.lst ((subs n R.length).map fun C=>mnD f R C)):=by
 have t':=t
 obtain⟨m1,m4,n1,n4,hs⟩:=t'
 have key:∀ (s:Sl),(s=.no\/∃ d,s=.sh d)->blk (cxN T 60 (k+4*R.length+1)) 60 60 (aP (top 66)).sc ((aP (top 66)).body.drop 2) (Gm (tbl m n f) (plL R) ((subs n R.length).map fun C=>mnD f R C) s)=some (.ret (.lst ((subs n R.length).map fun C=>mnD f R C))):=by
  intro s hs
  rcases hs with rfl | ⟨d,rfl⟩
  ·exact cu (by walk_at "xv")
  ·exact cu (by walk_at "xv")
 refine cC (fd:=aP (top 66)) rfl rfl (oJ rfl (d:=.lst []) (by walk_at "xv") (Ih (l:=(subs n R.length).map plL) (fl1:=.nxt (Gm (tbl m n f) (plL R) ((subs n R.length).map fun C=>mnD f R C) (eV plL (subs n R.length)))) (wSq (x:=.lst ((subs n R.length).map plL)) rfl ?_ rfl) ?_ (key _ (kJ _ _))))
 ·refine aB rfl (ao (x:=.int (n:Int)) ?_ (ao (x:=.int (R.length:Int)) ?_ bh)) (mj (k+4*R.length-1+0) n1 n4 g1 gn |> fun q=>by rw[show k+4*R.length-1+0+2=k+4*R.length+1 by omega] at q;exact q)
  ·walk_at "xv"
  ·refine' dG ?L53n_1a ?L53n_1b ?L53n_1c ?L53n_1d ?L53n_1e;(case L53n_1a=>rfl);(case L53n_1b=>rfl);(case L53n_1c=>rfl);(case L53n_1d=>walk_at "xm");(case L53n_1e=>exact uJ R)
 ·refine iI (R:=fun pre=>Gm (tbl m n f) (plL R) (pre.map fun C=>mnD f R C) (eV plL pre)) (whole:=subs n R.length) (fun pre C post e=>?_) (pre:=[]) rfl
  have hC:=jV n1 n4 g1 gn (S:=C) (by rw[<- e];simp)
  have hz:pre.length<=6:=by
   have h6:=(eE n1 n4 g1 gn).2
   rw[<- e] at h6
   simp at h6
   omega
  obtain⟨p1,p2⟩:=jH (k+4*R.length-1) t hR hC.1 hC.2 (by omega)
  obtain⟨q1,q2⟩:=jH k t hR hC.1 hC.2 (by omega)
  rw[show k+4*R.length-1+2=k+4*R.length+1 by omega] at p1
  refine lq (ρ1:=Gm (tbl m n f) (plL R) (pre.map fun C=>mnD f R C) (.sh (plL C))) rfl ?_
  show _=some (Fl.nxt (Gm (tbl m n f) (plL R) ((pre++[C]).map fun C=>mnD f R C) (eV plL (pre++[C]))))
  rw[List.map_append,eN]
  refine Yd (d:=mnD f R C) rfl rfl rfl (gJ (by rw[List.length_map];omega)) ?_ rfl
  exact Jj (ao (by walk_at "xv") (ao (by walk_at "xv") (ao (aB rfl (ao (aB rfl (by walk_at "xm") p1) bh) q2) bh))) rfl
theorem pX{α β:Type}{g:α->List β}{b:Nat}:∀ {l:List α},(∀ x∈l,(g x).length<=b)->(l.flatMap g).length<=l.length*b
  | [],_=>by simp
  | x :: l, h => by
    have h1:=h x List.mem_cons_self
    have h2:=pX (l:=l) fun y hy=>h y (List.mem_cons_of_mem _ hy)
    simp only[List.flatMap_cons,List.length_append,List.length_cons,Nat.succ_mul]
    omega
def mS(m n:Nat)(f:Nat->Nat->Int)(s:Nat):List D:=(subs m s).flatMap fun R=>(subs n s).map fun C=>mnD f R C
def mA(m n:Nat)(f:Nat->Nat->Int)(i:Nat):List D:=(List.range i).flatMap fun j=>mS m n f (j+1)
theorem zL{m n s:Nat}{f:Nat->Nat->Int}(m1:1<=m)(m4:m<=4)(n1:1<=n)(n4:n<=4)(s1:1<=s)(sm:s<=m)(sn:s<=n):(mS m n f s).length<=36:=by
 have h1:=(eE m1 m4 s1 sm).2
 have h2:=(eE n1 n4 s1 sn).2
 have:=pX (l:=subs m s) (g:=fun R=>(subs n s).map fun C=>mnD f R C) (b:=6) fun R _=>by rw[List.length_map];exact h2
 unfold mS
 omega
theorem pR{m n i:Nat}{f:Nat->Nat->Int}(m1:1<=m)(m4:m<=4)(n1:1<=n)(n4:n<=4)(im:i<=m)(in':i<=n):(mA m n f i).length<=i*36:=by
 have:=pX (l:=List.range i) (g:=fun j=>mS m n f (j+1)) (b:=36) fun j hj=>by
  have:=List.mem_range.mp hj
  exact zL m1 m4 n1 n4 (by omega) (by omega) (by omega)
 rw[List.length_range] at this
 exact this
theorem CP{m n i:Nat}{f:Nat->Nat->Int}:mA m n f (i+1)=mA m n f i++mS m n f (i+1):=by
 unfold mA
 rw[List.range_succ,List.flatMap_append]
 simp
theorem dist{α β:Type}{g:α->List β}{l:List α}{x:α}:(l++[x]).flatMap g=l.flatMap g++g x:=by
 rw[List.flatMap_append];simp
def Gk(t s:D)(md:List D)(c:Sl):Rho:=[("table",.sh t),("size",.sh s),("told",.ow md),("rows",c)]
theorem oA(k:Nat){m n s:Nat}{f:Nat->Nat->Int}(t:Tb m n f)(s1:1<=s)(hm:s<=m)(hn:s<=n):aG T 60 (k+4*s+3) "minors_of_size" [tbl m n f,.int (s:Int)]=some (.lst (mS m n f s)):=by
 have t':=t
 obtain⟨m1,m4,n1,n4,hs⟩:=t'
 have key:∀ (c:Sl),(c=.no\/∃ d,c=.sh d)->blk (cxN T 60 (k+4*s+2)) 60 60 (aP (top 67)).sc ((aP (top 67)).body.drop 2) (Gk (tbl m n f) (.int (s:Int)) (mS m n f s) c)=some (.ret (.lst (mS m n f s))):=by
  intro c hc
  rcases hc with rfl | ⟨d,rfl⟩
  ·exact cu (by walk_at "xv")
  ·exact cu (by walk_at "xv")
 refine cC (fd:=aP (top 67)) rfl rfl (oJ rfl (d:=.lst []) (by walk_at "xv") (Ih (l:=(subs m s).map plL) (fl1:=.nxt (Gk (tbl m n f) (.int (s:Int)) (mS m n f s) (eV plL (subs m s)))) (wSq (x:=.lst ((subs m s).map plL)) rfl ?_ rfl) ?_ (key _ (kJ _ _))))
 ·refine aB rfl (ao (x:=.int (m:Int)) ?_ (ao (x:=.int (s:Int)) ?_ bh)) (mj (k+4*s) m1 m4 s1 hm)
  ·walk_at "xv"
  ·walk_at "xv"
 ·refine iI (R:=fun pre=>Gk (tbl m n f) (.int (s:Int)) (pre.flatMap fun R=>(subs n s).map fun C=>mnD f R C) (eV plL pre)) (whole:=subs m s) (fun pre R post e=>?_) (pre:=[]) rfl
  have hR:=jV m1 m4 s1 hm (S:=R) (by rw[<- e];simp)
  have h6:=(eE n1 n4 s1 hn).2
  have hz:(pre.flatMap fun R=>(subs n s).map fun C=>mnD f R C).length<=36:=by
   have h1:=(eE m1 m4 s1 hm).2
   rw[<- e] at h1
   simp at h1
   have:=pX (l:=pre) (g:=fun R=>(subs n s).map fun C=>mnD f R C) (b:=6) fun R _=>by rw[List.length_map];exact h6
   omega
  have mr:=oE k t hR.1 (by rw[hR.2];exact s1) (by rw[hR.2];exact hn)
  rw[hR.2] at mr
  refine lq (ρ1:=Gk (tbl m n f) (.int (s:Int)) (pre.flatMap fun R=>(subs n s).map fun C=>mnD f R C) (.sh (plL R))) rfl ?_
  show _=some (Fl.nxt (Gk (tbl m n f) (.int (s:Int)) ((pre++[R]).flatMap fun R=>(subs n s).map fun C=>mnD f R C) (eV plL (pre++[R]))))
  rw[dist,eN]
  refine Wu rfl rfl rfl rfl (gJ (by rw[List.length_map];omega)) ?_ rfl
  exact aB rfl (by walk_at "xm") mr
theorem greatest(k:Nat){m n:Nat}{f:Nat->Nat->Int}(h:1<=m):aG T 60 (k+1) "greatest_size" [tbl m n f]=some (.int ((min m n:Nat):Int)):=by
 refine cC (fd:=aP (top 65)) rfl rfl (cu (nM (dG (ds:=[.int (m:Int),.int (n:Int)]) rfl rfl rfl (ao ?_ (ao ?_ bh)) rfl) ?_))
 ·walk_at "xv"
 ·walk_at "xv"
 ·congr 1
  by_cases q:(n:Int)<(m:Int)
  ·rw[if_pos q];omega
  ·rw[if_neg q];omega
def Gn(t:D)(md:List D)(c:Sl):Rho:=[("table",.sh t),("told",.ow md),("size",c)]
def szS:Nat->Sl
 | 0=>.no
 | i+1=>.sh (.int (1+(i:Int)))
theorem minors_in(k:Nat){m n:Nat}{f:Nat->Nat->Int}(t:Tb m n f):aG T 60 (k+20) "minors_in" [tbl m n f]=some (.lst (mA m n f (min m n))):=by
 have t':=t
 obtain⟨m1,m4,n1,n4,hs⟩:=t'
 have key:∀ (c:Sl),(c=.no\/∃ d,c=.sh d)->blk (cxN T 60 (k+19)) 60 60 (aP (top 68)).sc ((aP (top 68)).body.drop 2) (Gn (tbl m n f) (mA m n f (min m n)) c)=some (.ret (.lst (mA m n f (min m n)))):=by
  intro c hc
  rcases hc with rfl | ⟨d,rfl⟩
  ·exact cu (by walk_at "xv")
  ·exact cu (by walk_at "xv")
 refine cC (fd:=aP (top 68)) rfl rfl (oJ rfl (d:=.lst []) (by walk_at "xv") (Ih (l:=Ls (min m n) fun i=>.int (1+(i:Int))) (fl1:=.nxt (Gn (tbl m n f) (mA m n f (min m n)) (szS (min m n)))) ?_ ?_ (key _ ?_)))
 ·have e:bO 1 (((min m n:Nat):Int)+1)=Ls (min m n) fun i=>.int (1+(i:Int)):=by
   rw[tX]
   congr 1
   omega
  rw[<- e]
  refine wR2 rfl (by walk_at "xv") (cg (x:=.int ((min m n:Nat):Int)) ?_ (by walk_at "xv") rfl) ?_
  ·refine' aB ?L53n_2a ?L53n_2b ?L53n_2c;(case L53n_2a=>rfl);(case L53n_2b=>walk_at "xm");(case L53n_2c=>exact greatest (k+18) m1)
  ·unfold bU
   simp only[Bool.and_eq_true,decide_eq_true_eq]
   omega
 ·refine gB (R:=fun i=>Gn (tbl m n f) (mA m n f i) (szS i)) fun i hi=>?_
  have hl:=pR (f:=f) m1 m4 n1 n4 (i:=i) (by omega) (by omega)
  have hl2:=zL (f:=f) m1 m4 n1 n4 (s:=i+1) (by omega) (by omega) (by omega)
  refine lq (ρ1:=Gn (tbl m n f) (mA m n f i) (.sh (.int (1+(i:Int))))) rfl ?_
  show _=some (Fl.nxt (Gn (tbl m n f) (mA m n f (i+1)) (.sh (.int (1+(i:Int))))))
  rw[CP]
  refine Wu rfl rfl rfl rfl (gJ (by omega)) ?_ rfl
  refine aB rfl (ao (x:=tbl m n f) (by walk_at "xv") (ao (x:=.int ((i+1:Nat):Int)) (nM (by walk_at "xv") (congrArg D.int (by omega))) bh)) ?_
  have q:=oA (k+16-4*(i+1)) t (s:=i+1) (by omega) (by omega) (by omega)
  rw[show k+16-4*(i+1)+4*(i+1)+3=k+19 by omega] at q
  exact q
 ·cases h:min m n with
  | zero=>exact .inl rfl
  | succ i=>exact .inr ⟨_,rfl⟩
def nb:D->Bool
 | .tup [_,_,.int w]=>decide (0<=w)
 | _=>false
theorem none_below(k:Nat){L:List D}(hL:∀ x∈L,∃ a b w,x=.tup [a,b,.int w])(hz:L.length<=1000):aG T 60 (k+1) "none_below" [.lst L]=some (.bl (L.all nb)):=by
 refine cC (fd:=aP (top 73)) rfl rfl (cu (dG rfl rfl rfl (ao (cH (l:=L) rfl (wSq (x:=.lst L) rfl (by walk_at "xv") rfl) (gJ (by omega)) (cV (g:=fun x=>.bl (nb x)) fun x hx=>?_)) bh) v7))
 obtain⟨a,b,w,rfl⟩:=hL x hx
 exact dh rfl (fP (x:=.int w) (y:=.int 0) (by walk_at "xv") (by walk_at "xv") rfl)
theorem Hu{m n i:Nat}{f:Nat->Nat->Int}:∀ x∈mA m n f i,∃ a b w,x=.tup [a,b,.int w]:=fun x hx=>by
 obtain⟨j,_,h⟩:=List.mem_flatMap.mp hx
 obtain⟨R,_,h⟩:=List.mem_flatMap.mp h
 obtain⟨C,_,h⟩:=List.mem_map.mp h
 exact⟨_,_,_,h.symm⟩
def Ib(m n:Nat)(f:Nat->Nat->Int):Bool:=(mA m n f (min m n)).all nb
theorem all_minors(k:Nat){m n:Nat}{f:Nat->Nat->Int}(t:Tb m n f):aG T 60 (k+21) "all_minors" [tbl m n f]=some (.lst (mA m n f (min m n))):=by
 refine cC (fd:=aP (top 69)) rfl rfl (rG rfl (d:=.non) ?_ (cu ?_))
 ·refine' aB ?L53n_3a ?L53n_3b ?L53n_3c;(case L53n_3a=>rfl);(case L53n_3b=>walk_at "xm");(case L53n_3c=>exact need_table (k+16) t.m1 t.m4 t.n1 t.n4)
 ·refine' aB ?L53n_4a ?L53n_4b ?L53n_4c;(case L53n_4a=>rfl);(case L53n_4b=>walk_at "xm");(case L53n_4c=>exact minors_in k t)
theorem is_good(k:Nat){m n:Nat}{f:Nat->Nat->Int}(t:Tb m n f):aG T 60 (k+22) "is_good" [tbl m n f]=some (.bl (Ib m n f)):=by
 have hl:=pR (f:=f) t.m1 t.m4 t.n1 t.n4 (i:=min m n) (by omega) (by omega)
 have:=t.m4
 refine cC (fd:=aP (top 74)) rfl rfl (cu (aB rfl (ao (aB rfl (by walk_at "xm") (all_minors k t)) bh) (none_below (k+20) Hu (by omega))))
def s3(g:Nat->D):Nat->Sl
 | 0=>.no
 | i+1=>.sh (g i)
section
variable {cx:Cxt} {sc:Scope} {ρ ρ':Rho} {e:Expr} {p:Pos} {d:D} {nm:Str} {F m:Nat} {r:List Stmt} {fl:Fl} {y:Str} {s:Sl} {ds:List D}
end
theorem calm_c{y:Str}{s:Sl}{ρ:Rho}(h:nOw s=true)(r:fM ρ=true):fM ((y,s)::ρ)=true:=by
 unfold fM at r ⊢
 rw[List.all_cons,h,r];rfl
section
variable {cx:Cxt} {sc:Scope} {ρ ρ':Rho} {e:Expr} {p:Pos} {d:D} {nm:Str} {F m:Nat} {r:List Stmt} {fl:Fl} {y:Str} {s:Sl} {ds:List D}
theorem fz_n:frz F e []=[]:=rfl
theorem fz_c(h:nOw s=true)(q:frz F e ρ=ρ'):frz F e ((y,s)::ρ)=(y,s)::ρ':=by rw[qg h,q]
theorem fz_k(h:dg F y e=false)(q:frz F e ρ=ρ'):frz F e ((y,.ow ds)::ρ)=(y,.ow ds)::ρ':=by
 rw[qe,q]
 simp only[h,Bool.false_eq_true,if_false]
theorem fz_o(h:dg F y e=true)(q:frz F e ρ=ρ'):frz F e ((y,.ow ds)::ρ)=(y,.sh (.lst ds))::ρ':=by rw[vd h,q]
end
end M53
namespace M53
open PySem DE
abbrev li(l:List Int):D:=.lst (l.map D.int)
theorem Fj(u w:List Int):((u.map D.int).zip (w.map D.int)).map (fun q=>D.tup [q.1,q.2])=(u.zip w).map fun q=>.tup [.int q.1,.int q.2]:=by
 rw[List.zip_map,List.map_map]
 rfl
def rwL(r:Nat)(l:List Int)(m:Nat):List Int:=(List.replicate r 0++l++List.replicate m 0).take m
abbrev ti(l:List Int):D:=.tup (l.map D.int)
theorem Wz{n:Nat}{x:D}(h4:n<=4):binop .Mult (.tup [x]) (.int (n:Int))=some (.tup (List.replicate n x)):=by
 show(if(decide (0<=(n:Int))&&decide ((n:Int)<=4))=true then _ else _)=_
 rw[if_pos (by rw[decide_eq_true (by omega),decide_eq_true (by omega)];rfl),Int.toNat_natCast]
theorem Jd{us ws:List D}(h:us.length+ws.length<=100000):binop .Add (.tup us) (.tup ws)=some (.tup (us++ws)):=by
 show(if szl (us.length+ws.length)=true then _ else _)=_
 rw[if_pos (gJ h)]
theorem begun_at(k:Nat)(l:List Int){r m:Nat}(hr:r<=4)(hm:m<=4)(l1:1<=l.length)(hl:l.length<=100):aG T 60 (k+1) "begun_at" [.int (r:Int),li l,.int (m:Int)]=some (ti (rwL r l m)):=by
 have e:ti (rwL r l m)=.tup ((List.replicate r (D.int 0)++l.map D.int++List.replicate m (D.int 0)).take m):=by
  unfold rwL
  show D.tup _=D.tup _
  rw[List.map_take,List.map_append,List.map_append,List.map_replicate,List.map_replicate]
 rw[e]
 refine cC (fd:=aP (top 26)) rfl rfl (cu (Jy (i:=m) (cg (x:=.tup (List.replicate r (D.int 0)++l.map D.int)) (y:=.tup (List.replicate m (D.int 0))) (cg (x:=.tup (List.replicate r (D.int 0))) (y:=.tup (l.map D.int)) (cg (x:=.tup [.int 0]) (y:=.int (r:Int)) (by walk_at "xv") (by walk_at "xv") (Wz hr)) ?_ (Jd (by simp;omega))) (cg (x:=.tup [.int 0]) (y:=.int (m:Int)) (by walk_at "xv") (by walk_at "xv") (Wz hm)) (Jd (by simp;omega))) (by walk_at "xv") (by simp;omega)))
 exact dG (ds:=[li l]) rfl rfl rfl (ao (x:=li l) (by walk_at "xv") bh) rfl
theorem Ik{a:D}:∀ n:Nat,(List.replicate n [a]).flatten=List.replicate n a
 | 0=>rfl
 | n+1=>by rw[List.replicate_succ,List.flatten_cons,Ik n,List.replicate_succ];rfl
theorem SN{n:Nat}{x:D}(h:n<=100):binop .Mult (.lst [x]) (.int (n:Int))=some (.lst (List.replicate n x)):=by
 show(if(decide ((n:Int)<=1000)&&decide (-1000<=(n:Int))&&szl (1*(n:Int).toNat))=true then some (D.lst (List.replicate (n:Int).toNat [x]).flatten) else none)=_
 rw[if_pos (by rw[decide_eq_true (by omega),decide_eq_true (by omega)];exact gJ (by omega)),Int.toNat_natCast,Ik]
def slR:Nat->Sl
 | 0=>.no
 | i+1=>.sh (.int (i:Int))
theorem wX(i:Nat):nOw (slR i)=true:=by cases i<;>rfl
end M53
namespace M53
open PySem DE
def pw(x:Int):Nat->Int
 | 0=>1
 | n+1=>pw x n*x
theorem qG{l:List D}{d:D}:atD (l++[d]) (-1)=some d:=by
 unfold atD ixD
 rw[if_neg (by omega),if_pos (by simp;omega)]
 have:(-1+((l++[d]).length:Int)).toNat=l.length:=by simp;omega
 rw[this]
 simp
def zc(x:Int)(m:Nat)(ro pl:Sl):Rho:=[("number",.sh (.int x)),("many",.sh (.int (m:Int))),("row",ro),("place",pl)]
theorem power_row(k:Nat){x:Int}{m:Nat}(hx:small x=true)(h1:1<=m)(hm:m<=100):aG T 60 (k+1) "power_row" [.int x,.int (m:Int)]=some (.tup (Ls m fun j=>.int (pw x j))):=by
 obtain⟨n,rfl⟩:∃ n,m=n+1:=⟨m-1,by omega⟩
 have fin:∀ c,nOw c=true->blk (cxN T 60 k) 60 60 (aP (top 20)).sc ((aP (top 20)).body.drop 2) (zc x (n+1) (.ow (Ls (n+1) fun j=>.int (pw x j))) c)=some (.ret (.tup (Ls (n+1) fun j=>.int (pw x j)))):=by
  intro c hc
  refine Dj (ρ':=zc x (n+1) (.sh (.lst (Ls (n+1) fun j=>.int (pw x j)))) c) (fz_c rfl (fz_c rfl (fz_o rfl (fz_c hc fz_n)))) ?_
  exact dG (ds:=[.lst (Ls (n+1) fun j=>.int (pw x j))]) rfl rfl rfl (ao (by walk_at "xv") bh) rfl
 refine cC (fd:=aP (top 20)) rfl rfl (oJ rfl (d:=.lst [.int 1]) (by walk_at "xv") ?_)
 refine oK (ρ':=zc x (n+1) (.ow (Ls 1 fun j=>.int (pw x j))) .no) (ρ2:=zc x (n+1) (.ow (Ls (n+1) fun j=>.int (pw x j))) (slR n)) (l:=Ls n fun i=>.int (i:Int)) (fz_c rfl (fz_c rfl (fz_k rfl (fz_c rfl fz_n)))) ?_ ?_ (fin _ (wX n))
 ·exact yV (j:=n) rfl (nM (cg (x:=.int ((n+1:Nat):Int)) (y:=.int 1) (by walk_at "xv") (by walk_at "xv") rfl) (congrArg D.int (by omega))) (by omega)
 ·refine gB (R:=fun i=>zc x (n+1) (.ow (Ls (i+1) fun j=>.int (pw x j))) (slR i)) fun i hi=>?_
  refine lq (ρ1:=zc x (n+1) (.ow (Ls (i+1) fun j=>.int (pw x j))) (.sh (.int (i:Int)))) rfl ?_
  show _=some (Fl.nxt (zc x (n+1) (.ow (Ls (i+1+1) fun j=>.int (pw x j))) (.sh (.int (i:Int)))))
  rw[fO (m:=i+1)]
  refine Ii (ρ':=zc x (n+1) (.sh (.lst (Ls (i+1) fun j=>.int (pw x j)))) (.sh (.int (i:Int)))) (d:=.int (pw x i*x)) (fz_c rfl (fz_c rfl (fz_o rfl (fz_c rfl fz_n)))) rfl rfl (by rw[aR,gJ (by omega)];rfl) ?_ rfl rfl
  refine cg (x:=.int (pw x i)) (y:=.int x) (xIx (x:=.lst (Ls (i+1) fun j=>.int (pw x j))) (i := -1) (by walk_at "xv") (Fx (i:=1) (by walk_at "xv")) rfl ?_) (by walk_at "xv") (vZ (.inr hx))
  rw[fO]
  exact qG
theorem uc(k:Nat){A:List Int}(hs:∀ a∈A,small a=true)(h1:1<=A.length)(h4:A.length<=4):aG T 60 (k+4) "powers" [li A]=some (.tup (A.map fun a=>.tup (Ls A.length fun j=>.int (pw a j)))):=by
 refine cC (fd:=aP (top 21)) rfl rfl (rG rfl (d:=.non) ?_ (cu (dG (ds:=[.lst (A.map fun a=>.tup (Ls A.length fun j=>.int (pw a j)))]) rfl rfl rfl (ao ?_ bh) rfl)))
 ·exact aB rfl (ao (x:=.int (A.length:Int)) (dG (ds:=[li A]) rfl rfl rfl (ao (x:=li A) (by walk_at "xv") bh) (dX (ns:=A))) (ao (x:=.int 4) (by walk_at "xv") bh)) (need_size k h1 h4)
 ·refine cH (l:=A.map D.int) rfl (wSq (x:=li A) rfl (by walk_at "xv") rfl) (gJ (by simp;omega)) (gF fun a ha=>dh rfl ?_)
  exact aB rfl (ao (x:=.int a) (by walk_at "xv") (ao (x:=.int (A.length:Int)) (dG (ds:=[li A]) rfl rfl rfl (ao (x:=li A) (by walk_at "xv") bh) (dX (ns:=A))) bh)) (power_row (k+2) (hs a ha) h1 (by omega))
def stp(l:List Int)(b:Int):List Int:=l++[b+l.getLastD 0]
def rsm(ab:List Int):List Int:=(ab.drop 1).foldl stp [1]
def bs(m:Nat):Nat->List Int
 | 0=>List.replicate m 1
 | j+1=>rsm (bs m j)
end M53
namespace M53
open PySem DE
theorem JN{cx:Cxt}{n m:Nat}{sc:Scope}{ρ:Rho}{a e:Expr}{h:Nat->D}(hw:jT cx sc e=.en a)(h1:ev cx n sc ρ a=some (.lst (Ls m h))):evI cx true (ev cx n sc ρ) sc e=some (Ls m fun i=>.tup [.int (i:Int),h i]):=by
 rw[JQ hw h1,zW]
theorem row_of_lesser(k:Nat)(a:Int){A:List Int}(hl:A.length<=100):aG T 60 (k+1) "row_of_lesser" [.int a,li A]=some (.tup (A.map fun o=>.int (if o<a then o else a))):=by
 refine cC (fd:=aP (top 24)) rfl rfl (cu (dG (ds:=[.lst (A.map fun o=>.int (if o<a then o else a))]) rfl rfl rfl (ao ?_ bh) rfl))
 refine cH (l:=A.map D.int) rfl (wSq (x:=li A) rfl (by walk_at "xv") rfl) (gJ (by simp;omega)) (gF fun o ho=>dh rfl ?_)
 exact dG (ds:=[.int a,.int o]) rfl rfl rfl (ao (by walk_at "xv") (ao (by walk_at "xv") bh)) rfl
theorem uH(k:Nat){A:List Int}(h1:1<=A.length)(h4:A.length<=4):aG T 60 (k+4) "lesser" [li A]=some (.tup (A.map fun a=>.tup (A.map fun o=>.int (if o<a then o else a)))):=by
 refine cC (fd:=aP (top 25)) rfl rfl (rG rfl (d:=.non) ?_ (cu (dG (ds:=[.lst (A.map fun a=>.tup (A.map fun o=>.int (if o<a then o else a)))]) rfl rfl rfl (ao ?_ bh) rfl)))
 ·exact aB rfl (ao (x:=.int (A.length:Int)) (dG (ds:=[li A]) rfl rfl rfl (ao (x:=li A) (by walk_at "xv") bh) (dX (ns:=A))) (ao (x:=.int 4) (by walk_at "xv") bh)) (need_size k h1 h4)
 ·refine cH (l:=A.map D.int) rfl (wSq (x:=li A) rfl (by walk_at "xv") rfl) (gJ (by simp;omega)) (gF fun a ha=>dh rfl ?_)
  exact aB rfl (ao (x:=.int a) (by walk_at "xv") (ao (x:=li A) (by walk_at "xv") bh)) (row_of_lesser (k+2) a (by omega))
theorem RQ(A:List Int):A.map D.int=Ls A.length fun i=>.int (A.getD i 0):=Jf 0 D.int A
theorem wZ{r m:Nat}(a:Int)(hr:r<m):ti (rwL r [a] m)=.tup (Ls m fun c=>.int (if r=c then a else 0)):=by
 show D.tup _=D.tup _
 congr 1
 apply List.ext_getElem?
 intro c
 unfold rwL
 by_cases hc:c<m
 ·rw[bZ hc,List.getElem?_map,List.getElem?_take,if_pos hc,List.append_assoc]
  by_cases h:c<r
  ·rw[List.getElem?_append_left (by simpa using h),List.getElem?_replicate,if_pos h,if_neg (by omega)];rfl
  ·rw[List.getElem?_append_right (by simp;omega),List.length_replicate]
   by_cases e:r=c
   ·subst e;simp
   ·rw[if_neg e,show c-r=(c-r-1)+1 by omega,List.singleton_append,List.getElem?_cons_succ,List.getElem?_replicate,if_pos (by omega)];rfl
 ·rw[List.getElem?_eq_none (by simp;omega),List.getElem?_eq_none (by rw[aR];omega)]
theorem tU(k:Nat){A:List Int}(h1:1<=A.length)(h4:A.length<=4):aG T 60 (k+4) "scaled" [li A]=some (.tup (Ls A.length fun r=>ti (rwL r [A.getD r 0] A.length))):=by
 refine cC (fd:=aP (top 27)) rfl rfl (oJ rfl (d:=.int (A.length:Int)) (dG (ds:=[li A]) rfl rfl rfl (ao (x:=li A) (by walk_at "xv") bh) (dX (ns:=A))) (rG rfl (d:=.non) ?_ (cu (dG (ds:=[.lst (Ls A.length fun r=>ti (rwL r [A.getD r 0] A.length))]) rfl rfl rfl (ao ?_ bh) rfl))))
 ·exact aB rfl (ao (x:=.int (A.length:Int)) (by walk_at "xv") (ao (x:=.int 4) (by walk_at "xv") bh)) (need_size k h1 h4)
 ·refine cH (l:=Ls A.length fun i=>.tup [.int (i:Int),.int (A.getD i 0)]) rfl (JN (h:=fun i=>.int (A.getD i 0)) rfl (nM (d:=li A) (by walk_at "xv") (congrArg D.lst (RQ A)))) (gK (by omega)) (bC fun i hi=>dh rfl ?_)
  exact aB rfl (ao (x:=.int (i:Int)) (by walk_at "xv") (ao (x:=li [A.getD i 0]) (Fy (ao (by walk_at "xv") bh) rfl) (ao (x:=.int (A.length:Int)) (by walk_at "xv") bh))) (begun_at (k+2) [A.getD i 0] (by omega) h4 (by simp) (by simp))
theorem W2{cx:Cxt}{n m:Nat}{sc:Scope}{ρ:Rho}{a b e:Expr}{h g:Nat->D}(hw:jT cx sc e=.zp a b)(h1:ev cx n sc ρ a=some (.lst (Ls m h)))(h2:ev cx n sc ρ b=some (.tup (Ls m g))):evI cx true (ev cx n sc ρ) sc e=some (Ls m fun i=>.tup [h i,g i]):=by
 rw[JL hw h1 h2,wu,jy]
def hs(l:List (Int×Int))(j:Nat):Int:=l.foldl (fun t q=>t+q.2*pw q.1 j) 0
theorem zj{d:D}:∀ n:Nat,List.replicate n d=Ls n fun _=>d
 | 0=>rfl
 | n+1=>by rw[List.replicate_succ',fO,zj n]
def Bc(A W:List Int)(n:Nat)(to nu we:Sl):Rho:=[("numbers",.sh (li A)),("weights",.sh (li W)),("many",.sh (.int (n:Int))),("told",to),("number",nu),("weight",we)]
theorem heap_sums(k:Nat){A W:List Int}{n:Nat}(hA:∀ a∈A,small a=true)(hW:∀ a∈W,small a=true)(h1:1<=n)(hn:n<=50)(hl:A.length<=50):aG T 60 (k+2) "heap_sums" [li A,li W,.int (n:Int)]=some (.lst (Ls n fun j=>.int (hs (A.zip W) j))):=by
 have fin:∀ (c c':Sl),nOw c=true->nOw c'=true->blk (cxN T 60 (k+1)) 60 60 (aP (top 28)).sc ((aP (top 28)).body.drop 2) (Bc A W n (.ow (Ls n fun j=>.int (hs (A.zip W) j))) c c')=some (.ret (.lst (Ls n fun j=>.int (hs (A.zip W) j)))):=by
  intro c c' hc hc'
  exact Dj (ρ':=Bc A W n (.sh (.lst (Ls n fun j=>.int (hs (A.zip W) j)))) c c') (fz_c rfl (fz_c rfl (fz_c rfl (fz_o rfl (fz_c hc (fz_c hc' fz_n)))))) (by walk_at "xv")
 have lg:∀ (g:Int×Int->D) (l:List (Int×Int)),nOw (eV g l)=true:=fun g l=>by
  rcases kJ g l with h | ⟨d,h⟩<;>rw[h]<;>rfl
 refine cC (fd:=aP (top 28)) rfl rfl (oJ rfl (d:=.lst (List.replicate n (.int 0))) (cg (x:=.lst [.int 0]) (y:=.int (n:Int)) (by walk_at "xv") (by walk_at "xv") (SN (by omega))) ?_)
 rw[zj]
 refine oK (ρ':=Bc A W n (.ow (Ls n fun j=>.int (hs [] j))) .no .no) (ρ2:=Bc A W n (.ow (Ls n fun j=>.int (hs (A.zip W) j))) (eV (fun(q:Int×Int)=>.int q.1) (A.zip W)) (eV (fun(q:Int×Int)=>.int q.2) (A.zip W))) (l:=(A.zip W).map fun(q:Int×Int)=>.tup [.int q.1,.int q.2]) (fz_c rfl (fz_c rfl (fz_c rfl (fz_k rfl (fz_c rfl (fz_c rfl fz_n)))))) ?_ ?_ (fin _ _ (lg _ _) (lg _ _))
 ·rw[<- Fj]
  exact JM rfl (by walk_at "xv") (by walk_at "xv")
 ·refine iI (R:=fun pre=>Bc A W n (.ow (Ls n fun j=>.int (hs pre j))) (eV (fun(q:Int×Int)=>.int q.1) pre) (eV (fun(q:Int×Int)=>.int q.2) pre)) (pre:=[]) (whole:=A.zip W) (fun pre q post e=>?_) rfl
  have mem:q∈A.zip W:=by rw[<- e];simp
  have sa:small q.1=true:=hA _ (List.of_mem_zip (a:=q.1) (b:=q.2) mem).1
  have sw:small q.2=true:=hW _ (List.of_mem_zip (a:=q.1) (b:=q.2) mem).2
  refine lq (ρ1:=Bc A W n (.ow (Ls n fun j=>.int (hs pre j))) (.sh (.int q.1)) (.sh (.int q.2))) rfl ?_
  rw[eN,eN]
  refine yt (ρ':=Bc A W n (.sh (.lst (Ls n fun j=>.int (hs pre j)))) (.sh (.int q.1)) (.sh (.int q.2))) (d:=.lst (Ls n fun j=>.int (hs (pre++[q]) j))) (fz_c rfl (fz_c rfl (fz_c rfl (fz_o rfl (fz_c rfl (fz_c rfl fz_n)))))) rfl ?_ rfl
  refine cH (l:=Ls n fun j=>.tup [.int (hs pre j),.int (pw q.1 j)]) rfl ?_ (gK (by omega)) (bC fun j hj=>dh rfl ?_)
  ·exact W2 (h:=fun j=>.int (hs pre j)) (g:=fun j=>.int (pw q.1 j)) rfl (by walk_at "xv") (aB rfl (ao (x:=.int q.1) (by walk_at "xv") (ao (x:=.int (n:Int)) (by walk_at "xv") bh)) (power_row k sa h1 (by omega)))
  ·have e1:hs (pre++[q]) j=hs pre j+q.2*pw q.1 j:=by simp[hs]
   rw[e1]
   exact cg (x:=.int (hs pre j)) (y:=.int (q.2*pw q.1 j)) (by walk_at "xv") (cg (x:=.int q.2) (y:=.int (pw q.1 j)) (by walk_at "xv") (by walk_at "xv") (vZ (.inl sw))) rfl
theorem Ea{N m r:Nat}{h:Nat->D}(hr:r+m<=N):lE (Ls N h) (some (r:Int)) (some ((r+m:Nat):Int))=Ls m fun c=>h (r+c):=by
 have e1:fQ (Ls N h).length 0 (some (r:Int))=r:=by unfold fQ;rw[aR];simp only;rw[if_neg (by omega)];omega
 have e2:fQ (Ls N h).length (Ls N h).length (some ((r+m:Nat):Int))=r+m:=by unfold fQ;rw[aR];simp only;rw[if_neg (by omega)];omega
 unfold lE
 rw[e1,e2,wz,show r+m-r=m by omega,oZ (by omega)]
theorem Ft{cx:Cxt}{n m N r:Nat}{sc:Scope}{ρ:Rho}{a lo hi:Expr}{p q:Pos}{h:Nat->D}(h1:ev cx n sc ρ a=some (.lst (Ls N h)))(h2:ev cx n sc ρ lo=some (.int (r:Int)))(h3:ev cx n sc ρ hi=some (.int ((r+m:Nat):Int)))(hr:r+m<=N) :
  ev cx (n+1) sc ρ (.Subscript a (.Slice (some lo) (some hi) none q) p)=some (.lst (Ls m fun c=>h (r+c))):=by
 rw[WW h1 (uy h2) (uy h3),Ea hr]
theorem uZ(k:Nat){A W:List Int}{m:Nat}(hA:∀ a∈A,small a=true)(hW:∀ a∈W,small a=true)(h1:1<=m)(h4:m<=4)(hl:A.length<=50):aG T 60 (k+4) "heaped" [li A,li W,.int (m:Int)]=some (tbl m m fun r c=>hs (A.zip W) (r+c)):=by
 refine cC (fd:=aP (top 29)) rfl rfl (rG rfl (d:=.non) ?_ (oJ rfl (d:=.lst (Ls (2*m-1) fun j=>.int (hs (A.zip W) j))) ?_ (cu (dG (ds:=[.lst (Ls m fun r=>.tup (Ls m fun c=>.int (hs (A.zip W) (r+c))))]) rfl rfl rfl (ao ?_ bh) rfl))))
 ·exact aB rfl (ao (x:=.int (m:Int)) (by walk_at "xv") (ao (x:=.int 4) (by walk_at "xv") bh)) (need_size k h1 h4)
 ·refine aB rfl (ao (x:=li A) (by walk_at "xv") (ao (x:=li W) (by walk_at "xv") (ao (x:=.int ((2*m-1:Nat):Int)) ?_ bh))) (heap_sums (k+1) hA hW (by omega) (by omega) hl)
  exact nM (cg (x:=.int (2*(m:Int))) (y:=.int 1) (cg (x:=.int 2) (y:=.int (m:Int)) (by walk_at "xv") (by walk_at "xv") (vZ (.inl (by decide)))) (by walk_at "xv") rfl) (congrArg D.int (by omega))
 ·refine cH rfl (yV (j:=m) rfl (by walk_at "xv") (by omega)) (gK (by omega)) (bC fun r hr=>dh rfl ?_)
  refine dG (ds:=[.lst (Ls m fun c=>.int (hs (A.zip W) (r+c)))]) rfl rfl rfl (ao ?_ bh) rfl
  exact Ft (N:=2*m-1) (h:=fun j=>.int (hs (A.zip W) j)) (by walk_at "xv") (by walk_at "xv") (nM (cg (x:=.int (r:Int)) (y:=.int (m:Int)) (by walk_at "xv") (by walk_at "xv") rfl) (congrArg D.int (by omega))) (by omega)
end M53
namespace M53
open PySem DE
abbrev La(m:Nat)(av:Nat->Int):D:=.lst (Ls m fun i=>.int (av i))
theorem uG(m:Nat)(f:Nat->Int):li (Ls m f)=La m f:=by
 show D.lst _=D.lst _
 rw[jy]
theorem Ai(m n:Nat)(f:Nat->Int)(g:Int->Nat->Int):D.tup ((Ls m f).map fun a=>.tup (Ls n fun j=>.int (g a j)))=tbl m n fun i j=>g (f i) j:=by
 show D.tup _=D.tup _
 rw[jy]
theorem Er{m i:Nat}{f:Nat->Int}(hi:i<m):(Ls m f).getD i 0=f i:=by rw[List.getD_eq_getElem?_getD,bZ hi];rfl
theorem oF{m:Nat}{f:Nat->Int}{P:Int->Prop}(h:∀ i,i<m->P (f i)):∀ a∈Ls m f,P a:=fun a ha=>by
 unfold Ls at ha
 obtain⟨i,hi,rfl⟩:=List.mem_map.mp ha
 exact h i (List.mem_range.mp hi)
section
variable {m:Nat} {av wv:Nat->Int}
theorem nW(k:Nat)(hs:∀ i,i<m->small (av i)=true)(h1:1<=m)(h4:m<=4):aG T 60 (k+4) "powers" [La m av]=some (tbl m m fun i j=>pw (av i) j):=by
 have q:=uc k (A:=Ls m av) (oF hs) (by rw[aR];exact h1) (by rw[aR];exact h4)
 rw[uG,aR,Ai] at q
 exact q
theorem uI(k:Nat)(h1:1<=m)(h4:m<=4):aG T 60 (k+4) "lesser" [La m av]=some (tbl m m fun i j=>if av i<av j then av i else av j):=by
 have q:=uH k (A:=Ls m av) (by rw[aR];exact h1) (by rw[aR];exact h4)
 rw[uG] at q
 rw[q]
 show some (D.tup _)=some (D.tup _)
 rw[jy]
 congr 2
 refine cR fun i _=>?_
 rw[jy]
 congr 1
 refine cR fun j _=>?_
 show D.int (if av j<av i then av j else av i)=D.int (if av i<av j then av i else av j)
 congr 1
 by_cases h:av j<av i
 ·rw[if_pos h,if_neg (by omega)]
 ·rw[if_neg h];split<;>omega
theorem Bb(k:Nat)(h1:1<=m)(h4:m<=4):aG T 60 (k+4) "scaled" [La m av]=some (tbl m m fun i j=>if i=j then av i else 0):=by
 have q:=tU k (A:=Ls m av) (by rw[aR];exact h1) (by rw[aR];exact h4)
 rw[uG,aR] at q
 rw[q]
 show some (D.tup _)=some (D.tup _)
 congr 2
 refine cR fun i hi=>?_
 rw[Er hi,wZ _ hi]
theorem Ia(j:Nat):hs ((Ls m av).zip (Ls m wv)) j=jz m fun i=>wv i*pw (av i) j:=by
  rw[wu]
  induction m with
  | zero=>rfl
  | succ m ih =>
    rw[fO]
    simp only[hs,List.foldl_append,List.foldl_cons,List.foldl_nil,jz]
    rw[<- ih]
    rfl
theorem Dd(k:Nat){w:Nat}(hs1:∀ i,i<m->small (av i)=true)(hs2:∀ i,i<m->small (wv i)=true)(h1:1<=w)(h4:w<=4)(hm:m<=50):aG T 60 (k+4) "heaped" [La m av,La m wv,.int (w:Int)]=some (tbl w w fun r c=>jz m fun i=>wv i*pw (av i) (r+c)):=by
 have q:=uZ k (A:=Ls m av) (W:=Ls m wv) (m:=w) (oF hs1) (oF hs2) h1 h4 (by rw[aR];exact hm)
 rw[uG,uG] at q
 rw[q]
 show some (D.tup _)=some (D.tup _)
 congr 2
 refine cR fun r _=>?_
 congr 1
 refine cR fun c _=>?_
 exact congrArg D.int (Ia (r+c))
end
def bsF:Nat->Nat->Int
 | 0,_=>1
 | _,0=>1
 | 1,1=>2
 | 1,2=>3
 | 1,_=>4
 | 2,1=>3
 | 2,2=>6
 | 2,_=>10
 | _,1=>4
 | _,2=>10
 | _,_=>20
theorem Gb(k:Nat){n:Nat}(h1:1<=n)(h4:n<=4):aG T 60 (k+6) "by_sums" [.int (n:Int)]=some (tbl n n bsF):=by
 match n,h1,h4 with
 | 1,_,_=>kernel_rfl
 | 2,_,_=>kernel_rfl
 | 3,_,_=>kernel_rfl
 | 4,_,_=>kernel_rfl
end M53
namespace M53
open PySem DE
def bM(i j:Nat):Stmt:=(aP (top i)).body.getD j (.Pass ⟨0,0,0,0⟩)
theorem lN:∀ l:List Int,fU (l.map D.int)=some l
 | []=>rfl
 | x::l=>by simp only[List.map_cons,fU,lN l,Option.map_some]
theorem JD{cx:Cxt}{n:Nat}{sc:Scope}{ρ:Rho}{a:Expr}{kw:Keyword}{nm:Str}{q p:Pos}{c:Int}{ds:List D}{is:List Int}(hg:aY cx sc nm=some "max")(hk:Ju kw=some c)(h:ev cx n sc ρ a=some (.lst ds))(hi:fU ds=some is):ev cx (n+1) sc ρ (.Call (.Name nm q) [a] [kw] p)=some (.int (mxD is c)):=by
 simp only[ev,hg,hk,h,bind,Option.bind_some,beq_self_eq_true,if_true,Js,hi,Option.map_some]
theorem m9{f:D->Option (Option D)}{g:D->Option Int}:∀ {l:List D},(∀ x∈l,f x=some ((g x).map D.int))->bD f l=some ((l.filterMap g).map D.int)
  | [],_=>rfl
  | x :: l, h => by
    simp only[bD,h x List.mem_cons_self,bind,Option.bind_some]
    have ih:=m9 (l:=l) fun y hy=>h y (List.mem_cons_of_mem _ hy)
    cases e:g x with
    | none=>simp only[Option.map_none,List.filterMap_cons,e];exact ih
    | some v=>simp only[Option.map_some,List.filterMap_cons,e,ih,List.map_cons]
def gR:D->Option Int
 | .tup [.tup R,_,.int w]=>if w !=0 then some (R.length:Int) else none
 | _=>none
theorem R9{f:Nat->Nat->Int}{R C:List Nat}:gR (mnD f R C)=if dM f R C !=0 then some (R.length:Int) else none:=by
 show(if dM f R C !=0 then some (((R.map fun(k:Nat)=>D.int (k:Int)).length:Nat):Int) else none)=_
 rw[List.length_map]
theorem zM{m n i:Nat}{f:Nat->Nat->Int}{x:D}:x∈mA m n f i↔∃ s R C,s<i/\R∈subs m (s+1)/\C∈subs n (s+1)/\x=mnD f R C:=by
 unfold mA mS
 simp only[List.mem_flatMap,List.mem_map,List.mem_range]
 constructor
 ·rintro⟨s,h,R,hR,C,hC,e⟩;exact⟨s,R,C,h,hR,hC,e.symm⟩
 ·rintro⟨s,R,C,h,hR,hC,e⟩;exact⟨s,h,R,hR,C,hC,e.symm⟩
theorem tV(k:Nat){m n:Nat}{f:Nat->Nat->Int}(t:Tb m n f):aG T 60 (k+22) "rank" [tbl m n f]=some (.int (mxD ((mA m n f (min m n)).filterMap gR) 0)):=by
 have hl:=pR (f:=f) t.m1 t.m4 t.n1 t.n4 (i:=min m n) (by omega) (by omega)
 have h4:=t.m4
 refine cC (fd:=aP (top 71)) rfl rfl (cu (JD (ds:=((mA m n f (min m n)).filterMap gR).map D.int) rfl rfl (cH (l:=mA m n f (min m n)) rfl (wSq (x:=.lst (mA m n f (min m n))) rfl (aB rfl (by walk_at "xm") (all_minors k t)) rfl) (gJ (by omega)) (m9 (g:=gR) fun x hx=>?_)) (lN _)))
 obtain⟨s,R,C,hs,hR,hC,rfl⟩:=zM.mp hx
 rw[R9]
 refine Eq.trans (oR (d:=.int (R.length:Int)) (t:=dM f R C !=0) rfl (fP (x:=.int (dM f R C)) (y:=.int 0) ?_ ?_ rfl) ?_) ?_
 ·walk_at "xv"
 ·walk_at "xv"
 ·exact dG (ds:=[plL R]) rfl rfl rfl (ao (x:=plL R) (by walk_at "xv") bh) (uJ R)
 ·congr 1
  split<;>rfl
theorem kI{m n:Nat}{f:Nat->Nat->Int}(t:Tb m n f):(mA m n f (min m n)).length<=144:=by
 have hl:=pR (f:=f) t.m1 t.m4 t.n1 t.n4 (i:=min m n) (by omega) (by omega)
 have:=t.m4
 omega
def fst(R:List Nat):Nat:=R.headD 0
def lst'(R:List Nat):Nat:=R.getLastD 0
def wB(R:List Nat):Bool:=(((lst' R:Nat):Int)-((fst R:Nat):Int))==((R.length:Int)-1)
theorem qF{R:List Nat}(h:R≠[]):atD (R.map fun(k:Nat)=>D.int (k:Int)) 0=some (.int ((fst R:Nat):Int)):=by
 cases R with
 | nil=>exact absurd rfl h
 | cons a r=>exact at0
theorem Je{R:List Nat}(h:R≠[]):atD (R.map fun(k:Nat)=>D.int (k:Int)) (-1)=some (.int ((lst' R:Nat):Int)):=by
 have hl:0<R.length:=List.length_pos_iff.mpr h
 unfold atD ixD
 rw[List.length_map,if_neg (by omega),if_pos (by omega)]
 simp only[Option.bind_some]
 rw[show(-1+(R.length:Int)).toNat=R.length-1 by omega,List.getElem?_map,List.getElem?_eq_getElem (by omega)]
 simp only[Option.map_some]
 congr 3
 unfold lst'
 rw[List.getLastD_eq_getLast?,List.getLast?_eq_getElem?,List.getElem?_eq_getElem (by omega)];rfl
theorem qd(k:Nat){R:List Nat}(h:R≠[]):aG T 60 (k+1) "are_in_a_row" [plL R]=some (.bl (wB R)):=by
 refine cC (fd:=aP (top 75)) rfl rfl (cu (fP (x:=.int (((lst' R:Nat):Int)-((fst R:Nat):Int))) (y:=.int ((R.length:Int)-1)) (cg (x:=.int ((lst' R:Nat):Int)) (y:=.int ((fst R:Nat):Int)) (xIx (x:=plL R) (i := -1) (xName rfl) (Fx (aW rfl)) rfl (Je h)) (xIx (x:=plL R) (i:=0) (xName rfl) (aW rfl) rfl (qF h)) rfl) (cg (x:=.int (R.length:Int)) (y:=.int 1) (dG rfl rfl rfl (ao (x:=plL R) (xName rfl) bh) (uJ R)) (aW rfl) rfl) rfl))
theorem is_solid(k:Nat){R C:List Nat}{f:Nat->Nat->Int}(h:R≠[])(h2:C≠[]):aG T 60 (k+2) "is_solid" [mnD f R C]=some (.bl (wB R&&wB C)):=by
  have a:=qd k h
  have b:=qd k h2
  refine cC (fd:=aP (top 76)) rfl rfl (cu (fD ?_))
  cases hq:wB R with
  | true =>
    rw[hq] at a
    rw[Bool.true_and]
    exact sI (aB rfl (ao (x:=plL R) (xIx (x:=mnD f R C) (i:=0) (xName rfl) (aW rfl) rfl rfl) bh) a) (sH (aB rfl (ao (x:=plL C) (xIx (x:=mnD f R C) (i:=1) (xName rfl) (aW rfl) rfl rfl) bh) b))
  | false =>
    rw[hq] at a
    rw[Bool.false_and]
    exact wK (aB rfl (ao (x:=plL R) (xIx (x:=mnD f R C) (i:=0) (xName rfl) (aW rfl) rfl rfl) bh) a)
theorem is_at_first(k:Nat){R C:List Nat}{f:Nat->Nat->Int}(h:R≠[])(h2:C≠[]):aG T 60 (k+1) "is_at_first" [mnD f R C]=some (.bl (decide (fst R=0)||decide (fst C=0))):=by
 refine cC (fd:=aP (top 77)) rfl rfl (cu (fD ?_))
 have c2:ev (cxN T 60 k) 59 (aP (top 77)).sc [("found",.sh (mnD f R C))] (match bM 77 0 with | .Return (some (.BoolOp _ [_,b] _)) _=>b | _=>.Name "" ⟨0,0,0,0⟩)=some (.bl (decide (fst C=0))):=by
  refine fP (x:=.int ((fst C:Nat):Int)) (y:=.int 0) (xIx (x:=plL C) (i:=0) (xIx (x:=mnD f R C) (i:=1) (xName rfl) (aW rfl) rfl rfl) (aW rfl) rfl (qF h2)) (aW rfl) ?_
  by_cases q:fst C=0
  ·rw[decide_eq_true q];exact Jp (by omega)
  ·rw[decide_eq_false q];exact Jq (by omega)
 by_cases q:fst R=0
 ·rw[decide_eq_true q]
  exact Tg (fP (x:=.int ((fst R:Nat):Int)) (y:=.int 0) (xIx (x:=plL R) (i:=0) (xIx (x:=mnD f R C) (i:=0) (xName rfl) (aW rfl) rfl rfl) (aW rfl) rfl (qF h)) (aW rfl) (Jp (by omega)))
 ·rw[decide_eq_false q]
  exact Eu (fP (x:=.int ((fst R:Nat):Int)) (y:=.int 0) (xIx (x:=plL R) (i:=0) (xIx (x:=mnD f R C) (i:=0) (xName rfl) (aW rfl) rfl rfl) (aW rfl) rfl (qF h)) (aW rfl) (Jq (by omega))) (sH c2)
def unD:D->List Nat
 | .tup l=>l.map fun x=>match x with | .int i=>i.toNat | _=>0
 | _=>[]
theorem o8(R:List Nat):unD (plL R)=R:=by
 show(R.map fun(k:Nat)=>D.int (k:Int)).map _=R
 rw[List.map_map]
 conv=>rhs;rw[<- List.map_id R]
 exact List.map_congr_left fun a _=>by simp
def wC:D->Bool
 | .tup [a,b,_]=>wB (unD a)&&wB (unD b)
 | _=>false
def fiB:D->Bool
 | .tup [a,b,_]=>decide (fst (unD a)=0)||decide (fst (unD b)=0)
 | _=>false
theorem Ax{f:Nat->Nat->Int}{R C:List Nat}:wC (mnD f R C)=(wB R&&wB C):=by
 show(wB (unD (plL R))&&wB (unD (plL C)))=_
 rw[o8,o8]
theorem Il{f:Nat->Nat->Int}{R C:List Nat}:fiB (mnD f R C)=(decide (fst R=0)||decide (fst C=0)):=by
 show(decide (fst (unD (plL R))=0)||decide (fst (unD (plL C))=0))=_
 rw[o8,o8]
theorem Ht{m n:Nat}{f:Nat->Nat->Int}(t:Tb m n f){x:D}(hx:x∈mA m n f (min m n)):∃ R C s,x=mnD f R C/\R≠[]/\C≠[]/\s<min m n/\R∈subs m (s+1)/\C∈subs n (s+1)/\R.length=s+1/\C.length=s+1:=by
 obtain⟨s,R,C,hs,hR,hC,rfl⟩:=zM.mp hx
 have a:=(jV t.m1 t.m4 (by omega) (by omega) hR).2
 have b:=(jV t.n1 t.n4 (by omega) (by omega) hC).2
 exact⟨R,C,s,rfl,fun e=>by rw[e] at a;simp at a,fun e=>by rw[e] at b;simp at b,hs,hR,hC,a,b⟩
theorem solid_minors(k:Nat){m n:Nat}{f:Nat->Nat->Int}(t:Tb m n f):aG T 60 (k+22) "solid_minors" [tbl m n f]=some (.lst ((mA m n f (min m n)).filter wC)):=by
 have hl:=kI t
 refine cC (fd:=aP (top 78)) rfl rfl (cu (cH (l:=mA m n f (min m n)) rfl (wSq (x:=.lst (mA m n f (min m n))) rfl (aB rfl (ao (xName rfl) bh) (all_minors k t)) rfl) (gJ (by omega)) (gG fun x hx=>?_)))
 obtain⟨R,C,s,rfl,h1,h2,_⟩:=Ht t hx
 rw[Ax]
 exact oR rfl (aB rfl (ao (xName rfl) bh) (is_solid (k+19) h1 h2)) (xName rfl)
theorem first_minors(k:Nat){m n:Nat}{f:Nat->Nat->Int}(t:Tb m n f):aG T 60 (k+23) "first_minors" [tbl m n f]=some (.lst (((mA m n f (min m n)).filter wC).filter fiB)):=by
 have hl:=kI t
 have hl2:=List.length_filter_le wC (mA m n f (min m n))
 refine cC (fd:=aP (top 79)) rfl rfl (cu (cH (l:=(mA m n f (min m n)).filter wC) rfl (wSq (x:=.lst ((mA m n f (min m n)).filter wC)) rfl (aB rfl (ao (xName rfl) bh) (solid_minors k t)) rfl) (gJ (by omega)) (gG fun x hx=>?_)))
 obtain⟨R,C,s,rfl,h1,h2,_⟩:=Ht t (List.mem_filter.mp hx).1
 rw[Il]
 exact oR rfl (aB rfl (ao (xName rfl) bh) (is_at_first (k+21) h1 h2)) (xName rfl)
end M53
namespace M53
open PySem DE
def cB:Stmt->List Stmt
 | .For _ _ b _ _=>b
 | _=>[]
def kY:Stmt->Expr
 | .For t _ _ _ _=>t
 | _=>.Name "" ⟨0,0,0,0⟩
section
variable {a b c d:Int}
end
theorem zY{m b:Nat}{h:Nat->D}(q:∀ i,i<m->dep (h i)<=b):deps (Ls m h)<=b:=jo fun x hx=>by
 obtain⟨i,hi,rfl⟩:=mQ hx
 exact q i hi
end M53
namespace M53
open PySem DE
theorem d_na(q:Rat):((q.den:Int)).natAbs=q.den:=rfl
section
variable {a b:Rat}
end
abbrev rwq(n:Nat)(f:Nat->Rat):D:=.tup (Ls n fun j=>qD (f j))
abbrev ftq(m n:Nat)(F:Nat->Nat->Rat):D:=.tup (Ls m fun i=>rwq n (F i))
theorem lD{m n:Nat}{F:Nat->Nat->Rat}:dep (ftq m n F)<=3:=by
 have:∀ i,i<m->dep (rwq n (F i))<=2:=fun i _=>by
  have:=zY (m:=n) (b:=1) (h:=fun j=>qD (F i j)) fun j _=>by simp[dep,deps]
  simp only[dep]
  omega
 have:=zY this
 simp only[dep]
 omega
end M53
namespace M53
open PySem DE
section
variable {s:Rat}
end
end M53
namespace M53
open PySem DE
end M53
namespace M53
open PySem DE
def dnS(n p:Nat):D:=.tup [.str "down",.int (p:Int),frD 1 1]
def dnL:Nat->List Nat
 | 2=>[0]
 | 3=>[1,0,1]
 | 4=>[2,1,0,2,1,2]
 | _=>[]
theorem dn1(k:Nat):aG T 60 (k+8) "down_steps" [tbl 1 1 bsF]=some (.lst ((dnL 1).map (dnS 1))):=by kernel_rfl
theorem dn2(k:Nat):aG T 60 (k+8) "down_steps" [tbl 2 2 bsF]=some (.lst ((dnL 2).map (dnS 2))):=by kernel_rfl
theorem dn3(k:Nat):aG T 60 (k+8) "down_steps" [tbl 3 3 bsF]=some (.lst ((dnL 3).map (dnS 3))):=by kernel_rfl
theorem sc1(k:Nat):aG T 60 (k+20) "scale_steps" [tbl 1 1 bsF]=some (.lst []):=by kernel_rfl
theorem sc2(k:Nat):aG T 60 (k+20) "scale_steps" [tbl 2 2 bsF]=some (.lst []):=by kernel_rfl
theorem dn4(k:Nat):aG T 60 (k+8) "down_steps" [tbl 4 4 bsF]=some (.lst ((dnL 4).map (dnS 4))):=by kernel_rfl
theorem sc3(k:Nat):aG T 60 (k+20) "scale_steps" [tbl 3 3 bsF]=some (.lst []):=by kernel_rfl
theorem sc4(k:Nat):aG T 60 (k+20) "scale_steps" [tbl 4 4 bsF]=some (.lst []):=by kernel_rfl
end M53
set_option maxHeartbeats 0
namespace M53
open PySem DE
def qf(a b c d:Nat):Nat->Nat
 | 0=>a
 | 1=>b
 | 2=>c
 | _=>d
def aF(q:Nat->Nat):Nat->Int
 | 0=>1+(q 0:Int)
 | i+1=>aF q i+(q (i+1):Int)
def mF(n c:Nat)(a:Nat->Int):Nat->Int:=fun i=>if i<c then a i else if i=c then a (n-1) else a (i-1)
def dI(a:Nat->Int)(d:Int)(k:Nat):Nat->Int
 | 0=>d
 | j+1=>dI a d k j*(a k-a j)
def dO(a:Nat->Int):Nat->Int
 | 0=>1
 | k+1=>dI a (dO a k) k k
def gO(a:Nat->Int):Nat->Int
 | 0=>a 0
 | k+1=>if 0<k then gO a k*(a k-a (k-1)) else gO a k
def pP(a:Nat->Int):Nat->Nat->Int:=fun i j=>pw (a i) j
def pL(a:Nat->Int):Nat->Nat->Int:=fun i j=>if a i<a j then a i else a j
def dstN(n:Nat)(a:Nat->Int):Nat:=(ddp (Ls n a)).length
def rkB(n:Nat)(f:Nat->Nat->Int)(r:Nat):Bool:=decide (mxD ((mA n n f (min n n)).filterMap gR) 0=(r:Int))
def smB(n:Nat)(f:Nat->Nat->Int):Bool:=(List.range n).all fun i=>(List.range n).all fun j=>small (f i j)
def ckA(n:Nat)(a:Nat->Int):Bool:=decide (det n (pP a)=dO a n)&&decide (det n (pL a)=gO a n)&&smB n (pP a)&&smB n (pL a)&&(List.range n).all (fun i=>small (a i))&&(List.range n).all (fun i=>(List.range n).all fun j=>small (a i-a j))
def ckM(n c:Nat)(a:Nat->Int):Bool:=rkB n (pP (mF n c a)) (dstN n a)&&rkB n (pL (mF n c a)) (dstN n a)&&smB n (pP (mF n c a))&&smB n (pL (mF n c a))&&(List.range n).all (fun i=>small (mF n c a i))
def ck(n:Nat)(q:Nat->Nat):Bool:=ckA n (aF q)&&(List.range n).all fun c=>ckM n c (aF q)
theorem c1:((List.range 3).all fun a=>ck 1 (qf a 0 0 0))=true:=by decide +kernel
theorem c2:((List.range 3).all fun a=>(List.range 3).all fun b=>ck 2 (qf a b 0 0))=true:=by decide +kernel
theorem c3:((List.range 3).all fun a=>(List.range 3).all fun b=>(List.range 3).all fun c=>ck 3 (qf a b c 0))=true:=by decide +kernel
theorem c4a:((List.range 3).all fun b=>(List.range 3).all fun c=>(List.range 3).all fun d=>ck 4 (qf 0 b c d))=true:=by decide +kernel
theorem c4b:((List.range 3).all fun b=>(List.range 3).all fun c=>(List.range 3).all fun d=>ck 4 (qf 1 b c d))=true:=by decide +kernel
theorem c4c:((List.range 3).all fun b=>(List.range 3).all fun c=>(List.range 3).all fun d=>ck 4 (qf 2 b c d))=true:=by decide +kernel
theorem al3{f:Nat->Bool}(h:(List.range 3).all f=true){a:Nat}(ha:a<3):f a=true:=List.all_eq_true.mp h a (List.mem_range.mpr ha)
theorem Jb{n a b c d:Nat}(h1:1<=n)(h4:n<=4)(ha:a<3)(hb:b<3)(hc:c<3)(hd:d<3):∃ b' c' d',ck n (qf a b' c' d')=true/\∀ i,i<n->qf a b' c' d' i=qf a b c d i:=by
  match n,h1,h4 with
  | 1,_,_=>exact⟨0,0,0,al3 c1 ha,fun i hi=>by match i,hi with | 0,_=>rfl⟩
  | 2,_,_=>exact⟨b,0,0,al3 (al3 c2 ha) hb,fun i hi=>by match i,hi with | 0,_=>rfl | 1,_=>rfl⟩
  | 3,_,_=>exact⟨b,c,0,al3 (al3 (al3 c3 ha) hb) hc,fun i hi=>by match i,hi with | 0,_=>rfl | 1,_=>rfl | 2,_=>rfl⟩
  | 4, _, _ =>
    refine⟨b,c,d,?_,fun i _=>rfl⟩
    match a,ha with
    | 0,_=>exact al3 (al3 (al3 c4a hb) hc) hd
    | 1,_=>exact al3 (al3 (al3 c4b hb) hc) hd
    | 2,_=>exact al3 (al3 (al3 c4c hb) hc) hd
end M53
set_option maxHeartbeats 0
namespace M53
open PySem DE
def upS(n p:Nat):D:=.tup [.str "up",.int (p:Int),frD 1 1]
abbrev onD(n:Nat):List D:=(dnL n).map (dnS n)
abbrev upD(n:Nat):List D:=(dnL n).reverse.map (upS n)
def tb4:Nat->List (List Int)
 | 0=>[[1,0,0,0],[0,1,0,0],[0,0,1,0],[0,0,0,1]]
 | 1=>[[1,0,0,0],[0,1,0,0],[0,0,1,0],[0,0,1,1]]
 | 2=>[[1,0,0,0],[0,1,0,0],[0,1,1,0],[0,1,1,1]]
 | 3=>[[1,0,0,0],[1,1,0,0],[1,1,1,0],[1,1,1,1]]
 | 4=>[[1,0,0,0],[1,1,0,0],[1,1,1,0],[1,1,2,1]]
 | 5=>[[1,0,0,0],[1,1,0,0],[1,2,1,0],[1,3,2,1]]
 | 6=>[[1,0,0,0],[1,1,0,0],[1,2,1,0],[1,3,3,1]]
 | 7=>[[1,0,0,0],[1,1,0,0],[1,2,1,1],[1,3,3,4]]
 | 8=>[[1,0,0,0],[1,1,1,0],[1,2,3,1],[1,3,6,4]]
 | 9=>[[1,0,0,0],[1,1,1,1],[1,2,3,4],[1,3,6,10]]
 | 10=>[[1,1,0,0],[1,2,1,1],[1,3,3,4],[1,4,6,10]]
 | 11=>[[1,1,1,0],[1,2,3,1],[1,3,6,4],[1,4,10,10]]
 | _=>[[1,1,1,1],[1,2,3,4],[1,3,6,10],[1,4,10,20]]
def ftI(t:List (List Int)):D:=.tup (t.map fun r=>.tup (r.map fun x=>frD x 1))
def xT(t:Nat):D:=(onD 4++upD 4).getD t .non
def cT(t i:Nat):Sl:=match t with
  | 0=>.no
  | t + 1 => match xT t with
    | .tup l=>.sh (l.getD i .non)
    | _=>.no
def rM(md w p s:Sl):Rho:=[("many",.sh (.int 4)),("steps",.sh (.lst (onD 4++upD 4))),("made",md),("word",w),("place",p),("share",s)]
def rT(t:Nat):Rho:=rM (.sh (ftI (tb4 t))) (cT t 0) (cT t 1) (cT t 2)
theorem st4(k:Nat):∀ t,t<12->fF (cxN T 60 (k+19)) 60 59 (aP (top 94)).sc (kY (bM 94 2)) (cB (bM 94 2)) (xT t) (rT t)=some (.nxt (rT (t+1)))
 | 0,_=>by kernel_rfl
 | 1,_=>by kernel_rfl
 | 2,_=>by kernel_rfl
 | 3,_=>by kernel_rfl
 | 4,_=>by kernel_rfl
 | 5,_=>by kernel_rfl
 | 6,_=>by kernel_rfl
 | 7,_=>by kernel_rfl
 | 8,_=>by kernel_rfl
 | 9,_=>by kernel_rfl
 | 10,_=>by kernel_rfl
 | 11,_=>by kernel_rfl
theorem go4{f:D->Rho->Option Fl}(h:∀ t,t<12->f (xT t) (rT t)=some (.nxt (rT (t+1)))):∀ m t,t+m=12->dD f ((List.range' t m).map xT) (rT t)=some (.nxt (rT 12))
  | 0, t, e => by obtain rfl : t = 12 := by omega
                  rfl
  | m + 1, t, e => by
    simp only[List.range'_succ,List.map_cons,dD,h t (by omega)]
    exact go4 h m (t+1) (by omega)
theorem ns4(k:Nat):aG T 60 (k+19) "need_steps" [.int 4,.lst (onD 4++upD 4)]=some .non:=by kernel_rfl
theorem pl4(k:Nat):aG T 60 (k+19) "plain" [.int 4]=some (tbl 4 4 dl):=by kernel_rfl
theorem pf4(k:Nat):aG T 60 (k+19) "as_fractions" [tbl 4 4 dl]=some (ftI (tb4 0)):=by kernel_rfl
theorem af4(k:Nat):aG T 60 (k+20) "as_fractions" [tbl 4 4 bsF]=some (ftI (tb4 12)):=by kernel_rfl
theorem mb4(k:Nat):aG T 60 (k+20) "made_by" [.int 4,.lst (onD 4++upD 4)]=some (ftI (tb4 12)):=by
 refine cC (fd:=aP (top 94)) rfl rfl (rG rfl (d:=.non) (aB rfl (ao (xName rfl) (ao (xName rfl) bh)) (ns4 k)) ?_)
 refine u6 (ρ:=rM .no .no .no .no) (ρ':=rM .no .no .no .no) (d:=ftI (tb4 0)) rfl rfl rfl (aB rfl (ao (aB rfl (ao (xName rfl) bh) (pl4 k)) bh) (pf4 k)) ?_
 exact oK (ρ:=rT 0) (ρ':=rT 0) (l:=(List.range' 0 12).map xT) rfl (wSq (x:=.lst (onD 4++upD 4)) rfl (xName rfl) rfl) (go4 (st4 k) 12 0 rfl) (Wx (calm_c rfl (calm_c rfl (calm_c rfl (calm_c rfl (calm_c rfl (calm_c rfl rfl)))))) (xName rfl))
theorem mb(k:Nat):∀ n:Nat,1<=n->n<=4->aG T 60 (k+20) "made_by" [.int (n:Int),.lst (onD n++upD n)]=aG T 60 (k+20) "as_fractions" [tbl n n bsF]
 | 1,_,_=>by kernel_rfl
 | 2,_,_=>by kernel_rfl
 | 3,_,_=>by kernel_rfl
 | 4,_,_=>(mb4 k).trans (af4 k).symm
theorem af(k:Nat):∀ n:Nat,1<=n->n<=4->∃ v,dep v<=50/\aG T 60 (k+20) "as_fractions" [tbl n n bsF]=some v
 | 1,_,_=>⟨ftq 1 1 (fun i j=>((bsF i j:Int):Rat)),Nat.le_trans lD (by decide),by kernel_rfl⟩
 | 2,_,_=>⟨ftq 2 2 (fun i j=>((bsF i j:Int):Rat)),Nat.le_trans lD (by decide),by kernel_rfl⟩
 | 3,_,_=>⟨ftq 3 3 (fun i j=>((bsF i j:Int):Rat)),Nat.le_trans lD (by decide),by kernel_rfl⟩
 | 4,_,_=>⟨ftq 4 4 (fun i j=>((bsF i j:Int):Rat)),Nat.le_trans lD (by decide),by kernel_rfl⟩
theorem dn(k:Nat):∀ n:Nat,1<=n->n<=4->aG T 60 (k+8) "down_steps" [tbl n n bsF]=some (.lst (onD n))
 | 1,_,_=>dn1 k
 | 2,_,_=>dn2 k
 | 3,_,_=>dn3 k
 | 4,_,_=>dn4 k
theorem sc(k:Nat):∀ n:Nat,1<=n->n<=4->aG T 60 (k+20) "scale_steps" [tbl n n bsF]=some (.lst [])
 | 1,_,_=>sc1 k
 | 2,_,_=>sc2 k
 | 3,_,_=>sc3 k
 | 4,_,_=>sc4 k
theorem Aa:∀ n:Nat,n<=4->tbl n n (fun i j=>bsF j i)=tbl n n bsF
 | 0,_=>rfl
 | 1,_=>rfl
 | 2,_=>rfl
 | 3,_=>rfl
 | 4,_=>rfl
theorem Ej:∀ n:Nat,n<=4->Sm n n bsF:=fun n hn i j hi hj=>by
 have h:((List.range 4).all fun i=>(List.range 4).all fun j=>small (bsF i j))=true:=by decide +kernel
 exact List.all_eq_true.mp (List.all_eq_true.mp h i (List.mem_range.mpr (by omega))) j (List.mem_range.mpr (by omega))
theorem Ab:∀ n:Nat,n<=4->det n bsF=1
 | 0,_=>by decide +kernel
 | 1,_=>by decide +kernel
 | 2,_=>by decide +kernel
 | 3,_=>by decide +kernel
 | 4,_=>by decide +kernel
theorem Ek:∀ n:Nat,1<=n->n<=4->Ib n n bsF=true
 | 1,_,_=>by decide +kernel
 | 2,_,_=>by decide +kernel
 | 3,_,_=>by decide +kernel
 | 4,_,_=>by decide +kernel
theorem Ei{n:Nat}(h1:1<=n)(h4:n<=4):Tb n n bsF:=⟨h1,h4,h1,h4,Ej n h4⟩
theorem mO(k:Nat):∀ n:Nat,1<=n->n<=4->aG T 60 (k+2) "need_square" [tbl n n bsF]=some .non
 | 1,_,_=>by kernel_rfl
 | 2,_,_=>by kernel_rfl
 | 3,_,_=>by kernel_rfl
 | 4,_,_=>by kernel_rfl
theorem can(k:Nat){n:Nat}(h1:1<=n)(h4:n<=4):aG T 60 (k+30) "can_be_taken_apart" [tbl n n bsF]=some (.bl true):=by
 have hg:=is_good (k+7) (Ei h1 h4)
 rw[Ek n h1 h4] at hg
 have hw:=worth n (k+28-4*n) h4 (Ej n h4)
 rw[show k+28-4*n+4*n+1=k+29 by omega,Ab n h4] at hw
 refine cC (fd:=aP (top 100)) rfl rfl (rG rfl (d:=.non) (aB rfl (ao (xName rfl) bh) (need_table (k+25) h1 h4 h1 h4)) (rG rfl (d:=.non) (aB rfl (ao (xName rfl) bh) ?_) (cu (fD (sI (aB rfl (ao (xName rfl) bh) hg) (sH (fP (x:=.int 1) (y:=.int 0) (aB rfl (ao (xName rfl) bh) hw) (aW rfl) rfl)))))))
 exact mO (k+27) n h1 h4
end M53
set_option maxHeartbeats 0
namespace M53
open PySem DE
abbrev lSc:Scope:=(aP (top 112)).sc
abbrev bdy(i:Nat):List Stmt:=(aP (top 112)).body.drop i
abbrev nI(n:Nat):Sl:=.sh (.int (n:Int))
def pF(ns:List Int)(m nu k du ga j mi si ta st on fi up we ma:Sl):Rho:=[("_law_script",.sh (scr ns)),("_law_many",m),("_law_numbers",nu),("_law_k",k),("_law_due",du),("_law_gaps",ga),("_law_j",j),("_law_mixed",mi),("_law_size_here",si),("_law_table_here",ta),("_law_steps",st),("_law_ones",on),("_law_first",fi),("_law_ups",up),("_law_weights",we),("_law_made",ma)]
section
variable {ns:List Int} {n:Nat} {nu du ga kk:D} {j:Sl} {a:Nat->Int} {ms:List D}
theorem zu(x:Int)(r:Nat):∀ c:Nat,pw x (r+c)=pw x r*pw x c
 | 0=>by show pw x r=pw x r*1;omega
 | c+1=>by show pw x (r+c)*x=pw x r*(pw x c*x);rw[zu x r c,Int.mul_assoc]
theorem Df{w m:Nat->Int}{r c:Nat}:(jz n fun i=>w i*pw (m i) (r+c))=mul n (mul n (fun i j=>pw (m j) i) fun i j=>if i=j then w i else 0) (fun i j=>pw (m i) j) r c:=by
 show _=jz n fun l=>(jz n fun k=>pw (m k) r*(if k=l then w k else 0))*pw (m l) c
 refine jF fun l hl=>?_
 have e:(fun k=>pw (m k) r*(if k=l then w k else 0))=fun k=>if k=l then pw (m k) r*w k else 0:=by
  funext k
  split
  ·rfl
  ·omega
 rw[e,tE hl,zu,Int.mul_comm (pw (m l) r) (w l),Int.mul_assoc]
def wv(ns:List Int)(k:Nat):Int:=(pickN ns (10+k) 7:Int)-3
theorem JH(k:Nat):small (wv ns k)=true:=by
 have:=fX (ns:=ns) (k:=10+k) (many:=7) (by decide)
 unfold wv small
 rw[decide_eq_true (by omega),decide_eq_true (by omega)];rfl
theorem tQ{f:Nat->Nat->Int}(h:smB n f=true):Sm n n f:=fun i j hi hj=>List.all_eq_true.mp (List.all_eq_true.mp h i (List.mem_range.mpr hi)) j (List.mem_range.mpr hj)
theorem t19{m:Nat->Int}{si ta st on:D}{fi:Sl}{up:List D}(hj:nOw j=true)(hfi:nOw fi=true)(h1:1<=n)(h4:n<=4)(hm:∀ i,i<n->small (m i)=true)(hP:Sm n n (pP m)) :
  blk (cxN T 60 39) 60 60 lSc (bdy 19) (pF ns (nI n) (.sh nu) (.sh kk) (.sh du) (.sh ga) j (.ow (Ls n fun i=>.int (m i))) (.sh si) (.sh ta) (.sh st) (.sh on) fi (.ow up) .no .no)=some (.ret (.bl true)):=by
 have hw:∀ i,i<n->small (wv ns i)=true:=fun i _=>JH i
 have pl:=nW 35 (m:=n) (av:=m) hm h1 h4
 have tu:=turned 34 (m:=n) (n:=n) (f:=fun i j=>pw (m i) j) h1 h4 h1 h4
 have sl:=Bb 35 (m:=n) (av:=wv ns) h1 h4
 have ht:Sm n n (fun i j=>pw (m j) i):=fun i j hi hj=>hP j i hj hi
 have t1:=times 33 (m:=n) (n:=n) (p:=n) (f:=fun i j=>pw (m j) i) (g:=fun i j=>if i=j then wv ns i else 0) h1 h4 h1 h4 h1 h4 (.inl ht)
 have t2:=times 33 (m:=n) (n:=n) (p:=n) (f:=mul n (fun i j=>pw (m j) i) fun i j=>if i=j then wv ns i else 0) (g:=fun i j=>pw (m i) j) h1 h4 h1 h4 h1 h4 (.inr hP)
 have hp:=Dd 35 (m:=n) (av:=m) (wv:=wv ns) (w:=n) hm hw h1 h4 (by omega)
 have fz:∀ {e:Expr} {x y:Sl},dg 60 "_law_mixed" e=false->dg 60 "_law_ups" e=false->nOw x=true->nOw y=true->frz 60 e (pF ns (nI n) (.sh nu) (.sh kk) (.sh du) (.sh ga) j (.ow (Ls n fun i=>.int (m i))) (.sh si) (.sh ta) (.sh st) (.sh on) fi (.ow up) x y)=pF ns (nI n) (.sh nu) (.sh kk) (.sh du) (.sh ga) j (.ow (Ls n fun i=>.int (m i))) (.sh si) (.sh ta) (.sh st) (.sh on) fi (.ow up) x y:=fun hme hmu hx hy =>
  DE.fz_c rfl (DE.fz_c rfl (DE.fz_c rfl (DE.fz_c rfl (DE.fz_c rfl (DE.fz_c rfl (DE.fz_c hj (DE.fz_k hme (DE.fz_c rfl (DE.fz_c rfl (DE.fz_c rfl (DE.fz_c rfl (DE.fz_c hfi (DE.fz_k hmu (DE.fz_c hx (DE.fz_c hy DE.fz_n)))))))))))))))
 have no:∀ {x:Str} {y z:Sl},zP y=false->zP z=false->j9 (pF ns (nI n) (.sh nu) (.sh kk) (.sh du) (.sh ga) j (.ow (Ls n fun i=>.int (m i))) (.sh si) (.sh ta) (.sh st) (.sh on) fi (.ow up) y z) x=true:=fun hy hz =>
  fu rfl (fu rfl (fu rfl (fu rfl (fu rfl (fu rfl (fu (Cq hj) (fu rfl (fu rfl (fu rfl (fu rfl (fu rfl (fu (Cq hfi) (fu rfl (fu hy (fu hz Wo)))))))))))))))
 refine yt (ρ:=pF ns (nI n) (.sh nu) (.sh kk) (.sh du) (.sh ga) j (.ow (Ls n fun i=>.int (m i))) (.sh si) (.sh ta) (.sh st) (.sh on) fi (.ow up) .no .no) (d:=La n (wv ns)) (fz rfl rfl rfl rfl) rfl (cH (l:=Ls n fun k=>.int (k:Int)) rfl (yV (j:=n) rfl (xName rfl) (by omega)) (gJ (by rw[aR];omega)) (bC fun k hk=>?_)) ?_ (by rfl) (by rw[no rfl rfl];rfl)
 ·have pk:=pick 37 ns (10+k) (many:=7) (by decide)
  exact dh rfl (cg (x:=.int (pickN ns (10+k) 7:Nat)) (y:=.int 3) (aB rfl (ao (x:=scr ns) (xName rfl) (ao (x:=.int ((10+k:Nat):Int)) (nM (cg (x:=.int 10) (y:=.int (k:Int)) (aW rfl) (xName rfl) rfl) (congrArg D.int (by omega))) (ao (aW rfl) bh))) pk) (aW rfl) rfl)
 ·have fz2:∀ {e:Expr},dg 60 "_law_mixed" e=true->dg 60 "_law_ups" e=false->dg 60 "_law_weights" e=true->frz 60 e (pF ns (nI n) (.sh nu) (.sh kk) (.sh du) (.sh ga) j (.ow (Ls n fun i=>.int (m i))) (.sh si) (.sh ta) (.sh st) (.sh on) fi (.ow up) (.ow (Ls n fun i=>.int (wv ns i))) .no)=pF ns (nI n) (.sh nu) (.sh kk) (.sh du) (.sh ga) j (.sh (La n m)) (.sh si) (.sh ta) (.sh st) (.sh on) fi (.ow up) (.sh (La n (wv ns))) .no:=fun hme hmu hwe =>
   DE.fz_c rfl (DE.fz_c rfl (DE.fz_c rfl (DE.fz_c rfl (DE.fz_c rfl (DE.fz_c rfl (DE.fz_c hj (DE.fz_o hme (DE.fz_c rfl (DE.fz_c rfl (DE.fz_c rfl (DE.fz_c rfl (DE.fz_c hfi (DE.fz_k hmu (DE.fz_o hwe (DE.fz_c rfl DE.fz_n)))))))))))))))
  refine u6 (ρ:=pF ns (nI n) (.sh nu) (.sh kk) (.sh du) (.sh ga) j (.ow (Ls n fun i=>.int (m i))) (.sh si) (.sh ta) (.sh st) (.sh on) fi (.ow up) (.ow (Ls n fun i=>.int (wv ns i))) .no) (ρ':=pF ns (nI n) (.sh nu) (.sh kk) (.sh du) (.sh ga) j (.sh (La n m)) (.sh si) (.sh ta) (.sh st) (.sh on) fi (.ow up) (.sh (La n (wv ns))) .no) (fz2 rfl rfl rfl) rfl rfl (d:=tbl n n (mul n (mul n (fun i j=>pw (m j) i) fun i j=>if i=j then wv ns i else 0) fun i j=>pw (m i) j)) (aB rfl (ao (aB rfl (ao (aB rfl (ao (aB rfl (ao (xName rfl) bh) pl) bh) tu) (ao (aB rfl (ao (xName rfl) bh) sl) bh)) t1) (ao (aB rfl (ao (xName rfl) bh) pl) bh)) t2) ?_
  refine Dj (ρ:=pF ns (nI n) (.sh nu) (.sh kk) (.sh du) (.sh ga) j (.sh (La n m)) (.sh si) (.sh ta) (.sh st) (.sh on) fi (.ow up) (.sh (La n (wv ns))) (.sh (tbl n n (mul n (mul n (fun i j=>pw (m j) i) fun i j=>if i=j then wv ns i else 0) fun i j=>pw (m i) j)))) (ρ':=pF ns (nI n) (.sh nu) (.sh kk) (.sh du) (.sh ga) j (.sh (La n m)) (.sh si) (.sh ta) (.sh st) (.sh on) fi (.ow up) (.sh (La n (wv ns))) (.sh (tbl n n (mul n (mul n (fun i j=>pw (m j) i) fun i j=>if i=j then wv ns i else 0) fun i j=>pw (m i) j)))) (DE.fz_c rfl (DE.fz_c rfl (DE.fz_c rfl (DE.fz_c rfl (DE.fz_c rfl (DE.fz_c rfl (DE.fz_c hj (DE.fz_c rfl (DE.fz_c rfl (DE.fz_c rfl (DE.fz_c rfl (DE.fz_c rfl (DE.fz_c hfi (DE.fz_k rfl (DE.fz_c rfl (DE.fz_c rfl DE.fz_n)))))))))))))))) ?_
  exact fP (aB rfl (ao (xName rfl) (ao (xName rfl) (ao (xName rfl) bh))) hp) (xName rfl) (Xx fun r c _ _=>Df)
end
end M53
set_option maxHeartbeats 0
namespace M53
open PySem DE
section
variable {ns:List Int} {n:Nat} {nu du ga kk:D} {j:Sl} {m:Nat->Int}
abbrev SB(ns:List Int)(n:Nat)(nu kk du ga:D)(j:Sl)(m:Nat->Int)(si ta st on fi up:Sl):Rho:=pF ns (nI n) (.sh nu) (.sh kk) (.sh du) (.sh ga) j (.ow (Ls n fun i=>.int (m i))) si ta st on fi up .no .no
theorem fzB{F:Nat}{e:Expr}{si ta st on fi up:Sl}(hj:nOw j=true)(h1:nOw si=true)(h2:nOw ta=true)(h3:nOw st=true)(h4:nOw on=true)(h5:nOw fi=true)(h6:nOw up=true)(hme:dg F "_law_mixed" e=false):frz F e (SB ns n nu kk du ga j m si ta st on fi up)=SB ns n nu kk du ga j m si ta st on fi up :=
 DE.fz_c rfl (DE.fz_c rfl (DE.fz_c rfl (DE.fz_c rfl (DE.fz_c rfl (DE.fz_c rfl (DE.fz_c hj (DE.fz_k hme (DE.fz_c h1 (DE.fz_c h2 (DE.fz_c h3 (DE.fz_c h4 (DE.fz_c h5 (DE.fz_c h6 (DE.fz_c rfl (DE.fz_c rfl DE.fz_n)))))))))))))))
theorem oB{x:Str}{si ta st on fi up:Sl}(hj:nOw j=true)(h1:nOw si=true)(h2:nOw ta=true)(h3:nOw st=true)(h4:zP on=false)(h5:nOw fi=true)(h6:zP up=false):j9 (SB ns n nu kk du ga j m si ta st on fi up) x=true :=
 fu rfl (fu rfl (fu rfl (fu rfl (fu rfl (fu rfl (fu (Cq hj) (fu rfl (fu (Cq h1) (fu (Cq h2) (fu (Cq h3) (fu h4 (fu (Cq h5) (fu h6 (fu rfl (fu rfl Wo)))))))))))))))
def fiS:Nat->Sl
 | 0=>.no
 | f+1=>nI f
theorem Ss(f:Nat):nOw (fiS f)=true:=by cases f<;>rfl
theorem taken(k:Nat){s:Nat}(h1:1<=s)(h4:s<=4):aG T 60 (k+31) "taken_apart" [tbl s s bsF]=some (.lst (onD s++upD s)):=by
 have tu:=turned (k+25) (m:=s) (n:=s) (f:=bsF) h1 h4 h1 h4
 rw[Aa s h4] at tu
 have hl:(dnL s).length<=6:=by match s,h1,h4 with | 1,_,_=>decide | 2,_,_=>decide | 3,_,_=>decide | 4,_,_=>decide
 have ts:aG T 60 (k+30) "turned_steps" [.lst (onD s)]=some (.lst (upD s)):=by match s,h1,h4 with | 1,_,_=>kernel_rfl | 2,_,_=>kernel_rfl | 3,_,_=>kernel_rfl | 4,_,_=>kernel_rfl
 have z1:szl ((onD s).length+([]:List D).length)=true:=gJ (by simp;omega)
 have z2:szl ((onD s++[]).length+(upD s).length)=true:=gJ (by simp;omega)
 refine cC (fd:=aP (top 101)) rfl rfl (Sy (ρ:=[("table",.sh (tbl s s bsF))]) rfl (nP (aB rfl (ao (xName rfl) bh) (can k h1 h4))) (Wx (ρ:=[("table",.sh (tbl s s bsF))]) rfl ?_))
 rw[show onD s++upD s=(onD s++[])++upD s by simp]
 exact cg (x:=.lst (onD s++[])) (y:=.lst (upD s)) (cg (x:=.lst (onD s)) (y:=.lst []) (aB rfl (ao (xName rfl) bh) (dn (k+22) s h1 h4)) (aB rfl (ao (xName rfl) bh) (sc (k+10) s h1 h4)) (by show(if _ then _ else _)=_;rw[z1];rfl)) (aB rfl (ao (x:=.lst (onD s)) (aB rfl (ao (x:=tbl s s bsF) (aB rfl (ao (xName rfl) bh) tu) bh) (dn (k+22) s h1 h4)) bh) ts) (by show(if _ then _ else _)=_;rw[z2];rfl)
end
end M53
set_option maxHeartbeats 0
namespace M53
open PySem DE
section
variable {ns:List Int} {n:Nat} {nu du ga kk:D} {j:Sl} {m:Nat->Int}
theorem c12{st on fi up:Sl}:∀ s:Nat,1<=s->s<=4->∀ j,nOw j=true->ev (cxN T 60 39) 60 lSc (SB ns n nu kk du ga j m (nI s) (.sh (tbl s s bsF)) .no .no .no .no) (ifX (bM 112 12))=some (.bl false):=fun s h1 h4 j hj=>by
 have fm:=first_minors 16 (Ei h1 h4)
 have hz:=kI (Ei h1 h4)
 refine fP (x:=.lst []) (y:=.lst []) (cH (l:=((mA s s bsF (min s s)).filter wC).filter fiB) (out:=[]) rfl (wSq (x:=.lst (((mA s s bsF (min s s)).filter wC).filter fiB)) rfl (aB rfl (ao (xName rfl) bh) fm) rfl) (gJ ?_) ?_) (Fy bh rfl) rfl
 ·have a1:=List.length_filter_le fiB ((mA s s bsF (min s s)).filter wC)
  have a2:=List.length_filter_le wC (mA s s bsF (min s s))
  omega
 ·match s,h1,h4 with
  | 1,_,_=>kernel_rfl
  | 2,_,_=>kernel_rfl
  | 3,_,_=>kernel_rfl
  | 4,_,_=>kernel_rfl
theorem c14{s:Nat}(h1:1<=s)(h4:s<=4){j:Sl}:ev (cxN T 60 39) 60 lSc (SB ns n nu kk du ga j m (nI s) (.sh (tbl s s bsF)) (.sh (.lst (onD s++upD s))) .no .no .no) (ifX (bM 112 14))=some (.bl false):=by
 match s,h1,h4 with
 | 1,_,_=>kernel_rfl
 | 2,_,_=>kernel_rfl
 | 3,_,_=>kernel_rfl
 | 4,_,_=>kernel_rfl
end
end M53
set_option maxHeartbeats 0
namespace M53
open PySem DE
section
variable {ns:List Int} {n:Nat} {nu du ga kk:D} {j:Sl} {m:Nat->Int}
theorem Hw{st:D}:∀ s:Nat,1<=s->s<=4->dD (fF (cxN T 60 39) 60 59 lSc (kY (bM 112 16)) (cB (bM 112 16))) (Ls (s-1) fun k=>.int (k:Int)) (SB ns n nu kk du ga .no m (nI s) (.sh (tbl s s bsF)) (.sh st) (.ow []) .no .no)=some (.nxt (SB ns n nu kk du ga .no m (nI s) (.sh (tbl s s bsF)) (.sh st) (.ow (onD s)) (fiS (s-1)) .no))
 | 1,_,_=>by kernel_rfl
 | 2,_,_=>by kernel_rfl
 | 3,_,_=>by kernel_rfl
 | 4,_,_=>by kernel_rfl
theorem CQ{st jd:D}:∀ s:Nat,1<=s->s<=4->dD (fF (cxN T 60 39) 60 59 lSc (kY (bM 112 16)) (cB (bM 112 16))) (Ls (s-1) fun k=>.int (k:Int)) (SB ns n nu kk du ga (.sh jd) m (nI s) (.sh (tbl s s bsF)) (.sh st) (.ow []) .no .no)=some (.nxt (SB ns n nu kk du ga (.sh jd) m (nI s) (.sh (tbl s s bsF)) (.sh st) (.ow (onD s)) (fiS (s-1)) .no))
 | 1,_,_=>by kernel_rfl
 | 2,_,_=>by kernel_rfl
 | 3,_,_=>by kernel_rfl
 | 4,_,_=>by kernel_rfl
theorem RP{st:D}{s:Nat}(h1:1<=s)(h4:s<=4)(hj:nOw j=true):dD (fF (cxN T 60 39) 60 59 lSc (kY (bM 112 16)) (cB (bM 112 16))) (Ls (s-1) fun k=>.int (k:Int)) (SB ns n nu kk du ga j m (nI s) (.sh (tbl s s bsF)) (.sh st) (.ow []) .no .no)=some (.nxt (SB ns n nu kk du ga j m (nI s) (.sh (tbl s s bsF)) (.sh st) (.ow (onD s)) (fiS (s-1)) .no)):=by
 cases j with
 | no=>exact Hw s h1 h4
 | sh d=>exact CQ s h1 h4
 | ow d=>simp[nOw] at hj
 | oo d=>simp[nOw] at hj
theorem e17{s:Nat}{st:D}{fi:Sl}(h1:1<=s)(h4:s<=4):ev (cxN T 60 39) 60 lSc (SB ns n nu kk du ga j m (nI s) (.sh (tbl s s bsF)) (.sh st) (.sh (.lst (onD s))) fi .no) (match bM 112 17 with | .Assign _ e _=>e | _=>.Name "" ⟨0,0,0,0⟩)=some (.lst (upD s)):=by
 match s,h1,h4 with
 | 1,_,_=>kernel_rfl
 | 2,_,_=>kernel_rfl
 | 3,_,_=>kernel_rfl
 | 4,_,_=>kernel_rfl
end
end M53
set_option maxHeartbeats 0
namespace M53
open PySem DE
section
variable {ns:List Int} {n:Nat} {nu du ga kk:D} {j:Sl} {m:Nat->Int}
theorem t17{s:Nat}{st:D}{fi:Sl}(s1:1<=s)(s4:s<=4)(hfi:nOw fi=true)(hj:nOw j=true)(h1:1<=n)(h4:n<=4)(hm:∀ i,i<n->small (m i)=true)(hP:Sm n n (pP m)) :
  blk (cxN T 60 39) 60 60 lSc (bdy 17) (SB ns n nu kk du ga j m (nI s) (.sh (tbl s s bsF)) (.sh st) (.ow (onD s)) fi .no)=some (.ret (.bl true)):=by
 have hl:(dnL s).length<=6:=by match s,s1,s4 with | 1,_,_=>decide | 2,_,_=>decide | 3,_,_=>decide | 4,_,_=>decide
 have z1:szl ((onD s).length+(upD s).length)=true:=gJ (by simp;omega)
 obtain⟨v,v1,v2⟩:=af 19 s s1 s4
 have m1:=mb 19 s s1 s4
 rw[v2] at m1
 refine yt (ρ:=SB ns n nu kk du ga j m (nI s) (.sh (tbl s s bsF)) (.sh st) (.ow (onD s)) fi .no) (ρ':=SB ns n nu kk du ga j m (nI s) (.sh (tbl s s bsF)) (.sh st) (.sh (.lst (onD s))) fi .no) (d:=.lst (upD s))
  (DE.fz_c rfl (DE.fz_c rfl (DE.fz_c rfl (DE.fz_c rfl (DE.fz_c rfl (DE.fz_c rfl (DE.fz_c hj (DE.fz_k rfl (DE.fz_c rfl (DE.fz_c rfl (DE.fz_c rfl (DE.fz_o rfl (DE.fz_c hfi (DE.fz_c rfl (DE.fz_c rfl (DE.fz_c rfl DE.fz_n)))))))))))))))) rfl (e17 s1 s4) ?_ (by rfl) (by rw[oB hj rfl rfl rfl rfl hfi rfl];rfl)
 refine Ig (ρ:=SB ns n nu kk du ga j m (nI s) (.sh (tbl s s bsF)) (.sh st) (.sh (.lst (onD s))) fi (.ow (upD s))) (ρ':=SB ns n nu kk du ga j m (nI s) (.sh (tbl s s bsF)) (.sh st) (.sh (.lst (onD s))) fi (.sh (.lst (upD s))))
  (DE.fz_c rfl (DE.fz_c rfl (DE.fz_c rfl (DE.fz_c rfl (DE.fz_c rfl (DE.fz_c rfl (DE.fz_c hj (DE.fz_k rfl (DE.fz_c rfl (DE.fz_c rfl (DE.fz_c rfl (DE.fz_c rfl (DE.fz_c hfi (DE.fz_o rfl (DE.fz_c rfl (DE.fz_c rfl DE.fz_n)))))))))))))))) (fP (x:=v) (y:=v) (aB rfl (ao (xName rfl) (ao (x:=.lst (onD s++upD s)) (cg (x:=.lst (onD s)) (y:=.lst (upD s)) (xName rfl) (xName rfl) (by show(if _ then _ else _)=_;rw[z1];rfl)) bh)) m1) (aB rfl (ao (xName rfl) bh) v2) (Xw v1)) ?_
 exact t19 hj hfi h1 h4 hm hP
theorem t9(hj:nOw j=true)(h1:1<=n)(h4:n<=4)(hm:∀ i,i<n->small (m i)=true)(hP:Sm n n (pP m)) :
  blk (cxN T 60 39) 60 60 lSc (bdy 9) (SB ns n nu kk du ga j m .no .no .no .no .no .no)=some (.ret (.bl true)):=by
 have hp:=fX (ns:=ns) (k:=7) (many:=4) (by decide)
 have p7:=pick 37 ns 7 (many:=4) (by decide)
 generalize pickN ns 7 4=r at hp p7
 let s:Nat:=1+r
 have s1:1<=s:=by show 1<=1+r;omega
 have s4:s<=4:=by show 1+r<=4;omega
 have bs:=Gb 33 (n:=s) s1 s4
 have wm:=whole_minor (34-4*s) s (f:=bsF) s1 s4 (Ej s s4)
 rw[show 34-4*s+4*s+5=39 by omega,Ab s s4] at wm
 have tu:=turned 34 (m:=s) (n:=s) (f:=bsF) s1 s4 s1 s4
 rw[Aa s s4] at tu
 refine u6 (ρ:=SB ns n nu kk du ga j m .no .no .no .no .no .no) (ρ':=SB ns n nu kk du ga j m .no .no .no .no .no .no) (d:=.int (s:Int)) (fzB hj rfl rfl rfl rfl rfl rfl rfl) rfl rfl (nM (cg (x:=.int 1) (y:=.int (r:Int)) (aW rfl) (aB rfl (ao (x:=scr ns) (xName rfl) (ao (aW rfl) (ao (aW rfl) bh))) p7) rfl) (congrArg D.int (by show(1:Int)+r=((1+r:Nat):Int);omega))) ?_
 refine u6 (ρ:=SB ns n nu kk du ga j m (nI s) .no .no .no .no .no) (ρ':=SB ns n nu kk du ga j m (nI s) .no .no .no .no .no) (d:=tbl s s bsF) (fzB hj rfl rfl rfl rfl rfl rfl rfl) rfl rfl (aB rfl (ao (xName rfl) bh) bs) ?_
 refine Ig (ρ:=SB ns n nu kk du ga j m (nI s) (.sh (tbl s s bsF)) .no .no .no .no) (ρ':=SB ns n nu kk du ga j m (nI s) (.sh (tbl s s bsF)) .no .no .no .no) (fzB hj rfl rfl rfl rfl rfl rfl rfl) (fD (Eu (fP (x:=.int 1) (y:=.int 1) (aB rfl (ao (xName rfl) bh) wm) (aW rfl) (Ez rfl)) (sH (fP (x:=tbl s s bsF) (y:=tbl s s bsF) (aB rfl (ao (xName rfl) bh) tu) (xName rfl) (Xv fun _ _ _ _=>rfl))))) ?_
 refine Ig (ρ:=SB ns n nu kk du ga j m (nI s) (.sh (tbl s s bsF)) .no .no .no .no) (ρ':=SB ns n nu kk du ga j m (nI s) (.sh (tbl s s bsF)) .no .no .no .no) (fzB hj rfl rfl rfl rfl rfl rfl rfl) (c12 (st:=.no) (on:=.no) (fi:=.no) (up:=.no) s s1 s4 j hj) ?_
 refine u6 (ρ:=SB ns n nu kk du ga j m (nI s) (.sh (tbl s s bsF)) .no .no .no .no) (ρ':=SB ns n nu kk du ga j m (nI s) (.sh (tbl s s bsF)) .no .no .no .no) (d:=.lst (onD s++upD s)) (fzB hj rfl rfl rfl rfl rfl rfl rfl) rfl rfl (aB rfl (ao (xName rfl) bh) (taken 8 s1 s4)) ?_
 refine Ig (ρ:=SB ns n nu kk du ga j m (nI s) (.sh (tbl s s bsF)) (.sh (.lst (onD s++upD s))) .no .no .no) (ρ':=SB ns n nu kk du ga j m (nI s) (.sh (tbl s s bsF)) (.sh (.lst (onD s++upD s))) .no .no .no) (fzB hj rfl rfl rfl rfl rfl rfl rfl) (c14 s1 s4) ?_
 refine yt (ρ:=SB ns n nu kk du ga j m (nI s) (.sh (tbl s s bsF)) (.sh (.lst (onD s++upD s))) .no .no .no) (ρ':=SB ns n nu kk du ga j m (nI s) (.sh (tbl s s bsF)) (.sh (.lst (onD s++upD s))) .no .no .no) (d:=.lst []) (fzB hj rfl rfl rfl rfl rfl rfl rfl) rfl (Fy bh rfl) ?_ (by rfl) (by rw[oB hj rfl rfl rfl rfl rfl rfl];rfl)
 refine oK (ρ:=SB ns n nu kk du ga j m (nI s) (.sh (tbl s s bsF)) (.sh (.lst (onD s++upD s))) (.ow []) .no .no) (ρ':=SB ns n nu kk du ga j m (nI s) (.sh (tbl s s bsF)) (.sh (.lst (onD s++upD s))) (.ow []) .no .no) (l:=Ls (s-1) fun k=>.int (k:Int))
  (DE.fz_c rfl (DE.fz_c rfl (DE.fz_c rfl (DE.fz_c rfl (DE.fz_c rfl (DE.fz_c rfl (DE.fz_c hj (DE.fz_k rfl (DE.fz_c rfl (DE.fz_c rfl (DE.fz_c rfl (DE.fz_k rfl (DE.fz_c rfl (DE.fz_c rfl (DE.fz_c rfl (DE.fz_c rfl DE.fz_n)))))))))))))))) (yV (j:=s-1) rfl (nM (cg (x:=.int (s:Int)) (y:=.int 1) (xName rfl) (aW rfl) rfl) (congrArg D.int (by omega))) (by omega)) (RP s1 s4 hj) (t17 s1 s4 (Ss _) hj h1 h4 hm hP)
end
end M53
set_option maxHeartbeats 0
namespace M53
open PySem DE
theorem Sd{cx:Cxt}{F m':Nat}{sc:Scope}{ρ ρ':Rho}{e:Expr}{px py ap cp ap2 cp2 p:Pos}{nm M M2:Str}{ds:List D}{d:D}{i:Int}{r:List Stmt}{fl:Fl}(hf:frz F e ρ=ρ')(hx:ρ'.lookup nm=some (.ow ds))(ho:(ownIn sc nm&&au nm&&ap.endLine==cp.line&&ap2.endLine==cp2.line&&nm==nm&&M=="insert"&&M2=="pop")=true)(h:ev cx F sc ρ' e=some (.int i))(hd:ds[ds.length-1]?=some d)(hz:(decide (0<=i)&&decide (i<=ds.dropLast.length)&&szl ds.length)=true)(k:blk cx F (m'+1) sc r (cj ρ' nm (.ow (Jv ds.dropLast i.toNat d)))=some fl) :
  blk cx F (m'+1) sc (.Expr (.Call (.Attribute (.Name nm px) M ap) [e,.Call (.Attribute (.Name nm py) M2 ap2) [] [] cp2] [] cp) p::r) ρ=some fl:=by
 subst hf
 refine gSt (fl1:=.nxt _) ?_ k
 simp only[st,hx,if_pos ho,h,asI,Option.bind_some,hd,bind,if_pos hz]
section
variable {ns:List Int} {n:Nat} {a:Nat->Int}
abbrev SA(ns:List Int)(n:Nat)(nu k du ga j mi:Sl):Rho:=pF ns (nI n) nu k du ga j mi .no .no .no .no .no .no .no .no
theorem rW{nu k du ga j mi:Sl}(h1:nOw nu=true)(h2:nOw k=true)(h3:nOw du=true)(h4:nOw ga=true)(h5:nOw j=true)(h6:nOw mi=true):fM (SA ns n nu k du ga j mi)=true :=
 DE.calm_c rfl (DE.calm_c rfl (DE.calm_c h1 (DE.calm_c h2 (DE.calm_c h3 (DE.calm_c h4 (DE.calm_c h5 (DE.calm_c h6 rfl)))))))
theorem Hr:∀ n c:Nat,1<=n->n<=4->c<n->∀ a:Nat->Int,Jv (Ls n fun i=>D.int (a i)).dropLast c (.int (a (n-1)))=Ls n fun i=>.int (mF n c a i)
 | 1,0,_,_,_=>fun _=>rfl
 | 2,0,_,_,_=>fun _=>rfl
 | 2,1,_,_,_=>fun _=>rfl
 | 3,0,_,_,_=>fun _=>rfl
 | 3,1,_,_,_=>fun _=>rfl
 | 3,2,_,_,_=>fun _=>rfl
 | 4,0,_,_,_=>fun _=>rfl
 | 4,1,_,_,_=>fun _=>rfl
 | 4,2,_,_,_=>fun _=>rfl
 | 4,3,_,_,_=>fun _=>rfl
theorem qI:∀ {n:Nat} {a:Nat->Int},fU (Ls n fun i=>D.int (a i))=some (Ls n a):=fun {n a}=>by
 have:=lN (Ls n a)
 rw[jy] at this
 exact this
theorem t5{kk:D}{j:Sl}(hj:nOw j=true)(h1:1<=n)(h4:n<=4)(hA:ckA n a=true)(hM:∀ c,c<n->ckM n c a=true):blk (cxN T 60 39) 60 60 lSc (bdy 5) (SA ns n (.sh (La n a)) (.sh kk) (.sh (.int (dO a n))) (.sh (.int (gO a n))) j .no)=some (.ret (.bl true)):=by
 unfold ckA at hA
 simp only[Bool.and_eq_true,decide_eq_true_eq] at hA
 obtain⟨⟨⟨⟨⟨d1,d2⟩,s1⟩,s2⟩,s3⟩,s4⟩:=hA
 have sa:∀ i,i<n->small (a i)=true:=fun i hi=>List.all_eq_true.mp s3 i (List.mem_range.mpr hi)
 have pl:=nW 35 (m:=n) (av:=a) sa h1 h4
 have le:=uI 35 (m:=n) (av:=a) h1 h4
 have w1:=whole_minor (34-4*n) n (f:=pP a) h1 h4 (tQ s1)
 have w2:=whole_minor (34-4*n) n (f:=pL a) h1 h4 (tQ s2)
 rw[show 34-4*n+4*n+5=39 by omega] at w1 w2
 rw[d1] at w1;rw[d2] at w2
 have hp:=fX (ns:=ns) (k:=6) (many:=n) (by omega)
 have p6:=pick 37 ns 6 (many:=n) (by omega)
 generalize pickN ns 6 n=c at hp p6
 have hM':=hM c hp
 unfold ckM at hM'
 simp only[Bool.and_eq_true] at hM'
 obtain⟨⟨⟨⟨r1,r2⟩,s5⟩,s6⟩,s7⟩:=hM'
 have r1':=of_decide_eq_true r1
 have r2':=of_decide_eq_true r2
 have sm7:∀ i,i<n->small (mF n c a i)=true:=fun i hi=>List.all_eq_true.mp s7 i (List.mem_range.mpr hi)
 have k1:=tV 17 (m:=n) (n:=n) (f:=pP (mF n c a)) ⟨h1,h4,h1,h4,tQ s5⟩
 have k2:=tV 17 (m:=n) (n:=n) (f:=pL (mF n c a)) ⟨h1,h4,h1,h4,tQ s6⟩
 rw[r1'] at k1;rw[r2'] at k2
 have plm:=nW 35 (m:=n) (av:=mF n c a) sm7 h1 h4
 have lem:=uI 35 (m:=n) (av:=mF n c a) h1 h4
 refine Sy (ρ:=SA ns n (.sh (La n a)) (.sh kk) (.sh (.int (dO a n))) (.sh (.int (gO a n))) j .no) (rW rfl rfl rfl rfl hj rfl) (fD (Eu (fP (x:=.int (dO a n)) (y:=.int (dO a n)) (aB rfl (ao (aB rfl (ao (xName rfl) bh) pl) bh) w1) (xName rfl) (Ez rfl)) (sH (fP (x:=.int (gO a n)) (y:=.int (gO a n)) (aB rfl (ao (aB rfl (ao (xName rfl) bh) le) bh) w2) (xName rfl) (Ez rfl))))) ?_
 refine R8 (ρ:=SA ns n (.sh (La n a)) (.sh kk) (.sh (.int (dO a n))) (.sh (.int (gO a n))) j .no) (ρ':=SA ns n (.sh (La n a)) (.sh kk) (.sh (.int (dO a n))) (.sh (.int (gO a n))) j .no) (ds:=Ls n fun i=>.int (a i)) (fB (rW rfl rfl rfl rfl hj rfl)) rfl (dG (ds:=[La n a]) rfl rfl rfl (ao (xName rfl) bh) rfl) rfl ?_ ?_
 ·rw[show j9 (SA ns n (.sh (La n a)) (.sh kk) (.sh (.int (dO a n))) (.sh (.int (gO a n))) j .no) "_law_mixed"=true from nj (rW rfl rfl rfl rfl hj rfl)]
  rfl
 have lst:(Ls n fun i=>D.int (a i))[(Ls n fun i=>D.int (a i)).length-1]?=some (.int (a (n-1))):=by rw[aR];exact bZ (by omega)
 refine Sd (ρ:=SA ns n (.sh (La n a)) (.sh kk) (.sh (.int (dO a n))) (.sh (.int (gO a n))) j (.ow (Ls n fun i=>.int (a i)))) (ρ':=SA ns n (.sh (La n a)) (.sh kk) (.sh (.int (dO a n))) (.sh (.int (gO a n))) j (.ow (Ls n fun i=>.int (a i)))) (ds:=Ls n fun i=>.int (a i)) (i:=(c:Int)) (fzB (m:=a) hj rfl rfl rfl rfl rfl rfl rfl) rfl rfl (aB rfl (ao (x:=scr ns) (xName rfl) (ao (aW rfl) (ao (xName rfl) bh))) p6) lst ?_ ?_
 ·rw[List.length_dropLast,aR,decide_eq_true (by omega),decide_eq_true (by omega),gJ (by omega)];rfl
 rw[Int.toNat_natCast,Hr n c h1 h4 hp a]
 refine Ig (ρ:=SA ns n (.sh (La n a)) (.sh kk) (.sh (.int (dO a n))) (.sh (.int (gO a n))) j (.ow (Ls n fun i=>.int (mF n c a i)))) (ρ':=SA ns n (.sh (La n a)) (.sh kk) (.sh (.int (dO a n))) (.sh (.int (gO a n))) j (.sh (La n (mF n c a))))
  (DE.fz_c rfl (DE.fz_c rfl (DE.fz_c rfl (DE.fz_c rfl (DE.fz_c rfl (DE.fz_c rfl (DE.fz_c hj (DE.fz_o rfl (DE.fz_c rfl (DE.fz_c rfl (DE.fz_c rfl (DE.fz_c rfl (DE.fz_c rfl (DE.fz_c rfl (DE.fz_c rfl (DE.fz_c rfl DE.fz_n))))))))))))))))
  (fD (Eu (fP (x:=.int (dstN n a:Nat)) (y:=.int (dstN n a:Nat)) (aB rfl (ao (aB rfl (ao (xName rfl) bh) plm) bh) k1) (xLs rfl rfl (xName rfl) qI (by rw[aR];omega)) (Ez rfl)) (sH (fP (x:=.int (dstN n a:Nat)) (y:=.int (dstN n a:Nat)) (aB rfl (ao (aB rfl (ao (xName rfl) bh) lem) bh) k2) (xLs rfl rfl (xName rfl) qI (by rw[aR];omega)) (Ez rfl))))) ?_
 exact t9 hj h1 h4 sm7 (tQ s5)
end
end M53
set_option maxHeartbeats 0
namespace M53
open PySem DE
section
variable {ns:List Int} {n:Nat} {a:Nat->Int}
def kS:Nat->Sl
 | 0=>.no
 | i+1=>nI i
theorem RV(i:Nat):nOw (kS i)=true:=by cases i<;>rfl
def jS:Nat->Sl
 | 0=>.no
 | 1=>.no
 | k+2=>nI k
theorem RW(i:Nat):nOw (jS i)=true:=by unfold jS;split<;>rfl
def jI(k:Nat):Nat->Sl
 | 0=>jS k
 | t+1=>nI t
theorem HN(k:Nat):jI k k=jS (k+1):=by cases k<;>rfl
theorem inner{k:Nat}{d0:Int}{ga:D}(hk:k<n)(h4:n<=4)(hs:∀ i j,i<n->j<n->small (a i-a j)=true)(t:Nat)(ht:t<k) :
  fF (cxN T 60 39) 60 58 lSc (kY ((cB (bM 112 4)).getD 0 (.Pass ⟨0,0,0,0⟩))) (cB ((cB (bM 112 4)).getD 0 (.Pass ⟨0,0,0,0⟩))) (.int (t:Int)) (SA ns n (.sh (La n a)) (nI k) (.sh (.int (dI a d0 k t))) (.sh ga) (jI k t) .no)=some (.nxt (SA ns n (.sh (La n a)) (nI k) (.sh (.int (dI a d0 k (t+1)))) (.sh ga) (jI k (t+1)) .no)) :=
 lq (ρ1:=SA ns n (.sh (La n a)) (nI k) (.sh (.int (dI a d0 k t))) (.sh ga) (nI t) .no) rfl (Eh (ρ:=SA ns n (.sh (La n a)) (nI k) (.sh (.int (dI a d0 k t))) (.sh ga) (nI t) .no) rfl rfl rfl (d:=.int (dI a d0 k t*(a k-a t))) (cg (x:=.int (dI a d0 k t)) (y:=.int (a k-a t)) (xName rfl) (cg (x:=.int (a k)) (y:=.int (a t)) (qM (m:=n) (j:=k) (h:=fun i=>.int (a i)) (xName rfl) (xName rfl) hk rfl rfl) (qM (m:=n) (j:=t) (h:=fun i=>.int (a i)) (xName rfl) (xName rfl) (by omega) rfl rfl) rfl) (vZ (.inr (hs k t hk (by omega))))) jE)
theorem outer(h4:n<=4)(hs:∀ i j,i<n->j<n->small (a i-a j)=true)(k:Nat)(hk:k<n){kk:Sl}(hkk:nOw kk=true) :
  fF (cxN T 60 39) 60 59 lSc (kY (bM 112 4)) (cB (bM 112 4)) (.int (k:Int)) (SA ns n (.sh (La n a)) kk (.sh (.int (dO a k))) (.sh (.int (gO a k))) (jS k) .no)=some (.nxt (SA ns n (.sh (La n a)) (nI k) (.sh (.int (dO a (k+1)))) (.sh (.int (gO a (k+1)))) (jS (k+1)) .no)):=by
 have go:=gB (f:=fF (cxN T 60 39) 60 58 lSc (kY ((cB (bM 112 4)).getD 0 (.Pass ⟨0,0,0,0⟩))) (cB ((cB (bM 112 4)).getD 0 (.Pass ⟨0,0,0,0⟩)))) (h:=fun i=>.int (i:Int)) (N:=k) (R:=fun t=>SA ns n (.sh (La n a)) (nI k) (.sh (.int (dI a (dO a k) k t))) (.sh (.int (gO a k))) (jI k t) .no) fun t ht=>inner hk h4 hs t ht
 rw[HN] at go
 refine lq (ρ1:=SA ns n (.sh (La n a)) (nI k) (.sh (.int (dO a k))) (.sh (.int (gO a k))) (jS k) .no) rfl ?_
 refine oK (ρ:=SA ns n (.sh (La n a)) (nI k) (.sh (.int (dO a k))) (.sh (.int (gO a k))) (jS k) .no) (ρ':=SA ns n (.sh (La n a)) (nI k) (.sh (.int (dO a k))) (.sh (.int (gO a k))) (jS k) .no) (fB (rW rfl rfl rfl rfl (RW k) rfl)) (yV (j:=k) rfl (xName rfl) (by omega)) go ?_
 have cm:=rW (ns:=ns) (n:=n) (nu:=.sh (La n a)) (k:=nI k) (du:=.sh (.int (dO a (k+1)))) (ga:=.sh (.int (gO a k))) (j:=jS (k+1)) (mi:=.no) rfl rfl rfl rfl (RW _) rfl
 by_cases h0:0<k
 ·have e:gO a (k+1)=gO a k*(a k-a (k-1)):=by show(if 0<k then _ else _)=_;rw[if_pos h0]
  rw[e]
  exact Yg (fl1:=.nxt (SA ns n (.sh (La n a)) (nI k) (.sh (.int (dO a (k+1)))) (.sh (.int (gO a k*(a k-a (k-1))))) (jS (k+1)) .no)) cm (fP (x:=.int (k:Int)) (y:=.int 0) (xName rfl) (aW rfl) (by rw[oGt,decide_eq_true (by omega)])) (Eh cm rfl rfl (d:=.int (gO a k*(a k-a (k-1)))) (cg (x:=.int (gO a k)) (y:=.int (a k-a (k-1))) (xName rfl) (cg (x:=.int (a k)) (y:=.int (a (k-1))) (qM (m:=n) (j:=k) (h:=fun i=>.int (a i)) (xName rfl) (xName rfl) hk rfl rfl) (qM (m:=n) (j:=k-1) (h:=fun i=>.int (a i)) (xName rfl) (nM (cg (x:=.int (k:Int)) (y:=.int 1) (xName rfl) (aW rfl) rfl) (congrArg D.int (by omega))) (by omega) rfl rfl) rfl) (vZ (.inr (hs k (k-1) hk (by omega))))) jE) rfl
 ·have e:gO a (k+1)=gO a k:=by show(if 0<k then _ else _)=_;rw[if_neg h0]
  rw[e]
  exact Sy cm (fP (x:=.int (k:Int)) (y:=.int 0) (xName rfl) (aW rfl) (by rw[oGt,decide_eq_false (by omega)])) jE
def kO(n:Nat):Nat->Sl
 | 0=>kS (n-1)
 | k+1=>nI k
theorem X4(i:Nat):nOw (kO n i)=true:=by cases i;exact RV _;rfl
theorem t3(h1:1<=n)(h4:n<=4)(hA:ckA n a=true)(hM:∀ c,c<n->ckM n c a=true):blk (cxN T 60 39) 60 60 lSc (bdy 3) (SA ns n (.ow (Ls n fun i=>.int (a i))) (kS (n-1)) .no .no .no .no)=some (.ret (.bl true)):=by
 have hs:∀ i j,i<n->j<n->small (a i-a j)=true:=fun i j hi hj=>by
  unfold ckA at hA
  simp only[Bool.and_eq_true] at hA
  exact List.all_eq_true.mp (List.all_eq_true.mp hA.2 i (List.mem_range.mpr hi)) j (List.mem_range.mpr hj)
 have fz:∀ {e:Expr},dg 60 "_law_numbers" e=true->frz 60 e (SA ns n (.ow (Ls n fun i=>.int (a i))) (kS (n-1)) .no .no .no .no)=SA ns n (.sh (La n a)) (kS (n-1)) .no .no .no .no:=fun hm =>
  DE.fz_c rfl (DE.fz_c rfl (DE.fz_o hm (DE.fz_c (RV _) (DE.fz_c rfl (DE.fz_c rfl (DE.fz_c rfl (DE.fz_c rfl (DE.fz_c rfl (DE.fz_c rfl (DE.fz_c rfl (DE.fz_c rfl (DE.fz_c rfl (DE.fz_c rfl (DE.fz_c rfl (DE.fz_c rfl DE.fz_n)))))))))))))))
 refine gTup (ρ:=SA ns n (.ow (Ls n fun i=>.int (a i))) (kS (n-1)) .no .no .no .no) (ρ':=SA ns n (.sh (La n a)) (kS (n-1)) (.sh (.int 1)) (.sh (.int (a 0))) .no .no) (d:=.tup [.int 1,.int (a 0)]) rfl ?_ rfl ?_ ?_
 ·rw[fz rfl]
  exact Jj (ds:=[.int 1,.int (a 0)]) (ao (aW rfl) (ao (qM (m:=n) (j:=0) (h:=fun i=>.int (a i)) (xName rfl) (aW rfl) (by omega) rfl rfl) bh)) rfl
 ·rw[fz rfl];rfl
 ·have go:=gB (f:=fF (cxN T 60 39) 60 59 lSc (kY (bM 112 4)) (cB (bM 112 4))) (h:=fun i=>.int (i:Int)) (N:=n) (R:=fun k=>SA ns n (.sh (La n a)) (kO n k) (.sh (.int (dO a k))) (.sh (.int (gO a k))) (jS k) .no) fun k hk=>outer h4 hs k hk (X4 k)
  have ke:kO n n=nI (n-1):=by
   obtain⟨t,rfl⟩:∃ t,n=t+1:=⟨n-1,by omega⟩
   rfl
  rw[ke] at go
  exact oK (ρ:=SA ns n (.sh (La n a)) (kS (n-1)) (.sh (.int 1)) (.sh (.int (a 0))) .no .no) (ρ':=SA ns n (.sh (La n a)) (kS (n-1)) (.sh (.int 1)) (.sh (.int (a 0))) .no .no) (fB (rW rfl (RV _) rfl rfl rfl rfl)) (yV (j:=n) rfl (xName rfl) (by omega)) go (t5 (RW n) h1 h4 hA hM)
end
theorem law_true(ns:List Int)(_:ns.length<=63):aG T 60 40 "law" [.lst (ns.map D.int)]=some (.bl true):=by
 have hn:=fX (ns:=ns) (k:=0) (many:=4) (by omega)
 have p0:=pick 37 ns 0 (many:=4) (by omega)
 generalize pickN ns 0 4=m at hn p0
 have h1:1<=1+m:=by omega
 have h4:1+m<=4:=by omega
 have p1:=pick 37 ns 1 (many:=3) (by omega)
 have q:∀ i,pickN ns i 3<3:=fun i=>fX (by decide)
 obtain⟨b',c',d',hck,hag⟩:=Jb (n:=1+m) (a:=pickN ns 1 3) (b:=pickN ns 2 3) (c:=pickN ns 3 3) (d:=pickN ns 4 3) h1 h4 (q 1) (q 2) (q 3) (q 4)
 generalize hQ:qf (pickN ns 1 3) b' c' d'=Q at hck hag
 have hQ1:∀ i,i+1<1+m->Q (i+1)=pickN ns (2+i) 3:=fun i hi=>by
  rw[hag (i+1) hi]
  match i,(by omega:i<3) with
  | 0,_=>rfl
  | 1,_=>rfl
  | 2,_=>rfl
 have hQ0:Q 0=pickN ns 1 3:=hag 0 (by omega)
 unfold ck at hck
 rw[Bool.and_eq_true] at hck
 obtain⟨hA,hM⟩:=hck
 have hM':∀ c,c<1+m->ckM (1+m) c (aF Q)=true:=fun c hc=>List.all_eq_true.mp hM c (List.mem_range.mpr hc)
 refine cC (fd:=aP (top 112)) rfl rfl (Eh (ρ:=pF ns .no .no .no .no .no .no .no .no .no .no .no .no .no .no .no) (d:=.int ((1+m:Nat):Int)) rfl rfl rfl (nM (cg (x:=.int 1) (y:=.int (m:Int)) (aW rfl) (aB rfl (ao (x:=scr ns) (xName rfl) (ao (aW rfl) (ao (aW rfl) bh))) p0) rfl) (congrArg D.int (by omega))) ?_)
 refine Ww (ρ:=SA ns (1+m) .no .no .no .no .no .no) rfl rfl (d:=.lst [.int (aF Q 0)]) (Fy (ao (nM (cg (x:=.int 1) (y:=.int (pickN ns 1 3:Nat)) (aW rfl) (aB rfl (ao (x:=scr ns) (xName rfl) (ao (aW rfl) (ao (aW rfl) bh))) p1) rfl) (by rw[<- hQ0];rfl)) bh) rfl) ?_
 have go:=gB (f:=fF (cxN T 60 39) 60 59 lSc (kY (bM 112 2)) (cB (bM 112 2))) (h:=fun i=>.int (i:Int)) (N:=m) (R:=fun i=>SA ns (1+m) (.ow (Ls (i+1) fun t=>.int (aF Q t))) (kS i) .no .no .no .no) fun i hi=>by
  have pk:=pick 37 ns (2+i) (many:=3) (by omega)
  rw[<- hQ1 i (by omega)] at pk
  refine lq (ρ1:=SA ns (1+m) (.ow (Ls (i+1) fun t=>.int (aF Q t))) (nI i) .no .no .no .no) rfl ?_
  rw[fO (m:=i+1)]
  refine Ii (ρ:=SA ns (1+m) (.ow (Ls (i+1) fun t=>.int (aF Q t))) (nI i) .no .no .no .no) (ρ':=SA ns (1+m) (.sh (.lst (Ls (i+1) fun t=>.int (aF Q t)))) (nI i) .no .no .no .no) (d:=.int (aF Q (i+1))) rfl rfl rfl ?_ (cg (x:=.int (aF Q i)) (y:=.int (Q (i+1):Nat)) (xIx (x:=.lst (Ls (i+1) fun t=>.int (aF Q t))) (i := -1) (xName rfl) (Fx (aW rfl)) rfl (by rw[fO];exact qG)) (aB rfl (ao (x:=scr ns) (xName rfl) (ao (x:=.int ((2+i:Nat):Int)) (nM (cg (x:=.int 2) (y:=.int (i:Int)) (aW rfl) (xName rfl) rfl) (congrArg D.int (by omega))) (ao (aW rfl) bh))) pk) rfl) rfl jE
  rw[aR,gJ (by omega)];rfl
 rw[show m+1=1+m by omega,show kS m=kS (1+m-1) by congr 1;omega] at go
 exact oK (ρ:=SA ns (1+m) (.ow [.int (aF Q 0)]) .no .no .no .no .no) (ρ':=SA ns (1+m) (.ow [.int (aF Q 0)]) .no .no .no .no .no) rfl (yV (j:=m) rfl (nM (cg (x:=.int ((1+m:Nat):Int)) (y:=.int 1) (xName rfl) (aW rfl) rfl) (congrArg D.int (by omega))) (by omega)) go (t3 h1 h4 hA hM')
end M53
noncomputable section
namespace HS
open PySem PySem.W
theorem goT{p:Program}{w:World}{m:Nat}{a:Option Value}{n:Nat}{x y:Shared}{u:Thread}{c:Code}{o:Pos}{l:List Frame}(h:Fast.tw15667345088766844465 Fast.tw14364793385576792824 p w m a n x u=some (y,⟨Fast.tw11892475500146522536 Fast.tw14364793385576792824 c,c,o,l⟩)):topGo treeTable p w m a n x u=some (y,⟨denote treeTable c,c,o,l⟩):=by
 rw[Fast.te15667345088766844465,Fast.te14364793385576792824,Fast.te11892475500146522536];exact h
theorem Xj{p:Program}{w:World}{m:Nat}{a:Option Value}{k n:Nat}{x:Shared}{u:Thread}{y:Option (Flow×Shared×Code×Pos)}(h:Fast.tw14374325043358763698 Fast.tw14364793385576792824 p w m a k n x u=y):segRun treeTable p w m a k n x u=y:=by
 rw[Fast.te14374325043358763698,Fast.te14364793385576792824];exact h
theorem rz{p:Program}{w:World}{m:Nat}{a:Option Value}{k n:Nat}{x:SharedT}{u:Thread}{y:Option (Flow×SharedT×Code×Pos)}(h:Fast.tw10110043849684766642 Fast.tw14364793385576792824 p w m a k n x u=y):segRunT treeTable p w m a k n x u=y:=by
 rw[Fast.te10110043849684766642,Fast.te14364793385576792824];exact h
theorem W6{p:Program}{w:World}{m:Nat}{a:Option Value}{n:Nat}{x:Shared}{u:Thread}{y:Option Shared}(h:Fast.tw14082659384304107361 Fast.tw14364793385576792824 p w m a n x u=y):topRun treeTable p w m a n x u=y:=by
 rw[Fast.te14082659384304107361,Fast.te14364793385576792824];exact h
theorem Kc{p:Program}{w:World}{m:Nat}{a:Option Value}{n:Nat}{x:Shared}{b l:List Stmt}{E:Env}{c:Code}{o:Pos}{B:List Frame}{y:Option Shared}(e:b=l)(h:topRun treeTable p w m a n x (restOf l E c o B)=y):topRun treeTable p w m a n x (restOf b E c o B)=y:=by
 rw[e];exact h
end HS
namespace H53
open PySem PySem.W HS
abbrev p:Program:=PySem.Challenge.pw_minortables_k53_whole_kinds_worths
abbrev q:Program:=PySem.W.view p [1,2,3,4,5,7,8,9,10,11,12,13,14,15,16,17,18,20,21,22,23,24,25,26,27,28,29,31,32,33,34,35,36,37,38,39,40,41,42,43,45,46,47,48,49,51,53,54,55,56,58,59,60,61,62,63,64,65,66,67,68,69,70,71,73,74,75,76,77,78,79,81,82,83,84,85,86,87,88,89,90,91,92,93,94,95,96,97,98,99,100,101,103,104,105,106,107,108,109,110,111,112]
abbrev N:Nat:=7756
abbrev lo:List Str:=["row_by_column_tables","row_by_columns_tables","TURNED_WORDS","row_by_column_steps","row_by_columns_steps"]
abbrev z:Value:=.none
abbrev r(a:Nat):Value:=.ref a
abbrev i(a:Int)(n:Nat):Value:=.int a n
abbrev s(x:Str)(n:Nat):Value:=.str x n
abbrev t(x:String):Value:=.type x
abbrev b(x:String):Value:=.builtin x
abbrev e(P:Params)(x:Str)(n:Nat)(v:Value):DictEntry:=⟨PyData.keyHash P x,.str x n,v⟩
def d(j:Nat):Stmt:=p.main.body.getD j (.Pass ⟨0,0,0,0⟩)
def m(j k:Nat):Stmt:=match d j with | .ClassDef _ _ _ l .. =>l.getD k (.Pass ⟨0,0,0,0⟩) | x=>x
def f(x:Stmt)(qn:Str)(g:Nat)(dV kV dc pm cd ct:Value):FuncData:=match x with | .FunctionDef n a l _ _ _ sc .. =>⟨n,qn,a,.stmts l,sc,g,[],dV,kV,dc,pm,none,cd,ct,0⟩ | _=>default
def y:Obj:=⟨.type "tuple",none,.seq #[] 0,#[]⟩
def x:Obj:=⟨.none,none,.fields #[],#[]⟩
def tnV:List Str->Nat->List Value | [],_=>[] | a::l,k=>.str a k::tnV l (k+1)
def tn(l:List Str)(k:Nat):Obj:=⟨.type "tuple",none,.seq (tnV l k).toArray 0,#[]⟩
def g(a:Stmt)(n:Str):Obj:=⟨.none,none,.func (f a n 0 z z z z z z),#[]⟩
def u(a:Stmt)(n:Str)(pm:Value)(c:Nat):Obj:=⟨.type "function",none,.func (f a n 3 z z z pm (r c) z),#[]⟩
def c(n:Str)(k:Nat)(l a fl:Int)(q:Nat)(bb:Bool)(h:Int)(q':Nat)(v w v':Value)(k':Nat):Obj:=⟨.type "code",none,.fields #[s n k,s n (k+1),s "/claim/cut.py" (k+2),i l 0,i a 0,i 0 0,i 0 0,i fl 0,r q,.bool bb,i h 0,r q',z,v,w,v',i k' 0,i l 0,s "/claim/cut.py" (k'+1)],#[]⟩
def I(t:BT):Nat->List Obj->BT | _,[]=>t | n,o::l=>I (t.ins n o) (n+1) l
def es(P:Params):List DictEntry:=[e P "__doc__" 166 z,
  e P "__package__" 167 z,
  e P "__loader__" 168 (b "__main__.__loader__#opaque"),
  e P "__spec__" 169 z,
  e P "__annotations__" 170 (r 6),
  e P "__builtins__" 171 (r 4),
  e P "__file__" 173 (s "/claim/cut.py" 172),
  e P "__cached__" 174 z,
  e P "MinorError" 206 (r 24),
  e P "NoTable" 222 (r 37),
  e P "NoFit" 238 (r 49),
  e P "NoStep" 254 (r 61),
  e P "NoSteps" 270 (r 73),
  e P "MOST_LINES" 274 (i 4 273),
  e P "is_whole" 281 (r 82),
  e P "is_whole_within" 290 (r 89),
  e P "is_short_tuple" 297 (r 96),
  e P "has_lines" 303 (r 101),
  e P "numbers_of" 312 (r 108),
  e P "has_table_form" 318 (r 113),
  e P "is_square" 325 (r 120),
  e P "is_place" 333 (r 127),
  e P "need_table" 340 (r 134),
  e P "need_square" 347 (r 141),
  e P "need_size" 355 (r 148),
  e P "power_row" 367 (r 155),
  e P "powers" 373 (r 160),
  e P "row_of_sums" 382 (r 167),
  e P "by_sums" 391 (r 174),
  e P "row_of_lesser" 397 (r 179),
  e P "lesser" 403 (r 184),
  e P "begun_at" 412 (r 191),
  e P "scaled" 418 (r 196),
  e P "heap_sums" 424 (r 201),
  e P "heaped" 430 (r 206),
  e P "common_measure" 441 (r 213),
  e P "lowest" 450 (r 220),
  e P "has_fraction_form" 457 (r 227),
  e P "is_fraction" 464 (r 234),
  e P "sum_of" 472 (r 241),
  e P "times_of" 480 (r 248),
  e P "less_of" 488 (r 255),
  e P "parted" 496 (r 262),
  e P "all_sum" 505 (r 269),
  e P "all_times" 514 (r 276),
  e P "need_fraction_table" 520 (r 281),
  e P "row_as_fractions" 526 (r 286),
  e P "as_fractions" 532 (r 291),
  e P "column_of" 540 (r 296),
  e P "columns_of" 546 (r 301),
  e P "turned" 553 (r 308),
  e P "picked" 559 (r 313),
  e P "part_at" 565 (r 318),
  e P "row_by_column" 571 (r 499),
  e P "row_by_column_tables" 572 (r 323),
  e P "row_by_columns" 578 (r 504),
  e P "row_by_columns_tables" 579 (r 328),
  e P "times" 585 (r 333),
  e P "plain_row" 591 (r 338),
  e P "plain" 597 (r 343),
  e P "without" 605 (r 348),
  e P "worth_of" 611 (r 353),
  e P "rest_worth" 620 (r 360),
  e P "signed_rest" 630 (r 367),
  e P "row_with_rests" 636 (r 372),
  e P "with_behind" 642 (r 377),
  e P "rising_tuples" 654 (r 384),
  e P "greatest_size" 661 (r 391),
  e P "minors_of_rows" 671 (r 398),
  e P "minors_of_size" 681 (r 405),
  e P "minors_in" 690 (r 412),
  e P "all_minors" 697 (r 419),
  e P "whole_minor" 704 (r 426),
  e P "rank" 710 (r 431),
  e P "none_below" 718 (r 436),
  e P "is_good" 725 (r 443),
  e P "are_in_a_row" 732 (r 450),
  e P "is_solid" 739 (r 457),
  e P "is_at_first" 746 (r 464),
  e P "solid_minors" 752 (r 469),
  e P "first_minors" 758 (r 474),
  e P "UP" 762 (s "up" 761),
  e P "DOWN" 764 (s "down" 763),
  e P "SCALE" 766 (s "scale" 765),
  e P "TURNED_WORDS" 776 (r 475),
  e P "is_step_of" 786 (r 482),
  e P "is_step" 794 (r 489),
  e P "need_steps" 800 (r 494),
  e P "row_by_column_steps" 807 (r 499),
  e P "row_by_columns_steps" 814 (r 504),
  e P "product_of" 820 (r 509),
  e P "table_of_step" 826 (r 514),
  e P "made_by" 838 (r 521),
  e P "turned_steps" 844 (r 526),
  e P "row_less" 850 (r 531),
  e P "down_steps" 862 (r 538),
  e P "corner_worth" 868 (r 543),
  e P "scale_steps" 878 (r 550),
  e P "can_be_taken_apart" 885 (r 557),
  e P "taken_apart" 892 (r 564),
  e P "_law_cell" 902 (r 571),
  e P "_law_pick" 912 (r 578),
  e P "_law_table" 918 (r 583),
  e P "_law_size" 926 (r 590),
  e P "_law_times" 940 (r 597),
  e P "_law_worth" 946 (r 602),
  e P "_law_some" 952 (r 607),
  e P "_law_part" 958 (r 612),
  e P "_law_minors" 969 (r 619),
  e P "law" 975 (r 624)]
def og(k n:Nat)(v:Value)(P:Params):Obj:=⟨.type "dict",none,.dict ((e P "__name__" 165 v::es P).take k).toArray n,#[]⟩
def fv:List Value:=[(i 2 0),(i 0 0),(r 20),(i 4 0),(i 0 0),(r 33),(i 6 0),(i 0 0),(r 45),(i 8 0),(i 0 0),(r 57),(i 10 0),(i 0 0),(r 69),(i 14 0),(i 0 0),(r 81),(i 16 0),(i 0 0),(r 88),(i 18 0),(i 0 0),(r 95),(i 20 0),(i 0 0),(r 100),(i 24 0),(i 0 0),(r 107),(i 29 0),(i 0 0),(r 112),(i 31 0),(i 0 0),(r 119),(i 33 0),(i 0 0),(r 126),(i 35 0),(i 0 0),(r 133),(i 38 0),(i 0 0),(r 140),(i 41 0),(i 0 0),(r 147),(i 45 0),(i 0 0),(r 154),(i 50 0),(i 0 0),(r 159),(i 53 0),(i 0 0),(r 166),(i 58 0),(i 0 0),(r 173),(i 64 0),(i 0 0),(r 178),(i 66 0),(i 0 0),(r 183),(i 69 0),(i 0 0),(r 190),(i 71 0),(i 0 0),(r 195),(i 75 0),(i 0 0),(r 200),(i 80 0),(i 0 0),(r 205),(i 85 0),(i 0 0),(r 212),(i 91 0),(i 0 0),(r 219),(i 96 0),(i 0 0),(r 226),(i 102 0),(i 0 0),(r 233),(i 104 0),(i 0 0),(r 240),(i 106 0),(i 0 0),(r 247),(i 108 0),(i 0 0),(r 254),(i 110 0),(i 0 0),(r 261),(i 112 0),(i 0 0),(r 268),(i 117 0),(i 0 0),(r 275),(i 122 0),(i 0 0),(r 280),(i 125 0),(i 0 0),(r 285),(i 127 0),(i 0 0),(r 290),(i 131 0),(i 0 0),(r 295),(i 133 0),(i 0 0),(r 300),(i 135 0),(i 0 0),(r 307),(i 138 0),(i 0 0),(r 312),(i 140 0),(i 0 0),(r 317),(i 142 0),(i 0 0),(r 322),(i 145 0),(i 0 0),(r 327),(i 148 0),(i 0 0),(r 332),(i 155 0),(i 0 0),(r 337),(i 157 0),(i 0 0),(r 342),(i 161 0),(i 0 0),(r 347),(i 164 0),(i 0 0),(r 352),(i 168 0),(i 0 0),(r 359),(i 170 0),(i 0 0),(r 366),(i 173 0),(i 0 0),(r 371),(i 175 0),(i 0 0),(r 376),(i 178 0),(i 0 0),(r 383),(i 186 0),(i 0 0),(r 390),(i 188 0),(i 0 0),(r 397),(i 193 0),(i 0 0),(r 404),(i 198 0),(i 0 0),(r 411),(i 203 0),(i 0 0),(r 418),(i 206 0),(i 0 0),(r 425),(i 210 0),(i 0 0),(r 430),(i 213 0),(i 0 0),(r 435),(i 215 0),(i 0 0),(r 442),(i 217 0),(i 0 0),(r 449),(i 219 0),(i 0 0),(r 456),(i 221 0),(i 0 0),(r 463),(i 223 0),(i 0 0),(r 468),(i 225 0),(i 0 0),(r 473),(i 232 0),(i 0 0),(r 481),(i 236 0),(i 0 0),(r 488),(i 240 0),(i 0 0),(r 493),(i 245 0),(i 0 0),(r 498),(i 248 0),(i 0 0),(r 503),(i 251 0),(i 0 0),(r 508),(i 258 0),(i 0 0),(r 513),(i 264 0),(i 0 0),(r 520),(i 270 0),(i 0 0),(r 525),(i 272 0),(i 0 0),(r 530),(i 274 0),(i 0 0),(r 537),(i 284 0),(i 0 0),(r 542),(i 286 0),(i 0 0),(r 549),(i 293 0),(i 0 0),(r 556),(i 297 0),(i 0 0),(r 563),(i 302 0),(i 0 0),(r 570),(i 308 0),(i 0 0),(r 577),(i 311 0),(i 0 0),(r 582),(i 317 0),(i 0 0),(r 589),(i 319 0),(i 0 0),(r 596),(i 330 0),(i 0 0),(r 601),(i 340 0),(i 0 0),(r 606),(i 348 0),(i 0 0),(r 611),(i 350 0),(i 0 0),(r 618),(i 357 0),(i 0 0),(r 623)]
def o12:Obj:=⟨z,none,.fields (fv.take 0).toArray,#[]⟩
def o13:Obj:=c "<module>" 182 1 0 0 11 false 181 12 z z z 185
def o14:Obj:=⟨(t "frame"),none,.plain,#[some (r 13),some (r 3),some (r 3),none,some (s "__main__" 164),none,some (r 0)]⟩
def XQ(P:Params):Obj:=og 10 10 (s "minortables.errors" 187) P
def Ru:Obj:=⟨z,none,.fields (fv.take 3).toArray,#[]⟩
def o15:Obj:=⟨(t "tuple"),none,(.seq #[(t "ValueError")] 0),#[]⟩
def o16:Obj:=⟨(t "builtin_function_or_method"),none,(.fields #[(b "type.__prepare__"),(t "type")]),#[]⟩
def o17(P:Params):Obj:=⟨(t "dict"),none,(.dict #[e P "__module__" 196 (s "minortables.errors" 187),e P "__qualname__" 198 (s "MinorError" 197),e P "__firstlineno__" 200 (i 2 199),e P "__static_attributes__" 201 (r 22)] 4),#[]⟩
def o20:Obj:=c "MinorError" 191 2 0 0 18 false 181 19 z z z 194
def o21:Obj:=⟨(t "frame"),none,.plain,#[some (r 20),some (r 3),some (r 17),none,some (s "minortables.errors" 187),none,some (r 0)]⟩
def o23(P:Params):Obj:=⟨(t "dict"),none,(.dict #[e P "__module__" 196 (s "minortables.errors" 187),e P "__firstlineno__" 200 (i 2 199),e P "__static_attributes__" 201 (r 22),e P "__weakref__" 203 (r 25),e P "__doc__" 204 z] 3),#[]⟩
def o24:Obj:=⟨(t "type"),none,(.cls ⟨"MinorError",[(t "ValueError")],[(r 24),(t "ValueError"),(t "Exception"),(t "BaseException"),(t "object")],23,"MinorError",true,[],[],false,none,false⟩),#[some (r 15),none,some (s "MinorError" 189),some (s "MinorError" 197),some (b "ValueError.__new__"),some (.bool true)]⟩
def o25:Obj:=⟨(t "getset_descriptor"),none,(.fields #[(s "__weakref__" 202),(r 24),(b "ExceptionGroup.__weakref__"),z]),#[]⟩
def o26:Obj:=⟨(t "super"),none,(.fields #[(r 24),(r 24),(r 24)]),#[]⟩
def o27:Obj:=⟨(t "builtin_function_or_method"),none,(.fields #[(b "object.__init_subclass__"),(r 24)]),#[]⟩
def XM(P:Params):Obj:=og 11 11 (s "minortables.errors" 187) P
def Rt:Obj:=⟨z,none,.fields (fv.take 6).toArray,#[]⟩
def Qe:Obj:=⟨(t "type"),none,(.cls ⟨"MinorError",[(t "ValueError")],[(r 24),(t "ValueError"),(t "Exception"),(t "BaseException"),(t "object")],23,"MinorError",true,[],[(r 37)],false,none,false⟩),#[some (r 15),none,some (s "MinorError" 189),some (s "MinorError" 197),some (b "ValueError.__new__"),some (.bool true)]⟩
def o28:Obj:=⟨(t "tuple"),none,(.seq #[(r 24)] 0),#[]⟩
def o29:Obj:=⟨(t "builtin_function_or_method"),none,(.fields #[(b "type.__prepare__"),(t "type")]),#[]⟩
def o30(P:Params):Obj:=⟨(t "dict"),none,(.dict #[e P "__module__" 214 (s "minortables.errors" 187),e P "__qualname__" 216 (s "NoTable" 215),e P "__firstlineno__" 218 (i 4 217),e P "__static_attributes__" 219 (r 35)] 4),#[]⟩
def o33:Obj:=c "NoTable" 209 4 0 0 31 false 181 32 z z z 212
def o34:Obj:=⟨(t "frame"),none,.plain,#[some (r 33),some (r 3),some (r 30),none,some (s "minortables.errors" 187),none,some (r 0)]⟩
def o36(P:Params):Obj:=⟨(t "dict"),none,(.dict #[e P "__module__" 214 (s "minortables.errors" 187),e P "__firstlineno__" 218 (i 4 217),e P "__static_attributes__" 219 (r 35),e P "__doc__" 220 z] 2),#[]⟩
def o37:Obj:=⟨(t "type"),none,(.cls ⟨"NoTable",[(r 24)],[(r 37),(r 24),(t "ValueError"),(t "Exception"),(t "BaseException"),(t "object")],36,"NoTable",true,[],[],false,none,false⟩),#[some (r 28),none,some (s "NoTable" 207),some (s "NoTable" 215),some (b "ValueError.__new__"),some (.bool true)]⟩
def o38:Obj:=⟨(t "super"),none,(.fields #[(r 37),(r 37),(r 37)]),#[]⟩
def o39:Obj:=⟨(t "builtin_function_or_method"),none,(.fields #[(b "object.__init_subclass__"),(r 37)]),#[]⟩
def XJ(P:Params):Obj:=og 12 12 (s "minortables.errors" 187) P
def Rr:Obj:=⟨z,none,.fields (fv.take 9).toArray,#[]⟩
def Qd:Obj:=⟨(t "type"),none,(.cls ⟨"MinorError",[(t "ValueError")],[(r 24),(t "ValueError"),(t "Exception"),(t "BaseException"),(t "object")],23,"MinorError",true,[],[(r 37),(r 49)],false,none,false⟩),#[some (r 15),none,some (s "MinorError" 189),some (s "MinorError" 197),some (b "ValueError.__new__"),some (.bool true)]⟩
def o40:Obj:=⟨(t "tuple"),none,(.seq #[(r 24)] 0),#[]⟩
def o41:Obj:=⟨(t "builtin_function_or_method"),none,(.fields #[(b "type.__prepare__"),(t "type")]),#[]⟩
def o42(P:Params):Obj:=⟨(t "dict"),none,(.dict #[e P "__module__" 230 (s "minortables.errors" 187),e P "__qualname__" 232 (s "NoFit" 231),e P "__firstlineno__" 234 (i 6 233),e P "__static_attributes__" 235 (r 47)] 4),#[]⟩
def o45:Obj:=c "NoFit" 225 6 0 0 43 false 181 44 z z z 228
def o46:Obj:=⟨(t "frame"),none,.plain,#[some (r 45),some (r 3),some (r 42),none,some (s "minortables.errors" 187),none,some (r 0)]⟩
def o48(P:Params):Obj:=⟨(t "dict"),none,(.dict #[e P "__module__" 230 (s "minortables.errors" 187),e P "__firstlineno__" 234 (i 6 233),e P "__static_attributes__" 235 (r 47),e P "__doc__" 236 z] 2),#[]⟩
def o49:Obj:=⟨(t "type"),none,(.cls ⟨"NoFit",[(r 24)],[(r 49),(r 24),(t "ValueError"),(t "Exception"),(t "BaseException"),(t "object")],48,"NoFit",true,[],[],false,none,false⟩),#[some (r 40),none,some (s "NoFit" 223),some (s "NoFit" 231),some (b "ValueError.__new__"),some (.bool true)]⟩
def o50:Obj:=⟨(t "super"),none,(.fields #[(r 49),(r 49),(r 49)]),#[]⟩
def o51:Obj:=⟨(t "builtin_function_or_method"),none,(.fields #[(b "object.__init_subclass__"),(r 49)]),#[]⟩
def XH(P:Params):Obj:=og 13 13 (s "minortables.errors" 187) P
def Rq:Obj:=⟨z,none,.fields (fv.take 12).toArray,#[]⟩
def Qc:Obj:=⟨(t "type"),none,(.cls ⟨"MinorError",[(t "ValueError")],[(r 24),(t "ValueError"),(t "Exception"),(t "BaseException"),(t "object")],23,"MinorError",true,[],[(r 37),(r 49),(r 61)],false,none,false⟩),#[some (r 15),none,some (s "MinorError" 189),some (s "MinorError" 197),some (b "ValueError.__new__"),some (.bool true)]⟩
def o52:Obj:=⟨(t "tuple"),none,(.seq #[(r 24)] 0),#[]⟩
def o53:Obj:=⟨(t "builtin_function_or_method"),none,(.fields #[(b "type.__prepare__"),(t "type")]),#[]⟩
def o54(P:Params):Obj:=⟨(t "dict"),none,(.dict #[e P "__module__" 246 (s "minortables.errors" 187),e P "__qualname__" 248 (s "NoStep" 247),e P "__firstlineno__" 250 (i 8 249),e P "__static_attributes__" 251 (r 59)] 4),#[]⟩
def o57:Obj:=c "NoStep" 241 8 0 0 55 false 181 56 z z z 244
def o58:Obj:=⟨(t "frame"),none,.plain,#[some (r 57),some (r 3),some (r 54),none,some (s "minortables.errors" 187),none,some (r 0)]⟩
def o60(P:Params):Obj:=⟨(t "dict"),none,(.dict #[e P "__module__" 246 (s "minortables.errors" 187),e P "__firstlineno__" 250 (i 8 249),e P "__static_attributes__" 251 (r 59),e P "__doc__" 252 z] 2),#[]⟩
def o61:Obj:=⟨(t "type"),none,(.cls ⟨"NoStep",[(r 24)],[(r 61),(r 24),(t "ValueError"),(t "Exception"),(t "BaseException"),(t "object")],60,"NoStep",true,[],[],false,none,false⟩),#[some (r 52),none,some (s "NoStep" 239),some (s "NoStep" 247),some (b "ValueError.__new__"),some (.bool true)]⟩
def o62:Obj:=⟨(t "super"),none,(.fields #[(r 61),(r 61),(r 61)]),#[]⟩
def o63:Obj:=⟨(t "builtin_function_or_method"),none,(.fields #[(b "object.__init_subclass__"),(r 61)]),#[]⟩
def XF(P:Params):Obj:=og 20 20 (s "minortables.checks" 271) P
def Rp:Obj:=⟨z,none,.fields (fv.take 30).toArray,#[]⟩
def Cw:Obj:=⟨(t "type"),none,(.cls ⟨"MinorError",[(t "ValueError")],[(r 24),(t "ValueError"),(t "Exception"),(t "BaseException"),(t "object")],23,"MinorError",true,[],[(r 37),(r 49),(r 61),(r 73)],false,none,false⟩),#[some (r 15),none,some (s "MinorError" 189),some (s "MinorError" 197),some (b "ValueError.__new__"),some (.bool true)]⟩
def o64:Obj:=⟨(t "tuple"),none,(.seq #[(r 24)] 0),#[]⟩
def o65:Obj:=⟨(t "builtin_function_or_method"),none,(.fields #[(b "type.__prepare__"),(t "type")]),#[]⟩
def o66(P:Params):Obj:=⟨(t "dict"),none,(.dict #[e P "__module__" 262 (s "minortables.errors" 187),e P "__qualname__" 264 (s "NoSteps" 263),e P "__firstlineno__" 266 (i 10 265),e P "__static_attributes__" 267 (r 71)] 4),#[]⟩
def o69:Obj:=c "NoSteps" 257 10 0 0 67 false 181 68 z z z 260
def o70:Obj:=⟨(t "frame"),none,.plain,#[some (r 69),some (r 3),some (r 66),none,some (s "minortables.errors" 187),none,some (r 0)]⟩
def o72(P:Params):Obj:=⟨(t "dict"),none,(.dict #[e P "__module__" 262 (s "minortables.errors" 187),e P "__firstlineno__" 266 (i 10 265),e P "__static_attributes__" 267 (r 71),e P "__doc__" 268 z] 2),#[]⟩
def o73:Obj:=⟨(t "type"),none,(.cls ⟨"NoSteps",[(r 24)],[(r 73),(r 24),(t "ValueError"),(t "Exception"),(t "BaseException"),(t "object")],72,"NoSteps",true,[],[],false,none,false⟩),#[some (r 64),none,some (s "NoSteps" 255),some (s "NoSteps" 263),some (b "ValueError.__new__"),some (.bool true)]⟩
def o74:Obj:=⟨(t "super"),none,(.fields #[(r 73),(r 73),(r 73)]),#[]⟩
def o75:Obj:=⟨(t "builtin_function_or_method"),none,(.fields #[(b "object.__init_subclass__"),(r 73)]),#[]⟩
def o78:Obj:=tn ["thing"] 278
def o80:Obj:=g (d 8) "is_whole"
def o81:Obj:=c "is_whole" 275 14 1 3 76 true 181 77 (r 78) (r 79) (r 80) 279
def o82:Obj:=u (d 8) "is_whole" (s "minortables.checks" 271) 81
def o85:Obj:=tn ["thing","least","most"] 285
def o87:Obj:=g (d 9) "is_whole_within"
def o88:Obj:=c "is_whole_within" 282 16 3 3 83 true 181 84 (r 85) (r 86) (r 87) 288
def o89:Obj:=u (d 9) "is_whole_within" (s "minortables.checks" 271) 88
def o92:Obj:=tn ["thing"] 294
def o94:Obj:=g (d 10) "is_short_tuple"
def o95:Obj:=c "is_short_tuple" 291 18 1 3 90 true 181 91 (r 92) (r 93) (r 94) 295
def o96:Obj:=u (d 10) "is_short_tuple" (s "minortables.checks" 271) 95
def o99:Obj:=g (d 11) "has_lines"
def o100:Obj:=c "has_lines" 298 20 1 3 97 true 181 98 z z (r 99) 301
def RM:Obj:=u (d 11) "has_lines" (s "minortables.checks" 271) 100
def RL:Obj:=tn ["table","told","row"] 307
def Wn:Obj:=g (d 12) "numbers_of"
def RK:Obj:=c "numbers_of" 304 24 1 3 102 true 181 103 (r 104) (r 105) (r 106) 310
def RJ:Obj:=u (d 12) "numbers_of" (s "minortables.checks" 271) 107
def XD(P:Params):Obj:=og 33 33 (s "minortables.kinds" 356) P
def Ro:Obj:=⟨z,none,.fields (fv.take 69).toArray,#[]⟩
def o111:Obj:=g (d 13) "has_table_form"
def RG:Obj:=c "has_table_form" 313 29 1 3 109 true 181 110 z z (r 111) 316
def RD:Obj:=u (d 13) "has_table_form" (s "minortables.checks" 271) 112
def RB:Obj:=tn ["table"] 322
def Wm:Obj:=g (d 14) "is_square"
def Rz:Obj:=c "is_square" 319 31 1 3 114 true 181 115 (r 116) (r 117) (r 118) 323
def Ry:Obj:=u (d 14) "is_square" (s "minortables.checks" 271) 119
def Rx:Obj:=tn ["thing","many"] 329
def Wj:Obj:=g (d 15) "is_place"
def Rw:Obj:=c "is_place" 326 33 2 3 121 true 181 122 (r 123) (r 124) (r 125) 331
def Rv:Obj:=u (d 15) "is_place" (s "minortables.checks" 271) 126
def Rj:Obj:=tn ["thing"] 337
def Wi:Obj:=g (d 16) "need_table"
def Ri:Obj:=c "need_table" 334 35 1 3 128 true 181 129 (r 130) (r 131) (r 132) 338
def Rh:Obj:=u (d 16) "need_table" (s "minortables.checks" 271) 133
def Rg:Obj:=tn ["table"] 344
def Wh:Obj:=g (d 17) "need_square"
def Rf:Obj:=c "need_square" 341 38 1 3 135 true 181 136 (r 137) (r 138) (r 139) 345
def Rc:Obj:=u (d 17) "need_square" (s "minortables.checks" 271) 140
def Rb:Obj:=tn ["thing","most"] 351
def Wg:Obj:=g (d 18) "need_size"
def Ra:Obj:=c "need_size" 348 41 2 3 142 true 181 143 (r 144) (r 145) (r 146) 353
def Q9:Obj:=u (d 18) "need_size" (s "minortables.checks" 271) 147
def Q8:Obj:=tn ["number","many","row","place"] 361
def Wf:Obj:=g (d 20) "power_row"
def Q7:Obj:=c "power_row" 358 45 2 3 149 true 181 150 (r 151) (r 152) (r 153) 365
def Q6:Obj:=u (d 20) "power_row" (s "minortables.kinds" 356) 154
def Wd:Obj:=g (d 21) "powers"
def Q5:Obj:=c "powers" 368 50 1 3 156 true 181 157 z z (r 158) 371
def Q0:Obj:=u (d 21) "powers" (s "minortables.kinds" 356) 159
def QZ:Obj:=tn ["above","row","number"] 377
def Wb:Obj:=g (d 22) "row_of_sums"
def QX:Obj:=c "row_of_sums" 374 53 1 3 161 true 181 162 (r 163) (r 164) (r 165) 380
def QW:Obj:=u (d 22) "row_of_sums" (s "minortables.kinds" 356) 166
def QV:Obj:=tn ["many","rows","place"] 386
def Wa:Obj:=g (d 23) "by_sums"
def QT:Obj:=c "by_sums" 383 58 1 3 168 true 181 169 (r 170) (r 171) (r 172) 389
def QS:Obj:=u (d 23) "by_sums" (s "minortables.kinds" 356) 173
def V9:Obj:=g (d 24) "row_of_lesser"
def QM:Obj:=c "row_of_lesser" 392 64 2 3 175 true 181 176 z z (r 177) 395
def QL:Obj:=u (d 24) "row_of_lesser" (s "minortables.kinds" 356) 178
def V8:Obj:=g (d 25) "lesser"
def QK:Obj:=c "lesser" 398 66 1 3 180 true 181 181 z z (r 182) 401
def QJ:Obj:=u (d 25) "lesser" (s "minortables.kinds" 356) 183
def QH:Obj:=tn ["column","some","many"] 407
def V7:Obj:=g (d 26) "begun_at"
def QG:Obj:=c "begun_at" 404 69 3 3 185 true 181 186 (r 187) (r 188) (r 189) 410
def QF:Obj:=u (d 26) "begun_at" (s "minortables.kinds" 356) 190
def XC(P:Params):Obj:=og 46 46 (s "minortables.fractions" 431) P
def Rn:Obj:=⟨z,none,.fields (fv.take 108).toArray,#[]⟩
def V6:Obj:=g (d 27) "scaled"
def QD:Obj:=c "scaled" 413 71 1 3 192 true 181 193 z z (r 194) 416
def QC:Obj:=u (d 27) "scaled" (s "minortables.kinds" 356) 195
def V5:Obj:=g (d 28) "heap_sums"
def o200:Obj:=c "heap_sums" 419 75 3 3 197 true 181 198 z z (r 199) 422
def QB:Obj:=u (d 28) "heap_sums" (s "minortables.kinds" 356) 200
def V4:Obj:=g (d 29) "heaped"
def Qz:Obj:=c "heaped" 425 80 3 3 202 true 181 203 z z (r 204) 428
def Qy:Obj:=u (d 29) "heaped" (s "minortables.kinds" 356) 205
def Qx:Obj:=tn ["one","other","rest"] 436
def V3:Obj:=g (d 31) "common_measure"
def Qw:Obj:=c "common_measure" 433 85 2 3 207 true 181 208 (r 209) (r 210) (r 211) 439
def Qv:Obj:=u (d 31) "common_measure" (s "minortables.fractions" 431) 212
def Qu:Obj:=tn ["up","down","measure"] 445
def V2:Obj:=g (d 32) "lowest"
def Qt:Obj:=c "lowest" 442 91 2 3 214 true 181 215 (r 216) (r 217) (r 218) 448
def Qs:Obj:=u (d 32) "lowest" (s "minortables.fractions" 431) 219
def Qq:Obj:=tn ["thing"] 454
def V1:Obj:=g (d 33) "has_fraction_form"
def Qp:Obj:=c "has_fraction_form" 451 96 1 3 221 true 181 222 (r 223) (r 224) (r 225) 455
def Qo:Obj:=u (d 33) "has_fraction_form" (s "minortables.fractions" 431) 226
def Qn:Obj:=tn ["thing"] 461
def V0:Obj:=g (d 34) "is_fraction"
def Qm:Obj:=c "is_fraction" 458 102 1 3 228 true 181 229 (r 230) (r 231) (r 232) 462
def Ql:Obj:=u (d 34) "is_fraction" (s "minortables.fractions" 431) 233
def Qk:Obj:=tn ["one","other"] 468
def VR:Obj:=g (d 35) "sum_of"
def Qj:Obj:=c "sum_of" 465 104 2 3 235 true 181 236 (r 237) (r 238) (r 239) 470
def Qi:Obj:=u (d 35) "sum_of" (s "minortables.fractions" 431) 240
def Qh:Obj:=tn ["one","other"] 476
def VP:Obj:=g (d 36) "times_of"
def Qg:Obj:=c "times_of" 473 106 2 3 242 true 181 243 (r 244) (r 245) (r 246) 478
def Qf:Obj:=u (d 36) "times_of" (s "minortables.fractions" 431) 247
def Qa:Obj:=tn ["one","other"] 484
def VN:Obj:=g (d 37) "less_of"
def P0:Obj:=c "less_of" 481 108 2 3 249 true 181 250 (r 251) (r 252) (r 253) 486
def PX:Obj:=u (d 37) "less_of" (s "minortables.fractions" 431) 254
def PN:Obj:=tn ["one","other"] 492
def VL:Obj:=g (d 38) "parted"
def PL:Obj:=c "parted" 489 110 2 3 256 true 181 257 (r 258) (r 259) (r 260) 494
def PK:Obj:=u (d 38) "parted" (s "minortables.fractions" 431) 261
def PJ:Obj:=tn ["some","told","fraction"] 500
def VJ:Obj:=g (d 39) "all_sum"
def PB:Obj:=c "all_sum" 497 112 1 3 263 true 181 264 (r 265) (r 266) (r 267) 503
def Pz:Obj:=u (d 39) "all_sum" (s "minortables.fractions" 431) 268
def Py:Obj:=tn ["some","told","fraction"] 509
def VH:Obj:=g (d 40) "all_times"
def Px:Obj:=c "all_times" 506 117 1 3 270 true 181 271 (r 272) (r 273) (r 274) 512
def Pu:Obj:=u (d 40) "all_times" (s "minortables.fractions" 431) 275
def Xz(P:Params):Obj:=⟨(t "dict"),none,(.dict #[e P "__name__" 165 (s "minortables.minors" 598),e P "__doc__" 166 z,e P "__package__" 167 z,e P "__loader__" 168 (b "__main__.__loader__#opaque"),e P "__spec__" 169 z,e P "__annotations__" 170 (r 6),e P "__builtins__" 171 (r 4),e P "__file__" 173 (s "/claim/cut.py" 172),e P "__cached__" 174 z,e P "MinorError" 206 (r 24),e P "NoTable" 222 (r 37),e P "NoFit" 238 (r 49),e P "NoStep" 254 (r 61),e P "NoSteps" 270 (r 73),e P "MOST_LINES" 274 (i 4 273),e P "is_whole" 281 (r 82),e P "is_whole_within" 290 (r 89),e P "is_short_tuple" 297 (r 96),e P "has_lines" 303 (r 101),e P "numbers_of" 312 (r 108),e P "has_table_form" 318 (r 113),e P "is_square" 325 (r 120),e P "is_place" 333 (r 127),e P "need_table" 340 (r 134),e P "need_square" 347 (r 141),e P "need_size" 355 (r 148),e P "power_row" 367 (r 155),e P "powers" 373 (r 160),e P "row_of_sums" 382 (r 167),e P "by_sums" 391 (r 174),e P "row_of_lesser" 397 (r 179),e P "lesser" 403 (r 184),e P "begun_at" 412 (r 191),e P "scaled" 418 (r 196),e P "heap_sums" 424 (r 201),e P "heaped" 430 (r 206),e P "common_measure" 441 (r 213),e P "lowest" 450 (r 220),e P "has_fraction_form" 457 (r 227),e P "is_fraction" 464 (r 234),e P "sum_of" 472 (r 241),e P "times_of" 480 (r 248),e P "less_of" 488 (r 255),e P "parted" 496 (r 262),e P "all_sum" 505 (r 269),e P "all_times" 514 (r 276),e P "need_fraction_table" 520 (r 281),e P "row_as_fractions" 526 (r 286),e P "as_fractions" 532 (r 291),e P "column_of" 540 (r 296),e P "columns_of" 546 (r 301),e P "turned" 553 (r 308),e P "picked" 559 (r 313),e P "part_at" 565 (r 318),e P "row_by_column" 571 (r 323),e P "row_by_column_tables" 572 (r 323),e P "row_by_columns" 578 (r 328),e P "row_by_columns_tables" 579 (r 328),e P "times" 585 (r 333),e P "plain_row" 591 (r 338),e P "plain" 597 (r 343)] 61),#[]⟩
def Rm:Obj:=⟨z,none,.fields (fv.take 147).toArray,#[]⟩
def VG:Obj:=g (d 41) "need_fraction_table"
def Pr:Obj:=c "need_fraction_table" 515 122 1 3 277 true 181 278 z z (r 279) 518
def Pq:Obj:=u (d 41) "need_fraction_table" (s "minortables.fractions" 431) 280
def VF:Obj:=g (d 42) "row_as_fractions"
def Pn:Obj:=c "row_as_fractions" 521 125 1 3 282 true 181 283 z z (r 284) 524
def Pk:Obj:=u (d 42) "row_as_fractions" (s "minortables.fractions" 431) 285
def VD:Obj:=g (d 43) "as_fractions"
def Pj:Obj:=c "as_fractions" 527 127 1 3 287 true 181 288 z z (r 289) 530
def Ph:Obj:=u (d 43) "as_fractions" (s "minortables.fractions" 431) 290
def VB:Obj:=g (d 45) "column_of"
def Pb:Obj:=c "column_of" 535 131 2 3 292 true 181 293 z z (r 294) 538
def Pa:Obj:=u (d 45) "column_of" (s "minortables.tables" 533) 295
def Vz:Obj:=g (d 46) "columns_of"
def o300:Obj:=c "columns_of" 541 133 1 3 297 true 181 298 z z (r 299) 544
def O9:Obj:=u (d 46) "columns_of" (s "minortables.tables" 533) 300
def O8:Obj:=tn ["table"] 550
def Vy:Obj:=g (d 47) "turned"
def O7:Obj:=c "turned" 547 135 1 3 302 true 181 303 (r 304) (r 305) (r 306) 551
def O6:Obj:=u (d 47) "turned" (s "minortables.tables" 533) 307
def Vx:Obj:=g (d 48) "picked"
def O5:Obj:=c "picked" 554 138 2 3 309 true 181 310 z z (r 311) 557
def O4:Obj:=u (d 48) "picked" (s "minortables.tables" 533) 312
def Vw:Obj:=g (d 49) "part_at"
def O2:Obj:=c "part_at" 560 140 3 3 314 true 181 315 z z (r 316) 563
def O1:Obj:=u (d 49) "part_at" (s "minortables.tables" 533) 317
def Vv:Obj:=g (d 50) "row_by_column"
def OJ:Obj:=c "row_by_column" 566 142 2 3 319 true 181 320 z z (r 321) 569
def OD:Obj:=u (d 50) "row_by_column" (s "minortables.tables" 533) 322
def Vu:Obj:=g (d 52) "row_by_columns"
def Oz:Obj:=c "row_by_columns" 573 145 2 3 324 true 181 325 z z (r 326) 576
def Ox:Obj:=u (d 52) "row_by_columns" (s "minortables.tables" 533) 327
def Vt:Obj:=g (d 54) "times"
def Ow:Obj:=c "times" 580 148 2 3 329 true 181 330 z z (r 331) 583
def Ov:Obj:=u (d 54) "times" (s "minortables.tables" 533) 332
def Vs:Obj:=g (d 55) "plain_row"
def Ou:Obj:=c "plain_row" 586 155 2 3 334 true 181 335 z z (r 336) 589
def Ot:Obj:=u (d 55) "plain_row" (s "minortables.tables" 533) 337
def Vr:Obj:=g (d 56) "plain"
def Oq:Obj:=c "plain" 592 157 1 3 339 true 181 340 z z (r 341) 595
def Oo:Obj:=u (d 56) "plain" (s "minortables.tables" 533) 342
def Xy(P:Params):Obj:=⟨(t "dict"),none,(.dict #[e P "__name__" 165 (s "minortables.minors" 598),e P "__doc__" 166 z,e P "__package__" 167 z,e P "__loader__" 168 (b "__main__.__loader__#opaque"),e P "__spec__" 169 z,e P "__annotations__" 170 (r 6),e P "__builtins__" 171 (r 4),e P "__file__" 173 (s "/claim/cut.py" 172),e P "__cached__" 174 z,e P "MinorError" 206 (r 24),e P "NoTable" 222 (r 37),e P "NoFit" 238 (r 49),e P "NoStep" 254 (r 61),e P "NoSteps" 270 (r 73),e P "MOST_LINES" 274 (i 4 273),e P "is_whole" 281 (r 82),e P "is_whole_within" 290 (r 89),e P "is_short_tuple" 297 (r 96),e P "has_lines" 303 (r 101),e P "numbers_of" 312 (r 108),e P "has_table_form" 318 (r 113),e P "is_square" 325 (r 120),e P "is_place" 333 (r 127),e P "need_table" 340 (r 134),e P "need_square" 347 (r 141),e P "need_size" 355 (r 148),e P "power_row" 367 (r 155),e P "powers" 373 (r 160),e P "row_of_sums" 382 (r 167),e P "by_sums" 391 (r 174),e P "row_of_lesser" 397 (r 179),e P "lesser" 403 (r 184),e P "begun_at" 412 (r 191),e P "scaled" 418 (r 196),e P "heap_sums" 424 (r 201),e P "heaped" 430 (r 206),e P "common_measure" 441 (r 213),e P "lowest" 450 (r 220),e P "has_fraction_form" 457 (r 227),e P "is_fraction" 464 (r 234),e P "sum_of" 472 (r 241),e P "times_of" 480 (r 248),e P "less_of" 488 (r 255),e P "parted" 496 (r 262),e P "all_sum" 505 (r 269),e P "all_times" 514 (r 276),e P "need_fraction_table" 520 (r 281),e P "row_as_fractions" 526 (r 286),e P "as_fractions" 532 (r 291),e P "column_of" 540 (r 296),e P "columns_of" 546 (r 301),e P "turned" 553 (r 308),e P "picked" 559 (r 313),e P "part_at" 565 (r 318),e P "row_by_column" 571 (r 323),e P "row_by_column_tables" 572 (r 323),e P "row_by_columns" 578 (r 328),e P "row_by_columns_tables" 579 (r 328),e P "times" 585 (r 333),e P "plain_row" 591 (r 338),e P "plain" 597 (r 343),e P "without" 605 (r 348),e P "worth_of" 611 (r 353),e P "rest_worth" 620 (r 360),e P "signed_rest" 630 (r 367),e P "row_with_rests" 636 (r 372),e P "with_behind" 642 (r 377),e P "rising_tuples" 654 (r 384),e P "greatest_size" 661 (r 391),e P "minors_of_rows" 671 (r 398),e P "minors_of_size" 681 (r 405),e P "minors_in" 690 (r 412),e P "all_minors" 697 (r 419),e P "whole_minor" 704 (r 426)] 74),#[]⟩
def Rk:Obj:=⟨z,none,.fields (fv.take 186).toArray,#[]⟩
def Vq:Obj:=g (d 58) "without"
def Om:Obj:=c "without" 600 161 3 3 344 true 181 345 z z (r 346) 603
def Ol:Obj:=u (d 58) "without" (s "minortables.minors" 598) 347
def Vp:Obj:=g (d 59) "worth_of"
def Oj:Obj:=c "worth_of" 606 164 1 3 349 true 181 350 z z (r 351) 609
def Oi:Obj:=u (d 59) "worth_of" (s "minortables.minors" 598) 352
def Oh:Obj:=tn ["table","row","column"] 615
def Vo:Obj:=g (d 60) "rest_worth"
def Og:Obj:=c "rest_worth" 612 168 3 3 354 true 181 355 (r 356) (r 357) (r 358) 618
def Oe:Obj:=u (d 60) "rest_worth" (s "minortables.minors" 598) 359
def Od:Obj:=tn ["table","row","column","worth"] 624
def Vn:Obj:=g (d 61) "signed_rest"
def Oc:Obj:=c "signed_rest" 621 170 3 3 361 true 181 362 (r 363) (r 364) (r 365) 628
def Ob:Obj:=u (d 61) "signed_rest" (s "minortables.minors" 598) 366
def Vm:Obj:=g (d 62) "row_with_rests"
def Oa:Obj:=c "row_with_rests" 631 173 2 3 368 true 181 369 z z (r 370) 634
def N8:Obj:=u (d 62) "row_with_rests" (s "minortables.minors" 598) 371
def Vl:Obj:=g (d 63) "with_behind"
def N7:Obj:=c "with_behind" 637 175 2 3 373 true 181 374 z z (r 375) 640
def o377:Obj:=u (d 63) "with_behind" (s "minortables.minors" 598) 376
def N6:Obj:=tn ["many","size","told","length","longer","places"] 646
def Vk:Obj:=g (d 64) "rising_tuples"
def N5:Obj:=c "rising_tuples" 643 178 2 3 378 true 181 379 (r 380) (r 381) (r 382) 652
def NZ:Obj:=u (d 64) "rising_tuples" (s "minortables.minors" 598) 383
def NT:Obj:=tn ["table"] 658
def Vj:Obj:=g (d 65) "greatest_size"
def NQ:Obj:=c "greatest_size" 655 186 1 3 385 true 181 386 (r 387) (r 388) (r 389) 659
def NP:Obj:=u (d 65) "greatest_size" (s "minortables.minors" 598) 390
def NK:Obj:=tn ["table","rows","told","columns"] 665
def Vi:Obj:=g (d 66) "minors_of_rows"
def Nz:Obj:=c "minors_of_rows" 662 188 2 3 392 true 181 393 (r 394) (r 395) (r 396) 669
def Ny:Obj:=u (d 66) "minors_of_rows" (s "minortables.minors" 598) 397
def Nu:Obj:=tn ["table","size","told","rows"] 675
def Vh:Obj:=g (d 67) "minors_of_size"
def Nt:Obj:=c "minors_of_size" 672 193 2 3 399 true 181 400 (r 401) (r 402) (r 403) 679
def Nr:Obj:=u (d 67) "minors_of_size" (s "minortables.minors" 598) 404
def Nq:Obj:=tn ["table","told","size"] 685
def Vg:Obj:=g (d 68) "minors_in"
def Np:Obj:=c "minors_in" 682 198 1 3 406 true 181 407 (r 408) (r 409) (r 410) 688
def Nm:Obj:=u (d 68) "minors_in" (s "minortables.minors" 598) 411
def Nk:Obj:=tn ["table"] 694
def Vf:Obj:=g (d 69) "all_minors"
def Nj:Obj:=c "all_minors" 691 203 1 3 413 true 181 414 (r 415) (r 416) (r 417) 695
def Ni:Obj:=u (d 69) "all_minors" (s "minortables.minors" 598) 418
def Nh:Obj:=tn ["table"] 701
def Ve:Obj:=g (d 70) "whole_minor"
def Ng:Obj:=c "whole_minor" 698 206 1 3 420 true 181 421 (r 422) (r 423) (r 424) 702
def Nf:Obj:=u (d 70) "whole_minor" (s "minortables.minors" 598) 425
def Nx(P:Params):Obj:=⟨(t "dict"),none,(.dict #[e P "__name__" 165 (s "minortables.steps" 759),e P "__doc__" 166 z,e P "__package__" 167 z,e P "__loader__" 168 (b "__main__.__loader__#opaque"),e P "__spec__" 169 z,e P "__annotations__" 170 (r 6),e P "__builtins__" 171 (r 4),e P "__file__" 173 (s "/claim/cut.py" 172),e P "__cached__" 174 z,e P "MinorError" 206 (r 24),e P "NoTable" 222 (r 37),e P "NoFit" 238 (r 49),e P "NoStep" 254 (r 61),e P "NoSteps" 270 (r 73),e P "MOST_LINES" 274 (i 4 273),e P "is_whole" 281 (r 82),e P "is_whole_within" 290 (r 89),e P "is_short_tuple" 297 (r 96),e P "has_lines" 303 (r 101),e P "numbers_of" 312 (r 108),e P "has_table_form" 318 (r 113),e P "is_square" 325 (r 120),e P "is_place" 333 (r 127),e P "need_table" 340 (r 134),e P "need_square" 347 (r 141),e P "need_size" 355 (r 148),e P "power_row" 367 (r 155),e P "powers" 373 (r 160),e P "row_of_sums" 382 (r 167),e P "by_sums" 391 (r 174),e P "row_of_lesser" 397 (r 179),e P "lesser" 403 (r 184),e P "begun_at" 412 (r 191),e P "scaled" 418 (r 196),e P "heap_sums" 424 (r 201),e P "heaped" 430 (r 206),e P "common_measure" 441 (r 213),e P "lowest" 450 (r 220),e P "has_fraction_form" 457 (r 227),e P "is_fraction" 464 (r 234),e P "sum_of" 472 (r 241),e P "times_of" 480 (r 248),e P "less_of" 488 (r 255),e P "parted" 496 (r 262),e P "all_sum" 505 (r 269),e P "all_times" 514 (r 276),e P "need_fraction_table" 520 (r 281),e P "row_as_fractions" 526 (r 286),e P "as_fractions" 532 (r 291),e P "column_of" 540 (r 296),e P "columns_of" 546 (r 301),e P "turned" 553 (r 308),e P "picked" 559 (r 313),e P "part_at" 565 (r 318),e P "row_by_column" 571 (r 323),e P "row_by_column_tables" 572 (r 323),e P "row_by_columns" 578 (r 328),e P "row_by_columns_tables" 579 (r 328),e P "times" 585 (r 333),e P "plain_row" 591 (r 338),e P "plain" 597 (r 343),e P "without" 605 (r 348),e P "worth_of" 611 (r 353),e P "rest_worth" 620 (r 360),e P "signed_rest" 630 (r 367),e P "row_with_rests" 636 (r 372),e P "with_behind" 642 (r 377),e P "rising_tuples" 654 (r 384),e P "greatest_size" 661 (r 391),e P "minors_of_rows" 671 (r 398),e P "minors_of_size" 681 (r 405),e P "minors_in" 690 (r 412),e P "all_minors" 697 (r 419),e P "whole_minor" 704 (r 426),e P "rank" 710 (r 431),e P "none_below" 718 (r 436),e P "is_good" 725 (r 443),e P "are_in_a_row" 732 (r 450),e P "is_solid" 739 (r 457),e P "is_at_first" 746 (r 464),e P "solid_minors" 752 (r 469),e P "first_minors" 758 (r 474),e P "UP" 762 (s "up" 761),e P "DOWN" 764 (s "down" 763),e P "SCALE" 766 (s "scale" 765),e P "TURNED_WORDS" 776 (r 475),e P "is_step_of" 786 (r 482),e P "is_step" 794 (r 489)] 88),#[]⟩
def Hg:Obj:=⟨z,none,.fields (fv.take 216).toArray,#[]⟩
def Vd:Obj:=g (d 71) "rank"
def Nb:Obj:=c "rank" 705 210 1 3 427 true 181 428 z z (r 429) 708
def M9:Obj:=u (d 71) "rank" (s "minortables.minors" 598) 430
def Vc:Obj:=g (d 73) "none_below"
def M8:Obj:=c "none_below" 713 213 1 3 432 true 181 433 z z (r 434) 716
def M7:Obj:=u (d 73) "none_below" (s "minortables.good" 711) 435
def M6:Obj:=tn ["table"] 722
def Vb:Obj:=g (d 74) "is_good"
def M5:Obj:=c "is_good" 719 215 1 3 437 true 181 438 (r 439) (r 440) (r 441) 723
def M4:Obj:=u (d 74) "is_good" (s "minortables.good" 711) 442
def MP:Obj:=tn ["places"] 729
def Va:Obj:=g (d 75) "are_in_a_row"
def MN:Obj:=c "are_in_a_row" 726 217 1 3 444 true 181 445 (r 446) (r 447) (r 448) 730
def MK:Obj:=u (d 75) "are_in_a_row" (s "minortables.good" 711) 449
def MJ:Obj:=tn ["found"] 736
def U9:Obj:=g (d 76) "is_solid"
def MF:Obj:=c "is_solid" 733 219 1 3 451 true 181 452 (r 453) (r 454) (r 455) 737
def Mz:Obj:=u (d 76) "is_solid" (s "minortables.good" 711) 456
def Mx:Obj:=tn ["found"] 743
def U8:Obj:=g (d 77) "is_at_first"
def Mw:Obj:=c "is_at_first" 740 221 1 3 458 true 181 459 (r 460) (r 461) (r 462) 744
def Mv:Obj:=u (d 77) "is_at_first" (s "minortables.good" 711) 463
def U7:Obj:=g (d 78) "solid_minors"
def Mu:Obj:=c "solid_minors" 747 223 1 3 465 true 181 466 z z (r 467) 750
def Mt:Obj:=u (d 78) "solid_minors" (s "minortables.good" 711) 468
def U6:Obj:=g (d 79) "first_minors"
def Ms:Obj:=c "first_minors" 753 225 1 3 470 true 181 471 z z (r 472) 756
def Mr:Obj:=u (d 79) "first_minors" (s "minortables.good" 711) 473
def Jr(P:Params):Obj:=⟨(t "dict"),none,(.dict #[e P "up" 767 (s "down" 768),e P "down" 769 (s "up" 770),e P "scale" 771 (s "scale" 772)] 3),#[]⟩
def Mq:Obj:=tn ["many","word","place","share"] 780
def U5:Obj:=g (d 85) "is_step_of"
def Mp:Obj:=c "is_step_of" 777 232 4 3 476 true 181 477 (r 478) (r 479) (r 480) 784
def Ml:Obj:=u (d 85) "is_step_of" (s "minortables.steps" 759) 481
def Mj:Obj:=tn ["many","thing"] 790
def U4:Obj:=g (d 86) "is_step"
def Mi:Obj:=c "is_step" 787 236 2 3 483 true 181 484 (r 485) (r 486) (r 487) 792
def Mh:Obj:=u (d 86) "is_step" (s "minortables.steps" 759) 488
def Nv(P:Params):Obj:=og 101 101 (s "law_minortables_k53_whole_kinds_worths" 893) P
def Hf:Obj:=⟨z,none,.fields (fv.take 255).toArray,#[]⟩
def U3:Obj:=g (d 87) "need_steps"
def Mg:Obj:=c "need_steps" 795 240 2 3 490 true 181 491 z z (r 492) 798
def Mf:Obj:=u (d 87) "need_steps" (s "minortables.steps" 759) 493
def UW:Obj:=g (d 88) "row_by_column"
def Ma:Obj:=c "row_by_column" 801 245 2 3 495 true 181 496 z z (r 497) 804
def LR:Obj:=u (d 88) "row_by_column" (s "minortables.steps" 759) 498
def UL:Obj:=g (d 90) "row_by_columns"
def LQ:Obj:=c "row_by_columns" 808 248 2 3 500 true 181 501 z z (r 502) 811
def LK:Obj:=u (d 90) "row_by_columns" (s "minortables.steps" 759) 503
def UJ:Obj:=g (d 92) "product_of"
def LC:Obj:=c "product_of" 815 251 2 3 505 true 181 506 z z (r 507) 818
def Lz:Obj:=u (d 92) "product_of" (s "minortables.steps" 759) 508
def UG:Obj:=g (d 93) "table_of_step"
def Ly:Obj:=c "table_of_step" 821 258 4 3 510 true 181 511 z z (r 512) 824
def Lx:Obj:=u (d 93) "table_of_step" (s "minortables.steps" 759) 513
def Lw:Obj:=tn ["many","steps","made","word","place","share"] 830
def Uz:Obj:=g (d 94) "made_by"
def Lr:Obj:=c "made_by" 827 264 2 3 515 true 181 516 (r 517) (r 518) (r 519) 836
def Lq:Obj:=u (d 94) "made_by" (s "minortables.steps" 759) 520
def Uy:Obj:=g (d 95) "turned_steps"
def Lp:Obj:=c "turned_steps" 839 270 1 3 522 true 181 523 z z (r 524) 842
def Ln:Obj:=u (d 95) "turned_steps" (s "minortables.steps" 759) 525
def Ux:Obj:=g (d 96) "row_less"
def Lk:Obj:=c "row_less" 845 272 3 3 527 true 181 528 z z (r 529) 848
def Lj:Obj:=u (d 96) "row_less" (s "minortables.steps" 759) 530
def Li:Obj:=tn ["table","rows","steps","column","row","share"] 854
def Uw:Obj:=g (d 97) "down_steps"
def Lh:Obj:=c "down_steps" 851 274 1 3 532 true 181 533 (r 534) (r 535) (r 536) 860
def Lg:Obj:=u (d 97) "down_steps" (s "minortables.steps" 759) 537
def Uv:Obj:=g (d 98) "corner_worth"
def Lf:Obj:=c "corner_worth" 863 284 2 3 539 true 181 540 z z (r 541) 866
def Le:Obj:=u (d 98) "corner_worth" (s "minortables.steps" 759) 542
def Ld:Obj:=tn ["table","steps","place","share"] 872
def Uu:Obj:=g (d 99) "scale_steps"
def Lb:Obj:=c "scale_steps" 869 286 1 3 544 true 181 545 (r 546) (r 547) (r 548) 876
def K9:Obj:=u (d 99) "scale_steps" (s "minortables.steps" 759) 549
def K8:Obj:=tn ["table"] 882
def o555:Obj:=g (d 100) "can_be_taken_apart"
def K7:Obj:=c "can_be_taken_apart" 879 293 1 3 551 true 181 552 (r 553) (r 554) (r 555) 883
def K6:Obj:=u (d 100) "can_be_taken_apart" (s "minortables.steps" 759) 556
def K5:Obj:=tn ["table"] 889
def Ut:Obj:=g (d 101) "taken_apart"
def K4:Obj:=c "taken_apart" 886 297 1 3 558 true 181 559 (r 560) (r 561) (r 562) 890
def K3:Obj:=u (d 101) "taken_apart" (s "minortables.steps" 759) 563
def Cv(P:Params):Obj:=og 111 111 (s "law_minortables_k53_whole_kinds_worths" 893) P
def zJ:Obj:=⟨z,none,.fields (fv.take 285).toArray,#[]⟩
def K1:Obj:=tn ["_law_script","_law_k"] 898
def Us:Obj:=g (d 103) "_law_cell"
def KZ:Obj:=c "_law_cell" 895 302 2 3 565 true 181 566 (r 567) (r 568) (r 569) 900
def KY:Obj:=u (d 103) "_law_cell" (s "law_minortables_k53_whole_kinds_worths" 893) 570
def KR:Obj:=tn ["_law_script","_law_k","_law_many","_law_drawn"] 906
def Ur:Obj:=g (d 104) "_law_pick"
def KQ:Obj:=c "_law_pick" 903 308 3 3 572 true 181 573 (r 574) (r 575) (r 576) 910
def KN:Obj:=u (d 104) "_law_pick" (s "law_minortables_k53_whole_kinds_worths" 893) 577
def Uq:Obj:=g (d 105) "_law_table"
def Uo:Obj:=c "_law_table" 913 311 4 3 579 true 181 580 z z (r 581) 916
def Um:Obj:=u (d 105) "_law_table" (s "law_minortables_k53_whole_kinds_worths" 893) 582
def Ul:Obj:=tn ["_law_script","_law_at"] 922
def Uk:Obj:=g (d 106) "_law_size"
def Uj:Obj:=c "_law_size" 919 317 2 3 584 true 181 585 (r 586) (r 587) (r 588) 924
def Ui:Obj:=u (d 106) "_law_size" (s "law_minortables_k53_whole_kinds_worths" 893) 589
def Uh:Obj:=tn ["_law_one","_law_other","_law_made","_law_row","_law_line","_law_column","_law_total","_law_k"] 930
def Ug:Obj:=g (d 107) "_law_times"
def Ue:Obj:=c "_law_times" 927 319 2 3 591 true 181 592 (r 593) (r 594) (r 595) 938
def Ud:Obj:=u (d 107) "_law_times" (s "law_minortables_k53_whole_kinds_worths" 893) 596
def o600:Obj:=g (d 108) "_law_worth"
def Uc:Obj:=c "_law_worth" 941 330 1 3 598 true 181 599 z z (r 600) 944
def Ub:Obj:=u (d 108) "_law_worth" (s "law_minortables_k53_whole_kinds_worths" 893) 601
def Ua:Obj:=g (d 109) "_law_some"
def TY:Obj:=c "_law_some" 947 340 2 3 603 true 181 604 z z (r 605) 950
def TV:Obj:=u (d 109) "_law_some" (s "law_minortables_k53_whole_kinds_worths" 893) 606
def TQ:Obj:=g (d 110) "_law_part"
def TJ:Obj:=c "_law_part" 953 348 3 3 608 true 181 609 z z (r 610) 956
def TF:Obj:=u (d 110) "_law_part" (s "law_minortables_k53_whole_kinds_worths" 893) 611
def Tz:Obj:=tn ["_law_table_here","_law_made","_law_size_here","_law_some_here","_law_others"] 962
def Tw:Obj:=g (d 111) "_law_minors"
def Tv:Obj:=c "_law_minors" 959 350 1 3 613 true 181 614 (r 615) (r 616) (r 617) 967
def Tt:Obj:=u (d 111) "_law_minors" (s "law_minortables_k53_whole_kinds_worths" 893) 618
def Tr:Obj:=g (d 112) "law"
def KJ:Obj:=c "law" 970 357 1 3 620 true 181 621 z z (r 622) 973
def KH:Obj:=u (d 112) "law" (s "law_minortables_k53_whole_kinds_worths" 893) 623
def Ha(P:Params):Heap:=⟨⟨[boot_o_0 P,boot_o_1 P,boot_o_2 P,boot_o_3 P,boot_o_4 P,boot_o_5 P,boot_o_6 P,boot_o_7 P,boot_o_8 P,boot_o_9 P,boot_o_10 P,y,o12,o13,o14]⟩,{}⟩
def T0(P:Params):BT:=I .nil 0 [boot_o_0 P,boot_o_1 P,boot_o_2 P,boot_o_3 P,boot_o_4 P,boot_o_5 P,boot_o_6 P,boot_o_7 P,boot_o_8 P,boot_o_9 P,boot_o_10 P,y,o12,o13,o14]
def T1(P:Params):BT:=I (T0 P) 15 [o15,o16,o17 P,y,x,o20,o21,y,o23 P,o24,o25,o26,o27] |>.set 3 (fun _=>XQ P) |>.set 12 (fun _=>Ru)
def T2(P:Params):BT:=I (T1 P) 28 [o28,o29,o30 P,y,x,o33,o34,y,o36 P,o37,o38,o39] |>.set 3 (fun _=>XM P) |>.set 12 (fun _=>Rt) |>.set 24 (fun _=>Qe)
def T3(P:Params):BT:=I (T2 P) 40 [o40,o41,o42 P,y,x,o45,o46,y,o48 P,o49,o50,o51] |>.set 3 (fun _=>XJ P) |>.set 12 (fun _=>Rr) |>.set 24 (fun _=>Qd)
def T4(P:Params):BT:=I (T3 P) 52 [o52,o53,o54 P,y,x,o57,o58,y,o60 P,o61,o62,o63] |>.set 3 (fun _=>XH P) |>.set 12 (fun _=>Rq) |>.set 24 (fun _=>Qc)
def T5(P:Params):BT:=I (T4 P) 64 [o64,o65,o66 P,y,x,o69,o70,y,o72 P,o73,o74,o75,y,x,o78,y,o80,o81,o82,y,x,o85,y,o87,o88,o89,y,x,o92,y,o94,o95,o96,y,x,o99,o100,RM,y,x,RL,y,Wn,RK,RJ] |>.set 3 (fun _=>XF P) |>.set 12 (fun _=>Rp) |>.set 24 (fun _=>Cw)
def T6(P:Params):BT:=I (T5 P) 109 [y,x,o111,RG,RD,y,x,RB,y,Wm,Rz,Ry,y,x,Rx,y,Wj,Rw,Rv,y,x,Rj,y,Wi,Ri,Rh,y,x,Rg,y,Wh,Rf,Rc,y,x,Rb,y,Wg,Ra,Q9,y,x,Q8,y,Wf,Q7,Q6,y,x,Wd,Q5,Q0,y,x,QZ,y,Wb,QX,QW,y,x,QV,y,Wa,QT,QS,y,x,V9,QM,QL,y,x,V8,QK,QJ,y,x,QH,y,V7,QG,QF] |>.set 3 (fun _=>XD P) |>.set 12 (fun _=>Ro)
def T7(P:Params):BT:=I (T6 P) 192 [y,x,V6,QD,QC,y,x,V5,o200,QB,y,x,V4,Qz,Qy,y,x,Qx,y,V3,Qw,Qv,y,x,Qu,y,V2,Qt,Qs,y,x,Qq,y,V1,Qp,Qo,y,x,Qn,y,V0,Qm,Ql,y,x,Qk,y,VR,Qj,Qi,y,x,Qh,y,VP,Qg,Qf,y,x,Qa,y,VN,P0,PX,y,x,PN,y,VL,PL,PK,y,x,PJ,y,VJ,PB,Pz,y,x,Py,y,VH,Px,Pu] |>.set 3 (fun _=>XC P) |>.set 12 (fun _=>Rn)
def T8(P:Params):BT:=I (T7 P) 277 [y,x,VG,Pr,Pq,y,x,VF,Pn,Pk,y,x,VD,Pj,Ph,y,x,VB,Pb,Pa,y,x,Vz,o300,O9,y,x,O8,y,Vy,O7,O6,y,x,Vx,O5,O4,y,x,Vw,O2,O1,y,x,Vv,OJ,OD,y,x,Vu,Oz,Ox,y,x,Vt,Ow,Ov,y,x,Vs,Ou,Ot,y,x,Vr,Oq,Oo] |>.set 3 (fun _=>Xz P) |>.set 12 (fun _=>Rm)
def T9(P:Params):BT:=I (T8 P) 344 [y,x,Vq,Om,Ol,y,x,Vp,Oj,Oi,y,x,Oh,y,Vo,Og,Oe,y,x,Od,y,Vn,Oc,Ob,y,x,Vm,Oa,N8,y,x,Vl,N7,o377,y,x,N6,y,Vk,N5,NZ,y,x,NT,y,Vj,NQ,NP,y,x,NK,y,Vi,Nz,Ny,y,x,Nu,y,Vh,Nt,Nr,y,x,Nq,y,Vg,Np,Nm,y,x,Nk,y,Vf,Nj,Ni,y,x,Nh,y,Ve,Ng,Nf] |>.set 3 (fun _=>Xy P) |>.set 12 (fun _=>Rk)
def T10(P:Params):BT:=I (T9 P) 427 [y,x,Vd,Nb,M9,y,x,Vc,M8,M7,y,x,M6,y,Vb,M5,M4,y,x,MP,y,Va,MN,MK,y,x,MJ,y,U9,MF,Mz,y,x,Mx,y,U8,Mw,Mv,y,x,U7,Mu,Mt,y,x,U6,Ms,Mr,Jr P,y,x,Mq,y,U5,Mp,Ml,y,x,Mj,y,U4,Mi,Mh] |>.set 3 (fun _=>Nx P) |>.set 12 (fun _=>Hg)
def T11(P:Params):BT:=I (T10 P) 490 [y,x,U3,Mg,Mf,y,x,UW,Ma,LR,y,x,UL,LQ,LK,y,x,UJ,LC,Lz,y,x,UG,Ly,Lx,y,x,Lw,y,Uz,Lr,Lq,y,x,Uy,Lp,Ln,y,x,Ux,Lk,Lj,y,x,Li,y,Uw,Lh,Lg,y,x,Uv,Lf,Le,y,x,Ld,y,Uu,Lb,K9,y,x,K8,y,o555,K7,K6,y,x,K5,y,Ut,K4,K3] |>.set 3 (fun _=>Nv P) |>.set 12 (fun _=>Hf)
def T12(P:Params):BT:=I (T11 P) 565 [y,x,K1,y,Us,KZ,KY,y,x,KR,y,Ur,KQ,KN,y,x,Uq,Uo,Um,y,x,Ul,y,Uk,Uj,Ui,y,x,Uh,y,Ug,Ue,Ud,y,x,o600,Uc,Ub,y,x,Ua,TY,TV,y,x,TQ,TJ,TF,y,x,Tz,y,Tw,Tv,Tt,y,x,Tr,KJ,KH] |>.set 3 (fun _=>Cv P) |>.set 12 (fun _=>zJ)
def H1(P:Params):Heap:=⟨⟨[boot_o_0 P,boot_o_1 P,boot_o_2 P,Cv P,boot_o_4 P,boot_o_5 P,boot_o_6 P,boot_o_7 P,boot_o_8 P,boot_o_9 P,boot_o_10 P,y,zJ,o13,o14,o15,o16,o17 P,y,x,o20,o21,y,o23 P,Cw,o25,o26,o27,o28,o29,o30 P,y,x,o33,o34,y,o36 P,o37,o38,o39,o40,o41,o42 P,y,x,o45,o46,y,o48 P,o49,o50,o51,o52,o53,o54 P,y,x,o57,o58,y,o60 P,o61,o62,o63,o64,o65,o66 P,y,x,o69,o70,y,o72 P,o73,o74,o75,y,x,o78,y,o80,o81,o82,y,x,o85,y,o87,o88,o89,y,x,o92,y,o94,o95,o96,y,x,o99,o100,RM,y,x,RL,y,Wn,RK,RJ,y,x,o111,RG,RD,y,x,RB,y,Wm,Rz,Ry,y,x,Rx,y,Wj,Rw,Rv,y,x,Rj,y,Wi,Ri,Rh,y,x,Rg,y,Wh,Rf,Rc,y,x,Rb,y,Wg,Ra,Q9,y,x,Q8,y,Wf,Q7,Q6,y,x,Wd,Q5,Q0,y,x,QZ,y,Wb,QX,QW,y,x,QV,y,Wa,QT,QS,y,x,V9,QM,QL,y,x,V8,QK,QJ,y,x,QH,y,V7,QG,QF,y,x,V6,QD,QC,y,x,V5,o200,QB,y,x,V4,Qz,Qy,y,x,Qx,y,V3,Qw,Qv,y,x,Qu,y,V2,Qt,Qs,y,x,Qq,y,V1,Qp,Qo,y,x,Qn,y,V0,Qm,Ql,y,x,Qk,y,VR,Qj,Qi,y,x,Qh,y,VP,Qg,Qf,y,x,Qa,y,VN,P0,PX,y,x,PN,y,VL,PL,PK,y,x,PJ,y,VJ,PB,Pz,y,x,Py,y,VH,Px,Pu,y,x,VG,Pr,Pq,y,x,VF,Pn,Pk,y,x,VD,Pj,Ph,y,x,VB,Pb,Pa,y,x,Vz,o300,O9,y,x,O8,y,Vy,O7,O6,y,x,Vx,O5,O4,y,x,Vw,O2,O1,y,x,Vv,OJ,OD,y,x,Vu,Oz,Ox,y,x,Vt,Ow,Ov,y,x,Vs,Ou,Ot,y,x,Vr,Oq,Oo,y,x,Vq,Om,Ol,y,x,Vp,Oj,Oi,y,x,Oh,y,Vo,Og,Oe,y,x,Od,y,Vn,Oc,Ob,y,x,Vm,Oa,N8,y,x,Vl,N7,o377,y,x,N6,y,Vk,N5,NZ,y,x,NT,y,Vj,NQ,NP,y,x,NK,y,Vi,Nz,Ny,y,x,Nu,y,Vh,Nt,Nr,y,x,Nq,y,Vg,Np,Nm,y,x,Nk,y,Vf,Nj,Ni,y,x,Nh,y,Ve,Ng,Nf,y,x,Vd,Nb,M9,y,x,Vc,M8,M7,y,x,M6,y,Vb,M5,M4,y,x,MP,y,Va,MN,MK,y,x,MJ,y,U9,MF,Mz,y,x,Mx,y,U8,Mw,Mv,y,x,U7,Mu,Mt,y,x,U6,Ms,Mr,Jr P,y,x,Mq,y,U5,Mp,Ml,y,x,Mj,y,U4,Mi,Mh,y,x,U3,Mg,Mf,y,x,UW,Ma,LR,y,x,UL,LQ,LK,y,x,UJ,LC,Lz,y,x,UG,Ly,Lx,y,x,Lw,y,Uz,Lr,Lq,y,x,Uy,Lp,Ln,y,x,Ux,Lk,Lj,y,x,Li,y,Uw,Lh,Lg,y,x,Uv,Lf,Le,y,x,Ld,y,Uu,Lb,K9,y,x,K8,y,o555,K7,K6,y,x,K5,y,Ut,K4,K3,y,x,K1,y,Us,KZ,KY,y,x,KR,y,Ur,KQ,KN,y,x,Uq,Uo,Um,y,x,Ul,y,Uk,Uj,Ui,y,x,Uh,y,Ug,Ue,Ud,y,x,o600,Uc,Ub,y,x,Ua,TY,TV,y,x,TQ,TJ,TF,y,x,Tz,y,Tw,Tv,Tt,y,x,Tr,KJ,KH]⟩,{}⟩
def S0(w:World)(os:OsState):SharedT:=⟨T0 w.params,15,{},⟨[]⟩,{},187,os⟩
def S1(w:World)(os:OsState):SharedT:=⟨T1 w.params,28,{},⟨[]⟩,{},207,os⟩
def S2(w:World)(os:OsState):SharedT:=⟨T2 w.params,40,{},⟨[]⟩,{},223,os⟩
def S3(w:World)(os:OsState):SharedT:=⟨T3 w.params,52,{},⟨[]⟩,{},239,os⟩
def S4(w:World)(os:OsState):SharedT:=⟨T4 w.params,64,{},⟨[]⟩,{},255,os⟩
def S5(w:World)(os:OsState):SharedT:=⟨T5 w.params,109,{},⟨[]⟩,{},313,os⟩
def S6(w:World)(os:OsState):SharedT:=⟨T6 w.params,192,{},⟨[]⟩,{},413,os⟩
def S7(w:World)(os:OsState):SharedT:=⟨T7 w.params,277,{},⟨[]⟩,{},515,os⟩
def S8(w:World)(os:OsState):SharedT:=⟨T8 w.params,344,{},⟨[]⟩,{},600,os⟩
def S9(w:World)(os:OsState):SharedT:=⟨T9 w.params,427,{},⟨[]⟩,{},705,os⟩
def S10(w:World)(os:OsState):SharedT:=⟨T10 w.params,490,{},⟨[]⟩,{},795,os⟩
def S11(w:World)(os:OsState):SharedT:=⟨T11 w.params,565,{},⟨[]⟩,{},895,os⟩
def S12(w:World)(os:OsState):SharedT:=⟨T12 w.params,625,{},⟨[]⟩,{},976,os⟩
def S(w:World)(os:OsState):Shared:=⟨H1 w.params,⟨[]⟩,{},976,os⟩
def E:Env:={ scope:=p.main.scope,locals:=mainNs,globals:=mainNs,cells:=[],code:=(r 13),frame:=some 14 }
abbrev C:Code:=.body (behindTheImports p) E
abbrev B:List Frame:=[topFrame ⟨0,0,0,0⟩]
def l1:List Stmt:=((behindTheImports p).drop 0).take 2
def l2:List Stmt:=((behindTheImports p).drop 2).take 1
def l3:List Stmt:=((behindTheImports p).drop 3).take 1
def l4:List Stmt:=((behindTheImports p).drop 4).take 1
def l5:List Stmt:=((behindTheImports p).drop 5).take 8
def l6:List Stmt:=((behindTheImports p).drop 13).take 14
def l7:List Stmt:=((behindTheImports p).drop 27).take 14
def l8:List Stmt:=((behindTheImports p).drop 41).take 17
def l9:List Stmt:=((behindTheImports p).drop 58).take 13
def l10:List Stmt:=((behindTheImports p).drop 71).take 16
def l11:List Stmt:=((behindTheImports p).drop 87).take 16
def l12:List Stmt:=((behindTheImports p).drop 103).take 10
theorem pre(w:World)(os:OsState):topGo treeTable p w 11 (some (r 6)) 12 ⟨boot_heap w.params,Array.mk [],boot_drawn,boot_toks,os⟩ (topStub p)=some (⟨Ha w.params,⟨[]⟩,{},187,os⟩,⟨denote treeTable C,C,⟨0,0,0,0⟩,B⟩):=goT (by kernel_rfl)
theorem blk(w:World)(os:OsState):segRun treeTable p w 11 (some (r 6)) 1 1 ⟨Ha w.params,⟨[]⟩,{},187,os⟩ (blockOf (behindTheImports p) E C ⟨0,0,0,0⟩ B)=some (.next,(S0 w os).abs,C,⟨0,0,0,0⟩):=Xj (by kernel_rfl)
theorem p1(w:World)(os:OsState):segRun treeTable p w 11 (some (r 6)) 1 196 (S0 w os).abs (piecesOf l1 E C ⟨0,0,0,0⟩ B)=some (.next,(S1 w os).abs,C,⟨2,0,3,8⟩):=segRun_of (rz (by kernel_rfl))
theorem p2(w:World)(os:OsState):segRun treeTable p w 11 (some (r 6)) 1 214 (S1 w os).abs (piecesOf l2 E C ⟨2,0,3,8⟩ B)=some (.next,(S2 w os).abs,C,⟨4,0,5,8⟩):=segRun_of (rz (by kernel_rfl))
theorem p3(w:World)(os:OsState):segRun treeTable p w 11 (some (r 6)) 1 214 (S2 w os).abs (piecesOf l3 E C ⟨4,0,5,8⟩ B)=some (.next,(S3 w os).abs,C,⟨6,0,7,8⟩):=segRun_of (rz (by kernel_rfl))
theorem p4(w:World)(os:OsState):segRun treeTable p w 11 (some (r 6)) 1 214 (S3 w os).abs (piecesOf l4 E C ⟨6,0,7,8⟩ B)=some (.next,(S4 w os).abs,C,⟨8,0,9,8⟩):=segRun_of (rz (by kernel_rfl))
theorem p5(w:World)(os:OsState):segRun treeTable p w 11 (some (r 6)) 1 378 (S4 w os).abs (piecesOf l5 E C ⟨8,0,9,8⟩ B)=some (.next,(S5 w os).abs,C,⟨24,0,28,15⟩):=segRun_of (rz (by kernel_rfl))
theorem p6(w:World)(os:OsState):segRun treeTable p w 11 (some (r 6)) 1 386 (S5 w os).abs (piecesOf l6 E C ⟨24,0,28,15⟩ B)=some (.next,(S6 w os).abs,C,⟨69,0,70,61⟩):=segRun_of (rz (by kernel_rfl))
theorem p7(w:World)(os:OsState):segRun treeTable p w 11 (some (r 6)) 1 390 (S6 w os).abs (piecesOf l7 E C ⟨69,0,70,61⟩ B)=some (.next,(S7 w os).abs,C,⟨117,0,121,15⟩):=segRun_of (rz (by kernel_rfl))
theorem p8(w:World)(os:OsState):segRun treeTable p w 11 (some (r 6)) 1 380 (S7 w os).abs (piecesOf l8 E C ⟨117,0,121,15⟩ B)=some (.next,(S8 w os).abs,C,⟨160,0,160,8⟩):=segRun_of (rz (by kernel_rfl))
theorem p9(w:World)(os:OsState):segRun treeTable p w 11 (some (r 6)) 1 384 (S8 w os).abs (piecesOf l9 E C ⟨160,0,160,8⟩ B)=some (.next,(S9 w os).abs,C,⟨206,0,209,26⟩):=segRun_of (rz (by kernel_rfl))
theorem p10(w:World)(os:OsState):segRun treeTable p w 11 (some (r 6)) 1 383 (S9 w os).abs (piecesOf l10 E C ⟨206,0,209,26⟩ B)=some (.next,(S10 w os).abs,C,⟨236,0,239,57⟩):=byRow2 "special-get-raises" (P:=fun w=>∀ os,segRun treeTable p w 11 (some (r 6)) 1 383 (S9 w os).abs (piecesOf l10 E C ⟨206,0,209,26⟩ B)=some (.next,(S10 w os).abs,C,⟨236,0,239,57⟩)) (fun w os=>segRun_of (rz (by kernel_rfl))) (fun w os=>segRun_of (rz (by kernel_rfl))) w os
theorem p11(w:World)(os:OsState):segRun treeTable p w 11 (some (r 6)) 1 396 (S10 w os).abs (piecesOf l11 E C ⟨236,0,239,57⟩ B)=some (.next,(S11 w os).abs,C,⟨301,0,301,8⟩):=segRun_of (rz (by kernel_rfl))
theorem p12(w:World)(os:OsState):segRun treeTable p w 11 (some (r 6)) 1 292 (S11 w os).abs (piecesOf l12 E C ⟨301,0,301,8⟩ B)=some (.next,(S12 w os).abs,C,⟨357,0,391,67⟩):=segRun_of (rz (by kernel_rfl))
theorem fin(w:World)(os:OsState):topRun treeTable p w 11 (some (r 6)) 2 (S12 w os).abs ⟨doneF .next,C,⟨357,0,391,67⟩,B⟩=some (S w os):=W6 (by kernel_rfl)
abbrev M:Nat:=(12+(1+(196+(214+(214+(214+(378+(386+(390+(380+(384+(383+(396+(292+2))))))))))))))
theorem lst:behindTheImports p=(l1++(l2++(l3++(l4++(l5++(l6++(l7++(l8++(l9++(l10++(l11++(l12++[])))))))))))):=by kernel_rfl
theorem r12(w:World)(os:OsState):topRun treeTable p w 11 (some (r 6)) 2 (S12 w os).abs (restOf [] E C ⟨357,0,391,67⟩ B)=some (S w os):=fin w os
theorem r11(w:World)(os:OsState):topRun treeTable p w 11 (some (r 6)) (292+2) (S11 w os).abs (restOf (l12++[]) E C ⟨301,0,301,8⟩ B)=some (S w os):=piece_app (p12 w os) (r12 w os)
theorem r10(w:World)(os:OsState):topRun treeTable p w 11 (some (r 6)) (396+(292+2)) (S10 w os).abs (restOf (l11++(l12++[])) E C ⟨236,0,239,57⟩ B)=some (S w os):=piece_app (p11 w os) (r11 w os)
theorem r9(w:World)(os:OsState):topRun treeTable p w 11 (some (r 6)) (383+(396+(292+2))) (S9 w os).abs (restOf (l10++(l11++(l12++[]))) E C ⟨206,0,209,26⟩ B)=some (S w os):=piece_app (p10 w os) (r10 w os)
theorem r8(w:World)(os:OsState):topRun treeTable p w 11 (some (r 6)) (384+(383+(396+(292+2)))) (S8 w os).abs (restOf (l9++(l10++(l11++(l12++[])))) E C ⟨160,0,160,8⟩ B)=some (S w os):=piece_app (p9 w os) (r9 w os)
theorem r7(w:World)(os:OsState):topRun treeTable p w 11 (some (r 6)) (380+(384+(383+(396+(292+2))))) (S7 w os).abs (restOf (l8++(l9++(l10++(l11++(l12++[]))))) E C ⟨117,0,121,15⟩ B)=some (S w os):=piece_app (p8 w os) (r8 w os)
theorem r6(w:World)(os:OsState):topRun treeTable p w 11 (some (r 6)) (390+(380+(384+(383+(396+(292+2)))))) (S6 w os).abs (restOf (l7++(l8++(l9++(l10++(l11++(l12++[])))))) E C ⟨69,0,70,61⟩ B)=some (S w os):=piece_app (p7 w os) (r7 w os)
theorem r5(w:World)(os:OsState):topRun treeTable p w 11 (some (r 6)) (386+(390+(380+(384+(383+(396+(292+2))))))) (S5 w os).abs (restOf (l6++(l7++(l8++(l9++(l10++(l11++(l12++[]))))))) E C ⟨24,0,28,15⟩ B)=some (S w os):=piece_app (p6 w os) (r6 w os)
theorem r4(w:World)(os:OsState):topRun treeTable p w 11 (some (r 6)) (378+(386+(390+(380+(384+(383+(396+(292+2)))))))) (S4 w os).abs (restOf (l5++(l6++(l7++(l8++(l9++(l10++(l11++(l12++[])))))))) E C ⟨8,0,9,8⟩ B)=some (S w os):=piece_app (p5 w os) (r5 w os)
theorem r3(w:World)(os:OsState):topRun treeTable p w 11 (some (r 6)) (214+(378+(386+(390+(380+(384+(383+(396+(292+2))))))))) (S3 w os).abs (restOf (l4++(l5++(l6++(l7++(l8++(l9++(l10++(l11++(l12++[]))))))))) E C ⟨6,0,7,8⟩ B)=some (S w os):=piece_app (p4 w os) (r4 w os)
theorem r2(w:World)(os:OsState):topRun treeTable p w 11 (some (r 6)) (214+(214+(378+(386+(390+(380+(384+(383+(396+(292+2)))))))))) (S2 w os).abs (restOf (l3++(l4++(l5++(l6++(l7++(l8++(l9++(l10++(l11++(l12++[])))))))))) E C ⟨4,0,5,8⟩ B)=some (S w os):=piece_app (p3 w os) (r3 w os)
theorem r1(w:World)(os:OsState):topRun treeTable p w 11 (some (r 6)) (214+(214+(214+(378+(386+(390+(380+(384+(383+(396+(292+2))))))))))) (S1 w os).abs (restOf (l2++(l3++(l4++(l5++(l6++(l7++(l8++(l9++(l10++(l11++(l12++[]))))))))))) E C ⟨2,0,3,8⟩ B)=some (S w os):=piece_app (p2 w os) (r2 w os)
theorem r0(w:World)(os:OsState):topRun treeTable p w 11 (some (r 6)) (196+(214+(214+(214+(378+(386+(390+(380+(384+(383+(396+(292+2)))))))))))) (S0 w os).abs (restOf (l1++(l2++(l3++(l4++(l5++(l6++(l7++(l8++(l9++(l10++(l11++(l12++[])))))))))))) E C ⟨0,0,0,0⟩ B)=some (S w os):=piece_app (p1 w os) (r1 w os)
theorem run(w:World)(os:OsState):topRun treeTable p w 11 (some (r 6)) M ⟨boot_heap w.params,Array.mk [],boot_drawn,boot_toks,os⟩ (topStub p)=some (S w os):=go_top (pre w os) (piece_block (blk w os) (Kc lst (r0 w os)))
def K(P:Params):Frag:=[(2,boot_o_2 P),(3,Cv P),(15,o15),(22,y),(23,o23 P),(24,Cw),(25,o25),(28,o28),(35,y),(36,o36 P),(37,o37),(40,o40),(47,y),(48,o48 P),(49,o49),(52,o52),(59,y),(60,o60 P),(61,o61),(64,o64),(71,y),(72,o72 P),(73,o73),(76,y),(78,o78),(79,y),(81,o81),(82,o82),(83,y),(85,o85),(86,y),(88,o88),(89,o89),(90,y),(92,o92),(93,y),(95,o95),(96,o96),(97,y),(100,o100),(101,RM),(102,y),(104,RL),(105,y),(107,RK),(108,RJ),(109,y),(112,RG),(113,RD),(114,y),(116,RB),(117,y),(119,Rz),(120,Ry),(121,y),(123,Rx),(124,y),(126,Rw),(127,Rv),(128,y),(130,Rj),(131,y),(133,Ri),(134,Rh),(135,y),(137,Rg),(138,y),(140,Rf),(141,Rc),(142,y),(144,Rb),(145,y),(147,Ra),(148,Q9),(149,y),(151,Q8),(152,y),(154,Q7),(155,Q6),(156,y),(159,Q5),(160,Q0),(161,y),(163,QZ),(164,y),(166,QX),(167,QW),(168,y),(170,QV),(171,y),(173,QT),(174,QS),(175,y),(178,QM),(179,QL),(180,y),(183,QK),(184,QJ),(185,y),(187,QH),(188,y),(190,QG),(191,QF),(192,y),(195,QD),(196,QC),(197,y),(200,o200),(201,QB),(202,y),(205,Qz),(206,Qy),(207,y),(209,Qx),(210,y),(212,Qw),(213,Qv),(214,y),(216,Qu),(217,y),(219,Qt),(220,Qs),(221,y),(223,Qq),(224,y),(226,Qp),(227,Qo),(228,y),(230,Qn),(231,y),(233,Qm),(234,Ql),(235,y),(237,Qk),(238,y),(240,Qj),(241,Qi),(242,y),(244,Qh),(245,y),(247,Qg),(248,Qf),(249,y),(251,Qa),(252,y),(254,P0),(255,PX),(256,y),(258,PN),(259,y),(261,PL),(262,PK),(263,y),(265,PJ),(266,y),(268,PB),(269,Pz),(270,y),(272,Py),(273,y),(275,Px),(276,Pu),(277,y),(280,Pr),(281,Pq),(282,y),(285,Pn),(286,Pk),(287,y),(290,Pj),(291,Ph),(292,y),(295,Pb),(296,Pa),(297,y),(300,o300),(301,O9),(302,y),(304,O8),(305,y),(307,O7),(308,O6),(309,y),(312,O5),(313,O4),(314,y),(317,O2),(318,O1),(319,y),(322,OJ),(323,OD),(324,y),(327,Oz),(328,Ox),(329,y),(332,Ow),(333,Ov),(334,y),(337,Ou),(338,Ot),(339,y),(342,Oq),(343,Oo),(344,y),(347,Om),(348,Ol),(349,y),(352,Oj),(353,Oi),(354,y),(356,Oh),(357,y),(359,Og),(360,Oe),(361,y),(363,Od),(364,y),(366,Oc),(367,Ob),(368,y),(371,Oa),(372,N8),(373,y),(376,N7),(377,o377),(378,y),(380,N6),(381,y),(383,N5),(384,NZ),(385,y),(387,NT),(388,y),(390,NQ),(391,NP),(392,y),(394,NK),(395,y),(397,Nz),(398,Ny),(399,y),(401,Nu),(402,y),(404,Nt),(405,Nr),(406,y),(408,Nq),(409,y),(411,Np),(412,Nm),(413,y),(415,Nk),(416,y),(418,Nj),(419,Ni),(420,y),(422,Nh),(423,y),(425,Ng),(426,Nf),(427,y),(430,Nb),(431,M9),(432,y),(435,M8),(436,M7),(437,y),(439,M6),(440,y),(442,M5),(443,M4),(444,y),(446,MP),(447,y),(449,MN),(450,MK),(451,y),(453,MJ),(454,y),(456,MF),(457,Mz),(458,y),(460,Mx),(461,y),(463,Mw),(464,Mv),(465,y),(468,Mu),(469,Mt),(470,y),(473,Ms),(474,Mr),(475,Jr P),(476,y),(478,Mq),(479,y),(481,Mp),(482,Ml),(483,y),(485,Mj),(486,y),(488,Mi),(489,Mh),(490,y),(493,Mg),(494,Mf),(495,y),(498,Ma),(499,LR),(500,y),(503,LQ),(504,LK),(505,y),(508,LC),(509,Lz),(510,y),(513,Ly),(514,Lx),(515,y),(517,Lw),(518,y),(520,Lr),(521,Lq),(522,y),(525,Lp),(526,Ln),(527,y),(530,Lk),(531,Lj),(532,y),(534,Li),(535,y),(537,Lh),(538,Lg),(539,y),(542,Lf),(543,Le),(544,y),(546,Ld),(547,y),(549,Lb),(550,K9),(551,y),(553,K8),(554,y),(556,K7),(557,K6),(558,y),(560,K5),(561,y),(563,K4),(564,K3),(565,y),(567,K1),(568,y),(570,KZ),(571,KY),(572,y),(574,KR),(575,y),(577,KQ),(578,KN),(620,y),(623,KJ),(624,KH)]
abbrev as:List Addr:=[2,3,15,22,23,24,25,28,35,36,37,40,47,48,49,52,59,60,61,64,71,72,73,76,78,79,81,82,83,85,86,88,89,90,92,93,95,96,97,100,101,102,104,105,107,108,109,112,113,114,116,117,119,120,121,123,124,126,127,128,130,131,133,134,135,137,138,140,141,142,144,145,147,148,149,151,152,154,155,156,159,160,161,163,164,166,167,168,170,171,173,174,175,178,179,180,183,184,185,187,188,190,191,192,195,196,197,200,201,202,205,206,207,209,210,212,213,214,216,217,219,220,221,223,224,226,227,228,230,231,233,234,235,237,238,240,241,242,244,245,247,248,249,251,252,254,255,256,258,259,261,262,263,265,266,268,269,270,272,273,275,276,277,280,281,282,285,286,287,290,291,292,295,296,297,300,301,302,304,305,307,308,309,312,313,314,317,318,319,322,323,324,327,328,329,332,333,334,337,338,339,342,343,344,347,348,349,352,353,354,356,357,359,360,361,363,364,366,367,368,371,372,373,376,377,378,380,381,383,384,385,387,388,390,391,392,394,395,397,398,399,401,402,404,405,406,408,409,411,412,413,415,416,418,419,420,422,423,425,426,427,430,431,432,435,436,437,439,440,442,443,444,446,447,449,450,451,453,454,456,457,458,460,461,463,464,465,468,469,470,473,474,475,476,478,479,481,482,483,485,486,488,489,490,493,494,495,498,499,500,503,504,505,508,509,510,513,514,515,517,518,520,521,522,525,526,527,530,531,532,534,535,537,538,539,542,543,544,546,547,549,550,551,553,554,556,557,558,560,561,563,564,565,567,568,570,571,572,574,575,577,578,620,623,624]
abbrev m0:Nat:=11
abbrev tk:Nat:=976
abbrev ann:Option Value:=(some (r 6))
def Xt(s:Shared):Bool:=xlAt q [] s&&recOk PySem.Challenge.rw_minortables_k53_whole_kinds_worths.row.toRowW.records s
theorem lk0(w:World)(os:OsState):(staticsOk (importedModules p.main.body) (boot_heap w.params) (H1 w.params)&&namesBound p (H1 w.params)&&gensDone (S w os)&&laidKept (boot_heap w.params) (H1 w.params))=true:=by
 rw[Fast.te5923862056798008813];kernel_rfl
theorem lk1(w:World)(os:OsState):PyProof.Rows.seen ((PyProof.Rows.recsOf q).map (·.name)) (PyProof.Rows.ownsOf q) [] { S w os with gens := #[] }=PyProof.Rows.expectedOf q:=by
 rw[Fast.te5160383126252970620,Fast.te3399658132070893891,Fast.te5991557255702980513];kernel_rfl
theorem lk2(w:World)(os:OsState):(S w os).heap.bltView=bltViewBooted:=by kernel_rfl
theorem lk3(w:World)(os:OsState):((S w os).heap.keysOk (looseW q lo) ((PyProof.Rows.recsOf q).map (·.name)) ((PyProof.Rows.litsOf q).map (·.1)) ((PyProof.Rows.clssOf q (looseW q lo)).map (·.name))&&(S w os).heap.accountedOkI (importedModules p.main.body)&&(S w os).heap.isNs mainGlobals&&(S w os).heap.isNs builtinsNs&&PyProof.Rows.tablesOk q (S w os).heap&&Xt (S w os)&&(if true then(S w os).gens.size==0 else !leftWithCleanup (S w os).gens))=true:=by
 rw[Fast.te10880121769531294198,Fast.te821141287760084731,Fast.te3399658132070893891,Fast.te7409074990110511671,Fast.te13664370479719496447,Fast.te14722251495701143533,Fast.te5923862056798008813];kernel_rfl
theorem lk4(w:World)(os:OsState):PyProof.Rows.tabsOk q (S w os)=true:=by rw[Fast.te479339242167458305];kernel_rfl
theorem lk5(w:World)(os:OsState):pinSeenD q (PyProof.Rows.drecsOf q) (S w os)=pinGoodD (PyProof.Rows.drecsOf q):=by rw[Fast.te16090120013241838585,Fast.te3247288618530077131];kernel_rfl
theorem lk6(w:World)(os:OsState):PyProof.Rows.plainSeenE q (looseW q lo) (S w os)=PyProof.Rows.plainGoodE q (looseW q lo):=by rw[Fast.te2386780881361962483,Fast.te821141287760084731];kernel_rfl
theorem lk7(w:World)(os:OsState):PyProof.Rows.plainSeenD q lo (S w os)=PyProof.Rows.plainGoodD q lo:=by rw[Fast.te11698064438423848299];kernel_rfl
theorem lk8(w:World)(os:OsState):wideSeen q (S w os)=wideGood q:=by rw[Fast.te7317090234206586261];kernel_rfl
theorem lk9(w:World)(os:OsState):clsSeenW q lo (S w os)=clsGoodW q lo:=by rw[Fast.te7369524293546568484];kernel_rfl
theorem asK(P:Params):as=(K P).map (·.1):=by kernel_rfl
abbrev H:Hook:=kHook K as asK
theorem lkY(w:World)(os:OsState):H.obs (S w os)=H.val w:=by kernel_rfl
theorem looks(w:World):(fun os=>((staticsOk (importedModules p.main.body) (boot_heap w.params) (H1 w.params)&&namesBound p (H1 w.params)&&gensDone (S w os)&&laidKept (boot_heap w.params) (H1 w.params)),openSeen q lo (importedModules p.main.body) Xt true (S w os),H.obs (S w os)))=fun _=>(true,openGood q lo,H.val w) :=
 funext fun os=>looks_pair (lk0 w os) (looks_pair (looks_pair (lk1 w os) (looks_pair (lk2 w os) (looks_pair (lk3 w os) (looks_pair (lk4 w os) (looks_pair (lk5 w os) (looks_pair (lk6 w os) (looks_pair (lk7 w os) (looks_pair (lk8 w os) (lk9 w os))))))))) (lkY w os))
theorem size(w:World):((boot_heap w.params).isNs mainGlobals&&(Array.mk ([]:List GenState)).size==0,(boot_heap w.params).objs.size,(boot_heap w.params).nsMap mainGlobals "__annotations__")=(true,m0,ann):=by
 rw[Fast.te8920871248978507458];kernel_rfl
theorem bt(w:World):(fencedOpening treeTable p w N).map (fun s=>(s.heap,s.gens,s.drawn,s.toks))=some (boot_heap w.params,Array.mk [],boot_drawn,boot_toks) :=
 boot_open (p:=p) (N:=N) (by kernel_rfl) (by kernel_rfl) (fun _=>rfl) w
theorem left:LeftO p q lo Xt H.obs H.val N :=
 LeftO.of_pieces (H₀:=boot_heap) (H₁:=H1) (m₀:=m0) (ann:=ann) (M:=M) (gs₀:=Array.mk []) (gs₁:=⟨[]⟩) (d₀:=boot_drawn) (d₁:={}) (k₀:=boot_toks) (k₁:=tk) bt size run (by kernel_rfl) looks
abbrev R:OpenLaw:=PySem.Challenge.rw_minortables_k53_whole_kinds_worths
theorem said:R.wellSaid=true:=by rw[Fast.te9446332074065402090];kernel_rfl
def dr:DefRec:=match d 112 with | .FunctionDef n a l _ _ _ sc _ _ o=>⟨n,a,l,sc,o⟩ | _=>⟨"",default,[],default,⟨0,0,0,0⟩⟩
theorem hdef:defOf q R.row.name=some (dr,[]):=by kernel_rfl
theorem hthe:R.row.prog.theDef R.row.name=some (dr.params,dr.body,dr.scope):=by kernel_rfl
theorem hkw:kwWritten? dr.params.kwonlyargs dr.params.kw_defaults=some []:=by kernel_rfl
theorem hok:(chainsOk q&&opensWell R.row.prog&&(frees R.row.toRowW&&R.row.within.isEmpty))=true:=by kernel_rfl
theorem hbare:R.row.prog.bare:=⟨rfl,rfl,rfl,rfl,rfl,by kernel_rfl⟩
theorem X7:R.row.toRowW.promised:=⟨[.list []],by kernel_rfl,by kernel_rfl⟩
theorem holds(call:WalkO q lo (XL q []) H.says R.row.toRowW dr [] fun f vs=>PySem.call f vs):R.Holds :=
 holds_law said fun k1=>holds_open (r:=R.row) (q:=q) (loose:=lo) (Xt:=Xt) (XP:=XL q []) (Yf:=H.obs) (Ya:=H.val) (YP:=H.says) (N:=N) left H.of H.keeps (fun s e=>xl_of s (Bool.and_eq_true_iff.mp e).1) XL.keeps hdef hthe hkw (fun s e=>recFacts_of (Bool.and_eq_true_iff.mp e).2) rfl k1 hok hbare X7 call
end H53
end
namespace M53
open PySem PySem.W L2 DE
set_option maxHeartbeats 0 in
theorem txt(w:World){mg:Str->Option Value}{h:Heap}(X:(H53.K w.params).In h)(G:h.Ns mainGlobals mg):Text w (H53.K w.params) mg T :=
  ⟨in_of (l:=cs) (Q:=fun(x:Str) (d:D)=>∃ v u,(∀ H',Rep (H53.K w.params) H' d v)/\mg x=some u/\RelV v u) (aC (cA X G 273 (by kernel_rfl)) (aC (cS X G 761 (by kernel_rfl)) (aC (cS X G 763 (by kernel_rfl)) (aC (cS X G 765 (by kernel_rfl)) (aC (cD X G 475 (H53.Jr w.params) (by kernel_rfl) (by kernel_rfl) ⟨rfl,rfl,rfl⟩ (by kernel_rfl) (by kernel_rfl) (by kernel_rfl)) (aN)))))),
    in_of (l:=bl) (Q:=fun x b=>mg x=none/\x=Str.ofString b) (aC (bA X G (by kernel_rfl) rfl) (aC (bA X G (by kernel_rfl) rfl) (aC (bA X G (by kernel_rfl) rfl) (aC (bA X G (by kernel_rfl) rfl) (aC (bA X G (by kernel_rfl) rfl) (aC (bA X G (by kernel_rfl) rfl) (aC (bA X G (by kernel_rfl) rfl) (aC (bA X G (by kernel_rfl) rfl) (aC (bA X G (by kernel_rfl) rfl) (aC (bA X G (by kernel_rfl) rfl) (aC (bA X G (by kernel_rfl) rfl) (aC (bA X G (by kernel_rfl) rfl) (aC (bA X G (by kernel_rfl) rfl) (aC (bA X G (by kernel_rfl) rfl) (aC (bA X G (by kernel_rfl) rfl) (aC (bA X G (by kernel_rfl) rfl) (aN))))))))))))))))),
    in_of (l:=df) (Q:=fun x fd=>FunAt (H53.K w.params) mg x fd) (
     aC (aq X G 82 .none (.str "minortables.checks" 271) (.ref 81) b8 (by kernel_rfl) (by kernel_rfl) (by kernel_rfl)) (
     aC (aq X G 89 .none (.str "minortables.checks" 271) (.ref 88) b9 (by kernel_rfl) (by kernel_rfl) (by kernel_rfl)) (
     aC (aq X G 96 .none (.str "minortables.checks" 271) (.ref 95) b10 (by kernel_rfl) (by kernel_rfl) (by kernel_rfl)) (
     aC (aq X G 101 .none (.str "minortables.checks" 271) (.ref 100) b11 (by kernel_rfl) (by kernel_rfl) (by kernel_rfl)) (
     aC (aq X G 108 .none (.str "minortables.checks" 271) (.ref 107) b12 (by kernel_rfl) (by kernel_rfl) (by kernel_rfl)) (
     aC (aq X G 113 .none (.str "minortables.checks" 271) (.ref 112) b13 (by kernel_rfl) (by kernel_rfl) (by kernel_rfl)) (
     aC (aq X G 120 .none (.str "minortables.checks" 271) (.ref 119) b14 (by kernel_rfl) (by kernel_rfl) (by kernel_rfl)) (
     aC (aq X G 127 .none (.str "minortables.checks" 271) (.ref 126) b15 (by kernel_rfl) (by kernel_rfl) (by kernel_rfl)) (
     aC (aq X G 134 .none (.str "minortables.checks" 271) (.ref 133) b16 (by kernel_rfl) (by kernel_rfl) (by kernel_rfl)) (
     aC (aq X G 141 .none (.str "minortables.checks" 271) (.ref 140) b17 (by kernel_rfl) (by kernel_rfl) (by kernel_rfl)) (
     aC (aq X G 148 .none (.str "minortables.checks" 271) (.ref 147) b18 (by kernel_rfl) (by kernel_rfl) (by kernel_rfl)) (
     aC (aq X G 155 .none (.str "minortables.kinds" 356) (.ref 154) b20 (by kernel_rfl) (by kernel_rfl) (by kernel_rfl)) (
     aC (aq X G 160 .none (.str "minortables.kinds" 356) (.ref 159) b21 (by kernel_rfl) (by kernel_rfl) (by kernel_rfl)) (
     aC (aq X G 167 .none (.str "minortables.kinds" 356) (.ref 166) b22 (by kernel_rfl) (by kernel_rfl) (by kernel_rfl)) (
     aC (aq X G 174 .none (.str "minortables.kinds" 356) (.ref 173) b23 (by kernel_rfl) (by kernel_rfl) (by kernel_rfl)) (
     aC (aq X G 179 .none (.str "minortables.kinds" 356) (.ref 178) b24 (by kernel_rfl) (by kernel_rfl) (by kernel_rfl)) (
     aC (aq X G 184 .none (.str "minortables.kinds" 356) (.ref 183) b25 (by kernel_rfl) (by kernel_rfl) (by kernel_rfl)) (
     aC (aq X G 191 .none (.str "minortables.kinds" 356) (.ref 190) b26 (by kernel_rfl) (by kernel_rfl) (by kernel_rfl)) (
     aC (aq X G 196 .none (.str "minortables.kinds" 356) (.ref 195) b27 (by kernel_rfl) (by kernel_rfl) (by kernel_rfl)) (
     aC (aq X G 201 .none (.str "minortables.kinds" 356) (.ref 200) b28 (by kernel_rfl) (by kernel_rfl) (by kernel_rfl)) (
     aC (aq X G 206 .none (.str "minortables.kinds" 356) (.ref 205) b29 (by kernel_rfl) (by kernel_rfl) (by kernel_rfl)) (
     aC (aq X G 213 .none (.str "minortables.fractions" 431) (.ref 212) b31 (by kernel_rfl) (by kernel_rfl) (by kernel_rfl)) (
     aC (aq X G 220 .none (.str "minortables.fractions" 431) (.ref 219) b32 (by kernel_rfl) (by kernel_rfl) (by kernel_rfl)) (
     aC (aq X G 227 .none (.str "minortables.fractions" 431) (.ref 226) b33 (by kernel_rfl) (by kernel_rfl) (by kernel_rfl)) (
     aC (aq X G 234 .none (.str "minortables.fractions" 431) (.ref 233) b34 (by kernel_rfl) (by kernel_rfl) (by kernel_rfl)) (
     aC (aq X G 241 .none (.str "minortables.fractions" 431) (.ref 240) b35 (by kernel_rfl) (by kernel_rfl) (by kernel_rfl)) (
     aC (aq X G 248 .none (.str "minortables.fractions" 431) (.ref 247) b36 (by kernel_rfl) (by kernel_rfl) (by kernel_rfl)) (
     aC (aq X G 255 .none (.str "minortables.fractions" 431) (.ref 254) b37 (by kernel_rfl) (by kernel_rfl) (by kernel_rfl)) (
     aC (aq X G 262 .none (.str "minortables.fractions" 431) (.ref 261) b38 (by kernel_rfl) (by kernel_rfl) (by kernel_rfl)) (
     aC (aq X G 269 .none (.str "minortables.fractions" 431) (.ref 268) b39 (by kernel_rfl) (by kernel_rfl) (by kernel_rfl)) (
     aC (aq X G 276 .none (.str "minortables.fractions" 431) (.ref 275) b40 (by kernel_rfl) (by kernel_rfl) (by kernel_rfl)) (
     aC (aq X G 281 .none (.str "minortables.fractions" 431) (.ref 280) b41 (by kernel_rfl) (by kernel_rfl) (by kernel_rfl)) (
     aC (aq X G 286 .none (.str "minortables.fractions" 431) (.ref 285) b42 (by kernel_rfl) (by kernel_rfl) (by kernel_rfl)) (
     aC (aq X G 291 .none (.str "minortables.fractions" 431) (.ref 290) b43 (by kernel_rfl) (by kernel_rfl) (by kernel_rfl)) (
     aC (aq X G 296 .none (.str "minortables.tables" 533) (.ref 295) b45 (by kernel_rfl) (by kernel_rfl) (by kernel_rfl)) (
     aC (aq X G 301 .none (.str "minortables.tables" 533) (.ref 300) b46 (by kernel_rfl) (by kernel_rfl) (by kernel_rfl)) (
     aC (aq X G 308 .none (.str "minortables.tables" 533) (.ref 307) b47 (by kernel_rfl) (by kernel_rfl) (by kernel_rfl)) (
     aC (aq X G 313 .none (.str "minortables.tables" 533) (.ref 312) b48 (by kernel_rfl) (by kernel_rfl) (by kernel_rfl)) (
     aC (aq X G 318 .none (.str "minortables.tables" 533) (.ref 317) b49 (by kernel_rfl) (by kernel_rfl) (by kernel_rfl)) (
     aC (aq X G 323 .none (.str "minortables.tables" 533) (.ref 322) b50 (by kernel_rfl) (by kernel_rfl) (by kernel_rfl)) (
     aC (aq X G 328 .none (.str "minortables.tables" 533) (.ref 327) b52 (by kernel_rfl) (by kernel_rfl) (by kernel_rfl)) (
     aC (aq X G 333 .none (.str "minortables.tables" 533) (.ref 332) b54 (by kernel_rfl) (by kernel_rfl) (by kernel_rfl)) (
     aC (aq X G 338 .none (.str "minortables.tables" 533) (.ref 337) b55 (by kernel_rfl) (by kernel_rfl) (by kernel_rfl)) (
     aC (aq X G 343 .none (.str "minortables.tables" 533) (.ref 342) b56 (by kernel_rfl) (by kernel_rfl) (by kernel_rfl)) (
     aC (aq X G 348 .none (.str "minortables.minors" 598) (.ref 347) b58 (by kernel_rfl) (by kernel_rfl) (by kernel_rfl)) (
     aC (aq X G 353 .none (.str "minortables.minors" 598) (.ref 352) b59 (by kernel_rfl) (by kernel_rfl) (by kernel_rfl)) (
     aC (aq X G 360 .none (.str "minortables.minors" 598) (.ref 359) b60 (by kernel_rfl) (by kernel_rfl) (by kernel_rfl)) (
     aC (aq X G 367 .none (.str "minortables.minors" 598) (.ref 366) b61 (by kernel_rfl) (by kernel_rfl) (by kernel_rfl)) (
     aC (aq X G 372 .none (.str "minortables.minors" 598) (.ref 371) b62 (by kernel_rfl) (by kernel_rfl) (by kernel_rfl)) (
     aC (aq X G 377 .none (.str "minortables.minors" 598) (.ref 376) b63 (by kernel_rfl) (by kernel_rfl) (by kernel_rfl)) (
     aC (aq X G 384 .none (.str "minortables.minors" 598) (.ref 383) b64 (by kernel_rfl) (by kernel_rfl) (by kernel_rfl)) (
     aC (aq X G 391 .none (.str "minortables.minors" 598) (.ref 390) b65 (by kernel_rfl) (by kernel_rfl) (by kernel_rfl)) (
     aC (aq X G 398 .none (.str "minortables.minors" 598) (.ref 397) b66 (by kernel_rfl) (by kernel_rfl) (by kernel_rfl)) (
     aC (aq X G 405 .none (.str "minortables.minors" 598) (.ref 404) b67 (by kernel_rfl) (by kernel_rfl) (by kernel_rfl)) (
     aC (aq X G 412 .none (.str "minortables.minors" 598) (.ref 411) b68 (by kernel_rfl) (by kernel_rfl) (by kernel_rfl)) (
     aC (aq X G 419 .none (.str "minortables.minors" 598) (.ref 418) b69 (by kernel_rfl) (by kernel_rfl) (by kernel_rfl)) (
     aC (aq X G 426 .none (.str "minortables.minors" 598) (.ref 425) b70 (by kernel_rfl) (by kernel_rfl) (by kernel_rfl)) (
     aC (aq X G 431 .none (.str "minortables.minors" 598) (.ref 430) b71 (by kernel_rfl) (by kernel_rfl) (by kernel_rfl)) (
     aC (aq X G 436 .none (.str "minortables.good" 711) (.ref 435) b73 (by kernel_rfl) (by kernel_rfl) (by kernel_rfl)) (
     aC (aq X G 443 .none (.str "minortables.good" 711) (.ref 442) b74 (by kernel_rfl) (by kernel_rfl) (by kernel_rfl)) (
     aC (aq X G 450 .none (.str "minortables.good" 711) (.ref 449) b75 (by kernel_rfl) (by kernel_rfl) (by kernel_rfl)) (
     aC (aq X G 457 .none (.str "minortables.good" 711) (.ref 456) b76 (by kernel_rfl) (by kernel_rfl) (by kernel_rfl)) (
     aC (aq X G 464 .none (.str "minortables.good" 711) (.ref 463) b77 (by kernel_rfl) (by kernel_rfl) (by kernel_rfl)) (
     aC (aq X G 469 .none (.str "minortables.good" 711) (.ref 468) b78 (by kernel_rfl) (by kernel_rfl) (by kernel_rfl)) (
     aC (aq X G 474 .none (.str "minortables.good" 711) (.ref 473) b79 (by kernel_rfl) (by kernel_rfl) (by kernel_rfl)) (
     aC (aq X G 482 .none (.str "minortables.steps" 759) (.ref 481) b85 (by kernel_rfl) (by kernel_rfl) (by kernel_rfl)) (
     aC (aq X G 489 .none (.str "minortables.steps" 759) (.ref 488) b86 (by kernel_rfl) (by kernel_rfl) (by kernel_rfl)) (
     aC (aq X G 494 .none (.str "minortables.steps" 759) (.ref 493) b87 (by kernel_rfl) (by kernel_rfl) (by kernel_rfl)) (
     aC (aq X G 499 .none (.str "minortables.steps" 759) (.ref 498) b88 (by kernel_rfl) (by kernel_rfl) (by kernel_rfl)) (
     aC (aq X G 504 .none (.str "minortables.steps" 759) (.ref 503) b90 (by kernel_rfl) (by kernel_rfl) (by kernel_rfl)) (
     aC (aq X G 509 .none (.str "minortables.steps" 759) (.ref 508) b92 (by kernel_rfl) (by kernel_rfl) (by kernel_rfl)) (
     aC (aq X G 514 .none (.str "minortables.steps" 759) (.ref 513) b93 (by kernel_rfl) (by kernel_rfl) (by kernel_rfl)) (
     aC (aq X G 521 .none (.str "minortables.steps" 759) (.ref 520) b94 (by kernel_rfl) (by kernel_rfl) (by kernel_rfl)) (
     aC (aq X G 526 .none (.str "minortables.steps" 759) (.ref 525) b95 (by kernel_rfl) (by kernel_rfl) (by kernel_rfl)) (
     aC (aq X G 531 .none (.str "minortables.steps" 759) (.ref 530) b96 (by kernel_rfl) (by kernel_rfl) (by kernel_rfl)) (
     aC (aq X G 538 .none (.str "minortables.steps" 759) (.ref 537) b97 (by kernel_rfl) (by kernel_rfl) (by kernel_rfl)) (
     aC (aq X G 543 .none (.str "minortables.steps" 759) (.ref 542) b98 (by kernel_rfl) (by kernel_rfl) (by kernel_rfl)) (
     aC (aq X G 550 .none (.str "minortables.steps" 759) (.ref 549) b99 (by kernel_rfl) (by kernel_rfl) (by kernel_rfl)) (
     aC (aq X G 557 .none (.str "minortables.steps" 759) (.ref 556) Yn (by kernel_rfl) (by kernel_rfl) (by kernel_rfl)) (
     aC (aq X G 564 .none (.str "minortables.steps" 759) (.ref 563) Ym (by kernel_rfl) (by kernel_rfl) (by kernel_rfl)) (
     aC (aq X G 571 .none (.str "law_minortables_k53_whole_kinds_worths" 893) (.ref 570) Yl (by kernel_rfl) (by kernel_rfl) (by kernel_rfl)) (
     aC (aq X G 578 .none (.str "law_minortables_k53_whole_kinds_worths" 893) (.ref 577) Yk (by kernel_rfl) (by kernel_rfl) (by kernel_rfl)) (
     aC (aq X G 624 .none (.str "law_minortables_k53_whole_kinds_worths" 893) (.ref 623) WD (by kernel_rfl) (by kernel_rfl) (by kernel_rfl)) (
     aN)))))))))))))))))))))))))))))))))))))))))))))))))))))))))))))))))))))))))))))))))))),XText.of (fun x v h=>PySem.W.mg_of X G h) (by kernel_rfl),by show List.map _ _=List.map _ _;kernel_rfl⟩
end M53
open PySem PySem.W PyProof.Rows
set_option maxRecDepth 100000 in
set_option maxHeartbeats 0 in
theorem PySem.Challenge.cw_minortables_k53_whole_kinds_worths_holds : PySem.Challenge.rw_minortables_k53_whole_kinds_worths.Holds :=
 H53.holds (M53.walk (l := PySem.Challenge.rw_minortables_k53_whole_kinds_worths) (K := H53.K) rfl (by kernel_rfl) (fun w h Y => PySem.W.kIn_of (e := H53.asK) Y) fun w mg fa h KX G hmg => M53.fin M53.law_true (M53.txt w KX G) KX G hmg 624 .none (.str "law_minortables_k53_whole_kinds_worths" 893) (.ref 623) (by kernel_rfl) (by kernel_rfl) (by kernel_rfl) (by kernel_rfl))
#print axioms PySem.Challenge.cw_minortables_k53_whole_kinds_worths_holds
