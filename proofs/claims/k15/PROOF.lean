import PyProof.Rows.All
import Wide.All
import OpenK.AllK
import Wide.FinOn
import Lean
import PyProof.EqAt
import PyProof.EqKinds
import PyProof.TupleCall
import PyProof.ListRange
import PySem.Names
import PyProof.NeKinds
import PySem.Challenge.RW_minortables_k15_whole_joined_minors
set_option Elab.async false
set_option linter.all false
set_option maxRecDepth 100000
namespace L2
open PySem PySem.Spec PyProof.Rows
abbrev Key:=Sum Int Str
def keyIs:Key->Value->Bool
 | .inl k,v=>Value.isInt k v
 | .inr x,v=>Value.isStrOf x v
def keyH(w:World):Key->Int
 | .inl k=>hashInt k
 | .inr x=>hashStr w x
theorem keyIs_shape:∀ {k:Key} {v:Value},keyIs k v=true->(∃ i t,k=Sum.inl i/\v=Value.int i t)\/(∃ x t,k=Sum.inr x/\v=Value.str x t)
  | .inl i, v, h => by
    obtain⟨t,e⟩:=Value.isInt_shape (k:=i) (v:=v) h
    exact .inl ⟨i,t,rfl,e⟩
  | .inr x, v, h => by
    obtain⟨t,e⟩:=Value.isStrOf_shape (x:=x) (v:=v) h
    exact .inr ⟨x,t,rfl,e⟩
theorem keyIs_int(i:Int)(t:Tok):keyIs (.inl i) (.int i t)=true:=by simp[keyIs,Value.isInt]
theorem keyIs_str(x:Str)(t:Tok):keyIs (.inr x) (.str x t)=true:=by simp[keyIs,Value.isStrOf]
theorem key_ll(a b:Int):decide ((Sum.inl a:Key)=Sum.inl b)=(a==b):=by
 by_cases e:a=b
 ·subst e;simp
 ·have h:¬ (Sum.inl a:Key)=Sum.inl b:=fun q=>e (Sum.inl.inj q)
  rw[decide_eq_false h]
  exact(beq_eq_false_iff_ne.mpr e).symm
theorem key_rr(a b:Str):decide ((Sum.inr a:Key)=Sum.inr b)=decide (a=b):=by
 by_cases e:a=b
 ·subst e;simp
 ·have h:¬ (Sum.inr a:Key)=Sum.inr b:=fun q=>e (Sum.inr.inj q)
  rw[decide_eq_false h,decide_eq_false e]
theorem key_lr(a:Int)(b:Str):decide ((Sum.inl a:Key)=Sum.inr b)=false:=decide_eq_false (fun q=>nomatch q)
theorem key_rl(a:Str)(b:Int):decide ((Sum.inr a:Key)=Sum.inl b)=false:=decide_eq_false (fun q=>nomatch q)
def mixKind(prog:Program)(w:World):PySem.KeyKind prog w Key where
 is:=keyIs
 hash:=keyH w
 inj:=fun v a b ha hb=>by
  rcases keyIs_shape ha with⟨i,t,rfl,rfl⟩ | ⟨x,t,rfl,rfl⟩
  ·rcases keyIs_shape hb with⟨j,u,rfl,e⟩ | ⟨y,u,rfl,e⟩
   ·injection e with e1 _;rw[e1]
   ·exact nomatch e
  ·rcases keyIs_shape hb with⟨j,u,rfl,e⟩ | ⟨y,u,rfl,e⟩
   ·exact nomatch e
   ·injection e with e1 _;rw[e1]
 byValue:=fun k v h=>by
  rcases keyIs_shape h with⟨i,t,rfl,rfl⟩ | ⟨x,t,rfl,rfl⟩<;>rfl
 pyHash:=fun hv h=>by
  rcases keyIs_shape hv with⟨i,t,rfl,rfl⟩ | ⟨x,t,rfl,rfl⟩
  ·exact wpAny_pyHash_int h
  ·exact wpAny_pyHash_str h
 eqBool:=fun hu hv h=>by
  rcases keyIs_shape hu with⟨i,t,rfl,rfl⟩ | ⟨x,t,rfl,rfl⟩
  ·rcases keyIs_shape hv with⟨j,u,rfl,rfl⟩ | ⟨y,u,rfl,rfl⟩
   ·rw[key_ll] at h;exact wpAny_eqBool_int h
   ·rw[key_lr] at h;exact SeqAt.EqAt.int_str i t y u _ _ _ _ h
  ·rcases keyIs_shape hv with⟨j,u,rfl,rfl⟩ | ⟨y,u,rfl,rfl⟩
   ·rw[key_rl] at h;exact SeqAt.EqAt.str_int x t j u _ _ _ _ h
   ·rw[key_rr] at h;exact wpAny_eqBool_str h
 «strs» :=fun k x t v h=>by
  rcases keyIs_shape h with⟨i,u,rfl,e⟩ | ⟨y,u,rfl,e⟩
  ·exact nomatch e
  ·injection e with e1 _
   subst e1
   cases v<;>rfl
theorem mixKind_int(prog:Program)(w:World)(i:Int)(t:Tok):(mixKind prog w).is (.inl i) (.int i t)=true:=keyIs_int i t
theorem mixKind_str(prog:Program)(w:World)(x:Str)(t:Tok):(mixKind prog w).is (.inr x) (.str x t)=true:=keyIs_str x t
end L2
namespace L2
open PySem PySem.Spec PyProof.Rows
inductive V where
 | non | bl (b:Bool) | int (i:Int) | str (x:Str) | byt (b:Array UInt8) | flt (b:UInt64) | ref (a:Addr) | ty (n:String)
 deriving DecidableEq
def RelV:V->Value->Prop
 | .non,u=>u=Value.none
 | .bl b,u=>u=Value.bool b
 | .int i,u=>∃ t,u=Value.int i t
 | .str x,u=>∃ t,u=Value.str x t
 | .byt b,u=>∃ t,u=Value.bytes b t
 | .flt b,u=>∃ t,u=Value.float b t
 | .ref a,u=>u=Value.ref a
 | .ty n,u=>u=Value.type n
abbrev Vals:List V->List Value->Prop:=Paired RelV
theorem Vals.length{xs:List V}{us:List Value}(r:Vals xs us):xs.length=us.length:=Paired.length r
theorem Vals.get:∀ {xs:List V} {us:List Value} {i:Nat} {x:V},Vals xs us->xs[i]?=some x->∃ u,us[i]?=some u/\RelV x u
  | _,_,_,_,.nil,e=>by simp at e
  | _,_,0,_,.cons r _,e=>by simp at e;subst e;exact⟨_,rfl,r⟩
  | _, _, i + 1, x, .cons _ t, e => by
    obtain⟨u,h1,h2⟩:=Vals.get (i:=i) (x:=x) t (by simpa using e)
    exact⟨u,by simpa using h1,h2⟩
theorem Vals.set{x:V}{u:Value}(r:RelV x u):∀ {xs:List V} {us:List Value} (i:Nat),Vals xs us->Vals (xs.set i x) (us.set i u)
 | _,_,_,.nil=>.nil
 | _,_,0,.cons _ t=>.cons r t
 | _,_,i+1,.cons q t=>.cons q (Vals.set r i t)
theorem Vals.append:∀ {xs ys:List V} {us ws:List Value},Vals xs us->Vals ys ws->Vals (xs++ys) (us++ws)
 | _,_,_,_,.nil,s=>s
 | _,_,_,_,.cons r t,s=>.cons r (Vals.append t s)
theorem Vals.take:∀ {xs:List V} {us:List Value} (n:Nat),Vals xs us->Vals (xs.take n) (us.take n)
 | _,_,0,_=>.nil
 | _,_,_+1,.nil=>.nil
 | _,_,n+1,.cons r t=>.cons r (Vals.take n t)
theorem Vals.drop:∀ {xs:List V} {us:List Value} (n:Nat),Vals xs us->Vals (xs.drop n) (us.drop n)
 | _,_,0,r=>r
 | _,_,_+1,.nil=>.nil
 | _,_,n+1,.cons _ t=>Vals.drop n t
def RelO:Option V->Option Value->Prop
 | some v,some u=>RelV v u
 | none,none=>True
 | _,_=>False
def KV{κ:Type}:List (κ×V)->List (κ×Value)->Prop:=Paired fun(p:κ×V) (q:κ×Value)=>p.1=q.1/\RelV p.2 q.2
def kV:Key->V
 | .inl i=>.int i
 | .inr x=>.str x
inductive HO where
 | lst (xs:List V)
 | tup (xs:List V)
 | dK (kvs:List (Key×V)) | dT (kvs:List (List Key×V))
 | set (S:Int->Bool) (n:Nat)
 | ins (C dx:Addr) (fs:List (Str×V))
 | own (x:Addr)
 | xd (fs:List (Str×V))
 | met (f x:Addr)
 | rng (lo hi:Int)
 | frz (o:Obj) (u:HO)
 | tbl (ps:Array Value)
 | ext (φ:Heap->Prop)
abbrev Hp:=Addr->Option HO
def upd(H:Hp)(a:Addr)(o:HO):Hp:=fun b=>if b=a then some o else H b
theorem upd_same{H:Hp}{a:Addr}{o:HO}:upd H a o a=some o:=by unfold upd;rw[if_pos rfl]
theorem upd_ne{H:Hp}{a b:Addr}{o:HO}(h:b≠a):upd H a o b=H b:=by unfold upd;rw[if_neg h]
theorem ne_of_none{H:Hp}{a b:Addr}{o:HO}(h:H a=some o)(h':H b=none):a≠b:=by
 intro e;subst e;rw[h] at h';cases h'
section
variable (P:Program) (w:World)
def ObjOk(H:Hp)(h:Heap)(a:Addr):HO->Prop
 | .lst xs=>xs.length<=sizeLine/\∃ (its:List Value) (n:Nat),Vals xs its/\h.get? a=some { cls:=.type "list",data:=.seq its.toArray n }
 | .tup xs=>xs.length<=sizeLine/\∃ its:List Value,Vals xs its/\IsTup h a its.toArray
 | .dK kvs=>kvs.length<=sizeLine/\(a==sysModules)=false/\∃ vs,KV kvs vs/\h.DictOf (mixKind P w) a vs
 | .dT kvs => kvs.length <= sizeLine /\ (a == sysModules) = false /\ ∃ xs : List (List Key × Addr × Value),
   Paired (fun(p:List Key×V) (q:List Key×Addr×Value)=>p.1=q.1/\H q.2.1=some (.tup (p.1.map kV))/\RelV p.2 q.2.2) kvs xs /\
   ∃ o es ep,h.get? a=some o/\o.ExactDict/\o.data=.dict es ep/\es.toList=xs.map (entryOfKey (tupleKind (mixKind P w)))/\(xs.map (·.1)).Nodup
 | .set S n=>h.SetOf (intKind P w) a S n
 | .ins C dx fs => H dx = some (.own a) /\ fs.length <= 1000 /\ dx ≠ a /\ h.get? a = some (PySem.W.instObj C dx) /\
   ∃ mA,h.Ns1 dx mA/\(∀ f,RelO (fs.lookup f) (mA f))/\PySem.Within mA (fs.map (·.1))
 | .own _=>∃ o,h.get? a=some o
 | .xd fs=>∃ mA,h.Ns1 a mA/\∀ f,RelO (fs.lookup f) (mA f)
 | .rng lo hi=>∃ t u v,h.get? a=some { cls:=.type "range",data:=.fields #[.int lo t,.int hi u,.int 1 v] }
 | .frz o u=>h.get? a=some o/\ObjOk H h a u
 | .tbl ps=>h.get? a=some { cls:=.none,data:=.fields ps }
 | .met f x=>h.get? a=some (PySem.W.methodObj (.ref f) (.ref x))
 | .ext φ=>φ h/\(∃ o,h.get? a=some o)/\∀ h1 h2:Heap,φ h1->(∀ o,h1.get? a=some o->h2.get? a=some o)->φ h2
def HOk(H:Hp)(h:Heap):Prop:=∀ a o,H a=some o->ObjOk P w H h a o
end
section
variable {P:Program} {w:World} {H H':Hp} {h h':Heap} {a:Addr} {o:HO}
theorem ObjOk.lt(x:ObjOk P w H h a o):a<h.objs.size:=by
 cases o with
 | lst xs=>obtain⟨_,_,_,_,e⟩:=x;exact Heap.lt_size e
 | tup xs=>obtain⟨_,_,_,p⟩:=x;exact p.lt
 | dK kvs=>obtain⟨_,_,_,_,o,_,_,e,_⟩:=x;exact Heap.lt_size e
 | dT kvs=>obtain⟨_,_,_,_,o,_,_,e,_⟩:=x;exact Heap.lt_size e
 | set S n=>obtain⟨o,_,_,_,e,_⟩:=x;exact Heap.lt_size e
 | ins C dx fs=>obtain⟨_,_,_,e,_⟩:=x;exact Heap.lt_size e
 | own y=>obtain⟨_,e⟩:=x;exact Heap.lt_size e
 | xd fs=>obtain⟨_,⟨_,_,_,e,_⟩,_⟩:=x;exact Heap.lt_size e
 | rng lo hi=>obtain⟨_,_,_,e⟩:=x;exact Heap.lt_size e
 | frz ob u=>obtain⟨e,_⟩:=x;exact Heap.lt_size e
 | tbl ps=>exact Heap.lt_size (show h.get? a=some _ from x)
 | met f y=>exact Heap.lt_size (show h.get? a=some _ from x)
 | ext φ=>obtain⟨_,⟨_,e⟩,_⟩:=x;exact Heap.lt_size e
theorem Paired.mapP{α β:Type}{F G:α->β->Prop}:∀ {l₁:List α} {l₂:List β},Paired F l₁ l₂->(∀ a b,F a b->G a b)->Paired G l₁ l₂
 | _,_,.nil,_=>.nil
 | _,_,.cons r t,f=>.cons (f _ _ r) (Paired.mapP t f)
theorem ObjOk.stay(x:ObjOk P w H h a o)(k:∀ b u,(b=a\/H b=some (.own a))->h.get? b=some u->h'.get? b=some u)
    (ho:∀ b,H b=some (.own a)->H' b=some (.own a)) (ht:∀ b xs,H b=some (.tup xs)->H' b=some (.tup xs)):ObjOk P w H' h' a o:=by
  induction o with
  | lst xs=>obtain⟨z,its,n,r,e⟩:=x;exact⟨z,its,n,r,k _ _ (.inl rfl) e⟩
  | tup xs=>obtain⟨z,its,r,ob,e,c⟩:=x;exact⟨z,its,r,ob,k _ _ (.inl rfl) e,c⟩
  | dK kvs=>obtain⟨z,y,vs,r,ob,es,ep,e,c⟩:=x;exact⟨z,y,vs,r,ob,es,ep,k _ _ (.inl rfl) e,c⟩
  | dT kvs =>
    obtain⟨z,y,xs,r,ob,es,ep,e,c⟩:=x
    exact⟨z,y,xs,Paired.mapP r fun p q z=>⟨z.1,ht _ _ z.2.1,z.2.2⟩,ob,es,ep,k _ _ (.inl rfl) e,c⟩
  | set S n=>obtain⟨ob,es,ep,t,e,c⟩:=x;exact⟨ob,es,ep,t,k _ _ (.inl rfl) e,c⟩
  | ins C dx fs =>
    obtain⟨d,z,ne,e,mA,⟨od,es,ep,e2,c⟩,r⟩:=x
    exact⟨ho _ d,z,ne,k _ _ (.inl rfl) e,mA,⟨od,es,ep,k _ _ (.inr d) e2,c⟩,r⟩
  | own y=>obtain⟨ob,e⟩:=x;exact⟨ob,k _ _ (.inl rfl) e⟩
  | xd fs=>obtain⟨mA,⟨od,es,ep,e,c⟩,r⟩:=x;exact⟨mA,⟨od,es,ep,k _ _ (.inl rfl) e,c⟩,r⟩
  | rng lo hi=>obtain⟨t,u,v,e⟩:=x;exact⟨t,u,v,k _ _ (.inl rfl) e⟩
  | frz ob u ih=>obtain⟨e,q⟩:=x;exact⟨k _ _ (.inl rfl) e,ih q⟩
  | tbl ps =>
    have e:h.get? a=some { cls:=.none,data:=.fields ps }:=x
    show h'.get? a=some { cls:=.none,data:=.fields ps }
    exact k a _ (.inl rfl) e
  | met f y =>
    have e:h.get? a=some (PySem.W.methodObj (.ref f) (.ref y)):=x
    show h'.get? a=some (PySem.W.methodObj (.ref f) (.ref y))
    exact k a _ (.inl rfl) e
  | ext φ=>obtain⟨p,⟨o,e⟩,st⟩:=x;exact⟨st _ _ p fun o q=>k _ _ (.inl rfl) q,⟨o,k _ _ (.inl rfl) e⟩,st⟩
theorem HOk.lt(x:HOk P w H h)(e:H a=some o):a<h.objs.size:=(x a o e).lt
theorem HOk.fresh(x:HOk P w H h)(e:h.objs.size<=a):H a=none:=by
 cases q:H a with
 | none=>rfl
 | some u=>exact absurd (Nat.lt_of_lt_of_le (x.lt q) e) (Nat.lt_irrefl _)
theorem HOk.kept(x:HOk P w H h)(k:∀ b u,h.get? b=some u->h'.get? b=some u):HOk P w H h':=fun a o e =>
 (x a o e).stay (fun b u _ q=>k b u q) (fun _ q=>q) fun _ _ q=>q
theorem HOk.laid(x:HOk P w H h)(k:∀ b u,h.get? b=some u->h'.get? b=some u)(hp:h.objs.size<=a)(new:ObjOk P w (upd H a o) h' a o):HOk P w (upd H a o) h':=fun b u e=>by
 have hn:=x.fresh hp
 by_cases hb:b=a
 ·subst hb;rw[upd_same] at e;cases e;exact new
 ·rw[upd_ne hb] at e
  exact(x b u e).stay (fun c v _ q=>k c v q) (fun c q=>by rw[upd_ne (ne_of_none q hn)];exact q) fun c xs q=>by rw[upd_ne (ne_of_none q hn)];exact q
end
def Rd(H:Hp)(a:Addr)(u:HO):Prop:=H a=some u\/∃ o,H a=some (.frz o u)
theorem Rd.ok{P:Program}{w:World}{H:Hp}{h:Heap}{a:Addr}{u:HO}(r:Rd H a u)(x:HOk P w H h):ObjOk P w H h a u:=by
 rcases r with r | ⟨o,r⟩
 ·exact x a u r
 ·obtain⟨_,q⟩:=x a _ r
  exact q
def Mut:Option HO->Prop
 | some (.lst _)=>True
 | some (.dK _)=>True
 | some (.dT _)=>True
 | some (.set _ _)=>True
 | some (.ins _ _ _)=>True
 | some (.ext _)=>True
 | _=>False
section
variable {P:Program} {w:World} {H:Hp} {h h':Heap} {x e:Addr} {o':HO}
theorem HOk.write(ok:HOk P w H h)(mu:Mut (H x))(he:e=x\/H e=some (.own x))(k:∀ b u,b≠e->h.get? b=some u->h'.get? b=some u)(heo:∃ u,h'.get? e=some u)
  (new:ObjOk P w (upd H x o') h' x o'):HOk P w (upd H x o') h':=fun b u q=>by
 have nown:∀ c y,H c=some (.own y)->c≠x:=fun c y r z=>by subst z;rw[r] at mu;exact mu
 have ntup:∀ c xs,H c=some (.tup xs)->c≠x:=fun c xs r z=>by subst z;rw[r] at mu;exact mu
 by_cases hb:b=x
 ·subst hb;rw[upd_same] at q;cases q;exact new
 ·rw[upd_ne hb] at q
  by_cases hbe:b=e
  ·have q':H b=some (.own x):=by
    rcases he with z | z
    ·exact absurd (hbe.trans z) hb
    ·rw[hbe];exact z
   rw[q] at q';cases q'
   obtain⟨v,hv⟩:=heo
   exact⟨v,by rw[hbe];exact hv⟩
  ·refine(ok b u q).stay (fun c v hc r=>k c v ?_ r) (fun c r=>by rw[upd_ne (nown c b r)];exact r) fun c xs r=>by rw[upd_ne (ntup c xs r)];exact r
   rcases hc with rfl | hc
   ·exact hbe
   ·rintro rfl
    rcases he with z | z
    ·exact nown c b hc z
    ·rw[hc] at z;cases z;exact hb rfl
end
structure Un (fs ex:List Addr) (H H':Hp) (h h':Heap):Prop where
 keep:∀ b o,h.get? b=some o->H b=none->b∉fs->b∉ex->h'.get? b=some o
 slot:∀ b o,h.get? b=some o->H b=none->b∈fs->b∉ex->∃ sl,h'.get? b=some { o with slots:=sl }
 free:∀ b o,h.get? b=some o->H b=none->b∉ex->H' b=none
 there:∀ b o,h.get? b=some o->b∉ex->∃ o',h'.get? b=some o'
 tups:∀ b xs,H b=some (.tup xs)->H' b=some (.tup xs)
 frzs:∀ b o u,H b=some (.frz o u)->H' b=some (.frz o u)
 tbls:∀ b ps,H b=some (.tbl ps)->∃ more,H' b=some (.tbl (ps++more))
section
variable {fs fs' ex ex':List Addr} {H H1 H2:Hp} {h h1 h2 h':Heap} {a x e:Addr} {o:HO}
theorem Un.any(u:Un fs ex H H1 h h1){b:Addr}{ob:Obj}(q:h.get? b=some ob)(n:H b=none)(hx:b∉ex):∃ sl,h1.get? b=some { ob with slots:=sl }:=by
 by_cases hb:b∈fs
 ·exact u.slot b ob q n hb hx
 ·exact⟨ob.slots,u.keep b ob q n hb hx⟩
theorem Un.trans(a:Un fs ex H H1 h h1)(b:Un fs ex H1 H2 h1 h2):Un fs ex H H2 h h2 where
 keep:=fun c ob q n hc hx=>b.keep c ob (a.keep c ob q n hc hx) (a.free c ob q n hx) hc hx
 slot:=fun c ob q n hc hx=>by
  obtain⟨sl,e1⟩:=a.slot c ob q n hc hx
  obtain⟨sl',e2⟩:=b.slot c _ e1 (a.free c ob q n hx) hc hx
  exact⟨sl',e2⟩
 free:=fun c ob q n hx=>by
  obtain⟨o',e1⟩:=a.there c ob q hx
  exact b.free c o' e1 (a.free c ob q n hx) hx
 there:=fun c ob q hx=>by
  obtain⟨o',e1⟩:=a.there c ob q hx
  exact b.there c o' e1 hx
 tups:=fun c xs q=>b.tups c xs (a.tups c xs q)
 frzs:=fun c ob xs q=>b.frzs c ob xs (a.frzs c ob xs q)
 tbls:=fun c ps q=>by
  obtain⟨m1,e1⟩:=a.tbls c ps q
  obtain⟨m2,e2⟩:=b.tbls c _ e1
  exact⟨m1++m2,by rw[e2,Array.append_assoc]⟩
theorem Un.kept(k:∀ b u,h.get? b=some u->h'.get? b=some u):Un fs ex H H h h' :=
 ⟨fun b ob q _ _ _=>k b ob q,fun b ob q _ _ _=>⟨ob.slots,k b ob q⟩,fun _ _ _ n _=>n,fun b ob q _=>⟨ob,k b ob q⟩,fun _ _ q=>q,fun _ _ _ q=>q,fun _ ps q=>⟨#[],by rw[q];simp⟩⟩
theorem Un.refl:Un fs ex H H h h:=Un.kept fun _ _ q=>q
theorem Un.laid(k:∀ b u,h.get? b=some u->h'.get? b=some u)(hp:h.objs.size<=a)(hn:H a=none):Un fs ex H (upd H a o) h h' where
 keep:=fun b u q _ _ _=>k b u q
 slot:=fun b u q _ _ _=>⟨u.slots,k b u q⟩
 free:=fun b u q n _=>by rw[upd_ne (Nat.ne_of_lt (Nat.lt_of_lt_of_le (Heap.lt_size q) hp))];exact n
 there:=fun b u q _=>⟨u,k b u q⟩
 tups:=fun b xs q=>by rw[upd_ne (ne_of_none q hn)];exact q
 frzs:=fun b u xs q=>by rw[upd_ne (ne_of_none q hn)];exact q
 tbls:=fun b ps q=>⟨#[],by rw[upd_ne (ne_of_none q hn),q];simp⟩
theorem Un.write(mu:Mut (H x))(he:e=x\/H e=some (.own x))(k:∀ b u,b≠e->h.get? b=some u->h'.get? b=some u)(heo:∃ u,h'.get? e=some u):Un fs ex H (upd H x o) h h':=by
  have hx:∀ b,H b=none->b≠x:=fun b n z=>by subst z;rw[n] at mu;exact mu
  have hb:∀ b,H b=none->b≠e:=fun b n z=>by
    subst z
    rcases he with r | r
    · exact hx b n r
    · rw[n] at r;cases r
  have hm:∀ b u,H b=some u->¬ Mut (some u)->b≠x:=fun b u q nm z=>by subst z;rw[q] at mu;exact nm mu
  refine⟨fun b u q n _ _=>k b u (hb b n) q,fun b u q n _ _=>⟨u.slots,k b u (hb b n) q⟩,fun b u q n _=>by rw[upd_ne (hx b n)];exact n,fun b u q _=>?_,
    fun b xs q=>by rw[upd_ne (hm b _ q fun z=>z)];exact q,fun b u xs q=>by rw[upd_ne (hm b _ q fun z=>z)];exact q,fun b ps q=>⟨#[],by rw[upd_ne (hm b _ q fun z=>z),q];simp⟩⟩
  by_cases hbe:b=e
  · subst hbe;exact heo
  · exact⟨u,k b u hbe q⟩
theorem Un.mono(u:Un fs ex H H1 h h1)(hs:∀ b∈fs,b∈fs')(hx:∀ b∈ex,b∈ex'):Un fs' ex' H H1 h h1 :=
 ⟨fun b ob q n hb he=>u.keep b ob q n (fun z=>hb (hs b z)) fun z=>he (hx b z),fun _ _ q n _ he=>u.any q n fun z=>he (hx _ z),fun b ob q n he=>u.free b ob q n fun z=>he (hx b z),fun b ob q he=>u.there b ob q fun z=>he (hx b z),u.tups,u.frzs,u.tbls⟩
end
def trk(h:Heap)(H:Hp):List Addr:=(List.range h.objs.size).filter fun a=>(H a).isSome
def hidT(h:Heap)(H:Hp):Heap:=PySem.W.hideAll h (trk h H)
theorem hidT_size(h:Heap)(H:Hp):(hidT h H).objs.size=h.objs.size:=PySem.W.hideAll_size _ _
theorem hidT_get{h:Heap}{H:Hp}{b:Addr}{o:Obj}(e:h.get? b=some o)(n:H b=none):(hidT h H).get? b=some o :=
 PySem.W.hideAll_get _ e fun hm=>by
  have q:(H b).isSome=true:=(List.mem_filter.mp hm).2
  rw[n] at q;simp at q
theorem of_hidT{h:Heap}{H:Hp}{b:Addr}{o:Obj}(e:(hidT h H).get? b=some o):h.get? b=some o/\H b=none:=by
  have e':h.get? b=some o:=PySem.W.of_hideAll (trk h H) e
  refine⟨e',?_⟩
  cases q:H b with
  | none=>rfl
  | some x =>
    have hm:b∈trk h H:=List.mem_filter.mpr ⟨List.mem_range.mpr (Heap.lt_size e'),by simp[q]⟩
    have z:(hidT h H).get? b=none:=PySem.W.hideAll_none (trk h H) hm
    rw[z] at e;cases e
def allNews(g h:Heap)(L:Addr):List (Addr×Obj):=(List.range h.objs.size).filterMap fun a=>if a=L\/(g.get? a).isSome=true then none else(h.get? a).map fun o=>(a,o)
def rest(g h:Heap)(L d:Addr):List (Addr×Obj):=(allNews g h L).filter fun p=>decide (p.1≠d)
end L2
namespace L2
open PySem PySem.Spec PyProof.Rows
structure Mod (K:PySem.W.Frag) (mg:Str->Option Value) (base:Heap):Prop where
 kin:K.In base
 glob:base.Ns mainGlobals mg
 blt:∃ mb,base.Ns builtinsNs mb/\∀ x:Str,x≠"__name__"->mb x=bootBuiltins x
 nolimit:base.NoLimit
structure Cx where
 prog:Program
 w:World
 K:PySem.W.Frag
 mg:Str->Option Value
 base:Heap
 A:Around
 N:List Str
 s₀:Shared
 H₀:Hp
 env:Env
 outer:List Env
 stack:List Env
 ex:List Addr
 fn:Str->Bool
 calm:Bool
 pn:List (Addr×Obj)
 xe:Value->Shared->Prop
def frs(l:List Env):List Addr:=l.filterMap (·.frame)
abbrev Cx.fs(X:Cx):List Addr:=frs X.outer
def Vis(sc:Scope)(x:Str):Prop:=sc.names.lookup x=some .local\/sc.names.lookup x=some .cell\/sc.names.lookup x=some .free
def Loc(sc:Scope)(x:Str):Prop:=sc.names.lookup x=some .local\/sc.names.lookup x=some .cell
def Look(env:Env)(h:Heap)(m:Str->Option Value)(x:Str)(u:Value):Prop :=
 (env.kindOf x=some .local/\m x=some u)\/((env.kindOf x=some .cell\/env.kindOf x=some .free)/\∃ c,env.cells.lookup x=some c/\h.IsCell c (some u))
structure Cx.Ok (X:Cx):Prop where
 mod:Mod X.K X.mg X.base
 kind:X.env.scope.kind=.function
 glob:X.env.globals=mainGlobals
 blt:X.env.builtins=builtinsNs
 above:X.s₀.heap.objs.size<=X.env.locals
 inj:∀ x y c,X.env.cells.lookup x=some c->X.env.cells.lookup y=some c->x=y
 has:∀ x,(X.env.kindOf x=some .cell\/X.env.kindOf x=some .free)->∃ c,X.env.cells.lookup x=some c
 cab:∀ x c,X.fn x=true->X.env.cells.lookup x=some c->X.s₀.heap.objs.size<=c
 hd:X.calm=true->X.A.handled=none
 frames:X.A.frames=some X.stack
 stk:X.stack=X.outer\/(X.stack=X.env::X.outer/\X.env.frame=some X.env.locals)
 exf:∀ b∈X.ex,b≠X.env.locals/\∀ x c,X.env.cells.lookup x=some c->c≠b
 bs:∀ b o,X.base.get? b=some o->X.s₀.heap.get? b=some o/\X.H₀ b=none
 bsz:X.base.objs.size<=X.s₀.heap.objs.size
 noex:∀ b o,X.base.get? b=some o->b∉X.ex
 exfs:∀ b∈X.ex,b∉X.fs
 funs:X.s₀.heap.FunFrames X.base X.outer
 frf:∀ b∈X.fs,X.H₀ b=none
structure Inv (X:Cx) (pins:List (Addr×Obj)) (σ:List (Option V)) (H:Hp) (s:Shared):Prop where
 ok:X.Ok
 os:s.os=X.s₀.os
 bare:AllBare s.gens
 base:Un X.fs X.ex X.H₀ H X.s₀.heap s.heap
 loc:∃ m,s.heap.Ns X.env.locals m/\∀ (i:Nat) (x:Str) (v:V),X.N[i]?=some x->σ[i]?=some (some v)->Vis X.env.scope x->∃ u,RelV v u/\Look X.env s.heap m x u
 cell:∀ x c,X.env.cells.lookup x=some c->∃ v,s.heap.IsCell c v
 free:H X.env.locals=none
 freeC:∀ x c,X.env.cells.lookup x=some c->H c=none
 pin:∀ p∈X.pn++pins,s.heap.get? p.1=some p.2/\H p.1=none/\p.1≠X.env.locals/\p.1∉X.fs/\∀ v,p.2.data≠.cell v
 hok:HOk X.prog X.w H s.heap
 len:σ.length=X.N.length
section
variable {X:Cx} {pins:List (Addr×Obj)} {σ:List (Option V)} {H H':Hp} {s:Shared} {h':Heap}
theorem Cx.Ok.nofr(ok:X.Ok){b:Addr}{o:Obj}(e:X.base.get? b=some o):b∉X.fs:=fun hb=>by
 have:=(ok.funs.mem hb).1
 rw[e] at this;cases this
theorem Inv.bs(I:Inv X pins σ H s):∀ b o,X.base.get? b=some o->s.heap.get? b=some o/\H b=none:=fun b o e =>
 ⟨I.base.keep b o (I.ok.bs b o e).1 (I.ok.bs b o e).2 (I.ok.nofr e) (I.ok.noex b o e),I.base.free b o (I.ok.bs b o e).1 (I.ok.bs b o e).2 (I.ok.noex b o e)⟩
theorem Inv.bk(I:Inv X pins σ H s):∀ b o,X.base.get? b=some o->s.heap.get? b=some o:=fun b o e=>(I.bs b o e).1
theorem Inv.mod(I:Inv X pins σ H s):Mod X.K X.mg X.base:=I.ok.mod
theorem Inv.kIn(I:Inv X pins σ H s):X.K.In s.heap:=I.ok.mod.kin.keeps I.bk
theorem Inv.lt(I:Inv X pins σ H s):X.env.locals<s.heap.objs.size:=let ⟨_,hn,_⟩:=I.loc;hn.lt
theorem Inv.sz(I:Inv X pins σ H s):X.s₀.heap.objs.size<=s.heap.objs.size:=Nat.le_trans I.ok.above (Nat.le_of_lt I.lt)
theorem Inv.nofs(I:Inv X pins σ H s){a:Addr}(h:s.heap.objs.size<=a):a∉X.fs:=fun hb=>by
 obtain⟨_,o,ho,_⟩:=I.ok.funs.mem hb
 exact absurd (Nat.lt_of_lt_of_le (Heap.lt_size ho) (Nat.le_trans I.sz h)) (Nat.lt_irrefl _)
theorem Inv.cne(I:Inv X pins σ H s):∀ x c,X.env.cells.lookup x=some c->c≠X.env.locals:=fun x c e z=>by
 obtain⟨v,o,ho,hd⟩:=I.cell x c e
 obtain⟨m,⟨o',es,ep,ho',hd',_⟩,_⟩:=I.loc
 rw[z,ho'] at ho;cases ho;rw[hd'] at hd;cases hd
theorem Inv.funs(I:Inv X pins σ H s):s.heap.FunFrames X.base X.outer:=by
  have all:∀ (l:List Env),(∀ b∈frs l,b∈X.fs)->X.s₀.heap.FunFrames X.base l->s.heap.FunFrames X.base l:=by
    intro l
    induction l with
    | nil=>intro _ _;trivial
    | cons env r ih =>
      intro hs hl
      obtain⟨hk,⟨L,o,hf,hn,ho,hd⟩,hr⟩:=hl
      have hL:L∈X.fs:=hs L (by unfold frs;rw[List.filterMap_cons,hf];exact List.mem_cons_self)
      obtain⟨sl,e⟩:=I.base.slot L o ho (I.ok.frf L hL) hL fun z=>I.ok.exfs L z hL
      exact⟨hk,⟨L,_,hf,hn,e,hd⟩,ih (fun b hb=>hs b (by unfold frs;rw[List.filterMap_cons,hf];exact List.mem_cons_of_mem _ hb)) hr⟩
  exact all X.outer (fun _ hb=>hb) I.ok.funs
theorem Inv.stack(I:Inv X pins σ H s):s.heap.FunFrames X.base X.stack:=by
 rcases I.ok.stk with e | ⟨e,hf⟩
 ·rw[e];exact I.funs
 ·rw[e]
  obtain⟨m,hn,_⟩:=I.loc
  refine .cons (by rw[I.ok.kind];decide) hf hn ?_ I.funs
  exact Heap.get?_none_of_le (Nat.le_trans I.ok.bsz I.ok.above)
theorem Inv.stkSub(I:Inv X pins σ H s):∀ b∈frs X.stack,b∈X.env.locals::X.fs:=fun b hb=>by
 rcases I.ok.stk with e | ⟨e,hf⟩
 ·rw[e] at hb;exact List.mem_cons_of_mem _ hb
 ·rw[e] at hb
  unfold frs at hb
  rw[List.filterMap_cons,hf] at hb
  exact hb
theorem Inv.stkFree(I:Inv X pins σ H s):∀ b∈frs X.stack,H b=none:=fun b hb=>by
 rcases List.mem_cons.mp (I.stkSub b hb) with e | hb
 ·rw[e];exact I.free
 ·obtain⟨_,o,ho,_⟩:=I.ok.funs.mem hb
  exact I.base.free b o ho (I.ok.frf b hb) fun z=>I.ok.exfs b z hb
theorem Inv.step{g':Array GenState}{t':Nat}{d':Drawn}{ch:List Addr}(I:Inv X pins σ H s)
  (hch:∀ b∈ch,(b∈X.ex\/X.s₀.heap.objs.size<=b)/\b≠X.env.locals/\(∀ x c,X.env.cells.lookup x=some c->c≠b)/\∀ p∈X.pn++pins,p.1≠b)
  (keep:∀ b o,b≠X.env.locals->b∉X.fs->b∉ch->s.heap.get? b=some o->H b=none->h'.get? b=some o)
  (slot:∀ b o,b≠X.env.locals->b∈X.fs->b∉ch->s.heap.get? b=some o->H b=none->∃ sl,h'.get? b=some { o with slots:=sl }) (free:∀ b o,b∉ch->s.heap.get? b=some o->H b=none->H' b=none)
  (there:∀ b o,b∉ch->s.heap.get? b=some o->∃ o',h'.get? b=some o')
  (tups:∀ b xs,H b=some (.tup xs)->H' b=some (.tup xs)) (frzs:∀ b o u,H b=some (.frz o u)->H' b=some (.frz o u)) (tbls:∀ b ps,H b=some (.tbl ps)->∃ more,H' b=some (.tbl (ps++more)))
  (ns:∀ m,s.heap.Ns X.env.locals m->h'.Ns X.env.locals m) (hok:HOk X.prog X.w H' h') (hg:AllBare g') :
  Inv X pins σ H' { s with heap:=h',gens:=g',drawn:=d',toks:=t' }:=by
 have neL:∀ b o,X.s₀.heap.get? b=some o->b≠X.env.locals:=fun b o e=>Nat.ne_of_lt (Nat.lt_of_lt_of_le (Heap.lt_size e) I.ok.above)
 have neC:∀ b o,X.s₀.heap.get? b=some o->b∉X.ex->b∉ch:=fun b o e hx hb=>by
  rcases(hch b hb).1 with z | z
  ·exact hx z
  ·exact absurd (Nat.lt_of_lt_of_le (Heap.lt_size e) z) (Nat.lt_irrefl _)
 have cellK:∀ x c,X.env.cells.lookup x=some c->∀ v,s.heap.IsCell c v->h'.IsCell c v:=fun x c e v ⟨o,ho,hd⟩=>by
  have nch:c∉ch:=fun z=>(hch c z).2.2.1 x c e rfl
  by_cases hc:c∈X.fs
  ·obtain⟨sl,q⟩:=slot c o (I.cne x c e) hc nch ho (I.freeC x c e)
   exact⟨_,q,hd⟩
  ·exact⟨o,keep c o (I.cne x c e) hc nch ho (I.freeC x c e),hd⟩
 refine⟨I.ok,I.os,hg,⟨fun b o e n hb hx=>?_,fun b o e n hb hx=>?_,fun b o e n hx=>?_,fun b o e hx=>?_,fun b xs e=>tups b xs (I.base.tups b xs e),fun b o xs e=>frzs b o xs (I.base.frzs b o xs e),fun b ps e=>?_⟩,?_,fun x c e=>?_,?_,fun x c e=>?_,fun p hp=>?_,hok,I.len⟩
 ·exact keep b o (neL b o e) hb (neC b o e hx) (I.base.keep b o e n hb hx) (I.base.free b o e n hx)
 ·obtain⟨sl,e1⟩:=I.base.slot b o e n hb hx
  obtain⟨sl',e2⟩:=slot b _ (neL b o e) hb (neC b o e hx) e1 (I.base.free b o e n hx)
  exact⟨sl',e2⟩
 ·obtain⟨o',e1⟩:=I.base.there b o e hx
  exact free b o' (neC b o e hx) e1 (I.base.free b o e n hx)
 ·obtain⟨o',e1⟩:=I.base.there b o e hx
  exact there b o' (neC b o e hx) e1
 ·obtain⟨m1,e1⟩:=I.base.tbls b ps e
  obtain⟨m2,e2⟩:=tbls b _ e1
  exact⟨m1++m2,by rw[e2,Array.append_assoc]⟩
 ·obtain⟨m,hn,hl⟩:=I.loc
  refine⟨m,ns m hn,fun i x v e1 e2 e3=>?_⟩
  obtain⟨u,r,l⟩:=hl i x v e1 e2 e3
  refine⟨u,r,?_⟩
  rcases l with l | ⟨k,c,e,z⟩
  ·exact .inl l
  ·exact .inr ⟨k,c,e,cellK x c e _ z⟩
 ·obtain⟨v,z⟩:=I.cell x c e
  exact⟨v,cellK x c e v z⟩
 ·obtain⟨m,⟨o,_,_,ho,_⟩,_⟩:=I.loc
  exact free _ o (fun z=>(hch _ z).2.1 rfl) ho I.free
 ·obtain⟨v,o,ho,hd⟩:=I.cell x c e
  exact free c o (fun z=>(hch c z).2.2.1 x c e rfl) ho (I.freeC x c e)
 ·obtain⟨e,n,ne,nf,d⟩:=I.pin p hp
  have nch:p.1∉ch:=fun z=>(hch p.1 z).2.2.2 p hp rfl
  exact⟨keep p.1 p.2 ne nf nch e n,free p.1 p.2 nch e n,ne,nf,d⟩
theorem Inv.un{t':Nat}(I:Inv X pins σ H s)(u:Un X.fs [] H H' s.heap h')(hok:HOk X.prog X.w H' h'):Inv X pins σ H' { s with heap:=h',toks:=t' }:=by
  obtain⟨m,⟨o,es,ep,ho,r⟩,_⟩:=id I.loc
  obtain⟨sl,hL⟩:=u.any ho I.free (by simp)
  exact I.step (g':=s.gens) (d':=s.drawn) (ch:=[]) (fun _ z=>nomatch z) (fun b o _ hb _ e n=>u.keep b o e n hb (by simp)) (fun b o _ hb _ e n=>u.slot b o e n hb (by simp)) (fun b o _ e n=>u.free b o e n (by simp)) (fun b o _ e=>u.there b o e (by simp)) u.tups u.frzs u.tbls (fun m' hm=>by
    obtain⟨o',es',ep',ho',r'⟩:=hm
    rw[ho] at ho';cases ho'
    exact⟨_,es',ep',hL,r'⟩) hok I.bare
theorem Inv.call{g':Array GenState}{t':Nat}{d':Drawn}{ch:List Addr}(I:Inv X pins σ H s)(u:Un (frs X.stack) ch H H' s.heap h')(hok:HOk X.prog X.w H' h')(hg:AllBare g')
    (hch:∀ b∈ch,(b∈X.ex\/X.s₀.heap.objs.size<=b)/\b≠X.env.locals/\(∀ x c,X.env.cells.lookup x=some c->c≠b)/\∀ p∈X.pn++pins,p.1≠b) :
    Inv X pins σ H' { s with heap:=h',gens:=g',drawn:=d',toks:=t' }:=by
  obtain⟨m,⟨o,es,ep,ho,r⟩,_⟩:=id I.loc
  obtain⟨sl,hL⟩:=u.any ho I.free fun z=>(hch _ z).2.1 rfl
  exact I.step (ch:=ch) hch (fun b o hL hb hc e n=>u.keep b o e n (fun z=>(List.mem_cons.mp (I.stkSub b z)).elim hL hb) hc) (fun b o _ _ hc e n=>u.any e n hc) (fun b o hc e n=>u.free b o e n hc) (fun b o hc e=>u.there b o e hc) u.tups u.frzs u.tbls (fun m' hm=>by
    obtain⟨o',es',ep',ho',r'⟩:=hm
    rw[ho] at ho';cases ho'
    exact⟨_,es',ep',hL,r'⟩) hok hg
theorem Inv.turned{t':Nat}{it:Addr}(I:Inv X pins σ H s)(k:∀ b o,b≠it->s.heap.get? b=some o->h'.get? b=some o)(hn:H it=none)(hL:it≠X.env.locals)
  (h1:it∈X.ex\/X.s₀.heap.objs.size<=it) (h2:∀ x c,X.env.cells.lookup x=some c->c≠it) (h3:∀ p∈X.pn++pins,p.1≠it):Inv X pins σ H { s with heap:=h',toks:=t' }:=by
 have nit:∀ b u,H b=some u->b≠it:=fun b u e z=>by rw[z,hn] at e;cases e
 refine I.step (g':=s.gens) (d':=s.drawn) (ch:=[it]) (fun b hb=>?_) (fun b o _ _ hc e _=>k b o (fun z=>hc (by simp[z])) e) (fun b o _ _ hc e _=>⟨o.slots,k b o (fun z=>hc (by simp[z])) e⟩) (fun _ _ _ _ n=>n)
  (fun b o hc e=>⟨o,k b o (fun z=>hc (by simp[z])) e⟩) (fun _ _ e=>e) (fun _ _ _ e=>e) (fun b ps e=>⟨#[],by rw[e];simp⟩) (fun m hm=>?_) (fun b u e=>?_) I.bare
 ·have e:b=it:=by simpa using hb
  subst e
  exact⟨h1,hL,h2,h3⟩
 ·obtain⟨o,es,ep,ho,r⟩:=hm
  exact⟨o,es,ep,k _ o (Ne.symm hL) ho,r⟩
 ·refine(I.hok b u e).stay (fun c v hc q=>k c v ?_ q) (fun _ q=>q) fun _ _ q=>q
  rcases hc with z | z
  ·rw[z];exact nit b u e
  ·exact nit c _ z
theorem Inv.tok(I:Inv X pins σ H s)(t:Nat):Inv X pins σ H { s with toks:=t }:=I.un (h':=s.heap) (t':=t) Un.refl I.hok
theorem Inv.kept{t':Nat}(I:Inv X pins σ H s)(k:∀ b u,s.heap.get? b=some u->h'.get? b=some u):Inv X pins σ H { s with heap:=h',toks:=t' }:=I.un (Un.kept k) (I.hok.kept k)
theorem Inv.laid{a:Addr}{o:HO}{t':Nat}(I:Inv X pins σ H s)(k:∀ b u,s.heap.get? b=some u->h'.get? b=some u)(hp:s.heap.objs.size<=a)(new:ObjOk X.prog X.w (upd H a o) h' a o) :
  Inv X pins σ (upd H a o) { s with heap:=h',toks:=t' }:=I.un (Un.laid k hp (I.hok.fresh hp)) (I.hok.laid k hp new)
theorem Inv.write{x e:Addr}{o:HO}{t':Nat}(I:Inv X pins σ H s)(mu:Mut (H x))(he:e=x\/H e=some (.own x))(k:∀ b u,b≠e->s.heap.get? b=some u->h'.get? b=some u)(heo:∃ u,h'.get? e=some u)
  (new:ObjOk X.prog X.w (upd H x o) h' x o):Inv X pins σ (upd H x o) { s with heap:=h',toks:=t' }:=I.un (Un.write mu he k heo) (I.hok.write mu he k heo new)
theorem Inv.pins_of{pins':List (Addr×Obj)}(I:Inv X pins σ H s)(h:∀ p∈pins',s.heap.get? p.1=some p.2/\H p.1=none/\p.1≠X.env.locals/\p.1∉X.fs/\∀ v,p.2.data≠.cell v):Inv X pins' σ H s :=
 ⟨I.ok,I.os,I.bare,I.base,I.loc,I.cell,I.free,I.freeC,fun p hp=>(List.mem_append.mp hp).elim (fun z=>I.pin p (List.mem_append_left _ z)) (h p),I.hok,I.len⟩
theorem nodup_ix{N:List Str}(hN:N.Nodup){i j:Nat}{x:Str}(a:N[i]?=some x)(b:N[j]?=some x):i=j:=by
 obtain⟨h1,e1⟩:=List.getElem?_eq_some_iff.mp a
 obtain⟨h2,e2⟩:=List.getElem?_eq_some_iff.mp b
 exact(List.getElem_inj hN).mp (e1.trans e2.symm)
theorem store_ok2{M:Model}{A:Around}{E:Value->Shared->Prop}{i:Nat}{x:Str}{v:V}{u:Value}{Q:Unit->Shared->Prop}(I:Inv X pins σ H s)(hN:X.N.Nodup)(hi:X.N[i]?=some x)(hx:Loc X.env.scope x)(r:RelV v u)
  (h:∀ s',Inv X pins (σ.set i (some v)) H s'->(∃ a,Heap.SameBut a s.heap s'.heap/\(a=X.env.locals\/X.env.cells.lookup x=some a))->Q () s') (hf:X.fn x=true\/X.env.scope.names.lookup x=some .local:=by first | exact .inl rfl | exact .inr rfl | assumption):wpAny M A (storeName X.env x u) Q E s:=by
 obtain⟨m,hn,hl⟩:=id I.loc
 have hcls:(X.env.scope.kind==.class||(X.env.scope.kind==.module&&X.env.locals !=X.env.globals))=false:=by rw[I.ok.kind];rfl
 have hiσ:i<σ.length:=by rw[I.len];exact(List.getElem?_eq_some_iff.mp hi).1
 have cne:=I.cne
 have tracked:∀ {a:Addr} {h':Heap},(∃ o,s.heap.get? a=some o/\H a=none)->Heap.SameBut a s.heap h'->HOk X.prog X.w H h':=fun {a h'} ha hs b ob e=>by
  obtain⟨_,_,hfree⟩:=ha
  refine(I.hok b ob e).stay (fun c w' hc q=>(hs.2 c ?_).trans q) (fun _ q=>q) fun _ _ q=>q
  rintro rfl
  rcases hc with rfl | hc
  ·rw[hfree] at e;cases e
  ·rw[hfree] at hc;cases hc
 rcases hx with hk | hk
 ·refine wpAny_storeName_local hk hn (fun h' hn' hs=>?_) hcls
  obtain⟨oL,_,_,hoL,_⟩:=id hn
  refine h _ ⟨I.ok,I.os,I.bare,⟨fun b o e n hb hx=>?_,fun b o e n hb hx=>?_,I.base.free,fun b o e hx=>?_,I.base.tups,I.base.frzs,I.base.tbls⟩,⟨_,hn',fun j y v' e1 e2 e3=>?_⟩,fun y c e=>?_,I.free,I.freeC,fun p hp=>?_,tracked ⟨oL,hoL,I.free⟩ hs,by simpa using I.len⟩ ⟨_,hs,.inl rfl⟩
  ·exact(hs.2 b (Nat.ne_of_lt (Nat.lt_of_lt_of_le (Heap.lt_size e) I.ok.above))).trans (I.base.keep b o e n hb hx)
  ·obtain⟨sl,e1⟩:=I.base.slot b o e n hb hx
   exact⟨sl,(hs.2 b (Nat.ne_of_lt (Nat.lt_of_lt_of_le (Heap.lt_size e) I.ok.above))).trans e1⟩
  ·obtain⟨o',e1⟩:=I.base.there b o e hx
   exact⟨o',(hs.2 b (Nat.ne_of_lt (Nat.lt_of_lt_of_le (Heap.lt_size e) I.ok.above))).trans e1⟩
  ·by_cases hj:j=i
   ·subst hj
    rw[hi] at e1;cases e1
    rw[List.getElem?_set_self hiσ] at e2
    cases e2
    exact⟨u,r,.inl ⟨hk,by simp⟩⟩
   ·rw[List.getElem?_set_ne (Ne.symm hj)] at e2
    obtain⟨u',r',q⟩:=hl j y v' e1 e2 e3
    refine⟨u',r',?_⟩
    rcases q with⟨k,e⟩ | ⟨k,c,e,z⟩
    ·refine .inl ⟨k,?_⟩
     have:y≠x:=fun e=>hj (nodup_ix hN e1 (e▸hi))
     simp[this,e]
    ·exact .inr ⟨k,c,e,z.sameBut hs (cne y c e)⟩
  ·obtain⟨w',z⟩:=I.cell y c e
   exact⟨w',z.sameBut hs (cne y c e)⟩
  ·obtain⟨e,n,ne,nf,d⟩:=I.pin p hp
   exact⟨(hs.2 p.1 ne).trans e,n,ne,nf,d⟩
 ·have hfn:X.fn x=true:=by
   rcases hf with z | z
   ·exact z
   ·rw[z] at hk;cases hk
  obtain⟨c,hc⟩:=I.ok.has x (.inl hk)
  obtain⟨w',z⟩:=I.cell x c hc
  refine wpAny_storeName_cell I.ok.kind hk hc z (fun h' hc' hs=>?_)
  obtain⟨oc,hoc,hocd⟩:=id z
  refine h { s with heap:=h' } ⟨I.ok,I.os,I.bare,⟨fun b o e n hb hx=>?_,fun b o e n hb hx=>?_,I.base.free,fun b o e hx=>?_,I.base.tups,I.base.frzs,I.base.tbls⟩,⟨m,hn.sameBut hs (Ne.symm (cne x c hc)),fun j y v' e1 e2 e3=>?_⟩,fun y c' e=>?_,I.free,I.freeC,fun p hp=>?_,tracked ⟨oc,hoc,I.freeC x c hc⟩ hs,by simpa using I.len⟩ ⟨c,hs,.inr hc⟩
  ·exact(hs.2 b (Nat.ne_of_lt (Nat.lt_of_lt_of_le (Heap.lt_size e) (I.ok.cab x c hfn hc)))).trans (I.base.keep b o e n hb hx)
  ·obtain⟨sl,e1⟩:=I.base.slot b o e n hb hx
   exact⟨sl,(hs.2 b (Nat.ne_of_lt (Nat.lt_of_lt_of_le (Heap.lt_size e) (I.ok.cab x c hfn hc)))).trans e1⟩
  ·obtain⟨o',e1⟩:=I.base.there b o e hx
   exact⟨o',(hs.2 b (Nat.ne_of_lt (Nat.lt_of_lt_of_le (Heap.lt_size e) (I.ok.cab x c hfn hc)))).trans e1⟩
  ·by_cases hj:j=i
   ·subst hj
    rw[hi] at e1;cases e1
    rw[List.getElem?_set_self hiσ] at e2
    cases e2
    exact⟨u,r,.inr ⟨.inl hk,c,hc,hc'⟩⟩
   ·rw[List.getElem?_set_ne (Ne.symm hj)] at e2
    obtain⟨u',r',q⟩:=hl j y v' e1 e2 e3
    refine⟨u',r',?_⟩
    rcases q with q | ⟨k,c',e,z'⟩
    ·exact .inl q
    ·refine .inr ⟨k,c',e,z'.sameBut hs ?_⟩
     rintro rfl
     exact hj (nodup_ix hN e1 (I.ok.inj _ _ _ e hc▸hi))
  ·by_cases hcc:c'=c
   ·subst hcc;exact⟨_,hc'⟩
   ·obtain⟨w2,z2⟩:=I.cell y c' e
    exact⟨w2,z2.sameBut hs hcc⟩
  ·obtain⟨e,n,ne,nf,d⟩:=I.pin p hp
   refine⟨(hs.2 p.1 ?_).trans e,n,ne,nf,d⟩
   intro q
   rw[q,hoc] at e
   have q':oc=p.2:=Option.some.inj e
   exact d w' (by rw[<- q'];exact hocd)
theorem store_ok{M:Model}{A:Around}{E:Value->Shared->Prop}{i:Nat}{x:Str}{v:V}{u:Value}{Q:Unit->Shared->Prop}(I:Inv X pins σ H s)(hN:X.N.Nodup)(hi:X.N[i]?=some x)(hx:Loc X.env.scope x)(r:RelV v u)
  (h:∀ s',Inv X pins (σ.set i (some v)) H s'->Q () s') (hf:X.fn x=true\/X.env.scope.names.lookup x=some .local:=by first | exact .inl rfl | exact .inr rfl | assumption):wpAny M A (storeName X.env x u) Q E s :=
 store_ok2 I hN hi hx r (fun s' I' _=>h s' I') hf
theorem Inv.call'{s':Shared}{ch:List Addr}(I:Inv X pins σ H s)(ho:s'.os=s.os)(u:Un (frs X.stack) ch H H' s.heap s'.heap)(hok:HOk X.prog X.w H' s'.heap)(hg:AllBare s'.gens)
  (hch:∀ b∈ch,(b∈X.ex\/X.s₀.heap.objs.size<=b)/\b≠X.env.locals/\(∀ x c,X.env.cells.lookup x=some c->c≠b)/\∀ p∈X.pn++pins,p.1≠b):Inv X pins σ H' s':=by
 obtain⟨h',g',d',t',o'⟩:=s'
 have e:o'=s.os:=ho
 subst e
 exact I.call (g':=g') (t':=t') (d':=d') u hok hg hch
end
abbrev XK:=Value->Option Addr->Hp->Prop
abbrev St:=List (Option V)
abbrev VK:=V->Hp->Prop
abbrev TE:=St->Hp->VK->Prop
abbrev TT:=St->Hp->(Bool->Hp->Prop)->Prop
abbrev TA:=St->Hp->(List V->Hp->Prop)->Prop
structure Ends where
 nx:St->Hp->Prop
 rt:VK
 bk:St->Hp->Prop:=fun _ _=>False
 ct:St->Hp->Prop:=fun _ _=>False
abbrev TS:=Ends->St->Hp->Prop
def EP(X:Cx)(pins:List (Addr×Obj))(σ:St)(Q:VK)(u:Value)(s':Shared):Prop:=∃ v H',Inv X pins σ H' s'/\RelV v u/\Q v H'
def TP(X:Cx)(pins:List (Addr×Obj))(σ:St)(Q:Bool->Hp->Prop)(b:Bool)(s':Shared):Prop:=∃ H',Inv X pins σ H' s'/\Q b H'
def AP(X:Cx)(pins:List (Addr×Obj))(σ:St)(Q:List V->Hp->Prop)(us:List Value)(s':Shared):Prop:=∃ vs H',Inv X pins σ H' s'/\Vals vs us/\Q vs H'
def SP(X:Cx)(pins:List (Addr×Obj))(D:Ends)(f:Flow)(s':Shared):Prop :=
 match f with
 | .next=>∃ σ' H',Inv X pins σ' H' s'/\D.nx σ' H'
 | .brk=>∃ σ' H',Inv X pins σ' H' s'/\D.bk σ' H'
 | .cont=>∃ σ' H',Inv X pins σ' H' s'/\D.ct σ' H'
 | .ret u=>∃ v σ' H',Inv X pins σ' H' s'/\RelV v u/\D.rt v H'
def PE(X:Cx)(e:Expr)(t:TE):Prop :=
 ∀ (pins:List (Addr×Obj)) (s:Shared) (σ:St) (H:Hp) (Q:VK),Inv X pins σ H s->t σ H Q->wpAny (model X.prog X.w) X.A (eval e X.env) (EP X pins σ Q) X.xe s
def PT(X:Cx)(e:Expr)(t:TT):Prop :=
 ∀ (pins:List (Addr×Obj)) (s:Shared) (σ:St) (H:Hp) (Q:Bool->Hp->Prop),Inv X pins σ H s->t σ H Q->wpAny (model X.prog X.w) X.A (isTrue e X.env (eval e X.env)) (TP X pins σ Q) X.xe s
def PW(X:Cx)(e:Expr)(t:TT):Prop :=
 ∀ (whole:Sem Value) (pins:List (Addr×Obj)) (s:Shared) (σ:St) (H:Hp) (Q:Bool->Hp->Prop),Inv X pins σ H s->t σ H Q->wpAny (model X.prog X.w) X.A (isTrue e X.env whole) (TP X pins σ Q) X.xe s
def PA(X:Cx)(es:List Expr)(t:TA):Prop :=
 ∀ (pos:Pos) (pins:List (Addr×Obj)) (s:Shared) (σ:St) (H:Hp) (Q:List V->Hp->Prop),Inv X pins σ H s->t σ H Q->wpAny (model X.prog X.w) X.A (spliced (backTo pos (starEach es X.env))) (AP X pins σ Q) X.xe s
def PS(X:Cx)(st:Stmt)(t:TS):Prop :=
 ∀ (pins:List (Addr×Obj)) (s:Shared) (σ:St) (H:Hp) (D:Ends),Inv X pins σ H s->t D σ H->wpAny (model X.prog X.w) X.A (exec st X.env) (SP X pins D) X.xe s
def PSs(X:Cx)(st:List Stmt)(t:TS):Prop :=
 ∀ (pins:List (Addr×Obj)) (s:Shared) (σ:St) (H:Hp) (D:Ends),Inv X pins σ H s->t D σ H->wpAny (model X.prog X.w) X.A (execs st X.env) (SP X pins D) X.xe s
theorem thn{α:Type}{t:Sem α}{Q Q':α->Shared->Prop}{M:Model}{A:Around}{E:Value->Shared->Prop}{s:Shared}(h:wpAny M A t Q E s)(hQ:∀ a s,Q a s->Q' a s):wpAny M A t Q' E s:=wpAny_mono h hQ fun _ _ x=>x
end L2
namespace L2
open PySem PySem.Spec PyProof.Rows
section
variable {X:Cx}
def tVar(i:Nat):TE:=fun σ H Q=>∃ v,σ[i]?=some (some v)/\Q v H
def tC(v:V):TE:=fun _ H Q=>Q v H
theorem pe_var{i:Nat}{x:Str}{pos:Pos}(hN:X.N[i]?=some x)(hv:Vis X.env.scope x)(hd:(x==("__debug__":Str))=false:=by decide)(hcd:(x==("__classdict__":Str))=false:=by decide):PE X (.Name x pos) (tVar i):=by
 intro pins s σ H Q I h
 obtain⟨v,e,h⟩:=h
 obtain⟨m,hn,hl⟩:=I.loc
 obtain⟨u,r,l⟩:=hl i x v hN e hv
 have fin:EP X pins σ Q u s:=⟨v,H,I,r,h⟩
 rcases l with⟨hk,hm⟩ | ⟨hk,c,hc,hcell⟩
 ·exact wpAny_Name (wpAny_loadName_local I.ok.kind hk hn hm fin) hd
 ·rcases hk with hk | hk
  ·exact wpAny_Name (wpAny_loadName_cell I.ok.kind hk hc hcell fin) hd
  ·exact wpAny_Name (wpAny_loadName_free I.ok.kind hk hc hcell fin hcd) hd
theorem pe_int{i j pos}:PE X (.Constant (.int i) j pos) (tC (.int i)):=fun _ _ _ H _ I h=>wpAny_Constant_int ⟨.int i,H,I.tok _,⟨_,rfl⟩,h⟩
theorem pe_bl{b j pos}:PE X (.Constant (.bool b) j pos) (tC (.bl b)):=fun _ _ _ H _ I h=>Constant_bool ⟨.bl b,H,I,rfl,h⟩
theorem pe_non{j pos}:PE X (.Constant .none j pos) (tC .non):=fun _ _ _ H _ I h=>Constant_none ⟨.non,H,I,rfl,h⟩
theorem pe_str{x j pos}:PE X (.Constant (.str x) j pos) (tC (.str x)):=fun _ _ _ H _ I h=>Calls.Constant_str ⟨.str x,H,I.tok _,⟨_,rfl⟩,h⟩
def Gl(X:Cx)(x:Str):Prop:=X.env.kindOf x=some .globalImplicit
theorem ld_glob{E:Value->Shared->Prop}{pins:List (Addr×Obj)}{s:Shared}{σ:St}{H:Hp}{x:Str}{u:Value}{pos:Pos}{Q:Value->Shared->Prop}(I:Inv X pins σ H s)(hg:Gl X x)(hm:X.mg x=some u)(h:Q u s)
  (hd:(x==("__debug__":Str))=false:=by decide):wpAny (model X.prog X.w) X.A (eval (.Name x pos) X.env) Q E s :=
 Calls.Name_function_global I.ok.kind hg (Calls.loadGlobal_global (by rw[I.ok.glob];exact I.mod.glob.keeps I.bk) hm h) hd
theorem ld_blt{E:Value->Shared->Prop}{pins:List (Addr×Obj)}{s:Shared}{σ:St}{H:Hp}{x:Str}{u:Value}{pos:Pos}{Q:Value->Shared->Prop}(I:Inv X pins σ H s)(hg:Gl X x)(hm:X.mg x=none)(hv:bootBuiltins x=some u)(h:Q u s)
  (hn:x≠"__name__":=by decide) (hd:(x==("__debug__":Str))=false:=by decide):wpAny (model X.prog X.w) X.A (eval (.Name x pos) X.env) Q E s:=by
 obtain⟨mb,h1,h2⟩:=I.mod.blt
 exact Calls.Name_function_global I.ok.kind hg (Calls.loadGlobal_builtin (by rw[I.ok.glob];exact I.mod.glob.keeps I.bk) hm (by rw[I.ok.blt];exact h1.keeps I.bk) ((h2 x hn).trans hv) h) hd
theorem pe_glob{x:Str}{v:V}{u:Value}{pos:Pos}(hg:Gl X x)(hm:X.mg x=some u)(r:RelV v u)(hd:(x==("__debug__":Str))=false:=by decide):PE X (.Name x pos) (tC v) :=
 fun _ _ _ H _ I h=>ld_glob I hg hm ⟨v,H,I,r,h⟩ hd
theorem pe_bltn{x:Str}{v:V}{u:Value}{pos:Pos}(hg:Gl X x)(hm:X.mg x=none)(hv:bootBuiltins x=some u)(r:RelV v u)(hn:x≠"__name__":=by decide)(hd:(x==("__debug__":Str))=false:=by decide):PE X (.Name x pos) (tC v) :=
 fun _ _ _ H _ I h=>ld_blt I hg hm hv ⟨v,H,I,r,h⟩ hn hd
variable {a b:Expr} {ta tb:TE} {pos:Pos}
def tB(t:TE):TT:=fun σ H Q=>t σ H fun x H1=>∃ c,x=.bl c/\Q c H1
theorem pt_val{e:Expr}{t:TE}(h:PE X e t)(he:∀ whole,isTrue e X.env whole=(do let v <- whole;standAt e.pos;holding [v] (truthy v)):=by intro _;rfl):PT X e (tB t):=by
 intro pins s σ H Q I hw
 refine isTrue_plain (thn (h pins s σ H _ I hw) fun v s1 ⟨x,H1,I1,r1,q1⟩=>?_) (he _)
 obtain⟨d,rfl,q⟩:=q1
 cases r1
 exact wpAny_truthy_bool ⟨H1,I1,q⟩
variable {tA tB':TT} {rest:List Expr}
def tAnd(t u:TT):TT:=fun σ H Q=>t σ H fun c H1=>if c=true then u σ H1 Q else Q false H1
def tOr(t u:TT):TT:=fun σ H Q=>t σ H fun c H1=>if c=true then Q true H1 else u σ H1 Q
def tNot(t:TT):TT:=fun σ H Q=>t σ H fun c H1=>Q (!c) H1
theorem pw_and1(ha:PT X a tA):PW X (.BoolOp .And [a] pos) tA:=by
 intro wh pins s σ H Q I h
 refine isTrue_and (thn (ha pins s σ H Q I h) fun c s1 e=>?_)
 cases c with
 | true=>exact isTrue_and_nil e
 | false=>exact e
theorem pw_or1(ha:PT X a tA):PW X (.BoolOp .Or [a] pos) tA:=by
 intro wh pins s σ H Q I h
 refine isTrue_or (thn (ha pins s σ H Q I h) fun c s1 e=>?_)
 cases c with
 | false=>exact isTrue_or_nil e
 | true=>exact e
theorem pw_and(ha:PT X a tA)(hb:PW X (.BoolOp .And (b::rest) pos) tB'):PW X (.BoolOp .And (a::b::rest) pos) (tAnd tA tB'):=by
 intro wh pins s σ H Q I h
 refine isTrue_and (thn (ha pins s σ H _ I h) fun c s1 ⟨H1,I1,q1⟩=>?_)
 cases c with
 | true=>exact hb wh pins s1 σ H1 Q I1 q1
 | false=>exact⟨H1,I1,q1⟩
theorem pw_or(ha:PT X a tA)(hb:PW X (.BoolOp .Or (b::rest) pos) tB'):PW X (.BoolOp .Or (a::b::rest) pos) (tOr tA tB'):=by
 intro wh pins s σ H Q I h
 refine isTrue_or (thn (ha pins s σ H _ I h) fun c s1 ⟨H1,I1,q1⟩=>?_)
 cases c with
 | true=>exact⟨H1,I1,q1⟩
 | false=>exact hb wh pins s1 σ H1 Q I1 q1
theorem pt_not(ha:PT X a tA):PT X (.UnaryOp .Not a pos) (tNot tA):=by
 intro pins s σ H Q I h
 exact isTrue_not (ha pins s σ H (fun c H1=>Q (!c) H1) I h)
def tAndV(ta tb:TE):TE:=fun σ H Q=>ta σ H fun x H1=>∃ c,x=.bl c/\if c=true then tb σ H1 Q else Q (.bl false) H1
def tOrV(ta tb:TE):TE:=fun σ H Q=>ta σ H fun x H1=>∃ c,x=.bl c/\if c=true then Q (.bl true) H1 else tb σ H1 Q
def tNotV(ta:TE):TE:=fun σ H Q=>ta σ H fun x H1=>∃ c,x=.bl c/\Q (.bl (!c)) H1
theorem pe_one{op}{t:TE}(h:PE X a t):PE X (.BoolOp op [a] pos) t:=fun pins s σ H Q I hw=>BoolOp_one (h pins s σ H Q I hw)
theorem pe_and(ha:PE X a ta)(hb:PE X (.BoolOp .And (b::rest) pos) tb):PE X (.BoolOp .And (a::b::rest) pos) (tAndV ta tb):=by
 intro pins s σ H Q I h
 refine BoolOp_and (thn (ha pins s σ H _ I h) fun v s1 ⟨x,H1,I1,r1,q1⟩=>?_)
 obtain⟨c,rfl,q1⟩:=q1
 cases r1
 refine wpAny_truthy_bool ?_
 cases c with
 | true=>exact hb pins s1 σ H1 Q I1 q1
 | false=>exact⟨.bl false,H1,I1,rfl,q1⟩
theorem pe_or(ha:PE X a ta)(hb:PE X (.BoolOp .Or (b::rest) pos) tb):PE X (.BoolOp .Or (a::b::rest) pos) (tOrV ta tb):=by
 intro pins s σ H Q I h
 refine BoolOp_or (thn (ha pins s σ H _ I h) fun v s1 ⟨x,H1,I1,r1,q1⟩=>?_)
 obtain⟨c,rfl,q1⟩:=q1
 cases r1
 refine wpAny_truthy_bool ?_
 cases c with
 | false=>exact hb pins s1 σ H1 Q I1 q1
 | true=>exact⟨.bl true,H1,I1,rfl,q1⟩
theorem pe_not(ha:PE X a ta):PE X (.UnaryOp .Not a pos) (tNotV ta):=by
 intro pins s σ H Q I h
 refine UnaryOp_ (thn (ha pins s σ H _ I h) fun v s1 ⟨x,H1,I1,r1,q1⟩=>?_)
 obtain⟨c,rfl,q1⟩:=q1
 cases r1
 exact not_of (wpAny_truthy_bool ⟨.bl (!c),H1,I1,rfl,q1⟩)
def tIf(t:TT)(ta tb:TE):TE:=fun σ H Q=>t σ H fun c H1=>if c=true then ta σ H1 Q else tb σ H1 Q
theorem pe_ifExp{c:Expr}(hc:PT X c tA)(ha:PE X a ta)(hb:PE X b tb):PE X (.IfExp c a b pos) (tIf tA ta tb):=by
 intro pins s σ H Q I h
 refine wpAny_IfExp (thn (hc pins s σ H _ I h) fun d s1 ⟨H1,I1,q1⟩=>?_)
 cases d with
 | true=>exact ha pins s1 σ H1 Q I1 q1
 | false=>exact hb pins s1 σ H1 Q I1 q1
end
end L2
namespace L2
open PySem PySem.Spec PyProof.Rows
def SqL(K:PySem.W.Frag)(H:Hp)(a:Addr)(xs:List V):Prop :=
 Rd H a (.lst xs) \/
  ∃ (o:Obj) (its:Array Value) (n:Nat),K.lookup a=some o/\o.cls=.type "list"/\o.dict=none/\o.data=.seq its n/\its.size<=sizeLine/\Vals xs its.toList
def SqT(K:PySem.W.Frag)(H:Hp)(a:Addr)(xs:List V):Prop :=
 Rd H a (.tup xs) \/
  ∃ (o:Obj) (its:Array Value) (n:Nat),K.lookup a=some o/\o.cls=.type "tuple"/\o.data=.seq its n/\its.size<=sizeLine/\Vals xs its.toList
def absV:Value->Option V
 | .none=>some .non
 | .bool b=>some (.bl b)
 | .int i _=>some (.int i)
 | .str x _=>some (.str x)
 | .bytes b _=>some (.byt b)
 | .float b _=>some (.flt b)
 | .ref a=>some (.ref a)
 | .type n=>some (.ty n)
 | _=>none
theorem RelV.abs{x:V}{u:Value}(r:RelV x u):absV u=some x:=by
 cases x with
 | non=>cases r;rfl
 | bl _=>cases r;rfl
 | int _=>obtain⟨t,rfl⟩:=r;rfl
 | str _=>obtain⟨t,rfl⟩:=r;rfl
 | byt _=>obtain⟨t,rfl⟩:=r;rfl
 | flt _=>obtain⟨t,rfl⟩:=r;rfl
 | ref _=>cases r;rfl
 | ty _=>cases r;rfl
theorem RelV.inj{x y:V}{u:Value}(r:RelV x u)(q:RelV y u):x=y:=Option.some.inj (r.abs.symm.trans q.abs)
theorem Vals.inj:∀ {xs ys:List V} {us:List Value},Vals xs us->Vals ys us->xs=ys
 | _,_,_,.nil,.nil=>rfl
 | _,_,_,.cons r t,.cons r' t'=>by rw[r.inj r',Vals.inj t t']
section
variable {X:Cx} {pins:List (Addr×Obj)} {σ:St} {H:Hp} {s:Shared} {a:Addr} {xs ys:List V}
theorem SqL.of{K:PySem.W.Frag}(h:H a=some (.lst xs)):SqL K H a xs:=.inl (.inl h)
theorem SqT.of{K:PySem.W.Frag}(h:H a=some (.tup xs)):SqT K H a xs:=.inl (.inl h)
theorem Inv.list(I:Inv X pins σ H s)(h:SqL X.K H a xs):∃ its:List Value,Vals xs its/\PlainL s.heap a its.toArray/\xs.length<=sizeLine:=by
 rcases h with h | ⟨o,its,n,hk,hc,hd,hs,hz,r⟩
 ·obtain⟨z,its,n,r,e⟩:=h.ok I.hok
  exact⟨its,r,⟨_,n,e,rfl,rfl,rfl⟩,z⟩
 ·refine⟨its.toList,r,⟨o,n,I.kIn a o hk,hc,hd,by simpa using hs⟩,?_⟩
  have e:=r.length
  simp only[Array.length_toList] at e
  omega
theorem Inv.tuple(I:Inv X pins σ H s)(h:SqT X.K H a xs):∃ its:List Value,Vals xs its/\IsTup s.heap a its.toArray/\xs.length<=sizeLine:=by
 rcases h with h | ⟨o,its,n,hk,hc,hs,hz,r⟩
 ·obtain⟨z,its,r,p⟩:=h.ok I.hok
  exact⟨its,r,p,z⟩
 ·refine⟨its.toList,r,⟨o,I.kIn a o hk,hc,n,by simpa using hs⟩,?_⟩
  have e:=r.length
  simp only[Array.length_toList] at e
  omega
theorem Inv.list_inj(I:Inv X pins σ H s)(h:SqL X.K H a xs)(h':SqL X.K H a ys):xs=ys:=by
 obtain⟨its,r,⟨o,n,e,_,_,d⟩,_⟩:=I.list h
 obtain⟨its',r',⟨o',n',e',_,_,d'⟩,_⟩:=I.list h'
 rw[e] at e';cases e'
 rw[d] at d'
 injection d' with d1 _
 have:its=its':=by simpa using congrArg Array.toList d1
 subst this
 exact r.inj r'
theorem Inv.tuple_inj(I:Inv X pins σ H s)(h:SqT X.K H a xs)(h':SqT X.K H a ys):xs=ys:=by
 obtain⟨its,r,⟨o,e,_,n,d⟩,_⟩:=I.tuple h
 obtain⟨its',r',⟨o',e',_,n',d'⟩,_⟩:=I.tuple h'
 rw[e] at e';cases e'
 rw[d] at d'
 injection d' with d1 _
 have:its=its':=by simpa using congrArg Array.toList d1
 subst this
 exact r.inj r'
end
abbrev Cx.wish(X:Cx)(E:Value->Shared->Prop):Cx:={ X with xe:=E }
abbrev Cx.nox(X:Cx):Cx:=X.wish fun _ _=>False
theorem Cx.Ok.wish{X:Cx}(ok:X.Ok)(E:Value->Shared->Prop):(X.wish E).Ok :=
 ⟨ok.mod,ok.kind,ok.glob,ok.blt,ok.above,ok.inj,ok.has,ok.cab,ok.hd,ok.frames,ok.stk,ok.exf,ok.bs,ok.bsz,ok.noex,ok.exfs,ok.funs,ok.frf⟩
theorem Cx.Ok.unwish{X:Cx}{E:Value->Shared->Prop}(ok:(X.wish E).Ok):X.Ok :=
 ⟨ok.mod,ok.kind,ok.glob,ok.blt,ok.above,ok.inj,ok.has,ok.cab,ok.hd,ok.frames,ok.stk,ok.exf,ok.bs,ok.bsz,ok.noex,ok.exfs,ok.funs,ok.frf⟩
section
variable {X:Cx} {pins:List (Addr×Obj)} {σ:St} {H:Hp} {s:Shared} {E:Value->Shared->Prop}
theorem Inv.wish(I:Inv X pins σ H s)(E:Value->Shared->Prop):Inv (X.wish E) pins σ H s:=⟨I.ok.wish E,I.os,I.bare,I.base,I.loc,I.cell,I.free,I.freeC,I.pin,I.hok,I.len⟩
theorem Inv.unwish(I:Inv (X.wish E) pins σ H s):Inv X pins σ H s:=⟨I.ok.unwish,I.os,I.bare,I.base,I.loc,I.cell,I.free,I.freeC,I.pin,I.hok,I.len⟩
theorem SP.unwish{D:Ends}{f:Flow}{s':Shared}(h:SP (X.wish E) pins D f s'):SP X pins D f s':=by
 cases f with
 | next=>obtain⟨σ',H',I,q⟩:=h;exact⟨σ',H',I.unwish,q⟩
 | brk=>obtain⟨σ',H',I,q⟩:=h;exact⟨σ',H',I.unwish,q⟩
 | cont=>obtain⟨σ',H',I,q⟩:=h;exact⟨σ',H',I.unwish,q⟩
 | ret u=>obtain⟨v,σ',H',I,r,q⟩:=h;exact⟨v,σ',H',I.unwish,r,q⟩
end
section
variable {X:Cx} {st:Stmt} {rest:List Stmt} {t u:TS} {e:Expr} {te:TE} {pos:Pos}
def tNext:TS:=fun D σ H=>D.nx σ H
def tSeq(t u:TS):TS:=fun D σ H=>t { D with nx:=u D } σ H
theorem pss_nil:PSs X [] tNext:=fun _ _ σ H _ I h=>wpAny_execs_nil ⟨σ,H,I,h⟩
theorem pss_cons(h1:PS X st t)(h2:PSs X rest u):PSs X (st::rest) (tSeq t u):=by
  intro pins s σ H D I h
  refine wpAny_execs_cons (thn (h1 pins s σ H { D with nx:=u D } I h) fun f s1 q=>?_)
  cases f with
  | next =>
    obtain⟨σ',H',I',q⟩:=q
    exact h2 pins s1 σ' H' D I' q
  | ret v=>exact q
  | brk=>exact q
  | cont=>exact q
theorem ps_pass:PS X (.Pass pos) tNext:=fun _ _ σ H _ I h=>wpAny_Pass ⟨σ,H,I,h⟩
theorem Inv.quiet{pins:List (Addr×Obj)}{σ:St}{H:Hp}{s:Shared}(I:Inv X pins σ H s):interactive X.env=false:=by simp[interactive,I.ok.kind]
def tDrop(te:TE):TS:=fun D σ H=>te σ H fun _ H1=>D.nx σ H1
theorem ps_expr(he:PE X e te)(hs:swapsWith e none pos.line X.env=pure false:=by rfl):PS X (.Expr e pos) (tDrop te):=by
 intro pins s σ H D I h
 exact wpAny_Expr_any (thn (he pins s σ H _ I h) fun v s1 ⟨x,H1,I1,r1,q1⟩=>⟨σ,H1,I1,q1⟩) I.quiet hs
def tRet(te:TE):TS:=fun D σ H=>te σ H D.rt
theorem ps_ret(he:PE X e te):PS X (.Return (some e) pos) (tRet te):=by
 intro pins s σ H D I h
 exact wpAny_Return_some (thn (he pins s σ H _ I h) fun v s1 ⟨x,H1,I1,r1,q1⟩=>⟨x,σ,H1,I1,r1,q1⟩)
def tRetN:TS:=fun D _ H=>D.rt .non H
theorem ps_retN:PS X (.Return none pos) tRetN:=fun _ _ σ H _ I h=>wpAny_Return_none ⟨.non,σ,H,I,rfl,h⟩
def tIfS(c:TT)(t u:TS):TS:=fun D σ H=>c σ H fun b H1=>if b=true then t D σ H1 else u D σ H1
theorem ps_if{c:Expr}{a b:List Stmt}{tc:TT}(hc:PT X c tc)(ha:PSs X a t)(hb:PSs X b u):PS X (.If c a b pos) (tIfS tc t u):=by
 intro pins s σ H D I h
 refine wpAny_If (thn (hc pins s σ H _ I h) fun d s1 ⟨H1,I1,q1⟩=>?_)
 cases d with
 | true=>exact ha pins s1 σ H1 D I1 q1
 | false=>exact hb pins s1 σ H1 D I1 q1
end
abbrev TG:=V->St->Hp->(St->Hp->Prop)->Prop
abbrev TGs:=List V->St->Hp->(St->Hp->Prop)->Prop
def PG(X:Cx)(target:Expr)(t:TG):Prop :=
  ∀ (pins : List (Addr × Obj)) (s : Shared) (σ : St) (H : Hp) (v : V) (u : Value) (Q : St -> Hp -> Prop), Inv X pins σ H s -> RelV v u -> t v σ H Q ->
    wpAny (model X.prog X.w) X.A (assign target X.env u) (fun _ s'=>∃ σ' H',Inv X pins σ' H' s'/\Q σ' H') X.xe s
def PGs(X:Cx)(ts:List Expr)(t:TGs):Prop :=
  ∀ (pins : List (Addr × Obj)) (s : Shared) (σ : St) (H : Hp) (vs : List V) (us : List Value) (Q : St -> Hp -> Prop), Inv X pins σ H s -> Vals vs us -> t vs σ H Q ->
    wpAny (model X.prog X.w) X.A (assignInOrder ((assignEach ts X.env).map (·.2)) us) (fun _ s'=>∃ σ' H',Inv X pins σ' H' s'/\Q σ' H') X.xe s
abbrev TSet:=V->V->V->Hp->(Hp->Prop)->Prop
def PSet(X:Cx)(t:TSet):Prop :=
  ∀ (pins : List (Addr × Obj)) (s : Shared) (σ : St) (H : Hp) (o i v : V) (ov iv u : Value) (Q : Hp -> Prop), Inv X pins σ H s -> RelV o ov -> RelV i iv -> RelV v u -> t o i v H Q ->
    wpAny (model X.prog X.w) X.A (setItem ov iv u) (fun _ s'=>∃ H',Inv X pins σ H' s'/\Q H') X.xe s
section
variable {X:Cx} {pos:Pos}
def gName(i:Nat):TG:=fun v σ H Q=>Q (σ.set i (some v)) H
theorem pg_name{i:Nat}{x:Str}(hN:X.N.Nodup)(hi:X.N[i]?=some x)(hx:Loc X.env.scope x)(hf:X.fn x=true\/X.env.scope.names.lookup x=some .local:=by first | exact .inl rfl | exact .inr rfl | assumption):PG X (.Name x pos) (gName i):=by
 intro pins s σ H v u Q I r h
 exact wpAny_assign_Name (store_ok I hN hi hx r (fun s' I'=>⟨_,H,I',h⟩) hf)
def gNil:TGs:=fun vs σ H Q=>vs=[]/\Q σ H
def gCons(t:TG)(u:TGs):TGs:=fun vs σ H Q=>∃ v r,vs=v::r/\t v σ H fun σ' H'=>u r σ' H' Q
theorem pgs_nil:PGs X [] gNil:=by
 intro pins s σ H vs us Q I r h
 obtain⟨e,h⟩:=h
 subst e
 cases r
 exact assignInOrder_nil ⟨σ,H,I,h⟩
theorem pgs_cons{e:Expr}{es:List Expr}{t:TG}{u:TGs}(h1:PG X e t)(h2:PGs X es u)
    (hs:(assignEach (e::es) X.env).map (·.2)=assign e X.env::(assignEach es X.env).map (·.2):=by rfl):PGs X (e::es) (gCons t u):=by
  intro pins s σ H vs us Q I r h
  obtain⟨v,vr,e1,h⟩:=h
  subst e1
  cases r with
  | cons r rr =>
    rw[hs]
    refine assignInOrder_cons (thn (h1 pins s σ H _ _ _ I r h) fun _ s1 ⟨σ1,H1,I1,q1⟩=>?_)
    exact h2 pins s1 σ1 H1 _ _ Q I1 rr q1
def gTup(K:PySem.W.Frag)(n:Nat)(t:TGs):TG:=fun v σ H Q=>∃ a xs,v=.ref a/\SqT K H a xs/\xs.length=n/\t xs σ H Q
theorem pg_tup{es:List Expr}{k:Nat}{t:TGs}{n:Nat}(hc:X.calm=true)(h:PGs X es t)
  (hn:(assignEach es X.env).length=n:=by rfl) (hst:(assignEach es X.env).findIdx? (·.1)=none:=by rfl):PG X (.Tuple es k pos) (gTup X.K n t):=by
 intro pins s σ H v u Q I r hw
 obtain⟨a,xs,e1,hq,hl,hw⟩:=hw
 subst e1
 cases r
 obtain⟨its,rv,ht,hz⟩:=I.tuple hq
 refine assign_Tuple_tuple (I.ok.hd hc) ht (by simp[hn,<- hl,rv.length]) hst fun h' hx=>?_
 have I1:Inv X pins σ H { s with heap:=h' }:=I.kept (t':=s.toks) fun b o e=>hx b o (Nat.ne_of_lt (Heap.lt_size e)) e
 exact h pins _ σ H xs _ Q I1 (by simpa using rv) hw
def gSub(to ti:TE)(t:TSet):TG:=fun v σ H Q=>to σ H fun o H1=>ti σ H1 fun i H2=>t o i v H2 fun H3=>Q σ H3
theorem pg_sub{o i:Expr}{to ti:TE}{t:TSet}(ho:PE X o to)(hi:PE X i ti)(hs:PSet X t)
    (ha:∀ v,assign (.Subscript o i pos) X.env v=(do
      let ov <- holding [v] (eval o X.env)
      let iv <- holding [v,ov] (eval i X.env)
      standAt pos
      holding [v,ov,iv] (setItem ov iv v)
      release [v,ov,iv] []):=by intro _;rfl):PG X (.Subscript o i pos) (gSub to ti t):=by
  intro pins s σ H v u Q I r h
  rw[ha]
  refine wpAny_bind (wpAny_holding (thn (ho pins s σ H _ I h) fun ov s1 ⟨x,H1,I1,r1,q1⟩=>?_))
  refine wpAny_bind (wpAny_holding (thn (hi pins s1 σ H1 _ I1 q1) fun iv s2 ⟨y,H2,I2,r2,q2⟩=>?_))
  refine wpAny_bind (wpAny_standAt (wpAny_bind (wpAny_holding (thn (hs pins s2 σ H2 x y v ov iv u _ I2 r1 r2 r q2) fun _ s3 ⟨H3,I3,q3⟩=>?_))))
  exact wpAny_release ⟨σ,H3,I3,q3⟩
def tAsg(te:TE)(g:TG):TS:=fun D σ H=>te σ H fun x H1=>g x σ H1 D.nx
theorem ps_asg{tg e:Expr}{te:TE}{g:TG}(he:PE X e te)(hg:PG X tg g)(hs:swapsWithSole [tg] e pos.line X.env=pure false:=by rfl)(hw:swappedStores [tg] e X.env=pure none:=by rfl)
  (h1:(assignEach [tg] X.env).map (·.2)=[assign tg X.env]:=by rfl):PS X (.Assign [tg] e pos) (tAsg te g):=by
 intro pins s σ H D I h
 refine wpAny_Assign_stores (thn (he pins s σ H _ I h) fun v s1 ⟨x,H1,I1,r1,q1⟩=>?_) hs hw
 rw[h1]
 exact thn (hg pins s1 σ H1 x v _ I1 r1 q1) fun _ s2 q=>q
theorem ps_set{i:Nat}{x:Str}{e:Expr}{te:TE}{pos':Pos}(hN:X.N.Nodup)(hi:X.N[i]?=some x)(hx:Loc X.env.scope x)(he:PE X e te)(hs:swapsWith e (some (.Name x pos')) pos.line X.env=pure false:=by rfl)(hf:X.fn x=true\/X.env.scope.names.lookup x=some .local:=by first | exact .inl rfl | exact .inr rfl | assumption) :
  PS X (.Assign [.Name x pos'] e pos) (tAsg te (gName i)):=by
 intro pins s σ H D I h
 refine wpAny_Assign_Name (thn (he pins s σ H _ I h) fun v s1 ⟨y,H1,I1,r1,q1⟩=>?_) hs
 exact store_ok I1 hN hi hx r1 (fun s2 I2=>⟨_,H1,I2,q1⟩) hf
def tPar(i j:Nat)(ta:TA):TS:=fun D σ H=>ta σ H fun vs H1=>∃ v w,vs=[v,w]/\D.nx ((σ.set i (some v)).set j (some w)) H1
theorem ps_par{i j:Nat}{x y:Str}{a b:Expr}{ta:TA}{px py pt:Pos}{kt k2 pt2}(hc:X.calm=true)(hN:X.N.Nodup)(hi:X.N[i]?=some x)(hj:X.N[j]?=some y)(hij:i≠j)
    (hx:X.env.scope.names.lookup x=some .local) (hy:X.env.scope.names.lookup y=some .local) (ha:PA X [a,b] ta)
    (hw:swappedStores [.Tuple [.Name x px,.Name y py] kt pt] (.Tuple [a,b] k2 pt2) X.env=pure (some [x,y]))
    (hs:swapsWithSole [.Tuple [.Name x px,.Name y py] kt pt] (.Tuple [a,b] k2 pt2) pos.line X.env=pure false:=by rfl) :
    PS X (.Assign [.Tuple [.Name x px,.Name y py] kt pt] (.Tuple [a,b] k2 pt2) pos) (tPar i j ta):=by
  intro pins s σ H D I h
  rw[exec_Assign_arm]
  refine wpAny_bind (wpAny_standAt ?_)
  rw[hs]
  refine wpAny_bind (wpAny_pure ?_)
  rw[if_neg (by decide)]
  refine wpAny_bind (Tuple_ (thn (ha _ pins s σ H _ I h) fun us s1 ⟨vs,H1,I1,r1,q1⟩=>?_))
  obtain⟨v,w,e1,q1⟩:=q1
  subst e1
  obtain⟨u1,u2,rfl,rv,rw'⟩:∃ u1 u2,us=[u1,u2]/\RelV v u1/\RelV w u2:=by
    cases r1 with
    | cons p q =>
      cases q with
      | cons p' q' =>
        cases q'
        exact⟨_,_,rfl,p,p'⟩
  refine wpAny_newObj_type ?_ (by show 2<=sizeLine;decide)
  have I2:Inv X pins σ H1 { s1 with heap:=s1.heap.push { cls:=.type "tuple",data:=.seq [u1,u2].toArray } }:=I1.kept (t':=s1.toks) fun b o e=>Heap.get?_push_of_some _ e
  rw[hw]
  refine wpAny_bind (wpAny_pure ?_)
  show wpAny (model X.prog X.w) X.A (do rule "assign.swapped-stores";let items <- unpackItems (.ref s1.heap.objs.size) 2 none;assignInOrder [fun v=>bindName X.env y v,fun v=>bindName X.env x v] items.reverse;pure Flow.next) _ _ _
  refine wpAny_bind (wpAny_rule (wpAny_bind (unpackItems_tuple (items := #[u1,u2]) (I.ok.hd hc) (IsTup.new s1.heap _) fun h' hx'=>?_)))
  have I3:=I2.kept (h':=h') (t':=s1.toks) fun b o e=>hx' b o (Nat.ne_of_lt (Heap.lt_size e)) e
  show wpAny _ _ (assignInOrder [fun v=>bindName X.env y v,fun v=>bindName X.env x v] [u2,u1] >>=fun _=>pure Flow.next) _ _ _
  refine wpAny_bind (assignInOrder_cons (wpAny_bindName (store_ok I3 hN hj (.inl hy) rw' (fun s2 I4=>?_) (.inr hy))))
  refine assignInOrder_cons (wpAny_bindName (store_ok I4 hN hi (.inl hx) rv (fun s3 I5=>assignInOrder_nil (wpAny_pure ?_)) (.inr hx)))
  rw[List.set_comm _ _ (Ne.symm hij)] at I5
  exact⟨_,H1,I5,q1⟩
end
section
variable {X:Cx} {pos:Pos}
end
structure It where
 go:Nat->Hp->Prop
 yld:Nat->Hp->V->Hp->Prop
 stop:Nat->Hp->Prop
def FpOk(X:Cx)(pins:List (Addr×Obj))(H:Hp)(b:Addr):Prop :=
 H b=none/\b≠X.env.locals/\b∉X.fs/\(b∈X.ex\/X.s₀.heap.objs.size<=b)/\(∀ x c,X.env.cells.lookup x=some c->c≠b)/\∀ p∈X.pn++pins,p.1≠b
theorem Inv.fpOk{X:Cx}{pins:List (Addr×Obj)}{σ:St}{H H':Hp}{s:Shared}{b:Addr}(I:Inv X pins σ H s)(hb:s.heap.objs.size<=b)(hn:H' b=none):FpOk X pins H' b:=by
 refine⟨hn,Nat.ne_of_gt (Nat.lt_of_lt_of_le I.lt hb),I.nofs hb,.inr (Nat.le_trans I.sz hb),fun x c e z=>?_,fun p hp z=>?_⟩
 ·obtain⟨v,q⟩:=I.cell x c e
  exact absurd (Nat.lt_of_lt_of_le q.lt (by rw[z];exact hb)) (Nat.lt_irrefl _)
 ·exact absurd (Nat.lt_of_lt_of_le (Heap.lt_size (I.pin p hp).1) (by rw[z];exact hb)) (Nat.lt_irrefl _)
structure Turn (P:Program) (w:World) (K:PySem.W.Frag) (tg:Expr) (J:It) (fp:List Addr) (it:Addr) (tn:Nat->Heap->Prop):Prop where
  mem:it∈fp
  obj:∀ i h,tn i h->∀ b∈fp,∃ o,h.get? b=some o/\∀ v,o.data≠.cell v
  keep:∀ i h h',tn i h->(∀ b∈fp,∀ o,h.get? b=some o->h'.get? b=some o)->tn i h'
  item:∀ (X:Cx),X.prog=P->X.w=w->X.K=K->X.calm=true->∀ (i:Nat) (pins:List (Addr×Obj)) (s:Shared) (σ:St) (H:Hp) (E:Value->Shared->Prop),Inv X pins σ H s->(∀ b∈fp,FpOk X pins H b)->tn i s.heap->J.go i H ->
    wpAny (model P w) X.A (pyNext (.ref it)) (fun r s1=>∃ u,r=some u /\
      wpAny (model P w) X.A (letOwnedTupleGo tg (.ref it) u) (fun _ s2=>∃ x H',Inv X pins σ H' s2/\RelV x u/\J.yld i H x H'/\tn (i+1) s2.heap/\∀ b∈fp,H' b=none) E s1) E s
  done:∀ (X:Cx),X.prog=P->X.w=w->X.K=K->X.calm=true->∀ (i:Nat) (pins:List (Addr×Obj)) (s:Shared) (σ:St) (H:Hp) (E:Value->Shared->Prop),Inv X pins σ H s->(∀ b∈fp,FpOk X pins H b)->tn i s.heap->J.stop i H ->
    wpAny (model P w) X.A (pyNext (.ref it)) (fun r s1=>r=none/\Inv X pins σ H s1) E s
  self:∀ (A:Around) (i:Nat) (s:Shared) (Q:Value->Shared->Prop) (E:Value->Shared->Prop),tn i s.heap->Q (.ref it) s->wpAny (model P w) A (pyIter (.ref it)) Q E s
abbrev TI:=St->Hp->(It->Hp->Prop)->Prop
def PIE(X:Cx)(pins:List (Addr×Obj))(σ:St)(tg:Expr)(R:It->Hp->Prop)(itv:Value)(s2:Shared):Prop :=
 ∃ (it:Addr) (fp:List Addr) (tn:Nat->Heap->Prop) (J:It) (H':Hp),itv=.ref it/\Inv X pins σ H' s2/\Turn X.prog X.w X.K tg J fp it tn/\tn 0 s2.heap/\(∀ b∈fp,FpOk X pins H' b)/\R J H'
def PI(X:Cx)(tg iter:Expr)(wi:TI):Prop :=
  ∀ (pins : List (Addr × Obj)) (s : Shared) (σ : St) (H : Hp) (R : It -> Hp -> Prop), Inv X pins σ H s -> wi σ H R ->
    wpAny (model X.prog X.w) X.A (eval iter X.env) (fun v s1=>wpAny (model X.prog X.w) X.A (pyIter v) (PIE X pins σ tg R) X.xe s1) X.xe s
theorem go_of{M:Model}{A:Around}{E:Value->Shared->Prop}{s:Shared}{tg:Expr}{it:Addr}{u:Value}{o:Obj}{n:String}{vs:Array Value}{Q:Unit->Shared->Prop}(ho:s.heap.get? it=some o)(hc:o.cls=.type n)(hd:o.data=.fields vs)
    (hn:["enumerate","zip","dict_itemiterator","dict_reverseitemiterator","odict_iterator","itertools.zip_longest","itertools.pairwise"].contains n=false) (hQ:Q () s):wpAny M A (letOwnedTupleGo tg (.ref it) u) Q E s:=by
  unfold letOwnedTupleGo
  cases tg<;>first
    | exact wpAny_pure hQ
    | (cases u<;>first
        | exact wpAny_pure hQ
        | (refine wpAny_bind (wpAny_load ho ?_)
           rw[hc,hd]
           show wpAny M A (if(["enumerate","zip","dict_itemiterator","dict_reverseitemiterator","odict_iterator","itertools.zip_longest","itertools.pairwise"].contains n&&vs[0]?==some (rawInt _))=true then _ else _) Q E s
           rw[if_neg (by intro h;rw[hn,Bool.false_and] at h;cases h)]
           exact wpAny_pure hQ))
def Itl(K:PySem.W.Frag)(a:Addr):It :=
 ⟨fun i H=>∃ xs x,SqL K H a xs/\xs[i]?=some x,fun i H x H'=>H'=H/\∀ xs,SqL K H a xs->xs[i]?=some x,fun i H=>∃ xs,SqL K H a xs/\xs.length<=i⟩
def Itt(K:PySem.W.Frag)(a:Addr):It :=
 ⟨fun i H=>∃ xs x,SqT K H a xs/\xs[i]?=some x,fun i H x H'=>H'=H/\∀ xs,SqT K H a xs->xs[i]?=some x,fun i H=>∃ xs,SqT K H a xs/\xs.length<=i⟩
def Itr(lo:Int)(n:Nat):It:=⟨fun i _=>i<n,fun i H x H'=>H'=H/\x=.int (lo+i),fun i _=>n<=i⟩
theorem turn_list{P:Program}{w:World}{K:PySem.W.Frag}{tg:Expr}(a it:Addr):Turn P w K tg (Itl K a) [it] it (fun i h=>h.IsListIter it a i) where
 mem:=by simp
 obj:=fun i h st b hb=>by
  have e:b=it:=by simpa using hb
  subst e
  obtain⟨o,e,c,d⟩:=st
  exact⟨o,e,fun v z=>by rw[d] at z;cases z⟩
 keep:=fun i h h' st k=>st.at fun o e=>k it (by simp) o e
 item:=by
  intro X hP hw hK hc i pins s σ H E I hf st hg
  subst hP hw hK
  obtain⟨xs,x,hq,hx⟩:=hg
  obtain⟨its,rv,p,hz⟩:=I.list hq
  obtain⟨u,hu,ru⟩:=rv.get hx
  obtain⟨f0,f1,f2,f3,f4,f5⟩:=hf it (by simp)
  refine wpAny_pyNext_list_item st p.isList (x:=u) (by simpa using hu) fun h' st' sb=>?_
  have I1:Inv X pins σ H { s with heap:=h' }:=I.turned (t':=s.toks) (fun b o hb e=>(sb.2 b hb).trans e) f0 f1 f3 f4 f5
  obtain⟨o,e,c,d⟩:=id st'
  exact⟨u,rfl,go_of (s:={ s with heap:=h' }) e c d (by decide) ⟨x,H,I1,ru,⟨rfl,fun ys hy=>by rw[I.list_inj hy hq];exact hx⟩,st',fun b hb=>(hf b hb).1⟩⟩
 done:=by
  intro X hP hw hK hc i pins s σ H E I hf st hg
  subst hP hw hK
  obtain⟨xs,hq,hx⟩:=hg
  obtain⟨its,rv,p,hz⟩:=I.list hq
  obtain⟨f0,f1,f2,f3,f4,f5⟩:=hf it (by simp)
  have hl:=rv.length
  exact wpAny_pyNext_list_end (I.ok.hd hc) st p.isList (by simp;omega) fun h' eb=>⟨rfl,I.turned (t':=s.toks) (fun b o hb e=>eb b o hb e) f0 f1 f3 f4 f5⟩
 self:=fun _ _ _ _ _ st h=>wpAny_pyIter_listiter st h
theorem turn_tuple{P:Program}{w:World}{K:PySem.W.Frag}{tg:Expr}(a it:Addr):Turn P w K tg (Itt K a) [it] it (fun i h=>h.IsTupleIter it a i) where
 mem:=by simp
 obj:=fun i h st b hb=>by
  have e:b=it:=by simpa using hb
  subst e
  obtain⟨o,e,c,d⟩:=st
  exact⟨o,e,fun v z=>by rw[d] at z;cases z⟩
 keep:=fun i h h' st k=>st.at fun o e=>k it (by simp) o e
 item:=by
  intro X hP hw hK hc i pins s σ H E I hf st hg
  subst hP hw hK
  obtain⟨xs,x,hq,hx⟩:=hg
  obtain⟨its,rv,p,hz⟩:=I.tuple hq
  obtain⟨u,hu,ru⟩:=rv.get hx
  obtain⟨f0,f1,f2,f3,f4,f5⟩:=hf it (by simp)
  refine wpAny_pyNext_tuple_item st (show s.heap.IsTuple a its.toArray from p) (x:=u) (by simpa using hu) fun h' st' sb=>?_
  have I1:Inv X pins σ H { s with heap:=h' }:=I.turned (t':=s.toks) (fun b o hb e=>(sb.2 b hb).trans e) f0 f1 f3 f4 f5
  obtain⟨o,e,c,d⟩:=id st'
  exact⟨u,rfl,go_of (s:={ s with heap:=h' }) e c d (by decide) ⟨x,H,I1,ru,⟨rfl,fun ys hy=>by rw[I.tuple_inj hy hq];exact hx⟩,st',fun b hb=>(hf b hb).1⟩⟩
 done:=by
  intro X hP hw hK hc i pins s σ H E I hf st hg
  subst hP hw hK
  obtain⟨xs,hq,hx⟩:=hg
  obtain⟨its,rv,p,hz⟩:=I.tuple hq
  obtain⟨f0,f1,f2,f3,f4,f5⟩:=hf it (by simp)
  have hl:=rv.length
  exact wpAny_pyNext_tuple_end (I.ok.hd hc) st (show s.heap.IsTuple a its.toArray from p) (by simp;omega) fun h' eb=>⟨rfl,I.turned (t':=s.toks) (fun b o hb e=>eb b o hb e) f0 f1 f3 f4 f5⟩
 self:=fun _ _ _ _ _ st h=>wpAny_pyIter_tupleiter st h
theorem turn_range{P:Program}{w:World}{K:PySem.W.Frag}{tg:Expr}(it:Addr)(lo:Int)(n:Nat):Turn P w K tg (Itr lo n) [it] it (fun i h=>IsRangeIter h it (lo+(i:Nat)*1) ((n:Int)-(i:Nat)) 1) where
  mem:=by simp
  obj:=fun i h st b hb=>by
    have e:b=it:=by simpa using hb
    subst e
    exact⟨_,st,fun v z=>by
      have z':Data.fields _=Data.cell v:=z
      cases z'⟩
  keep:=fun i h h' st k=>k it (by simp) _ st
  item:=by
    intro X hP hw hK hc i pins s σ H E I hf st hg
    subst hP hw hK
    obtain⟨f0,f1,f2,f3,f4,f5⟩:=hf it (by simp)
    have W:=Walks.range (prog:=X.prog) (w:=X.w) (I.ok.hd hc) it lo 1 n
    refine W.item i s _ _ hg st fun v h' tk hv st' kk=>?_
    obtain⟨t,rfl⟩:=hv
    have I1:Inv X pins σ H { s with heap:=h',toks:=tk }:=I.turned (fun b o hb e=>kk b o (by simpa using hb) e) f0 f1 f3 f4 f5
    refine⟨_,rfl,go_of (s:={ s with heap:=h',toks:=tk }) (n:="range_iterator") st' rfl rfl (by decide) ⟨.int (lo+i),H,I1,⟨t,?_⟩,⟨rfl,rfl⟩,st',fun b hb=>(hf b hb).1⟩⟩
    rw[Int.mul_one]
  done:=by
    intro X hP hw hK hc i pins s σ H E I hf st hg
    subst hP hw hK
    obtain⟨f0,f1,f2,f3,f4,f5⟩:=hf it (by simp)
    exact wpAny_pyNext_range_end (I.ok.hd hc) st (by have:n<=i:=hg;omega) fun h' eb=>⟨rfl,I.turned (t':=s.toks) (fun b o hb e=>eb b o hb e) f0 f1 f3 f4 f5⟩
  self:=fun _ _ _ _ _ st h=>wpAny_pyIter_rangeiter st h
end L2
namespace L2
open PySem PySem.Spec PyProof.Rows
section
variable {X:Cx} {tg:Expr}
def iList(K:PySem.W.Frag)(tl:TE):TI:=fun σ H R=>tl σ H fun x H1=>∃ a,x=.ref a/\(∃ xs,SqL K H1 a xs)/\R (Itl K a) H1
def iTup(K:PySem.W.Frag)(tl:TE):TI:=fun σ H R=>tl σ H fun x H1=>∃ a,x=.ref a/\(∃ xs,SqT K H1 a xs)/\R (Itt K a) H1
theorem pi_list{l:Expr}{tl:TE}(hl:PE X l tl):PI X tg l (iList X.K tl):=by
 intro pins s σ H R I h
 refine thn (hl pins s σ H _ I h) fun v s1 ⟨x,H1,I1,r1,q1⟩=>?_
 obtain⟨a,e,⟨xs,hq⟩,q⟩:=q1
 subst e
 cases r1
 obtain⟨its,rv,p,hz⟩:=I1.list hq
 refine wpAny_pyIter_list p.isList ?_
 refine⟨s1.heap.objs.size,[s1.heap.objs.size],_,_,H1,rfl,I1.kept (t':=s1.toks) fun b o e=>Heap.get?_push_of_some _ e,turn_list a _,⟨_,Heap.get?_push_size _ rfl,rfl,rfl⟩,fun b hb=>?_,q⟩
 have e:b=s1.heap.objs.size:=by simpa using hb
 subst e
 exact I1.fpOk (Nat.le_refl _) (I1.hok.fresh (Nat.le_refl _))
theorem pi_tup{l:Expr}{tl:TE}(hl:PE X l tl):PI X tg l (iTup X.K tl):=by
 intro pins s σ H R I h
 refine thn (hl pins s σ H _ I h) fun v s1 ⟨x,H1,I1,r1,q1⟩=>?_
 obtain⟨a,e,⟨xs,hq⟩,q⟩:=q1
 subst e
 cases r1
 obtain⟨its,rv,p,hz⟩:=I1.tuple hq
 refine wpAny_pyIter_tuple (show s1.heap.IsTuple a its.toArray from p) ?_
 refine⟨s1.heap.objs.size,[s1.heap.objs.size],_,_,H1,rfl,I1.kept (t':=s1.toks) fun b o e=>Heap.get?_push_of_some _ e,turn_tuple a _,⟨_,Heap.get?_push_size _ rfl,rfl,rfl⟩,fun b hb=>?_,q⟩
 have e:b=s1.heap.objs.size:=by simpa using hb
 subst e
 exact I1.fpOk (Nat.le_refl _) (I1.hok.fresh (Nat.le_refl _))
theorem range_it{pins:List (Addr×Obj)}{σ:St}{H:Hp}{s:Shared}{R:It->Hp->Prop}{E:Value->Shared->Prop}{lo hi:Int}{t u v:Tok}{tk:Nat}(I:Inv X pins σ H s)(h1:-(2^62)<=lo)(h2:lo<2^62)(h3:-(2^62)<=hi)(h4:hi<2^62)
    (q:R (Itr lo (hi-lo).toNat) H):wpAny (model X.prog X.w) X.A (pyIter (.ref s.heap.objs.size)) (PIE X pins σ tg R) E { s with heap:=s.heap.push { cls:=.type "range",data:=.fields #[.int lo t,.int hi u,.int 1 v] },toks:=tk }:=by
  refine wpAny_pyIter_range (IsRange.new ..) (small_one h1 h2 h3 h4) ?_
  have I1:Inv X pins σ H { s with heap:=s.heap.push { cls:=.type "range",data:=.fields #[.int lo t,.int hi u,.int 1 v] },toks:=tk }:=I.kept fun b o e=>Heap.get?_push_of_some _ e
  refine⟨(s.heap.push { cls:=.type "range",data:=.fields #[.int lo t,.int hi u,.int 1 v] }).objs.size,[(s.heap.push { cls:=.type "range",data:=.fields #[.int lo t,.int hi u,.int 1 v] }).objs.size],_,_,H,rfl,
    I1.kept (t':=tk) fun b o e=>Heap.get?_push_of_some _ e,turn_range _ lo (hi-lo).toNat,?_,fun b hb=>?_,q⟩
  · have e1:lo+((0:Nat):Int)*1=lo:=by simp
    have e2:(((hi-lo).toNat:Nat):Int)-((0:Nat):Int)=Builtin.Range.rangeSize lo hi 1:=by rw[rangeSize_one];split<;>omega
    show IsRangeIter _ _ (lo+((0:Nat):Int)*1) ((((hi-lo).toNat:Nat):Int)-((0:Nat):Int)) 1
    rw[e1,e2]
    exact Heap.get?_push_size _ rfl
  · have e:b=(s.heap.push { cls:=.type "range",data:=.fields #[.int lo t,.int hi u,.int 1 v] }).objs.size:=by simpa using hb
    subst e
    exact I1.fpOk (Nat.le_refl _) (I1.hok.fresh (Nat.le_refl _))
def iRng1(ta:TA):TI:=fun σ H R=>ta σ H fun vs H1=>∃ j:Int,vs=[.int j] /\ -(2^62)<=j/\j<2^62/\R (Itr 0 j.toNat) H1
def iRng2(ta:TA):TI:=fun σ H R=>ta σ H fun vs H1=>∃ i j:Int,vs=[.int i,.int j]/\(-(2^62)<=i/\i<2^62 /\ -(2^62)<=j/\j<2^62)/\R (Itr i (j-i).toNat) H1
theorem pi_range1{a:Expr}{ta:TA}{p pos:Pos}(hg:Gl X "range")(hm:X.mg "range"=none)(ha:PA X [a] ta)(hs:starEach [a] X.env=[(false,eval a X.env)]:=by rfl):PI X tg (.Call (.Name "range" p) [a] [] pos) (iRng1 ta):=by
  intro pins s σ H R I h
  refine Call_ (ld_blt I hg hm boot_range (PyProof.Rows.callWith_type1 (thn (ha pos pins s σ H _ I h) fun us s1 ⟨vs,H1,I1,r1,q1⟩=>?_) hs rfl))
  obtain⟨j,e,q1,q2,q⟩:=q1
  subst e
  cases r1 with
  | cons r rr =>
    cases rr
    obtain⟨t,rfl⟩:=r
    exact call_range_1 (range_it I1 (by omega) (by omega) q1 q2 (by simpa using q))
theorem pi_range2{a b:Expr}{ta:TA}{p pos:Pos}(hg:Gl X "range")(hm:X.mg "range"=none)(ha:PA X [a,b] ta)(hs:starEach [a,b] X.env=[(false,eval a X.env),(false,eval b X.env)]:=by rfl)(hs2:starEach [b] X.env=[(false,eval b X.env)]:=by rfl) :
    PI X tg (.Call (.Name "range" p) [a,b] [] pos) (iRng2 ta):=by
  intro pins s σ H R I h
  refine Call_ (ld_blt I hg hm boot_range (PyProof.Rows.callWith_type1 (thn (ha pos pins s σ H _ I h) fun us s1 ⟨vs,H1,I1,r1,q1⟩=>?_) (by rw[hs,hs2]) (by rw[hs2];rfl)))
  obtain⟨i,j,e,⟨q1,q2,q3,q4⟩,q⟩:=q1
  subst e
  cases r1 with
  | cons r rr =>
    cases rr with
    | cons r' rr =>
      cases rr
      obtain⟨t,rfl⟩:=r
      obtain⟨t',rfl⟩:=r'
      exact call_range_2 (range_it I1 q1 q2 q3 q4 q)
def tFor(wi:TI)(g:TG)(tb:TS):TS:=fun D σ H=>wi σ H fun J H1=>∃ W:Nat->Nat->St->Hp->Prop,(∃ m,W 0 m σ H1)/\∀ i m σ H,W i m σ H ->
 (J.stop i H/\D.nx σ H)\/(J.go i H/\∃ N:St->Hp->Prop,(∀ σ' H',N σ' H'->∃ m',m'<m/\W (i+1) m' σ' H')/\∀ x H',J.yld i H x H'->g x σ H' fun σ2 H2=>tb { D with nx:=N,ct:=N,bk:=D.nx } σ2 H2)
def pinsAt(fp:List Addr)(h:Heap):List (Addr×Obj):=fp.filterMap fun b=>(h.get? b).map fun o=>(b,o)
theorem mem_pinsAt{fp:List Addr}{h:Heap}{b:Addr}{o:Obj}(hb:b∈fp)(e:h.get? b=some o):(b,o)∈pinsAt fp h:=List.mem_filterMap.mpr ⟨b,hb,by rw[e];rfl⟩
theorem of_pinsAt{fp:List Addr}{h:Heap}{p:Addr×Obj}(hp:p∈pinsAt fp h):p.1∈fp/\h.get? p.1=some p.2:=by
  obtain⟨b,hb,e⟩:=List.mem_filterMap.mp hp
  cases q:h.get? b with
  | none=>rw[q] at e;cases e
  | some o =>
    rw[q] at e
    have e':(b,o)=p:=Option.some.inj e
    subst e'
    exact⟨hb,q⟩
theorem Inv.pinned{pins:List (Addr×Obj)}{σ:St}{H:Hp}{s:Shared}{fp:List Addr}(I:Inv X pins σ H s)(hf:∀ b∈fp,FpOk X pins H b)(ho:∀ b∈fp,∃ o,s.heap.get? b=some o/\∀ v,o.data≠.cell v):Inv X (pins++pinsAt fp s.heap) σ H s :=
 I.pins_of fun p hp=>(List.mem_append.mp hp).elim (fun z=>I.pin p (List.mem_append_right _ z)) fun z=>by
  obtain⟨hb,e⟩:=of_pinsAt z
  obtain⟨f0,f1,f2,_⟩:=hf p.1 hb
  obtain⟨o,e',d⟩:=ho p.1 hb
  rw[e] at e';cases e'
  exact⟨e,f0,f1,f2,d⟩
theorem Inv.unpinned{pins pl:List (Addr×Obj)}{σ:St}{H:Hp}{s:Shared}(I:Inv X (pins++pl) σ H s):Inv X pins σ H s:=I.pins_of fun p hp=>I.pin p (List.mem_append_right _ (List.mem_append_left _ hp))
theorem ps_for{iter:Expr}{body:List Stmt}{wi:TI}{g:TG}{tb:TS}{pos:Pos}(hp:PassesOwn (model X.prog X.w) X.A X.env X.xe)(hc:X.calm=true)(hi:PI X tg iter wi)(hg:PG X tg g)(hb:PSs X body tb)
  (hs:∀ x,foldedSetIterable iter X.env x=pure x:=by intro _;rfl):PS X (.For tg iter body [] pos) (tFor wi g tb):=by
 intro pins s σ H D I h
 refine wpAny_For (thn (hi pins s σ H _ I h) fun v s1 h1=>thn h1 fun itv s2 h2=>?_) hs
 obtain⟨it,fp,tn,J,H2,e,I2,T,st2,f2,W,⟨m0,w0⟩,turn⟩:=h2
 subst e
 have stat:∀ {H':Hp},(∀ b∈fp,H' b=none)->∀ b∈fp,FpOk X pins H' b:=fun hn b hb=>⟨hn b hb,(f2 b hb).2⟩
 refine codeAny_forLoop_any (fun n s'=>∃ i σ' H',Inv X pins σ' H' s'/\tn i s'.heap/\(∀ b∈fp,H' b=none)/\W i n σ' H') ?_ m0 ⟨0,σ,H2,I2,st2,fun b hb=>(f2 b hb).1,w0⟩
 rintro n s3 ⟨i,σ3,H3,I3,st3,fr3,w3⟩
 rcases turn i n σ3 H3 w3 with⟨stop,qn⟩ | ⟨go,N,hN,step⟩
 ·refine wpAny_passesOwn hp (thn (T.done X rfl rfl rfl hc i pins s3 σ3 H3 X.xe I3 (stat fr3) st3 stop) fun r s4 ⟨hr,I4⟩=>?_)
  subst hr
  exact wpAny_execs_nil ⟨σ3,H3,I4,qn⟩
 ·refine wpAny_passesOwn hp (thn (T.item X rfl rfl rfl hc i pins s3 σ3 H3 X.xe I3 (stat fr3) st3 go) fun r s4 ⟨u,hr,h4⟩=>?_)
  subst hr
  refine wpAny_passesOwn hp (thn h4 fun _ s5 ⟨x,H5,I5,r5,y5,st5,fr5⟩=>?_)
  have I5':=I5.pinned (stat fr5) (T.obj _ _ st5)
  refine wpAny_passesOwn hp (thn (hg _ s5 σ3 H5 x u _ I5' r5 (step x H5 y5)) fun _ s6 ⟨σ6,H6,I6,q6⟩=>?_)
  refine wpAny_passesOwn hp (thn (hb _ s6 σ6 H6 _ I6 q6) fun f s7 q7=>?_)
  have again:∀ {σ7:St} {H7:Hp},Inv X (pins++pinsAt fp s5.heap) σ7 H7 s7->N σ7 H7->∃ m,m<n/\∃ i σ' H',Inv X pins σ' H' s7/\tn i s7.heap/\(∀ b∈fp,H' b=none)/\W i m σ' H':=fun {σ7 H7} I7 n7=>by
   obtain⟨m',hm,w7⟩:=hN σ7 H7 n7
   refine⟨m',hm,i+1,σ7,H7,I7.unpinned,T.keep _ _ _ st5 fun b hb o e=>(I7.pin (b,o) (List.mem_append_right _ (List.mem_append_right _ (mem_pinsAt hb e)))).1,fun b hb=>?_,w7⟩
   obtain⟨o,e,d⟩:=T.obj _ _ st5 b hb
   exact(I7.pin (b,o) (List.mem_append_right _ (List.mem_append_right _ (mem_pinsAt hb e)))).2.1
  cases f with
  | next=>obtain⟨σ7,H7,I7,n7⟩:=q7;exact again I7 n7
  | cont=>obtain⟨σ7,H7,I7,n7⟩:=q7;exact again I7 n7
  | brk=>obtain⟨σ7,H7,I7,q7⟩:=q7;exact⟨σ7,H7,I7.unpinned,q7⟩
  | ret v=>obtain⟨x7,σ7,H7,I7,r7,q7⟩:=q7;exact⟨x7,σ7,H7,I7.unpinned,r7,q7⟩
end
end L2
namespace L2
open PySem PySem.Spec PyProof.Rows
abbrev R2:=V->V->Hp->VK->Prop
def OpR(X:Cx)(f:Value->Value->Sem Value)(r:R2):Prop :=
  ∀ (pins : List (Addr × Obj)) (s : Shared) (σ : St) (H : Hp) (x y : V) (v u : Value) (Q : VK), Inv X pins σ H s -> RelV x v -> RelV y u -> r x y H Q ->
    wpAny (model X.prog X.w) X.A (f v u) (EP X pins σ Q) X.xe s
def UnR(X:Cx)(f:Value->Sem Value)(r:V->Hp->VK->Prop):Prop :=
  ∀ (pins : List (Addr × Obj)) (s : Shared) (σ : St) (H : Hp) (x : V) (v : Value) (Q : VK), Inv X pins σ H s -> RelV x v -> r x H Q ->
    wpAny (model X.prog X.w) X.A (f v) (EP X pins σ Q) X.xe s
def CallR(X:Cx)(f:Value)(r:List V->Hp->VK->Prop):Prop :=
  ∀ (pins : List (Addr × Obj)) (s : Shared) (σ : St) (H : Hp) (xs : List V) (us : List Value) (Q : VK), Inv X pins σ H s -> Vals xs us -> r xs H Q ->
    wpAny (model X.prog X.w) X.A (call f us) (EP X pins σ Q) X.xe s
def tOp(r:R2)(ta tb:TE):TE:=fun σ H Q=>ta σ H fun x H1=>tb σ H1 fun y H2=>r x y H2 Q
def tUn(r:V->Hp->VK->Prop)(ta:TE):TE:=fun σ H Q=>ta σ H fun x H1=>r x H1 Q
def rI(C:Int->Int->Prop)(g:Int->Int->V):R2:=fun x y H Q=>∃ i j,x=.int i/\y=.int j/\C i j/\Q (g i j) H
def rI0(g:Int->Int->V):R2:=fun x y H Q=>∃ i j,x=.int i/\y=.int j/\Q (g i j) H
def rU(g:Int->V):V->Hp->VK->Prop:=fun x H Q=>∃ i,x=.int i/\Q (g i) H
section
variable {X:Cx} {a b c:Expr} {ta tb tc:TE} {pos:Pos}
theorem binT(ha:PE X a ta)(hb:PE X b tb){pins:List (Addr×Obj)}{s:Shared}{σ:St}{H:Hp}{R:V->V->Hp->Prop}(I:Inv X pins σ H s)
  (h:ta σ H fun x H1=>tb σ H1 fun y H2=>R x y H2) {Q:Value->Shared->Prop} {f:Value->Value->Sem Value}
  (hf:∀ v u s2 x y H2,Inv X pins σ H2 s2->RelV x v->RelV y u->R x y H2->wpAny (model X.prog X.w) X.A (f v u) Q X.xe s2) :
  wpAny (model X.prog X.w) X.A (eval a X.env) (fun v s₁=>wpAny (model X.prog X.w) X.A (eval b X.env) (fun u s₂=>wpAny (model X.prog X.w) X.A (f v u) Q X.xe s₂) X.xe s₁) X.xe s:=by
 refine thn (ha pins s σ H _ I h) fun v s1 ⟨x,H1,I1,r1,q1⟩=>?_
 refine thn (hb pins s1 σ H1 _ I1 q1) fun u s2 ⟨y,H2,I2,r2,q2⟩=>?_
 exact hf v u s2 x y H2 I2 r1 r2 q2
theorem pe_op{op:Operator}{r:R2}(ho:OpR X (binaryOp op) r)(ha:PE X a ta)(hb:PE X b tb):PE X (.BinOp a op b pos) (tOp r ta tb):=by
 intro pins s σ H Q I h
 exact wpAny_BinOp (binT ha hb I h fun v u s2 x y H2 I2 rx ry q=>ho pins s2 σ H2 x y v u Q I2 rx ry q)
theorem pe_un{op:UnaryOp}{r:V->Hp->VK->Prop}(ho:UnR X (unaryOp op) r)(ha:PE X a ta):PE X (.UnaryOp op a pos) (tUn r ta):=by
 intro pins s σ H Q I h
 exact UnaryOp_ (thn (ha pins s σ H _ I h) fun v s1 ⟨x,H1,I1,r1,q1⟩=>ho pins s1 σ H1 x v Q I1 r1 q1)
theorem opI{f:Value->Value->Sem Value}{C:Int->Int->Prop}{g:Int->Int->Int}
  (rule:∀ (i j:Int) (t u:Tok) (s:Shared) (Q:Value->Shared->Prop) (E:Value->Shared->Prop),C i j->Q (.int (g i j) s.toks) { s with toks:=s.toks+1 }->wpAny (model X.prog X.w) X.A (f (.int i t) (.int j u)) Q E s) :
  OpR X f (rI C fun i j=>.int (g i j)):=by
 intro pins s σ H x y v u Q I rx ry h
 obtain⟨i,j,rfl,rfl,hc,q⟩:=h
 obtain⟨t,rfl⟩:=rx
 obtain⟨t',rfl⟩:=ry
 exact rule i j t t' s _ _ hc ⟨.int (g i j),H,I.tok _,⟨_,rfl⟩,q⟩
theorem opI0{f:Value->Value->Sem Value}{g:Int->Int->Int}
  (rule:∀ (i j:Int) (t u:Tok) (s:Shared) (Q:Value->Shared->Prop) (E:Value->Shared->Prop),Q (.int (g i j) s.toks) { s with toks:=s.toks+1 }->wpAny (model X.prog X.w) X.A (f (.int i t) (.int j u)) Q E s) :
  OpR X f (rI0 fun i j=>.int (g i j)):=by
 intro pins s σ H x y v u Q I rx ry h
 obtain⟨i,j,rfl,rfl,q⟩:=h
 obtain⟨t,rfl⟩:=rx
 obtain⟨t',rfl⟩:=ry
 exact rule i j t t' s _ _ ⟨.int (g i j),H,I.tok _,⟨_,rfl⟩,q⟩
theorem opB0{f:Value->Value->Sem Value}{g:Int->Int->Bool}
  (rule:∀ (i j:Int) (t u:Tok) (s:Shared) (Q:Value->Shared->Prop) (E:Value->Shared->Prop),Q (.bool (g i j)) s->wpAny (model X.prog X.w) X.A (f (.int i t) (.int j u)) Q E s) :
  OpR X f (rI0 fun i j=>.bl (g i j)):=by
 intro pins s σ H x y v u Q I rx ry h
 obtain⟨i,j,rfl,rfl,q⟩:=h
 obtain⟨t,rfl⟩:=rx
 obtain⟨t',rfl⟩:=ry
 exact rule i j t t' s _ _ ⟨.bl (g i j),H,I,rfl,q⟩
def CDiv(i j:Int):Prop:=0<j/\j<1073741824
def CMul(i j:Int):Prop:=(-(2^64)<i/\i<2^64)\/(-(2^64)<j/\j<2^64)
theorem CMul.ok{i j:Int}(h:CMul i j):IntMulOk i j:=by
 rcases h with⟨h1,h2⟩ | ⟨h1,h2⟩
 ·exact .of_left (intBits_le_64 h1 h2)
 ·exact .of_right (intBits_le_64 h1 h2)
theorem op_add:OpR X (binaryOp .Add) (rI0 fun i j=>.int (i+j)):=opI0 fun _ _ _ _ _ _ _ q=>add_int q
theorem op_sub:OpR X (binaryOp .Sub) (rI0 fun i j=>.int (i-j)):=opI0 fun _ _ _ _ _ _ _ q=>sub_int q
theorem op_fdiv:OpR X (binaryOp .FloorDiv) (rI CDiv fun i j=>.int (i / j)):=opI fun i j _ _ _ _ _ hc q=>by
 have h1:(0:Int)<j:=hc.1
 have h2:j<1073741824:=hc.2
 exact floordiv_int (by omega) (by rw[Int.fdiv_eq_ediv_of_nonneg i (by omega)];exact q) (.inl (PyProof.noPylong_small (by omega)))
theorem op_mod:OpR X (binaryOp .Mod) (rI (fun _ j=>0<j) fun i j=>.int (i%j)):=opI fun i j _ _ _ _ _ hc q=>by
 have h1:(0:Int)<j:=hc
 exact mod_int' (by omega) (by rw[Int.fmod_eq_emod_of_nonneg i (by omega)];exact q)
theorem op_modN:OpR X (binaryOp .Mod) (rI (fun _ j=>j≠0) fun i j=>.int (i.fmod j)):=opI fun _ _ _ _ _ _ _ hc q=>mod_int' hc q
theorem unI{f:Value->Sem Value}{g:Int->Int}
  (rule:∀ (i:Int) (t:Tok) (s:Shared) (Q:Value->Shared->Prop) (E:Value->Shared->Prop),Q (.int (g i) s.toks) { s with toks:=s.toks+1 }->wpAny (model X.prog X.w) X.A (f (.int i t)) Q E s) :
  UnR X f (rU fun i=>.int (g i)):=by
 intro pins s σ H x v Q I rx h
 obtain⟨i,rfl,q⟩:=h
 obtain⟨t,rfl⟩:=rx
 exact rule i t s _ _ ⟨.int (g i),H,I.tok _,⟨_,rfl⟩,q⟩
theorem un_neg:UnR X (unaryOp .USub) (rU fun i=>.int (-i)):=unI fun _ _ _ _ _ q=>neg_int q
end
section
variable {X:Cx} {a b c:Expr} {ta tb tc:TE} {pos:Pos}
theorem fin_bl{pins:List (Addr×Obj)}{σ:St}{H:Hp}{s:Shared}{Q:VK}{k k':Bool}(I:Inv X pins σ H s)(q:Q (.bl k) H)(e:k=k'):EP X pins σ Q (.bool k') s:=by
 subst e
 exact⟨.bl k,H,I,rfl,q⟩
theorem op_lt:OpR X (compareOp .Lt) (rI0 fun i j=>.bl (decide (i<j))):=opB0 fun _ _ _ _ _ _ _ q=>lt_int q
theorem op_le:OpR X (compareOp .LtE) (rI0 fun i j=>.bl (decide (i<=j))):=opB0 fun _ _ _ _ _ _ _ q=>le_int q
theorem op_gt:OpR X (compareOp .Gt) (rI0 fun i j=>.bl (decide (j<i))):=opB0 fun _ _ _ _ _ _ _ q=>gt_int q
theorem op_ge:OpR X (compareOp .GtE) (rI0 fun i j=>.bl (decide (j<=i))):=opB0 fun _ _ _ _ _ _ _ q=>ge_int q
theorem op_isN:OpR X (compareOp .Is) (fun x y H Q=>y=.non/\Q (.bl (decide (x=.non))) H):=by
 intro pins s σ H x y v u Q I rx ry h
 obtain⟨rfl,q⟩:=h
 cases ry
 refine is_none_gen (fin_bl I q ?_)
 cases x<;>first
  | (cases rx;rfl)
  | (obtain⟨t,rfl⟩:=rx;rfl)
theorem op_notN:OpR X (compareOp .IsNot) (fun x y H Q=>y=.non/\Q (.bl (!decide (x=.non))) H):=by
 intro pins s σ H x y v u Q I rx ry h
 obtain⟨rfl,q⟩:=h
 cases ry
 refine isnot_none_gen (fin_bl I q ?_)
 cases x<;>first
  | (cases rx;rfl)
  | (obtain⟨t,rfl⟩:=rx;rfl)
theorem pe_cmpR{op:CmpOp}{r:R2}(ho:OpR X (compareOp op) r)(ha:PE X a ta)(hb:PE X b tb)(hm:behindInMarks op b=false):PE X (.Compare a [op] [b] pos) (tOp r ta tb):=by
 intro pins s σ H Q I h
 exact wpAny_Compare1 (binT ha hb I h fun v u s2 x y H2 I2 rx ry q=>ho pins s2 σ H2 x y v u Q I2 rx ry q) hm
def tTest(t:TE):TT:=fun σ H Q=>t σ H fun x H'=>∃ k,x=.bl k/\Q k H'
theorem pt_cmpR{op:CmpOp}{r:R2}(ho:OpR X (compareOp op) r)(ha:PE X a ta)(hb:PE X b tb)(hm:behindInMarks op b=false):PT X (.Compare a [op] [b] pos) (tTest (tOp r ta tb)):=by
  intro pins s σ H Q I h
  refine wpAny_isTrue_Compare1 (thn (ha pins s σ H _ I h) fun v s1 ⟨x,H1,I1,r1,q1⟩=>thn (hb pins s1 σ H1 _ I1 q1) fun u s2 ⟨y,H2,I2,r2,q2⟩ =>
    thn (ho pins s2 σ H2 x y v u _ I2 r1 r2 q2) fun c s3 ⟨z,H3,I3,r3,k,e,q3⟩=>?_) hm
  subst e
  cases r3
  exact wpAny_truthy_bool ⟨H3,I3,q3⟩
def tChain(r r':R2)(ta tb tc:TE):TE:=fun σ H Q=>ta σ H fun x H1=>tb σ H1 fun y H2=>r x y H2 fun z H3=>∃ k,z=.bl k /\
 (if k=true then tc σ H3 fun w' H4=>r' y w' H4 Q else Q (.bl false) H3)
theorem pe_chain{op op':CmpOp}{r r':R2}(ho:OpR X (compareOp op) r)(ho':OpR X (compareOp op') r')(ha:PE X a ta)(hb:PE X b tb)(hc:PE X c tc)
    (hm:lastMarks [op,op'] [b,c]=false:=by with_unfolding_all rfl):PE X (.Compare a [op,op'] [b,c] pos) (tChain r r' ta tb tc):=by
  intro pins s σ H Q I h
  refine Compare_chain (thn (ha pins s σ H _ I h) fun v s1 ⟨x,H1,I1,r1,q1⟩=>chain_link (thn (hb pins s1 σ H1 _ I1 q1) fun u s2 ⟨y,H2,I2,r2,q2⟩ =>
    thn (ho pins s2 σ H2 x y v u _ I2 r1 r2 q2) fun d s3 ⟨z,H3,I3,r3,k,e,q3⟩=>?_)) hm
  subst e
  cases r3
  refine wpAny_truthy_bool ?_
  cases k with
  | false=>exact ite_ff ⟨.bl false,H3,I3,rfl,q3⟩
  | true=>exact ite_tt (chain_last (thn (hc pins s3 σ H3 _ I3 q3) fun w' s4 ⟨z',H4,I4,r4,q4⟩=>ho' pins s4 σ H4 y z' u w' Q I4 r2 r4 q4))
theorem pt_chain{op op':CmpOp}{r r':R2}(ho:OpR X (compareOp op) r)(ho':OpR X (compareOp op') r')(ha:PE X a ta)(hb:PE X b tb)(hc:PE X c tc)
    (hm:lastMarks [op,op'] [b,c]=false:=by with_unfolding_all rfl):PT X (.Compare a [op,op'] [b,c] pos) (tTest (tChain r r' ta tb tc)):=by
  intro pins s σ H Q I h
  refine isTrue_chain (thn (ha pins s σ H _ I h) fun v s1 ⟨x,H1,I1,r1,q1⟩=>test_link (thn (hb pins s1 σ H1 _ I1 q1) fun u s2 ⟨y,H2,I2,r2,q2⟩ =>
    thn (ho pins s2 σ H2 x y v u _ I2 r1 r2 q2) fun d s3 ⟨z,H3,I3,r3,k,e,q3⟩=>?_)) hm
  subst e
  cases r3
  refine wpAny_truthy_bool ?_
  cases k with
  | false =>
    obtain⟨k',e',q'⟩:=q3
    cases e'
    exact ite_ff ⟨H3,I3,q'⟩
  | true =>
    refine ite_tt (test_last (thn (hc pins s3 σ H3 _ I3 q3) fun w' s4 ⟨z',H4,I4,r4,q4⟩=>thn (ho' pins s4 σ H4 y z' u w' _ I4 r2 r4 q4) fun d' s5 ⟨z2,H5,I5,r5,k2,e2,q5⟩=>?_))
    subst e2
    cases r5
    exact wpAny_truthy_bool ⟨H5,I5,q5⟩
theorem line63:(sizeLine:Nat)<2^63:=by rw[sizeLine_eq];decide
theorem vals1{x:V}{us:List Value}(r:Vals [x] us):∃ u,us=[u]/\RelV x u:=by
 cases r with
 | cons r1 r2=>cases r2;exact⟨_,rfl,r1⟩
theorem vals2{x y:V}{us:List Value}(r:Vals [x,y] us):∃ u w',us=[u,w']/\RelV x u/\RelV y w':=by
  cases r with
  | cons r1 r2 =>
    cases r2 with
    | cons r3 r4=>cases r4;exact⟨_,_,rfl,r1,r3⟩
theorem call_abs:CallR X (.builtin "abs") (fun xs H Q=>∃ i,xs=[.int i]/\Q (.int (if i<0 then -i else i)) H):=by
 intro pins s σ H xs us Q I r h
 obtain⟨i,rfl,q⟩:=h
 obtain⟨u,rfl,t,rfl⟩:=vals1 r
 exact call_abs_int fun u tk=>⟨.int (if i<0 then -i else i),H,I.tok _,⟨_,rfl⟩,q⟩
theorem call_max2(hc:X.calm=true):CallR X (.builtin "max") (fun xs H Q=>∃ i j,xs=[.int i,.int j]/\Q (.int (if j>i then j else i)) H):=by
 intro pins s σ H xs us Q I r h
 obtain⟨i,j,rfl,q⟩:=h
 obtain⟨u,w',rfl,⟨t,rfl⟩,⟨t',rfl⟩⟩:=vals2 r
 refine max_two_ints (I.ok.hd hc) fun h' tk k=>⟨_,H,I.kept k,?_,q⟩
 by_cases hj:j>i
 ·rw[if_pos hj,if_pos hj];exact⟨_,rfl⟩
 ·rw[if_neg hj,if_neg hj];exact⟨_,rfl⟩
theorem call_min2(hc:X.calm=true):CallR X (.builtin "min") (fun xs H Q=>∃ i j,xs=[.int i,.int j]/\Q (.int (if j<i then j else i)) H):=by
 intro pins s σ H xs us Q I r h
 obtain⟨i,j,rfl,q⟩:=h
 obtain⟨u,w',rfl,⟨t,rfl⟩,⟨t',rfl⟩⟩:=vals2 r
 refine min_two_ints (I.ok.hd hc) fun h' tk k=>⟨_,H,I.kept k,?_,q⟩
 by_cases hj:j<i
 ·rw[if_pos hj,if_pos hj];exact⟨_,rfl⟩
 ·rw[if_neg hj,if_neg hj];exact⟨_,rfl⟩
theorem call_int1:CallR X (.type "int") (fun xs H Q=>(∃ i,xs=[.int i]/\Q (.int i) H)\/∃ k,xs=[.bl k]/\Q (.int (if k then 1 else 0)) H):=by
 intro pins s σ H xs us Q I r h
 rcases h with⟨i,rfl,q⟩ | ⟨k,rfl,q⟩
 ·obtain⟨u,rfl,t,rfl⟩:=vals1 r
  exact call_int_int ⟨.int i,H,I,⟨_,rfl⟩,q⟩
 ·obtain⟨u,rfl,r1⟩:=vals1 r
  cases r1
  exact call_int_bool ⟨.int (if k then 1 else 0),H,I.tok _,⟨_,rfl⟩,q⟩
end
end L2
namespace L2
open PySem PySem.Spec PyProof.Rows
section
variable {prog:Program} {w:World} {A:Around} {E:Value->Shared->Prop} {s:Shared} {K:PySem.W.Frag} {x dx C f:Addr} {mA:Str->Option Value} {name:Str} {v:Value}
end
theorem RelO.some_of{v:V}{o:Option Value}(r:RelO (some v) o):∃ u,o=some u/\RelV v u:=by
 cases o with
 | none=>exact(show False from r).elim
 | some u=>exact⟨u,rfl,r⟩
section
variable {P:Program} {w:World} {H H':Hp} {h h':Heap} {a C dx:Addr} {fs fs':List (Str×V)}
end
section
variable {X:Cx} {pins:List (Addr×Obj)} {σ:St} {H:Hp} {s:Shared} {a C dx:Addr} {fs:List (Str×V)} {f:Str} {v:V} {A:Around} {E:Value->Shared->Prop}
end
section
variable {X:Cx} {o e value:Expr} {f:Str} {pos pos' tpos:Pos} {ta tv:TE}
end
section
variable {X:Cx} {pins:List (Addr×Obj)} {σ:St} {H:Hp} {s:Shared} {A:Around} {E:Value->Shared->Prop} {Q:Value->Shared->Prop} {c:Value} {b:Bool}
end
end L2
namespace L2
open PySem PySem.Spec PyProof.Rows
structure Room (k:Nat) (A:Around):Prop where
 hd:A.handled=none
 dp:A.depth+3*k+5<recursionLimit
 un:A.units+16*k+200<cLine
theorem Room.deeper{k:Nat}{A:Around}(r:Room (k+1) A)(env:Env):Room k (A.deeper env) :=
 ⟨r.hd,by have:=r.dp;show A.depth+1+3*k+5<_;omega,by have:=r.un;show A.units+3+16*k+200<_;omega⟩
theorem Room.depth{k:Nat}{A:Around}(r:Room k A):A.depth<recursionLimit:=by have:=r.dp;omega
theorem Room.units{k:Nat}{A:Around}(r:Room k A):A.units+64<cLine:=by have:=r.un;omega
def tNil:TA:=fun _ H Q=>Q [] H
def tCons(ta:TE)(tr:TA):TA:=fun σ H Q=>ta σ H fun x H1=>tr σ H1 fun xs H2=>Q (x::xs) H2
section
variable {X:Cx} {e:Expr} {es:List Expr} {te:TE} {t:TA} {pos:Pos}
theorem pa_nil:PA X [] tNil:=fun _ _ _ _ H Q I h=>Calls.spliced_nil ⟨[],H,I,.nil,h⟩
theorem pa_cons(ha:PE X e te)(hr:PA X es t)(hs:starEach (e::es) X.env=(false,eval e X.env)::starEach es X.env:=by rfl):PA X (e::es) (tCons te t):=by
 intro pos pins s σ H Q I h
 rw[hs]
 show wpAny _ _ (spliced ((false,eval e X.env)::backTo pos (starEach es X.env))) _ _ s
 refine Calls.spliced_cons (thn (ha pins s σ H _ I h) fun u s1 ⟨x,H1,I1,r1,q1⟩=>?_)
 exact thn (hr pos pins s1 σ H1 _ I1 q1) fun us s2 ⟨xs,H2,I2,r2,q2⟩=>⟨x::xs,H2,I2,.cons r1 r2,q2⟩
def tTup(t:TA):TE:=fun σ H Q=>t σ H fun xs H1=>xs.length<=sizeLine/\∀ p,H1 p=none->Q (.ref p) (upd H1 p (.tup xs))
def tLst(t:TA):TE:=fun σ H Q=>t σ H fun xs H1=>xs.length<=sizeLine/\∀ p,H1 p=none->Q (.ref p) (upd H1 p (.lst xs))
theorem pe_tup{x1}(h:PA X es t):PE X (.Tuple es x1 pos) (tTup t):=by
 intro pins s σ H Q I hq
 refine wpAny_Tuple_spliced (thn (h pos pins s σ H _ I hq) fun us s1 ⟨xs,H1,I1,r,z,q⟩=>⟨by rw[<- r.length];exact z,?_⟩)
 have hf:H1 s1.heap.objs.size=none:=I1.hok.fresh (Nat.le_refl _)
 refine⟨.ref s1.heap.objs.size,upd H1 s1.heap.objs.size (.tup xs),I1.laid (t':=s1.toks) (fun b u e=>Heap.get?_push_of_some _ e) (Nat.le_refl _) ?_,rfl,q _ hf⟩
 exact⟨z,us,r,⟨_,Heap.get?_push_size _ rfl,rfl,_,rfl⟩⟩
theorem pe_lst(h:PA X es t):PE X (.List es pos) (tLst t):=by
 intro pins s σ H Q I hq
 refine wpAny_List_spliced (thn (h pos pins s σ H _ I hq) fun us s1 ⟨xs,H1,I1,r,z,q⟩=>⟨by rw[<- r.length];exact z,?_⟩)
 have hf:H1 s1.heap.objs.size=none:=I1.hok.fresh (Nat.le_refl _)
 refine⟨.ref s1.heap.objs.size,upd H1 s1.heap.objs.size (.lst xs),I1.laid (t':=s1.toks) (fun b u e=>Heap.get?_push_of_some _ e) (Nat.le_refl _) ?_,rfl,q _ hf⟩
 exact⟨z,us,0,r,Heap.get?_push_size _ rfl⟩
end
abbrev Sp:=List V->Hp->VK->XK->Prop
abbrev CXT:=List Env->Hp->Shared->XK->Value->Shared->Prop
structure Env0 (P:Program) (w:World) (K:PySem.W.Frag) (mg:Str->Option Value) (base:Heap) (A:Around) (outer:List Env) (s:Shared) (H:Hp):Prop where
 frames:A.frames=some outer
 mod:Mod K mg base
 bs:∀ b o,base.get? b=some o->s.heap.get? b=some o/\H b=none
 bsz:base.objs.size<=s.heap.objs.size
 funs:s.heap.FunFrames base outer
 frf:∀ b∈frs outer,H b=none
 hok:HOk P w H s.heap
 bare:AllBare s.gens
def CE(outer:List Env)(P:Program)(w:World)(H:Hp)(s:Shared)(Q:VK)(u:Value)(s':Shared):Prop :=
 ∃ v H',s'.os=s.os/\AllBare s'.gens/\Un (frs outer) [] H H' s.heap s'.heap/\HOk P w H' s'.heap/\RelV v u/\Q v H'
def CR(CX:CXT)(outer:List Env)(P:Program)(w:World)(H:Hp)(s:Shared)(Q:VK)(E:XK)(r:Result)(s':Shared):Prop :=
 match r with
 | .ok (.ret u)=>CE outer P w H s Q u s'
 | .ok _=>False
 | .error e=>CX outer H s E e s'
structure FnOk (P:Program) (w:World) (K:PySem.W.Frag) (mg:Str->Option Value) (base:Heap) (CX:CXT) (k:Nat) (f:Addr) (fd:FuncData) (ps:List Str) (sp:Sp):Prop where
 len:∀ vs H Q E,sp vs H Q E->vs.length=ps.length
 run:∀ (A:Around) (outer:List Env) (s:Shared) (H:Hp) (args:Args) (us:List Value) (vs:List V) (Q:VK) (E:XK),Room k A->Env0 P w K mg base A outer s H->BindsTo s fd args (ps.zip us)->Vals vs us->sp vs H Q E ->
  codeAny (model P w) A (.call (.ref f) args) (CR CX outer P w H s Q E) s
theorem FnOk.imp{P:Program}{w:World}{K:PySem.W.Frag}{mg:Str->Option Value}{base:Heap}{CX:CXT}{k:Nat}{f:Addr}{fd:FuncData}{ps:List Str}{sp sp':Sp}(F:FnOk P w K mg base CX k f fd ps sp)
  (h:∀ vs H Q E,sp' vs H Q E->sp vs H Q E):FnOk P w K mg base CX k f fd ps sp' :=
 ⟨fun vs H Q E q=>F.len vs H Q E (h _ _ _ _ q),fun A outer s H args us vs Q E hr he hb hv hs=>F.run A outer s H args us vs Q E hr he hb hv (h _ _ _ _ hs)⟩
section
variable {X:Cx} {pins:List (Addr×Obj)} {σ:St} {H:Hp} {s s':Shared}
theorem Inv.env0(I:Inv X pins σ H s):Env0 X.prog X.w X.K X.mg X.base X.A X.stack s H :=
 ⟨I.ok.frames,I.ok.mod,I.bs,Nat.le_trans I.ok.bsz I.sz,I.stack,I.stkFree,I.hok,I.bare⟩
theorem Inv.after{Q:VK}{u:Value}(I:Inv X pins σ H s)(h:CE X.stack X.prog X.w H s Q u s'):EP X pins σ Q u s':=by
 obtain⟨v,H',os,bare,un,hok,r,q⟩:=h
 obtain⟨hh,g,d,t,os'⟩:=s'
 obtain rfl:os'=s.os:=os
 exact⟨v,H',I.call (h':=hh) (g':=g) (d':=d) (t':=t) (ch:=[]) un hok bare (fun b z=>absurd z (by simp)),r,q⟩
end
def tCall(sp:Sp)(dvs:List V)(E:XK)(t:TA):TE:=fun σ H Q=>t σ H fun vs H1=>sp (vs++dvs) H1 Q E
def Binds(K:PySem.W.Frag)(fd:FuncData)(ps:List Str)(ds:List Value):Prop :=
 ∀ (s:Shared) (us:List Value),K.In s.heap->(us++ds).length=ps.length->BindsTo s fd ⟨us,[]⟩ (ps.zip (us++ds))
theorem Binds.all{K:PySem.W.Frag}{fd:FuncData}{ps:List Str}(h:∀ us:List Value,us.length=ps.length->bindArgs fd ⟨us,[]⟩=pure (ps.zip us)):Binds K fd ps []:=fun s us _ hl=>by
 rw[List.append_nil] at hl ⊢
 exact .of_eq (h us hl)
def Passes(CX:CXT)(X:Cx)(E:XK):Prop:=∀ (pins:List (Addr×Obj)) (σ:St) (H:Hp) (s:Shared) (e:Value) (s':Shared),Inv X pins σ H s->CX X.stack H s E e s'->X.xe e s'
section
variable {X:Cx} {CX:CXT} {k:Nat} {f C:Addr} {fd:FuncData} {ps:List Str} {sp:Sp} {dvs:List V} {ds:List Value} {E:XK} {x m:Str} {p pos apos:Pos} {e o:Expr} {es:List Expr} {ta:TE} {t:TA}
theorem run_fn{pins:List (Addr×Obj)}{σ:St}{H:Hp}{s:Shared}{Q:VK}{us:List Value}{vs:List V}(F:FnOk X.prog X.w X.K X.mg X.base CX k f fd ps sp)(hr:Room k X.A)(hb:Binds X.K fd ps ds)(hd:Vals dvs ds)(hx:Passes CX X E)
    (I:Inv X pins σ H s) (r:Vals vs us) (h:sp (vs++dvs) H Q E):wpAny (model X.prog X.w) X.A (call (.ref f) us) (EP X pins σ Q) X.xe s:=by
  have r2:Vals (vs++dvs) (us++ds):=r.append hd
  have hl:(us++ds).length=ps.length:=by rw[<- r2.length];exact F.len _ _ _ _ h
  refine wpAny_call (codeAny_mono (F.run X.A X.stack s H ⟨us,[]⟩ (us++ds) (vs++dvs) Q E hr I.env0 (hb s us I.kIn hl) r2 h) fun r s' hq=>?_)
  cases r with
  | error e=>exact hx pins σ H s e s' I hq
  | ok fl =>
    cases fl with
    | ret u=>exact I.after hq
    | next=>exact False.elim hq
    | brk=>exact False.elim hq
    | cont=>exact False.elim hq
theorem pe_call(F:FnOk X.prog X.w X.K X.mg X.base CX k f fd ps sp)(hr:Room k X.A)(hg:Gl X x)(hm:X.mg x=some (.ref f))(hk:PySem.W.keepIn X.K (.ref f)=true)(hb:Binds X.K fd ps ds)(hd:Vals dvs ds)(hx:Passes CX X E)
  (ha:PA X (e::es) t) (hdb:(x==("__debug__":Str))=false:=by decide) (he:starEach (e::es) X.env=(false,eval e X.env)::starEach es X.env:=by rfl) (hpl:(backTo pos (starEach es X.env)).any (·.1)=false:=by rfl) :
  PE X (.Call (.Name x p) (e::es) [] pos) (tCall sp dvs E t):=by
 intro pins s σ H Q I h
 refine wpAny_Call_Name_kw (ld_glob I hg hm ?_ hdb)
 refine PySem.W.callWith_K (h₀:=X.base) I.ok.mod.kin hk (thn (ha pos pins s σ H _ I h) fun us s1 ⟨vs,H1,I1,r,q⟩=>⟨I1.kIn,?_⟩) he hpl
 exact run_fn F hr hb hd hx I1 r q
end
section
variable {X:Cx} {CX:CXT} {k:Nat} {f C:Addr} {fd:FuncData} {ps ks:List Str} {sp:Sp} {E:XK} {x m:Str} {p pos apos kpos:Pos} {e o:Expr} {es:List Expr} {kws:List Keyword} {te ta:TE} {t tk:TA} {nm:Option Str}
variable {g:List Value->List Value->List Value} {gV:List V->List V->List V}
end
structure FnScope (N P:List Str) (sc:Scope):Prop where
 kind:sc.kind=.function
 co:sc.isCoroutine=false
 gen:sc.isGenerator=false
 nd:N.Nodup
 pre:N.take P.length=P
 par:∀ x∈P,sc.names.lookup x=some .local\/sc.names.lookup x=some .cell
 nofree:∀ y∈sc.names,y.2≠.free
theorem bindL_out{kindOf:Str->Option NameKind}{x:Str}:∀ {binds:List (Str×Value)} {m:Str->Option Value},(∀ v,(x,v)∉binds)->bindL kindOf binds m x=m x
  | [],_,_=>rfl
  | (n, v) :: r, m, h => by
    unfold bindL
    rw[bindL_out fun w hw=>h w (List.mem_cons_of_mem _ hw)]
    split
    · have:x≠n:=by rintro rfl;exact h v List.mem_cons_self
      simp[this]
    · rfl
theorem bindC_out{kindOf:Str->Option NameKind}{x:Str}:∀ {binds:List (Str×Value)} {m:Str->Option Value},(∀ v,(x,v)∉binds)->bindC kindOf binds m x=m x
  | [],_,_=>rfl
  | (n, v) :: r, m, h => by
    unfold bindC
    rw[bindC_out fun w hw=>h w (List.mem_cons_of_mem _ hw)]
    split
    · rfl
    · have:x≠n:=by rintro rfl;exact h v List.mem_cons_self
      simp[this]
theorem bindL_get{kindOf:Str->Option NameKind}{x:Str}{v:Value}:∀ {P:List Str} {vs:List Value} {i:Nat} {m:Str->Option Value},P.Nodup->P[i]?=some x->vs[i]?=some v->kindOf x=some .local ->
    bindL kindOf (P.zip vs) m x=some v
  | [],_,_,_,_,h,_,_=>by simp at h
  | _::_,[],_,_,_,_,h,_=>by simp at h
  | p :: P, w :: vs, 0, m, nd, h1, h2, hk => by
    simp at h1 h2;subst h1;subst h2
    show bindL kindOf ((p,w)::P.zip vs) m p=_
    unfold bindL
    rw[bindL_out fun v hv=>(List.nodup_cons.mp nd).1 (List.of_mem_zip hv).1,if_pos hk]
    simp
  | p :: P, w :: vs, i + 1, m, nd, h1, h2, hk => by
    show bindL kindOf ((p,w)::P.zip vs) m x=_
    unfold bindL
    exact bindL_get (i:=i) (List.nodup_cons.mp nd).2 (by simpa using h1) (by simpa using h2) hk
theorem bindC_get{kindOf:Str->Option NameKind}{x:Str}{v:Value}:∀ {P:List Str} {vs:List Value} {i:Nat} {m:Str->Option Value},P.Nodup->P[i]?=some x->vs[i]?=some v->kindOf x≠some .local ->
    bindC kindOf (P.zip vs) m x=some v
  | [],_,_,_,_,h,_,_=>by simp at h
  | _::_,[],_,_,_,_,h,_=>by simp at h
  | p :: P, w :: vs, 0, m, nd, h1, h2, hk => by
    simp at h1 h2;subst h1;subst h2
    show bindC kindOf ((p,w)::P.zip vs) m p=_
    unfold bindC
    rw[bindC_out fun v hv=>(List.nodup_cons.mp nd).1 (List.of_mem_zip hv).1,if_neg hk]
    simp
  | p :: P, w :: vs, i + 1, m, nd, h1, h2, hk => by
    show bindC kindOf ((p,w)::P.zip vs) m x=_
    unfold bindC
    exact bindC_get (i:=i) (List.nodup_cons.mp nd).2 (by simpa using h1) (by simpa using h2) hk
def start(N:List Str)(vs:List V):St:=vs.map some++List.replicate (N.length-vs.length) none
def cxOf(CX:CXT)(P:Program)(w:World)(K:PySem.W.Frag)(mg:Str->Option Value)(base:Heap)(N:List Str)(qual:Str)(scope:Scope)(f:Addr)(cd:Value)(A:Around)(outer:List Env)(s:Shared)(H:Hp)(E:XK):Cx where
 prog:=P
 w:=w
 K:=K
 mg:=mg
 base:=base
 A:=A.deeper (envOfC qual scope s.heap.objs.size f cd)
 N:=N
 s₀:=s
 H₀:=H
 env:=envOfC qual scope s.heap.objs.size f cd
 outer:=outer
 stack:=envOfC qual scope s.heap.objs.size f cd::outer
 ex:=[]
 calm:=true
 fn:=fun _=>true
 pn:=[]
 xe:=fun e s'=>wpAny (model P w) (A.deeper (envOfC qual scope s.heap.objs.size f cd)) (leaving (envOfC qual scope s.heap.objs.size f cd) e) (fun _ s''=>CX outer H s E e s'') (fun e' s''=>CX outer H s E e' s'') s'
theorem cell_has{sc:Scope}{n:Nat}{x:Str}(h:sc.names.lookup x=some .cell):∃ c,(cellsFrom n sc.names []).lookup x=some c:=by
 have q:=PySem.W.cellsFrom_some sc.names n [] (.inl h)
 exact Option.isSome_iff_exists.mp q
theorem inv_start{CX:CXT}{P:Program}{w:World}{K:PySem.W.Frag}{mg:Str->Option Value}{base:Heap}{N ps:List Str}{qual:Str}{scope:Scope}{f:Addr}{cd:Value}{A:Around}{outer:List Env}{s s1:Shared}{H:Hp}{E:XK}{us:List Value}{vs:List V}
    (S:FnScope N ps scope) (hd:A.handled=none) (e0:Env0 P w K mg base A outer s H) (hl:vs.length=ps.length) (r:Vals vs us)
    (x:InCallC s s.heap.objs.size (bindL (envOfC qual scope s.heap.objs.size f cd).kindOf (ps.zip us) fun _=>none) (cellsFrom (s.heap.objs.size+1) scope.names []) (bindC (envOfC qual scope s.heap.objs.size f cd).kindOf (ps.zip us) fun _=>none) s1) :
    Inv (cxOf CX P w K mg base N qual scope f cd A outer s H E) [] (start N vs) H s1:=by
  have hpl:ps.length<=N.length:=by have:=congrArg List.length S.pre;rw[List.length_take] at this;omega
  obtain⟨h1,tk,rfl,hk⟩:=x.done
  have noA:∀ b:Addr,b∉(cxOf CX P w K mg base N qual scope f cd A outer s H E).ex:=fun b z=>absurd (show b∈([]:List Addr) from z) (by simp)
  refine⟨⟨e0.mod,S.kind,rfl,rfl,Nat.le_refl _,fun y z c h1 h2=>?_,fun y hy=>?_,fun y c _ h=>?_,fun _=>hd,Around.frames_deeper e0.frames,.inr ⟨rfl,rfl⟩,fun b z=>absurd z (noA b),e0.bs,e0.bsz,fun b _ _=>noA b,fun b z=>absurd z (noA b),e0.funs,e0.frf⟩,
    rfl,e0.bare,Un.kept hk,⟨_,x.toInCall.ns,fun i y v h1 h2 h3=>?_⟩,fun y c h=>⟨_,x.cell y c h⟩,e0.hok.fresh (Nat.le_refl _),fun y c h=>?_,fun p hp=>absurd (show p∈([]:List (Addr×Obj)) from hp) (by simp),e0.hok.kept hk,?_⟩
  · exact name_of_addr x.apart (PySem.mem_of_lookup h1) (PySem.mem_of_lookup h2)
  · have hy:scope.names.lookup y=some .cell\/scope.names.lookup y=some .free:=hy
    rcases hy with hy | hy
    · exact cell_has hy
    · exact absurd rfl (S.nofree _ (PySem.mem_of_lookup hy))
  · exact Nat.le_of_lt (x.above y c (PySem.mem_of_lookup h))
  · have hi:i<vs.length:=by
      unfold start at h2
      by_cases hi:i<vs.length
      · exact hi
      · rw[List.getElem?_append_right (by simpa using hi)] at h2
        rw[List.getElem?_replicate] at h2
        split at h2<;>cases h2
    have ha:vs[i]?=some v:=by
      unfold start at h2
      rw[List.getElem?_append_left (by simpa using hi),List.getElem?_map] at h2
      cases e:vs[i]? with
      | none=>rw[e] at h2;cases h2
      | some a=>rw[e] at h2;cases h2;rfl
    obtain⟨u,hu,rv⟩:=r.get ha
    have hp:ps[i]?=some y:=by
      rw[<- S.pre,List.getElem?_take_of_lt (by omega)];exact h1
    have ndP:ps.Nodup:=by rw[<- S.pre];exact S.nd.sublist (List.take_sublist _ _)
    refine⟨u,rv,?_⟩
    rcases S.par y (List.mem_of_getElem? hp) with k | k
    · exact .inl ⟨k,bindL_get ndP hp hu k⟩
    · obtain⟨c,e⟩:=cell_has (n:=s.heap.objs.size+1) k
      refine .inr ⟨.inl k,c,e,?_⟩
      have q:=x.cell y c e
      rw[bindC_get ndP hp hu (by show scope.names.lookup y≠_;rw[k];decide)] at q
      exact q
  · exact e0.hok.fresh (Nat.le_of_lt (x.above y c (PySem.mem_of_lookup h)))
  · unfold start
    show _=N.length
    rw[List.length_append,List.length_map,List.length_replicate]
    omega
theorem fn_of{CX:CXT}{P:Program}{w:World}{K:PySem.W.Frag}{mg:Str->Option Value}{base:Heap}{k:Nat}{f:Addr}{name qual:Str}{params:Arguments}{body:List Stmt}{scope:Scope}{dV kV doc pm cdv ct oc:Value}{an od:Option Addr}
    {osl:Array (Option Value)} {N ps:List Str} {sp:Sp} (lk:K.lookup f=some ⟨oc,od,.func (PySem.W.fnOf name qual params body scope dV kV doc pm an cdv ct),osl⟩) (hcd:PySem.W.codeIn K cdv qual=true) (S:FnScope N ps scope)
    (len:∀ vs H Q E,sp vs H Q E->vs.length=ps.length)
    (hbody:∀ (A:Around) (outer:List Env) (s:Shared) (H:Hp) (vs:List V) (Q:VK) (E:XK),Room k (A.deeper (envOfC qual scope s.heap.objs.size f cdv))->sp vs H Q E ->
      ∃ t,PSs (cxOf CX P w K mg base N qual scope f cdv A outer s H E) body t/\t { nx:=fun _ H'=>Q .non H',rt:=Q } (start N vs) H) :
    FnOk P w K mg base CX (k+1) f (PySem.W.fnOf name qual params body scope dV kV doc pm an cdv ct) ps sp:=by
  refine⟨len,fun A outer s H args us vs Q E hr e0 hb r hsp=>?_⟩
  have hl:=len _ _ _ _ hsp
  have KX:K.In s.heap:=e0.mod.kin.keeps fun b o e=>(e0.bs b o e).1
  have lim:s.heap.NoLimit:=e0.mod.nolimit.keeps fun b o e=>(e0.bs b o e).1
  have hkind:∀ y∈ps.zip us,scope.names.lookup y.1=some .local\/(scope.names.lookup y.1=some .cell/\((cellsFrom (s.heap.objs.size+1) scope.names []).lookup y.1).isSome=true):=fun⟨n,v⟩ hy=>by
    rcases S.par n (List.of_mem_zip hy).1 with q | q
    · exact .inl q
    · exact .inr ⟨q,PySem.W.cellsFrom_some _ _ _ (.inl q)⟩
  refine codeAny_call_function hr.depth (KX _ _ lk) rfl S.co S.gen rfl (PySem.W.codeRec_of KX hcd) (hb _ _ _ _ ?_)
  refine wpAny_newFunctionEnv_cells S.kind hkind fun env he s1 x=>?_
  subst he
  refine⟨lim.keeps x.toInCall.keep,codeAny_func ?_⟩
  obtain⟨t,ht,hq⟩:=hbody A outer s H vs Q E (hr.deeper _) hsp
  have I:Inv (cxOf CX P w K mg base N qual scope f cdv A outer s H E) [] (start N vs) H s1:=inv_start S hr.hd e0 hl r x
  refine wpAny_mono (ht [] s1 (start N vs) H _ I hq) (fun fl s' hs=>?_) fun e s' hs=>hs
  have fin:∀ {σ':St} {H':Hp} {v:V} {u:Value},Inv (cxOf CX P w K mg base N qual scope f cdv A outer s H E) [] σ' H' s'->RelV v u->Q v H'->CE outer P w H s Q u s' :=
    fun {σ' H' v u} J rv q=>⟨v,H',J.os,J.bare,J.base,J.hok,rv,q⟩
  cases fl with
  | ret u =>
    obtain⟨v,σ',H',J,rv,q⟩:=hs
    exact fin J rv q
  | next =>
    obtain⟨σ',H',J,q⟩:=hs
    exact fin (v:=V.non) (u:=Value.none) J rfl q
  | brk =>
    obtain⟨_,_,_,q⟩:=hs
    exact False.elim q
  | cont =>
    obtain⟨_,_,_,q⟩:=hs
    exact False.elim q
end L2
namespace L2
open PySem PySem.Spec PyProof.Rows
section
variable {X:Cx} {x:Str} {p pos:Pos} {e:Expr} {es:List Expr} {t:TA} {id T:String} {r:List V->Hp->VK->Prop}
def tCB(r:List V->Hp->VK->Prop)(t:TA):TE:=fun σ H Q=>t σ H fun vs H1=>r vs H1 Q
theorem pe_callB(hc:CallR X (.builtin id) r)(hg:Gl X x)(hm:X.mg x=none)(hv:bootBuiltins x=some (.builtin id))(ha:PA X (e::es) t)(hn:x≠"__name__":=by decide)(hdb:(x==("__debug__":Str))=false:=by decide)
  (he:starEach (e::es) X.env=(false,eval e X.env)::starEach es X.env:=by rfl) (hpl:(backTo pos (starEach es X.env)).any (·.1)=false:=by rfl):PE X (.Call (.Name x p) (e::es) [] pos) (tCB r t):=by
 intro pins s σ H Q I h
 refine wpAny_Call_Name_kw (ld_blt I hg hm hv ?_ hn hdb)
 exact PyProof.Rows.callWith_builtin1 (thn (ha pos pins s σ H _ I h) fun us s1 ⟨vs,H1,I1,r1,q1⟩=>hc pins s1 σ H1 vs us Q I1 r1 q1) he hpl
theorem pe_callTy(hc:CallR X (.type T) r)(hg:Gl X x)(hm:X.mg x=none)(hv:bootBuiltins x=some (.type T))(ha:PA X (e::es) t)(hn:x≠"__name__":=by decide)(hdb:(x==("__debug__":Str))=false:=by decide)
  (he:starEach (e::es) X.env=(false,eval e X.env)::starEach es X.env:=by rfl) (hpl:(backTo pos (starEach es X.env)).any (·.1)=false:=by rfl):PE X (.Call (.Name x p) (e::es) [] pos) (tCB r t):=by
 intro pins s σ H Q I h
 refine wpAny_Call_Name_kw (ld_blt I hg hm hv ?_ hn hdb)
 exact PyProof.Rows.callWith_type1 (thn (ha pos pins s σ H _ I h) fun us s1 ⟨vs,H1,I1,r1,q1⟩=>hc pins s1 σ H1 vs us Q I1 r1 q1) he hpl
end
end L2
namespace HT
open PySem PyProof.Rows
section
open PySem.SeqAt
open PySem.AutoSeq1 (wpAny_loadPart')
open PySem.MeetsSeq PySem.MeetsSeq2 PySem.MeetsSeq3
end
section
variable {prog:Program} {w:World} {A:Around} {E:Value->Shared->Prop} {s:Shared}
theorem cat_tup{t b:Addr}{vs ws:List Value}{Q:Value->Shared->Prop}(ht:IsTup s.heap t vs.toArray)(hb:IsTup s.heap b ws.toArray)(hv:vs≠[])
  (h1:ws=[]->Q (.ref t) s) (h2:ws≠[]->Q (.ref s.heap.objs.size) { s with heap:=s.heap.push { cls:=.type "tuple",data:=.seq (vs++ws).toArray } })
  (hsz:vs.length+ws.length<=sizeLine):wpAny (model prog w) A (binaryOp .Add (.ref t) (.ref b)) Q E s:=by
 obtain⟨⟨cls,dd,data,sl⟩,ho,hc,n,hd⟩:=id ht
 obtain⟨⟨cls2,dd2,data2,sl2⟩,ho2,hc2,n2,hd2⟩:=id hb
 simp only at hc hd hc2 hd2
 subst hc hd hc2 hd2
 have e:vs.toArray++ws.toArray=(vs++ws).toArray:=by simp
 by_cases hw:ws=[]
 ·exact concat_meets ⟨_,ho,rfl⟩ ⟨_,ho2,rfl⟩ noFill_tuple_add seq_tuple_add PySem.F.slot_tuple_add PySem.F.entry_tuple_add (PySem.F.args_tuple_add_2 _ _)
   (tuple_addW1 t b vs.toArray ws.toArray n n2 dd dd2 sl sl2 (by simpa using hv) (by simp[hw])) ⟨ho,ho2,h1 hw⟩
 ·refine concat_meets ⟨_,ho,rfl⟩ ⟨_,ho2,rfl⟩ noFill_tuple_add seq_tuple_add PySem.F.slot_tuple_add PySem.F.entry_tuple_add (PySem.F.args_tuple_add_2 _ _)
   (tuple_addW2 t b vs.toArray ws.toArray n n2 dd dd2 sl sl2 (by simpa using hv) (by simpa using hw) (by rw[List.size_toArray,List.size_toArray];exact hsz)) ⟨ho,ho2,?_⟩
  rw[e]
  exact h2 hw
def sIx(n d:Nat):Option Int->Nat
 | none=>d
 | some v=>if v<0 then(v+(n:Int)).toNat else min v.toNat n
theorem sIx_le(n d:Nat)(hd:d<=n)(o:Option Int):sIx n d o<=n:=by
  cases o with
  | none=>exact hd
  | some v =>
    show(if v<0 then(v+(n:Int)).toNat else min v.toNat n)<=n
    by_cases hv:v<0
    · rw[if_pos hv];omega
    · rw[if_neg hv];exact Nat.min_le_right _ _
theorem clip_eq(v:Int)(n d:Nat):(if v<0 then max (v+(n:Int)) 0 else min v (n:Int))=((sIx n d (some v):Nat):Int):=by
 show(if v<0 then max (v+(n:Int)) 0 else min v (n:Int))=(((if v<0 then(v+(n:Int)).toNat else min v.toNat n):Nat):Int)
 by_cases hv:v<0
 ·simp only[if_pos hv];omega
 ·simp only[if_neg hv];omega
theorem adjust_gen(lo hi:Option Int)(n:Nat):Builtin.Slice.sliceAdjust lo hi 1 (n:Int)=(((sIx n 0 lo:Nat):Int),((sIx n n hi:Nat):Int)):=by
 have h1:¬ ((1:Int)<0):=by omega
 unfold Builtin.Slice.sliceAdjust
 simp only[h1,if_false]
 refine Prod.ext ?_ ?_
 ·cases lo with
  | none=>rfl
  | some v=>exact clip_eq v n 0
 ·cases hi with
  | none=>rfl
  | some v=>exact clip_eq v n n
theorem places_gen(i j:Nat):Builtin.Slice.slicePlaces (i:Int) (j:Int) 1=j-i:=by
 unfold Builtin.Slice.slicePlaces
 have h1:(1:Int)>0:=by omega
 simp only[h1,if_true,Int.ediv_one]
 split<;>omega
theorem slicePart_{v:Value}{o:Option Int}{Q:Option Int->Shared->Prop}(p:IsPart v o)(h:Q o s):wpAny (model prog w) A (Builtin.Slice.slicePartIndex v) Q E s:=by
 cases p with
 | none=>exact slicePart_none h
 | int i t=>exact slicePart_int h
theorem sliceApplied_gen{sl:Addr}{vl vu:Value}{lo hi:Option Int}{n:Nat}{Q:Int×Int×Nat->Shared->Prop}(hs:s.heap.IsSliceOf sl vl vu .none)(pl:IsPart vl lo)(pu:IsPart vu hi)
  (h:Q (((sIx n 0 lo:Nat):Int),1,sIx n n hi-sIx n 0 lo) s):wpAny (model prog w) A (Builtin.Slice.sliceApplied (.ref sl) (pure (n:Int))) Q E s:=by
 obtain⟨os,hos,hcs,hds⟩:=id hs
 unfold Builtin.Slice.sliceApplied Builtin.Slice.sliceFields
 refine wpAny_bind (wpAny_bind (wpAny_field hos hds (x:=vl) rfl (wpAny_bind (wpAny_field hos hds (x:=vu) rfl (wpAny_bind (wpAny_field hos hds (x:=.none) rfl (wpAny_pure ?_)))))))
 refine wpAny_bind (slicePart_none ?_)
 show wpAny _ _ (if((1:Int)==0)=true then _ else _) _ _ s
 rw[if_neg (by decide)]
 refine wpAny_bind (slicePart_ pl (wpAny_bind (slicePart_ pu (wpAny_bind (wpAny_pure ?_)))))
 show wpAny _ _ (match Builtin.Slice.sliceAdjust lo hi 1 (n:Int) with | (lo,hi)=>pure (lo,(1:Int),Builtin.Slice.slicePlaces lo hi 1)) _ _ s
 rw[adjust_gen lo hi n]
 show wpAny _ _ (pure (((sIx n 0 lo:Nat):Int),(1:Int),Builtin.Slice.slicePlaces ((sIx n 0 lo:Nat):Int) ((sIx n n hi:Nat):Int) 1)) _ _ s
 rw[places_gen]
 exact wpAny_pure h
theorem pick_gen(xs:Array Value)(i k:Nat):((List.range k).filterMap fun(m:Nat)=>xs[((i:Int)+(m:Int)*1).toNat]?).toArray=((xs.toList.drop i).take k).toArray:=by
 have e:(fun(m:Nat)=>xs[((i:Int)+(m:Int)*1).toNat]?)=fun m=>xs[i+m]?:=by
  funext m
  have:((i:Int)+(m:Int)*1).toNat=i+m:=by omega
  rw[this]
 rw[e]
 have:=pick_run xs i k
 rw[List.filterMap_map] at this
 have e2:((fun x=>xs[x]?)∘fun x=>i+x)=fun m=>xs[i+m]?:=rfl
 rw[e2] at this
 rw[this]
theorem getItem_tuple_cut{t sl:Addr}{items:Array Value}{vl vu:Value}{lo hi:Option Int}{Q:Value->Shared->Prop}(ht:IsTup s.heap t items)(hs:s.heap.IsSliceOf sl vl vu .none)(pl:IsPart vl lo)(pu:IsPart vu hi)
    (hw:¬ (sIx items.size 0 lo=0/\sIx items.size items.size hi=items.size))
    (h:Q (.ref s.heap.objs.size) { s with heap:=s.heap.push { cls:=.type "tuple",data:=.seq ((items.toList.drop (sIx items.size 0 lo)).take (sIx items.size items.size hi-sIx items.size 0 lo)).toArray } })
    (hsz:items.size<=sizeLine):wpAny (model prog w) A (getItem (.ref t) (.ref sl)) Q E s:=by
  have htake:sizeOk (.seq ((items.toList.drop (sIx items.size 0 lo)).take (sIx items.size items.size hi-sIx items.size 0 lo)).toArray):=by
    show((items.toList.drop (sIx items.size 0 lo)).take (sIx items.size items.size hi-sIx items.size 0 lo)).toArray.size<=sizeLine
    rw[List.size_toArray,List.length_take,List.length_drop,Array.length_toList]
    omega
  have hj:sIx items.size items.size hi<=items.size:=sIx_le _ _ (Nat.le_refl _) hi
  obtain⟨os,hos,hcs,hds⟩:=id hs
  have hTs:s.TypeIs (.ref sl) "slice":=⟨os,hos,hcs⟩
  unfold getItem
  try with_reducible refine wpAny_holding ?_
  first | refine wpAny_bind (wpAny_pure ?_) | skip
  refine wpAny_bind (wpAny_sequenceKey ht.typeIs (by decide) ?_)
  refine wpAny_bind (wpAny_callSpecial?_slot (name:=Str.ofString "__getitem__") ht.typeIs PyProof.Rows.slot_tuple_getitem
    (wpAny_call_entry PyProof.Rows.slot_tuple_getitem ht.typeIs entry_tuple_getitem ?_ (args_tuple_getitem _ _)))
  show wpAny _ _ (Builtin.Tuple.tupleItemsOf (.ref t) >>=_) _ _ s
  refine wpAny_bind (tupleItemsOf_ ht ?_)
  refine wpAny_bind (wpAny_typeOf hTs ?_)
  rw[if_pos (by decide)]
  refine wpAny_bind (sliceApplied_gen hs pl pu ?_)
  have hno:¬ ((((sIx items.size 0 lo:Nat):Int)==0&&(1:Int)==1&&(sIx items.size items.size hi-sIx items.size 0 lo)==items.size)=true):=by
    intro q
    rw[Bool.and_eq_true,Bool.and_eq_true] at q
    have q1:((sIx items.size 0 lo:Nat):Int)=0:=eq_of_beq q.1.1
    have q2:sIx items.size items.size hi-sIx items.size 0 lo=items.size:=eq_of_beq q.2
    exact hw ⟨by omega,by omega⟩
  show wpAny _ _ (if(((sIx items.size 0 lo:Nat):Int)==0&&(1:Int)==1&&(sIx items.size items.size hi-sIx items.size 0 lo)==items.size)=true then _ else _) _ _ s
  rw[if_neg hno,pick_gen]
  first
    | exact wpAny_bind (m:=Builtin.Tuple.tupleExact _) (wpAny_newObj_type (wpAny_pure ⟨_,rfl,wpAny_pure h⟩) htake)
    | exact wpAny_bind (m:=Builtin.Tuple.tupleExact _) (wpAny_newObj_type (wpAny_bind (wpAny_pure (wpAny_pure ⟨_,rfl,wpAny_pure h⟩))) htake)
    | exact wpAny_bind (wpAny_bind (m:=Builtin.Tuple.tupleExact _) (wpAny_newObj_type (wpAny_pure (wpAny_pure ⟨_,rfl,wpAny_pure h⟩)) htake))
    | exact wpAny_bind (wpAny_bind (m:=Builtin.Tuple.tupleExact _) (wpAny_newObj_type (wpAny_pure ⟨_,rfl,wpAny_pure h⟩) htake))
end
end HT
namespace L2
open PySem PySem.Spec PyProof.Rows
abbrev TO:=St->Hp->(Option Int->Hp->Prop)->Prop
def PO(X:Cx)(e:Option Expr)(t:TO):Prop :=
  ∀ (pins : List (Addr × Obj)) (s : Shared) (σ : St) (H : Hp) (Q : Option Int -> Hp -> Prop), Inv X pins σ H s -> t σ H Q ->
    wpAny (model X.prog X.w) X.A (evalPart e X.env) (fun u s'=>∃ o H',Inv X pins σ H' s'/\IsPart u o/\Q o H') X.xe s
def tNoPart:TO:=fun _ H Q=>Q none H
def tPart(t:TE):TO:=fun σ H Q=>t σ H fun x H1=>∃ i,x=.int i/\Q (some i) H1
theorem intsAre_of{ns:List Int}:∀ {us:List Value},Vals (ns.map V.int) us->IntsAre us ns:=by
  induction ns with
  | nil=>intro us r;rw[List.map_nil] at r;cases r;exact .nil
  | cons n ns ih =>
    intro us r
    rw[List.map_cons] at r
    cases r with
    | cons r1 r2 =>
      obtain⟨t,e⟩:=r1
      subst e
      exact .cons n t (ih r2)
section
variable {X:Cx} {e:Expr} {te:TE} {lo hi:Option Expr} {tl th:TO} {pos p2:Pos}
theorem po_none:PO X none tNoPart:=by
 intro pins s σ H Q I h
 rw[evalPart_none]
 exact wpAny_pure ⟨none,H,I,.none,h⟩
theorem po_some(h:PE X e te):PO X (some e) (tPart te):=by
 intro pins s σ H Q I hw
 rw[evalPart_some]
 refine thn (h pins s σ H _ I hw) fun u s1 ⟨x,H1,I1,r1,q1⟩=>?_
 obtain⟨i,rfl,q⟩:=q1
 obtain⟨t,rfl⟩:=r1
 exact⟨some i,H1,I1,.int i t,q⟩
def SlR(X:Cx)(r:V->Option Int->Option Int->Hp->VK->Prop):Prop :=
  ∀ (pins : List (Addr × Obj)) (s : Shared) (σ : St) (H : Hp) (x : V) (v vl vu : Value) (lo hi : Option Int) (sl : Addr) (Q : VK), Inv X pins σ H s -> RelV x v -> s.heap.IsSliceOf sl vl vu .none -> IsPart vl lo -> IsPart vu hi -> r x lo hi H Q ->
    ∃ T id,typeLookup (.type T) "__getitem__"=pure (some (.builtin id))/\s.TypeIs v T/\wpAny (model X.prog X.w) X.A (getItem v (.ref sl)) (EP X pins σ Q) X.xe s
def tSl(r:V->Option Int->Option Int->Hp->VK->Prop)(te:TE)(tl th:TO):TE:=fun σ H Q=>te σ H fun x H1=>tl σ H1 fun l H2=>th σ H2 fun u H3=>r x l u H3 Q
theorem pe_slice{r:V->Option Int->Option Int->Hp->VK->Prop}(hr:SlR X r)(he:PE X e te)(hl:PO X lo tl)(hu:PO X hi th):PE X (.Subscript e (.Slice lo hi none p2) pos) (tSl r te tl th):=by
 intro pins s σ H Q I h
 refine Subscript_ (thn (he pins s σ H _ I h) fun v s1 ⟨x,H1,I1,r1,q1⟩=>?_)
 refine wpAny_Slice (thn (hl pins s1 σ H1 _ I1 q1) fun vl s2 ⟨l,H2,I2,pl,q2⟩=>thn (hu pins s2 σ H2 _ I2 q2) fun vu s3 ⟨u,H3,I3,pu,q3⟩=>?_)
 rw[evalPart_none]
 refine wpAny_pure ?_
 have I4:Inv X pins σ H3 { s3 with heap:=s3.heap.push { cls:=.type "slice",data:=.fields #[vl,vu,.none] } }:=I3.kept (t':=s3.toks) fun b ob q=>Heap.get?_push_of_some _ q
 obtain⟨T,id,hT,ht,hg⟩:=hr pins { s3 with heap:=s3.heap.push { cls:=.type "slice",data:=.fields #[vl,vu,.none] } } σ H3 x v vl vu l u s3.heap.objs.size Q I4 r1 (Heap.IsSliceOf.new ..) pl pu q3
 show wpAny (model X.prog X.w) X.A (subscriptTail e (.Slice lo hi none p2) v (.ref s3.heap.objs.size)) (EP X pins σ Q) X.xe { s3 with heap:=s3.heap.push { cls:=.type "slice",data:=.fields #[vl,vu,.none] } }
 exact tail_any (ops:=[.ref s3.heap.objs.size,v]) ht hT hg (by with_unfolding_all rfl)
def cutV(xs:List V)(lo hi:Option Int):List V:=(xs.drop (HT.sIx xs.length 0 lo)).take (HT.sIx xs.length xs.length hi-HT.sIx xs.length 0 lo)
theorem cutV_length(xs:List V)(lo hi:Option Int):(cutV xs lo hi).length<=xs.length:=by
 unfold cutV
 rw[List.length_take,List.length_drop]
 omega
def rSlT(K:PySem.W.Frag):V->Option Int->Option Int->Hp->VK->Prop:=fun x lo hi H Q=>∃ a xs,x=.ref a/\SqT K H a xs /\
 ¬ (HT.sIx xs.length 0 lo=0/\HT.sIx xs.length xs.length hi=xs.length)/\∀ p,H p=none->Q (.ref p) (upd H p (.tup (cutV xs lo hi)))
theorem sl_tup:SlR X (rSlT X.K):=by
 intro pins s σ H x v vl vu lo hi sl Q I rx hs pl pu h
 obtain⟨a,xs,rfl,hx,hw,q⟩:=h
 cases rx
 obtain⟨its,r,ht,hz⟩:=I.tuple hx
 have hlen:its.toArray.size=xs.length:=by rw[List.size_toArray];exact r.length.symm
 refine⟨"tuple",_,PyProof.Rows.slot_tuple_getitem.lookup,ht.typeIs,?_⟩
 refine HT.getItem_tuple_cut ht hs pl pu (by rw[hlen];exact hw) ?_ (by rw[hlen];exact hz)
 rw[hlen]
 refine⟨.ref s.heap.objs.size,_,I.laid (t':=s.toks) (o:=.tup (cutV xs lo hi)) (fun b ob q=>Heap.get?_push_of_some _ q) (Nat.le_refl _) ?_,rfl,q _ (I.hok.fresh (Nat.le_refl _))⟩
 exact⟨Nat.le_trans (cutV_length xs lo hi) hz,_,(r.drop (HT.sIx xs.length 0 lo)).take (HT.sIx xs.length xs.length hi-HT.sIx xs.length 0 lo),IsTup.new _ _⟩
def rCatT(K:PySem.W.Frag):R2:=fun x y H Q=>∃ a b xs ys,x=.ref a/\y=.ref b/\SqT K H a xs/\SqT K H b ys/\xs≠[]/\xs.length+ys.length<=sizeLine /\
 (ys=[]->Q (.ref a) H)/\(ys≠[]->∀ p,H p=none->Q (.ref p) (upd H p (.tup (xs++ys))))
theorem Vals.nil_iff{xs:List V}{us:List Value}(r:Vals xs us):us=[]↔xs=[]:=by
 cases r with
 | nil=>simp
 | cons _ _=>simp
theorem op_catT:OpR X (binaryOp .Add) (rCatT X.K):=by
 intro pins s σ H x y v u Q I rx ry h
 obtain⟨a,b,xs,ys,rfl,rfl,ha,hb,hx,hz,q1,q2⟩:=h
 cases rx
 cases ry
 obtain⟨its,r1,p1,_⟩:=I.tuple ha
 obtain⟨its2,r2,p2,_⟩:=I.tuple hb
 refine HT.cat_tup p1 p2 (fun z=>hx (r1.nil_iff.mp z)) (fun z=>⟨.ref a,H,I,rfl,q1 (r2.nil_iff.mp z)⟩) (fun z=>?_) (by rw[<- r1.length,<- r2.length];exact hz)
 refine⟨.ref s.heap.objs.size,_,I.laid (t':=s.toks) (o:=.tup (xs++ys)) (fun b ob q=>Heap.get?_push_of_some _ q) (Nat.le_refl _) ?_,rfl,q2 (fun w=>z (r2.nil_iff.mpr w)) _ (I.hok.fresh (Nat.le_refl _))⟩
 exact⟨by rw[List.length_append];exact hz,_,r1.append r2,IsTup.new _ _⟩
end
end L2
namespace L2
open PySem PySem.Spec PyProof.Rows
def ixN(n:Nat)(i:Int):Option Nat:=if 0<=i then(if i<n then some i.toNat else none) else if -(n:Int)<=i then some (i+n).toNat else none
def atI{α:Type}(xs:List α)(i:Int):Option α:=(ixN xs.length i).bind fun j=>xs[j]?
theorem ixN_seq{n:Nat}{i:Int}{j:Nat}(h:ixN n i=some j):seqIndex? i n=some j/\j<n /\ -(n:Int)<=i/\i<n:=by
 unfold ixN at h
 by_cases h0:0<=i
 ·rw[if_pos h0] at h
  by_cases h1:i<n
  ·rw[if_pos h1] at h
   have e:i.toNat=j:=Option.some.inj h
   exact⟨by rw[seqIndex_of h0 h1,e],by omega,by omega,h1⟩
  ·rw[if_neg h1] at h;cases h
 ·rw[if_neg h0] at h
  by_cases h1:-(n:Int)<=i
  ·rw[if_pos h1] at h
   have e:(i+n).toNat=j:=Option.some.inj h
   exact⟨by rw[seqIndex_neg (by omega) h1,e],by omega,h1,by omega⟩
  ·rw[if_neg h1] at h;cases h
theorem atI_get{α:Type}{xs:List α}{i:Int}{v:α}(h:atI xs i=some v):∃ j,seqIndex? i xs.length=some j/\xs[j]?=some v/\j<xs.length /\ -(xs.length:Int)<=i/\i<xs.length:=by
  unfold atI at h
  cases e:ixN xs.length i with
  | none=>rw[e] at h;cases h
  | some j =>
    rw[e] at h
    obtain⟨h1,h2,h3,h4⟩:=ixN_seq e
    exact⟨j,h1,h,h2,h3,h4⟩
def PlainIx(b:Expr):Prop:=∀ o i,subscripted b false o i=operate [o,i] (getItem o i)
def IxR(X:Cx)(r:R2):Prop :=
  ∀ (value slice : Expr) (pins : List (Addr × Obj)) (s : Shared) (σ : St) (H : Hp) (x y : V) (v u : Value) (Q : VK), Inv X pins σ H s -> RelV x v -> RelV y u -> r x y H Q ->
    subscripted slice false v u=operate [v,u] (getItem v u)->wpAny (model X.prog X.w) X.A (subscriptTail value slice v u) (EP X pins σ Q) X.xe s
def MtR(X:Cx)(id:String)(r:V->List V->Hp->VK->Prop):Prop :=
  ∀ (pins : List (Addr × Obj)) (s : Shared) (σ : St) (H : Hp) (x : V) (xs : List V) (v : Value) (us : List Value) (Q : VK), Inv X pins σ H s -> RelV x v -> Vals xs us -> r x xs H Q ->
    wpAny (model X.prog X.w) X.A (call (.builtin id) (v::us)) (EP X pins σ Q) X.xe s
section
variable {X:Cx} {a b:Expr} {ta tb:TE} {pos:Pos}
theorem pe_ix{r:R2}(hr:IxR X r)(ha:PE X a ta)(hb:PE X b tb)(hs:PlainIx b):PE X (.Subscript a b pos) (tOp r ta tb):=by
 intro pins s σ H Q I h
 exact Subscript_ (binT ha hb I h fun v u s2 x y H2 I2 rx ry q=>hr a b pins s2 σ H2 x y v u Q I2 rx ry q (hs _ _))
def rIxL(K:PySem.W.Frag):R2:=fun x y H Q=>∃ p xs i v,x=.ref p/\y=.int i/\SqL K H p xs/\atI xs i=some v/\Q v H
def rIxT(K:PySem.W.Frag):R2:=fun x y H Q=>∃ p xs i v,x=.ref p/\y=.int i/\SqT K H p xs/\atI xs i=some v/\Q v H
theorem ix_list:IxR X (rIxL X.K):=by
 intro value slice pins s σ H x y v u Q I rx ry h hs
 obtain⟨p,xs,i,z,rfl,rfl,hq,he,q⟩:=h
 cases rx
 obtain⟨t,rfl⟩:=ry
 obtain⟨its,r,pl,hz⟩:=I.list hq
 obtain⟨j,h1,h2,h3,h4,h5⟩:=atI_get he
 obtain⟨w,ew,rw'⟩:=r.get h2
 have hl:=r.length
 have hn:=line63
 have fin:EP X pins σ Q w s:=⟨z,H,I,rw',q⟩
 by_cases h0:0<=i
 ·have hj:i.toNat=j:=by
   rw[seqIndex_of h0 h5] at h1
   exact Option.some.inj h1
  exact item_listR pl.isList h0 (by omega) (by rw[hj];simpa using ew) fin hs
 ·have hj:(i+(its.toArray.size:Int)).toNat=j:=by
   rw[seqIndex_neg (by omega) h4] at h1
   rw[List.size_toArray,<- hl]
   exact Option.some.inj h1
  exact subscriptTail_builtinR (x:=w) pl.isList.typeIs slot_list_getitem.lookup
   (wpAny_getItem_list_neg (Q:=fun r s'=>r=w/\EP X pins σ Q r s') pl.isList (by omega) (by rw[List.size_toArray]<;>omega) (by omega) (by rw[hj];simpa using ew) ⟨rfl,fin⟩) hs
theorem ix_tup:IxR X (rIxT X.K):=by
 intro value slice pins s σ H x y v u Q I rx ry h hs
 obtain⟨p,xs,i,z,rfl,rfl,hq,he,q⟩:=h
 cases rx
 obtain⟨t,rfl⟩:=ry
 obtain⟨its,r,pl,hz⟩:=I.tuple hq
 obtain⟨j,h1,h2,h3,h4,h5⟩:=atI_get he
 obtain⟨w,ew,rw'⟩:=r.get h2
 have hl:=r.length
 have hn:=line63
 have fin:EP X pins σ Q w s:=⟨z,H,I,rw',q⟩
 exact subscriptTail_builtinR (x:=w) pl.typeIs slot_tuple_getitem.lookup
  (getItem_tuple (j:=j) (Q:=fun r s'=>r=w/\EP X pins σ Q r s') pl (by omega) (by omega) (by rw[List.size_toArray,<- hl];exact h1) (by simpa using ew) ⟨rfl,fin⟩) hs
theorem mapSeq_set(its:List Value)(n j:Nat)(u:Value):Obj.mapSeq (·.setIfInBounds j u) { cls:=.type "list",data:=.seq its.toArray n }={ cls:=.type "list",data:=.seq (its.set j u).toArray n }:=by
 simp[Obj.mapSeq]
theorem Inv.lst{pins:List (Addr×Obj)}{σ:St}{H:Hp}{s:Shared}{p:Addr}{xs:List V}(I:Inv X pins σ H s)(h:H p=some (.lst xs)) :
  ∃ (its:List Value) (n:Nat),Vals xs its/\s.heap.get? p=some { cls:=.type "list",data:=.seq its.toArray n }/\xs.length<=sizeLine:=by
 obtain⟨z,its,n,r,e⟩:=I.hok p _ h
 exact⟨its,n,r,e,z⟩
theorem Inv.lstUpd{pins:List (Addr×Obj)}{σ:St}{H:Hp}{s:Shared}{p:Addr}{xs ys:List V}{its its':List Value}{n n':Nat}{f:Obj->Obj}(I:Inv X pins σ H s)(h:H p=some (.lst xs))
  (ho:s.heap.get? p=some { cls:=.type "list",data:=.seq its.toArray n }) (hf:f { cls:=.type "list",data:=.seq its.toArray n }={ cls:=.type "list",data:=.seq its'.toArray n' }) (r:Vals ys its') (hz:ys.length<=sizeLine) (t:Nat) :
  Inv X pins σ (upd H p (.lst ys)) { s with heap:=s.heap.update p f,toks:=t }:=by
 have e:(s.heap.update p f).get? p=some { cls:=.type "list",data:=.seq its'.toArray n' }:=by
  rw[Heap.get?_update_self f ho (by rw[hf]<;>rfl),hf]
 refine I.write (x:=p) (e:=p) (by rw[h];trivial) (.inl rfl) (fun b u hb q=>(Heap.get?_update_other _ _ (Ne.symm hb)).trans q) ⟨_,e⟩ ?_
 exact⟨hz,its',n',r,e⟩
def rSetL:V->V->V->Hp->(Hp->Prop)->Prop:=fun o i v H Q=>∃ p xs k j,o=.ref p/\i=.int k/\H p=some (.lst xs)/\ixN xs.length k=some j/\Q (upd H p (.lst (xs.set j v)))
theorem set_list:PSet X rSetL:=by
 intro pins s σ H o i v ov iv u Q I ro ri rv h
 obtain⟨p,xs,k,j,rfl,rfl,hp,hj,q⟩:=h
 cases ro
 obtain⟨t,rfl⟩:=ri
 obtain⟨its,n,r,ho,hz⟩:=I.lst hp
 obtain⟨h1,h2,h3,h4⟩:=ixN_seq hj
 have hl:=r.length
 have hn:=line63
 have I':Inv X pins σ (upd H p (.lst (xs.set j v))) { s with heap:=s.heap.update p (Obj.mapSeq (·.setIfInBounds j u)) } :=
  I.lstUpd hp ho (mapSeq_set its n j u) (r.set rv j) (by rw[List.length_set];exact hz) s.toks
 by_cases h0:0<=k
 ·have hk:k.toNat=j:=by
   rw[seqIndex_of h0 h4] at h1
   exact Option.some.inj h1
  exact PySem.W.ki_setAt ho h0 (by omega) (by rw[List.size_toArray,<- hl];exact h4) (by rw[hk];exact⟨_,I',q⟩)
 ·have hk:(k+(its.toArray.size:Int)).toNat=j:=by
   rw[seqIndex_neg (by omega) h3] at h1
   rw[List.size_toArray,<- hl]
   exact Option.some.inj h1
  exact PySem.W.ki_setBack ho (by omega) (by rw[List.size_toArray,<- hl];exact h3) (by omega) (by rw[hk];exact⟨_,I',q⟩)
theorem slice_bounds(lo hi:Option Int)(n:Nat):(sliceBounds lo hi none n).1=((HT.sIx n 0 lo:Nat):Int)/\(sliceBounds lo hi none n).2.1=((HT.sIx n n hi:Nat):Int)/\(sliceBounds lo hi none n).2.2=1:=by
  refine⟨?_,?_,rfl⟩
  · cases lo with
    | none=>simp[sliceBounds,HT.sIx]
    | some i =>
      simp only[sliceBounds,HT.sIx,Option.getD_none,show(1:Int)>0 by decide,if_true]
      by_cases h:i<0
      · simp only[h,if_true]<;>omega
      · simp only[h,if_false]<;>omega
  · cases hi with
    | none=>simp[sliceBounds,HT.sIx]
    | some i =>
      simp only[sliceBounds,HT.sIx,Option.getD_none,show(1:Int)>0 by decide,if_true]
      by_cases h:i<0
      · simp only[h,if_true]<;>omega
      · simp only[h,if_false]<;>omega
theorem slicePick_cut(its:List Value)(lo hi:Option Int):slicePick its.toArray lo hi none=((its.drop (HT.sIx its.length 0 lo)).take (HT.sIx its.length its.length hi-HT.sIx its.length 0 lo)).toArray:=by
 obtain⟨h1,h2,h3⟩:=slice_bounds lo hi its.toArray.size
 unfold slicePick
 rw[h1,h2,h3]
 simp only[sliceRange_one,pick_run,List.size_toArray]<;>rfl
def rSlL(K:PySem.W.Frag):V->Option Int->Option Int->Hp->VK->Prop:=fun x lo hi H Q=>∃ a xs,x=.ref a/\SqL K H a xs/\∀ p,H p=none->Q (.ref p) (upd H p (.lst (cutV xs lo hi)))
theorem sl_list:SlR X (rSlL X.K):=by
 intro pins s σ H x v vl vu lo hi sl Q I rx hs pl pu h
 obtain⟨a,xs,rfl,hx,q⟩:=h
 cases rx
 obtain⟨its,r,ht,hz⟩:=I.list hx
 have hlen:=r.length
 refine⟨"list",_,slot_list_getitem.lookup,ht.isList.typeIs,?_⟩
 refine wpAny_getItem_list_slice ht.isList hs pl pu .none (by simp) ?_ (by rw[List.size_toArray]<;>omega)
 rw[slicePick_cut,<- hlen]
 refine⟨.ref s.heap.objs.size,_,I.laid (t':=s.toks) (o:=.lst (cutV xs lo hi)) (fun b ob q=>Heap.get?_push_of_some _ q) (Nat.le_refl _) ?_,rfl,q _ (I.hok.fresh (Nat.le_refl _))⟩
 exact⟨Nat.le_trans (cutV_length xs lo hi) hz,_,0,(r.drop (HT.sIx xs.length 0 lo)).take (HT.sIx xs.length xs.length hi-HT.sIx xs.length 0 lo),Heap.get?_push_size _ rfl⟩
theorem call_len_seq:CallR X (.builtin "len") (fun xs H Q=>∃ p ys,xs=[.ref p]/\(SqL X.K H p ys\/SqT X.K H p ys)/\Q (.int ys.length) H):=by
 intro pins s σ H xs us Q I r h
 obtain⟨p,ys,rfl,hq,q⟩:=h
 obtain⟨u,rfl,rx⟩:=vals1 r
 cases rx
 have hn:=line63
 rcases hq with hq | hq
 ·obtain⟨its,r',pl,hz⟩:=I.list hq
  have hlen:=r'.length
  exact Calls.call_len_list pl.isList (by simp only[List.size_toArray]<;>omega) ⟨.int ys.length,H,I.tok _,⟨s.toks+1,by rw[List.size_toArray,hlen]⟩,q⟩
 ·obtain⟨its,r',pl,hz⟩:=I.tuple hq
  have hlen:=r'.length
  exact len_tuple pl (by simp only[List.size_toArray]<;>omega) ⟨.int ys.length,H,I.tok _,⟨s.toks+1,by rw[List.size_toArray,hlen]⟩,q⟩
theorem call_list_of:CallR X (.type "list") (fun xs H Q=>∃ p ys,xs=[.ref p]/\(SqL X.K H p ys\/SqT X.K H p ys)/\∀ l,H l=none->Q (.ref l) (upd H l (.lst ys))):=by
 intro pins s σ H xs us Q I r h
 obtain⟨p,ys,rfl,hq,q⟩:=h
 obtain⟨u,rfl,rx⟩:=vals1 r
 cases rx
 have fin:∀ (its:List Value),Vals ys its->ys.length<=sizeLine->∀ (h':Heap) (c':Nat),(∀ b o',s.heap.get? b=some o'->h'.get? b=some o') ->
   h'.get? s.heap.objs.size=some { cls:=.type "list",dict:=none,data:=.seq its.toArray c',slots := #[] }->EP X pins σ Q (.ref s.heap.objs.size) { s with heap:=h' }:=fun its r' hz h' c' kp e =>
  ⟨.ref s.heap.objs.size,_,I.laid (t':=s.toks) kp (Nat.le_refl _) (show ObjOk X.prog X.w _ h' _ (.lst ys) from⟨hz,its,c',r',e⟩),rfl,q _ (I.hok.fresh (Nat.le_refl _))⟩
 rcases hq with hq | hq
 ·obtain⟨its,r',pl,hz⟩:=I.list hq
  have hlen:=r'.length
  obtain⟨o,ho,hc,n,hd⟩:=pl.isList
  exact call_list_seq p (.inl rfl) ho hc hd (fun h' c' kp e=>fin its r' hz h' c' kp e) (by simp only[List.size_toArray]<;>omega)
 ·obtain⟨its,r',pl,hz⟩:=I.tuple hq
  have hlen:=r'.length
  obtain⟨o,ho,hc,n,hd⟩:=pl
  exact call_list_seq p (.inr rfl) ho hc hd (fun h' c' kp e=>fin its r' hz h' c' kp e) (by simp only[List.size_toArray]<;>omega)
theorem call_tuple_of:CallR X (.type "tuple") (fun xs H Q=>∃ p ys,xs=[.ref p]/\((SqL X.K H p ys/\∀ l,H l=none->Q (.ref l) (upd H l (.tup ys)))\/(SqT X.K H p ys/\Q (.ref p) H))):=by
 intro pins s σ H xs us Q I r h
 obtain⟨p,ys,rfl,h⟩:=h
 obtain⟨u,rfl,rx⟩:=vals1 r
 cases rx
 rcases h with⟨hq,q⟩ | ⟨hq,q⟩
 ·obtain⟨its,r',pl,hz⟩:=I.list hq
  have hlen:=r'.length
  refine call_tuple_list pl.isList (fun h' kp=>?_) (by simp only[List.size_toArray]<;>omega)
  have I1:Inv X pins σ H { s with heap:=h' }:=I.kept (t':=s.toks) kp
  have I2:Inv X pins σ (upd H h'.objs.size (.tup ys)) { s with heap:=h'.push { cls:=.type "tuple",data:=.seq its.toArray } } :=
   I1.laid (t':=s.toks) (fun b o e=>Heap.get?_push_of_some _ e) (Nat.le_refl _) (show ObjOk X.prog X.w _ _ _ (.tup ys) from⟨hz,its,r',IsTup.new _ _⟩)
  exact⟨.ref h'.objs.size,_,I2,rfl,q _ (I1.hok.fresh (Nat.le_refl _))⟩
 ·obtain⟨its,r',pl,hz⟩:=I.tuple hq
  exact call_tuple_same pl ⟨.ref p,H,I,rfl,q⟩
def tyV(K:PySem.W.Frag)(T:String)(x:V)(H:Hp):Prop:=match x with
 | .str _=>T="str"
 | .int _=>T="int"
 | .ref p => (T = "list" /\ ∃ xs, SqL K H p xs) \/ (T = "tuple" /\ ∃ o, K.lookup p = some o /\ o.cls = .type "tuple" /\ o.dict = none) \/
   (T="dict"/\((∃ kvs,H p=some (.dK kvs))\/∃ kvs,H p=some (.dT kvs)))\/(T="set"/\∃ S n,H p=some (.set S n))
 | _=>False
theorem tyV_is{pins:List (Addr×Obj)}{σ:St}{H:Hp}{s:Shared}{T:String}{x:V}{v:Value}(I:Inv X pins σ H s)(r:RelV x v)(ty:tyV X.K T x H) :
    s.TypeIs v T/\∀ a,v=.ref a->∃ ob,s.heap.get? a=some ob/\ob.dict=none:=by
  cases x with
  | str z =>
    obtain⟨t,rfl⟩:=r
    cases (show T="str" from ty)
    exact⟨typeIs_str s z t,fun _ e=>nomatch e⟩
  | int i =>
    obtain⟨t,rfl⟩:=r
    cases (show T="int" from ty)
    exact⟨typeIs_int s i t,fun _ e=>nomatch e⟩
  | ref p =>
    cases r
    rcases ty with⟨rfl,xs,hq⟩ | ⟨rfl,o,hk,hc,hd⟩ | ⟨rfl,hk⟩ | ⟨rfl,S,n,hk⟩
    · obtain⟨its,_,pl,_⟩:=I.list hq
      refine⟨pl.isList.typeIs,fun a e=>?_⟩
      cases e
      obtain⟨o,n,e,c,hd,_⟩:=pl
      exact⟨o,e,hd⟩
    · refine⟨⟨o,I.kIn p o hk,hc⟩,fun a e=>?_⟩
      cases e
      exact⟨o,I.kIn _ o hk,hd⟩
    · have z:∃ o,s.heap.get? p=some o/\o.ExactDict:=by
        rcases hk with⟨kvs,hk⟩ | ⟨kvs,hk⟩
        · obtain⟨_,_,_,_,o,_,_,e,ex,_⟩:=I.hok p _ hk
          exact⟨o,e,ex⟩
        · obtain⟨_,_,_,_,o,_,_,e,ex,_⟩:=I.hok p _ hk
          exact⟨o,e,ex⟩
      obtain⟨o,e,ex⟩:=z
      refine⟨⟨o,e,ex.1⟩,fun a e2=>?_⟩
      cases e2
      exact⟨o,e,ex.2.1⟩
    · obtain⟨o,_,_,_,e,ex,_⟩:=I.hok p _ hk
      refine⟨⟨o,e,ex.1⟩,fun a e2=>?_⟩
      cases e2
      exact⟨o,e,ex.2.1⟩
  | _=>exact False.elim ty
def tBM(K:PySem.W.Frag)(T:String)(r:V->List V->Hp->VK->Prop)(to:TE)(t:TA):TE:=fun σ H Q=>to σ H fun x H1=>tyV K T x H1/\t σ H1 fun xs H2=>r x xs H2 Q
variable {o e:Expr} {es:List Expr} {to:TE} {t:TA} {name:Str} {apos cpos:Pos} {T id:String} {r:V->List V->Hp->VK->Prop}
theorem pe_bm(pa:PlainAttrs T)(slot:Slot T name id)(hty:typeOf (.builtin id)=pure (.type "method_descriptor"))(hm:MtR X id r)(ho:PE X o to)(ha:PA X (e::es) t)
    (hbase:attributeBase o name X.env (eval o X.env)=eval o X.env:=by rfl)
    (hfew:((backTo cpos (starEach (e::es) X.env)).all (fun x => !x.1)&&(backToKw cpos (keywordEach [] X.env)).all (fun x=>x.1.isSome)
      && decide ((e::es).length+([]:List Keyword).length+(if([]:List Keyword).isEmpty then 0 else 1)<30))=true:=by rfl)
    (hline:(apos.endLine==cpos.line)=true:=by rfl) (hs:starEach (e::es) X.env=(false,eval e X.env)::starEach es X.env:=by rfl) (hplain:(backTo cpos (starEach es X.env)).any (·.1)=false:=by rfl) :
    PE X (.Call (.Attribute o name apos) (e::es) [] cpos) (tBM X.K T r to t):=by
  intro pins s σ H Q I h
  refine wpAny_Call_method_late hbase hfew hline rfl (thn (ho pins s σ H _ I h) fun v s1 ⟨x,H1,I1,r1,ty,q1⟩=>?_)
  obtain⟨h1,h2⟩:=tyV_is I1 r1 ty
  refine⟨T,id,pa,slot,hty,h1,h2,?_⟩
  have hA:=ha cpos pins s1 σ H1 _ I1 q1
  rw[hs] at hA ⊢
  refine Calls.callWith_builtin (by show(false||(backTo cpos (starEach es X.env)).any (·.1))=false;rw[hplain]<;>rfl) (Calls.evalArgs_plain ?_)
  exact thn hA fun us s2 ⟨vs,H2,I2,r2,q2⟩=>hm pins s2 σ H2 x vs v us Q I2 r1 r2 q2
end
end L2
namespace L2
open PySem PySem.Spec PyProof.Rows
def MtM(X:Cx)(id:String)(r:V->List V->Hp->VK->Prop):Prop :=
  ∀ (pins : List (Addr × Obj)) (s : Shared) (σ : St) (H : Hp) (x : V) (xs : List V) (v : Value) (us : List Value) (Q : VK), Inv X pins σ H s -> RelV x v -> Vals xs us -> r x xs H Q ->
    wpAny (model X.prog X.w) X.A (call (.builtin id) (v::us)) (EP X pins σ Q) X.xe s
theorem Vals.one:∀ {x:V} {us:List Value},Vals [x] us->∃ u,us=[u]/\RelV x u
 | _,_,.cons r .nil=>⟨_,rfl,r⟩
theorem Vals.rep{xs:List V}{us:List Value}(h:Vals xs us):∀ k:Nat,Vals (List.replicate k xs).flatten (List.replicate k us).flatten
  | 0=>.nil
  | k + 1 => by
    rw[List.replicate_succ,List.replicate_succ,List.flatten_cons,List.flatten_cons]
    exact Vals.append h (Vals.rep h k)
theorem foldl_rep(its:List Value):∀ (k:Nat) (acc:List Value),
    List.foldl (fun x1 x2=>x1++x2) acc.toArray (List.replicate k its.toArray)=(acc++(List.replicate k its).flatten).toArray
  | 0,acc=>by simp
  | k + 1, acc => by
    have e:acc.toArray++its.toArray=(acc++its).toArray:=by simp
    have e2:(acc++its)++(List.replicate k its).flatten=acc++(List.replicate (k+1) its).flatten:=by
      rw[List.replicate_succ,List.flatten_cons,List.append_assoc]
    rw[<- e2,<- foldl_rep its k (acc++its),<- e,List.replicate_succ,List.foldl_cons]
section
variable {X:Cx} {pins:List (Addr×Obj)} {σ:St} {H:Hp} {s:Shared} {l b:Addr} {xs ys zs:List V}
theorem Inv.lset{its its':List Value}{n:Nat}{f:Array Value->Array Value}{t':Nat}(I:Inv X pins σ H s)(hH:H l=some (.lst xs))
  (e:s.heap.get? l=some { cls:=.type "list",data:=.seq its.toArray n }) (hf:f its.toArray=its'.toArray) (hv:Vals ys its') (hz:ys.length<=sizeLine) :
  Inv X pins σ (upd H l (.lst ys)) { s with heap:=s.heap.update l (Obj.mapSeq f),toks:=t' }:=by
 have q:=PySem.IsL.update e f
 rw[hf] at q
 refine I.write (x:=l) (e:=l) (by rw[hH];exact trivial) (.inl rfl) (fun b' u hb hu=>(Heap.get?_update_other s.heap (Obj.mapSeq f) (Ne.symm hb)).trans hu) ⟨_,q⟩ ?_
 exact⟨hz,its',_,hv,q⟩
theorem Inv.lnew{its:List Value}{t':Nat}(I:Inv X pins σ H s)(hv:Vals ys its)(hz:ys.length<=sizeLine) :
  Inv X pins σ (upd H s.heap.objs.size (.lst ys)) { s with heap:=s.heap.push { cls:=.type "list",data:=.seq its.toArray },toks:=t' } :=
 I.laid (fun _ _ q=>Heap.get?_push_of_some _ q) (Nat.le_refl _) ⟨hz,its,0,hv,Heap.get?_push_size _ rfl⟩
theorem Inv.fresh(I:Inv X pins σ H s):H s.heap.objs.size=none:=I.hok.fresh (Nat.le_refl _)
theorem Inv.lstM(I:Inv X pins σ H s)(hH:H l=some (.lst xs)):xs.length<=sizeLine/\∃ (its:List Value) (n:Nat),Vals xs its/\xs.length=its.length/\s.heap.get? l=some { cls:=.type "list",data:=.seq its.toArray n }:=by
 obtain⟨z,its,n,r,e⟩:=I.hok l _ hH
 exact⟨z,its,n,r,r.length,e⟩
theorem notLongL{n:Nat}(h:n<=sizeLine):Builtin.List.listTooLong n=false:=by
 unfold Builtin.List.listTooLong
 exact decide_eq_false (by omega)
end
section
variable {X:Cx}
def rAppend:V->List V->Hp->VK->Prop:=fun x vs H Q=>∃ l xs y,x=.ref l/\vs=[y]/\H l=some (.lst xs)/\xs.length<sizeLine/\Q .non (upd H l (.lst (xs++[y])))
theorem mt_append:MtM X "list.append" rAppend:=by
 intro pins s σ H x vs v us Q I rx rv h
 obtain⟨l,xs,y,rfl,rfl,hH,hz,q⟩:=h
 cases rx
 obtain⟨u,rfl,ru⟩:=rv.one
 obtain⟨z,its,n,r,hl,e⟩:=I.lstM hH
 refine call_meets F.slot_list_append ⟨_,e,rfl⟩ F.entry_list_append (F.args_list_append_2 _ _) (PySem.list_append l its.toArray n u (by rw[List.size_toArray];omega)) ⟨e,?_⟩
 refine⟨.non,_,I.lset (its':=its++[u]) hH e (by simp) (r.append (.cons ru .nil)) ?_,rfl,q⟩
 rw[List.length_append,List.length_singleton]
 omega
theorem len_rep{α:Type}(xs:List α)(k:Nat):(List.replicate k xs).flatten.length=k*xs.length:=by
 induction k with
 | zero=>simp
 | succ k ih=>rw[List.replicate_succ,List.flatten_cons,List.length_append,ih,Nat.succ_mul,Nat.add_comm]
end
section
variable {prog:Program} {w:World} {A:Around} {E:Value->Shared->Prop} {s:Shared}
set_option maxRecDepth 100000 in
end
section
variable {X:Cx}
end
end L2
namespace Att
open PySem PySem.W PySem.Calls PyProof.Rows
theorem ints_of_wellAll{P:Params}{h:Heap}:∀ (ns:List Int) (vs:List Value),WellAll P h vs (ns.map WData.int)->IntsAre vs ns:=by
  intro ns
  induction ns with
  | nil =>
    intro vs w
    rw[List.map_nil] at w
    cases w
    exact .nil
  | cons n ns ih =>
    intro vs w
    rw[List.map_cons] at w
    cases w with
    | cons a b =>
      cases a
      exact .cons _ _ (ih _ b)
theorem script_of{l:OpenLaw}{n:Nat}(hn:l.most=some n){P:Params}{h:Heap}{args:List WData}{vals:List Value}
    (hpre:l.row.toRowW.claim.pre args=true) (hwl:WellAll P h vals args) :
    ∃ a vs ns,vals=[Value.ref a]/\args=[WData.list (ns.map WData.int)]/\h.get? a=some { cls:=.type "list",data:=.seq vs.toArray }/\IntsAre vs ns/\ns.length<=n:=by
  have hsh:WShape.hasAll [] args [.list .int]=true:=(pre_splitW hpre).1
  have hc:l.pre.holds [] { args:=args }=true:=(pre_splitW hpre).2
  obtain⟨d,r,rfl,h1,h2⟩:=hasAllW_cons hsh
  obtain rfl:=hasAllW_nil h2
  obtain⟨xs,rfl,h3⟩:=hasW_list h1
  obtain⟨ns,rfl⟩:=items_int h3
  have hlen:ns.length<=n:=by
    unfold OpenLaw.pre at hc
    have h4:(WTm.not (.lt (.lit (.int (n:Int))) (.len (.arg 0)))).holds [] { args:=[.list (ns.map .int)] }=true:=by
      have h4:=(holds_andW hc).1
      rw[hn] at h4
      exact h4
    have h5:=condW_of h4 (w_not (w_lt w_lit (w_len_list (w_arg rfl))))
    rw[List.length_map] at h5
    refine Nat.le_of_not_lt fun q=>?_
    have q':(n:Int)<((ns.length:Nat):Int):=by omega
    first
      | (rw[decide_eq_true q'] at h5;exact absurd h5 (by decide))
      | (simp at h5;omega)
  cases hwl with
  | cons w1 w2 =>
    cases w2
    cases w1 with
    | list ho hall=>exact⟨_,_,ns,rfl,rfl,ho,ints_of_wellAll ns _ hall,hlen⟩
theorem post_true(l:OpenLaw)(args:List WData):l.row.toRowW.claim.post args (.bool true) args=true :=
 postW_of (r:=l.row.toRowW) (X:=(true==true))
  (show WShape.has [] (.bool true) .bool=true by first | rfl | decide | simp[WShape.has,WShape.arms,WShape.armsAll])
  (show(WTm.eq .res (.lit (.bool true))).value [] { args:=args,res:=some (.bool true),after:=args }=some (.bool (true==true)) from w_eq_bool (w_res rfl) w_lit) rfl
theorem attach_call{l:OpenLaw}{n:Nat}{q:Program}{loose:List Str}{XP:(Str->Option Value)->Heap->Prop}{YP:World->Heap->Prop}{d:DefRec}
    (hn:l.most=some n) (hdf:d.params.defaults=[])
    (call:∀ (w:World) (s₀ s₁:Shared) (mg mb:Str->Option Value) (fa:Addr) (o:Obj) (pm cd doc:Value) (a:Addr) (vs:List Value) (ns:List Int),
      Ground q loose [] XP w s₀ mg mb s₁.heap->YP w s₁.heap ->
      s₁.heap.get? fa=some o->o.data=.func (docDef d.name d.params d.body d.scope pm cd doc)->s₁.heap.CodeRec cd d.name->mg d.name=some (.ref fa) ->
      s₁.heap.get? a=some { cls:=.type "list",data:=.seq vs.toArray }->IntsAre vs ns->ns.length<=n->s₁.gens = #[] ->
      codeAny (model l.prog w) callerA (.call (.ref fa) ⟨[.ref a],[]⟩) (fun r s'=>r=.ok (.ret (.bool true))/\OldK s₁.heap s'.heap/\s'.os=s₁.os/\AllBare s'.gens) s₁) :
    WalkO q loose XP YP l.row.toRowW d [] (fun f vs=>PySem.call f vs):=by
  intro w s₀ s₁ mg mb G Y fa o pm cd doc dV kV ho hd hcd hD hmg hg args vals as hpre hlay hrd hwl hlo
  obtain rfl:dV=.none:=Dflts.none hD hdf
  obtain rfl:kV=.none:=Dflts.noKw hD
  obtain⟨a,vs,ns,rfl,rfl,hobj,hints,hlen⟩:=script_of hn hpre hwl
  refine enter_call (codeAny_mono (call w s₀ s₁ mg mb fa o pm cd doc a vs ns G Y ho (fd_plain hd) hcd hmg hobj hints hlen hg) fun r s' hq=>?_)
  obtain⟨rfl,h2,h3,h4⟩:=hq
  exact⟨.inl ⟨.bool true,.bool true,[],rfl,fun _=>rfl,.bool true,post_true l _,fun _=>⟨List.Pairwise.nil,fun _ hm=>(nomatch hm)⟩⟩,h2,h3,h4⟩
section
variable {prog:Program} {w:World} {A:Around} {E:Value->Shared->Prop} {s:Shared} {K:Frag}
def ledger(h:Heap)(L d:Addr):List (Addr×Obj):=(List.range h.objs.size).filterMap fun a=>if a=L\/a=d then none else(h.get? a).map fun o=>(a,o)
end
end Att
namespace L2
open PySem PySem.Spec PyProof.Rows
theorem vals_ints:∀ {vs:List Value} {ns:List Int},IntsAre vs ns->Vals (ns.map V.int) vs
 | _,_,.nil=>.nil
 | _,_,.cons n t h=>.cons ⟨t,rfl⟩ (vals_ints h)
def Only(H:Hp):Prop:=∀ b,H b=none\/∃ o xs,H b=some (.frz o (.lst xs))
theorem law_call{P:Program}{w:World}{K:PySem.W.Frag}{mg mb:Str->Option Value}{CX:CXT}{k:Nat}{fa a:Addr}{fd:FuncData}{x:Str}{sp:Sp}{s₁:Shared}{vs:List Value}{ns:List Int}
    (KX:K.In s₁.heap) (hns:s₁.heap.Ns mainGlobals mg) (hb:s₁.heap.Ns builtinsNs mb) (hbb:∀ x:Str,x≠"__name__"->mb x=bootBuiltins x) (hlim:s₁.heap.NoLimit) (hg:s₁.gens = #[])
    (ha:s₁.heap.get? a=some { cls:=.type "list",data:=.seq vs.toArray }) (hi:IntsAre vs ns) (hl:ns.length<=sizeLine) (hr:Room k callerA)
    (F:∀ base:Heap,K.In base->base.Ns mainGlobals mg->FnOk P w K mg base CX k fa fd [x] sp) (hbind:∀ (s:Shared) (u:Value),BindsTo s fd ⟨[u],[]⟩ [(x,u)])
    (hsp:∀ H:Hp,Only H->SqL K H a (ns.map V.int)->sp [.ref a] H (fun v _=>v=.bl true) fun _ _ _=>False)
    (hCX:∀ H e s',CX [] H s₁ (fun _ _ _=>False) e s'->False) :
    codeAny (model P w) callerA (.call (.ref fa) ⟨[.ref a],[]⟩) (fun r s'=>r=.ok (.ret (.bool true))/\OldK s₁.heap s'.heap/\s'.os=s₁.os/\AllBare s'.gens) s₁:=by
  have rv:=vals_ints hi
  have lenV:=hi.length
  have core:∀ H:Hp,Only H->SqL K H a (ns.map V.int)->HOk P w H s₁.heap->(∀ b,H b≠none->b=a)->(H a≠none->K.lookup a=none) ->
      codeAny (model P w) callerA (.call (.ref fa) ⟨[.ref a],[]⟩) (fun r s'=>r=.ok (.ret (.bool true))/\OldK s₁.heap s'.heap/\s'.os=s₁.os/\AllBare s'.gens) s₁:=by
    intro H hO hS hok hA hK
    have base_of:∀ {b:Addr} {o:Obj},s₁.heap.get? b=some o->H b=none->(hidT s₁.heap H).get? b=some o:=fun e n=>hidT_get e n
    have noA:∀ {b:Addr} {o:Obj} {es:Array DictEntry} {ep:Nat},s₁.heap.get? b=some o->o.data=.dict es ep->H b=none:=fun {b o es ep} e d=>by
      cases q:H b with
      | none=>rfl
      | some u =>
        have e':b=a:=hA b (by rw[q];simp)
        subst e'
        rw[ha] at e;cases e
        have d':Data.seq vs.toArray _=Data.dict es ep:=d
        cases d'
    have nsK:∀ {b:Addr} {m:Str->Option Value},s₁.heap.Ns b m->(hidT s₁.heap H).Ns b m:=fun {b m} ⟨o,es,ep,e,d,r⟩=>⟨o,es,ep,base_of e (noA e d),d,r⟩
    have hKb:K.In (hidT s₁.heap H):=fun b o e=>base_of (KX b o e) (by
      cases q:H b with
      | none=>rfl
      | some u =>
        have e':b=a:=hA b (by rw[q];simp)
        subst e'
        rw[hK (by rw[q];simp)] at e;cases e)
    have hM:Mod K mg (hidT s₁.heap H):=⟨hKb,nsK hns,⟨mb,nsK hb,hbb⟩,let ⟨mc,h1,h2⟩:=hlim;⟨mc,nsK h1,h2⟩⟩
    have e0:Env0 P w K mg (hidT s₁.heap H) callerA [] s₁ H:=⟨rfl,hM,fun b o e=>of_hidT e,Nat.le_of_eq (hidT_size _ _),trivial,fun b hb=>absurd (show b∈([]:List Addr) from hb) (by simp),hok,.of_eq hg⟩
    refine codeAny_mono ((F _ hKb (nsK hns)).run callerA [] s₁ H ⟨[.ref a],[]⟩ [.ref a] [.ref a] _ _ hr e0 (hbind s₁ (.ref a)) (.cons rfl .nil) (hsp H hO hS)) fun r s' h=>?_
    cases r with
    | error e=>exact(hCX H e s' h).elim
    | ok fl =>
      cases fl with
      | next=>exact False.elim h
      | brk=>exact False.elim h
      | cont=>exact False.elim h
      | ret u =>
        obtain⟨v,H',os,bare,un,hok',r',q⟩:=h
        have q':v=.bl true:=q
        subst q'
        obtain rfl:u=Value.bool true:=r'
        refine⟨rfl,OldK.of_keep fun b o e=>?_,os,bare⟩
        cases q:H b with
        | none=>exact un.keep b o e q (by intro z;exact absurd (show b∈([]:List Addr) from z) (by simp)) (by simp)
        | some u =>
          rcases hO b with z | ⟨ob,xs,z⟩
          · rw[q] at z;cases z
          · have z2:=un.frzs b ob _ z
            obtain⟨e1,_⟩:=hok b _ z
            obtain⟨e2,_⟩:=hok' b _ z2
            rw[e] at e1;cases e1
            exact e2
  cases hk:K.lookup a with
  | some o =>
    have e:=KX a o hk
    rw[ha] at e
    cases e
    refine core (fun _=>none) (fun _=>.inl rfl) (.inr ⟨_,vs.toArray,_,hk,rfl,rfl,rfl,by rw[List.size_toArray,lenV];exact hl,by simpa using rv⟩) (fun b u z=>by have z':(none:Option HO)=some u:=z;cases z') (fun b z=>absurd rfl z) fun z=>absurd rfl z
  | none =>
    refine core (fun b=>if b=a then some (.frz { cls:=.type "list",data:=.seq vs.toArray } (.lst (ns.map V.int))) else none) (fun b=>?_) (.inl (.inr ⟨{ cls:=.type "list",data:=.seq vs.toArray },if_pos rfl⟩)) (fun b u z=>?_) (fun b z=>?_) fun _=>hk
    · by_cases hb:b=a
      · exact .inr ⟨_,_,if_pos hb⟩
      · exact .inl (if_neg hb)
    · by_cases hb:b=a
      · have z':=(if_pos hb).symm.trans z
        cases z'
        subst hb
        exact⟨ha,by rw[List.length_map];exact hl,vs,_,rv,ha⟩
      · have z':=(if_neg hb).symm.trans z
        cases z'
    · by_cases hb:b=a
      · exact hb
      · exact absurd (if_neg hb) z
end L2
namespace L2
open PySem PySem.Spec PyProof.Rows
theorem walk_of{l:PySem.W.OpenLaw}{n k:Nat}{q:Program}{loose:List Str}{XP:(Str->Option Value)->Heap->Prop}{YP:World->Heap->Prop}{d:DefRec}{K:Params->PySem.W.Frag}{CX:World->CXT}{sp:World->Sp}{x:Str}
    (hn:l.most=some n) (hn2:n<=sizeLine) (hdf:d.params.defaults=[]) (hr:Room k callerA)
    (hY:∀ (w:World) (h:Heap),YP w h->(K w.params).In h)
    (F:∀ (w:World) (mg:Str->Option Value) (fa:Addr) (h:Heap),(K w.params).In h->h.Ns mainGlobals mg->mg d.name=some (.ref fa) ->
      ∃ fd : FuncData, (∀ (s : Shared) (u : Value), BindsTo s fd ⟨[u], []⟩ [(x, u)]) /\
        ∀ base:Heap,(K w.params).In base->base.Ns mainGlobals mg->FnOk l.prog w (K w.params) mg base (CX w) k fa fd [x] (sp w))
    (hsp:∀ (w:World) (H:Hp) (a:Addr) (ns:List Int),ns.length<=n->Only H->SqL (K w.params) H a (ns.map V.int)->sp w [.ref a] H (fun v _=>v=.bl true) fun _ _ _=>False)
    (hCX:∀ (w:World) (H:Hp) (s:Shared) (e:Value) (s':Shared),CX w [] H s (fun _ _ _=>False) e s'->False) :
    PySem.W.WalkO q loose XP YP l.row.toRowW d [] (fun f vs=>PySem.call f vs):=by
  refine Att.attach_call hn hdf fun w s₀ s₁ mg mb fa o pm cd doc a vs ns G Y ho hd hcd hmg hobj hints hlen hg=>?_
  have KX:=hY w _ Y
  obtain⟨fd,hb,hF⟩:=F w mg fa _ KX G.T.g hmg
  exact law_call KX G.T.g G.T.b G.T.builtins G.T.nolimit hg hobj hints (Nat.le_trans hlen hn2) hr hF hb (fun H hO hS=>hsp w H a ns hlen hO hS) fun H e s'=>hCX w H s₁ e s'
end L2
namespace L2
open PySem PySem.Spec PyProof.Rows
def defArgs(s:Stmt):Arguments:=match s with
 | .FunctionDef _ a _ _ _ _ _ _ _ _=>a
 | _=>{ posonlyargs:=[],args:=[],vararg:=none,kwonlyargs:=[],kw_defaults:=[],kwarg:=none,defaults:=[] }
def defBody(s:Stmt):List Stmt:=match s with
 | .FunctionDef _ _ b _ _ _ _ _ _ _=>b
 | _=>[]
def defScope(s:Stmt):Scope:=match s with
 | .FunctionDef _ _ _ _ _ _ sc _ _ _=>sc
 | _=>{ kind:=.function,names:=[],isGenerator:=false,isCoroutine:=false }
abbrev CX0:CXT:=fun _ _ _ _ _ _=>False
abbrev E0:XK:=fun _ _ _=>False
structure Fun (K:PySem.W.Frag) (x qual:Str) (st:Stmt) (f:Addr) (fd:FuncData):Prop where
 ex:∃ (oc:Value) (od:Option Addr) (kV doc pm:Value) (an:Option Addr) (cdv ct:Value) (osl:Array (Option Value)),
  fd=PySem.W.fnOf x qual (defArgs st) (defBody st) (defScope st) .none kV doc pm an cdv ct/\K.lookup f=some ⟨oc,od,.func fd,osl⟩/\PySem.W.codeIn K cdv qual=true
 kp:PySem.W.keepIn K (.ref f)=true
section
variable {P:Program} {w:World} {K:PySem.W.Frag} {mg:Str->Option Value} {base:Heap}
theorem Fun.binds{x qual:Str}{st:Stmt}{f:Addr}{fd:FuncData}{ps:List Str}(F:Fun K x qual st f fd)
  (h:∀ (kV doc pm:Value) (an:Option Addr) (cdv ct:Value) (us:List Value),us.length=ps.length->bindArgs (PySem.W.fnOf x qual (defArgs st) (defBody st) (defScope st) .none kV doc pm an cdv ct) ⟨us,[]⟩=pure (ps.zip us)):Binds K fd ps []:=by
 obtain⟨oc,od,kV,doc,pm,an,cdv,ct,osl,rfl,lk,hcd⟩:=F.ex
 exact .all (h kV doc pm an cdv ct)
theorem fun_mk{x qual:Str}{st:Stmt}{f:Addr}{oc:Value}{od an:Option Addr}{osl:Array (Option Value)}{kV doc pm cdv ct:Value}(l:K.lookup f=some ⟨oc,od,.func (PySem.W.fnOf x qual (defArgs st) (defBody st) (defScope st) .none kV doc pm an cdv ct),osl⟩)
  (c:PySem.W.codeIn K cdv qual=true) (k:PySem.W.keepIn K (.ref f)=true):Fun K x qual st f (PySem.W.fnOf x qual (defArgs st) (defBody st) (defScope st) .none kV doc pm an cdv ct):=⟨⟨oc,od,kV,doc,pm,an,cdv,ct,osl,rfl,l,c⟩,k⟩
end
theorem hu_of{A:Around}{k:Nat}(hr:Room k A):A.units+1<cLine:=Nat.lt_of_le_of_lt (Nat.add_le_add_left (by decide:1<=64) _) hr.units
section
variable {X:Cx}
end
theorem iteF{A B:Prop}(h:B):if false=true then A else B:=by
 rw[if_neg Bool.false_ne_true]
 exact h
theorem iteT{A B:Prop}(h:A):if true=true then A else B:=by
 rw[if_pos rfl]
 exact h
def Same(H H':Hp):Prop:=∀ b o,H b=some o->H' b=some o
theorem Same.refl(H:Hp):Same H H:=fun _ _ h=>h
theorem Same.trans{H H1 H2:Hp}(a:Same H H1)(b:Same H1 H2):Same H H2:=fun c o h=>b c o (a c o h)
theorem Same.free{H H':Hp}(e:Same H H'){l:Addr}(h:H' l=Option.none):H l=Option.none:=by
  cases q:H l with
  | none=>rfl
  | some o =>
    rw[e l o q] at h
    cases h
theorem Same.seq{K:PySem.W.Frag}{H H':Hp}{a:Addr}{xs:List V}(e:Same H H')(h:SqL K H a xs):SqL K H' a xs:=by
 rcases h with(h | ⟨o,h⟩) | h
 ·exact .inl (.inl (e _ _ h))
 ·exact .inl (.inr ⟨o,e _ _ h⟩)
 ·exact .inr h
end L2
namespace L2
open PySem PySem.Spec PyProof.Rows
def clOf(cells:List (Str×Addr)):List (Str×NameKind)->List (Str×Addr)->List (Str×Addr)
 | [],acc=>acc
 | (x,k)::r,acc=>if k==.free then clOf cells r ((x,(cells.lookup x).getD 0)::acc) else clOf cells r acc
theorem forIn_cl{env:Env}(f:Str×NameKind->List (Str×Addr)->Sem (ForInStep (List (Str×Addr))))
    (hf:∀ name kind cs,f (name,kind) cs=if kind==.free then(do let a <- cellOf env name;pure (.yield ((name,a)::cs))) else pure (.yield cs)) :
    ∀ (l:List (Str×NameKind)) (acc:List (Str×Addr)),(∀ x,(x,NameKind.free)∈l->∃ c,env.cells.lookup x=some c)->(forIn l acc f:Sem (List (Str×Addr)))=pure (clOf env.cells l acc)
  | [],acc,_=>by rw[List.forIn_nil];rfl
  | (x, k) :: r, acc, h => by
    rw[List.forIn_cons,hf]
    unfold clOf
    cases hk:k==NameKind.free with
    | false =>
      simp only[Bool.false_eq_true,if_false]
      show(forIn r acc f:Sem _)=_
      exact forIn_cl f hf r acc fun y hy=>h y (List.mem_cons_of_mem _ hy)
    | true =>
      simp only[if_true]
      have ek:k=.free:=by simpa using hk
      obtain⟨c,hc⟩:=h x (by rw[ek];exact List.mem_cons_self)
      have e1:cellOf env x=pure c:=by unfold cellOf;rw[hc]
      rw[e1,hc]
      show(forIn r ((x,c)::acc) f:Sem _)=_
      exact forIn_cl f hf r _ fun y hy=>h y (List.mem_cons_of_mem _ hy)
theorem closureFor_clOf{env:Env}{scope:Scope}(h:∀ x,(x,NameKind.free)∈scope.names->∃ c,env.cells.lookup x=some c):closureFor scope env=pure (clOf env.cells scope.names []):=by
 simp only[closureFor]
 rw[forIn_cl (env:=env) _ (fun name kind cs=>by cases hk:kind==NameKind.free<;>simp[hk]) scope.names [] h]
 rfl
theorem newEnv_comp{M:Model}{A:Around}{E:Value->Shared->Prop}{s:Shared}{scope:Scope}{globals:Addr}{closure:List (Str×Addr)}{qual:Str}{outer:Env}{Q:Env->Shared->Prop}
  (hQ:Q (newEnv scope s.heap.objs.size globals (cellsFrom (s.heap.objs.size+1) scope.names closure) qual none .none (some outer) builtinsNs) { s with heap:=pushCells (s.heap.push { cls:=.type "dict",data:=.dict #[] }) scope.names }) :
  wpAny M A (newFunctionEnv scope globals closure [] qual none .none (some outer)) Q E s:=by
 simp only[newFunctionEnv,Option.isSome_some,if_true]
 refine wpAny_bind (wpAny_alloc ?_)
 refine wpAny_bind (wpAny_layCells _ (fun name kind cells=>by cases hkc:kind==NameKind.cell<;>simp[hkc]) _ _ _ _ ?_)
 rw[show({ s with heap:=s.heap.push { cls:=.type "dict",data:=.dict #[] } }:Shared).heap.objs.size=s.heap.objs.size+1 from Heap.size_push ..]
 rw[List.forIn_nil]
 exact wpAny_bind (wpAny_pure (wpAny_pure hQ))
theorem lookup_of_mem{α:Type}:∀ {l:List (Str×α)} {x:Str} {c:α},(x,c)∈l->∃ d,l.lookup x=some d
  | (y, d) :: r, x, c, h => by
    rw[List.lookup_cons]
    cases hb:x==y with
    | true=>exact⟨d,rfl⟩
    | false =>
      rcases List.mem_cons.mp h with e | h
      · cases e;simp at hb
      · exact lookup_of_mem h
theorem lookup_nodup{α:Type}:∀ {l:List (Str×α)} {x:Str} {c:α},(l.map (·.1)).Nodup->(x,c)∈l->l.lookup x=some c
  | (y, d) :: r, x, c, hn, h => by
    rw[List.map_cons,List.nodup_cons] at hn
    rw[List.lookup_cons]
    rcases List.mem_cons.mp h with e | h'
    · cases e;simp
    · have hne:(x==y)=false:=by
        rw[beq_eq_false_iff_ne]
        intro exy
        exact hn.1 (List.mem_map.mpr ⟨(x,c),h',exy⟩)
      rw[hne]
      exact lookup_nodup hn.2 h'
theorem cellsFrom_or{x:Str}{c:Addr}:∀ (names:List (Str×NameKind)) (n:Nat) (acc:List (Str×Addr)),(cellsFrom n names acc).lookup x=some c ->
    ((x,NameKind.cell)∈names/\n<=c)\/((x,NameKind.cell)∉names/\acc.lookup x=some c)
  | [],_,_,h=>.inr ⟨by simp,h⟩
  | (y, k) :: r, n, acc, h => by
    unfold cellsFrom at h
    cases hk:k==NameKind.cell with
    | true =>
      have ek:k=.cell:=by simpa using hk
      subst ek
      rw[if_pos (show(NameKind.cell==NameKind.cell)=true from rfl)] at h
      rcases cellsFrom_or r _ _ h with⟨h1,h2⟩ | ⟨h1,h2⟩
      · exact .inl ⟨List.mem_cons_of_mem _ h1,by omega⟩
      · rw[List.lookup_cons] at h2
        cases hb:x==y with
        | true =>
          rw[hb] at h2
          cases h2
          have:x=y:=by simpa using hb
          subst this
          exact .inl ⟨List.mem_cons_self,Nat.le_refl _⟩
        | false =>
          rw[hb] at h2
          refine .inr ⟨fun hm=>?_,h2⟩
          rcases List.mem_cons.mp hm with e | hm
          · cases e;simp at hb
          · exact h1 hm
    | false =>
      rw[hk] at h
      simp only[Bool.false_eq_true,if_false] at h
      rcases cellsFrom_or r _ _ h with⟨h1,h2⟩ | ⟨h1,h2⟩
      · exact .inl ⟨List.mem_cons_of_mem _ h1,h2⟩
      · refine .inr ⟨fun hm=>?_,h2⟩
        rcases List.mem_cons.mp hm with e | hm
        · cases e;simp at hk
        · exact h1 hm
theorem cellsFrom_apart:∀ (names:List (Str×NameKind)) (n:Nat) (acc:List (Str×Addr)),(acc.Pairwise fun x y=>x.2≠y.2)->(∀ p∈acc,p.2<n)->(cellsFrom n names acc).Pairwise fun x y=>x.2≠y.2
  | [],_,_,h,_=>h
  | (y, k) :: r, n, acc, h, hl => by
    unfold cellsFrom
    split
    · refine cellsFrom_apart r _ _ (List.pairwise_cons.mpr ⟨fun p hp e=>?_,h⟩) fun p hp=>?_
      · have e':n=p.2:=e
        have q:=hl p hp
        rw[<- e'] at q
        exact Nat.lt_irrefl _ q
      · rcases List.mem_cons.mp hp with e | hp
        · subst e;exact Nat.lt_succ_self _
        · exact Nat.lt_succ_of_lt (hl p hp)
    · exact cellsFrom_apart r _ _ h hl
theorem clOf_ok{cells:List (Str×Addr)}(inj:∀ x y c,cells.lookup x=some c->cells.lookup y=some c->x=y):∀ (names:List (Str×NameKind)) (acc:List (Str×Addr)),(names.map (·.1)).Nodup->(∀ x,(x,NameKind.free)∈names->∃ c,cells.lookup x=some c) ->
    (acc.Pairwise fun x y=>x.2≠y.2)->(∀ p∈acc,cells.lookup p.1=some p.2/\p.1∉names.map (·.1))->((clOf cells names acc).Pairwise fun x y=>x.2≠y.2)/\∀ p∈clOf cells names acc,cells.lookup p.1=some p.2
  | [],acc,_,_,h1,h2=>⟨h1,fun p hp=>(h2 p hp).1⟩
  | (y, k) :: r, acc, hn, hf, h1, h2 => by
    rw[List.map_cons,List.nodup_cons] at hn
    have hf':∀ x,(x,NameKind.free)∈r->∃ c,cells.lookup x=some c:=fun x hx=>hf x (List.mem_cons_of_mem _ hx)
    unfold clOf
    split
    · rename_i hk
      have ek:k=.free:=by simpa using hk
      subst ek
      obtain⟨c,hc⟩:=hf y List.mem_cons_self
      rw[hc]
      refine clOf_ok inj r _ hn.2 hf' (List.pairwise_cons.mpr ⟨fun p hp e=>?_,h1⟩) fun p hp=>?_
      · have e':c=p.2:=e
        obtain⟨a1,a2⟩:=h2 p hp
        rw[<- e'] at a1
        have:=inj _ _ _ a1 hc
        exact a2 (by rw[this];simp)
      · rcases List.mem_cons.mp hp with e | hp
        · subst e;exact⟨hc,hn.1⟩
        · exact⟨(h2 p hp).1,fun z=>(h2 p hp).2 (List.mem_cons_of_mem _ z)⟩
    · exact clOf_ok inj r _ hn.2 hf' h1 fun p hp=>⟨(h2 p hp).1,fun z=>(h2 p hp).2 (List.mem_cons_of_mem _ z)⟩
theorem clOf_acc{cells:List (Str×Addr)}{p:Str×Addr}:∀ (names:List (Str×NameKind)) (acc:List (Str×Addr)),p∈acc->p∈clOf cells names acc
  | [],_,h=>h
  | (y, k) :: r, acc, h => by
    unfold clOf
    split
    · exact clOf_acc r _ (List.mem_cons_of_mem _ h)
    · exact clOf_acc r _ h
theorem clOf_has{cells:List (Str×Addr)}{x:Str}:∀ (names:List (Str×NameKind)) (acc:List (Str×Addr)),(x,NameKind.free)∈names->∃ c,(x,c)∈clOf cells names acc
  | (y, k) :: r, acc, h => by
    unfold clOf
    rcases List.mem_cons.mp h with e | h
    · cases e
      rw[if_pos (show(NameKind.free==NameKind.free)=true from rfl)]
      exact⟨_,clOf_acc r _ List.mem_cons_self⟩
    · split
      · exact clOf_has r _ h
      · exact clOf_has r _ h
theorem relabel_lookup{env:Env}{x:Str}:∀ (names:List (Str×NameKind)),
    (names.map fun(n,k)=>if(k==NameKind.free&&env.scope.kind==.function&&env.kindOf n==some .cell) then(n,NameKind.cell) else(n,k)).lookup x =
      (names.lookup x).map fun k=>if(k==NameKind.free&&env.scope.kind==.function&&env.kindOf x==some .cell) then NameKind.cell else k
  | []=>rfl
  | (y, k) :: r => by
    have ih:=relabel_lookup (x:=x) (env:=env) r
    by_cases hx:x=y
    · subst hx
      cases hc:(k==NameKind.free&&env.scope.kind==.function&&env.kindOf x==some .cell)<;>simp only[List.map_cons,hc,List.lookup_cons,beq_self_eq_true,Option.map_some,if_true,if_false,Bool.false_eq_true]
    · have hb:(x==y)=false:=by simpa using hx
      cases hc:(k==NameKind.free&&env.scope.kind==.function&&env.kindOf y==some .cell)<;>simp only[List.map_cons,hc,List.lookup_cons,hb,if_true,if_false,Bool.false_eq_true]<;>exact ih
def slotOf(N:List Str)(σ:St)(x:Str):Option V:=match N.idxOf? x with
 | some j=>(σ[j]?).getD none
 | none=>none
def mkSt(N:List Str)(names:List (Str×NameKind))(σ:St):St:=names.map fun p=>if p.2==.free then slotOf N σ p.1 else none
def compEnvX(scope:Scope)(cells:List (Str×Addr))(C:Addr)(env:Env):Env :=
 { scope:=relabel scope env,locals:=C,globals:=env.globals,cells:=cells,qual:=env.qual,func:=none,code:=env.code,frame:=env.frame,builtins:=env.builtins }
structure CompOf (X:Cx) (scope:Scope) (Xc:Cx):Prop where
 prog:Xc.prog=X.prog
 w:Xc.w=X.w
 K:Xc.K=X.K
 mg:Xc.mg=X.mg
 base:Xc.base=X.base
 A:Xc.A=X.A
 N:Xc.N=scope.names.map (·.1)
 sc:Xc.env.scope=relabel scope X.env
 calm:Xc.calm=true
 fn:Xc.fn=fun x=>scope.names.lookup x==some .cell
 xe:Xc.xe=fun _ _=>False
def cxComp(X:Cx)(scope:Scope)(cells:List (Str×Addr))(C:Addr)(s:Shared)(H:Hp)(fp:List Addr):Cx where
 prog:=X.prog
 w:=X.w
 K:=X.K
 mg:=X.mg
 base:=X.base
 A:=X.A
 N:=scope.names.map (·.1)
 s₀:=s
 H₀:=H
 env:=compEnvX scope cells C X.env
 outer:=X.stack
 stack:=X.stack
 ex:=fp
 fn:=fun x=>scope.names.lookup x==some .cell
 calm:=true
 pn:=[]
 xe:=fun _ _=>False
def PIfs(X:Cx)(ifs:List Expr)(t:TT):Prop :=
  ∀ (pins : List (Addr × Obj)) (s : Shared) (σ : St) (H : Hp) (Q : Bool -> Hp -> Prop), Inv X pins σ H s -> t σ H Q ->
    wpAny (model X.prog X.w) X.A (forIn ifs true fun c r=>if r=true then do let ok <- isTrue c X.env (eval c X.env);pure (ForInStep.yield ok) else pure (ForInStep.yield r)) (TP X pins σ Q) X.xe s
theorem pifs_nil{X:Cx}:PIfs X [] (fun _ H Q=>Q true H):=fun _ _ _ H _ I h=>wpAny_tests_nil ⟨H,I,h⟩
theorem pifs_one{X:Cx}{c:Expr}{t:TT}(h:PT X c t):PIfs X [c] t:=fun pins s σ H Q I hw=>wpAny_tests_one (h pins s σ H Q I hw)
def tComp(X:Cx)(scope:Scope)(wi:TI)(mk:St->St)(g:Cx->TG)(tc:Cx->TT)(te:Cx->TE):TE:=fun σ H Q=>wi σ H fun J H1=>∀ acc,H1 acc=none->∀ Xc,CompOf X scope Xc ->
  ∃ W : Nat -> Nat -> St -> Hp -> Prop, (∃ m, W 0 m (mk σ) (upd H1 acc (.lst []))) /\ ∀ i m σc H, W i m σc H ->
    (J.stop i H/\Q (.ref acc) H)\/(J.go i H/\∃ N:St->Hp->Prop,(∀ σ' H',N σ' H'->∃ m',m'<m/\W (i+1) m' σ' H')/\∀ x H',J.yld i H x H' ->
      g Xc x σc H' fun σ2 H2=>tc Xc σ2 H2 fun b H3=>if b=true then te Xc σ2 H3 fun v H4=>∃ ys,H4 acc=some (.lst ys)/\ys.length<sizeLine/\N σ2 (upd H4 acc (.lst (ys++[v]))) else N σ2 H3)
theorem codeAny_compLoop_gen{prog:Program}{w:World}{A:Around}{R:Result->Shared->Prop}{s:Shared}{elt target iter:Expr}{ifs:List Expr}{scope:Scope}{pos:Pos}{it acc:Value}{env:Env}(I:Nat->Shared->Prop)
    (turn:∀ n s,I n s->wpAny (model prog w) A (pyNext it) (fun r s₁=>match r with
      | none=>R (.ok .next) s₁
      | some v=>wpAny (model prog w) A (letOwnedTupleGo target it v) (fun _ s₁'=>wpAny (model prog w) A (assign target env v) (fun _ s₂ =>
          wpAny (model prog w) A (forIn ifs true fun c r=>if r=true then do let ok <- isTrue c env (eval c env);pure (ForInStep.yield ok) else pure (ForInStep.yield r)) (fun ok s₃ =>
            if ok=true then wpAny (model prog w) A (eval elt env) (fun x s₄ =>
              wpAny (model prog w) A (call (.builtin "list.append") [acc,x]) (fun _ s₅=>∃ m,m<n/\I m s₅) (fun _ _=>False) s₄) (fun _ _=>False) s₃
            else ∃ m,m<n/\I m s₃) (fun _ _=>False) s₂) (fun _ _=>False) s₁') (fun _ _=>False) s₁) (fun _ _=>False) s)
    (n:Nat) (h:I n s) :
    codeAny (model prog w) A (.compLoop (.ListComp elt [⟨target,iter,ifs,0⟩] scope pos) 0 it acc env) R s:=by
  refine codeAny_loop rfl I (fun n s hI=>?_) n h
  show wpAny _ A ((compTurn (.ListComp elt [⟨target,iter,ifs,0⟩] scope pos) 0 it acc env).onRaise (fun x=>do noteFrame x env;theTreesLotGoes x)) _ _ s
  refine wpAny_noted ?_
  rw[compTurn_list]
  refine wpAny_bind (wpAny_standAt (wpAny_bind (wpAny_mono (turn n s hI) (fun r s₁ h₁=>?_) fun _ _ h'=>h'.elim)))
  cases r with
  | none=>exact wpAny_pure h₁
  | some v =>
    refine wpAny_bind (wpAny_mono h₁ (fun _ s₁' h₁'=>?_) fun _ _ h'=>h'.elim)
    refine wpAny_bind (wpAny_mono h₁' (fun _ s₂ h₂=>wpAny_bind (wpAny_mono h₂ (fun ok s₃ h₃=>?_) fun _ _ h'=>h'.elim)) fun _ _ h'=>h'.elim)
    cases ok with
    | false=>exact wpAny_pure ⟨rfl,h₃⟩
    | true =>
      exact wpAny_bind (wpAny_bind (wpAny_mono h₃ (fun x s₄ h₄=>wpAny_bind (wpAny_mono h₄ (fun _ s₅ h₅=>wpAny_pure (wpAny_pure ⟨rfl,h₅⟩)) fun _ _ h'=>h'.elim)) fun _ _ h'=>h'.elim))
section
variable {X:Cx}
theorem comp_cells{pins:List (Addr×Obj)}{σ:St}{H:Hp}{s:Shared}{scope:Scope}(I:Inv X pins σ H s)(hnd:(scope.names.map (·.1)).Nodup)
  (hcap:∀ x,(x,NameKind.free)∈scope.names->X.env.kindOf x=some .cell\/X.env.kindOf x=some .free) :
  (∀ x,(x,NameKind.free)∈scope.names->∃ c,X.env.cells.lookup x=some c) /\
  ((cellsFrom (s.heap.objs.size+1) scope.names (clOf X.env.cells scope.names [])).Pairwise fun x y=>x.2≠y.2) /\
  (∀ x c,(cellsFrom (s.heap.objs.size+1) scope.names (clOf X.env.cells scope.names [])).lookup x=some c->((x,NameKind.cell)∈scope.names/\s.heap.objs.size+1<=c)\/((x,NameKind.cell)∉scope.names/\X.env.cells.lookup x=some c/\c<s.heap.objs.size)) /\
  (∀ x,(x,NameKind.free)∈scope.names->(cellsFrom (s.heap.objs.size+1) scope.names (clOf X.env.cells scope.names [])).lookup x=X.env.cells.lookup x):=by
 have hf:∀ x,(x,NameKind.free)∈scope.names->∃ c,X.env.cells.lookup x=some c:=fun x hx=>I.ok.has x (hcap x hx)
 have ok:=clOf_ok I.ok.inj scope.names [] hnd hf List.Pairwise.nil (fun p hp=>absurd hp (by simp))
 have small:∀ x c,X.env.cells.lookup x=some c->c<s.heap.objs.size:=fun x c e=>by
  obtain⟨v,z⟩:=I.cell x c e
  exact z.lt
 refine⟨hf,cellsFrom_apart _ _ _ ok.1 fun p hp=>Nat.lt_succ_of_lt (small p.1 p.2 (ok.2 p hp)),fun x c e=>?_,fun x hx=>?_⟩
 ·rcases cellsFrom_or _ _ _ e with h | ⟨h1,h2⟩
  ·exact .inl h
  ·have h3:=ok.2 _ (PySem.mem_of_lookup h2)
   exact .inr ⟨h1,h3,small _ _ h3⟩
 ·obtain⟨c,hc⟩:=hf x hx
  have nc:(x,NameKind.cell)∉scope.names:=fun z=>by
   have e1:=lookup_nodup hnd z
   rw[lookup_nodup hnd hx] at e1
   cases e1
  obtain⟨d,hd⟩:=clOf_has (cells:=X.env.cells) scope.names [] hx
  obtain⟨d',hd'⟩:=lookup_of_mem hd
  have hs:((cellsFrom (s.heap.objs.size+1) scope.names (clOf X.env.cells scope.names [])).lookup x).isSome=true:=PySem.W.cellsFrom_some _ _ _ (.inr (by rw[hd'];rfl))
  obtain⟨c',hc'⟩:=Option.isSome_iff_exists.mp hs
  rcases cellsFrom_or _ _ _ hc' with⟨h,_⟩ | ⟨_,h2⟩
  ·exact absurd h nc
  ·rw[hc',ok.2 _ (PySem.mem_of_lookup h2)]
theorem ownCell:∀ (names:List (Str×NameKind)) (h:Heap) (acc:List (Str×Addr)) {x:Str} {c:Addr},(cellsFrom h.objs.size names acc).lookup x=some c->(x,NameKind.cell)∈names->(pushCells h names).IsCell c none:=by
  intro names
  induction names with
  | nil=>intro h acc x c e hx;cases hx
  | cons p r ih =>
    obtain⟨y,k⟩:=p
    intro h acc x c e hx
    unfold cellsFrom at e
    unfold pushCells
    by_cases hin:(x,NameKind.cell)∈r
    · split at e
      · rename_i hk
        rw[if_pos hk]
        refine ih (h.push { cls:=.type "cell",data:=.cell none }) ((y,h.objs.size)::acc) ?_ hin
        rw[Heap.size_push];exact e
      · rename_i hk
        rw[if_neg hk]
        exact ih h acc e hin
    · rcases List.mem_cons.mp hx with ex | hx
      · cases ex
        rw[if_pos (show(NameKind.cell==NameKind.cell)=true from rfl)] at e ⊢
        rcases cellsFrom_or _ _ _ e with⟨h1,_⟩ | ⟨_,h2⟩
        · exact absurd h1 hin
        · rw[List.lookup_cons] at h2
          simp at h2
          subst h2
          exact⟨_,pushCells_keeps _ _ _ _ (Heap.get?_push_size _ rfl),rfl⟩
      · exact absurd hx hin
theorem comp_inv{pins:List (Addr×Obj)}{σ:St}{H:Hp}{s:Shared}{scope:Scope}{fp:List Addr}(I:Inv X pins σ H s)(hc:X.calm=true)(hk:scope.kind=.function)(hnd:(scope.names.map (·.1)).Nodup)
    (hcap:∀ x,(x,NameKind.free)∈scope.names->X.env.kindOf x=some .cell\/X.env.kindOf x=some .free) (hfp:∀ b∈fp,FpOk X pins H b) (hlt:∀ b∈fp,b<s.heap.objs.size) :
    Inv (cxComp X scope (cellsFrom (s.heap.objs.size+1) scope.names (clOf X.env.cells scope.names [])) s.heap.objs.size s H fp) [] (mkSt X.N scope.names σ) H { s with heap:=pushCells (s.heap.push { cls:=.type "dict",data:=.dict #[] }) scope.names }:=by
  obtain⟨hf,apart,look,same⟩:=comp_cells I hnd hcap
  have keep:∀ b o,s.heap.get? b=some o->(pushCells (s.heap.push { cls:=.type "dict",data:=.dict #[] }) scope.names).get? b=some o:=fun b o e=>pushCells_keeps _ _ b o (Heap.get?_push_of_some _ e)
  have ckd:=cellsFrom_ok scope.names (s.heap.push { cls:=.type "dict",data:=.dict #[] }) (s.heap.objs.size+1) [] ⟨fun _ _ hm=>(nomatch hm),List.Pairwise.nil⟩ (by rw[Heap.size_push];exact Nat.le_refl _)
  rw[Heap.size_push] at ckd
  have own:∀ x c,(cellsFrom (s.heap.objs.size+1) scope.names (clOf X.env.cells scope.names [])).lookup x=some c->(x,NameKind.cell)∈scope.names->(pushCells (s.heap.push { cls:=.type "dict",data:=.dict #[] }) scope.names).IsCell c none:=fun x c e hx=>ownCell scope.names (s.heap.push { cls:=.type "dict",data:=.dict #[] }) _ (by rw[Heap.size_push];exact e) hx
  have kinds:∀ x,(cxComp X scope (cellsFrom (s.heap.objs.size+1) scope.names (clOf X.env.cells scope.names [])) s.heap.objs.size s H fp).env.kindOf x=(scope.names.lookup x).map fun k=>if(k==NameKind.free&&X.env.scope.kind==.function&&X.env.kindOf x==some .cell) then NameKind.cell else k:=fun x=>relabel_lookup scope.names
  have fresh:∀ {b:Addr},s.heap.objs.size<=b->H b=none:=fun hb=>I.hok.fresh hb
  refine⟨⟨I.ok.mod,hk,I.ok.glob,I.ok.blt,Nat.le_refl _,fun x y c e1 e2=>name_of_addr apart (PySem.mem_of_lookup e1) (PySem.mem_of_lookup e2),fun x hx=>?_,fun x c hx e=>?_,fun _=>I.ok.hd hc,I.ok.frames,.inl rfl,fun b hb=>⟨Nat.ne_of_lt (hlt b hb),fun x c e=>?_⟩,I.bs,Nat.le_trans I.ok.bsz I.sz,fun b o e hb=>?_,fun b hb z=>?_,I.stack,I.stkFree⟩,
    rfl,I.bare,Un.kept keep,⟨fun _=>none,?_,fun i x v e1 e2 e3=>?_⟩,fun x c e=>?_,fresh (Nat.le_refl _),fun x c e=>?_,fun p hp=>absurd (show p∈([]:List (Addr×Obj)) from hp) (by simp),I.hok.kept keep,?_⟩
  ·
    rw[kinds x] at hx
    cases hl:scope.names.lookup x with
    | none=>rw[hl] at hx;rcases hx with h | h<;>cases h
    | some k =>
      rw[hl] at hx
      have hm:=PySem.mem_of_lookup hl
      cases k with
      | cell=>exact Option.isSome_iff_exists.mp (PySem.W.cellsFrom_some _ _ _ (.inl hl))
      | free =>
        obtain⟨c,h⟩:=hf x hm
        exact⟨c,(same x hm).trans h⟩
      | _=>simp at hx
  · have hm:(x,NameKind.cell)∈scope.names:=PySem.mem_of_lookup (by simpa[cxComp] using hx)
    rcases look x c e with⟨_,h⟩ | ⟨h,_⟩
    · exact Nat.le_of_succ_le h
    · exact absurd hm h
  · rcases look x c e with⟨_,h⟩ | ⟨_,h,_⟩
    · exact Nat.ne_of_gt (Nat.lt_of_lt_of_le (hlt b hb) (Nat.le_of_succ_le h))
    · exact(hfp b hb).2.2.2.2.1 x c h
  · rcases(hfp b hb).2.2.2.1 with z | z
    · exact I.ok.noex b o e z
    · exact absurd (Nat.lt_of_lt_of_le (Heap.lt_size e) (Nat.le_trans I.ok.bsz z)) (Nat.lt_irrefl _)
  · rcases List.mem_cons.mp (I.stkSub b z) with h | h
    · exact(hfp b hb).2.1 h
    · exact(hfp b hb).2.2.1 h
  · exact(Heap.Ns.new s.heap (.type "dict")).keeps (pushCells_keeps _ _)
  ·
    have e1':(scope.names.map (·.1))[i]?=some x:=e1
    rw[List.getElem?_map] at e1'
    unfold mkSt at e2
    rw[List.getElem?_map] at e2
    cases hp:scope.names[i]? with
    | none=>rw[hp] at e2;cases e2
    | some p =>
      rw[hp] at e1' e2
      have ex:p.1=x:=Option.some.inj e1'
      have e2':(if p.2==.free then slotOf X.N σ p.1 else none)=some v:=Option.some.inj e2
      cases hk2:p.2==NameKind.free with
      | false=>rw[hk2] at e2';simp at e2'
      | true =>
        rw[hk2] at e2'
        simp only[if_true] at e2'
        have ek:p.2=.free:=by simpa using hk2
        have hm:(x,NameKind.free)∈scope.names:=by
          have:=List.mem_of_getElem? hp
          rw[<- ex,<- ek];exact this
        unfold slotOf at e2'
        rw[ex] at e2'
        cases hj:X.N.idxOf? x with
        | none=>rw[hj] at e2';cases e2'
        | some j =>
          rw[hj] at e2'
          have e3:(σ[j]?).getD none=some v:=e2'
          have hσ:σ[j]?=some (some v):=by
            cases q:σ[j]? with
            | none=>rw[q] at e3;simp at e3
            | some o=>rw[q] at e3;simp at e3;rw[e3]
          have hN:X.N[j]?=some x:=by
            rw[List.idxOf?,List.findIdx?_eq_some_iff_getElem] at hj
            obtain⟨h1,h2,_⟩:=hj
            rw[List.getElem?_eq_getElem h1]
            simpa using h2
          obtain⟨m,hn,hl⟩:=I.loc
          have kx:=hcap x hm
          obtain⟨u,r,l⟩:=hl j x v hN hσ (by rcases kx with k | k;exact .inr (.inl k);exact .inr (.inr k))
          refine⟨u,r,.inr ⟨?_,?_⟩⟩
          · rw[kinds x,lookup_nodup hnd hm]
            simp only[Option.map_some]
            split
            · exact .inl rfl
            · exact .inr rfl
          · rcases l with⟨k,_⟩ | ⟨_,c,hc',z⟩
            · rcases kx with k' | k'<;>(rw[k'] at k;cases k)
            · exact⟨c,(same x hm).trans hc',z.keeps keep⟩
  · rcases look x c e with⟨h,_⟩ | ⟨_,h,_⟩
    · exact⟨_,own x c e h⟩
    · obtain⟨v,z⟩:=I.cell x c h
      exact⟨v,z.keeps keep⟩
  · rcases look x c e with⟨_,h⟩ | ⟨_,h,_⟩
    · exact fresh (Nat.le_of_succ_le h)
    · exact I.freeC x c h
  · show(mkSt X.N scope.names σ).length=(scope.names.map (·.1)).length
    unfold mkSt
    rw[List.length_map,List.length_map]
structure Blk (X:Cx) (pins:List (Addr×Obj)) (H:Hp) (s:Shared) (C:Addr):Prop where
 ns:∃ m,s.heap.Ns C m
 free:H C=none
 loc:C≠X.env.locals
 abv:X.s₀.heap.objs.size<=C
 cel:∀ x c,X.env.cells.lookup x=some c->c≠C
 pin:∀ p∈X.pn++pins,p.1≠C
theorem comp_core{elt tg iter:Expr}{ifs:List Expr}{scope:Scope}{pos:Pos}{wi:TI}{g:Cx->TG}{tc:Cx->TT}{te:Cx->TE}(hc:X.calm=true)(hk:scope.kind=.function)(hnd:(scope.names.map (·.1)).Nodup)
    (hcap:∀ x,(x,NameKind.free)∈scope.names->X.env.kindOf x=some .cell\/X.env.kindOf x=some .free) (hi:PI X tg iter wi)
    (hin:∀ Xc:Cx,CompOf X scope Xc->PG Xc tg (g Xc)/\PIfs Xc ifs (tc Xc)/\PE Xc elt (te Xc)) {pins:List (Addr×Obj)} {s:Shared} {σ:St} {H:Hp} {Q:VK} (I:Inv X pins σ H s) (h:tComp X scope wi (mkSt X.N scope.names) g tc te σ H Q) {R:Value->Addr->Result->Shared->Prop}
    (fin:∀ acc C H' s',Inv X pins σ H' s'->Blk X pins H' s' C->Q (.ref acc) H'->R (.ref acc) C (.ok .next) s') :
    wpAny (model X.prog X.w) X.A (eval iter X.env) (fun x s₁=>wpAny (model X.prog X.w) X.A (pyIter x) (fun it s₂=>wpAny (model X.prog X.w) X.A (newList []) (fun acc s₃ =>
      wpAny (model X.prog X.w) X.A (newFunctionEnv scope X.env.globals (clOf X.env.cells scope.names []) [] X.env.qual none .none (some X.env)) (fun cenv s₄ =>
        codeAny (model X.prog X.w) X.A (.compStart (.ListComp elt [⟨tg,iter,ifs,0⟩] scope pos) 0 it acc { cenv with scope:=relabel scope X.env }) (R acc cenv.locals) s₄) X.xe s₃) X.xe s₂) X.xe s₁) X.xe s:=by
  refine thn (hi pins s σ H _ I h) fun v s1 h1=>thn h1 fun itv s2 h2=>?_
  obtain⟨it,fp,tn,J,H2,rfl,I2,T,st2,f2,q2⟩:=h2
  refine wpAny_newObj_type ?_
  have hf:H2 s2.heap.objs.size=none:=I2.hok.fresh (Nat.le_refl _)
  have I3:=I2.lnew (ys:=[]) (its:=[]) (t':=s2.toks) .nil (Nat.zero_le _)
  generalize hs3:({ s2 with heap:=s2.heap.push { cls:=.type "list",data:=.seq ([]:List Value).toArray },toks:=s2.toks }:Shared)=s3 at I3
  have lt2:∀ b∈fp,b<s2.heap.objs.size:=fun b hb=>by
    obtain⟨o,e,_⟩:=T.obj _ _ st2 b hb
    exact Heap.lt_size e
  have f3:∀ b∈fp,FpOk X pins (upd H2 s2.heap.objs.size (.lst [])) b:=fun b hb=>⟨by rw[upd_ne (Nat.ne_of_lt (lt2 b hb))];exact(f2 b hb).1,(f2 b hb).2⟩
  have sz3:s3.heap.objs.size=s2.heap.objs.size+1:=by rw[<- hs3];exact Heap.size_push ..
  have lt3:∀ b∈fp,b<s3.heap.objs.size:=fun b hb=>by rw[sz3];exact Nat.lt_succ_of_lt (lt2 b hb)
  have st3:tn 0 s3.heap:=T.keep _ _ _ st2 fun b hb o e=>by rw[<- hs3];exact Heap.get?_push_of_some _ e
  have J0:=comp_inv I3 hc hk hnd hcap f3 lt3
  have cO:CompOf X scope (cxComp X scope (cellsFrom (s3.heap.objs.size+1) scope.names (clOf X.env.cells scope.names [])) s3.heap.objs.size s3 (upd H2 s2.heap.objs.size (.lst [])) fp):=⟨rfl,rfl,rfl,rfl,rfl,rfl,rfl,rfl,rfl,rfl,rfl⟩
  obtain⟨hg,hif,he⟩:=hin _ cO
  obtain⟨W,⟨m0,w0⟩,turn⟩:=q2 s2.heap.objs.size hf _ cO
  refine newEnv_comp ?_
  have st4:tn 0 (pushCells (s3.heap.push { cls:=.type "dict",data:=.dict #[] }) scope.names):=T.keep _ _ _ st3 fun b _ o e=>pushCells_keeps _ _ b o (Heap.get?_push_of_some _ e)
  generalize hXc:cxComp X scope (cellsFrom (s3.heap.objs.size+1) scope.names (clOf X.env.cells scope.names [])) s3.heap.objs.size s3 (upd H2 s2.heap.objs.size (.lst [])) fp=Xc at J0 hg hif he turn
  have hprog:Xc.prog=X.prog:=by rw[<- hXc];rfl
  have hw:Xc.w=X.w:=by rw[<- hXc];rfl
  have hK:Xc.K=X.K:=by rw[<- hXc];rfl
  have hA:Xc.A=X.A:=by rw[<- hXc];rfl
  have hcm:Xc.calm=true:=by rw[<- hXc];rfl
  have hxe:Xc.xe=fun _ _=>False:=by rw[<- hXc];rfl
  have hen:Xc.env=compEnvX scope (cellsFrom (s3.heap.objs.size+1) scope.names (clOf X.env.cells scope.names [])) s3.heap.objs.size X.env:=by rw[<- hXc];rfl
  have hex:Xc.ex=fp:=by rw[<- hXc];rfl
  have hfs:Xc.fs=frs X.stack:=by rw[<- hXc];rfl
  have hs0:Xc.s₀=s3:=by rw[<- hXc];rfl
  have hH0:Xc.H₀=upd H2 s2.heap.objs.size (.lst []):=by rw[<- hXc];rfl
  have hpn:Xc.pn=[]:=by rw[<- hXc];rfl
  have stat:∀ {H':Hp},(∀ b∈fp,H' b=none)->∀ b∈fp,FpOk Xc [] H' b:=fun {H'} hn b hb=>by
    refine⟨hn b hb,(J0.ok.exf b (by rw[hex];exact hb)).1,fun z=>J0.ok.exfs b (by rw[hex];exact hb) z,.inl (by rw[hex];exact hb),(J0.ok.exf b (by rw[hex];exact hb)).2,fun p hp=>?_⟩
    rw[hpn] at hp
    exact absurd hp (by simp)
  have loop:codeAny (model X.prog X.w) X.A (.compLoop (.ListComp elt [⟨tg,iter,ifs,0⟩] scope pos) 0 (.ref it) (.ref s2.heap.objs.size) Xc.env)
      (R (.ref s2.heap.objs.size) s3.heap.objs.size) { s3 with heap:=pushCells (s3.heap.push { cls:=.type "dict",data:=.dict #[] }) scope.names }:=by
    refine codeAny_compLoop_gen (fun n s'=>∃ i σ' H',Inv Xc [] σ' H' s'/\tn i s'.heap/\(∀ b∈fp,H' b=none)/\W i n σ' H') ?_ m0 ⟨0,_,_,J0,st4,fun b hb=>(f3 b hb).1,w0⟩
    rintro n s5 ⟨i,σ5,H5,I5,st5,fr5,w5⟩
    rcases turn i n σ5 H5 w5 with⟨stop,qn⟩ | ⟨go,N,hN,step⟩
    · have q:=T.done Xc hprog hw hK hcm i [] s5 σ5 H5 (fun _ _=>False) I5 (stat fr5) st5 stop
      rw[hA] at q
      refine thn q fun r s6 ⟨hr,I6⟩=>?_
      subst hr
      have hL:Xc.env.locals=s3.heap.objs.size:=by rw[hen];rfl
      have ub:=I6.base
      rw[hfs,hex,hH0,hs0] at ub
      have IX:Inv X pins σ H5 s6:=by
        refine I3.call' (ch:=fp) ?_ ub ?_ I6.bare fun b hb=>⟨(f3 b hb).2.2.2.1,(f3 b hb).2.1,(f3 b hb).2.2.2.2.1,(f3 b hb).2.2.2.2.2⟩
        · have:=I6.os
          rw[hs0] at this
          exact this
        · have hok:=I6.hok
          rw[hprog,hw] at hok
          exact hok
      refine fin _ _ _ _ IX ⟨?_,?_,Nat.ne_of_gt I3.lt,I3.sz,fun x c e=>?_,fun p hp=>?_⟩ qn
      · obtain⟨m,hn,_⟩:=I6.loc
        rw[hL] at hn
        exact⟨m,hn⟩
      · have:=I6.free
        rw[hL] at this
        exact this
      · obtain⟨v,z⟩:=I3.cell x c e
        exact Nat.ne_of_lt z.lt
      · exact Nat.ne_of_lt (Heap.lt_size (I3.pin p hp).1)
    · have q:=T.item Xc hprog hw hK hcm i [] s5 σ5 H5 (fun _ _=>False) I5 (stat fr5) st5 go
      rw[hA] at q
      refine thn q fun r s6 ⟨u,hr,h6⟩=>?_
      subst hr
      refine thn h6 fun _ s7 ⟨x,H7,I7,r7,y7,st7,fr7⟩=>?_
      have I7':=I7.pinned (stat fr7) (T.obj _ _ st7)
      have q8:=hg _ s7 σ5 H7 x u _ I7' r7 (step x H7 y7)
      rw[hprog,hw,hA,hxe] at q8
      refine thn q8 fun _ s8 ⟨σ8,H8,I8,z8⟩=>?_
      have q9:=hif _ s8 σ8 H8 _ I8 z8
      rw[hprog,hw,hA,hxe] at q9
      refine thn q9 fun ok s9 ⟨H9,I9,z9⟩=>?_
      have again:∀ {s':Shared} {σ':St} {H':Hp},Inv Xc ([]++pinsAt fp s7.heap) σ' H' s'->N σ' H'->∃ m,m<n/\∃ i σ' H',Inv Xc [] σ' H' s'/\tn i s'.heap/\(∀ b∈fp,H' b=none)/\W i m σ' H':=fun {s' σ' H'} I' n'=>by
        obtain⟨m',hm,w'⟩:=hN σ' H' n'
        refine⟨m',hm,i+1,σ',H',I'.unpinned,T.keep _ _ _ st7 fun b hb o e=>(I'.pin (b,o) (List.mem_append_right _ (List.mem_append_right _ (mem_pinsAt hb e)))).1,fun b hb=>?_,w'⟩
        obtain⟨o,e,d⟩:=T.obj _ _ st7 b hb
        exact(I'.pin (b,o) (List.mem_append_right _ (List.mem_append_right _ (mem_pinsAt hb e)))).2.1
      cases ok with
      | false =>
        rw[if_neg Bool.false_ne_true] at z9 ⊢
        exact again I9 z9
      | true =>
        rw[if_pos rfl] at z9 ⊢
        have q10:=he _ s9 σ8 H9 _ I9 z9
        rw[hprog,hw,hA,hxe] at q10
        refine thn q10 fun uv s10 ⟨v,H10,I10,r10,ys,hy,hz,z10⟩=>?_
        have q11:=mt_append (X:=Xc) _ s10 σ8 H10 (.ref s2.heap.objs.size) [v] (.ref s2.heap.objs.size) [uv] (fun _ H'=>N σ8 H') I10 rfl (.cons r10 .nil) ⟨_,ys,v,rfl,rfl,hy,hz,z10⟩
        rw[hprog,hw,hA,hxe] at q11
        exact thn q11 fun _ s11 ⟨_,H11,I11,_,z11⟩=>again I11 z11
  have eenv:({ (newEnv scope s3.heap.objs.size X.env.globals (cellsFrom (s3.heap.objs.size+1) scope.names (clOf X.env.cells scope.names [])) X.env.qual none .none (some X.env) builtinsNs) with scope:=relabel scope X.env }:Env)=Xc.env:=by rw[hen];rfl
  rw[eenv]
  exact codeAny_compStart_list loop (T.self X.A 0 _ _ _ st4 loop)
theorem Blk.gone{pins:List (Addr×Obj)}{σ:St}{H:Hp}{s:Shared}{C:Addr}{h':Heap}(b:Blk X pins H s C)(I:Inv X pins σ H s)(hs:Heap.SameBut C s.heap h'):Inv X pins σ H { s with heap:=h' } :=
 I.turned (t':=s.toks) (fun c o hc e=>(hs.2 c hc).trans e) b.free b.loc (.inr b.abv) b.cel b.pin
theorem pe_comp{elt tg iter:Expr}{ifs:List Expr}{scope:Scope}{pos:Pos}{wi:TI}{g:Cx->TG}{tc:Cx->TT}{te:Cx->TE}(hc:X.calm=true)(hk:scope.kind=.function)(hnd:(scope.names.map (·.1)).Nodup)
  (hcap:∀ x,(x,NameKind.free)∈scope.names->X.env.kindOf x=some .cell\/X.env.kindOf x=some .free) (hi:PI X tg iter wi)
  (hin:∀ Xc:Cx,CompOf X scope Xc->PG Xc tg (g Xc)/\PIfs Xc ifs (tc Xc)/\PE Xc elt (te Xc)) (hs:∀ x,foldedSetIterable iter X.env x=pure x) :
  PE X (.ListComp elt [⟨tg,iter,ifs,0⟩] scope pos) (tComp X scope wi (mkSt X.N scope.names) g tc te):=by
 intro pins s σ H Q I h
 rw[eval_ListComp]
 refine wpAny_comprehension_free (use:=none) (cl:=clOf X.env.cells scope.names []) rfl hs (closureFor_clOf (comp_cells I hnd hcap).1) hk (fun x hx hl=>lookup_nodup hnd (by rw[<- hl];exact hx)) ?_
 refine comp_core hc hk hnd hcap hi hin I h fun acc C H' s' I' b q=>?_
 obtain⟨m,hn⟩:=b.ns
 exact⟨m,hn,fun h' hsb=>⟨.ref acc,H',b.gone I' hsb,rfl,q⟩⟩
theorem ps_setC{i:Nat}{x:Str}{elt tg iter:Expr}{ifs:List Expr}{scope:Scope}{pos pos' spos:Pos}{wi:TI}{g:Cx->TG}{tc:Cx->TT}{te:Cx->TE}(hN:X.N.Nodup)(hix:X.N[i]?=some x)(hx:X.env.scope.names.lookup x=some .local)
    (hc:X.calm=true) (hk:scope.kind=.function) (hnd:(scope.names.map (·.1)).Nodup)
    (hcap:∀ x,(x,NameKind.free)∈scope.names->X.env.kindOf x=some .cell\/X.env.kindOf x=some .free) (hi:PI X tg iter wi)
    (hin:∀ Xc:Cx,CompOf X scope Xc->PG Xc tg (g Xc)/\PIfs Xc ifs (tc Xc)/\PE Xc elt (te Xc)) (hs:∀ x,foldedSetIterable iter X.env x=pure x)
    (hsw:swapsWith (.ListComp elt [⟨tg,iter,ifs,0⟩] scope pos) (some (.Name x pos')) spos.line X.env=pure true) :
    PS X (.Assign [.Name x pos'] (.ListComp elt [⟨tg,iter,ifs,0⟩] scope pos) spos) (tAsg (tComp X scope wi (mkSt X.N scope.names) g tc te) (gName i)):=by
  intro pins s σ H D I h
  rw[exec_Assign_Name_used _ _ _ _ hsw]
  refine wpAny_bind (wpAny_standAt (wpAny_bind ?_))
  show wpAny _ X.A (do let _ <- comprehension (.ListComp elt [⟨tg,iter,ifs,0⟩] scope pos) scope X.env _ (newList []) false (eval iter X.env) (some (assign (.Name x pos') X.env))) _ _ s
  refine wpAny_bind (thn (wpAny_comprehension_free (use:=some (assign (.Name x pos') X.env)) (Q:=fun _ s'=>SP X pins D .next s') (cl:=clOf X.env.cells scope.names []) rfl hs (closureFor_clOf (comp_cells I hnd hcap).1) hk (fun x hx hl=>lookup_nodup hnd (by rw[<- hl];exact hx))
    (comp_core hc hk hnd hcap hi hin I h fun acc C H' s' I' b q=>?_)) fun _ s' hq=>wpAny_pure (wpAny_pure hq))
  show wpAny _ X.A (assign (.Name x pos') X.env (.ref acc)) _ _ s'
  refine wpAny_assign_Name (store_ok2 I' hN hix (.inl hx) (v:=.ref acc) rfl (fun s'' I'' ⟨a,hsb,ha⟩=>?_) (.inr hx))
  obtain⟨m,hn⟩:=b.ns
  have hCa:C≠a:=by
    rcases ha with ha | ha
    · rw[ha];exact b.loc
    · exact(b.cel x a ha).symm
  have b2:Blk X pins H' s'' C:=⟨⟨m,hn.sameBut hsb hCa⟩,b.free,b.loc,b.abv,b.cel,b.pin⟩
  exact⟨m,hn.sameBut hsb hCa,fun h' hsb'=>⟨_,H',b2.gone I'' hsb',q⟩⟩
end
end L2
namespace L2
open PySem PySem.Spec PyProof.Rows
section
variable {prog:Program} {w:World} {A:Around} {E:Value->Shared->Prop} {s:Shared}
theorem drawT{it t:Addr}{i:Nat}{its:Array Value}{Q:Value->Shared->Prop}(hh:A.handled=none)(hit:s.heap.IsTupleIter it t i)(ht:s.heap.IsTuple t its)
    (hs:∀ x h',its[i]?=some x->h'.IsTupleIter it t (i+1)->Heap.SameBut it s.heap h'->Q x { s with heap:=h' })
    (he:∀ h' e,its[i]?=none->Heap.ExtBut it s.heap h'->(∃ o,h'.get? e=some o/\o.cls=.type "StopIteration")->E (.ref e) { s with heap:=h' }) :
    wpAny (model prog w) A (Builtin.SmallTypes.nextOf (.ref it)) Q E s:=by
  obtain⟨oi,hoi,hci,hdi⟩:=id hit
  obtain⟨ot,hot,_,nt,hdt⟩:=ht
  unfold Builtin.SmallTypes.nextOf
  refine wpAny_bind (wpAny_callSpecial?_slot (name:=Str.ofString "__next__") hit.typeIs F.slot_tuple_iterator_next (wpAny_call_entry F.slot_tuple_iterator_next hit.typeIs F.entry_tuple_iterator_next ?_ (F.args_tuple_iterator_next_1 _)))
  show wpAny _ _ (field (.ref it) 0 >>=_) _ _ s;refine wpAny_bind (wpAny_field hoi hdi (x:=.ref t) rfl ?_)
  have nn:¬ ((Value.ref t==Value.none)=true):=Bool.false_ne_true
  show wpAny _ _ (if(Value.ref t==Value.none)=true then _ else _) _ _ s;rw[if_neg nn]
  show wpAny _ _ (field (.ref it) 1 >>=_) _ _ s;refine wpAny_bind (wpAny_field hoi hdi (x:=.int i 0) rfl ?_)
  show wpAny _ _ (seqItems? (.ref t) >>=_) _ _ s;refine wpAny_bind (wpAny_seqItems hot hdt ?_)
  cases hx:its[i]? with
  | some x =>
    simp only[Int.toNat_natCast,hx]
    have fin:(s.heap.update it fun o=>o.mapFields (·.setIfInBounds 1 (rawInt ((i:Int)+1)))).IsTupleIter it t (i+1):=⟨_,Heap.get?_update_self _ hoi (Obj.isFreed_of_fields (Obj.data_mapFields hdi _)),(Obj.cls_mapFields ..).trans hci,by rw[Obj.data_mapFields hdi];simp[rawInt]⟩
    exact wpAny_bind (wpAny_setField hoi hdi (by simp) (wpAny_pure ⟨x,rfl,wpAny_pure (hs x _ hx fin (Heap.SameBut.update ..))⟩))
  | none =>
    simp only[Int.toNat_natCast,hx]
    refine wpAny_bind (wpAny_rule (wpAny_bind (wpAny_setField hoi hdi (by simp) (wpAny_bind (m:=newExc (.type "StopIteration") []) ?_))))
    simp only[newExc,newTuple]
    refine wpAny_bind (wpAny_newObj_type (wpAny_bind (m:=firstArgMember _ _) (wpAny_of_eq (a:=Value.none) (by first | rfl | (simp only[firstArgMember];rfl)) (wpAny_newObj_type ?_ (by size_fits)))) (by size_fits))
    simp only[raiseNew]
    refine wpAny_bind (wpAny_handled ?_)
    first | rw[show A.in1.handled=none from hh] | rw[hh]
    exact wpAny_bind (wpAny_pure (wpAny_throw (he _ _ hx (((Heap.SameBut.update ..).extBut.push _).push _) ⟨_,Heap.get?_push_size _ rfl,rfl⟩)))
structure ZT (h:Heap) (z ti to i1 i2 t1 t2:Addr) (k:Nat) (f:Value):Prop where
 hz:IsZip h z ti to f
 hi:IsPair h ti (.ref i1) (.ref i2)
 ho:∃ a b,IsPair h to a b
 h1:h.IsTupleIter i1 t1 k
 h2:h.IsTupleIter i2 t2 k
theorem ZT.keep{h h':Heap}{z ti to i1 i2 t1 t2:Addr}{k:Nat}{f:Value}(x:ZT h z ti to i1 i2 t1 t2 k f)(kp:∀ b∈[z,ti,to,i1,i2],∀ o,h.get? b=some o->h'.get? b=some o):ZT h' z ti to i1 i2 t1 t2 k f :=
 ⟨kp z (by simp) _ x.hz,kp ti (by simp) _ x.hi,let ⟨a,b,e⟩:=x.ho;⟨a,b,kp to (by simp) _ e⟩,x.h1.at fun o e=>kp i1 (by simp) o e,x.h2.at fun o e=>kp i2 (by simp) o e⟩
theorem zipT_next{z ti to i1 i2 t1 t2:Addr}{k:Nat}{xs ys:Array Value}{Q:Fin->Shared->Prop}(hh:A.handled=none)(D:ZipApart z ti to i1 i2 t1 t2)(hZ:ZT s.heap z ti to i1 i2 t1 t2 k .none)
    (ht1:s.heap.IsTuple t1 xs) (ht2:s.heap.IsTuple t2 ys)
    (hs:∀ x y h',xs[k]?=some x->ys[k]?=some y->ZT h' z ti to i1 i2 t1 t2 (k+1) (rawInt s.heap.objs.size)->IsPair h' s.heap.objs.size x y->h'.objs.size=s.heap.objs.size+1 ->
      (∀ c o,c∉[z,to,i1,i2]->s.heap.get? c=some o->h'.get? c=some o)->Q (.done (.ret (.ref s.heap.objs.size))) { s with heap:=h' })
    (he:∀ h' e,(xs[k]?=none\/ys[k]?=none)->(∀ c o,c∉[z,to,i1,i2]->s.heap.get? c=some o->h'.get? c=some o)->(∃ o,h'.get? e=some o/\o.cls=.type "StopIteration")->E (.ref e) { s with heap:=h' }) :
    wpAny (model prog w) A (Builtin.«zip.__next__» ⟨[.ref z],[]⟩) Q E s:=by
  obtain⟨hz,hi,⟨a,b,ho⟩,h1,h2⟩:=hZ
  show wpAny _ _ (field (.ref z) 2 >>=_) _ _ _;refine wpAny_bind (wpAny_field hz rfl (x:=.bool false) rfl ?_)
  show wpAny _ _ (field (.ref z) 3 >>=_) _ _ _;refine wpAny_bind (wpAny_field hz rfl (x:=.ref ti) rfl (wpAny_bind (wpAny_seqItems hi rfl ?_)))
  show wpAny _ _ (Builtin.SmallTypes.ownedTupleIsFree (.ref z) >>=_) _ _ _
  unfold Builtin.SmallTypes.ownedTupleIsFree
  refine wpAny_bind (wpAny_bind (wpAny_field hz rfl (x:=.none) rfl (wpAny_pure ?_)))
  simp only[if_true]
  refine wpAny_bind (wpAny_rule (wpAny_bind (wpAny_field hz rfl (x:=.ref to) rfl (wpAny_bind (wpAny_setField_rec hz (by simp) fun ha za sa=>?_)))))
  replace za:IsZip ha z ti to .ellipsis:=za
  refine wpAny_bind ?_
  simp only[List.zipIdx_cons,List.zipIdx_nil,List.forIn_cons,List.forIn_nil]
  refine wpAny_bind (wpAny_bind (wpAny_onRaise ?_))
  have ne4:∀ {c:Addr},c∉[z,to,i1,i2]->c≠z/\c≠to/\c≠i1/\c≠i2:=fun hc=>by simpa using hc
  show wpAny _ _ (Builtin.SmallTypes.nextOf (.ref i1) >>=_) _ _ _
  refine wpAny_bind (drawT hh (h1.extBut sa.extBut D.i1z) (ht1.extBut sa.extBut D.l1z) (fun x hb hx itb sb=>wpAny_pure ?_) fun hb e hx eb ⟨oe,oe1,oe2⟩=>?_)
  · have tob:IsPair hb to a b:=sb.extBut _ _ D.TOi1 (sa.extBut _ _ D.TOz ho)
    refine wpAny_bind (wpAny_seqItems tob rfl (wpAny_bind (wpAny_updateSeq_pair tob fun hc toc sc=>wpAny_bind (wpAny_letGo (wpAny_pure ?_)))))
    replace toc:IsPair hc to x b:=toc
    refine wpAny_bind (wpAny_bind (wpAny_onRaise ?_))
    have h2c:hc.IsTupleIter i2 t2 k:=((h2.extBut sa.extBut D.i2z).extBut sb.extBut D.i12.symm).extBut sc.extBut D.TOi2.symm
    have t2c:hc.IsTuple t2 ys:=((ht2.extBut sa.extBut D.l2z).extBut sb.extBut D.l2i1).extBut sc.extBut D.l2TO
    show wpAny _ _ (Builtin.SmallTypes.nextOf (.ref i2) >>=_) _ _ _
    refine wpAny_bind (drawT hh h2c t2c (fun y hd hy itd sd=>wpAny_pure ?_) fun hd e hy ed ⟨oe,oe1,oe2⟩=>?_)
    · have tod:IsPair hd to x b:=sd.extBut _ _ D.TOi2 toc
      refine wpAny_bind (wpAny_seqItems tod rfl (wpAny_bind (wpAny_updateSeq_pair tod fun hf tof sf=>wpAny_bind (wpAny_letGo (wpAny_pure (wpAny_pure ?_))))))
      replace tof:IsPair hf to x y:=tof
      refine wpAny_bind (wpAny_seqItems tof rfl (wpAny_bind (wpAny_newTuple ?_)))
      have szf:hf.objs.size=s.heap.objs.size:=by rw[sf.1,sd.1,sc.1,sb.1,sa.1]
      have zf:IsZip hf z ti to .ellipsis:=sf.extBut _ _ D.TOz.symm (sd.extBut _ _ D.i2z.symm (sc.extBut _ _ D.TOz.symm (sb.extBut _ _ D.i1z.symm za)))
      have kf:∀ c o,c∉[z,to,i1,i2]->s.heap.get? c=some o->hf.get? c=some o:=fun c o hc' e=>by
        obtain⟨c1,c2,c3,c4⟩:=ne4 hc'
        exact sf.extBut _ _ c2 (sd.extBut _ _ c4 (sc.extBut _ _ c2 (sb.extBut _ _ c3 (sa.extBut _ _ c1 e))))
      have i1f:hf.IsTupleIter i1 t1 (k+1):=((itb.extBut sc.extBut D.TOi1.symm).extBut sd.extBut D.i12).extBut sf.extBut D.TOi1.symm
      have i2f:hf.IsTupleIter i2 t2 (k+1):=itd.extBut sf.extBut D.TOi2.symm
      have tif:IsPair hf ti (.ref i1) (.ref i2):=sf.extBut _ _ D.TITO (sd.extBut _ _ D.TIi2 (sc.extBut _ _ D.TITO (sb.extBut _ _ D.TIi1 (sa.extBut _ _ D.TIz hi))))
      have zlt:z<hf.objs.size:=Heap.lt_size zf
      show wpAny _ _ (Builtin.SmallTypes.ownedTupleHandOut (.ref z) (.ref hf.objs.size) >>=_) _ _ _
      unfold Builtin.SmallTypes.ownedTupleHandOut
      have zg:IsZip (hf.push { cls:=.type "tuple",data:=.seq #[x,y] }) z ti to .ellipsis:=Heap.get?_push_of_some _ zf
      refine wpAny_bind (wpAny_bind (wpAny_setField_rec zg (by simp) fun hk zk sk=>wpAny_setField_rec (show IsZip hk z ti to (rawInt hf.objs.size) from zk) (by simp) fun hm zm sm=>wpAny_pure ?_))
      replace zm:IsZip hm z ti to (rawInt hf.objs.size):=zm
      have up:∀ c o,c≠z->hf.get? c=some o->hm.get? c=some o:=fun c o c1 e=>sm.extBut _ _ c1 (sk.extBut _ _ c1 (Heap.get?_push_of_some _ e))
      have new:IsPair hm hf.objs.size x y:=sm.extBut _ _ (Nat.ne_of_gt zlt) (sk.extBut _ _ (Nat.ne_of_gt zlt) (Heap.get?_push_size _ rfl))
      have szm:hm.objs.size=hf.objs.size+1:=by rw[sm.1,sk.1,Heap.size_push]
      have q:=hs x y hm hx hy ⟨by rw[<- szf];exact zm,up _ _ D.TIz tif,⟨x,y,up _ _ D.TOz tof⟩,i1f.at fun o e=>up _ o D.i1z e,i2f.at fun o e=>up _ o D.i2z e⟩ (by rw[<- szf];exact new) (by rw[szm,szf]) fun c o hc' e=>up c o (ne4 hc').1 (kf c o hc' e)
      rw[<- szf] at q
      exact q
    · have zd:IsZip hd z ti to .ellipsis:=ed _ _ D.i2z.symm (sc.extBut _ _ D.TOz.symm (sb.extBut _ _ D.i1z.symm za))
      have ez:e≠z:=fun q=>by subst q;rw[zd] at oe1;cases oe1;simp at oe2
      refine wpAny_setField_rec zd (by simp) fun hf _ sf=>he hf e (.inr hy) (fun c o hc' q=>?_) ⟨oe,sf.extBut _ _ ez oe1,oe2⟩
      obtain⟨c1,c2,c3,c4⟩:=ne4 hc'
      exact sf.extBut _ _ c1 (ed _ _ c4 (sc.extBut _ _ c2 (sb.extBut _ _ c3 (sa.extBut _ _ c1 q))))
  · have zb:IsZip hb z ti to .ellipsis:=eb _ _ D.i1z.symm za
    have ez:e≠z:=fun q=>by subst q;rw[zb] at oe1;cases oe1;simp at oe2
    refine wpAny_setField_rec zb (by simp) fun hf _ sf=>he hf e (.inl hx) (fun c o hc' q=>?_) ⟨oe,sf.extBut _ _ ez oe1,oe2⟩
    obtain⟨c1,c2,c3,c4⟩:=ne4 hc'
    exact sf.extBut _ _ c1 (eb _ _ c3 (sa.extBut _ _ c1 q))
theorem pyNext_zipT{z ti to i1 i2 t1 t2:Addr}{k:Nat}{xs ys:Array Value}{Q:Option Value->Shared->Prop}(hh:A.handled=none)(D:ZipApart z ti to i1 i2 t1 t2)(hZ:ZT s.heap z ti to i1 i2 t1 t2 k .none)
    (ht1:s.heap.IsTuple t1 xs) (ht2:s.heap.IsTuple t2 ys)
    (hs:∀ x y h',xs[k]?=some x->ys[k]?=some y->ZT h' z ti to i1 i2 t1 t2 (k+1) (rawInt s.heap.objs.size)->IsPair h' s.heap.objs.size x y->h'.objs.size=s.heap.objs.size+1 ->
      (∀ c o,c∉[z,to,i1,i2]->s.heap.get? c=some o->h'.get? c=some o)->Q (some (.ref s.heap.objs.size)) { s with heap:=h' })
    (he:∀ h',(xs[k]?=none\/ys[k]?=none)->(∀ c o,c∉[z,to,i1,i2]->s.heap.get? c=some o->h'.get? c=some o)->Q none { s with heap:=h' }) :
    wpAny (model prog w) A (pyNext (.ref z)) Q E s:=by
  have hT:s.TypeIs (.ref z) "zip":=⟨_,hZ.hz,rfl⟩
  unfold pyNext
  refine wpAny_bind (wpAny_attempt (wpAny_callSpecial?_slot (name:=Str.ofString "__next__") hT F.slot_zip_next (wpAny_call_entry F.slot_zip_next hT F.entry_zip_next
    (zipT_next hh D hZ ht1 ht2 (fun x y h' a1 a2 a3 a4 a5 a6=>⟨_,rfl,wpAny_pure (hs x y h' a1 a2 a3 a4 a5 a6)⟩) fun h' e a1 a2 ⟨o,e1,e2⟩=>?_) (F.args_zip_next_1 _))))
  exact wpAny_bind (wpAny_isInstance (T:="StopIteration") (b:=true) ⟨o,e1,e2⟩ isSubtype_stop (wpAny_pure (he h' a1 a2)))
abbrev itT(t:Addr):Obj:={ cls:=.type "tuple_iterator",data:=.fields #[.ref t,.int 0 0] }
theorem zt_made(hp H1 H2 H3 H4 H5:Heap)(t1 t2:Addr)(e1:H1=hp.push (itT t1))(e2:H2=H1.push (itT t2))(e3:H3=H2.push { cls:=.type "tuple",data:=.seq #[.ref hp.objs.size,.ref H1.objs.size] })(e4:H4=H3.push { cls:=.type "tuple",data:=.seq #[.none,.none] })
  (e5:H5=H4.push { cls:=.type "zip",data:=.fields #[.none,.bool false,.bool false,.ref H2.objs.size,.ref H3.objs.size] }) :
  H4.objs.size=hp.objs.size+4/\H5.objs.size=hp.objs.size+5/\(∀ c o,hp.get? c=some o->H5.get? c=some o)/\ZT H5 (hp.objs.size+4) (hp.objs.size+2) (hp.objs.size+3) hp.objs.size (hp.objs.size+1) t1 t2 0 .none:=by
 have z1:H1.objs.size=hp.objs.size+1:=by rw[e1,Heap.size_push]
 have z2:H2.objs.size=hp.objs.size+2:=by rw[e2,Heap.size_push,z1]
 have z3:H3.objs.size=hp.objs.size+3:=by rw[e3,Heap.size_push,z2]
 have z4:H4.objs.size=hp.objs.size+4:=by rw[e4,Heap.size_push,z3]
 have z5:H5.objs.size=hp.objs.size+5:=by rw[e5,Heap.size_push,z4]
 have k5:∀ c o,H4.get? c=some o->H5.get? c=some o:=fun c o e=>by rw[e5];exact Heap.get?_push_of_some _ e
 have k4:∀ c o,H3.get? c=some o->H5.get? c=some o:=fun c o e=>k5 c o (by rw[e4];exact Heap.get?_push_of_some _ e)
 have k3:∀ c o,H2.get? c=some o->H5.get? c=some o:=fun c o e=>k4 c o (by rw[e3];exact Heap.get?_push_of_some _ e)
 have k2:∀ c o,H1.get? c=some o->H5.get? c=some o:=fun c o e=>k3 c o (by rw[e2];exact Heap.get?_push_of_some _ e)
 have k1:∀ c o,hp.get? c=some o->H5.get? c=some o:=fun c o e=>k2 c o (by rw[e1];exact Heap.get?_push_of_some _ e)
 refine⟨z4,z5,k1,?_,?_,⟨.none,.none,?_⟩,⟨_,k2 _ _ (by rw[e1];exact Heap.get?_push_size _ rfl),rfl,rfl⟩,⟨_,k3 _ _ (by rw[e2,<- z1];exact Heap.get?_push_size _ rfl),rfl,rfl⟩⟩
 ·have q:H5.get? H4.objs.size=some { cls:=.type "zip",data:=.fields #[.none,.bool false,.bool false,.ref H2.objs.size,.ref H3.objs.size] }:=by rw[e5];exact Heap.get?_push_size _ rfl
  rw[z2,z3,z4] at q
  exact q
 ·have q:H5.get? H2.objs.size=some { cls:=.type "tuple",data:=.seq #[.ref hp.objs.size,.ref H1.objs.size] }:=k4 _ _ (by rw[e3];exact Heap.get?_push_size _ rfl)
  rw[z1,z2] at q
  exact q
 ·have q:H5.get? H3.objs.size=some { cls:=.type "tuple",data:=.seq #[.none,.none] }:=k5 _ _ (by rw[e4];exact Heap.get?_push_size _ rfl)
  rw[z3] at q
  exact q
theorem zipT_new(t1 t2:Addr)(xs ys:Array Value) :
    Meets (Builtin.«zip.__new__» ⟨[.type "zip",.ref t1,.ref t2],[]⟩) (fun _ R s=>s.heap.IsTuple t1 xs/\s.heap.IsTuple t2 ys /\
      ∀ h', (∀ c o, s.heap.get? c = some o -> h'.get? c = some o) -> h'.objs.size = s.heap.objs.size + 5 -> ZT h' (s.heap.objs.size + 4) (s.heap.objs.size + 2) (s.heap.objs.size + 3) s.heap.objs.size (s.heap.objs.size + 1) t1 t2 0 .none ->
        R (.ok (.ret (.ref (s.heap.objs.size+4)))) { s with heap:=h' }) :=
  .of_wp fun prog w A R s h=>by
    obtain⟨hp,g,d,tk,os⟩:=s;obtain⟨hl1,hl2,h⟩:=h
    have hsub:=sub_zip
    have hL1:Heap.IsTuple (Shared.heap ⟨hp,g,d,tk,os⟩) t1 xs:=hl1
    have hL2:Heap.IsTuple (Shared.heap ⟨hp.push (itT t1),g,d,tk,os⟩) t2 ys:=let ⟨o,e,r⟩:=hl2;⟨o,Heap.get?_push_of_some _ e,r⟩
    wp_walk using wpAny_pyIter_tuple hL1,wpAny_pyIter_tuple hL2
    refine⟨_,rfl,?_⟩
    obtain⟨z4,z5,kp,Z⟩:=zt_made hp _ _ _ _ _ t1 t2 rfl rfl rfl rfl rfl
    have q:=h _ kp z5 Z
    rw[<- z4] at q
    exact q
theorem call_zipT{t1 t2:Addr}{xs ys:Array Value}{Q:Value->Shared->Prop}(hl1:s.heap.IsTuple t1 xs)(hl2:s.heap.IsTuple t2 ys)
    (h:∀ h',(∀ c o,s.heap.get? c=some o->h'.get? c=some o)->h'.objs.size=s.heap.objs.size+5->ZT h' (s.heap.objs.size+4) (s.heap.objs.size+2) (s.heap.objs.size+3) s.heap.objs.size (s.heap.objs.size+1) t1 t2 0 .none ->
      Q (.ref (s.heap.objs.size+4)) { s with heap:=h' }):wpAny (model prog w) A (call (.type "zip") [.ref t1,.ref t2]) Q E s:=by
  refine callType_new F.called_zip (by decide) (F.typeCall_zip_2 _ _) (F.newCall_zip_2 _ _) (fun obj=>F.args_object_init_3 obj _ _) F.entry_zip_new (zipT_new t1 t2 xs ys) ⟨hl1,hl2,fun h' kp z5 Z=>?_⟩
  exact⟨⟨_,Z.hz,rfl⟩,h h' kp z5 Z⟩
end
end L2
namespace L2
open PySem PySem.Spec PyProof.Rows
namespace RF
end RF
end L2
namespace L2
open PySem PySem.Spec PyProof.Rows
section
variable {prog:Program} {w:World} {A:Around} {E:Value->Shared->Prop} {s:Shared}
end
end L2
namespace L2
open PySem PySem.Spec PyProof.Rows PySem.SeqAt
section
variable {prog:Program} {w:World} {A:Around} {E:Value->Shared->Prop} {s:Shared}
theorem collect_range{r:Addr}{a b c:Int}{t u v:Tok}{n:Nat}{Q:List Value->Shared->Prop}(hh:A.handled=none)(hr:IsRange s.heap r a b c t u v)(hsmall:Builtin.Range.small a b c=true)
    (hn:Builtin.Range.rangeSize a b c=n) (hlen:n<=2^24)
    (hQ:∀ (h':Heap) tk acc,(∀ b o,s.heap.get? b=some o->h'.get? b=some o)->ItemsOf (fun i v=>∃ t,v=.int (a+i*c) t) acc n->Q acc.toList { s with heap:=h',toks:=tk }):wpAny (model prog w) A (collect (.ref r)) Q E s:=by
  unfold collect
  refine wpAny_bind (wpAny_runValue (codeAny_builtin F.entry_proto_collect ?_))
  rw[Around.under_plainId F.plain_proto_collect _]
  show wpAny _ A.in1 (newList [] >>=fun l=>again (.builtin "list.__iadd__" ⟨[l,.ref r],[]⟩)) _ _ s
  refine wpAny_bind (wpAny_newObj_type (wpAny_pure ⟨plainId_quiet F.plain_list_iadd _,codeAny_builtin F.entry_list_iadd ?_⟩))
  rw[Around.under_plainId F.plain_list_iadd _]
  have hS₁:(s.heap.push { cls:=.type "list",data:=.seq ([]:List Value).toArray }).get? s.heap.objs.size=some { cls:=.type "list",data:=.seq ([]:List Value).toArray }:=Heap.get?_push_size _ rfl
  show wpAny _ A.in1 (Builtin.List.listExtendWith (.ref s.heap.objs.size) (.ref r) (.ref s.heap.objs.size)) _ _ _
  refine wpAny_extend_range (R:=fun r s'=>match r with
        | .ok (.ret v)=>wpAny (model prog w) A (match v with | .ref a=>do (match (<- load a).data with | .seq xs _=>pure xs.toList | _=>unsupported "internal:collect") | _=>unsupported "internal:collect") Q E s'
        | .ok _=>False
        | .error e=>E e s') (A:=A) (s:={ s with heap:=s.heap.push { cls:=.type "list",data:=.seq ([]:List Value).toArray } }) hh (Heap.get?_push_of_some _ hr) hsmall hn hlen s.heap.objs.size (.ref s.heap.objs.size) _ hS₁ fun h' tk acc' c' hk hS' hacc=>?_
  show wpAny _ A (load s.heap.objs.size >>=_) _ _ _
  exact wpAny_bind (wpAny_load hS' (wpAny_pure (hQ h' tk acc' (fun b o e=>hk b o (Nat.ne_of_lt (Heap.lt_size e)) (Heap.get?_push_of_some _ e)) hacc)))
theorem call_tuple_range{r:Addr}{a b c:Int}{t u v:Tok}{n:Nat}{Q:Value->Shared->Prop}(hh:A.handled=none)(hr:IsRange s.heap r a b c t u v)(hsmall:Builtin.Range.small a b c=true)
  (hn:Builtin.Range.rangeSize a b c=n) (hlen:n<=100000)
  (hQ:∀ (h':Heap) tk acc,(∀ b o,s.heap.get? b=some o->h'.get? b=some o)->ItemsOf (fun i v=>∃ t,v=.int (a+i*c) t) acc n->Q (.ref h'.objs.size) { s with heap:=h'.push { cls:=.type "tuple",data:=.seq acc },toks:=tk }) :
  wpAny (model prog w) A (call (.type "tuple") [.ref r]) Q E s:=by
 have hT:s.TypeIs (.ref r) "range":=⟨_,hr,rfl⟩
 refine callType_codes (Q₁:=fun obj s₁=>s₁.TypeIs obj "tuple"/\Q obj s₁) F.called_tuple (F.typeCall_tuple_1 _) F.entry_object_init (codeAny_of_tree ?_) fun obj s₁ h₁ =>
  ⟨h₁.1,F.args_object_init_2 obj _,object_init_meets F.called_tuple.init.lookup F.called_tuple.made (by decide) prog w A.in1 _ s₁ ⟨h₁.1,rfl,h₁.2⟩⟩
 show wpAny _ A.in1.in1 (do checkBuiltinCall "tuple.__new__" ⟨[.type "tuple",.ref r],[]⟩;again (.builtin "tuple.__new__" ⟨[.type "tuple",.ref r],[]⟩)) _ _ s
 refine wpAny_bind (wpAny_of_eq (F.newCall_tuple_1 _) (wpAny_pure ⟨plainId_quiet F.plain_tuple_new _,codeAny_builtin F.entry_tuple_new ?_⟩))
 rw[Around.under_plainId F.plain_tuple_new _]
 have hsub:=sub_tuple_self
 have hinit:=init_tuple_lookup
 have hmh:=madeHere_tuple
 wp_walk using wpAny_typeOf hT,collect_range (A:=A.in1.in1) hh hr hsmall hn (by omega)
 intro h' tk acc hk hacc
 show wpAny _ _ (Builtin.Tuple.tupleExact acc.toList.toArray >>=fun v=>ret v) _ _ _
 unfold Builtin.Tuple.tupleExact
 have e:acc.toList.toArray=acc:=by simp
 rw[e]
 exact wpAny_bind (wpAny_newObj_type (wpAny_pure ⟨⟨_,Heap.get?_push_size _ rfl,rfl⟩,hQ h' tk acc hk hacc⟩) (by show acc.size<=sizeLine;rw[hacc.1,sizeLine_eq];omega))
end
end L2
namespace L2
open PySem PySem.Spec PyProof.Rows
def Itz(K:PySem.W.Frag)(t1 t2:Addr):It :=
  ⟨fun i H=>∃ xs ys x y,SqT K H t1 xs/\SqT K H t2 ys/\xs[i]?=some x/\ys[i]?=some y,
   fun i H v H'=>∃ p,H p=none/\v=.ref p/\∀ xs ys x y,SqT K H t1 xs->SqT K H t2 ys->xs[i]?=some x->ys[i]?=some y->H'=upd H p (.tup [x,y]),
   fun i H=>∃ xs ys,SqT K H t1 xs/\SqT K H t2 ys/\(xs.length<=i\/ys.length<=i)⟩
theorem Inv.turnedNew{X:Cx}{pins:List (Addr×Obj)}{σ:St}{H:Hp}{s:Shared}{h':Heap}{ch:List Addr}{o:HO}{t':Nat}(I:Inv X pins σ H s)(hf:∀ b∈ch,FpOk X pins H b)(k:∀ b u,b∉ch->s.heap.get? b=some u->h'.get? b=some u)
  (new:ObjOk X.prog X.w (upd H s.heap.objs.size o) h' s.heap.objs.size o):Inv X pins σ (upd H s.heap.objs.size o) { s with heap:=h',toks:=t' }:=by
 have hn:H s.heap.objs.size=none:=I.hok.fresh (Nat.le_refl _)
 refine I.call' (s':={ s with heap:=h',toks:=t' }) (ch:=ch) rfl ?_ ?_ I.bare fun b hb=>⟨(hf b hb).2.2.2.1,(hf b hb).2.1,(hf b hb).2.2.2.2.1,(hf b hb).2.2.2.2.2⟩
 ·refine⟨fun b u e _ _ hc=>k b u hc e,fun b u e _ _ hc=>⟨u.slots,k b u hc e⟩,fun b u e n hc=>?_,fun b u e hc=>⟨u,k b u hc e⟩,fun b xs e=>?_,fun b u xs e=>?_,fun b ps e=>⟨#[],?_⟩⟩
  ·rw[upd_ne (Nat.ne_of_lt (Heap.lt_size e))];exact n
  ·rw[upd_ne (ne_of_none e hn)];exact e
  ·rw[upd_ne (ne_of_none e hn)];exact e
  ·rw[upd_ne (ne_of_none e hn),e];simp
 ·intro b u e
  by_cases hb:b=s.heap.objs.size
  ·subst hb;rw[upd_same] at e;cases e;exact new
  ·rw[upd_ne hb] at e
   refine(I.hok b u e).stay (fun c v hc q=>k c v (fun z=>?_) q) (fun c q=>by rw[upd_ne (ne_of_none q hn)];exact q) fun c xs q=>by rw[upd_ne (ne_of_none q hn)];exact q
   have zn:=(hf c z).1
   rcases hc with rfl | hc
   ·rw[zn] at e;cases e
   ·rw[zn] at hc;cases hc
theorem Inv.turnedAll{X:Cx}{pins:List (Addr×Obj)}{σ:St}{H:Hp}{s:Shared}{h':Heap}{ch:List Addr}{t':Nat}(I:Inv X pins σ H s)(hf:∀ b∈ch,FpOk X pins H b)(k:∀ b u,b∉ch->s.heap.get? b=some u->h'.get? b=some u) :
  Inv X pins σ H { s with heap:=h',toks:=t' }:=by
 refine I.call' (s':={ s with heap:=h',toks:=t' }) (ch:=ch) rfl ?_ ?_ I.bare fun b hb=>⟨(hf b hb).2.2.2.1,(hf b hb).2.1,(hf b hb).2.2.2.2.1,(hf b hb).2.2.2.2.2⟩
 ·exact⟨fun b u e _ _ hc=>k b u hc e,fun b u e _ _ hc=>⟨u.slots,k b u hc e⟩,fun b u e n hc=>n,fun b u e hc=>⟨u,k b u hc e⟩,fun b xs e=>e,fun b u xs e=>e,fun b ps e=>⟨#[],by rw[e];simp⟩⟩
 ·intro b u e
  refine(I.hok b u e).stay (fun c v hc q=>k c v (fun z=>?_) q) (fun c q=>q) fun c xs q=>q
  have zn:=(hf c z).1
  rcases hc with rfl | hc
  ·rw[zn] at e;cases e
  ·rw[zn] at hc;cases hc
theorem turn_zip{P:Program}{w:World}{K:PySem.W.Frag}{es:List Expr}{kt:Nat}{pt:Pos}{z ti to i1 i2 t1 t2:Addr}(D:ZipApart z ti to i1 i2 t1 t2) :
    Turn P w K (.Tuple es kt pt) (Itz K t1 t2) [z,ti,to,i1,i2] z (fun i h=>ZT h z ti to i1 i2 t1 t2 i .none) where
  mem:=by simp
  obj:=fun i h st b hb=>by
    simp at hb
    rcases hb with rfl | rfl | rfl | rfl | rfl
    · exact⟨_,st.hz,fun v q=>by have q':Data.fields _=Data.cell v:=q;cases q'⟩
    · exact⟨_,st.hi,fun v q=>by have q':Data.seq _ _=Data.cell v:=q;cases q'⟩
    · obtain⟨a,c,e⟩:=st.ho
      exact⟨_,e,fun v q=>by have q':Data.seq _ _=Data.cell v:=q;cases q'⟩
    · obtain⟨o,e,_,d⟩:=st.h1
      exact⟨o,e,fun v q=>by rw[d] at q;cases q⟩
    · obtain⟨o,e,_,d⟩:=st.h2
      exact⟨o,e,fun v q=>by rw[d] at q;cases q⟩
  keep:=fun i h h' st k=>st.keep k
  item:=by
    intro X hP hw hK hc i pins s σ H E I hf st hg
    subst hP hw hK
    obtain⟨xs,ys,x,y,hq1,hq2,hx,hy⟩:=hg
    obtain⟨its1,rv1,p1,_⟩:=I.tuple hq1
    obtain⟨its2,rv2,p2,_⟩:=I.tuple hq2
    obtain⟨u1,hu1,ru1⟩:=rv1.get hx
    obtain⟨u2,hu2,ru2⟩:=rv2.get hy
    refine pyNext_zipT (I.ok.hd hc) D st (show s.heap.IsTuple t1 its1.toArray from p1) (show s.heap.IsTuple t2 its2.toArray from p2) (fun a b h' ha hb Z pr sz kp=>?_) fun h' hn _=>?_
    · have ea : a = u1 := by have : its1[i]? = some a := by simpa using ha
                             rw[hu1] at this;exact(Option.some.inj this).symm
      have eb : b = u2 := by have : its2[i]? = some b := by simpa using hb
                             rw[hu2] at this;exact(Option.some.inj this).symm
      subst ea eb
      have szl:2<=sizeLine:=by decide
      have hf4:∀ c∈[z,to,i1,i2],FpOk X pins H c:=fun c hc'=>hf c (by simp at hc' ⊢;rcases hc' with h | h | h | h<;>simp[h])
      have I1:Inv X pins σ (upd H s.heap.objs.size (.tup [x,y])) { s with heap:=h',toks:=s.toks }:=I.turnedNew hf4 kp ⟨szl,[a,b],.cons ru1 (.cons ru2 .nil),⟨_,pr,rfl,_,rfl⟩⟩
      have fresh:H s.heap.objs.size=none:=I.hok.fresh (Nat.le_refl _)
      have ltf:∀ c∈[z,ti,to,i1,i2],c≠s.heap.objs.size:=fun c hc' e=>by
        have:H c=none:=(hf c hc').1
        simp at hc'
        have lt:c<s.heap.objs.size:=by
          rcases hc' with rfl | rfl | rfl | rfl | rfl
          · exact Heap.lt_size st.hz
          · exact Heap.lt_size st.hi
          · obtain⟨_,_,e'⟩:=st.ho;exact Heap.lt_size e'
          · obtain⟨o,e',_⟩:=st.h1;exact Heap.lt_size e'
          · obtain⟨o,e',_⟩:=st.h2;exact Heap.lt_size e'
        exact Nat.ne_of_lt lt e
      refine⟨_,rfl,wpAny_letOwnedTupleGo_zip (s:={ s with heap:=h' }) Z.hz fun h2 z2 sb=>?_⟩
      have fz:=hf z (by simp)
      have I2:Inv X pins σ (upd H s.heap.objs.size (.tup [x,y])) { s with heap:=h2 }:=I1.turned (t':=s.toks) (fun c o hc' e=>(sb.2 c hc').trans e) (by rw[upd_ne (ltf z (by simp))];exact fz.1) fz.2.1 fz.2.2.2.1 fz.2.2.2.2.1 fz.2.2.2.2.2
      refine⟨.ref s.heap.objs.size,_,I2,rfl,⟨_,fresh,rfl,fun xs' ys' x' y' a1 a2 a3 a4=>?_⟩,?_,fun c hc'=>by rw[upd_ne (ltf c hc')];exact(hf c hc').1⟩
      · have e1:=I.tuple_inj a1 hq1
        have e2:=I.tuple_inj a2 hq2
        subst e1 e2
        rw[hx] at a3;rw[hy] at a4
        cases a3;cases a4
        rfl
      · obtain⟨a',b',e'⟩:=Z.ho
        exact⟨z2,(sb.2 ti D.TIz).trans Z.hi,⟨a',b',(sb.2 to D.TOz).trans e'⟩,Z.h1.at fun o e=>(sb.2 i1 D.i1z).trans e,Z.h2.at fun o e=>(sb.2 i2 D.i2z).trans e⟩
    · rcases hn with hn | hn
      · have:its1[i]?=none:=by simpa using hn
        rw[hu1] at this;cases this
      · have:its2[i]?=none:=by simpa using hn
        rw[hu2] at this;cases this
  done:=by
    intro X hP hw hK hc i pins s σ H E I hf st hg
    subst hP hw hK
    obtain⟨xs,ys,hq1,hq2,hl⟩:=hg
    obtain⟨its1,rv1,p1,_⟩:=I.tuple hq1
    obtain⟨its2,rv2,p2,_⟩:=I.tuple hq2
    have l1:=rv1.length
    have l2:=rv2.length
    refine pyNext_zipT (I.ok.hd hc) D st (show s.heap.IsTuple t1 its1.toArray from p1) (show s.heap.IsTuple t2 its2.toArray from p2) (fun a b h' ha hb Z pr sz kp=>?_) fun h' _ kp=>⟨rfl,?_⟩
    · exfalso
      have h1 : i < its1.length := by have : its1[i]? = some a := by simpa using ha
                                      exact(List.getElem?_eq_some_iff.mp this).1
      have h2 : i < its2.length := by have : its2[i]? = some b := by simpa using hb
                                      exact(List.getElem?_eq_some_iff.mp this).1
      omega
    · have hf4:∀ c∈[z,to,i1,i2],FpOk X pins H c:=fun c hc'=>hf c (by simp at hc' ⊢;rcases hc' with h | h | h | h<;>simp[h])
      exact I.turnedAll (t':=s.toks) hf4 kp
  self:=fun _ _ _ _ _ st h=>wpAny_pyIter_zip st.hz h
section
variable {X:Cx}
def iZip(K:PySem.W.Frag)(ta:TA):TI:=fun σ H R=>ta σ H fun vs H1=>∃ a b,vs=[.ref a,.ref b]/\(∃ xs,SqT K H1 a xs)/\(∃ ys,SqT K H1 b ys)/\R (Itz K a b) H1
theorem pi_zip{a b:Expr}{ta:TA}{p pos pt:Pos}{es:List Expr}{kt:Nat}(hg:Gl X "zip")(hm:X.mg "zip"=none)(ha:PA X [a,b] ta)(hs:starEach [a,b] X.env=[(false,eval a X.env),(false,eval b X.env)])(hs2:starEach [b] X.env=[(false,eval b X.env)]) :
    PI X (.Tuple es kt pt) (.Call (.Name "zip" p) [a,b] [] pos) (iZip X.K ta):=by
  intro pins s σ H R I h
  refine Call_ (ld_blt I hg hm boot_zip (PyProof.Rows.callWith_type1 (thn (ha pos pins s σ H _ I h) fun us s1 ⟨vs,H1,I1,r1,q1⟩=>?_) (by rw[hs,hs2]) (by rw[hs2];rfl)))
  obtain⟨a1,b1,e,⟨xs,hx⟩,⟨ys,hy⟩,q⟩:=q1
  subst e
  cases r1 with
  | cons r rr =>
    cases rr with
    | cons r' rr =>
      cases rr
      cases (show _=Value.ref a1 from r)
      cases (show _=Value.ref b1 from r')
      obtain⟨its1,_,p1,_⟩:=I1.tuple hx
      obtain⟨its2,_,p2,_⟩:=I1.tuple hy
      refine call_zipT (show s1.heap.IsTuple a1 its1.toArray from p1) (show s1.heap.IsTuple b1 its2.toArray from p2) fun h' kp sz Z=>?_
      refine wpAny_pyIter_zip (s:={ s1 with heap:=h' }) Z.hz ?_
      have I2:Inv X pins σ H1 { s1 with heap:=h' }:=I1.kept (t':=s1.toks) kp
      refine⟨s1.heap.objs.size+4,_,_,_,H1,rfl,I2,turn_zip (zipApart_new p1.lt p2.lt),Z,fun c hc=>?_,q⟩
      have hc':s1.heap.objs.size<=c:=by
        simp at hc
        rcases hc with h | h | h | h | h<;>rw[h]<;>first | exact Nat.le_refl _ | exact Nat.le_add_right _ _
      exact I1.fpOk hc' (I1.hok.fresh hc')
end
end L2
namespace L2
open PySem PySem.Spec PyProof.Rows
section
variable {prog:Program} {w:World} {A:Around} {E:Value->Shared->Prop} {s:Shared}
theorem drawsT(hh:A.handled=none)(it t:Addr)(ap:t≠it)(its:Array Value):Draws prog w A it [it,t] its.size (fun k v=>its[k]?=some v) (fun k h=>h.IsTupleIter it t k/\h.IsTuple t its) where
 live:=fun _ _ q=>by obtain⟨⟨o,e,_⟩,_⟩:=q;exact⟨o,e⟩
 frame:=fun _ _ _ q kp=>by
  obtain⟨⟨o,e,r⟩,⟨o2,e2,r2⟩⟩:=q
  exact⟨⟨o,kp it (by simp) o e,r⟩,⟨o2,kp t (by simp) o2 e2,r2⟩⟩
 item:=fun k s Q E lt q fin=>drawT hh q.1 q.2 (fun x h' hx a sb=>fin x h' s.toks hx ⟨a,by obtain⟨o2,e2,r2⟩:=q.2;exact⟨o2,(sb.2 t ap).trans e2,r2⟩⟩ sb) fun h' e hx _ _=>by
  have:its[k]?=some its[k]:=by simp[lt]
  rw[this] at hx;cases hx
 done:=fun s Q E q fin=>drawT hh q.1 q.2 (fun x h' hx _ _=>by simp at hx) fun h' e _ a b=>fin h' e a b
set_option maxHeartbeats 1000000 in
theorem enumT_new(t:Addr)(its:Array Value)(n:Nat)(dd:Option Addr)(sl:Array (Option Value)) :
    Meets (Builtin.«enumerate.__new__» ⟨[.type "enumerate",.ref t],[]⟩) (fun _ R s=>s.heap.get? t=some { cls:=.type "tuple",dict:=dd,data:=.seq its n,slots:=sl } /\
      R (.ok (.ret (.ref (s.heap.push (itT t)).objs.size))) { s with heap:=(s.heap.push (itT t)).push { cls:=.type "enumerate",data:=.fields #[.none,.bool false,.ref s.heap.objs.size,rawInt 0,.none,.none] } }) :=
  .of_wp fun prog w A R s h=>by
    obtain⟨hp,g,d,tk,os⟩:=s;obtain⟨hl,h⟩:=h
    have hsub:=sub_enumerate
    have hL:Heap.IsTuple (Shared.heap ⟨hp,g,d,tk,os⟩) t its:=⟨_,hl,rfl,n,rfl⟩
    wp_walk using AutoSeq1.wpAny_loadPart' hl
    refine wpAny_stack_any fun fr=>wpAny_pure ?_
    split
    · rename_i c _ _ _ _ _
      cases (c==Value.type "enumerate")<;>(wp_walk using AutoSeq1.wpAny_loadPart' hl,wpAny_pyIter_tuple hL;exact⟨_,rfl,h⟩)
    · wp_walk using AutoSeq1.wpAny_loadPart' hl,wpAny_pyIter_tuple hL;exact⟨_,rfl,h⟩
theorem call_enumT{t:Addr}{its:Array Value}{Q:Value->Shared->Prop}(ht:s.heap.IsTuple t its)
  (q:∀ h',IsEnum h' (s.heap.objs.size+1) s.heap.objs.size 0 .none->h'.IsTupleIter s.heap.objs.size t 0->(∀ b o,s.heap.get? b=some o->h'.get? b=some o)->Q (.ref (s.heap.objs.size+1)) { s with heap:=h' }) :
  wpAny (model prog w) A (call (.type "enumerate") [.ref t]) Q E s:=by
 obtain⟨⟨c,dd,dt,sl⟩,e,hc,n,hd⟩:=ht
 cases (show c=.type "tuple" from hc)
 cases (show dt=.seq its n from hd)
 refine callType_new F.called_enumerate (by decide) (F.typeCall_enumerate_1 _) (F.newCall_enumerate_1 _) (fun obj=>F.args_object_init_2 obj _) F.entry_enumerate_new (enumT_new t its n dd sl) ⟨e,?_⟩
 have z:(s.heap.push (itT t)).objs.size=s.heap.objs.size+1:=Heap.size_push ..
 have en:=Heap.get?_push_size (s.heap.push (itT t)) (o:={ cls:=.type "enumerate",data:=.fields #[.none,.bool false,.ref s.heap.objs.size,rawInt 0,.none,.none] }) rfl
 rw[z] at en
 show _/\_
 rw[z]
 exact⟨⟨_,en,rfl⟩,q _ en ⟨_,Heap.get?_push_of_some _ (Heap.get?_push_size _ rfl),rfl,rfl⟩ fun b o x=>Heap.get?_push_of_some _ (Heap.get?_push_of_some _ x)⟩
end
def Ite(K:PySem.W.Frag)(t:Addr):It :=
 ⟨fun i H=>∃ xs x,SqT K H t xs/\xs[i]?=some x,fun i H v H'=>∃ p,H p=none/\v=.ref p/\∀ xs x,SqT K H t xs->xs[i]?=some x->H'=upd H p (.tup [.int (i:Int),x]),fun i H=>∃ xs,SqT K H t xs/\xs.length=i⟩
theorem turn_enum{P:Program}{w:World}{K:PySem.W.Frag}{es:List Expr}{kt:Nat}{pt:Pos}{e it t:Addr}(d1:e≠it)(d2:e≠t)(d3:t≠it) :
  Turn P w K (.Tuple es kt pt) (Ite K t) [e,it] e (fun i h=>(∃ old,IsEnum h e it (i:Int) old)/\h.IsTupleIter it t i) where
 mem:=by simp
 obj:=fun i h q b hb=>by
  obtain⟨⟨old,q1⟩,o2,q2,_,q3⟩:=q
  simp at hb
  rcases hb with rfl | rfl
  ·exact⟨_,q1,fun v z=>by have z':Data.fields _=Data.cell v:=z;cases z'⟩
  ·exact⟨o2,q2,fun v z=>by rw[q3] at z;cases z⟩
 keep:=fun i h h' q kp=>by
  obtain⟨⟨old,q1⟩,o2,q2,q3⟩:=q
  exact⟨⟨old,kp e (by simp) _ q1⟩,o2,kp it (by simp) _ q2,q3⟩
 item:=by
  intro X hP hw hK hc i pins s σ H E I hf q hg
  subst hP hw hK
  obtain⟨xs,x,hq,hx⟩:=hg
  obtain⟨⟨old,q1⟩,q2⟩:=q
  obtain⟨its,rv,p,hz⟩:=I.tuple hq
  obtain⟨u,hu,ru⟩:=rv.get hx
  have hi:i<its.toArray.size:=by simpa using(List.getElem?_eq_some_iff.mp hu).1
  have D:=drawsT (prog:=X.prog) (w:=X.w) (A:=X.A.in1) (I.ok.hd hc) it t d3 its.toArray
  refine wpAny_pyNext_enum_itemD D q1 ⟨q2,(show s.heap.IsTuple t its.toArray from p)⟩ hi d1 (by simp;exact⟨d1,d2⟩) fun y h' tk hy eo st' new sz kp=>?_
  have ey:y=u:=by
   have:its[i]?=some y:=by simpa using hy
   rw[hu] at this;exact(Option.some.inj this).symm
  subst ey
  have szl:2<=sizeLine:=by decide
  have hlt:∀ c∈[e,it],c<s.heap.objs.size:=fun c hc'=>by
   simp at hc'
   rcases hc' with rfl | rfl
   ·exact Heap.lt_size q1
   ·obtain⟨o2,q2,_⟩:=q2;exact Heap.lt_size q2
  have I1:Inv X pins σ (upd H s.heap.objs.size (.tup [.int (i:Int),x])) { s with heap:=h',toks:=tk+1 }:=I.turnedNew (ch:=[e,it]) hf (fun b o hb z=>kp b o (fun q=>hb (by simp[q])) (fun q=>hb (by simp[q])) z) ⟨szl,[.int i tk,y],.cons ⟨tk,rfl⟩ (.cons ru .nil),⟨_,new,rfl,_,rfl⟩⟩
  refine⟨_,rfl,wpAny_letOwnedTupleGo_enum (s:={ s with heap:=h',toks:=tk+1 }) eo fun h2 e2 sb=>?_⟩
  obtain⟨f0,f1,f2,f3,f4,f5⟩:=hf e (by simp)
  have I2:Inv X pins σ (upd H s.heap.objs.size (.tup [.int (i:Int),x])) { s with heap:=h2,toks:=tk+1 }:=I1.turned (t':=tk+1) (fun c o hc' z=>(sb.2 c hc').trans z) (by rw[upd_ne (Nat.ne_of_lt (hlt e (by simp)))];exact f0) f1 f3 f4 f5
  refine⟨.ref s.heap.objs.size,_,I2,rfl,⟨_,I.hok.fresh (Nat.le_refl _),rfl,fun xs' x' a1 a2=>?_⟩,⟨⟨y,by simpa using e2⟩,?_⟩,fun b hb=>by rw[upd_ne (Nat.ne_of_lt (hlt b hb))];exact(hf b hb).1⟩
  ·have e1:=I.tuple_inj a1 hq
   subst e1
   rw[hx] at a2;cases a2;rfl
  ·obtain⟨o3,g1,g2⟩:=st'.1
   exact⟨o3,(sb.2 it d1.symm).trans g1,g2⟩
 done:=by
  intro X hP hw hK hc i pins s σ H E I hf q hg
  subst hP hw hK
  obtain⟨xs,hq,hl⟩:=hg
  obtain⟨⟨old,q1⟩,q2⟩:=q
  obtain⟨its,rv,p,hz⟩:=I.tuple hq
  have hn:its.toArray.size=i:=by rw[List.size_toArray,<- rv.length,hl]
  have D:=drawsT (prog:=X.prog) (w:=X.w) (A:=X.A.in1) (I.ok.hd hc) it t d3 its.toArray
  refine wpAny_pyNext_enum_endD D q1 ⟨by rw[hn];exact q2,(show s.heap.IsTuple t its.toArray from p)⟩ fun h' eb=>⟨rfl,?_⟩
  obtain⟨f0,f1,f2,f3,f4,f5⟩:=hf it (by simp)
  exact I.turned (t':=s.toks) (fun b o hb z=>eb b o hb z) f0 f1 f3 f4 f5
 self:=fun _ _ _ _ _ q h=>by obtain⟨⟨old,q1⟩,_⟩:=q;exact wpAny_pyIter_enum q1 h
section
variable {X:Cx}
def iEnum(K:PySem.W.Frag)(ta:TA):TI:=fun σ H R=>ta σ H fun vs H1=>∃ a,vs=[.ref a]/\(∃ xs,SqT K H1 a xs)/\R (Ite K a) H1
theorem pi_enum{a:Expr}{ta:TA}{p pos pt:Pos}{es:List Expr}{kt:Nat}(hg:Gl X "enumerate")(hm:X.mg "enumerate"=none)(ha:PA X [a] ta)(hs:starEach [a] X.env=[(false,eval a X.env)]) :
    PI X (.Tuple es kt pt) (.Call (.Name "enumerate" p) [a] [] pos) (iEnum X.K ta):=by
  intro pins s σ H R I h
  refine Call_ (ld_blt I hg hm (show bootBuiltins "enumerate"=some (.type "enumerate") by decide +kernel) (PyProof.Rows.callWith_type1 (thn (ha pos pins s σ H _ I h) fun us s1 ⟨vs,H1,I1,r1,q1⟩=>?_) hs rfl))
  obtain⟨a1,e,⟨xs,hx⟩,q⟩:=q1
  subst e
  cases r1 with
  | cons r rr =>
    cases rr
    cases (show _=Value.ref a1 from r)
    obtain⟨its1,rv,p1,hz⟩:=I1.tuple hx
    refine call_enumT (show s1.heap.IsTuple a1 its1.toArray from p1) fun h' en ti kp=>?_
    refine wpAny_pyIter_enum (s:={ s1 with heap:=h' }) en ?_
    have I2:Inv X pins σ H1 { s1 with heap:=h' }:=I1.kept (t':=s1.toks) kp
    have lt1:a1<s1.heap.objs.size:=p1.lt
    refine⟨s1.heap.objs.size+1,_,_,_,H1,rfl,I2,turn_enum (Nat.succ_ne_self _) (Nat.ne_of_gt (Nat.lt_succ_of_lt lt1)) (Nat.ne_of_lt lt1),⟨⟨_,en⟩,ti⟩,fun c hc=>?_,q⟩
    have hc':s1.heap.objs.size<=c:=by
      simp at hc
      rcases hc with h | h<;>rw[h]<;>first | exact Nat.le_refl _ | exact Nat.le_add_right _ _
    exact I1.fpOk hc' (I1.hok.fresh hc')
end
end L2
namespace L2
open PySem PySem.Spec PyProof.Rows
section
variable {X:Cx}
end
end L2
namespace L2
open PySem PySem.Spec PyProof.Rows
section
variable {prog:Program} {w:World} {A:Around} {E:Value->Shared->Prop} {s:Shared}
theorem drawL{it t:Addr}{i:Nat}{its:Array Value}{Q:Value->Shared->Prop}(hh:A.handled=none)(hit:s.heap.IsListIter it t i)(ht:s.heap.IsList t its)
  (hs:∀ x h',its[i]?=some x->h'.IsListIter it t (i+1)->Heap.SameBut it s.heap h'->Q x { s with heap:=h' })
  (he:∀ h' e,its[i]?=none->Heap.ExtBut it s.heap h'->(∃ o,h'.get? e=some o/\o.cls=.type "StopIteration")->E (.ref e) { s with heap:=h' }) :
  wpAny (model prog w) A (Builtin.SmallTypes.nextOf (.ref it)) Q E s:=by
 cases hx:its[i]? with
 | some x=>exact wpAny_nextOf_list_item hit ht hx fun h' a b=>hs x h' hx a b
 | none=>exact wpAny_nextOf_list_end hh hit ht hx fun h' e a b=>he h' e hx a b
abbrev itL(t:Addr):Obj:={ cls:=.type "list_iterator",data:=.fields #[.ref t,.int 0 0] }
end
section
variable {X:Cx}
end
end L2
namespace L2
open PySem PySem.Spec PyProof.Rows
section
variable {prog:Program} {w:World} {A:Around} {E:Value->Shared->Prop} {s:Shared}
structure ZN (h:Heap) (z ti to i1 i2 t1 t2:Addr) (k:Nat) (f:Value):Prop where
 hz:IsZip h z ti to f
 hi:IsPair h ti (.ref i1) (.ref i2)
 ho:∃ a b,IsPair h to a b
 h1:h.IsTupleIter i1 t1 k
 h2:h.IsListIter i2 t2 k
theorem ZN.keep{h h':Heap}{z ti to i1 i2 t1 t2:Addr}{k:Nat}{f:Value}(x:ZN h z ti to i1 i2 t1 t2 k f)(kp:∀ b∈[z,ti,to,i1,i2],∀ o,h.get? b=some o->h'.get? b=some o):ZN h' z ti to i1 i2 t1 t2 k f :=
 ⟨kp z (by simp) _ x.hz,kp ti (by simp) _ x.hi,let ⟨a,b,e⟩:=x.ho;⟨a,b,kp to (by simp) _ e⟩,x.h1.at fun o e=>kp i1 (by simp) o e,x.h2.at fun o e=>kp i2 (by simp) o e⟩
theorem zipN_next{z ti to i1 i2 t1 t2:Addr}{k:Nat}{xs ys:Array Value}{Q:Fin->Shared->Prop}(hh:A.handled=none)(D:ZipApart z ti to i1 i2 t1 t2)(hZ:ZN s.heap z ti to i1 i2 t1 t2 k .none)
    (ht1:s.heap.IsTuple t1 xs) (ht2:s.heap.IsList t2 ys)
    (hs:∀ x y h',xs[k]?=some x->ys[k]?=some y->ZN h' z ti to i1 i2 t1 t2 (k+1) (rawInt s.heap.objs.size)->IsPair h' s.heap.objs.size x y->h'.objs.size=s.heap.objs.size+1 ->
      (∀ c o,c∉[z,to,i1,i2]->s.heap.get? c=some o->h'.get? c=some o)->Q (.done (.ret (.ref s.heap.objs.size))) { s with heap:=h' })
    (he:∀ h' e,(xs[k]?=none\/ys[k]?=none)->(∀ c o,c∉[z,to,i1,i2]->s.heap.get? c=some o->h'.get? c=some o)->(∃ o,h'.get? e=some o/\o.cls=.type "StopIteration")->E (.ref e) { s with heap:=h' }) :
    wpAny (model prog w) A (Builtin.«zip.__next__» ⟨[.ref z],[]⟩) Q E s:=by
  obtain⟨hz,hi,⟨a,b,ho⟩,h1,h2⟩:=hZ
  show wpAny _ _ (field (.ref z) 2 >>=_) _ _ _;refine wpAny_bind (wpAny_field hz rfl (x:=.bool false) rfl ?_)
  show wpAny _ _ (field (.ref z) 3 >>=_) _ _ _;refine wpAny_bind (wpAny_field hz rfl (x:=.ref ti) rfl (wpAny_bind (wpAny_seqItems hi rfl ?_)))
  show wpAny _ _ (Builtin.SmallTypes.ownedTupleIsFree (.ref z) >>=_) _ _ _
  unfold Builtin.SmallTypes.ownedTupleIsFree
  refine wpAny_bind (wpAny_bind (wpAny_field hz rfl (x:=.none) rfl (wpAny_pure ?_)))
  simp only[if_true]
  refine wpAny_bind (wpAny_rule (wpAny_bind (wpAny_field hz rfl (x:=.ref to) rfl (wpAny_bind (wpAny_setField_rec hz (by simp) fun ha za sa=>?_)))))
  replace za:IsZip ha z ti to .ellipsis:=za
  refine wpAny_bind ?_
  simp only[List.zipIdx_cons,List.zipIdx_nil,List.forIn_cons,List.forIn_nil]
  refine wpAny_bind (wpAny_bind (wpAny_onRaise ?_))
  have ne4:∀ {c:Addr},c∉[z,to,i1,i2]->c≠z/\c≠to/\c≠i1/\c≠i2:=fun hc=>by simpa using hc
  show wpAny _ _ (Builtin.SmallTypes.nextOf (.ref i1) >>=_) _ _ _
  refine wpAny_bind (drawT hh (h1.extBut sa.extBut D.i1z) (ht1.extBut sa.extBut D.l1z) (fun x hb hx itb sb=>wpAny_pure ?_) fun hb e hx eb ⟨oe,oe1,oe2⟩=>?_)
  · have tob:IsPair hb to a b:=sb.extBut _ _ D.TOi1 (sa.extBut _ _ D.TOz ho)
    refine wpAny_bind (wpAny_seqItems tob rfl (wpAny_bind (wpAny_updateSeq_pair tob fun hc toc sc=>wpAny_bind (wpAny_letGo (wpAny_pure ?_)))))
    replace toc:IsPair hc to x b:=toc
    refine wpAny_bind (wpAny_bind (wpAny_onRaise ?_))
    have h2c:hc.IsListIter i2 t2 k:=((h2.extBut sa.extBut D.i2z).extBut sb.extBut D.i12.symm).extBut sc.extBut D.TOi2.symm
    have t2c:hc.IsList t2 ys:=((ht2.extBut sa.extBut D.l2z).extBut sb.extBut D.l2i1).extBut sc.extBut D.l2TO
    show wpAny _ _ (Builtin.SmallTypes.nextOf (.ref i2) >>=_) _ _ _
    refine wpAny_bind (drawL hh h2c t2c (fun y hd hy itd sd=>wpAny_pure ?_) fun hd e hy ed ⟨oe,oe1,oe2⟩=>?_)
    · have tod:IsPair hd to x b:=sd.extBut _ _ D.TOi2 toc
      refine wpAny_bind (wpAny_seqItems tod rfl (wpAny_bind (wpAny_updateSeq_pair tod fun hf tof sf=>wpAny_bind (wpAny_letGo (wpAny_pure (wpAny_pure ?_))))))
      replace tof:IsPair hf to x y:=tof
      refine wpAny_bind (wpAny_seqItems tof rfl (wpAny_bind (wpAny_newTuple ?_)))
      have szf:hf.objs.size=s.heap.objs.size:=by rw[sf.1,sd.1,sc.1,sb.1,sa.1]
      have zf:IsZip hf z ti to .ellipsis:=sf.extBut _ _ D.TOz.symm (sd.extBut _ _ D.i2z.symm (sc.extBut _ _ D.TOz.symm (sb.extBut _ _ D.i1z.symm za)))
      have kf:∀ c o,c∉[z,to,i1,i2]->s.heap.get? c=some o->hf.get? c=some o:=fun c o hc' e=>by
        obtain⟨c1,c2,c3,c4⟩:=ne4 hc'
        exact sf.extBut _ _ c2 (sd.extBut _ _ c4 (sc.extBut _ _ c2 (sb.extBut _ _ c3 (sa.extBut _ _ c1 e))))
      have i1f:hf.IsTupleIter i1 t1 (k+1):=((itb.extBut sc.extBut D.TOi1.symm).extBut sd.extBut D.i12).extBut sf.extBut D.TOi1.symm
      have i2f:hf.IsListIter i2 t2 (k+1):=itd.extBut sf.extBut D.TOi2.symm
      have tif:IsPair hf ti (.ref i1) (.ref i2):=sf.extBut _ _ D.TITO (sd.extBut _ _ D.TIi2 (sc.extBut _ _ D.TITO (sb.extBut _ _ D.TIi1 (sa.extBut _ _ D.TIz hi))))
      have zlt:z<hf.objs.size:=Heap.lt_size zf
      show wpAny _ _ (Builtin.SmallTypes.ownedTupleHandOut (.ref z) (.ref hf.objs.size) >>=_) _ _ _
      unfold Builtin.SmallTypes.ownedTupleHandOut
      have zg:IsZip (hf.push { cls:=.type "tuple",data:=.seq #[x,y] }) z ti to .ellipsis:=Heap.get?_push_of_some _ zf
      refine wpAny_bind (wpAny_bind (wpAny_setField_rec zg (by simp) fun hk zk sk=>wpAny_setField_rec (show IsZip hk z ti to (rawInt hf.objs.size) from zk) (by simp) fun hm zm sm=>wpAny_pure ?_))
      replace zm:IsZip hm z ti to (rawInt hf.objs.size):=zm
      have up:∀ c o,c≠z->hf.get? c=some o->hm.get? c=some o:=fun c o c1 e=>sm.extBut _ _ c1 (sk.extBut _ _ c1 (Heap.get?_push_of_some _ e))
      have new:IsPair hm hf.objs.size x y:=sm.extBut _ _ (Nat.ne_of_gt zlt) (sk.extBut _ _ (Nat.ne_of_gt zlt) (Heap.get?_push_size _ rfl))
      have szm:hm.objs.size=hf.objs.size+1:=by rw[sm.1,sk.1,Heap.size_push]
      have q:=hs x y hm hx hy ⟨by rw[<- szf];exact zm,up _ _ D.TIz tif,⟨x,y,up _ _ D.TOz tof⟩,i1f.at fun o e=>up _ o D.i1z e,i2f.at fun o e=>up _ o D.i2z e⟩ (by rw[<- szf];exact new) (by rw[szm,szf]) fun c o hc' e=>up c o (ne4 hc').1 (kf c o hc' e)
      rw[<- szf] at q
      exact q
    · have zd:IsZip hd z ti to .ellipsis:=ed _ _ D.i2z.symm (sc.extBut _ _ D.TOz.symm (sb.extBut _ _ D.i1z.symm za))
      have ez:e≠z:=fun q=>by subst q;rw[zd] at oe1;cases oe1;simp at oe2
      refine wpAny_setField_rec zd (by simp) fun hf _ sf=>he hf e (.inr hy) (fun c o hc' q=>?_) ⟨oe,sf.extBut _ _ ez oe1,oe2⟩
      obtain⟨c1,c2,c3,c4⟩:=ne4 hc'
      exact sf.extBut _ _ c1 (ed _ _ c4 (sc.extBut _ _ c2 (sb.extBut _ _ c3 (sa.extBut _ _ c1 q))))
  · have zb:IsZip hb z ti to .ellipsis:=eb _ _ D.i1z.symm za
    have ez:e≠z:=fun q=>by subst q;rw[zb] at oe1;cases oe1;simp at oe2
    refine wpAny_setField_rec zb (by simp) fun hf _ sf=>he hf e (.inl hx) (fun c o hc' q=>?_) ⟨oe,sf.extBut _ _ ez oe1,oe2⟩
    obtain⟨c1,c2,c3,c4⟩:=ne4 hc'
    exact sf.extBut _ _ c1 (eb _ _ c3 (sa.extBut _ _ c1 q))
theorem pyNext_zipN{z ti to i1 i2 t1 t2:Addr}{k:Nat}{xs ys:Array Value}{Q:Option Value->Shared->Prop}(hh:A.handled=none)(D:ZipApart z ti to i1 i2 t1 t2)(hZ:ZN s.heap z ti to i1 i2 t1 t2 k .none)
    (ht1:s.heap.IsTuple t1 xs) (ht2:s.heap.IsList t2 ys)
    (hs:∀ x y h',xs[k]?=some x->ys[k]?=some y->ZN h' z ti to i1 i2 t1 t2 (k+1) (rawInt s.heap.objs.size)->IsPair h' s.heap.objs.size x y->h'.objs.size=s.heap.objs.size+1 ->
      (∀ c o,c∉[z,to,i1,i2]->s.heap.get? c=some o->h'.get? c=some o)->Q (some (.ref s.heap.objs.size)) { s with heap:=h' })
    (he:∀ h',(xs[k]?=none\/ys[k]?=none)->(∀ c o,c∉[z,to,i1,i2]->s.heap.get? c=some o->h'.get? c=some o)->Q none { s with heap:=h' }) :
    wpAny (model prog w) A (pyNext (.ref z)) Q E s:=by
  have hT:s.TypeIs (.ref z) "zip":=⟨_,hZ.hz,rfl⟩
  unfold pyNext
  refine wpAny_bind (wpAny_attempt (wpAny_callSpecial?_slot (name:=Str.ofString "__next__") hT F.slot_zip_next (wpAny_call_entry F.slot_zip_next hT F.entry_zip_next
    (zipN_next hh D hZ ht1 ht2 (fun x y h' a1 a2 a3 a4 a5 a6=>⟨_,rfl,wpAny_pure (hs x y h' a1 a2 a3 a4 a5 a6)⟩) fun h' e a1 a2 ⟨o,e1,e2⟩=>?_) (F.args_zip_next_1 _))))
  exact wpAny_bind (wpAny_isInstance (T:="StopIteration") (b:=true) ⟨o,e1,e2⟩ isSubtype_stop (wpAny_pure (he h' a1 a2)))
theorem zn_made(hp H1 H2 H3 H4 H5:Heap)(t1 t2:Addr)(e1:H1=hp.push (itT t1))(e2:H2=H1.push (itL t2))(e3:H3=H2.push { cls:=.type "tuple",data:=.seq #[.ref hp.objs.size,.ref H1.objs.size] })(e4:H4=H3.push { cls:=.type "tuple",data:=.seq #[.none,.none] })
  (e5:H5=H4.push { cls:=.type "zip",data:=.fields #[.none,.bool false,.bool false,.ref H2.objs.size,.ref H3.objs.size] }) :
  H4.objs.size=hp.objs.size+4/\H5.objs.size=hp.objs.size+5/\(∀ c o,hp.get? c=some o->H5.get? c=some o)/\ZN H5 (hp.objs.size+4) (hp.objs.size+2) (hp.objs.size+3) hp.objs.size (hp.objs.size+1) t1 t2 0 .none:=by
 have z1:H1.objs.size=hp.objs.size+1:=by rw[e1,Heap.size_push]
 have z2:H2.objs.size=hp.objs.size+2:=by rw[e2,Heap.size_push,z1]
 have z3:H3.objs.size=hp.objs.size+3:=by rw[e3,Heap.size_push,z2]
 have z4:H4.objs.size=hp.objs.size+4:=by rw[e4,Heap.size_push,z3]
 have z5:H5.objs.size=hp.objs.size+5:=by rw[e5,Heap.size_push,z4]
 have k5:∀ c o,H4.get? c=some o->H5.get? c=some o:=fun c o e=>by rw[e5];exact Heap.get?_push_of_some _ e
 have k4:∀ c o,H3.get? c=some o->H5.get? c=some o:=fun c o e=>k5 c o (by rw[e4];exact Heap.get?_push_of_some _ e)
 have k3:∀ c o,H2.get? c=some o->H5.get? c=some o:=fun c o e=>k4 c o (by rw[e3];exact Heap.get?_push_of_some _ e)
 have k2:∀ c o,H1.get? c=some o->H5.get? c=some o:=fun c o e=>k3 c o (by rw[e2];exact Heap.get?_push_of_some _ e)
 have k1:∀ c o,hp.get? c=some o->H5.get? c=some o:=fun c o e=>k2 c o (by rw[e1];exact Heap.get?_push_of_some _ e)
 refine⟨z4,z5,k1,?_,?_,⟨.none,.none,?_⟩,⟨_,k2 _ _ (by rw[e1];exact Heap.get?_push_size _ rfl),rfl,rfl⟩,⟨_,k3 _ _ (by rw[e2,<- z1];exact Heap.get?_push_size _ rfl),rfl,rfl⟩⟩
 ·have q:H5.get? H4.objs.size=some { cls:=.type "zip",data:=.fields #[.none,.bool false,.bool false,.ref H2.objs.size,.ref H3.objs.size] }:=by rw[e5];exact Heap.get?_push_size _ rfl
  rw[z2,z3,z4] at q
  exact q
 ·have q:H5.get? H2.objs.size=some { cls:=.type "tuple",data:=.seq #[.ref hp.objs.size,.ref H1.objs.size] }:=k4 _ _ (by rw[e3];exact Heap.get?_push_size _ rfl)
  rw[z1,z2] at q
  exact q
 ·have q:H5.get? H3.objs.size=some { cls:=.type "tuple",data:=.seq #[.none,.none] }:=k5 _ _ (by rw[e4];exact Heap.get?_push_size _ rfl)
  rw[z3] at q
  exact q
theorem zipN_new(t1 t2:Addr)(xs ys:Array Value) :
    Meets (Builtin.«zip.__new__» ⟨[.type "zip",.ref t1,.ref t2],[]⟩) (fun _ R s=>s.heap.IsTuple t1 xs/\s.heap.IsList t2 ys /\
      ∀ h', (∀ c o, s.heap.get? c = some o -> h'.get? c = some o) -> h'.objs.size = s.heap.objs.size + 5 -> ZN h' (s.heap.objs.size + 4) (s.heap.objs.size + 2) (s.heap.objs.size + 3) s.heap.objs.size (s.heap.objs.size + 1) t1 t2 0 .none ->
        R (.ok (.ret (.ref (s.heap.objs.size+4)))) { s with heap:=h' }) :=
  .of_wp fun prog w A R s h=>by
    obtain⟨hp,g,d,tk,os⟩:=s;obtain⟨hl1,hl2,h⟩:=h
    have hsub:=sub_zip
    have hL1:Heap.IsTuple (Shared.heap ⟨hp,g,d,tk,os⟩) t1 xs:=hl1
    have hL2:Heap.IsList (Shared.heap ⟨hp.push (itT t1),g,d,tk,os⟩) t2 ys:=let ⟨o,e,r⟩:=hl2;⟨o,Heap.get?_push_of_some _ e,r⟩
    wp_walk using wpAny_pyIter_tuple hL1,wpAny_pyIter_list hL2
    refine⟨_,rfl,?_⟩
    obtain⟨z4,z5,kp,Z⟩:=zn_made hp _ _ _ _ _ t1 t2 rfl rfl rfl rfl rfl
    have q:=h _ kp z5 Z
    rw[<- z4] at q
    exact q
theorem call_zipN{t1 t2:Addr}{xs ys:Array Value}{Q:Value->Shared->Prop}(hl1:s.heap.IsTuple t1 xs)(hl2:s.heap.IsList t2 ys)
    (h:∀ h',(∀ c o,s.heap.get? c=some o->h'.get? c=some o)->h'.objs.size=s.heap.objs.size+5->ZN h' (s.heap.objs.size+4) (s.heap.objs.size+2) (s.heap.objs.size+3) s.heap.objs.size (s.heap.objs.size+1) t1 t2 0 .none ->
      Q (.ref (s.heap.objs.size+4)) { s with heap:=h' }):wpAny (model prog w) A (call (.type "zip") [.ref t1,.ref t2]) Q E s:=by
  refine callType_new F.called_zip (by decide) (F.typeCall_zip_2 _ _) (F.newCall_zip_2 _ _) (fun obj=>F.args_object_init_3 obj _ _) F.entry_zip_new (zipN_new t1 t2 xs ys) ⟨hl1,hl2,fun h' kp z5 Z=>?_⟩
  exact⟨⟨_,Z.hz,rfl⟩,h h' kp z5 Z⟩
end
def ItzN(K:PySem.W.Frag)(t1 t2:Addr):It :=
  ⟨fun i H=>∃ xs ys x y,SqT K H t1 xs/\SqL K H t2 ys/\xs[i]?=some x/\ys[i]?=some y,
   fun i H v H'=>∃ p,H p=none/\v=.ref p/\∀ xs ys x y,SqT K H t1 xs->SqL K H t2 ys->xs[i]?=some x->ys[i]?=some y->H'=upd H p (.tup [x,y]),
   fun i H=>∃ xs ys,SqT K H t1 xs/\SqL K H t2 ys/\(xs.length<=i\/ys.length<=i)⟩
theorem turn_zipN{P:Program}{w:World}{K:PySem.W.Frag}{es:List Expr}{kt:Nat}{pt:Pos}{z ti to i1 i2 t1 t2:Addr}(D:ZipApart z ti to i1 i2 t1 t2) :
    Turn P w K (.Tuple es kt pt) (ItzN K t1 t2) [z,ti,to,i1,i2] z (fun i h=>ZN h z ti to i1 i2 t1 t2 i .none) where
  mem:=by simp
  obj:=fun i h st b hb=>by
    simp at hb
    rcases hb with rfl | rfl | rfl | rfl | rfl
    · exact⟨_,st.hz,fun v q=>by have q':Data.fields _=Data.cell v:=q;cases q'⟩
    · exact⟨_,st.hi,fun v q=>by have q':Data.seq _ _=Data.cell v:=q;cases q'⟩
    · obtain⟨a,c,e⟩:=st.ho
      exact⟨_,e,fun v q=>by have q':Data.seq _ _=Data.cell v:=q;cases q'⟩
    · obtain⟨o,e,_,d⟩:=st.h1
      exact⟨o,e,fun v q=>by rw[d] at q;cases q⟩
    · obtain⟨o,e,_,d⟩:=st.h2
      exact⟨o,e,fun v q=>by rw[d] at q;cases q⟩
  keep:=fun i h h' st k=>st.keep k
  item:=by
    intro X hP hw hK hc i pins s σ H E I hf st hg
    subst hP hw hK
    obtain⟨xs,ys,x,y,hq1,hq2,hx,hy⟩:=hg
    obtain⟨its1,rv1,p1,_⟩:=I.tuple hq1
    obtain⟨its2,rv2,p2,_⟩:=I.list hq2
    obtain⟨u1,hu1,ru1⟩:=rv1.get hx
    obtain⟨u2,hu2,ru2⟩:=rv2.get hy
    refine pyNext_zipN (I.ok.hd hc) D st (show s.heap.IsTuple t1 its1.toArray from p1) p2.isList (fun a b h' ha hb Z pr sz kp=>?_) fun h' hn _=>?_
    · have ea : a = u1 := by have : its1[i]? = some a := by simpa using ha
                             rw[hu1] at this;exact(Option.some.inj this).symm
      have eb : b = u2 := by have : its2[i]? = some b := by simpa using hb
                             rw[hu2] at this;exact(Option.some.inj this).symm
      subst ea eb
      have szl:2<=sizeLine:=by decide
      have hf4:∀ c∈[z,to,i1,i2],FpOk X pins H c:=fun c hc'=>hf c (by simp at hc' ⊢;rcases hc' with h | h | h | h<;>simp[h])
      have I1:Inv X pins σ (upd H s.heap.objs.size (.tup [x,y])) { s with heap:=h',toks:=s.toks }:=I.turnedNew hf4 kp ⟨szl,[a,b],.cons ru1 (.cons ru2 .nil),⟨_,pr,rfl,_,rfl⟩⟩
      have fresh:H s.heap.objs.size=none:=I.hok.fresh (Nat.le_refl _)
      have ltf:∀ c∈[z,ti,to,i1,i2],c≠s.heap.objs.size:=fun c hc' e=>by
        have:H c=none:=(hf c hc').1
        simp at hc'
        have lt:c<s.heap.objs.size:=by
          rcases hc' with rfl | rfl | rfl | rfl | rfl
          · exact Heap.lt_size st.hz
          · exact Heap.lt_size st.hi
          · obtain⟨_,_,e'⟩:=st.ho;exact Heap.lt_size e'
          · obtain⟨o,e',_⟩:=st.h1;exact Heap.lt_size e'
          · obtain⟨o,e',_⟩:=st.h2;exact Heap.lt_size e'
        exact Nat.ne_of_lt lt e
      refine⟨_,rfl,wpAny_letOwnedTupleGo_zip (s:={ s with heap:=h' }) Z.hz fun h2 z2 sb=>?_⟩
      have fz:=hf z (by simp)
      have I2:Inv X pins σ (upd H s.heap.objs.size (.tup [x,y])) { s with heap:=h2 }:=I1.turned (t':=s.toks) (fun c o hc' e=>(sb.2 c hc').trans e) (by rw[upd_ne (ltf z (by simp))];exact fz.1) fz.2.1 fz.2.2.2.1 fz.2.2.2.2.1 fz.2.2.2.2.2
      refine⟨.ref s.heap.objs.size,_,I2,rfl,⟨_,fresh,rfl,fun xs' ys' x' y' a1 a2 a3 a4=>?_⟩,?_,fun c hc'=>by rw[upd_ne (ltf c hc')];exact(hf c hc').1⟩
      · have e1:=I.tuple_inj a1 hq1
        have e2:=I.list_inj a2 hq2
        subst e1 e2
        rw[hx] at a3;rw[hy] at a4
        cases a3;cases a4
        rfl
      · obtain⟨a',b',e'⟩:=Z.ho
        exact⟨z2,(sb.2 ti D.TIz).trans Z.hi,⟨a',b',(sb.2 to D.TOz).trans e'⟩,Z.h1.at fun o e=>(sb.2 i1 D.i1z).trans e,Z.h2.at fun o e=>(sb.2 i2 D.i2z).trans e⟩
    · rcases hn with hn | hn
      · have:its1[i]?=none:=by simpa using hn
        rw[hu1] at this;cases this
      · have:its2[i]?=none:=by simpa using hn
        rw[hu2] at this;cases this
  done:=by
    intro X hP hw hK hc i pins s σ H E I hf st hg
    subst hP hw hK
    obtain⟨xs,ys,hq1,hq2,hl⟩:=hg
    obtain⟨its1,rv1,p1,_⟩:=I.tuple hq1
    obtain⟨its2,rv2,p2,_⟩:=I.list hq2
    have l1:=rv1.length
    have l2:=rv2.length
    refine pyNext_zipN (I.ok.hd hc) D st (show s.heap.IsTuple t1 its1.toArray from p1) p2.isList (fun a b h' ha hb Z pr sz kp=>?_) fun h' _ kp=>⟨rfl,?_⟩
    · exfalso
      have h1 : i < its1.length := by have : its1[i]? = some a := by simpa using ha
                                      exact(List.getElem?_eq_some_iff.mp this).1
      have h2 : i < its2.length := by have : its2[i]? = some b := by simpa using hb
                                      exact(List.getElem?_eq_some_iff.mp this).1
      omega
    · have hf4:∀ c∈[z,to,i1,i2],FpOk X pins H c:=fun c hc'=>hf c (by simp at hc' ⊢;rcases hc' with h | h | h | h<;>simp[h])
      exact I.turnedAll (t':=s.toks) hf4 kp
  self:=fun _ _ _ _ _ st h=>wpAny_pyIter_zip st.hz h
section
variable {X:Cx}
def iZipN(K:PySem.W.Frag)(ta:TA):TI:=fun σ H R=>ta σ H fun vs H1=>∃ a b,vs=[.ref a,.ref b]/\(∃ xs,SqT K H1 a xs)/\(∃ ys,SqL K H1 b ys)/\R (ItzN K a b) H1
theorem pi_zipN{a b:Expr}{ta:TA}{p pos pt:Pos}{es:List Expr}{kt:Nat}(hg:Gl X "zip")(hm:X.mg "zip"=none)(ha:PA X [a,b] ta)(hs:starEach [a,b] X.env=[(false,eval a X.env),(false,eval b X.env)])(hs2:starEach [b] X.env=[(false,eval b X.env)]) :
    PI X (.Tuple es kt pt) (.Call (.Name "zip" p) [a,b] [] pos) (iZipN X.K ta):=by
  intro pins s σ H R I h
  refine Call_ (ld_blt I hg hm boot_zip (PyProof.Rows.callWith_type1 (thn (ha pos pins s σ H _ I h) fun us s1 ⟨vs,H1,I1,r1,q1⟩=>?_) (by rw[hs,hs2]) (by rw[hs2];rfl)))
  obtain⟨a1,b1,e,⟨xs,hx⟩,⟨ys,hy⟩,q⟩:=q1
  subst e
  cases r1 with
  | cons r rr =>
    cases rr with
    | cons r' rr =>
      cases rr
      cases (show _=Value.ref a1 from r)
      cases (show _=Value.ref b1 from r')
      obtain⟨its1,_,p1,_⟩:=I1.tuple hx
      obtain⟨its2,_,p2,_⟩:=I1.list hy
      refine call_zipN (show s1.heap.IsTuple a1 its1.toArray from p1) p2.isList fun h' kp sz Z=>?_
      refine wpAny_pyIter_zip (s:={ s1 with heap:=h' }) Z.hz ?_
      have I2:Inv X pins σ H1 { s1 with heap:=h' }:=I1.kept (t':=s1.toks) kp
      refine⟨s1.heap.objs.size+4,_,_,_,H1,rfl,I2,turn_zipN (zipApart_new p1.lt (by obtain⟨_,e,_⟩:=p2.isList;exact Heap.lt_size e)),Z,fun c hc=>?_,q⟩
      have hc':s1.heap.objs.size<=c:=by
        simp at hc
        rcases hc with h | h | h | h | h<;>rw[h]<;>first | exact Nat.le_refl _ | exact Nat.le_add_right _ _
      exact I1.fpOk hc' (I1.hok.fresh hc')
end
end L2
namespace L2
open PySem PySem.Spec PyProof.Rows
section
variable {X:Cx}
end
end L2
namespace L2
open PySem PySem.Spec PyProof.Rows
theorem noFill_tuple_mul:fillsNumberSlot (.type "tuple") "mul"=pure false :=
 PySem.fillsNumberSlot_seq (id:="tuple.__mul__") (r:=some (.builtin "tuple.__rmul__")) PySem.F.slot_tuple_mul.lookup (by decide +kernel) PySem.F.slot_tuple_rmul.lookup (by decide +kernel)
theorem repeat_tuple:seqRepeat? (.type "tuple")=pure (some (.builtin "tuple.__mul__")):=by
 unfold seqRepeat?
 rw[PySem.seqSlot_of (T:="tuple") (name:="__mul__") (id:="tuple.__mul__") PySem.F.slot_tuple_mul.lookup (by decide +kernel),PySem.seqSlot_of (T:="tuple") (name:="__rmul__") (id:="tuple.__rmul__") PySem.F.slot_tuple_rmul.lookup (by decide +kernel)]
 rfl
theorem int_rmul_tuple(a:Int)(t:Tok)(l:Addr)(items:Array Value)(n:Nat)(dd:Option Addr)(sl:Array (Option Value)) :
  Meets (Builtin.«int.__rmul__» ⟨[.int a t,.ref l],[]⟩) (fun _ R s=>s.heap.get? l=some { cls:=.type "tuple",dict:=dd,data:=.seq items n,slots:=sl }/\R (.ok (.ret Value.notImplemented)) s) :=
 .of_wp fun prog w A R s h=>by obtain⟨hp,g,d,tk,os⟩:=s;obtain⟨hl,h⟩:=h;wp_walk;exact⟨_,rfl,h⟩
theorem tuple_mul1(l:Addr)(items:Array Value)(n:Nat)(dd:Option Addr)(sl:Array (Option Value))(t:Tok) :
  Meets (Builtin.«tuple.__mul__» ⟨[.ref l,.int 1 t],[]⟩) (fun _ R s=>s.heap.get? l=some { cls:=.type "tuple",dict:=dd,data:=.seq items n,slots:=sl }/\R (.ok (.ret (Value.ref l))) { s with heap:=s.heap,toks:=s.toks }) :=
 .of_wp fun prog w A R s h=>by obtain⟨hp,g,d,tk,os⟩:=s;obtain⟨hl,h⟩:=h;have f1:=AutoSeq1.idx_int;have f2:=AutoSeq1.sub_tuple_tuple;wp_walk using wpAny_loadPart' hl;exact⟨_,rfl,h⟩
theorem tuple_mul2(l:Addr)(x:Value)(n:Nat)(dd:Option Addr)(sl:Array (Option Value))(t:Tok) :
  Meets (Builtin.«tuple.__mul__» ⟨[.ref l,.int 2 t],[]⟩) (fun _ R s=>s.heap.get? l=some { cls:=.type "tuple",dict:=dd,data:=.seq #[x] n,slots:=sl }/\R (.ok (.ret (Value.ref s.heap.objs.size))) { s with heap:=s.heap.push { cls:=Value.type "tuple",data:=Data.seq #[x,x] },toks:=s.toks }) :=
 .of_wp fun prog w A R s h=>by obtain⟨hp,g,d,tk,os⟩:=s;obtain⟨hl,h⟩:=h;have f1:=AutoSeq1.idx_int;have f2:=AutoSeq1.sub_tuple_tuple;wp_walk using wpAny_loadPart' hl;exact⟨_,rfl,h⟩
theorem tuple_mul3(l:Addr)(x:Value)(n:Nat)(dd:Option Addr)(sl:Array (Option Value))(t:Tok) :
  Meets (Builtin.«tuple.__mul__» ⟨[.ref l,.int 3 t],[]⟩) (fun _ R s=>s.heap.get? l=some { cls:=.type "tuple",dict:=dd,data:=.seq #[x] n,slots:=sl }/\R (.ok (.ret (Value.ref s.heap.objs.size))) { s with heap:=s.heap.push { cls:=Value.type "tuple",data:=Data.seq #[x,x,x] },toks:=s.toks }) :=
 .of_wp fun prog w A R s h=>by obtain⟨hp,g,d,tk,os⟩:=s;obtain⟨hl,h⟩:=h;have f1:=AutoSeq1.idx_int;have f2:=AutoSeq1.sub_tuple_tuple;wp_walk using wpAny_loadPart' hl;exact⟨_,rfl,h⟩
theorem tuple_mul4(l:Addr)(x:Value)(n:Nat)(dd:Option Addr)(sl:Array (Option Value))(t:Tok) :
  Meets (Builtin.«tuple.__mul__» ⟨[.ref l,.int 4 t],[]⟩) (fun _ R s=>s.heap.get? l=some { cls:=.type "tuple",dict:=dd,data:=.seq #[x] n,slots:=sl }/\R (.ok (.ret (Value.ref s.heap.objs.size))) { s with heap:=s.heap.push { cls:=Value.type "tuple",data:=Data.seq #[x,x,x,x] },toks:=s.toks }) :=
 .of_wp fun prog w A R s h=>by obtain⟨hp,g,d,tk,os⟩:=s;obtain⟨hl,h⟩:=h;have f1:=AutoSeq1.idx_int;have f2:=AutoSeq1.sub_tuple_tuple;wp_walk using wpAny_loadPart' hl;exact⟨_,rfl,h⟩
theorem tuple_mul0(l:Addr)(x:Value)(n:Nat)(dd:Option Addr)(sl:Array (Option Value))(t:Tok) :
  Meets (Builtin.«tuple.__mul__» ⟨[.ref l,.int 0 t],[]⟩) (fun _ R s=>s.heap.get? l=some { cls:=.type "tuple",dict:=dd,data:=.seq #[x] n,slots:=sl }/\R (.ok (.ret (Value.ref s.heap.objs.size))) { s with heap:=s.heap.push { cls:=.type "tuple",data:=.seq #[] },toks:=s.toks }) :=
 .of_wp fun prog w A R s h=>by obtain⟨hp,g,d,tk,os⟩:=s;obtain⟨hl,h⟩:=h;have f1:=AutoSeq1.idx_int;have f2:=AutoSeq1.sub_tuple_tuple;wp_walk using wpAny_loadPart' hl;exact⟨_,rfl,h⟩
end L2
namespace L2
open PySem PySem.Spec PyProof.Rows PySem.SeqAt
section
variable {X:Cx}
def rCatL(K:PySem.W.Frag):R2:=fun x y H Q=>∃ l b us zs,x=.ref l/\y=.ref b/\SqL K H l us/\SqL K H b zs/\us.length+zs.length<=sizeLine/\∀ p,H p=none->Q (.ref p) (upd H p (.lst (us++zs)))
theorem op_catL:OpR X (binaryOp .Add) (rCatL X.K):=by
 intro pins s σ H x y v u Q I rx ry h
 obtain⟨l,b,us,zs,rfl,rfl,hH,hB,hz,q⟩:=h
 cases (show v=Value.ref l from rx)
 cases (show u=Value.ref b from ry)
 obtain⟨its,r,pl,z1⟩:=I.list hH
 obtain⟨its2,r2,pl2,z2⟩:=I.list hB
 have e1:=r.length
 have e2:=r2.length
 obtain⟨⟨c1,d1,w1,t1⟩,n1,o1,hc1,hd1,hs1⟩:=pl
 obtain⟨⟨c2,d2,w2,t2⟩,n2,o2,hc2,hd2,hs2⟩:=pl2
 simp only at hc1 hs1 hc2 hs2
 subst hc1 hs1 hc2 hs2
 refine concat_meets ⟨_,o1,rfl⟩ ⟨_,o2,rfl⟩ noFill_list_add seq_list_add PySem.F.slot_list_add PySem.F.entry_list_add (PySem.F.args_list_add_2 _ _) (list_addW l b its.toArray its2.toArray n1 n2 d1 d2 t1 t2 (by rw[List.size_toArray,List.size_toArray];omega)) ⟨o1,o2,?_⟩
 rw[show its.toArray++its2.toArray=(its++its2).toArray by simp]
 exact⟨.ref _,_,I.lnew (t':=s.toks) (r.append r2) (by rw[List.length_append];omega),rfl,q _ I.fresh⟩
def rRepL(K:PySem.W.Frag):R2:=fun x y H Q=>∃ l k us,x=.ref l/\y=.int k/\SqL K H l us /\ -(2^63)<=k/\k<2^63/\us.length*k.toNat<=sizeLine /\
 ∀ p,H p=none->Q (.ref p) (upd H p (.lst (List.replicate k.toNat us).flatten))
theorem op_repL:OpR X (binaryOp .Mult) (rRepL X.K):=by
 intro pins s σ H x y v u Q I rx ry h
 obtain⟨l,k,us,rfl,rfl,hH,h1,h2,hz,q⟩:=h
 cases (show v=Value.ref l from rx)
 obtain⟨t,rfl⟩:=ry
 obtain⟨its,r,pl,z1⟩:=I.list hH
 have hl:=r.length
 obtain⟨⟨c1,d1,w1,t1⟩,n1,e,hc1,hd1,hs1⟩:=pl
 simp only at hc1 hs1
 subst hc1 hs1
 have a1:its.toArray.size*k.toNat<=sizeLine:=by rw[List.size_toArray,<- hl];exact hz
 have a2:¬ its.toArray.size*k.toNat>(2^63-1) / 8:=by
  have:(sizeLine:Nat)<=(2^63-1) / 8:=by decide
  omega
 have a3:¬ (!Builtin.List.listFitsIndex k)=true:=by rw[fitsIndex_both h1 h2];exact Bool.false_ne_true
 have a4:¬ Builtin.List.listTooLong (its.toArray.size*k.toNat)=true:=by rw[notLongL a1];exact Bool.false_ne_true
 have a5:List.foldl (fun x1 x2=>x1++x2) #[] (List.replicate (if its.toArray.isEmpty=true then 0 else k.toNat) its.toArray)=(List.replicate k.toNat its).flatten.toArray:=by
  have f0:∀ m:Nat,List.foldl (fun x1 x2=>x1++x2) #[] (List.replicate m its.toArray)=(List.replicate m its).flatten.toArray:=fun m=>(foldl_rep its m []).trans (by rw[List.nil_append])
  rw[f0]
  cases its with
  | nil=>simp
  | cons a r'=>rw[if_neg (by simp)]
 refine wpAny_binaryOp_repeat_ref (T:="list") (U:="int") (by decide) ⟨_,e,rfl⟩ (fun s'=>typeIs_int s' k t) noFill_list_mul F.fills_int_mul F.slot_int_rmul repeat_list F.slot_int_index.lookup ?_
 refine call_meets F.slot_int_rmul (typeIs_int s k t) F.entry_int_rmul (F.args_int_rmul_2 _ _) (lm_int_rmul_list_any k t l its.toArray n1 d1 t1) ⟨e,rfl,⟨_,e,rfl⟩,?_⟩
 refine call_meets F.slot_list_mul ⟨_,e,rfl⟩ F.entry_list_mul (F.args_list_mul_2 _ _) (lm_list_mul_any l its.toArray n1 d1 t1 k t a3 a2 a4) ⟨e,?_⟩
 rw[a5]
 exact⟨.ref _,_,I.lnew (t':=s.toks) (r.rep k.toNat) (by rw[len_rep,Nat.mul_comm];exact hz),rfl,q _ I.fresh⟩
end
end L2
namespace L2
open PySem PySem.Spec PyProof.Rows PySem.SeqAt
section
variable {X:Cx}
end
end L2
namespace L2
open PySem PySem.Spec PyProof.Rows PySem.SeqAt
section
variable {prog:Program} {w:World} {A:Around} {E:Value->Shared->Prop} {s:Shared}
end
section
variable {X:Cx}
end
end L2
namespace HT
open PySem PySem.Spec PyProof.Rows PySem.SeqAt L2
section
variable {prog:Program} {w:World} {A:Around} {E:Value->Shared->Prop} {s:Shared}
theorem getItem_tuple_whole{t sl:Addr}{items:Array Value}{vl vu:Value}{lo hi:Option Int}{Q:Value->Shared->Prop}(ht:IsTup s.heap t items)(hs:s.heap.IsSliceOf sl vl vu .none)(pl:IsPart vl lo)(pu:IsPart vu hi)
    (hw:sIx items.size 0 lo=0/\sIx items.size items.size hi=items.size) (h:Q (.ref t) s):wpAny (model prog w) A (getItem (.ref t) (.ref sl)) Q E s:=by
  obtain⟨os,hos,hcs,hds⟩:=id hs
  have hTs:s.TypeIs (.ref sl) "slice":=⟨os,hos,hcs⟩
  unfold getItem
  try with_reducible refine wpAny_holding ?_
  first | refine wpAny_bind (wpAny_pure ?_) | skip
  refine wpAny_bind (wpAny_sequenceKey ht.typeIs (by decide) ?_)
  refine wpAny_bind (wpAny_callSpecial?_slot (name:=Str.ofString "__getitem__") ht.typeIs PyProof.Rows.slot_tuple_getitem
    (wpAny_call_entry PyProof.Rows.slot_tuple_getitem ht.typeIs entry_tuple_getitem ?_ (args_tuple_getitem _ _)))
  show wpAny _ _ (Builtin.Tuple.tupleItemsOf (.ref t) >>=_) _ _ s
  refine wpAny_bind (tupleItemsOf_ ht ?_)
  refine wpAny_bind (wpAny_typeOf hTs ?_)
  rw[if_pos (by decide)]
  refine wpAny_bind (sliceApplied_gen hs pl pu ?_)
  have hyes:(((sIx items.size 0 lo:Nat):Int)==0&&(1:Int)==1&&(sIx items.size items.size hi-sIx items.size 0 lo)==items.size)=true:=by
    rw[hw.1,hw.2];simp
  show wpAny _ _ (if(((sIx items.size 0 lo:Nat):Int)==0&&(1:Int)==1&&(sIx items.size items.size hi-sIx items.size 0 lo)==items.size)=true then _ else _) _ _ s
  rw[if_pos hyes]
  refine wpAny_bind (wpAny_bind (wpAny_typeOf ht.typeIs (wpAny_pure ?_)))
  rw[if_pos (by decide)]
  first
    | exact wpAny_bind (wpAny_rule (wpAny_bind (wpAny_pure (wpAny_pure ⟨_,rfl,wpAny_pure h⟩))))
    | exact wpAny_bind (wpAny_rule (wpAny_bind (wpAny_pure ⟨_,rfl,wpAny_pure h⟩)))
    | exact wpAny_bind (wpAny_rule (wpAny_pure ⟨_,rfl,wpAny_pure h⟩))
end
end HT
namespace L2
open PySem PyProof.Rows
section
variable {X:Cx}
def rSlW(K:PySem.W.Frag):V->Option Int->Option Int->Hp->VK->Prop:=fun x lo hi H Q=>∃ a xs,x=.ref a/\SqT K H a xs /\
 (HT.sIx xs.length 0 lo=0/\HT.sIx xs.length xs.length hi=xs.length)/\Q (.ref a) H
theorem sl_tupW:SlR X (rSlW X.K):=by
 intro pins s σ H x v vl vu lo hi sl Q I rx hs pl pu h
 obtain⟨a,xs,rfl,hx,hw,q⟩:=h
 cases rx
 obtain⟨its,r,ht,hz⟩:=I.tuple hx
 have hlen:its.toArray.size=xs.length:=by rw[List.size_toArray];exact r.length.symm
 refine⟨"tuple",_,PyProof.Rows.slot_tuple_getitem.lookup,ht.typeIs,?_⟩
 exact HT.getItem_tuple_whole ht hs pl pu (by rw[hlen];exact hw) ⟨.ref a,H,I,rfl,q⟩
end
end L2
namespace DE
open PySem
inductive D where
 | non | bl (b:Bool) | int (i:Int) | str (x:Str) | tup (xs:List D) | lst (xs:List D)
 | exc (c:Str)
 | dic (ks:List (Sum Int Str)) (xs:List D)
 deriving Inhabited
inductive Sl where
 | no | sh (d:D) | ow (ds:List D) | oo (dss:List (List D))
 deriving Inhabited
abbrev Rho:=List (Str×Sl)
inductive Fl where
 | nxt (ρ:Rho) | ret (d:D)
 deriving Inhabited
def b2i(b:Bool):Int:=if b then 1 else 0
mutual
def deq:D->D->Bool
 | .non,.non=>true
 | .bl a,.bl b=>a==b
 | .bl a,.int j=>b2i a==j
 | .int i,.bl b=>i==b2i b
 | .int i,.int j=>i==j
 | .str x,.str y=>x==y
 | .tup xs,.tup ys=>deqs xs ys
 | .lst xs,.lst ys=>deqs xs ys
 | _,_=>false
def deqs:List D->List D->Bool
 | [],[]=>true
 | x::xs,y::ys=>deq x y&&deqs xs ys
 | _,_=>false
end
mutual
def dep:D->Nat
 | .tup xs=>deps xs+1
 | .lst xs=>deps xs+1
 | .exc _=>1000
 | .dic _ _=>1000
 | _=>0
def deps:List D->Nat
 | []=>0
 | x::xs=>max (dep x) (deps xs)
end
def asB:D->Option Bool
 | .bl b=>some b
 | _=>none
def asI:D->Option Int
 | .int i=>some i
 | _=>none
def items:D->Option (List D)
 | .tup xs=>some xs
 | .lst xs=>some xs
 | _=>none
def tupI:D->Option (List D)
 | .tup xs=>some xs
 | _=>none
def asIs:List D->Option (List Int)
 | []=>some []
 | .int i::r=>(asIs r).map (i::·)
 | _=>none
def asBs:List D->Option (List Bool)
 | []=>some []
 | .bl i::r=>(asBs r).map (i::·)
 | _=>none
def small(i:Int):Bool:=decide (-(2^64)<i)&&decide (i<2^64)
def mid(i:Int):Bool:=decide (i.natAbs.log2<10000)
def szl(n:Nat):Bool:=decide (n<=100000)
def repT:List D->Int->Option D
 | [x],j=>if decide (0<=j)&&decide (j<=4) then some (.tup (List.replicate j.toNat x)) else none
 | _,_=>none
def binop:Operator->D->D->Option D
 | .Add,.int i,.int j=>some (.int (i+j))
 | .Add,.tup xs,.tup ys=>if szl (xs.length+ys.length) then some (.tup (xs++ys)) else none
 | .Add,.lst xs,.lst ys=>if szl (xs.length+ys.length) then some (.lst (xs++ys)) else none
 | .Sub,.int i,.int j=>some (.int (i-j))
 | .Mult,.int i,.int j=>if small i||small j||(mid i&&mid j) then some (.int (i*j)) else none
 | .Mult,.lst xs,.int j=>if decide (j<=1000)&&decide (-1000<=j)&&szl (xs.length*j.toNat) then some (.lst (List.replicate j.toNat xs).flatten) else none
 | .Mult,.tup xs,.int j=>repT xs j
 | .FloorDiv,.int i,.int j=>if decide (0<j)&&decide (j<1073741824) then some (.int (i / j)) else if decide (j≠0)&&decide (j.natAbs.log2<9000) then some (.int (i.fdiv j)) else none
 | .Mod,.int i,.int j=>if decide (0<j) then some (.int (i%j)) else if decide (j≠0) then some (.int (i.fmod j)) else none
 | _,_,_=>none
def asSs:List D->Option (List Str)
 | []=>some []
 | .str i::r=>(asSs r).map (i::·)
 | _=>none
def inS(x:D)(ys:List D):Option Bool:=(asSs ys).bind fun ss=>if decide (dep x<=50) then some (ss.any fun t=>deq (.str t) x) else none
def inT(x:D)(ys:List D):Option Bool:=match asI x,asIs ys with
 | some i,some ns=>some (ns.any (· ==i))
 | _,_=>inS x ys
def keyD:D->Option (Sum Int Str)
 | .int i=>some (.inl i)
 | .str x=>some (.inr x)
 | _=>none
def putD(l:List (Sum Int Str×D))(k:Sum Int Str)(d:D):List (Sum Int Str×D):=if(l.any fun q=>decide (q.1=k))=true then l.map (fun q=>if q.1=k then(q.1,d) else q) else l++[(k,d)]
def valD(ks:List (Sum Int Str))(ds:List D)(k:Sum Int Str):Option D:=((ks.zip ds).find? fun q=>decide (q.1=k)).map (·.2)
def dicOf(l:List (Sum Int Str×D)):D:=.dic (l.map (·.1)) (l.map (·.2))
def pairsO(f:Expr->Option D):List (Option Expr)->List Expr->Option (List (Sum Int Str×D))
 | [],[]=>some []
 | some k::ks,v::vs=>do let x <- (f k).bind keyD;let d <- f v;let r <- pairsO f ks vs;some ((x,d)::r)
 | _,_=>none
def mrgD(l:List (Sum Int Str×D)):List (Sum Int Str×D):=l.foldl (fun a q=>putD a q.1 q.2) []
def getD2:D->D->D->Option D
 | .dic ks ds,y,z=>(keyD y).map fun k=>(valD ks ds k).getD z
 | _,_,_=>none
def isNon:D->Bool
 | .non=>true
 | _=>false
def cmpop:CmpOp->D->D->Option D
 | .Eq,x,y=>if decide (dep x<=50)&&decide (dep y<=50) then some (.bl (deq x y)) else none
 | .NotEq,x,y=>if decide (dep x<=50)&&decide (dep y<=50) then some (.bl (!deq x y)) else none
 | .Lt,.int i,.int j=>some (.bl (decide (i<j)))
 | .LtE,.int i,.int j=>some (.bl (decide (i<=j)))
 | .Gt,.int i,.int j=>some (.bl (decide (j<i)))
 | .GtE,.int i,.int j=>some (.bl (decide (j<=i)))
 | .Is,x,.non=>some (.bl (isNon x))
 | .IsNot,x,.non=>some (.bl (!isNon x))
 | .Is,.bl a,.bl b=>some (.bl (a==b))
 | .IsNot,.bl a,.bl b=>some (.bl (!(a==b)))
 | .In,x,.tup ys=>(inT x ys).map fun b=>.bl b
 | .NotIn,x,.tup ys=>(inT x ys).map fun b=>.bl (!b)
 | .NotIn,.int i,.lst ys=>(asIs ys).map fun ns=>.bl (!ns.any (· ==i))
 | _,_,_=>none
def ixD(n:Nat)(i:Int):Option Nat:=if 0<=i then(if i<n then some i.toNat else none) else if -(n:Int)<=i then some (i+n).toNat else none
def atD(xs:List D)(i:Int):Option D:=(ixD xs.length i).bind fun j=>xs[j]?
def sIxD(n d:Nat):Option Int->Nat
 | none=>d
 | some v=>if v<0 then(v+(n:Int)).toNat else min v.toNat n
def cutT(xs:List D)(lo hi:Option Int):List D:=(xs.drop (sIxD xs.length 0 lo)).take (sIxD xs.length xs.length hi-sIxD xs.length 0 lo)
def subD:D->D->Option D
 | .tup xs,.int i=>atD xs i
 | .lst xs,.int i=>atD xs i
 | .dic ks ds,y=>(keyD y).bind (valD ks ds)
 | _,_=>none
def scD:D->Bool
 | .non=>true
 | .bl _=>true
 | .int _=>true
 | .str _=>true
 | _=>false
def flatD:D->Bool
 | .tup ds=>ds.all scD
 | d=>scD d
def isTy:String->D->Bool
 | "int",.int _=>true
 | "int",.bl _=>true
 | "bool",.bl _=>true
 | "tuple",.tup _=>true
 | "list",.lst _=>true
 | "str",.str _=>true
 | _,_=>false
def mxL:List Int->Int->Int
 | [],b=>b
 | x::r,b=>mxL r (if x>b then x else b)
def mxD:List Int->Int->Int
 | [],d=>d
 | x::r,_=>mxL r x
def mxOf:D->Int->Option D
 | .lst xs,c=>(asIs xs).map fun is=>.int (mxD is c)
 | _,_=>none
def mnL:List Int->Int->Int
 | [],b=>b
 | x::r,b=>mnL r (if x<b then x else b)
def mnT(xs:List D):Option D:=(asIs xs).bind fun is=>match is with
 | []=>none
 | x::r=>some (.int (mnL r x))
def mxN(xs:List D):Option D:=(asIs xs).bind fun is=>match is with
 | []=>none
 | x::r=>some (.int (mxL r x))
def cstI:Expr->Option Int
 | .Constant (.int c) _ _=>some c
 | _=>none
def kdef(k:Keyword):Option Int:=if k.arg==some "default" then cstI k.value else none
def blt:String->List D->Option D
 | "len",[d]=>do let l <- items d;some (.int l.length)
 | "all",[.lst xs]=>do let bs <- asBs xs;some (.bl (bs.all id))
 | "sum",[.lst xs]=>do let is <- asIs xs;some (.int is.sum)
 | "sum",[.tup xs]=>do let is <- asIs xs;some (.int is.sum)
 | "tuple",[d]=>do let l <- items d;some (.tup l)
 | "list",[d]=>do let l <- items d;some (.lst l)
 | "any",[.lst xs]=>do let bs <- asBs xs;some (.bl (bs.any id))
 | "min",[.tup xs]=>mnT xs
 | "min",[.lst xs]=>if true then none else none
 | "max",[.lst xs]=>mxN xs
 | "max",[.tup xs]=>mxN xs
 | "min",[.int i,.int j]=>some (.int (if j<i then j else i))
 | "max",[.int i,.int j]=>some (.int (if j>i then j else i))
 | "abs",[.int i]=>some (.int (if i<0 then -i else i))
 | "int",[.bl b]=>some (.int (b2i b))
 | "int",[.int i]=>some (.int i)
 | _,_=>none
structure Cxt where
 cst:List (Str×D)
 blt:List (Str×String)
 fns:List Str
 exs:List Str
 top:Str
 rs:Bool
 call:Str->List D->Option D
 callx:Str->List D->Option Str
def isExc:D->Bool
 | .exc _=>true
 | .dic _ _=>true
 | _=>false
def xsub(top c c':Str):Bool:=c==c'||c'==top
def relS(scope sc:Scope):Scope :=
 { scope with names:=scope.names.map fun(n,k)=>if(k==.free&&sc.kind==.function&&sc.names.lookup n==some .cell) then(n,.cell) else(n,k) }
def shOf:Option Sl->Sl
 | some (.sh d)=>.sh d
 | _=>.no
def compRho(scope:Scope)(ρ:Rho):Rho:=scope.names.map fun p=>(p.1,if p.2==.free then shOf (ρ.lookup p.1) else .no)
def nodupB:List Str->Bool
 | []=>true
 | x::r => !r.contains x&&nodupB r
def compOk(sc scope:Scope):Bool :=
 scope.kind==.function&&nodupB (scope.names.map (·.1))&&scope.names.all fun p=>p.2 !=.free||sc.names.lookup p.1==some .cell||sc.names.lookup p.1==some .free
def setR:Rho->Str->Sl->Rho
 | [],_,_=>[]
 | (y,s)::r,x,v=>if x==y then(y,v)::r else(y,s)::setR r x v
def plainName(x:Str):Bool:=x !="__debug__"&&x !="__classdict__"
def ownIn(scope:Scope)(x:Str):Bool:=scope.names.lookup x==some .local||scope.names.lookup x==some .cell
def bindNames(scope:Scope):List Expr->List D->Rho->Option Rho
 | [],[],ρ=>some ρ
 | .Name x _::es,d::ds,ρ=>if ownIn scope x&&(ρ.map (·.1)).contains x then bindNames scope es ds (setR ρ x (.sh d)) else none
 | _,_,_=>none
def bindT(scope:Scope):Expr->D->Rho->Option Rho
 | .Name x _,d,ρ=>if ownIn scope x&&(ρ.map (·.1)).contains x then some (setR ρ x (.sh d)) else none
 | .Tuple es _ _,.tup ds,ρ=>bindNames scope es ds ρ
 | _,_,_=>none
def isGl(cx:Cxt)(sc:Scope)(x:Str):Bool:=sc.names.lookup x==some .globalImplicit
def bltOf(cx:Cxt)(sc:Scope)(x:Str):Option String:=if isGl cx sc x then cx.blt.lookup x else none
def compGo(f:D->Option (Option D)):List D->Option (List D)
  | []=>some []
  | x :: r => do
    match <- f x with
    | some v=>(compGo f r).map (v::·)
    | none=>compGo f r
def rangeD(lo hi:Int):List D:=(List.range (hi-lo).toNat).map fun(k:Nat)=>.int (lo+(k:Int))
def mapO(f:Expr->Option D):List Expr->Option (List D)
 | []=>some []
 | e::r=>do let d <- f e;let ds <- mapO f r;some (d::ds)
def boolGo(op:BoolOp)(f:Expr->Option D):List Expr->Option D
  | []=>none
  | [e]=>f e
  | e :: e' :: r => do
    let d <- f e
    let b <- asB d
    match op with
    | .And=>if b then boolGo op f (e'::r) else some (.bl false)
    | .Or=>if b then some (.bl true) else boolGo op f (e'::r)
def rng62(i:Int):Bool:=decide (-(2^62)<=i)&&decide (i<2^62)
def isTupE:Expr->Bool
 | .Tuple .. =>true
 | _=>false
inductive Wk where
 | r1 (a:Expr) | r2 (a b:Expr) | zp (a b:Expr) | rv (a:Expr) | en (a:Expr) | sq
def wkOf(cx:Cxt)(sc:Scope):Expr->Wk
  | .Call (.Name x _) args [] _ => (match bltOf cx sc x with
    | some "range"=>(match args with | [a]=>.r1 a | [a,b]=>.r2 a b | _=>.sq)
    | some "zip"=>(match args with | [a,b]=>.zp a b | _=>.sq)
    | some "reversed"=>(match args with | [a]=>.rv a | _=>.sq)
    | some "enumerate"=>(match args with | [a]=>.en a | _=>.sq)
    | _=>.sq)
  | _=>.sq
def enD(xs:List D):List D:=xs.zipIdx.map fun q=>.tup [.int (q.2:Int),q.1]
def zipD:D->D->Option (List D)
 | .tup xs,.tup ys=>some ((xs.zip ys).map fun q=>.tup [q.1,q.2])
 | .lst xs,.lst ys=>if true then none else none
 | .lst xs,.tup ys=>if true then none else none
 | .tup xs,.lst ys=>some ((xs.zip ys).map fun q=>.tup [q.1,q.2])
 | _,_=>none
def evI(cx:Cxt)(tup:Bool)(f:Expr->Option D)(sc:Scope)(e:Expr):Option (List D):=match wkOf cx sc e with
 | .r1 a=>do let j <- (f a).bind asI;if rng62 j then some (rangeD 0 j) else none
 | .r2 a b=>do let i <- (f a).bind asI;let j <- (f b).bind asI;if rng62 i&&rng62 j then some (rangeD i j) else none
 | .zp a b=>do let x <- f a;let y <- f b;if tup then zipD x y else none
 | .rv a=>if true then none else none
 | .en a=>do let x <- f a;if tup then(tupI x).map enD else none
 | .sq=>(f e).bind items
inductive Wc where
 | lr1 (a:Expr) | lr2 (a b:Expr) | tv (a:Expr) | ls (a:Expr) | tr1 (a:Expr) | al
def setA(cx:Cxt)(sc:Scope):Expr->Option Expr
 | .Call (.Name y _) [a] [] _=>if bltOf cx sc y==some "set" then some a else none
 | _=>none
def lstI:D->Option (List D)
 | .lst xs=>some xs
 | _=>none
def wcOf(cx:Cxt)(sc:Scope)(b:String)(args:List Expr):Wc:=match args with
  | [e] => (match b, wkOf cx sc e with
    | "list",.r1 a=>.lr1 a
    | "list",.r2 a b=>.lr2 a b
    | "tuple",.rv a=>.tv a
    | "tuple",.r1 a=>.tr1 a
    | "len",.sq=>(match setA cx sc e with | some a=>.ls a | none=>.al)
    | _,_=>.al)
  | _=>.al
def tyKnown:String->Bool
 | "int"=>true
 | "bool"=>true
 | "tuple"=>true
 | "list"=>true
 | "str"=>true
 | _=>false
def tyOf(cx:Cxt)(sc:Scope):Expr->Option String
 | .Name x _=>bltOf cx sc x
 | _=>none
def xOf(cx:Cxt)(sc:Scope):Expr->Option Str
 | .Name x _=>if isGl cx sc x&&(cx.exs.contains x||x==cx.top)&&plainName x then some x else none
 | _=>none
def ifsGo(f:Expr->Option D):List Expr->Option Bool
 | []=>some true
 | [c]=>(f c).bind asB
 | _=>none
def lstMeth(m:Str):D->D->Option D
 | _,_=>if true then none else none
def plainE:Expr->Bool
 | .Starred .. =>false
 | .Set .. =>false
 | .Slice .. =>false
 | _=>true
def revS:D->Option Expr->Option Expr->Option Int->Option D
 | _,_,_,_=>none
def fnNames(cx:Cxt)(sc:Scope):List Expr->Option (List Str)
 | []=>some []
 | .Name x _::r=>if isGl cx sc x&&cx.fns.contains x then(fnNames cx sc r).map (x::·) else none
 | _=>none
def fnAt(cx:Cxt)(sc:Scope)(es:List Expr)(i:Int):Option Str:=do
 let fs <- fnNames cx sc es
 if szl fs.length then(ixD fs.length i).bind fun j=>fs[j]? else none
def ev(cx:Cxt):Nat->Scope->Rho->Expr->Option D
  | 0,_,_,_=>none
  | n + 1, sc, ρ, e => match e with
    | .Name x _=>if plainName x then(match sc.names.lookup x with
        | some .local=>(match ρ.lookup x with | some (.sh d)=>some d | _=>none)
        | some .cell=>(match ρ.lookup x with | some (.sh d)=>some d | _=>none)
        | some .free=>(match ρ.lookup x with | some (.sh d)=>some d | _=>none)
        | some .globalImplicit=>cx.cst.lookup x
        | _=>none) else none
    | .Constant c _ _=>(match c with
        | .none=>some .non
        | .bool b=>some (.bl b)
        | .int i=>some (.int i)
        | .str x=>some (.str x)
        | _=>none)
    | .BinOp a op b _=>do let x <- ev cx n sc ρ a;let y <- ev cx n sc ρ b;binop op x y
    | .UnaryOp op a _=>do
        let x <- ev cx n sc ρ a
        match op with
        | .USub=>(asI x).map fun i=>.int (-i)
        | .Not=>(asB x).map fun b=>.bl (!b)
        | _=>none
    | .BoolOp op es _=>boolGo op (ev cx n sc ρ) es
    | .Compare a ops bs _=>(match ops,bs with
        | [op],[b]=>do let x <- ev cx n sc ρ a;let y <- ev cx n sc ρ b;cmpop op x y
        | [op, op'], [b, c] => if !plainE c then none else do
          let x <- ev cx n sc ρ a
          let y <- ev cx n sc ρ b
          let k <- (cmpop op x y).bind asB
          if k then do let z <- ev cx n sc ρ c;cmpop op' y z else some (.bl false)
        | _,_=>none)
    | .IfExp c a b _=>do
        let k <- (ev cx n sc ρ c).bind asB
        if k then ev cx n sc ρ a else ev cx n sc ρ b
    | .Tuple es _ _=>do let ds <- mapO (ev cx n sc ρ) es;if szl ds.length then some (.tup ds) else none
    | .List es _=>do let ds <- mapO (ev cx n sc ρ) es;if szl ds.length then some (.lst ds) else none
    | .Subscript a b _=>do
        let x <- ev cx n sc ρ a
        match b with
        | .Slice lo hi st _ => (match st with
          | none => do
            let l <- (match lo with | none=>some none | some e=>(ev cx n sc ρ e).bind fun d=>(asI d).map some)
            let h <- (match hi with | none=>some none | some e=>(ev cx n sc ρ e).bind fun d=>(asI d).map some)
            match x with
            | .tup xs=>if sIxD xs.length 0 l==0&&sIxD xs.length xs.length h==xs.length then some (.tup xs) else some (.tup (cutT xs l h))
            | .lst xs=>some (.lst (cutT xs l h))
            | _=>none
          | some c=>revS x lo hi ((ev cx n sc ρ c).bind asI))
        | b => do
          let y <- ev cx n sc ρ b
          subD x y
    | .Dict ks vs _=>if ks.isEmpty||decide (15<ks.length) then none else(pairsO (ev cx n sc ρ) ks vs).map fun l=>dicOf (mrgD l)
    | .Call f args kws p=>(match f,kws with
        | .Name x _, [] =>
          if isGl cx sc x then
            match cx.blt.lookup x with
            | some "isinstance" => (match args with
              | [a, t] => do
                let d <- ev cx n sc ρ a
                match xOf cx sc t with
                | some c'=>(match d with | .exc c=>if cx.exs.contains c then some (.bl (xsub cx.top c c')) else none | _=>none)
                | none => do
                  let ty <- tyOf cx sc t
                  match d with
                  | .exc c=>if cx.exs.contains c&&ty=="ValueError" then some (.bl true) else none
                  | .dic _ _=>none
                  | d=>if tyKnown ty then some (.bl (isTy ty d)) else none
              | _=>none)
            | some b => (match wcOf cx sc b args with
              | .lr1 a=>do let j <- (ev cx n sc ρ a).bind asI;if rng62 j&&szl j.toNat then some (.lst (rangeD 0 j)) else none
              | .lr2 a a'=>do let i <- (ev cx n sc ρ a).bind asI;let j <- (ev cx n sc ρ a').bind asI;if rng62 i&&rng62 j&&szl (j-i).toNat then some (.lst (rangeD i j)) else none
              | .tr1 a=>do let j <- (ev cx n sc ρ a).bind asI;if rng62 j&&szl j.toNat then some (.tup (rangeD 0 j)) else none
              | .tv a=>if true then none else none
              | .ls a=>if true then none else none
              | .al=>if args.isEmpty then none else do let ds <- mapO (ev cx n sc ρ) args;blt b ds)
            | none=>if cx.fns.contains x && !args.isEmpty then do let ds <- mapO (ev cx n sc ρ) args;cx.call x ds else none
          else none
        | .Name x _, [k] => (match args with
          | [a]=>if bltOf cx sc x==some "max" then do let c <- kdef k;let d <- ev cx n sc ρ a;mxOf d c else none
          | _=>none)
        | .Attribute (.Name y py) m ap, [] => (match args with
          | [e]=>if ap.endLine==p.line then do
              let x <- ev cx n sc ρ (.Name y py)
              let z <- ev cx n sc ρ e
              lstMeth m x z else none
          | _=>none)
        | .Attribute (.Dict ks vs dp) m ap, [] => (match args with
          | [e,e2]=>if ap.endLine==p.line&&m=="get"&&plainE e&&plainE e2 then do
              let x <- ev cx n sc ρ (.Dict ks vs dp)
              let y <- ev cx n sc ρ e
              let z <- ev cx n sc ρ e2
              getD2 x y z else none
          | _=>none)
        | .Subscript (.List es _) ix _,[]=>if args.isEmpty then none else do
            let i <- (ev cx n sc ρ ix).bind asI
            let f <- fnAt cx sc es i
            let ds <- mapO (ev cx n sc ρ) args
            cx.call f ds
        | _,_=>none)
    | .ListComp elt gens scope _=>(match gens with
        | [⟨tg,iter,ifs,a⟩]=>if a==0&&compOk sc scope then do
            let l <- evI cx (isTupE tg) (ev cx n sc ρ) sc iter
            if szl l.length then do
              let out <- compGo (fun d=>do
                let ρ1 <- bindT scope tg d (compRho scope ρ)
                let b <- ifsGo (ev cx n (relS scope sc) ρ1) ifs
                if b then(ev cx n (relS scope sc) ρ1 elt).map some else some none) l
              some (.lst out)
            else none
          else none
        | _=>none)
    | _=>none
def argsX(f:Expr->Option D)(g:Expr->Option Str):List Expr->Option Str
  | []=>none
  | e :: r => match f e with
    | some _=>argsX f g r
    | none=>g e
def evx(cx:Cxt):Nat->Scope->Rho->Expr->Option Str
  | 0,_,_,_=>none
  | n + 1, sc, ρ, e => match e with
    | .Call (.Name x _) args [] _=>if isGl cx sc x && !args.isEmpty&&args.all plainE&&cx.fns.contains x then
        (match mapO (ev cx n sc ρ) args with
        | some ds=>cx.callx x ds
        | none=>argsX (ev cx n sc ρ) (evx cx n sc ρ) args)
      else none
    | .Call (.Subscript (.List es _) ix _) args [] _=>if !args.isEmpty&&args.all plainE&&plainE ix then do
        let i <- (ev cx n sc ρ ix).bind asI
        let f <- fnAt cx sc es i
        let ds <- mapO (ev cx n sc ρ) args
        cx.callx f ds
      else none
    | .Call (.Name x _) [a] [k] _=>if bltOf cx sc x==some "max"&&(kdef k).isSome&&plainE a then evx cx n sc ρ a else none
    | .IfExp c a b _ => (match (ev cx n sc ρ c).bind asB with
      | some true=>evx cx n sc ρ a
      | some false=>evx cx n sc ρ b
      | none=>none)
    | .ListComp _ [⟨_,iter,_,a⟩] scope _=>if a==0&&compOk sc scope&&plainE iter then evx cx n sc ρ iter else none
    | _=>none
def ment:Nat->Str->Expr->Bool
  | 0,_,_=>true
  | n + 1, x, e => match e with
    | .Name y _=>x==y
    | .Constant .. =>false
    | .BinOp a _ b _=>ment n x a||ment n x b
    | .UnaryOp _ a _=>ment n x a
    | .BoolOp _ es _=>es.any (ment n x)
    | .Compare a _ bs _=>ment n x a||bs.any (ment n x)
    | .IfExp c a b _=>ment n x c||ment n x a||ment n x b
    | .Tuple es _ _=>es.any (ment n x)
    | .List es _=>es.any (ment n x)
    | .Subscript a b _=>ment n x a||ment n x b
    | .Slice lo hi st _=>(lo.map (ment n x)).getD false||(hi.map (ment n x)).getD false||(st.map (ment n x)).getD false
    | .Call f args kws _=>ment n x f||args.any (ment n x) || !kws.isEmpty
    | .ListComp elt gens _ _=>ment n x elt||gens.any fun g=>ment n x g.iter||g.ifs.any (ment n x)
    | _=>true
def frz(n:Nat)(e:Expr)(ρ:Rho):Rho:=ρ.map fun p=>match p.2 with
 | .ow ds=>if ment n p.1 e then(p.1,.sh (.lst ds)) else p
 | .oo dss=>if ment n p.1 e then(p.1,.sh (.lst (dss.map .lst))) else p
 | _=>p
def isL:Expr->Bool
 | .List .. =>true
 | _=>false
def isMu:Operator->Bool
 | .Mult=>true
 | _=>false
def isFresh:Expr->Bool
 | .List .. =>true
 | .ListComp .. =>true
 | .BinOp a op _ _=>isL a&&isMu op
 | _=>false
def calmS:Sl->Bool
 | .no=>true
 | .sh _=>true
 | _=>false
def isOo:Sl->Bool
 | .oo _=>true
 | _=>false
def onlyC(ρ:Rho)(x:Str):Bool:=ρ.all fun p=>p.1==x||calmS p.2
def noOo(ρ:Rho)(x:Str):Bool:=ρ.all fun p=>p.1==x || !isOo p.2
def ownX(cx:Cxt)(sc:Scope):Expr->Bool
 | .Call (.Name l _) [.Name y _] [] _=>bltOf cx sc l==some "list"&&plainName y&&sc.names.lookup y==some .local
 | .ListComp .. =>true
 | _=>false
def lstE(cx:Cxt)(sc:Scope):Expr->Bool
 | .Call (.Name l _) [.Name y _] [] _=>bltOf cx sc l==some "list"&&plainName y&&sc.names.lookup y==some .local
 | _=>false
def ooE(cx:Cxt)(sc:Scope):Expr->Bool
 | .ListComp elt [⟨.Name _ _,_,[],_⟩] scope _=>ownX cx (relS scope sc) elt
 | _=>false
def lsts:List D->Option (List (List D))
 | []=>some []
 | .lst ds::r=>(lsts r).map (ds::·)
 | _=>none
def lstsD:D->Option (List (List D))
 | .lst ds=>lsts ds
 | _=>none
def augOf(x:Str):Expr->Option (Expr×Expr)
 | .BinOp (.Subscript (.Name y _) i _) .Add e _=>if x==y then some (i,e) else none
 | _=>none
def slFor(e:Expr)(d:D):Sl:=match d with
 | .lst ds=>if isFresh e then .ow ds else .sh (.lst ds)
 | d=>.sh d
def nc0:Expr->Bool
 | .Call .. =>true
 | .Name x _=>x !="__debug__"
 | .IfExp .. =>true
 | .ListComp .. =>true
 | .Compare .. =>true
 | _=>false
def isCmp:Expr->Bool
 | .Compare .. =>true
 | _=>false
def nc1:Expr->Bool
 | .Subscript v _ _=>nc0 v
 | e=>nc0 e
def nc:Expr->Bool
 | .Subscript v i _=>nc0 v||nc0 i
 | .BinOp l _ r _=>nc1 l||nc1 r
 | e=>nc0 e
def isCst:Expr->Bool
 | .Constant .. =>true
 | _=>false
def swp(sc:Scope)(ts:List Expr)(value:Expr):Option Bool:=match value with
  | .Tuple vs _ _ => (match ts, vs with
    | [.Name x px, .Name y py], [a, b] =>
      if sc.names.lookup x==some .local&&sc.names.lookup y==some .local then
        (if px.line==py.line&&x !=y&&(nc a||nc b)&&plainE a&&plainE b then some true else if isCst a&&isCst b then some false else none)
      else some false
    | [.Name x _,.Name y _,.Name z _],[_,_,_]=>if sc.names.lookup x==some .cell&&sc.names.lookup y==some .cell&&sc.names.lookup z==some .cell then some false else none
    | _,_=>none)
  | _=>some false
def swp3(sc:Scope):List Expr->Expr->Bool
  | [.Name x px, .Name y py, .Name z pz], .Tuple [a, b, c] _ _ =>
    (sc.names.lookup x==some .local&&sc.names.lookup y==some .local&&sc.names.lookup z==some .local)&&(px.line==py.line&&px.line==pz.line)&&(x !=y&&x !=z&&y !=z)&&(nc a||nc b||nc c)&&(plainE a&&plainE b&&plainE c)&&(!isCmp a && !isCmp b && !isCmp c)
  | _,_=>false
def forGo(f:D->Rho->Option Fl):List D->Rho->Option Fl
  | [],ρ=>some (.nxt ρ)
  | x :: r, ρ => do
    match <- f x ρ with
    | .ret d=>some (.ret d)
    | .nxt ρ'=>forGo f r ρ'
def stGo(f:Rho->Stmt->Option Fl):List Stmt->Rho->Option Fl
  | [],ρ=>some (.nxt ρ)
  | s :: r, ρ => do
    match <- f ρ s with
    | .ret d=>some (.ret d)
    | .nxt ρ'=>stGo f r ρ'
def notCall:Expr->Option Expr
 | .UnaryOp .Not (.Call f as ks p) _=>some (.Call f as ks p)
 | _=>none
def stxGo(f:Rho->Stmt->Option Fl)(g:Rho->Stmt->Option (Str×Rho)):List Stmt->Rho->Option (Str×Rho)
  | [],_=>none
  | s :: r, ρ => match f ρ s with
    | some (.nxt ρ')=>stxGo f g r ρ'
    | some (.ret _)=>none
    | none=>g ρ s
mutual
def st(cx:Cxt)(F:Nat):Nat->Scope->Rho->Stmt->Option Fl
  | 0,_,_,_=>none
  | n + 1, sc, ρ, s => match s with
    | .Pass _=>some (.nxt ρ)
    | .Return v _=>(match v with
        | none=>some (.ret .non)
        | some e=>(ev cx F sc (frz F e ρ) e).map .ret)
    | .Assign tgs e _=>(match tgs with
        | [.Name x _]=>if ownIn sc x&&(ρ.map (·.1)).contains x then
            (if ooE cx sc e&&onlyC (frz F e ρ) x then(ev cx F sc (frz F e ρ) e).bind fun d=>(lstsD d).map fun dss=>.nxt (setR (frz F e ρ) x (.oo dss))
            else if lstE cx sc e&&noOo (frz F e ρ) x then(ev cx F sc (frz F e ρ) e).bind fun d=>(lstI d).map fun ds=>.nxt (setR (frz F e ρ) x (.ow ds))
            else if isFresh e && !noOo (frz F e ρ) x then(if noOo (frz F e (frz 0 e ρ)) x then(ev cx F sc (frz F e (frz 0 e ρ)) e).map fun d=>.nxt (setR (frz F e (frz 0 e ρ)) x (slFor e d)) else none)
            else(ev cx F sc (frz F e ρ) e).map fun d=>.nxt (setR (frz F e ρ) x (slFor e d))) else none
        | [.Tuple es _ _]=>if(swp sc es e).isSome||swp3 sc es e then do
            let d <- ev cx F sc (frz F e ρ) e
            let l <- items d
            (bindNames sc es l (frz F e ρ)).map .nxt
          else none
        | [.Subscript t ie _] => (match t with
          | .Name x _ => (match augOf x e with
            | some (i2, e2) => (match (frz F ie (frz F e2 (frz F i2 ρ))).lookup x with
              | some (.ow ds)=>if ownIn sc x&&plainName x then do
                  let j2 <- (ev cx F sc (frz F ie (frz F e2 (frz F i2 ρ))) i2).bind asI
                  let a <- (atD ds j2).bind asI
                  let b <- (ev cx F sc (frz F ie (frz F e2 (frz F i2 ρ))) e2).bind asI
                  let j <- (ev cx F sc (frz F ie (frz F e2 (frz F i2 ρ))) ie).bind asI
                  let n <- ixD ds.length j
                  some (.nxt (setR (frz F ie (frz F e2 (frz F i2 ρ))) x (.ow (ds.set n (.int (a+b))))))
                else none
              | _=>none)
            | none => (match (frz F ie (frz F e ρ)).lookup x with
              | some (.ow ds)=>if ownIn sc x&&plainName x && !isFresh e then do
                  let d <- ev cx F sc (frz F ie (frz F e ρ)) e
                  let j <- (ev cx F sc (frz F ie (frz F e ρ)) ie).bind asI
                  let n <- ixD ds.length j
                  some (.nxt (setR (frz F ie (frz F e ρ)) x (.ow (ds.set n d))))
                else none
              | _=>none))
          | .Subscript (.Name x _) i1 _ => (match ρ.lookup x with
            | some (.oo dss)=>if ownIn sc x&&plainName x && !isFresh e then do
                let d <- ev cx F sc (frz F e ρ) e
                let j1 <- (ev cx F sc (frz F i1 ρ) i1).bind asI
                let n1 <- ixD dss.length j1
                let ds <- dss[n1]?
                let j2 <- (ev cx F sc (frz F ie ρ) ie).bind asI
                let n2 <- ixD ds.length j2
                if flatD d then some (.nxt (setR ρ x (.oo (dss.set n1 (ds.set n2 d))))) else none
              else none
            | _=>none)
          | _=>none)
        | _=>none)
    | .Expr v _=>(match v with
        | .Call (.Attribute (.Name x _) m ap) [e] [] cp=>(match (frz F e ρ).lookup x with
            | some (.ow ds)=>if ownIn sc x&&plainName x&&ap.endLine==cp.line then
                if m=="append"&&szl (ds.length+1) then(ev cx F sc (frz F e ρ) e).map fun d=>.nxt (setR (frz F e ρ) x (.ow (ds++[d])))
                else if m=="extend" then do
                  let d <- ev cx F sc (frz F e ρ) e
                  (match d with
                  | .lst zs=>if szl (ds.length+zs.length) then some (.nxt (setR (frz F e ρ) x (.ow (ds++zs)))) else none
                  | .tup zs=>if szl (ds.length+zs.length) then some (.nxt (setR (frz F e ρ) x (.ow (ds++zs)))) else none
                  | _=>none)
                else none
              else none
            | some (.sh _) => (match ρ.lookup x with
              | some (.ow ds)=>if ownIn sc x&&plainName x&&ap.endLine==cp.line&&(m=="append"&&szl (ds.length+1)) then do
                  let d <- ev cx F sc (frz F e ρ) e
                  if flatD d then some (.nxt (setR ρ x (.ow (ds++[d])))) else none
                else none
              | _=>none)
            | _=>none)
        | .ListComp .. =>none
        | .Constant .. =>none
        | e=>(ev cx F sc (frz F e ρ) e).map fun _=>.nxt (frz F e ρ))
    | .If c a b _=>do
        let k <- (ev cx F sc (frz F c ρ) c).bind asB
        if k then stGo (fun ρ s=>st cx F n sc ρ s) a (frz F c ρ) else stGo (fun ρ s=>st cx F n sc ρ s) b (frz F c ρ)
    | .For tg iter body orelse _=>(match orelse with
        | [] => do
          let l <- evI cx (isTupE tg) (ev cx F sc (frz F iter ρ)) sc iter
          forGo (fun d ρ=>do let ρ1 <- bindT sc tg d ρ;stGo (fun ρ s=>st cx F n sc ρ s) body ρ1) l (frz F iter ρ)
        | _=>none)
    | .While c body orelse _=>(match orelse with
        | []=>if true then none else none
        | _=>none)
    | _=>none
def stx(cx:Cxt)(F:Nat):Nat->Scope->Rho->Stmt->Option (Str×Rho)
  | 0,_,_,_=>none
  | n + 1, sc, ρ, s => match s with
    | .Raise (some (.Call (.Name c _) [.Constant (.str _) _ _] [] _)) none _=>if cx.rs&&isGl cx sc c&&cx.exs.contains c&&plainName c then some (c,ρ) else none
    | .Expr e _=>if isFresh e then none else(evx cx F sc (frz F e ρ) e).map fun c=>(c,frz F e ρ)
    | .Return (some e) _=>(evx cx F sc (frz F e ρ) e).map fun c=>(c,frz F e ρ)
    | .Assign [.Name _ _] e _=>if isFresh e then none else(evx cx F sc (frz F e ρ) e).map fun c=>(c,frz F e ρ)
    | .If c a b _=>(match (ev cx F sc (frz F c ρ) c).bind asB with
        | some k=>stxGo (fun ρ s=>st cx F n sc ρ s) (fun ρ s=>stx cx F n sc ρ s) (if k then a else b) (frz F c ρ)
        | none => (match notCall c with
          | some e=>(evx cx F sc (frz F c ρ) e).map fun x=>(x,frz F c ρ)
          | none=>none))
    | .For _ iter _ [] _=>if plainE iter then(evx cx F sc (frz F iter ρ) iter).map fun c=>(c,frz F iter ρ) else none
    | _=>none
end
structure Fd where
 ps:List Str
 N:List Str
 sc:Scope
 body:List Stmt
def startR(fd:Fd)(ds:List D):Rho:=(fd.ps.zip (ds.map Sl.sh))++(fd.N.drop fd.ps.length).map fun x=>(x,.no)
structure Pg where
 cst:List (Str×D)
 blt:List (Str×String)
 defs:List (Str×Fd)
 exs:List Str:=[]
 top:Str:="MinorError"
inductive Rs where
 | val (d:D) | exc (c:Str)
def Rs.val?:Option Rs->Option D
 | some (.val d)=>some d
 | _=>none
def Rs.exc?:Option Rs->Option Str
 | some (.exc c)=>some c
 | _=>none
def Pg.cx(P:Pg)(c:Str->List D->Option Rs):Cxt:=⟨P.cst,P.blt,P.defs.map (·.1),P.exs,P.top,true,fun f ds=>Rs.val? (c f ds),fun f ds=>Rs.exc? (c f ds)⟩
def bodyR(cx:Cxt)(F:Nat)(sc:Scope)(body:List Stmt)(ρ:Rho):Option Rs:=match stGo (fun ρ s=>st cx F F sc ρ s) body ρ with
  | some (.ret d)=>some (.val d)
  | some (.nxt _)=>some (.val .non)
  | none => (match stxGo (fun ρ s => st cx F F sc ρ s) (fun ρ s => stx cx F F sc ρ s) body ρ with
    | some (c,_)=>some (.exc c)
    | none=>none)
@[irreducible] def callR (P:Pg) (F:Nat):Nat->Str->List D->Option Rs
  | 0,_,_=>none
  | k + 1, f, ds => match P.defs.lookup f with
    | none=>none
    | some fd=>if ds.length==fd.ps.length then bodyR (P.cx (callR P F k)) F fd.sc fd.body (startR fd ds) else none
theorem callR_0{P:Pg}{F:Nat}{f:Str}{ds:List D}:callR P F 0 f ds=none:=by with_unfolding_all rfl
theorem callR_s{P:Pg}{F k:Nat}{f:Str}{ds:List D}:callR P F (k+1) f ds=(match P.defs.lookup f with
    | none=>none
    | some fd=>if ds.length==fd.ps.length then bodyR (P.cx (callR P F k)) F fd.sc fd.body (startR fd ds) else none):=by with_unfolding_all rfl
@[irreducible] def callN (P:Pg) (F k:Nat) (f:Str) (ds:List D):Option D:=Rs.val? (callR P F k f ds)
theorem callN_eq{P:Pg}{F k:Nat}{f:Str}{ds:List D}:callN P F k f ds=Rs.val? (callR P F k f ds):=by with_unfolding_all rfl
@[irreducible] def callE (P:Pg) (F k:Nat) (f:Str) (ds:List D):Option Str:=Rs.exc? (callR P F k f ds)
theorem callE_eq{P:Pg}{F k:Nat}{f:Str}{ds:List D}:callE P F k f ds=Rs.exc? (callR P F k f ds):=by with_unfolding_all rfl
end DE
namespace L2
open PySem PySem.Spec PyProof.Rows PySem.SeqAt
def mxF(val:Nat->Int):Nat->Nat->Int->Int
 | _,0,b=>b
 | j,k+1,b=>mxF val (j+1) k (if val j>b then val j else b)
section
variable {prog:Program} {w:World} {A:Around} {I:Addr} {fp wr:List Addr} {n:Nat} {P:Nat->Value->Prop} {St:Nat->Heap->Prop}
theorem mx_name:(toString "max"++toString ".loop":String)="max.loop":=by decide
theorem mx_go(W:Walks prog w A.in1 I fp wr n P St){val:Nat->Int}(hv:∀ i v,P i v->∃ t,v=.int (val i) t){S:Addr}(hS:S∉fp){kw:List (Str×Value)}{R:Result->Shared->Prop} :
    ∀ (k j:Nat) (s:Shared) (b:Int) (t:Tok) (c:Nat),j+k=n->St j s.heap->s.heap.get? S=some { cls:=.type "list",dict:=none,data:=.seq #[.int b t,.int b t] c,slots := #[] } ->
    (∀ t' h' tk,(∀ x o,x∉wr->x≠S->s.heap.get? x=some o->h'.get? x=some o)->R (.ok (.ret (.int (mxF val j k b) t'))) { s with heap:=h',toks:=tk }) ->
    codeAny (model prog w) A (.builtin "max.loop" ⟨[.ref I,.none,.ref S],kw⟩) R s:=by
  have hw:S∉wr:=fun h=>hS (W.sub _ h)
  intro k
  induction k with
  | zero =>
    intro j s b t c hj st hb hR
    refine codeAny_builtin F.entry_max_loop ?_
    rw[Around.under_plainId F.plain_max_loop _]
    refine(show wpAny _ A.in1 (seqItems? (.ref S) >>=_) _ _ s from wpAny_bind (wpAny_seqItems hb rfl ?_))
    refine(show wpAny _ A.in1 (tryCatch (pyNext (.ref I)) _ >>=_) _ _ s from wpAny_bind (wpAny_tryCatch (W.done s _ _ ((show j=n from hj)▸st) fun h1 tk kp=>?_)))
    have hb1:=kp S _ hw hb
    refine(show wpAny _ A.in1 (updateSeq S (fun _ => #[]) >>=_) _ _ _ from wpAny_bind (wpAny_updateSeq hb1 rfl (wpAny_bind (wpAny_letGo (wpAny_pure ?_)))))
    exact hR t _ tk fun x o q1 q2 e=>(Heap.get?_update_other _ _ (Ne.symm q2)).trans (kp x o q1 e)
  | succ k ih =>
    intro j s b t c hj st hb hR
    refine codeAny_builtin F.entry_max_loop ?_
    rw[Around.under_plainId F.plain_max_loop _]
    refine(show wpAny _ A.in1 (seqItems? (.ref S) >>=_) _ _ s from wpAny_bind (wpAny_seqItems hb rfl ?_))
    refine(show wpAny _ A.in1 (tryCatch (pyNext (.ref I)) _ >>=_) _ _ s from wpAny_bind (wpAny_tryCatch (W.item j s _ _ (by omega) st fun v h1 tk hP st1 kp=>?_)))
    have hb1:=kp S _ hw hb
    have hcmp:CmpOf prog w A.in1 .Gt (fun i v=>∃ t,v=Value.int (if i=0 then val j else b) t) (fun i k=>decide ((if i=0 then val j else b)>(if k=0 then val j else b))):=CmpOf.ints_gt (fun i=>if i=0 then val j else b) fun i v h=>h
    obtain⟨t2,rfl⟩:=hv _ _ hP
    refine(show wpAny _ A.in1 (tryCatch (holding [.int (val j) t2,.int (val j) t2] (richCompare .Gt (.int (val j) t2) (.int b t) >>=_)) _ >>=_) _ _ _ from
      wpAny_bind (wpAny_tryCatch (wpAny_holding (wpAny_bind (hcmp 0 1 _ _ _ _ _ ⟨t2,rfl⟩ ⟨t,rfl⟩ ?_)))))
    refine wpAny_bind (wpAny_holding (wpAny_truthy_bool (wpAny_bind (wpAny_letGo (wpAny_pure ?_)))))
    simp only[if_true,Nat.one_ne_zero,if_false]
    by_cases q:val j>b
    · simp only[decide_eq_true q,if_true]
      refine wpAny_bind (wpAny_updateSeq hb1 rfl (wpAny_bind (wpAny_letGo ?_)))
      rw[mx_name]
      refine wpAny_pure ⟨plainId_quiet F.plain_max_loop _,ih (j+1) _ (val j) t2 _ (by omega) (W.frame _ _ _ st1 fun x hx o e=>?_) (Heap.get?_update_self _ hb1 rfl) fun t3 h3 tk3 kp3=>?_⟩
      · exact(Heap.get?_update_other _ _ (fun z:S=x=>hS (by rw[z];exact hx))).trans e
      · have:=hR t3 h3 tk3 fun x o q1 q2 e=>kp3 x o q1 q2 ((Heap.get?_update_other _ _ (Ne.symm q2)).trans (kp x o q1 e))
        simp only[mxF,if_pos q] at this
        exact this
    · simp only[decide_eq_false q,Bool.false_eq_true,if_false]
      refine wpAny_bind (wpAny_letGo ?_)
      rw[mx_name]
      refine wpAny_pure ⟨plainId_quiet F.plain_max_loop _,ih (j+1) _ b t _ (by omega) st1 hb1 fun t3 h3 tk3 kp3=>?_⟩
      have:=hR t3 h3 tk3 fun x o q1 q2 e=>kp3 x o q1 q2 (kp x o q1 e)
      simp only[mxF,if_neg q] at this
      exact this
theorem mxF_L{val:Nat->Int}:∀ (l:List Int) (j:Nat) (b:Int),(∀ i,i<l.length->val (j+i)=l.getD i 0)->mxF val j l.length b=DE.mxL l b
  | [],j,b,h=>rfl
  | x :: r, j, b, h => by
    have h0:val j=x:=by simpa using h 0 (by simp)
    show mxF val (j+1) r.length (if val j>b then val j else b)=_
    rw[h0,mxF_L r (j+1) _ fun i hi=>by rw[show j+1+i=j+(i+1) by omega,h (i+1) (by simpa using hi)];simp]
    rfl
theorem mx_first(W:Walks prog w A.in1 I fp wr n P St){val:Nat->Int}(hv:∀ i v,P i v->∃ t,v=.int (val i) t){S:Addr}(hS:S∉fp){dn:Str}{dv:Int}{dt:Tok}{R:Result->Shared->Prop}{s:Shared}{c:Nat}(st:St 0 s.heap)
    (hb:s.heap.get? S=some { cls:=.type "list",dict:=none,data:=.seq #[] c,slots := #[] })
    (hR:∀ t' h' tk,(∀ x o,x∉wr->x≠S->s.heap.get? x=some o->h'.get? x=some o)->R (.ok (.ret (.int (match n with | 0=>dv | m+1=>mxF val 1 m (val 0)) t'))) { s with heap:=h',toks:=tk }) :
    codeAny (model prog w) A (.builtin "max.loop" ⟨[.ref I,.none,.ref S],[(dn,.int dv dt)]⟩) R s:=by
  have hw:S∉wr:=fun h=>hS (W.sub _ h)
  refine codeAny_builtin F.entry_max_loop ?_
  rw[Around.under_plainId F.plain_max_loop _]
  refine(show wpAny _ A.in1 (seqItems? (.ref S) >>=_) _ _ s from wpAny_bind (wpAny_seqItems hb rfl ?_))
  cases n with
  | zero =>
    refine(show wpAny _ A.in1 (tryCatch (pyNext (.ref I)) _ >>=_) _ _ s from wpAny_bind (wpAny_tryCatch (W.done s _ _ st fun h1 tk kp=>?_)))
    refine wpAny_bind (wpAny_rule (wpAny_pure ?_))
    exact hR dt h1 tk fun x o q1 q2 e=>kp x o q1 e
  | succ m =>
    refine(show wpAny _ A.in1 (tryCatch (pyNext (.ref I)) _ >>=_) _ _ s from wpAny_bind (wpAny_tryCatch (W.item 0 s _ _ (by omega) st fun v h1 tk hP st1 kp=>?_)))
    have hb1:=kp S _ hw hb
    obtain⟨t2,rfl⟩:=hv _ _ hP
    refine(show wpAny _ A.in1 (updateSeq S (fun _ => #[.int (val 0) t2,.int (val 0) t2]) >>=_) _ _ _ from wpAny_bind (wpAny_updateSeq hb1 rfl ?_))
    rw[mx_name]
    refine wpAny_pure ⟨plainId_quiet F.plain_max_loop _,mx_go W hv hS m 1 _ (val 0) t2 _ (by omega) (W.frame _ _ _ st1 fun x hx o e=>?_) (Heap.get?_update_self _ hb1 rfl) fun t3 h3 tk3 kp3=>?_⟩
    · exact(Heap.get?_update_other _ _ (fun z:S=x=>hS (by rw[z];exact hx))).trans e
    · exact hR t3 h3 tk3 fun x o q1 q2 e=>kp3 x o q1 q2 ((Heap.get?_update_other _ _ (Ne.symm q2)).trans (kp x o q1 e))
theorem mx_params(v:Value):Builtin.Builtins.bindParams "max" ["key","default"] 0 ⟨[],[(("default":Str),v)]⟩=pure [none,some v]:=rfl
theorem mx_args(a v:Value):argsOk "max" ⟨[a],[(("default":Str),v)]⟩:=by unfold argsOk;kernel_rfl
theorem mx_call{E:Value->Shared->Prop}{s:Shared}{l:Addr}{xs:Array (Int×Tok)}{dv:Int}{dt:Tok}{Q:Value->Shared->Prop}(hh:A.handled=none)(hl:s.heap.IsList l (intItems xs))
    (h:∀ t' h' tk,(∀ b o,s.heap.get? b=some o->h'.get? b=some o)->Q (.int (match xs.size with | 0=>dv | m+1=>mxF (numAt xs) 1 m (numAt xs 0)) t') { s with heap:=h',toks:=tk }) :
    wpAny (model prog w) A (call (.builtin "max") [.ref l] [(("default":Str),.int dv dt)]) Q E s:=by
  have hsz:(intItems xs).size=xs.size:=by simp[intItems]
  have key:wpAny (model prog w) A.in1 (Builtin.«max» ⟨[.ref l],[(("default":Str),.int dv dt)]⟩) (fun fin s'=>match fin with
      | .done f=>(match (Except.ok f:Result) with | .ok (.ret v)=>Q v s' | .ok _=>False | .error e=>E e s')
      | .again c'=>c'.quiet=true/\codeAny (model prog w) A c' (fun r s'=>match r with | .ok (.ret v)=>Q v s' | .ok _=>False | .error e=>E e s') s') E s:=by
    refine(show wpAny _ A.in1 (Builtin.Builtins.bindParams "max" ["key","default"] 0 ⟨[],[(("default":Str),.int dv dt)]⟩ >>=_) _ _ s from wpAny_bind (wpAny_of_eq (mx_params _) (wpAny_bind (wpAny_pure (wpAny_bind ?_)))))
    refine iter_intList hl fun s2 e st hfp hne=>?_
    subst e
    refine wpAny_bind (wpAny_newObj_type ?_)
    rw[mx_name]
    refine wpAny_pure ⟨plainId_quiet F.plain_max_loop _,mx_first (Walks.list (A:=A.in1) hh _ l hne (intItems xs)) (val:=numAt xs) (fun _ _=>intItems_at) (fun hm=>Nat.lt_irrefl _ (hfp _ hm)) ((Walks.list (A:=A.in1) (prog:=prog) (w:=w) hh _ l hne (intItems xs)).frame _ _ _ st fun b _ o e=>Heap.get?_push_of_some _ e) (Heap.get?_push_size _ rfl) fun t' h' tk kp=>?_⟩
    rw[hsz]
    exact h t' h' tk (old_kept fun b o hb e=>kp b o (by simpa using hb) (Nat.ne_of_lt (Heap.lt_size e)) (Heap.get?_push_of_some _ e))
  refine wpAny_call (codeAny_call_builtin F.plain_max F.entry_max ?_)
  simp only[checkBuiltinCall,F.kind_max]
  have ha:=mx_args (.ref l) (.int dv dt)
  cases hsig:Manifest.signature? "max" with
  | none=>exact wpAny_pure key
  | some sig =>
    have h2:Bind.checkArgs "max" sig ⟨[.ref l],[(("default":Str),.int dv dt)]⟩=pure ():=by simpa only[argsOk,hsig] using ha
    simp only[h2]
    exact wpAny_pure key
end
end L2
namespace L2
open PySem PySem.Spec PyProof.Rows
end L2
namespace L2
open PySem PySem.Spec PyProof.Rows
section
variable (P:Program) (w:World)
end
section
variable {P:Program} {w:World} {H H':Hp} {h h':Heap} {a:Addr} {o:HO}
end
section
variable {P:Program} {w:World} {H:Hp} {h h':Heap} {x e:Addr} {o':HO}
end
section
variable {fs fs' ex ex':List Addr} {H H1 H2:Hp} {h h1 h2 h':Heap} {a x e:Addr} {o:HO}
end
end L2
namespace L2
open PySem PySem.Spec PyProof.Rows
section
variable {X:Cx} {pins:List (Addr×Obj)} {σ:List (Option V)} {H H':Hp} {s:Shared} {h':Heap}
end
end L2
namespace L2
open PySem PySem.Spec PyProof.Rows
section
variable {X:Cx}
variable {a b:Expr} {ta tb:TE} {pos:Pos}
variable {tA tB':TT} {rest:List Expr}
end
end L2
namespace L2
open PySem PySem.Spec PyProof.Rows
section
variable {X:Cx} {pins:List (Addr×Obj)} {σ:St} {H:Hp} {s:Shared} {a:Addr} {xs ys:List V}
end
section
variable {X:Cx} {pins:List (Addr×Obj)} {σ:St} {H:Hp} {s:Shared} {E:Value->Shared->Prop}
end
section
variable {X:Cx} {st:Stmt} {rest:List Stmt} {t u:TS} {e:Expr} {te:TE} {pos:Pos}
end
section
variable {X:Cx} {pos:Pos}
end
section
variable {X:Cx} {pos:Pos}
end
end L2
namespace L2
open PySem PySem.Spec PyProof.Rows
section
variable {X:Cx} {tg:Expr}
end
end L2
namespace L2
open PySem PySem.Spec PyProof.Rows
section
variable {X:Cx} {a b c:Expr} {ta tb tc:TE} {pos:Pos}
end
section
variable {X:Cx} {a b c:Expr} {ta tb tc:TE} {pos:Pos}
end
end L2
namespace L2
open PySem PySem.Spec PyProof.Rows
section
variable {prog:Program} {w:World} {A:Around} {E:Value->Shared->Prop} {s:Shared} {K:PySem.W.Frag} {x dx C f:Addr} {mA:Str->Option Value} {name:Str} {v:Value}
end
section
variable {P:Program} {w:World} {H H':Hp} {h h':Heap} {a C dx:Addr} {fs fs':List (Str×V)}
end
section
variable {X:Cx} {pins:List (Addr×Obj)} {σ:St} {H:Hp} {s:Shared} {a C dx:Addr} {fs:List (Str×V)} {f:Str} {v:V} {A:Around} {E:Value->Shared->Prop}
end
section
variable {X:Cx} {o e value:Expr} {f:Str} {pos pos' tpos:Pos} {ta tv:TE}
end
section
variable {X:Cx} {pins:List (Addr×Obj)} {σ:St} {H:Hp} {s:Shared} {A:Around} {E:Value->Shared->Prop} {Q:Value->Shared->Prop} {c:Value} {b:Bool}
end
end L2
namespace L2
open PySem PySem.Spec PyProof.Rows
section
variable {X:Cx} {e:Expr} {es:List Expr} {te:TE} {t:TA} {pos:Pos}
end
section
variable {X:Cx} {pins:List (Addr×Obj)} {σ:St} {H:Hp} {s s':Shared}
end
section
variable {X:Cx} {CX:CXT} {k:Nat} {f C:Addr} {fd:FuncData} {ps:List Str} {sp:Sp} {dvs:List V} {ds:List Value} {E:XK} {x m:Str} {p pos apos:Pos} {e o:Expr} {es:List Expr} {ta:TE} {t:TA}
end
section
variable {X:Cx} {CX:CXT} {k:Nat} {f C:Addr} {fd:FuncData} {ps ks:List Str} {sp:Sp} {E:XK} {x m:Str} {p pos apos kpos:Pos} {e o:Expr} {es:List Expr} {kws:List Keyword} {te ta:TE} {t tk:TA} {nm:Option Str}
variable {g:List Value->List Value->List Value} {gV:List V->List V->List V}
end
end L2
namespace L2
open PySem PySem.Spec PyProof.Rows
section
variable {X:Cx} {x:Str} {p pos:Pos} {e:Expr} {es:List Expr} {t:TA} {id T:String} {r:List V->Hp->VK->Prop}
end
end L2
namespace L2
open PySem PySem.Spec PyProof.Rows
section
variable {κ:Type} [DecidableEq κ]
def valV(kvs:List (κ×V))(k:κ):Option V:=(kvs.find? fun kv=>decide (kv.1=k)).map (·.2)
def putK(kvs:List (κ×V))(k:κ)(v:V):List (κ×V) :=
 if(kvs.any fun kv=>decide (kv.1=k))=true then kvs.map (fun kv=>if kv.1=k then(kv.1,v) else kv) else kvs++[(k,v)]
theorem valV_pos{p:κ×V}{r:List (κ×V)}{k:κ}(e:p.1=k):valV (p::r) k=some p.2:=by simp[valV,List.find?_cons,e]
theorem valV_neg{p:κ×V}{r:List (κ×V)}{k:κ}(e:¬ p.1=k):valV (p::r) k=valV r k:=by simp[valV,List.find?_cons,e]
theorem length_putK(kvs:List (κ×V))(k:κ)(v:V):(putK kvs k v).length<=kvs.length+1:=by
 unfold putK
 split
 ·rw[List.length_map];omega
 ·rw[List.length_append,List.length_cons,List.length_nil];omega
theorem RelO.getD{o:Option V}{u:Option Value}{d:V}{d':Value}(r:RelO o u)(rd:RelV d d'):RelV (o.getD d) (u.getD d'):=by
  cases o with
  | none => cases u with
    | none=>exact rd
    | some _=>exact(show False from r).elim
  | some _ => cases u with
    | none=>exact(show False from r).elim
    | some _=>exact r
theorem KV.val{kvs:List (κ×V)}{vs:List (κ×Value)}(r:KV kvs vs)(k:κ):RelO (valV kvs k) (valueAt vs k):=by
  unfold KV at r
  induction r with
  | nil=>exact True.intro
  | @cons p q ps qs h t ih =>
    obtain⟨h1,h2⟩:=h
    by_cases e:p.1=k
    · have e':q.1=k:=h1.symm.trans e
      have b:valueAt (q::qs) k=some q.2:=by simp[valueAt,List.find?_cons,e']
      rw[valV_pos e,b];exact h2
    · have e':¬ q.1=k:=fun z=>e (h1.trans z)
      have b:valueAt (q::qs) k=valueAt qs k:=by simp[valueAt,List.find?_cons,e']
      rw[valV_neg e,b];exact ih
theorem KV.any{kvs:List (κ×V)}{vs:List (κ×Value)}(r:KV kvs vs)(k:κ):(kvs.any fun kv=>decide (kv.1=k))=vs.any fun kv=>decide (kv.1=k):=by
 unfold KV at r
 induction r with
 | nil=>rfl
 | cons h t ih=>rw[List.any_cons,List.any_cons,ih,h.1]
theorem KV.repl{kvs:List (κ×V)}{vs:List (κ×Value)}(r:KV kvs vs)(k:κ){y:V}{u:Value}(ry:RelV y u) :
    KV (kvs.map fun kv=>if kv.1=k then(kv.1,y) else kv) (vs.map fun kv=>if kv.1=k then(kv.1,u) else kv):=by
  unfold KV at r ⊢
  induction r with
  | nil=>exact .nil
  | @cons p q ps qs h t ih =>
    rw[List.map_cons,List.map_cons]
    refine .cons ?_ ih
    obtain⟨h1,h2⟩:=h
    by_cases e:p.1=k
    · rw[if_pos e,if_pos (h1.symm.trans e)];exact⟨h1,ry⟩
    · rw[if_neg e,if_neg (fun z=>e (h1.trans z))];exact⟨h1,h2⟩
theorem KV.put{kvs:List (κ×V)}{vs:List (κ×Value)}(r:KV kvs vs)(k:κ){y:V}{u:Value}(ry:RelV y u):KV (putK kvs k y) (stored vs k u):=by
 unfold putK stored
 rw[r.any k]
 by_cases e:(vs.any fun kv=>decide (kv.1=k))=true
 ·rw[if_pos e,if_pos e];exact r.repl k ry
 ·rw[if_neg e,if_neg e];exact Paired.snoc r ⟨rfl,ry⟩
end
theorem kV_is{P:Program}{w:World}{k:Key}{u:Value}(r:RelV (kV k) u):(mixKind P w).is k u=true:=by
 cases k with
 | inl i=>obtain⟨t,e⟩:=(show ∃ t,u=Value.int i t from r);subst e;exact mixKind_int P w i t
 | inr x=>obtain⟨t,e⟩:=(show ∃ t,u=Value.str x t from r);subst e;exact mixKind_str P w x t
theorem items_are{P:Program}{w:World}:∀ {ks:List Key} {us:List Value},Vals (ks.map kV) us->ItemsAre (mixKind P w) ks us
  | [],_,r=>by rw[List.map_nil] at r;cases r;exact .nil
  | k :: ks, _, r => by
    rw[List.map_cons] at r
    cases r with
    | cons h t=>exact .cons (kV_is h) (items_are t)
abbrev KT(H:Hp):List (List Key×V)->List (List Key×Addr×Value)->Prop:=Paired fun p q=>p.1=q.1/\H q.2.1=some (.tup (p.1.map kV))/\RelV p.2 q.2.2
theorem KT.val{H:Hp}{kvs:List (List Key×V)}{xs:List (List Key×Addr×Value)}(r:KT H kvs xs)(k:List Key):RelO (valV kvs k) ((atKey xs k).map (·.2)):=by
  induction r with
  | nil=>exact True.intro
  | @cons p q ps qs h t ih =>
    obtain⟨h1,_,h2⟩:=h
    by_cases e:p.1=k
    · have e':q.1=k:=h1.symm.trans e
      have b:atKey (q::qs) k=some q.2:=by simp[atKey,List.find?_cons,e']
      rw[valV_pos e,b];exact h2
    · have e':¬ q.1=k:=fun z=>e (h1.trans z)
      have b:atKey (q::qs) k=atKey qs k:=by simp[atKey,List.find?_cons,e']
      rw[valV_neg e,b];exact ih
section
variable {P:Program} {w:World} {H:Hp} {h:Heap} {a:Addr}
theorem rd_of{u:HO}(ok:HOk P w H h)(e:Rd H a u):ObjOk P w H h a u:=e.ok ok
theorem dk_rd{kvs:List (Key×V)}(ok:HOk P w H h)(e:Rd H a (.dK kvs)):kvs.length<=sizeLine/\(a==sysModules)=false/\∃ vs,KV kvs vs/\h.DictOf (mixKind P w) a vs :=
 show ObjOk P w H h a (.dK kvs) from rd_of ok e
theorem dk_of{kvs:List (Key×V)}(ok:HOk P w H h)(e:H a=some (.dK kvs)):kvs.length<=sizeLine/\(a==sysModules)=false/\∃ vs,KV kvs vs/\h.DictOf (mixKind P w) a vs:=dk_rd ok (.inl e)
theorem key_of{ks:List Key}(ok:HOk P w H h)(e:H a=some (.tup (ks.map kV))):(tupleKind (mixKind P w)).is h ks a:=by
 obtain⟨_,its,r,o,h1,h2,n,h3⟩:=(show ObjOk P w H h a (.tup (ks.map kV)) from ok a _ e)
 exact⟨o,its.toArray,n,h1,h2,h3,by simpa using items_are r⟩
theorem dt_rd{kvs:List (List Key×V)}(ok:HOk P w H h)(e:Rd H a (.dT kvs)):kvs.length<=sizeLine/\(a==sysModules)=false /\
    ∃ xs,KT H kvs xs/\h.DictOfH (tupleKind (mixKind P w)) a xs:=by
  obtain⟨z,y,xs,r,o,es,ep,h1,h2,h3,h4,h5⟩:=(show ObjOk P w H h a (.dT kvs) from rd_of ok e)
  refine⟨z,y,xs,r,o,es,ep,h1,h2,h3,h4,fun x hx=>?_,h5⟩
  have all:∀ {l:List (List Key×V)} {m:List (List Key×Addr×Value)},KT H l m->∀ x∈m,(tupleKind (mixKind P w)).is h x.1 x.2.1:=by
    intro l m q
    induction q with
    | nil=>intro x hx;exact nomatch hx
    | @cons p q ps qs hq t ih =>
      intro x hx
      rcases List.mem_cons.mp hx with e | hx
      · subst e
        exact key_of ok (by rw[<- hq.1];exact hq.2.1)
      · exact ih x hx
  exact all r x hx
end
def DGet(H:Hp)(a:Addr)(y:V)(r:Option V):Prop :=
 (∃ kvs k,Rd H a (.dK kvs)/\y=kV k/\r=valV kvs k)\/∃ kvs k b,Rd H a (.dT kvs)/\y=.ref b/\H b=some (.tup (k.map kV))/\r=valV kvs k
section
variable {X:Cx} {pins:List (Addr×Obj)} {σ:St} {H:Hp} {s:Shared} {a:Addr} {y v:V} {u r:Value} {o:Option V} {A:Around} {E:Value->Shared->Prop}
theorem Inv.big(I:Inv X pins σ H s):sysModules<s.heap.objs.size:=by
 have h:mainGlobals<s.heap.objs.size:=(I.mod.glob.keeps I.bk).lt
 exact Nat.lt_trans (by decide) h
theorem d_getItem{Q:Value->Shared->Prop}(hu:A.units+1<cLine)(I:Inv X pins σ H s)(g:DGet H a y (some v))(ry:RelV y u)(h:∀ w' s',Inv X pins σ H s'->RelV v w'->Q w' s') :
  wpAny (model X.prog X.w) A (getItem (.ref a) u) Q E s:=by
 rcases g with⟨kvs,k,e,ey,l⟩ | ⟨kvs,k,b,e,ey,eb,l⟩
 ·subst ey
  obtain⟨z,hd,vs,rel,dd⟩:=dk_rd I.hok e
  obtain⟨w',hw,rw'⟩:=RelO.some_of (v:=v) (o:=valueAt vs k) (by rw[l];exact rel.val k)
  exact wpAny_getItem_of (kV_is ry) dd.mapOf hw (h w' _ (I.tok _) rw')
 ·subst ey
  cases (show u=Value.ref b from ry)
  obtain⟨z,hd,xs,rel,dd⟩:=dt_rd I.hok e
  obtain⟨w',hw,rw'⟩:=RelO.some_of (v:=v) (o:=(atKey xs k).map (·.2)) (by rw[l];exact rel.val k)
  obtain⟨p,hp,hp2⟩:=Option.map_eq_some_iff.mp hw
  refine wpAny_getItem_heap (tupleKind_room_in1 hu) (key_of I.hok eb) dd hp ?_
  rw[hp2]
  exact h w' _ (I.tok _) rw'
theorem d_write{h':Heap}{t':Nat}{ob:HO}(I:Inv X pins σ H s)(mu:Mut (H a))(hs:Heap.SameBut a s.heap h')(he:∃ q,h'.get? a=some q)(new:ObjOk X.prog X.w (upd H a ob) h' a ob) :
  Inv X pins σ (upd H a ob) { s with heap:=h',toks:=t' } :=
 I.write (x:=a) (e:=a) mu (.inl rfl) (fun b q hb z=>(hs.2 b hb).trans z) he new
theorem dk_new{P:Program}{w:World}{H':Hp}{h':Heap}{kvs:List (Key×V)}{vs:List (Key×Value)}(z:kvs.length<=sizeLine)(hd:(a==sysModules)=false)(rel:KV kvs vs)(dd:h'.DictOf (mixKind P w) a vs) :
  ObjOk P w H' h' a (.dK kvs):=⟨z,hd,vs,rel,dd⟩
end
section
variable {X:Cx} {pins:List (Addr×Obj)} {σ:St} {H:Hp} {s:Shared} {a:Addr} {kvs:List (Key×V)} {k:Key} {u:Value} {A:Around} {E:Value->Shared->Prop}
end
def NoSl(i:Expr):Prop:=∀ ov iv,subscripted i false ov iv=operate [ov,iv] (getItem ov iv)
theorem subD_of{prog:Program}{w:World}{A:Around}{E:Value->Shared->Prop}{s:Shared}{env:Env}{value slice:Expr}{pos:Pos}{T id:String}{Q:Value->Shared->Prop}
  (hl:typeLookup (.type T) "__getitem__"=pure (some (.builtin id))) (hs:NoSl slice)
  (h:wpAny (model prog w) A (eval value env) (fun o s₁=>wpAny (model prog w) A (eval slice env) (fun i s₂=>s₂.TypeIs o T/\wpAny (model prog w) A (getItem o i) Q E s₂) E s₁) E s) :
  wpAny (model prog w) A (eval (.Subscript value slice pos) env) Q E s:=by
 refine Subscript_ (wpAny_mono h (fun o s₁ h₁=>wpAny_mono h₁ (fun i s₂ h₂=>?_) fun _ _ x=>x) fun _ _ x=>x)
 obtain⟨hT,h₂⟩:=h₂
 unfold subscriptTail
 refine wpAny_bind ?_
 rw[getitemInPython_of_ne hT.not_modules]
 refine wpAny_bind (wpAny_specialOf hT hl ?_)
 have fin:wpAny (model prog w) A (subscripted slice false o i) (fun r s₃=>wpAny (model prog w) A (letTemporaryGo value o r >>=fun _=>pure r) Q E s₃) E s₂:=by
  rw[hs o i]
  exact wpAny_operating (wpAny_mono h₂ (fun r s₃ h₃=>wpAny_bind (wpAny_letTemporaryGo (wpAny_pure h₃))) fun _ _ x=>x)
 first
  | exact wpAny_pure (wpAny_bind fin)
  | exact wpAny_bind (wpAny_pure (wpAny_bind fin))
  | exact wpAny_bind fin
theorem dict_typeIs{X:Cx}{pins:List (Addr×Obj)}{σ:St}{H:Hp}{s:Shared}{a:Addr}{y:V}{o:Option V}(I:Inv X pins σ H s)(g:DGet H a y o):s.TypeIs (.ref a) "dict":=by
 rcases g with⟨kvs,k,e,_,_⟩ | ⟨kvs,k,b,e,_,_,_⟩
 ·obtain⟨_,_,vs,_,dd⟩:=dk_rd I.hok e
  exact dd.typeIs
 ·obtain⟨_,_,xs,_,dd⟩:=dt_rd I.hok e
  exact dd.typeIs
def tDGet(td ty:TE):TE:=fun σ H Q=>td σ H fun x H1=>ty σ H1 fun y H2=>∃ a v,x=.ref a/\DGet H2 a y (some v)/\Q v H2
section
variable {X:Cx} {o i e value:Expr} {pos pos' tpos:Pos} {td ty tv:TE}
theorem pe_dget(hu:X.A.units+1<cLine)(ho:PE X o td)(hi:PE X i ty)(hs:NoSl i):PE X (.Subscript o i pos) (tDGet td ty):=by
 intro pins s σ H Q I h
 refine subD_of PySem.F.slot_dict_getitem.lookup hs (thn (ho pins s σ H _ I h) fun u s1 ⟨x,H1,I1,rx,q1⟩=>thn (hi pins s1 σ H1 _ I1 q1) fun iv s2 ⟨y,H2,I2,ry,a,v,ex,g,q2⟩=>?_)
 subst ex
 obtain rfl:u=Value.ref a:=rx
 exact⟨dict_typeIs I2 g,d_getItem hu I2 g ry fun w' s3 I3 rw'=>⟨v,H2,I3,rw',q2⟩⟩
end
theorem dk_empty{P:Program}{w:World}{H:Hp}(h:Heap)(hb:sysModules<h.objs.size):ObjOk P w H (h.push { cls:=.type "dict",data:=.dict #[] }) h.objs.size (.dK []) :=
 ⟨Nat.zero_le _,beq_eq_false_iff_ne.mpr (Ne.symm (Nat.ne_of_lt hb)),[],.nil,Heap.DictOf.new h⟩
section
variable {X:Cx} {pos:Pos}
end
def tPairs:List (TE×TE)->St->Hp->(List (V×V)->Hp->Prop)->Prop
 | [],_,H,Q=>Q [] H
 | (tk,tv)::r,σ,H,Q=>tk σ H fun x H1=>tv σ H1 fun y H2=>tPairs r σ H2 fun ps H3=>Q ((x,y)::ps) H3
abbrev VV:List (V×V)->List (Value×Value)->Prop:=Paired fun p q=>RelV p.1 q.1/\RelV p.2 q.2
def PPs(X:Cx)(pos:Pos)(keys:List (Option Expr))(values:List Expr)(trs:List (TE×TE)):Prop :=
  ∀ (pins : List (Addr × Obj)) (s : Shared) (σ : St) (H : Hp) (Q : List (V × V) -> Hp -> Prop), Inv X pins σ H s -> tPairs trs σ H Q ->
    wpAny (model X.prog X.w) X.A (evalPairs (pairTrees keys values X.env pos)) (fun vs s'=>∃ ps H',Inv X pins σ H' s'/\VV ps vs/\Q ps H') X.xe s
theorem pps_nil{X:Cx}{pos:Pos}:PPs X pos [] [] []:=fun pins s σ H Q I h=>pairTrees_nil_walk ⟨[],H,I,.nil,h⟩
theorem pps_cons{X:Cx}{pos:Pos}{k v:Expr}{ks:List (Option Expr)}{vs:List Expr}{tk tv:TE}{trs:List (TE×TE)}(hk:PE X k tk)(hv:PE X v tv)(hr:PPs X pos ks vs trs) :
    PPs X pos (some k::ks) (v::vs) ((tk,tv)::trs):=fun pins s σ H Q I h =>
  pairTrees_cons_walk (thn (hk pins s σ H _ I h) fun u s1 ⟨x,H1,I1,rx,q1⟩=>thn (hv pins s1 σ H1 _ I1 q1) fun w2 s2 ⟨y,H2,I2,ry,q2⟩ =>
    thn (hr pins s2 σ H2 _ I2 q2) fun ws s3 ⟨ps,H3,I3,rel,q3⟩=>⟨(x,y)::ps,H3,I3,.cons ⟨rx,ry⟩ rel,q3⟩)
def mergeK(kvs more:List (Key×V)):List (Key×V):=more.foldl (fun acc kv=>putK acc kv.1 kv.2) kvs
theorem KV.merge:∀ {more:List (Key×V)} {rs:List (Key×Value)} {kvs:List (Key×V)} {vs:List (Key×Value)},KV more rs->KV kvs vs->KV (mergeK kvs more) (merged vs rs):=by
  intro more rs kvs vs r
  unfold KV at r
  induction r generalizing kvs vs with
  | nil=>intro q;exact q
  | @cons p q ps qs h t ih =>
    intro r0
    have e:KV (putK kvs p.1 p.2) (stored vs q.1 q.2):=by
      have:=r0.put p.1 h.2
      rw[<- h.1];exact this
    exact ih e
theorem length_mergeK:∀ (more kvs:List (Key×V)),(mergeK kvs more).length<=kvs.length+more.length
  | [],kvs=>by show kvs.length<=kvs.length+0;omega
  | p :: r, kvs => by
    have h1:=length_mergeK r (putK kvs p.1 p.2)
    have h2:=length_putK kvs p.1 p.2
    show(mergeK (putK kvs p.1 p.2) r).length<=_
    rw[List.length_cons];omega
theorem carries_of{P:Program}{w:World}:∀ {kvs:List (Key×V)} {ws:List (Value×Value)},VV (kvs.map fun kv=>(kV kv.1,kv.2)) ws->∃ rs,Carries (mixKind P w) ws rs/\KV kvs rs
  | [],_,r=>by rw[List.map_nil] at r;cases r;exact⟨[],True.intro,.nil⟩
  | p :: kvs, _, r => by
    rw[List.map_cons] at r
    cases r with
    | @cons a b as bs h t =>
      obtain⟨rs,c,q⟩:=carries_of (P:=P) (w:=w) t
      obtain⟨b1,b2⟩:=b
      exact⟨(p.1,b2)::rs,⟨kV_is h.1,rfl,c⟩,.cons ⟨rfl,h.2⟩ q⟩
def tDisp(trs:List (TE×TE)):TE:=fun σ H Q=>∀ p,H p=none->tPairs trs σ (upd H p (.dK [])) fun ps H2=>H2 p=some (.dK [])/\∃ kvs:List (Key×V),ps=kvs.map (fun kv=>(kV kv.1,kv.2))/\kvs.length<=15/\Q (.ref p) (upd H2 p (.dK (mergeK [] kvs)))
theorem pe_disp{X:Cx}{pos:Pos}{keys:List (Option Expr)}{values:List Expr}{trs:List (TE×TE)}(h:PPs X pos keys values trs)(hall:keys.all (·.isSome)=true)(hl:keys.length=values.length)(h0:keys≠[])
  (h15:keys.length<=15):PE X (.Dict keys values pos) (tDisp trs):=by
 intro pins s σ H Q I q
 have hn:=I.hok.fresh (Nat.le_refl s.heap.objs.size)
 have I1:=I.laid (a:=s.heap.objs.size) (o:=.dK []) (h':=s.heap.push { cls:=.type "dict",data:=.dict #[] }) (t':=s.toks) (fun _ _ q=>Heap.get?_push_of_some _ q) (Nat.le_refl _) (dk_empty s.heap I.big)
 refine wpAny_Dict_walk (knd:=mixKind X.prog X.w) hall hl h0 h15 (thn (h pins _ σ _ _ I1 (q _ hn)) fun ws s2 ⟨ps,H2,I2,rel,e,kvs,ep,lk,q2⟩=>?_)
 subst ep
 obtain⟨rs,c,rk⟩:=carries_of (P:=X.prog) (w:=X.w) rel
 obtain⟨z,hd,vs0,r0,dd⟩:=dk_of I2.hok e
 cases r0
 refine⟨rs,c,dd,fun h' dd' hs=>⟨.ref s.heap.objs.size,_,?_,rfl,q2⟩⟩
 have hz:(mergeK [] kvs).length<=sizeLine:=by
  have h1:=length_mergeK kvs []
  rw[List.length_nil] at h1
  rw[sizeLine_eq];omega
 have he:∃ q,h'.get? s.heap.objs.size=some q:=let ⟨q,_,_,hq,_⟩:=dd';⟨q,hq⟩
 exact d_write I2 (by rw[e];exact True.intro) hs he (dk_new hz hd (rk.merge .nil) dd')
structure M2 (X:Cx) (o:Expr) (m:Str) (apos:Pos) (e f:Expr) (cpos:Pos):Prop where
  base:attributeBase o m X.env (eval o X.env)=eval o X.env
  few:((backTo cpos (starEach [e,f] X.env)).all (fun x => !x.1)&&(backToKw cpos (keywordEach [] X.env)).all (fun x=>x.1.isSome)
    && decide (([e,f]:List Expr).length+([]:List Keyword).length+(if([]:List Keyword).isEmpty then 0 else 1)<30))=true
  line:(apos.endLine==cpos.line)=true
  trees:backTo cpos (starEach [e,f] X.env)=[(false,eval e X.env),(false,eval f X.env)]
def IsD(H:Hp)(a:Addr):Prop:=(∃ kvs,Rd H a (.dK kvs))\/∃ kvs,Rd H a (.dT kvs)
theorem isD_at{X:Cx}{pins:List (Addr×Obj)}{σ:St}{H:Hp}{s:Shared}{a:Addr}(I:Inv X pins σ H s)(d:IsD H a) :
  s.TypeIs (.ref a) "dict"/\(∀ b,Value.ref a=.ref b->∃ ob,s.heap.get? b=some ob/\ob.dict=none)/\(a==sysModules)=false:=by
 rcases d with⟨kvs,e⟩ | ⟨kvs,e⟩
 ·obtain⟨_,hd,vs,_,dd⟩:=dk_rd I.hok e
  refine⟨dd.typeIs,fun b q=>?_,hd⟩
  cases q
  obtain⟨ob,_,_,h1,h2,_⟩:=dd
  exact⟨ob,h1,h2.2.1⟩
 ·obtain⟨_,hd,xs,_,dd⟩:=dt_rd I.hok e
  refine⟨dd.typeIs,fun b q=>?_,hd⟩
  cases q
  obtain⟨ob,_,_,h1,h2,_⟩:=dd
  exact⟨ob,h1,h2.2.1⟩
section
variable {X:Cx} {pins:List (Addr×Obj)} {σ:St} {H:Hp} {s:Shared} {a:Addr} {y d:V} {u r:Value} {o:Option V} {A:Around} {E:Value->Shared->Prop}
theorem d_get2{Q:Value->Shared->Prop}(hu:A.units+1<cLine)(I:Inv X pins σ H s)(g:DGet H a y o)(ry:RelV y u)(rd:RelV d r)(h:∀ w' s',Inv X pins σ H s'->RelV (o.getD d) w'->Q w' s') :
  wpAny (model X.prog X.w) A (call (.builtin "dict.get") [.ref a,u,r]) Q E s:=by
 rcases g with⟨kvs,k,e,ey,l⟩ | ⟨kvs,k,b,e,ey,eb,l⟩
 ·subst ey
  obtain⟨z,hd,vs,rel,dd⟩:=dk_rd I.hok e
  refine call_meetsIn PySem.F.slot_dict_get dd.typeIs PySem.F.entry_dict_get (PySem.F.args_dict_get_3 _ _ _) (meets_dict_get_default (mixKind X.prog X.w) a (kV_is ry) hd r) ⟨_,dd.mapOf,h _ _ (I.tok _) ?_⟩
  rw[l]
  exact(rel.val k).getD rd
 ·subst ey
  cases (show u=Value.ref b from ry)
  obtain⟨z,hd,xs,rel,dd⟩:=dt_rd I.hok e
  refine call_meetsIn PySem.F.slot_dict_get dd.typeIs PySem.F.entry_dict_get (PySem.F.args_dict_get_3 _ _ _) (meetsH_dict_get_default (tupleKind (mixKind X.prog X.w)) a b hd r) ⟨tupleKind_room_in1 hu,k,xs,key_of I.hok eb,dd,h _ _ (I.tok _) ?_⟩
  rw[l]
  exact(rel.val k).getD rd
end
def tDGet2(td ty tx:TE):TE:=fun σ H Q=>td σ H fun x H1=>∃ a,x=.ref a/\IsD H1 a/\ty σ H1 fun y H2=>tx σ H2 fun z H3=>∃ o,DGet H3 a y o/\Q (o.getD z) H3
section
variable {X:Cx} {o e f:Expr} {apos cpos:Pos} {td ty tx:TE}
theorem pe_dget2(hu:X.A.units+1<cLine)(ho:PE X o td)(he:PE X e ty)(hf:PE X f tx)(m:M2 X o "get" apos e f cpos):PE X (.Call (.Attribute o "get" apos) [e,f] [] cpos) (tDGet2 td ty tx):=by
  intro pins s σ H Q I h
  refine wpAny_Call_method m.base m.few m.line PySem.F.plainAttrs_dict PySem.F.slot_dict_get PySem.F.type_dict_get (thn (ho pins s σ H _ I h) fun u s1 ⟨x,H1,I1,rx,a,ex,d,q1⟩=>?_)
  subst ex
  obtain rfl:u=Value.ref a:=rx
  obtain⟨t1,t2,_⟩:=isD_at I1 d
  refine⟨t1,t2,?_⟩
  rw[m.trees]
  refine Calls.callWith_builtin rfl (Calls.evalArgs_plain (Calls.spliced_cons (thn (he pins s1 σ H1 _ I1 q1) fun iv s2 ⟨y,H2,I2,ry,q2⟩ =>
    Calls.spliced_cons (thn (hf pins s2 σ H2 _ I2 q2) fun fv s3 ⟨z,H3,I3,rz,ov,g,q3⟩=>Calls.spliced_nil ?_))))
  exact d_get2 hu I3 g ry rz fun w' s4 I4 rw'=>⟨_,H3,I4,rw',q3⟩
end
section
variable {X:Cx} {pins:List (Addr×Obj)} {σ:St} {H:Hp} {s:Shared} {a:Addr} {kvs:List (Key×V)} {A:Around} {E:Value->Shared->Prop}
end
section
variable {X:Cx} {pins:List (Addr×Obj)} {σ:St} {H:Hp} {s:Shared} {a:Addr} {y:V} {u:Value} {A:Around} {E:Value->Shared->Prop}
end
end L2
namespace Att
open PySem PySem.W PySem.Calls PyProof.Rows
section
variable {prog:Program} {w:World} {A:Around} {E:Value->Shared->Prop} {s:Shared} {K:Frag}
end
end Att
namespace L2
open PySem PySem.Spec PyProof.Rows
end L2
namespace L2
open PySem PySem.Spec PyProof.Rows
end L2
namespace L2
open PySem PySem.Spec PyProof.Rows
section
variable {P:Program} {w:World} {K:PySem.W.Frag} {mg:Str->Option Value} {base:Heap}
end
section
variable {X:Cx}
end
section
variable {κ:Type} [DecidableEq κ]
end
end L2
namespace L2
open PySem PySem.Spec PyProof.Rows
section
variable {P:Program} {w:World} {H H':Hp} {h h':Heap} {a:Addr} {o:HO}
theorem ObjOk.there(x:ObjOk P w H h a o):∃ ob,h.get? a=some ob:=by
 cases o with
 | lst xs=>obtain⟨_,_,_,_,e⟩:=x;exact⟨_,e⟩
 | tup xs=>obtain⟨_,_,_,ob,e,_⟩:=x;exact⟨_,e⟩
 | dK kvs=>obtain⟨_,_,_,_,o,_,_,e,_⟩:=x;exact⟨_,e⟩
 | dT kvs=>obtain⟨_,_,_,_,o,_,_,e,_⟩:=x;exact⟨_,e⟩
 | set S n=>obtain⟨o,_,_,_,e,_⟩:=x;exact⟨_,e⟩
 | ins C dx fs=>obtain⟨_,_,_,e,_⟩:=x;exact⟨_,e⟩
 | own y=>exact x
 | xd fs=>obtain⟨_,⟨_,_,_,e,_⟩,_⟩:=x;exact⟨_,e⟩
 | rng lo hi=>obtain⟨_,_,_,e⟩:=x;exact⟨_,e⟩
 | frz ob u=>obtain⟨e,_⟩:=x;exact⟨_,e⟩
 | tbl ps=>exact⟨_,(show h.get? a=some _ from x)⟩
 | met f y=>exact⟨_,(show h.get? a=some _ from x)⟩
 | ext φ=>exact x.2.1
theorem HOk.none_of(x:HOk P w H h)(e:h.get? a=none):H a=none:=by
  cases q:H a with
  | none=>rfl
  | some u =>
    obtain⟨ob,r⟩:=(x a u q).there
    rw[e] at r;cases r
theorem HOk.part{B:Heap}(x:HOk P w H h)(k:∀ b u ob,H b=some u->h.get? b=some ob->B.get? b=some ob):HOk P w H B:=fun b u e=>by
 refine(x b u e).stay (fun c v hc q=>?_) (fun _ q=>q) fun _ _ q=>q
 rcases hc with rfl | hc
 ·exact k _ _ _ e q
 ·exact k _ _ _ hc q
end
section
variable {fs fs' ex:List Addr} {H H':Hp} {h h1 h2 B:Heap}
theorem Un.fly(U:Un fs [] H H' h h1)(kB:∀ b o,h.get? b=some o->H b=none->b∉fs->B.get? b=some o)(tB:∀ b o,h.get? b=some o->b∉fs->∃ o',B.get? b=some o')(st:B.StaysIn h2)
  (nf:∀ b∈fs,∀ o,h1.get? b=some o->∀ vs,o.data≠.fields vs) (up:h1.UpToSlots h2):Un fs [] H H' h h2 where
 keep:=fun b o q n hb _=>st b o (kB b o q n hb)
 slot:=fun b o q n hb hx=>by
  obtain⟨sl,e⟩:=U.slot b o q n hb hx
  obtain⟨sl',e'⟩:=up b _ e (nf b hb _ e)
  exact⟨sl',e'⟩
 free:=U.free
 there:=fun b o q hx=>by
  by_cases hb:b∈fs
  ·obtain⟨o',e⟩:=U.there b o q hx
   obtain⟨sl,e'⟩:=up b _ e (nf b hb _ e)
   exact⟨_,e'⟩
  ·obtain⟨o',e⟩:=tB b o q hb
   exact⟨o',st b o' e⟩
 tups:=U.tups
 frzs:=U.frzs
 tbls:=U.tbls
theorem Un.restrict(U:Un fs' ex H H' h h1)(hs:∀ b o,b∈fs'->h.get? b=some o->b∈fs):Un fs ex H H' h h1 where
 keep:=fun b o q n hb hx=>U.keep b o q n (fun z=>hb (hs b o z q)) hx
 slot:=fun b o q n _ hx=>U.any q n hx
 free:=U.free
 there:=U.there
 tups:=U.tups
 frzs:=U.frzs
 tbls:=U.tbls
end
structure Fly (P:Program) (w:World) (outer:List Env) (H:Hp) (s:Shared) (H':Hp) (ea:Addr) (cls:Value) (s':Shared):Prop where
 os:s'.os=s.os
 bare:AllBare s'.gens
 un:Un (frs outer) [] H H' s.heap s'.heap
 fly:∃ B a0,Heap.FlyingW B outer ea cls a0 s'.heap/\HOk P w H' B/\(∀ b o,s.heap.get? b=some o->H b=none->b∉frs outer->B.get? b=some o)/\(∀ b o,s.heap.get? b=some o->b∉frs outer->∃ o',B.get? b=some o')
 fresh:s.heap.get? ea=none
def CX1(P:Program)(w:World):CXT:=fun outer H s E e s'=>∃ ea cls H',e=.ref ea/\Fly P w outer H s H' ea cls s'/\H' ea=none/\E cls none H'
theorem pass1{P:Program}{w:World}{X:Cx}:Passes (CX1 P w) X E0:=fun _ _ _ _ _ _ _ h=>by obtain⟨_,_,_,_,_,_,z⟩:=h;exact z.elim
theorem nofld{B h:Heap}{l:List Env}(f:h.FunFrames B l):∀ b∈frs l,∀ o,h.get? b=some o->∀ vs,o.data≠.fields vs:=fun b hb o e=>by
 obtain⟨_,o',e',hd⟩:=f.mem hb
 rw[e] at e';cases e'
 exact hd
section
variable {P:Program} {w:World} {K:PySem.W.Frag} {mg:Str->Option Value} {base:Heap} {N:List Str} {qual:Str} {scope:Scope} {f:Addr} {cd:Value} {A:Around} {outer:List Env} {s:Shared} {H:Hp} {E:XK}
theorem frs_cons{env:Env}{L:Addr}(hf:env.frame=some L):frs (env::outer)=L::frs outer:=by
 unfold frs;rw[List.filterMap_cons,hf]
theorem pass_body:Passes (CX1 P w) (cxOf (CX1 P w) P w K mg base N qual scope f cd A outer s H E) E:=by
  intro pins σ H1 s1 e s' I h
  obtain⟨ea,cls,H',rfl,Fl,hn,hE⟩:=h
  obtain⟨B,a0,fl,hokB,kB,tB⟩:=Fl.fly
  have hfr:frs (cxOf (CX1 P w) P w K mg base N qual scope f cd A outer s H E).stack=s.heap.objs.size::frs outer:=frs_cons rfl
  have nL:∀ b o,s.heap.get? b=some o->b≠s.heap.objs.size:=fun b o q=>Nat.ne_of_lt (Heap.lt_size q)
  have nin:∀ b o,s.heap.get? b=some o->b∉frs outer->b∉frs (cxOf (CX1 P w) P w K mg base N qual scope f cd A outer s H E).stack:=fun b o q hb z=>by
    rw[hfr] at z
    rcases List.mem_cons.mp z with z | z
    · exact nL b o q z
    · exact hb z
  have noex:∀ b:Addr,b∉(cxOf (CX1 P w) P w K mg base N qual scope f cd A outer s H E).ex:=fun b z=>absurd (show b∈([]:List Addr) from z) (by simp)
  show wpAny _ _ (leaving _ (.ref ea)) _ _ _
  refine wpAny_leaves_onW I.ok.frames rfl fl fun h2 fl2 up=>?_
  refine⟨ea,cls,H',rfl,⟨Fl.os.trans I.os,Fl.bare,?_,⟨B,a0,fl2,hokB,fun b o q n hb=>?_,fun b o q hb=>?_⟩,?_⟩,hn,hE⟩
  · have U1:=Un.fly Fl.un kB tB fl2.1 (nofld fl.2.2.1) up
    have U0:Un (frs (cxOf (CX1 P w) P w K mg base N qual scope f cd A outer s H E).stack) [] H H1 s.heap s1.heap:=I.base.mono (fun b hb=>by rw[hfr];exact List.mem_cons_of_mem _ hb) (fun b hb=>hb)
    exact(U0.trans U1).restrict fun b o hb q=>by
      rw[hfr] at hb
      rcases List.mem_cons.mp hb with z | z
      · exact absurd z (nL b o q)
      · exact z
  · exact kB b o (I.base.keep b o q n hb (noex b)) (I.base.free b o q n (noex b)) (nin b o q hb)
  · obtain⟨o1,q1⟩:=I.base.there b o q (noex b)
    exact tB b o1 q1 (nin b o q hb)
  · cases q:s.heap.get? ea with
    | none=>rfl
    | some o =>
      obtain⟨o1,q1⟩:=I.base.there ea o q (noex ea)
      rw[Fl.fresh] at q1;cases q1
theorem raise_body{pins:List (Addr×Obj)}{σ:St}{H1:Hp}{s1:Shared}{C e:Addr}{h':Heap}{args:List Value}(I:Inv (cxOf (CX1 P w) P w K mg base N qual scope f cd A outer s H E) pins σ H1 s1)(hx:Heap.MadeExcOf s1.heap h' e (.ref C) args)(hE:E (.ref C) none H1) :
    (cxOf (CX1 P w) P w K mg base N qual scope f cd A outer s H E).xe (.ref e) { s1 with heap:=h' }:=by
  have hfr:frs (cxOf (CX1 P w) P w K mg base N qual scope f cd A outer s H E).stack=s.heap.objs.size::frs outer:=frs_cons rfl
  have nL:∀ b o,s.heap.get? b=some o->b≠s.heap.objs.size:=fun b o q=>Nat.ne_of_lt (Heap.lt_size q)
  have nin:∀ b o,s.heap.get? b=some o->b∉frs outer->b∉frs (cxOf (CX1 P w) P w K mg base N qual scope f cd A outer s H E).stack:=fun b o q hb z=>by
    rw[hfr] at z
    rcases List.mem_cons.mp z with z | z
    · exact nL b o q z
    · exact hb z
  have noex:∀ b:Addr,b∉(cxOf (CX1 P w) P w K mg base N qual scope f cd A outer s H E).ex:=fun b z=>absurd (show b∈([]:List Addr) from z) (by simp)
  have hin:∀ env∈(cxOf (CX1 P w) P w K mg base N qual scope f cd A outer s H E).stack,∀ b,env.frame=some b->b∈frs (cxOf (CX1 P w) P w K mg base N qual scope f cd A outer s H E).stack:=fun env he b hb=>List.mem_filterMap.mpr ⟨env,he,hb⟩
  show wpAny _ _ (leaving _ (.ref e)) _ _ _
  have kB:∀ b o,s1.heap.get? b=some o->b∉frs (cxOf (CX1 P w) P w K mg base N qual scope f cd A outer s H E).stack->(PySem.W.hideAll s1.heap (frs (cxOf (CX1 P w) P w K mg base N qual scope f cd A outer s H E).stack)).get? b=some o:=fun b o q hb=>PySem.W.hideAll_get _ q hb
  refine wpAny_leaves_madeW I.ok.frames rfl (fun b o q=>PySem.W.of_hideAll _ q) (PySem.W.funFrames_hide I.stack hin) hx fun h2 t x1 x2 x3 x4=>?_
  have up:s1.heap.UpToSlots h2:=(Heap.UpToSlots.of_keeps hx.keeps).trans x4
  have hok:HOk P w H1 (PySem.W.hideAll s1.heap (frs (cxOf (CX1 P w) P w K mg base N qual scope f cd A outer s H E).stack)):=HOk.part I.hok fun b u ob hu q=>kB b ob q fun z=>by
    rw[I.stkFree b z] at hu;cases hu
  have hn:H1 e=none:=HOk.none_of I.hok hx.new
  refine⟨e,.ref C,H1,rfl,⟨I.os,I.bare,?_,⟨_,_,x1,hok,fun b o q n hb=>?_,fun b o q hb=>?_⟩,?_⟩,hn,hE⟩
  · have U1:Un (frs (cxOf (CX1 P w) P w K mg base N qual scope f cd A outer s H E).stack) [] H1 H1 s1.heap h2:=Un.fly Un.refl (fun b o q _ hb=>kB b o q hb) (fun b o q hb=>⟨o,kB b o q hb⟩) x1.1 (nofld I.stack) up
    have U0:Un (frs (cxOf (CX1 P w) P w K mg base N qual scope f cd A outer s H E).stack) [] H H1 s.heap s1.heap:=I.base.mono (fun b hb=>by rw[hfr];exact List.mem_cons_of_mem _ hb) (fun b hb=>hb)
    exact(U0.trans U1).restrict fun b o hb q=>by
      rw[hfr] at hb
      rcases List.mem_cons.mp hb with z | z
      · exact absurd z (nL b o q)
      · exact z
  · exact kB b o (I.base.keep b o q n hb (noex b)) (nin b o q hb)
  · obtain⟨o1,q1⟩:=I.base.there b o q (noex b)
    exact⟨o1,kB b o1 q1 (nin b o q hb)⟩
  · cases q:s.heap.get? e with
    | none=>rfl
    | some o =>
      obtain⟨o1,q1⟩:=I.base.there e o q (noex e)
      have:=hx.new
      rw[this] at q1;cases q1
end
def nsOk(K:PySem.W.Frag)(N:Addr):Bool:=match K.lookup N with
 | some ⟨_,_,.dict es _,_⟩=>es.toList.all (fun e=>match e.key with | .str _ _=>true | _=>false)&&(PySem.W.nsIn K N "__init__"==some none)
 | _=>false
def xIn(K:PySem.W.Frag)(C M:Addr):Bool:=match K.lookup C,K.lookup M with
  | some ⟨.type "type", _, .cls cd, sl⟩, some ⟨_, _, .cls cdM, _⟩ =>
    (match sl.toList with | [_,_,_,_,some (.builtin n),_]=>n=="ValueError.__new__" | _=>false)&&cd.mro==[.ref C,.ref M,.type "ValueError",.type "Exception",.type "BaseException",.type "object"] && !cd.hasDel&&nsOk K cd.ns&&nsOk K cdM.ns
  | _,_=>false
theorem nsOk_ok{K:PySem.W.Frag}{N:Addr}(e:nsOk K N=true):∃ mN:Str->Option Value,mN "__init__"=none/\∀ h:Heap,K.In h->h.Ns N mN:=by
 unfold nsOk at e
 split at e
 ·rename_i c d es n sl ho
  rw[Bool.and_eq_true] at e
  refine⟨nsFind es,?_,fun h X=>⟨_,es,n,X _ _ ho,rfl,fun en hen=>?_,fun _=>rfl⟩⟩
  ·have e2:PySem.W.nsIn K N "__init__"=some none:=by simpa using e.2
   unfold PySem.W.nsIn at e2
   rw[ho] at e2
   simp only at e2
   unfold nsFind findBy
   rw[<- Array.find?_toList]
   split at e2
   ·cases e2
   ·rename_i q
    rw[q];rfl
  ·have:=List.all_eq_true.mp e.1 en (by simpa using hen)
   split at this
   ·rename_i x t hk;exact⟨x,t,hk⟩
   ·cases this
 ·cases e
theorem xIn_ok{K:PySem.W.Frag}{C M:Addr}(e:xIn K C M=true):∃ nm q N bs hdct sn sub ab col dd k0 k1 k2 k3 k5 mN,mN "__init__"=none/\∀ h:Heap,K.In h ->
  h.get? C=some (excClassObj nm q C N bs [.ref M,.type "ValueError",.type "Exception",.type "BaseException",.type "object"] hdct sn sub ab col dd k0 k1 k2 k3 k5 "ValueError.__new__")/\h.Ns N mN /\
   OwnTail h [.type "ValueError",.type "Exception",.type "BaseException",.type "object"] [.ref M,.type "ValueError",.type "Exception",.type "BaseException",.type "object"]:=by
 unfold xIn at e
 split at e
 ·rename_i dd cd sl cM dM cdM slM hC hM
  simp only[Bool.and_eq_true,Bool.not_eq_true'] at e
  obtain⟨⟨⟨⟨e1,e2⟩,e3⟩,e4⟩,e5⟩:=e
  split at e1
  ·rename_i k0 k1 k2 k3 n k5 hs
   have en:n="ValueError.__new__":=by simpa using e1
   subst en
   have hsl:sl = #[k0,k1,k2,k3,some (.builtin "ValueError.__new__"),k5]:=by
    obtain⟨l⟩:=sl
    simp only at hs
    rw[hs]
   have em:cd.mro=[.ref C,.ref M,.type "ValueError",.type "Exception",.type "BaseException",.type "object"]:=by simpa using e2
   obtain⟨nm,bs,mro,ns,qn,hd,sn,sub,ab,col,del⟩:=cd
   simp only at em e3 e4
   subst em e3 hsl
   obtain⟨mN,n2,n1⟩:=nsOk_ok e4
   obtain⟨mM,m2,m1⟩:=nsOk_ok e5
   exact⟨_,_,_,_,_,_,_,_,_,_,_,_,_,_,_,mN,n2,fun h X=>⟨X _ _ hC,n1 h X,.own (X _ _ hM) (m1 h X) m2 .base⟩⟩
  ·cases e1
 ·cases e
section
variable {X:Cx}
theorem raise_ok{x:Str}{C M:Addr}{np cpos pos:Pos}{txt:Str}{j:Nat}{p1:Pos}{Q:Flow->Shared->Prop}{pins:List (Addr×Obj)}{σ:St}{H:Hp}{s:Shared}(I:Inv X pins σ H s)(hc:X.A.handled=none)(hg:Gl X x)(hm:X.mg x=some (.ref C))(hd:(x==("__debug__":Str))=false)(hx:xIn X.K C M=true)
  (k:∀ (s2:Shared) (h':Heap) (e:Addr) (args:List Value),Inv X pins σ H s2->Heap.MadeExcOf s2.heap h' e (.ref C) args->X.xe (.ref e) { s2 with heap:=h' }) :
  wpAny (model X.prog X.w) X.A (exec (.Raise (some (.Call (.Name x np) [.Constant (.str txt) j p1] [] cpos)) none pos) X.env) Q X.xe s:=by
 obtain⟨nm,q,N,bs,hdct,sn,sub,ab,col,dd,k0,k1,k2,k3,k5,mN,hni,fx⟩:=xIn_ok hx
 refine wpAny_Raise_call_subU (C:=C) (nm:=nm) (q:=q) (N:=N) (bs:=bs) (bm:=[.ref M,.type "ValueError",.type "Exception",.type "BaseException",.type "object"]) (hdct:=hdct) (sn:=sn) (sub:=sub) (ab:=ab) (col:=col) (dd:=dd) (k0:=k0) (k1:=k1) (k2:=k2) (k3:=k3) (k5:=k5)
  F.excBase_ValueError (by decide) F.excBase_ValueError (mN:=mN) ((fx _ I.kIn).2.2.hasType F.excBase_ValueError.hasBase) hc rfl hni (ld_glob I hg hm ⟨rfl,?_⟩ hd)
 have ha:PA X [.Constant (.str txt) j p1] (tCons (tC (.str txt)) tNil):=pa_cons pe_str pa_nil
 show wpAny _ _ (evalArgs (.ref C) true (backTo cpos ((false,eval (.Constant (.str txt) j p1) X.env)::starEach [] X.env)) []) _ _ _
 refine Calls.evalArgs_plain (wpAny_mono (ha cpos pins s σ H (fun vs H1=>vs.length<=1/\H1=H) I ⟨Nat.le_refl _,rfl⟩) (fun us s2 hq=>?_) fun _ _ y=>y)
 obtain⟨vs,H1,I1,r,q1,rfl⟩:=hq
 obtain⟨f1,f2,f3⟩:=fx _ I1.kIn
 have h1:(1:Nat)<=sizeLine:=by decide
 have h2:=r.length
 exact⟨rfl,(show us.length<=sizeLine by omega),f1,f2,f3,fun h' e hm'=>k s2 h' e us I1 hm'⟩
end
section
variable {X:Cx} {pins:List (Addr×Obj)} {σ:St} {H H':Hp} {s s':Shared} {e:Value} {xe:Value->Shared->Prop}
end
def isX(a:Addr)(cls:Value)(h:Heap):Prop:=∃ o,h.get? a=some o/\o.cls=cls/\∃ vs,o.data=.fields vs
section
variable {X:Cx} {pins:List (Addr×Obj)} {σ:St} {H H':Hp} {s s':Shared} {ea:Addr} {cls:Value}
end
def xAttr(K:PySem.W.Frag)(C:Addr):Bool :=
 PySem.W.findIn K (.ref C) "__getattribute__"==some (some (.builtin "BaseException.__getattribute__"))&&PySem.W.findIn K (.ref C) "__getattr__"==some none&&PySem.W.findIn K (.ref C) "__class__"==some (some (.builtin "object.__class__")) &&
  PySem.W.mroIn K C (.type "object")==some true&&PySem.W.mroIn K C (.type "BaseException")==some true&&(PySem.W.clsIn K C).isSome
section
open PySem.Builtin PySem.Builtin.ObjectAttr PySem.Builtin.Getset_descriptor
variable {prog:Program} {w:World} {A:Around} {E:Value->Shared->Prop} {K:PySem.W.Frag} {h:Heap} {g:Array GenState} {d:Drawn} {t:Nat} {os:OsState} {a C:Addr} {o:Obj}
theorem xty{M:Model}(hx:h.get? a=some o)(hc:o.cls=.ref C):PySem.W.Looks M h (typeOf (.ref a)) (.ref C):=hc▸(PySem.W.Looks.ld hx).andThen .now
theorem xclass_get{R:Result->Shared->Prop}(X:K.In h)(hx:h.get? a=some o)(hc:o.cls=.ref C)(hm:PySem.W.mroIn K C (.type "object")=some true)(hq:R (.ok (.ret (.ref C))) ⟨h,g,d,t,os⟩) :
  codeAny (model prog w) A (.call (.builtin "getset_descriptor.__get__") ⟨[.builtin "object.__class__",.ref a,.ref C],[]⟩) R ⟨h,g,d,t,os⟩:=by
 have hT5:(⟨h,g,d,t,os⟩:Shared).TypeIs (.builtin "object.__class__") "getset_descriptor":=F.typeOf_object_class
 have L0:=xty (M:=model prog w) hx hc
 have L1:=PySem.W.looks_mroIn (M:=model prog w) X hm
 refine codeAny_call_builtin PySem.W.KF.slot_gs.plain PySem.W.KF.entry_gs (PySem.W.KF.slot_gs.check _ _ _ _ _ _ _ _ PySem.W.KF.type_class (PySem.W.KF.args_gs _ _ _) ?_)
 unfold Builtin.«getset_descriptor.__get__» descrGet
 rw[PySem.W.dga_obj]
 refine wpAny_bind (wpAny_pure ?_)
 unfold descrGetter descrCheckInstance descrNameAndClass isInstance
 simp only[PySem.W.KF.owner_class]
 repeat lk
 refine⟨Code.quiet_builtin _ (by decide +kernel),codeAny_builtin PySem.W.KF.entry_class ?_⟩
 unfold Builtin.«object.__class__» shownTypeOf
 repeat lk
 exact hq
theorem xclass_entry{tk:Tok}{Q:Fin->Shared->Prop}(X:K.In h)(hx:h.get? a=some o)(hc:o.cls=.ref C)(hm:PySem.W.mroIn K C (.type "object")=some true)(hf:PySem.W.findIn K (.ref C) "__class__"=some (some (.builtin "object.__class__")))(hq:Q (.done (.ret (.ref C))) ⟨h,g,d,t,os⟩) :
  wpAny (model prog w) A (Builtin.«object.__getattribute__» ⟨[.ref a,.str "__class__" tk],[]⟩) Q E ⟨h,g,d,t,os⟩:=by
 have hT5:(⟨h,g,d,t,os⟩:Shared).TypeIs (.builtin "object.__class__") "getset_descriptor":=F.typeOf_object_class
 have f5:=F.typeOf_object_class
 have f6:=F.slot_gs_get.lookup
 have f7:=F.slot_gs_set.lookup
 have LF:=PySem.W.looks_findIn (M:=model prog w) X hf
 repeat (any_goals (first | assumption | (with_reducible refine wpAny_loadPart_at hx ?_;rw[hc]) | with_reducible refine LF.at ?_ | wp_step))
 refine xclass_get X hx hc hm ?_
 repeat (any_goals (first | assumption | wp_step))
theorem xclass_check{M:Model}{nameV:Value}{Q:Unit->Shared->Prop}(X:K.In h)(hx:h.get? a=some o)(hc:o.cls=.ref C)(hm:PySem.W.mroIn K C (.type "BaseException")=some true)(hq:Q () ⟨h,g,d,t,os⟩):wpAny M A (checkBuiltinCall "BaseException.__getattribute__" ⟨[.ref a,nameV],[]⟩) Q E ⟨h,g,d,t,os⟩:=by
 have hk:builtinKind "BaseException.__getattribute__"=some .slot:=by decide +kernel
 have hsplit:splitId "BaseException.__getattribute__"=some ("BaseException","__getattribute__"):=by decide +kernel
 have ha:=F.args_bexc_ga (.ref a) nameV
 have LM:=PySem.W.looks_mroIn (M:=M) X hm
 simp only[checkBuiltinCall,hk,hsplit]
 refine wpAny_bind ?_
 ·unfold isInstance
  repeat (first | (with_reducible refine wpAny_loadPart_at hx ?_;rw[hc]) | with_reducible refine LM.at ?_ | wp_step)
  exact hq
theorem xclass_by{tk:Tok}{fill expr:Bool}{Q:Value->Shared->Prop}(X:K.In h)(hx:h.get? a=some o)(hc:o.cls=.ref C)(hA:xAttr K C=true)(hq:Q (.ref C) ⟨h,g,d,t,os⟩) :
  wpAny (model prog w) A (getAttrBy (.ref a) (.str "__class__" tk) fill expr) Q E ⟨h,g,d,t,os⟩:=by
 unfold xAttr at hA
 simp only[Bool.and_eq_true,beq_iff_eq] at hA
 obtain⟨⟨⟨⟨⟨g1,g2⟩,g3⟩,g4⟩,g5⟩,g6⟩:=hA
 have f3:=F.excAttr_ValueError.ga.bind (.ref a)
 have hx0:(expr&&onTheHeap (Value.builtin "BaseException.__getattribute__"))=false:=by cases expr<;>rfl
 have hx2:(Value.builtin "BaseException.__getattribute__"==Value.builtin "object.__getattribute__")=false:=by decide +kernel
 have hx1:(onTheHeap (Value.ref C)&&Value.builtin "BaseException.__getattribute__"==Value.builtin "object.__getattribute__")=false:=by rw[hx2];rfl
 have L1:=PySem.W.looks_findIn (M:=model prog w) X g1
 have L2':=PySem.W.looks_findIn (M:=model prog w) X g2
 repeat (any_goals (first | assumption | (with_reducible refine wpAny_loadPart_at hx ?_;rw[hc]) | with_reducible refine L1.at ?_ | with_reducible refine L2'.at ?_ | wp_step))
 refine codeAny_call_builtin F.excAttr_ValueError.ga.plain F.entry_bexc_ga (xclass_check X hx hc g5 (xclass_entry X hx hc g4 g3 ?_))
 repeat (any_goals (first | assumption | wp_step))
theorem xclass{Q:Option Value->Shared->Prop}(X:K.In h)(hx:h.get? a=some o)(hc:o.cls=.ref C)(hA:xAttr K C=true)(hq:Q (some (.ref C)) ⟨h,g,d,t+1,os⟩) :
  wpAny (model prog w) A (getAttr? (.ref a) "__class__") Q E ⟨h,g,d,t,os⟩:=by
 unfold getAttr? getAttrBy?
 repeat (any_goals (first | assumption | with_reducible apply xclass_by X hx hc hA | wp_step))
end
theorem kitx_exc{K:PySem.W.Frag}{a C:Addr}(hA:xAttr K C=true):PySem.W.KitX K (.ref a) (.ref C) (isX a (.ref C)) where
 ty:=fun _ _ _ ⟨o,e,c,_⟩=>xty e c
 it:=fun _ _ X _=>by
  unfold xAttr at hA
  rw[Bool.and_eq_true] at hA
  obtain⟨cdD,hcD⟩:=Option.isSome_iff_exists.mp hA.2
  unfold PySem.W.clsIn at hcD
  split at hcD
  ·rename_i c' d' cd' sl' ho
   intro A' Q' E' s' k q
   unfold isType loadHead
   exact wpAny_bind (wpAny_loadPart (k _ _ (X _ _ ho)) (wpAny_pure q))
  ·cases hcD
 ne:=fun h tp dd its n sl X htp=>by
  unfold xAttr at hA
  rw[Bool.and_eq_true] at hA
  obtain⟨cdD,hcD⟩:=Option.isSome_iff_exists.mp hA.2
  refine Bool.eq_false_iff.mpr fun q=>?_
  have e:C=tp:=Value.ref.inj (beq_iff_eq.mp q)
  subst e
  unfold PySem.W.clsIn at hcD
  split at hcD
  ·rename_i c' d' cd' sl' ho
   have z:=(X _ _ ho).symm.trans htp
   cases z
  ·cases hcD
 ca:=fun {prog w A E Q s} X p k=>by
  obtain⟨h,g,d,t,os⟩:=s
  obtain⟨o,e,c,_⟩:=p
  exact xclass X e c hA k
section
variable {X:Cx} {pins:List (Addr×Obj)} {σ:St} {H H':Hp} {s s':Shared} {ea C:Addr}
end
end L2
namespace L2
open PySem PySem.Spec PyProof.Rows DE PySem.SeqAt
theorem Same.tup{K:PySem.W.Frag}{H H':Hp}{a:Addr}{xs:List V}(e:Same H H')(h:SqT K H a xs):SqT K H' a xs:=by
 rcases h with(h | ⟨o,h⟩) | h
 ·exact .inl (.inl (e _ _ h))
 ·exact .inl (.inr ⟨o,e _ _ h⟩)
 ·exact .inr h
mutual
def Rep(K:PySem.W.Frag)(H:Hp):D->V->Prop
 | .non,v=>v=.non
 | .bl b,v=>v=.bl b
 | .int i,v=>v=.int i
 | .str x,v=>v=.str x
 | .tup ds,v=>∃ a vs,v=.ref a/\SqT K H a vs/\RepL K H ds vs
 | .lst ds,v=>∃ a vs,v=.ref a/\SqL K H a vs/\RepL K H ds vs
 | .exc c,v=>∃ a C,v=.ref a/\PySem.W.nsIn K mainGlobals c=some (some (.ref C))/\H a=some (.ext (isX a (.ref C)))
 | .dic ks ds,v=>∃ (a:Addr) (kvs:List (Key×V)),v=.ref a/\Rd H a (.dK kvs)/\kvs.map (·.1)=ks/\RepL K H ds (kvs.map (·.2))
def RepL(K:PySem.W.Frag)(H:Hp):List D->List V->Prop
 | [],vs=>vs=[]
 | d::ds,vs=>∃ v r,vs=v::r/\Rep K H d v/\RepL K H ds r
end
mutual
theorem Rep.same{K:PySem.W.Frag}{H H':Hp}(e:Same H H'):∀ (d:D) (v:V),Rep K H d v->Rep K H' d v
  | .non,v,h=>by simpa[Rep] using h
  | .bl b,v,h=>by simpa[Rep] using h
  | .int i,v,h=>by simpa[Rep] using h
  | .str x,v,h=>by simpa[Rep] using h
  | .tup ds, v, h => by
    simp only[Rep] at h ⊢
    obtain⟨a,vs,h1,h2,h3⟩:=h
    exact⟨a,vs,h1,e.tup h2,RepL.same e ds vs h3⟩
  | .lst ds, v, h => by
    simp only[Rep] at h ⊢
    obtain⟨a,vs,h1,h2,h3⟩:=h
    exact⟨a,vs,h1,e.seq h2,RepL.same e ds vs h3⟩
  | .exc c, v, h => by
    simp only[Rep] at h ⊢
    obtain⟨a,C,h1,h2,h3⟩:=h
    exact⟨a,C,h1,h2,e _ _ h3⟩
  | .dic ks ds, v, h => by
    simp only[Rep] at h ⊢
    obtain⟨a,kvs,h1,h2,h3,h4⟩:=h
    refine⟨a,kvs,h1,?_,h3,RepL.same e ds _ h4⟩
    rcases h2 with h2 | ⟨o,h2⟩
    · exact .inl (e _ _ h2)
    · exact .inr ⟨o,e _ _ h2⟩
theorem RepL.same{K:PySem.W.Frag}{H H':Hp}(e:Same H H'):∀ (ds:List D) (vs:List V),RepL K H ds vs->RepL K H' ds vs
  | [],vs,h=>by simpa[RepL] using h
  | d :: ds, vs, h => by
    simp only[RepL] at h ⊢
    obtain⟨v,r,h1,h2,h3⟩:=h
    exact⟨v,r,h1,Rep.same e d v h2,RepL.same e ds r h3⟩
end
theorem RepL.length{K:PySem.W.Frag}{H:Hp}:∀ {ds:List D} {vs:List V},RepL K H ds vs->ds.length=vs.length
  | [],vs,h=>by simp only[RepL] at h;subst h;rfl
  | d :: ds, vs, h => by
    simp only[RepL] at h
    obtain⟨v,r,rfl,_,h3⟩:=h
    simp[h3.length]
theorem RepL.nil{K:PySem.W.Frag}{H:Hp}:RepL K H [] []:=by simp[RepL]
theorem RepL.cons{K:PySem.W.Frag}{H:Hp}{d:D}{ds:List D}{v:V}{vs:List V}(h:Rep K H d v)(r:RepL K H ds vs):RepL K H (d::ds) (v::vs):=by
 simp only[RepL];exact⟨v,vs,rfl,h,r⟩
theorem RepL.append{K:PySem.W.Frag}{H:Hp}:∀ {ds es:List D} {vs us:List V},RepL K H ds vs->RepL K H es us->RepL K H (ds++es) (vs++us)
  | [],es,vs,us,h,h'=>by simp only[RepL] at h;subst h;exact h'
  | d :: ds, es, vs, us, h, h' => by
    simp only[RepL] at h
    obtain⟨v,r,rfl,h2,h3⟩:=h
    exact .cons h2 (h3.append h')
theorem RepL.get{K:PySem.W.Frag}{H:Hp}:∀ {ds:List D} {vs:List V} {i:Nat} {d:D},RepL K H ds vs->ds[i]?=some d->∃ v,vs[i]?=some v/\Rep K H d v
  | [],vs,i,d,_,e=>by simp at e
  | d' :: ds, vs, 0, d, h, e => by
    simp only[RepL] at h
    obtain⟨v,r,rfl,h2,h3⟩:=h
    simp at e;subst e
    exact⟨v,rfl,h2⟩
  | d' :: ds, vs, i + 1, d, h, e => by
    simp only[RepL] at h
    obtain⟨v,r,rfl,h2,h3⟩:=h
    obtain⟨u,e1,e2⟩:=h3.get (i:=i) (d:=d) (by simpa using e)
    exact⟨u,by simpa using e1,e2⟩
theorem RepL.take{K:PySem.W.Frag}{H:Hp}:∀ (n:Nat) {ds:List D} {vs:List V},RepL K H ds vs->RepL K H (ds.take n) (vs.take n)
  | 0,_,_,_=>by simpa using RepL.nil
  | n+1,[],vs,h=>by simp only[RepL] at h;subst h;simpa using RepL.nil
  | n + 1, d :: ds, vs, h => by
    simp only[RepL] at h
    obtain⟨v,r,rfl,h2,h3⟩:=h
    simpa using RepL.cons h2 (h3.take n)
theorem RepL.drop{K:PySem.W.Frag}{H:Hp}:∀ (n:Nat) {ds:List D} {vs:List V},RepL K H ds vs->RepL K H (ds.drop n) (vs.drop n)
  | 0,_,_,h=>by simpa using h
  | n+1,[],vs,h=>by simp only[RepL] at h;subst h;simpa using RepL.nil
  | n + 1, d :: ds, vs, h => by
    simp only[RepL] at h
    obtain⟨v,r,rfl,h2,h3⟩:=h
    simpa using h3.drop n
theorem RepL.reverse{K:PySem.W.Frag}{H:Hp}:∀ {ds:List D} {vs:List V},RepL K H ds vs->RepL K H ds.reverse vs.reverse
  | [],vs,h=>by simp only[RepL] at h;subst h;simpa using RepL.nil
  | d :: ds, vs, h => by
    simp only[RepL] at h
    obtain⟨v,r,rfl,h2,h3⟩:=h
    simpa using h3.reverse.append (.cons h2 .nil)
structure Ext (Hs H Hs' H':Hp):Prop where
 vis:Same Hs Hs'
 all:Same H H'
 sub:Same Hs' H'
 hid:∀ b o,H b=some o->Hs b=none->Hs' b=none
theorem Ext.refl{Hs H:Hp}(h:Same Hs H):Ext Hs H Hs H:=⟨.refl _,.refl _,h,fun _ _ _ h=>h⟩
theorem Ext.trans{Hs H Hs1 H1 Hs2 H2:Hp}(a:Ext Hs H Hs1 H1)(b:Ext Hs1 H1 Hs2 H2):Ext Hs H Hs2 H2 :=
 ⟨a.vis.trans b.vis,a.all.trans b.all,b.sub,fun c o h1 h2=>b.hid c o (a.all c o h1) (a.hid c o h1 h2)⟩
theorem Ext.new{Hs H:Hp}(h:Same Hs H){p:Addr}(o:HO)(hp:H p=none):Ext Hs H (upd Hs p o) (upd H p o) where
 vis:=fun b u e=>by rw[upd_ne (ne_of_none (h b u e) hp)];exact e
 all:=fun b u e=>by rw[upd_ne (ne_of_none e hp)];exact e
 sub:=fun b u e=>by
  by_cases hb:b=p
  ·subst hb;rw[upd_same] at e ⊢;exact e
  ·rw[upd_ne hb] at e ⊢;exact h b u e
 hid:=fun b u e n=>by rw[upd_ne (ne_of_none e hp)];exact n
theorem isT{X:Cx}{pins:List (Addr×Obj)}{σ:St}{H:Hp}{s:Shared}{a:Addr}{vs:List V}(I:Inv X pins σ H s)(h:SqT X.K H a vs):∃ its:List Value,Vals vs its/\s.heap.IsTuple a its.toArray:=by
 obtain⟨its,r,p,_⟩:=I.tuple h
 exact⟨its,r,p⟩
theorem isL{X:Cx}{pins:List (Addr×Obj)}{σ:St}{H:Hp}{s:Shared}{a:Addr}{vs:List V}(I:Inv X pins σ H s)(h:SqL X.K H a vs):∃ its:List Value,Vals vs its/\s.heap.IsList a its.toArray:=by
 obtain⟨its,r,p,_⟩:=I.list h
 exact⟨its,r,p.isList⟩
mutual
theorem deq_refl:∀ d:D,dep d<1000->deq d d=true
 | .non,_=>rfl
 | .bl b,_=>by simp[deq]
 | .int i,_=>by simp[deq]
 | .str x,_=>by simp[deq]
 | .tup xs,h=>by simp only[deq];exact deqs_refl xs (by simp only[dep] at h;omega)
 | .lst xs,h=>by simp only[deq];exact deqs_refl xs (by simp only[dep] at h;omega)
 | .exc c,h=>absurd h (by simp[dep])
 | .dic _ _,h=>absurd h (by simp[dep])
theorem deqs_refl:∀ ds:List D,deps ds<1000->deqs ds ds=true
  | [],_=>rfl
  | d :: ds, h => by
    simp only[deps] at h
    simp only[deqs,deq_refl d (by omega),deqs_refl ds (by omega),Bool.and_self]
end
theorem deqs_all:∀ {xs ys:List D} {e:Nat->Bool},(∀ (j:Nat) (x y:D),xs[j]?=some x->ys[j]?=some y->e j=deq x y)->((List.range (min xs.length ys.length)).all e&&xs.length==ys.length)=deqs xs ys
  | [],[],_,_=>rfl
  | [],y::ys,_,_=>by simp[deqs]
  | x::xs,[],_,_=>by simp[deqs]
  | x :: xs, y :: ys, e, h => by
    have ih:=deqs_all (xs:=xs) (ys:=ys) (e:=fun j=>e (j+1)) fun j a b e1 e2=>h (j+1) a b (by simpa using e1) (by simpa using e2)
    have h0:=h 0 x y rfl rfl
    simp only[deqs,<- ih,<- h0,List.length_cons]
    rw[show min (xs.length+1) (ys.length+1)=min xs.length ys.length+1 by omega,List.range_succ_eq_map,List.all_cons,List.all_map]
    rw[Bool.and_assoc]
    congr 1
    congr 1
    simp
section
variable {X:Cx} {pins:List (Addr×Obj)} {σ:St} {H:Hp} {s:Shared}
mutual
theorem Rep.inj(I:Inv X pins σ H s):∀ (d d':D) (v:V),dep d<1000->dep d'<1000->Rep X.K H d v->Rep X.K H d' v->d=d'
  | .non,d',v,z,z',h,h'=>by simp only[Rep] at h;subst h;cases d'<;>simp[Rep] at h' ⊢
  | .bl b,d',v,z,z',h,h'=>by simp only[Rep] at h;subst h;cases d'<;>simp[Rep] at h' ⊢;exact h'
  | .int b,d',v,z,z',h,h'=>by simp only[Rep] at h;subst h;cases d'<;>simp[Rep] at h' ⊢;exact h'
  | .str b,d',v,z,z',h,h'=>by simp only[Rep] at h;subst h;cases d'<;>simp[Rep] at h' ⊢;exact h'
  | .tup ds, d', v, z, z', h, h' => by
    simp only[Rep] at h
    obtain⟨a,vs,rfl,h2,h3⟩:=h
    cases d' with
    | tup es =>
      simp only[Rep] at h'
      obtain⟨a',vs',e,h2',h3'⟩:=h'
      cases e
      have:=I.tuple_inj h2 h2'
      subst this
      rw[RepL.inj I ds es vs (by simp only[dep] at z;omega) (by simp only[dep] at z';omega) h3 h3']
    | lst es =>
      simp only[Rep] at h'
      obtain⟨a',vs',e,h2',h3'⟩:=h'
      cases e
      obtain⟨i1,_,p1⟩:=isT I h2
      obtain⟨i2,_,p2⟩:=isL I h2'
      exact absurd rfl (ne_of_list_tuple p2 p1)
    | non=>simp[Rep] at h'
    | bl _=>simp[Rep] at h'
    | int _=>simp[Rep] at h'
    | str _=>simp[Rep] at h'
    | exc _=>exact absurd z' (by simp[dep])
    | dic _ _=>exact absurd z' (by simp[dep])
  | .lst ds, d', v, z, z', h, h' => by
    simp only[Rep] at h
    obtain⟨a,vs,rfl,h2,h3⟩:=h
    cases d' with
    | lst es =>
      simp only[Rep] at h'
      obtain⟨a',vs',e,h2',h3'⟩:=h'
      cases e
      have:=I.list_inj h2 h2'
      subst this
      rw[RepL.inj I ds es vs (by simp only[dep] at z;omega) (by simp only[dep] at z';omega) h3 h3']
    | tup es =>
      simp only[Rep] at h'
      obtain⟨a',vs',e,h2',h3'⟩:=h'
      cases e
      obtain⟨i1,_,p1⟩:=isL I h2
      obtain⟨i2,_,p2⟩:=isT I h2'
      exact absurd rfl (ne_of_list_tuple p1 p2)
    | non=>simp[Rep] at h'
    | bl _=>simp[Rep] at h'
    | int _=>simp[Rep] at h'
    | str _=>simp[Rep] at h'
    | exc _=>exact absurd z' (by simp[dep])
    | dic _ _=>exact absurd z' (by simp[dep])
  | .exc c,d',v,z,z',h,h'=>absurd z (by simp[dep])
  | .dic _ _,d',v,z,z',h,h'=>absurd z (by simp[dep])
theorem RepL.inj(I:Inv X pins σ H s):∀ (ds es:List D) (vs:List V),deps ds<1000->deps es<1000->RepL X.K H ds vs->RepL X.K H es vs->ds=es
  | [], es, vs, z, z', h, h' => by
    simp only[RepL] at h;subst h
    cases es with
    | nil=>rfl
    | cons e es=>simp[RepL] at h'
  | d :: ds, es, vs, z, z', h, h' => by
    simp only[RepL] at h
    obtain⟨v,r,rfl,h2,h3⟩:=h
    cases es with
    | nil=>simp[RepL] at h'
    | cons e es =>
      simp only[RepL] at h'
      obtain⟨v',r',e',h2',h3'⟩:=h'
      cases e'
      simp only[deps] at z z'
      rw[Rep.inj I d e v (by omega) (by omega) h2 h2',RepL.inj I ds es r (by omega) (by omega) h3 h3']
end
def eJ(ds es:List D)(j:Nat):Bool:=match ds[j]?,es[j]? with
 | some x,some y=>deq x y
 | _,_=>true
theorem eJ_all(ds es:List D):((List.range (min ds.length es.length)).all (eJ ds es)&&ds.length==es.length)=deqs ds es :=
 deqs_all fun j x y e1 e2=>by unfold eJ;rw[e1,e2]
theorem eJ_all'(ds es:List D)(h:ds.length=es.length):(List.range ds.length).all (eJ ds es)=deqs ds es:=by
 rw[<- eJ_all ds es,<- h];simp
theorem deqs_len:∀ {xs ys:List D},xs.length≠ys.length->deqs xs ys=false
  | [],[],h=>absurd rfl h
  | [],_::_,_=>rfl
  | _::_,[],_=>rfl
  | x :: xs, y :: ys, h => by
    simp only[deqs,deqs_len (xs:=xs) (ys:=ys) (by intro e;exact h (by simp[e])),Bool.and_false]
theorem unit_in1{A:Around}:A.in1.units=A.units+1:=rfl
mutual
theorem eqAt_of(I:Inv X pins σ H s):∀ (d d':D) (v v':V) (u u':Value) (A:Around),Rep X.K H d v->Rep X.K H d' v'->RelV v u->RelV v' u'->A.units+dep d<cLine->dep d<1000->dep d'<1000->EqAt A s u u' (deq d d')
  | .non, d', v, v', u, u', A, h, h', r, r', hu, z, z' => by
    simp only[Rep] at h;subst h;cases (show u=Value.none from r)
    have hu0:A.units<cLine:=Nat.lt_of_le_of_lt (Nat.le_add_right _ _) hu
    cases d' with
    | exc _=>exact absurd z' (by simp[dep])
    | dic _ _=>exact absurd z' (by simp[dep])
    | non=>simp only[Rep] at h';subst h';cases (show u'=Value.none from r');exact EqAt.same _
    | bl b=>simp only[Rep] at h';subst h';cases (show u'=Value.bool b from r');exact EqAt.none_bool b
    | int i=>simp only[Rep] at h';subst h';obtain⟨t,rfl⟩:=r';exact EqAt.none_int i t
    | str x=>simp only[Rep] at h';subst h';obtain⟨t,rfl⟩:=r';exact EqAt.none_str x t
    | tup es=>simp only[Rep] at h';obtain⟨a,vs,rfl,h2,h3⟩:=h';cases (show u'=Value.ref a from r');obtain⟨its,_,p⟩:=isT I h2;exact EqAt.none_tuple p hu0
    | lst es=>simp only[Rep] at h';obtain⟨a,vs,rfl,h2,h3⟩:=h';cases (show u'=Value.ref a from r');obtain⟨its,_,p⟩:=isL I h2;exact EqAt.none_list p hu0
  | .bl c, d', v, v', u, u', A, h, h', r, r', hu, z, z' => by
    simp only[Rep] at h;subst h;cases (show u=Value.bool c from r)
    have hu0:A.units<cLine:=Nat.lt_of_le_of_lt (Nat.le_add_right _ _) hu
    cases d' with
    | exc _=>exact absurd z' (by simp[dep])
    | dic _ _=>exact absurd z' (by simp[dep])
    | non=>simp only[Rep] at h';subst h';cases (show u'=Value.none from r');exact EqAt.bool_none c
    | bl b=>simp only[Rep] at h';subst h';cases (show u'=Value.bool b from r');exact EqAt.bool_bool c b
    | int i=>simp only[Rep] at h';subst h';obtain⟨t,rfl⟩:=r';exact EqAt.bool_int c i t
    | str x=>simp only[Rep] at h';subst h';obtain⟨t,rfl⟩:=r';exact EqAt.bool_str c x t
    | tup es=>simp only[Rep] at h';obtain⟨a,vs,rfl,h2,h3⟩:=h';cases (show u'=Value.ref a from r');obtain⟨its,_,p⟩:=isT I h2;exact EqAt.bool_tuple c p hu0
    | lst es=>simp only[Rep] at h';obtain⟨a,vs,rfl,h2,h3⟩:=h';cases (show u'=Value.ref a from r');obtain⟨its,_,p⟩:=isL I h2;exact EqAt.bool_list c p hu0
  | .int c, d', v, v', u, u', A, h, h', r, r', hu, z, z' => by
    simp only[Rep] at h;subst h;obtain⟨t0,rfl⟩:=r
    have hu0:A.units<cLine:=Nat.lt_of_le_of_lt (Nat.le_add_right _ _) hu
    cases d' with
    | exc _=>exact absurd z' (by simp[dep])
    | dic _ _=>exact absurd z' (by simp[dep])
    | non=>simp only[Rep] at h';subst h';cases (show u'=Value.none from r');exact EqAt.int_none c t0
    | bl b=>simp only[Rep] at h';subst h';cases (show u'=Value.bool b from r');exact EqAt.int_bool c t0 b
    | int i=>simp only[Rep] at h';subst h';obtain⟨t,rfl⟩:=r';exact EqAt.int_int c t0 i t
    | str x=>simp only[Rep] at h';subst h';obtain⟨t,rfl⟩:=r';exact EqAt.int_str c t0 x t
    | tup es=>simp only[Rep] at h';obtain⟨a,vs,rfl,h2,h3⟩:=h';cases (show u'=Value.ref a from r');obtain⟨its,_,p⟩:=isT I h2;exact EqAt.int_tuple c t0 p hu0
    | lst es=>simp only[Rep] at h';obtain⟨a,vs,rfl,h2,h3⟩:=h';cases (show u'=Value.ref a from r');obtain⟨its,_,p⟩:=isL I h2;exact EqAt.int_list c t0 p hu0
  | .str c, d', v, v', u, u', A, h, h', r, r', hu, z, z' => by
    simp only[Rep] at h;subst h;obtain⟨t0,rfl⟩:=r
    have hu0:A.units<cLine:=Nat.lt_of_le_of_lt (Nat.le_add_right _ _) hu
    cases d' with
    | exc _=>exact absurd z' (by simp[dep])
    | dic _ _=>exact absurd z' (by simp[dep])
    | non=>simp only[Rep] at h';subst h';cases (show u'=Value.none from r');exact EqAt.str_none c t0
    | bl b=>simp only[Rep] at h';subst h';cases (show u'=Value.bool b from r');exact EqAt.str_bool c t0 b
    | int i=>simp only[Rep] at h';subst h';obtain⟨t,rfl⟩:=r';exact EqAt.str_int c t0 i t
    | str x=>simp only[Rep] at h';subst h';obtain⟨t,rfl⟩:=r';exact EqAt.str_str c t0 x t
    | tup es=>simp only[Rep] at h';obtain⟨a,vs,rfl,h2,h3⟩:=h';cases (show u'=Value.ref a from r');obtain⟨its,_,p⟩:=isT I h2;exact EqAt.str_tuple c t0 p hu0
    | lst es=>simp only[Rep] at h';obtain⟨a,vs,rfl,h2,h3⟩:=h';cases (show u'=Value.ref a from r');obtain⟨its,_,p⟩:=isL I h2;exact EqAt.str_list c t0 p hu0
  | .tup ds, d', v, v', u, u', A, h, h', r, r', hu, z, z' => by
    have hh:=h
    simp only[Rep] at h;obtain⟨a,vs,rfl,h2,h3⟩:=h;cases (show u=Value.ref a from r);obtain⟨its,rv,p⟩:=isT I h2
    have hu0:A.units<cLine:=Nat.lt_of_le_of_lt (Nat.le_add_right _ _) hu
    have hu1:A.in1.units+deps ds<cLine:=by have:dep (.tup ds)=deps ds+1:=rfl;rw[unit_in1];omega
    cases d' with
    | exc _=>exact absurd z' (by simp[dep])
    | dic _ _=>exact absurd z' (by simp[dep])
    | non=>simp only[Rep] at h';subst h';cases (show u'=Value.none from r');exact EqAt.tuple_none p hu0
    | bl b=>simp only[Rep] at h';subst h';cases (show u'=Value.bool b from r');exact EqAt.tuple_bool b p hu0
    | int i=>simp only[Rep] at h';subst h';obtain⟨t,rfl⟩:=r';exact EqAt.tuple_int i t p hu0
    | str x=>simp only[Rep] at h';subst h';obtain⟨t,rfl⟩:=r';exact EqAt.tuple_str x t p hu0
    | tup es =>
      have hh':=h'
      simp only[Rep] at h';obtain⟨b,us,rfl,h2',h3'⟩:=h';cases (show u'=Value.ref b from r');obtain⟨its',rv',p'⟩:=isT I h2'
      by_cases hab:a=b
      · subst hab
        have:=Rep.inj I _ _ _ z z' hh hh'
        rw[<- this,deq_refl _ z]
        exact EqAt.same _
      · have q:=RcAt.tuples p p' hu0 (e:=eJ ds es) fun j g1 g2=>eqsAt_of I ds es vs us its its' A.in1 h3 h3' rv rv' hu1 (by simp only[dep] at z;omega) (by simp only[dep] at z';omega) j _ _ (by simp at g1 ⊢) (by simp at g2 ⊢)
        have l1:=h3.length;have l2:=rv.length;have l3:=h3'.length;have l4:=rv'.length
        rw[List.size_toArray,List.size_toArray,<- l2,<- l1,<- l4,<- l3,eJ_all] at q
        exact .of_refs hab q
    | lst es=>simp only[Rep] at h';obtain⟨a,vs,rfl,h2,h3⟩:=h';cases (show u'=Value.ref a from r');obtain⟨its,_,p'⟩:=isL I h2;exact EqAt.tuple_list p p' hu0
  | .lst ds, d', v, v', u, u', A, h, h', r, r', hu, z, z' => by
    have hh:=h
    simp only[Rep] at h;obtain⟨a,vs,rfl,h2,h3⟩:=h;cases (show u=Value.ref a from r);obtain⟨its,rv,p⟩:=isL I h2
    have hu0:A.units<cLine:=Nat.lt_of_le_of_lt (Nat.le_add_right _ _) hu
    have hu1:A.in1.units+deps ds<cLine:=by have:dep (.lst ds)=deps ds+1:=rfl;rw[unit_in1];omega
    cases d' with
    | exc _=>exact absurd z' (by simp[dep])
    | dic _ _=>exact absurd z' (by simp[dep])
    | non=>simp only[Rep] at h';subst h';cases (show u'=Value.none from r');exact EqAt.list_none p hu0
    | bl b=>simp only[Rep] at h';subst h';cases (show u'=Value.bool b from r');exact EqAt.list_bool b p hu0
    | int i=>simp only[Rep] at h';subst h';obtain⟨t,rfl⟩:=r';exact EqAt.list_int i t p hu0
    | str x=>simp only[Rep] at h';subst h';obtain⟨t,rfl⟩:=r';exact EqAt.list_str x t p hu0
    | lst es =>
      have hh':=h'
      simp only[Rep] at h';obtain⟨b,us,rfl,h2',h3'⟩:=h';cases (show u'=Value.ref b from r');obtain⟨its',rv',p'⟩:=isL I h2'
      have l1:=h3.length;have l2:=rv.length;have l3:=h3'.length;have l4:=rv'.length
      by_cases hab:a=b
      · subst hab
        have:=Rep.inj I _ _ _ z z' hh hh'
        rw[<- this,deq_refl _ z]
        exact EqAt.same _
      · by_cases hl:ds.length=es.length
        · have q:=RcAt.lists p p' (by simp;omega) hu0 (e:=eJ ds es) fun j g1 g2=>eqsAt_of I ds es vs us its its' A.in1 h3 h3' rv rv' hu1 (by simp only[dep] at z;omega) (by simp only[dep] at z';omega) j _ _ (by simp at g1 ⊢) (by simp at g2 ⊢)
          rw[List.size_toArray,<- l2,<- l1,eJ_all' _ _ hl] at q
          exact .of_refs hab q
        · have q:=RcAt.lists_lengths p p' (by simp;omega) hu0
          rw[show deq (.lst ds) (.lst es)=deqs ds es from rfl,deqs_len hl]
          exact .of_refs hab q
    | tup es=>simp only[Rep] at h';obtain⟨a,vs,rfl,h2,h3⟩:=h';cases (show u'=Value.ref a from r');obtain⟨its,_,p'⟩:=isT I h2;exact EqAt.list_tuple p p' hu0
  | .exc c,d',v,v',u,u',A,h,h',r,r',hu,z,z'=>absurd z (by simp[dep])
  | .dic _ _,d',v,v',u,u',A,h,h',r,r',hu,z,z'=>absurd z (by simp[dep])
theorem eqsAt_of(I:Inv X pins σ H s):∀ (ds es:List D) (vs us:List V) (its its':List Value) (A:Around),RepL X.K H ds vs->RepL X.K H es us->Vals vs its->Vals us its'->A.units+deps ds<cLine->deps ds<1000->deps es<1000 ->
    ∀ (j:Nat) (u u':Value),its[j]?=some u->its'[j]?=some u'->EqAt A s u u' (eJ ds es j)
  | [], es, vs, us, its, its', A, h, h', r, r', hu, z, z', j, u, u', e1, e2 => by
    simp only[RepL] at h;subst h;cases r;simp at e1
  | d :: ds, es, vs, us, its, its', A, h, h', r, r', hu, z, z', j, u, u', e1, e2 => by
    simp only[RepL] at h
    obtain⟨v,vr,rfl,h2,h3⟩:=h
    cases r with
    | cons r rr =>
      cases es with
      | nil=>simp only[RepL] at h';subst h';cases r';simp at e2
      | cons e es =>
        simp only[RepL] at h'
        obtain⟨v',vr',rfl,h2',h3'⟩:=h'
        cases r' with
        | cons r' rr' =>
          have hd:dep d<=deps (d::ds):=Nat.le_max_left _ _
          have hds:deps ds<=deps (d::ds):=Nat.le_max_right _ _
          cases j with
          | zero =>
            simp at e1 e2;subst e1 e2
            exact eqAt_of I d e v v' _ _ A h2 h2' r r' (by omega) (by simp only[deps] at z;omega) (by simp only[deps] at z';omega)
          | succ j =>
            have q:=eqsAt_of I ds es vr vr' _ _ A h3 h3' rr rr' (by omega) (by simp only[deps] at z;omega) (by simp only[deps] at z';omega) j u u' (by simpa using e1) (by simpa using e2)
            simpa[eJ] using q
end
theorem cmpEq_of(I:Inv X pins σ H s){d d':D}{v v':V}{u u':Value}(A:Around)(h:Rep X.K H d v)(h':Rep X.K H d' v')(r:RelV v u)(r':RelV v' u')(hu:A.units+dep d<cLine)(z:dep d<1000)(z':dep d'<1000):RcAt A s u u' (deq d d')/\RcNeAt A s u u' (!deq d d'):=by
  have hu0:A.units<cLine:=Nat.lt_of_le_of_lt (Nat.le_add_right _ _) hu
  cases d with
  | exc _=>exact absurd z (by simp[dep])
  | dic _ _=>exact absurd z (by simp[dep])
  | non =>
    simp only[Rep] at h;subst h;cases (show u=Value.none from r)
    cases d' with
    | exc _=>exact absurd z' (by simp[dep])
    | dic _ _=>exact absurd z' (by simp[dep])
    | non=>simp only[Rep] at h';subst h';cases (show u'=Value.none from r');exact⟨RcAt.none_none,RcNeAt.none_none⟩
    | bl b=>simp only[Rep] at h';subst h';cases (show u'=Value.bool b from r');exact⟨RcAt.none_bool b,RcNeAt.none_bool b⟩
    | int i=>simp only[Rep] at h';subst h';obtain⟨t,rfl⟩:=r';exact⟨RcAt.none_int i t,RcNeAt.none_int i t⟩
    | str x=>simp only[Rep] at h';subst h';obtain⟨t,rfl⟩:=r';exact⟨RcAt.none_str x t,RcNeAt.none_str x t⟩
    | tup es=>simp only[Rep] at h';obtain⟨a,vs,rfl,h2,h3⟩:=h';cases (show u'=Value.ref a from r');obtain⟨its,_,p⟩:=isT I h2;exact⟨RcAt.none_tuple p hu0,RcNeAt.none_tuple p hu0⟩
    | lst es=>simp only[Rep] at h';obtain⟨a,vs,rfl,h2,h3⟩:=h';cases (show u'=Value.ref a from r');obtain⟨its,_,p⟩:=isL I h2;exact⟨RcAt.none_list p hu0,RcNeAt.none_list p hu0⟩
  | bl c =>
    simp only[Rep] at h;subst h;cases (show u=Value.bool c from r)
    cases d' with
    | exc _=>exact absurd z' (by simp[dep])
    | dic _ _=>exact absurd z' (by simp[dep])
    | non=>simp only[Rep] at h';subst h';cases (show u'=Value.none from r');exact⟨RcAt.bool_none c,RcNeAt.bool_none c⟩
    | bl b=>simp only[Rep] at h';subst h';cases (show u'=Value.bool b from r');exact⟨RcAt.bool_bool c b,RcNeAt.bool_bool c b⟩
    | int i=>simp only[Rep] at h';subst h';obtain⟨t,rfl⟩:=r';exact⟨RcAt.bool_int c i t,RcNeAt.bool_int c i t⟩
    | str x=>simp only[Rep] at h';subst h';obtain⟨t,rfl⟩:=r';exact⟨RcAt.bool_str c x t,RcNeAt.bool_str c x t⟩
    | tup es=>simp only[Rep] at h';obtain⟨a,vs,rfl,h2,h3⟩:=h';cases (show u'=Value.ref a from r');obtain⟨its,_,p⟩:=isT I h2;exact⟨RcAt.bool_tuple c p hu0,RcNeAt.bool_tuple c p hu0⟩
    | lst es=>simp only[Rep] at h';obtain⟨a,vs,rfl,h2,h3⟩:=h';cases (show u'=Value.ref a from r');obtain⟨its,_,p⟩:=isL I h2;exact⟨RcAt.bool_list c p hu0,RcNeAt.bool_list c p hu0⟩
  | int c =>
    simp only[Rep] at h;subst h;obtain⟨t0,rfl⟩:=r
    cases d' with
    | exc _=>exact absurd z' (by simp[dep])
    | dic _ _=>exact absurd z' (by simp[dep])
    | non=>simp only[Rep] at h';subst h';cases (show u'=Value.none from r');exact⟨RcAt.int_none c t0,RcNeAt.int_none c t0⟩
    | bl b=>simp only[Rep] at h';subst h';cases (show u'=Value.bool b from r');exact⟨RcAt.int_bool c t0 b,RcNeAt.int_bool c t0 b⟩
    | int i=>simp only[Rep] at h';subst h';obtain⟨t,rfl⟩:=r';exact⟨RcAt.int_int c t0 i t,RcNeAt.int_int c t0 i t⟩
    | str x=>simp only[Rep] at h';subst h';obtain⟨t,rfl⟩:=r';exact⟨RcAt.int_str c t0 x t,RcNeAt.int_str c t0 x t⟩
    | tup es=>simp only[Rep] at h';obtain⟨a,vs,rfl,h2,h3⟩:=h';cases (show u'=Value.ref a from r');obtain⟨its,_,p⟩:=isT I h2;exact⟨RcAt.int_tuple c t0 p hu0,RcNeAt.int_tuple c t0 p hu0⟩
    | lst es=>simp only[Rep] at h';obtain⟨a,vs,rfl,h2,h3⟩:=h';cases (show u'=Value.ref a from r');obtain⟨its,_,p⟩:=isL I h2;exact⟨RcAt.int_list c t0 p hu0,RcNeAt.int_list c t0 p hu0⟩
  | str c =>
    simp only[Rep] at h;subst h;obtain⟨t0,rfl⟩:=r
    cases d' with
    | exc _=>exact absurd z' (by simp[dep])
    | dic _ _=>exact absurd z' (by simp[dep])
    | non=>simp only[Rep] at h';subst h';cases (show u'=Value.none from r');exact⟨RcAt.str_none c t0,RcNeAt.str_none c t0⟩
    | bl b=>simp only[Rep] at h';subst h';cases (show u'=Value.bool b from r');exact⟨RcAt.str_bool c t0 b,RcNeAt.str_bool c t0 b⟩
    | int i=>simp only[Rep] at h';subst h';obtain⟨t,rfl⟩:=r';exact⟨RcAt.str_int c t0 i t,RcNeAt.str_int c t0 i t⟩
    | str x=>simp only[Rep] at h';subst h';obtain⟨t,rfl⟩:=r';exact⟨RcAt.str_str c t0 x t,RcNeAt.str_str c t0 x t⟩
    | tup es=>simp only[Rep] at h';obtain⟨a,vs,rfl,h2,h3⟩:=h';cases (show u'=Value.ref a from r');obtain⟨its,_,p⟩:=isT I h2;exact⟨RcAt.str_tuple c t0 p hu0,RcNeAt.str_tuple c t0 p hu0⟩
    | lst es=>simp only[Rep] at h';obtain⟨a,vs,rfl,h2,h3⟩:=h';cases (show u'=Value.ref a from r');obtain⟨its,_,p⟩:=isL I h2;exact⟨RcAt.str_list c t0 p hu0,RcNeAt.str_list c t0 p hu0⟩
  | tup ds =>
    simp only[Rep] at h;obtain⟨a,vs,rfl,h2,h3⟩:=h;cases (show u=Value.ref a from r);obtain⟨its,rv,p⟩:=isT I h2
    have hu1:A.in1.units+deps ds<cLine:=by have:dep (.tup ds)=deps ds+1:=rfl;rw[unit_in1];omega
    cases d' with
    | exc _=>exact absurd z' (by simp[dep])
    | dic _ _=>exact absurd z' (by simp[dep])
    | non=>simp only[Rep] at h';subst h';cases (show u'=Value.none from r');exact⟨RcAt.tuple_none p hu0,RcNeAt.tuple_none p hu0⟩
    | bl b=>simp only[Rep] at h';subst h';cases (show u'=Value.bool b from r');exact⟨RcAt.tuple_bool b p hu0,RcNeAt.tuple_bool b p hu0⟩
    | int i=>simp only[Rep] at h';subst h';obtain⟨t,rfl⟩:=r';exact⟨RcAt.tuple_int i t p hu0,RcNeAt.tuple_int i t p hu0⟩
    | str x=>simp only[Rep] at h';subst h';obtain⟨t,rfl⟩:=r';exact⟨RcAt.tuple_str x t p hu0,RcNeAt.tuple_str x t p hu0⟩
    | tup es =>
      simp only[Rep] at h';obtain⟨b,us,rfl,h2',h3'⟩:=h';cases (show u'=Value.ref b from r');obtain⟨its',rv',p'⟩:=isT I h2'
      have l1:=h3.length;have l2:=rv.length;have l3:=h3'.length;have l4:=rv'.length
      have he:∀ j (g1:j<its.toArray.size) (g2:j<its'.toArray.size),EqAt A.in1 s its.toArray[j] its'.toArray[j] (eJ ds es j):=fun j g1 g2=>eqsAt_of I ds es vs us its its' A.in1 h3 h3' rv rv' hu1 (by simp only[dep] at z;omega) (by simp only[dep] at z';omega) j _ _ (by simp at g1 ⊢) (by simp at g2 ⊢)
      have q:=RcAt.tuples p p' hu0 he
      have q':=RcNeAt.tuples p p' hu0 he
      rw[List.size_toArray,List.size_toArray,<- l2,<- l1,<- l4,<- l3,eJ_all] at q q'
      exact⟨q,q'⟩
    | lst es=>simp only[Rep] at h';obtain⟨a,vs,rfl,h2,h3⟩:=h';cases (show u'=Value.ref a from r');obtain⟨its,_,p'⟩:=isL I h2;exact⟨RcAt.tuple_list p p' hu0,RcNeAt.tuple_list p p' hu0⟩
  | lst ds =>
    simp only[Rep] at h;obtain⟨a,vs,rfl,h2,h3⟩:=h;cases (show u=Value.ref a from r);obtain⟨its,rv,p⟩:=isL I h2
    have hu1:A.in1.units+deps ds<cLine:=by have:dep (.lst ds)=deps ds+1:=rfl;rw[unit_in1];omega
    cases d' with
    | exc _=>exact absurd z' (by simp[dep])
    | dic _ _=>exact absurd z' (by simp[dep])
    | non=>simp only[Rep] at h';subst h';cases (show u'=Value.none from r');exact⟨RcAt.list_none p hu0,RcNeAt.list_none p hu0⟩
    | bl b=>simp only[Rep] at h';subst h';cases (show u'=Value.bool b from r');exact⟨RcAt.list_bool b p hu0,RcNeAt.list_bool b p hu0⟩
    | int i=>simp only[Rep] at h';subst h';obtain⟨t,rfl⟩:=r';exact⟨RcAt.list_int i t p hu0,RcNeAt.list_int i t p hu0⟩
    | str x=>simp only[Rep] at h';subst h';obtain⟨t,rfl⟩:=r';exact⟨RcAt.list_str x t p hu0,RcNeAt.list_str x t p hu0⟩
    | lst es =>
      simp only[Rep] at h';obtain⟨b,us,rfl,h2',h3'⟩:=h';cases (show u'=Value.ref b from r');obtain⟨its',rv',p'⟩:=isL I h2'
      have l1:=h3.length;have l2:=rv.length;have l3:=h3'.length;have l4:=rv'.length
      by_cases hl:ds.length=es.length
      · have he:∀ j (g1:j<its.toArray.size) (g2:j<its'.toArray.size),EqAt A.in1 s its.toArray[j] its'.toArray[j] (eJ ds es j):=fun j g1 g2=>eqsAt_of I ds es vs us its its' A.in1 h3 h3' rv rv' hu1 (by simp only[dep] at z;omega) (by simp only[dep] at z';omega) j _ _ (by simp at g1 ⊢) (by simp at g2 ⊢)
        have q:=RcAt.lists p p' (by simp;omega) hu0 he
        have q':=RcNeAt.lists p p' (by simp;omega) hu0 he
        rw[List.size_toArray,<- l2,<- l1,eJ_all' _ _ hl] at q q'
        exact⟨q,q'⟩
      · rw[show deq (.lst ds) (.lst es)=deqs ds es from rfl,deqs_len hl]
        exact⟨RcAt.lists_lengths p p' (by simp;omega) hu0,RcNeAt.lists_lengths p p' (by simp;omega) hu0⟩
    | tup es=>simp only[Rep] at h';obtain⟨a,vs,rfl,h2,h3⟩:=h';cases (show u'=Value.ref a from r');obtain⟨its,_,p'⟩:=isT I h2;exact⟨RcAt.list_tuple p p' hu0,RcNeAt.list_tuple p p' hu0⟩
end
end L2
namespace L2
open PySem PySem.Spec PyProof.Rows DE PySem.SeqAt
def tSem(X:Cx)(e:Expr):TE:=fun σ H Q=>∀ pins s,Inv X pins σ H s->wpAny (model X.prog X.w) X.A (eval e X.env) (EP X pins σ Q) X.xe s
def tSemT(X:Cx)(e:Expr):TT:=fun σ H Q=>∀ pins s,Inv X pins σ H s->wpAny (model X.prog X.w) X.A (isTrue e X.env (eval e X.env)) (TP X pins σ Q) X.xe s
def tSemA(X:Cx)(es:List Expr):TA:=fun σ H Q=>∀ pos pins s,Inv X pins σ H s->wpAny (model X.prog X.w) X.A (spliced (backTo pos (starEach es X.env))) (AP X pins σ Q) X.xe s
def tSemI(X:Cx)(tg iter:Expr):TI:=fun σ H R=>∀ pins s,Inv X pins σ H s->wpAny (model X.prog X.w) X.A (eval iter X.env) (fun v s1=>wpAny (model X.prog X.w) X.A (pyIter v) (PIE X pins σ tg R) X.xe s1) X.xe s
section
variable {X:Cx} {e:Expr}
theorem pe_sem:PE X e (tSem X e):=fun pins s σ H Q I h=>h pins s I
theorem pt_sem:PT X e (tSemT X e):=fun pins s σ H Q I h=>h pins s I
theorem pa_sem{es:List Expr}:PA X es (tSemA X es):=fun pos pins s σ H Q I h=>h pos pins s I
theorem pi_sem{tg iter:Expr}:PI X tg iter (tSemI X tg iter):=fun pins s σ H R I h=>h pins s I
theorem PE.sem{t:TE}{σ:St}{H:Hp}{Q:VK}(h:PE X e t)(q:t σ H Q):tSem X e σ H Q:=fun pins s I=>h pins s σ H Q I q
theorem PT.sem{t:TT}{σ:St}{H:Hp}{Q:Bool->Hp->Prop}(h:PT X e t)(q:t σ H Q):tSemT X e σ H Q:=fun pins s I=>h pins s σ H Q I q
theorem PA.sem{es:List Expr}{t:TA}{σ:St}{H:Hp}{Q:List V->Hp->Prop}(h:PA X es t)(q:t σ H Q):tSemA X es σ H Q:=fun pos pins s I=>h pos pins s σ H Q I q
theorem PI.sem{tg iter:Expr}{t:TI}{σ:St}{H:Hp}{R:It->Hp->Prop}(h:PI X tg iter t)(q:t σ H R):tSemI X tg iter σ H R:=fun pins s I=>h pins s σ H R I q
end
def RepSt(K:PySem.W.Frag)(Hs:Hp)(ρ:Rho)(σ:St):Prop:=∀ (i:Nat) (x:Str) (d:D),ρ[i]?=some (x,.sh d)->∃ v,σ[i]?=some (some v)/\Rep K Hs d v
theorem RepSt.same{K:PySem.W.Frag}{Hs Hs':Hp}{ρ:Rho}{σ:St}(h:RepSt K Hs ρ σ)(e:Same Hs Hs'):RepSt K Hs' ρ σ:=fun i x d q=>by
 obtain⟨v,e1,e2⟩:=h i x d q
 exact⟨v,e1,Rep.same e d v e2⟩
def ItRep(K:PySem.W.Frag)(J:It)(Hs0:Hp)(ds:List D):Prop:=∀ Hs H,Same Hs0 Hs->Same Hs H->J.stop ds.length H/\∀ (i:Nat) (d:D),ds[i]?=some d->J.go i H/\∀ x H',J.yld i H x H'->∃ Hs',Ext Hs H Hs' H'/\Rep K Hs' d x
def Ev(X:Cx)(ρ:Rho)(e:Expr)(d:D):Prop:=∀ σ H Hs Q,Same Hs H->RepSt X.K Hs ρ σ->(∀ v H' Hs',Ext Hs H Hs' H'->Rep X.K Hs' d v->Q v H')->tSem X e σ H Q
def EvT(X:Cx)(ρ:Rho)(e:Expr)(b:Bool):Prop:=∀ σ H Hs Q,Same Hs H->RepSt X.K Hs ρ σ->(∀ H' Hs',Ext Hs H Hs' H'->Q b H')->tSemT X e σ H Q
def EvA(X:Cx)(ρ:Rho)(es:List Expr)(ds:List D):Prop:=∀ σ H Hs Q,Same Hs H->RepSt X.K Hs ρ σ->(∀ vs H' Hs',Ext Hs H Hs' H'->RepL X.K Hs' ds vs->Q vs H')->tSemA X es σ H Q
def EvI(X:Cx)(ρ:Rho)(tg iter:Expr)(ds:List D):Prop:=∀ σ H Hs R,Same Hs H->RepSt X.K Hs ρ σ->(∀ J H' Hs',Ext Hs H Hs' H'->ItRep X.K J Hs' ds->R J H')->tSemI X tg iter σ H R
def spX(K:PySem.W.Frag)(call:Str->List D->Option D)(callx:Str->List D->Option Str)(f:Str)(ps:List Str):Sp:=fun vs H Q E=>vs.length=ps.length/\∃ Hs ds,Same Hs H/\RepL K Hs ds vs /\
 ((∃ d,call f ds=some d/\∀ v H' Hs',Ext Hs H Hs' H'->Rep K Hs' d v->Q v H')\/(∃ c,callx f ds=some c/\∀ C H' Hs',PySem.W.nsIn K mainGlobals c=some (some (.ref C))->Ext Hs H Hs' H'->E (.ref C) none H'))
def xTextB(K:PySem.W.Frag)(exs:List Str)(top:Str):Bool:=match PySem.W.nsIn K mainGlobals top with
  | some (some (.ref M)) => exs.all fun c => match PySem.W.nsIn K mainGlobals c with
    | some (some (.ref C)) => xIn K C M && xAttr K C && PySem.W.exmOne K (.ref C) (.ref M) == some true && PySem.W.kitOne K (.ref C) (.ref M) == some true && PySem.W.kitOne K (.ref C) (.type "ValueError") == some true &&
      exs.all fun c'=>match PySem.W.nsIn K mainGlobals c' with
        | some (some (.ref C'))=>PySem.W.kitOne K (.ref C) (.ref C')==some (c==c')
        | _=>false
    | _=>false
  | _=>exs.isEmpty
structure XText (K:PySem.W.Frag) (mg:Str->Option Value) (exs:List Str) (top:Str):Prop where
 glob:∀ x v,PySem.W.nsIn K mainGlobals x=some (some v)->mg x=some v
 cls:∀ c,exs.contains c=true->∃ C M,PySem.W.nsIn K mainGlobals c=some (some (.ref C))/\PySem.W.nsIn K mainGlobals top=some (some (.ref M))/\xIn K C M=true/\xAttr K C=true/\PySem.W.exmOne K (.ref C) (.ref M)=some true/\PySem.W.kitOne K (.ref C) (.ref M)=some true/\PySem.W.kitOne K (.ref C) (.type "ValueError")=some true
 sub:∀ c c',exs.contains c=true->exs.contains c'=true->∃ C C',PySem.W.nsIn K mainGlobals c=some (some (.ref C))/\PySem.W.nsIn K mainGlobals c'=some (some (.ref C'))/\PySem.W.kitOne K (.ref C) (.ref C')=some (c==c')
theorem XText.of{K:PySem.W.Frag}{mg:Str->Option Value}{exs:List Str}{top:Str}(hg:∀ x v,PySem.W.nsIn K mainGlobals x=some (some v)->mg x=some v)(h:xTextB K exs top=true):XText K mg exs top:=by
 unfold xTextB at h
 split at h
 ·rename_i M hM
  have all:=fun c (hc:exs.contains c=true)=>List.all_eq_true.mp h c (by simpa using hc)
  refine⟨hg,fun c hc=>?_,fun c c' hc hc'=>?_⟩
  ·have q:=all c hc
   split at q
   ·rename_i C hC
    simp only[Bool.and_eq_true,beq_iff_eq] at q
    exact⟨C,M,hC,hM,q.1.1.1.1.1,q.1.1.1.1.2,q.1.1.1.2,q.1.1.2,q.1.2⟩
   ·cases q
  ·have q:=all c hc
   split at q
   ·rename_i C hC
    simp only[Bool.and_eq_true] at q
    have q2:=List.all_eq_true.mp q.2 c' (by simpa using hc')
    split at q2
    ·rename_i C' hC'
     exact⟨C,C',hC,hC',by simpa using q2⟩
    ·cases q2
   ·cases q
 ·have e:exs=[]:=by simpa using h
  subst e
  exact⟨hg,fun c hc=>absurd hc (by simp),fun c c' hc=>absurd hc (by simp)⟩
structure Good (cx:Cxt) (k:Nat) (X:Cx) (sc:Scope):Prop where
 calm:X.calm=true
 room:Room k X.A
 sce:X.env.scope=sc
 kind:sc.kind=.function
 nd:X.N.Nodup
 cst:∀ x d,cx.cst.lookup x=some d->∃ v u,(∀ H,Rep X.K H d v)/\X.mg x=some u/\RelV v u
 blt:∀ x b,cx.blt.lookup x=some b->X.mg x=none/\x=Str.ofString b
 exs:XText X.K X.mg cx.exs cx.top
 fns:∀ f,cx.fns.contains f=true->(f==("__debug__":Str))=false/\∃ a fd ps,(∀ ds d,cx.call f ds=some d->ds.length=ps.length)/\(∀ ds c,cx.callx f ds=some c->ds.length=ps.length)/\X.mg f=some (.ref a)/\PySem.W.keepIn X.K (.ref a)=true/\Binds X.K fd ps []/\FnOk X.prog X.w X.K X.mg X.base (CX1 X.prog X.w) k a fd ps (spX X.K cx.call cx.callx f ps)
section
variable {X:Cx} {ρ:Rho} {cx:Cxt} {k:Nat} {sc:Scope}
theorem lookup_ix:∀ {ρ:Rho} {x:Str} {s:Sl},ρ.lookup x=some s->∃ i:Nat,ρ[i]?=some (x,s)/\(ρ.map (·.1)).idxOf? x=some i
  | (y, t) :: r, x, s, h => by
    rw[List.lookup_cons] at h
    cases hb:x==y with
    | true =>
      rw[hb] at h
      cases h
      have:x=y:=by simpa using hb
      subst this
      exact⟨0,rfl,by simp[List.idxOf?,List.findIdx?_cons]⟩
    | false =>
      rw[hb] at h
      obtain⟨i,h1,h2⟩:=lookup_ix h
      refine⟨i+1,by simpa using h1,?_⟩
      have hy:(y==x)=false:=by
        rw[beq_eq_false_iff_ne] at hb ⊢
        exact fun e=>hb e.symm
      simp only[List.map_cons,List.idxOf?,List.findIdx?_cons,hy,Bool.false_eq_true,if_false]
      simp only[List.idxOf?] at h2
      rw[h2];rfl
theorem ev_name{x:Str}{d:D}{pos:Pos}(hN:X.N=ρ.map (·.1))(hv:Vis X.env.scope x)(hp:plainName x=true)(h:ρ.lookup x=some (.sh d)):Ev X ρ (.Name x pos) d:=by
 intro σ H Hs Q hs hr hq
 obtain⟨i,h1,_⟩:=lookup_ix h
 obtain⟨v,e1,e2⟩:=hr i x d h1
 unfold plainName at hp
 rw[Bool.and_eq_true,bne_iff_ne,bne_iff_ne] at hp
 refine PE.sem (pe_var (i:=i) (by rw[hN,List.getElem?_map,h1];rfl) hv (by simpa using hp.1) (by simpa using hp.2)) ⟨v,e1,hq v H Hs (.refl hs) e2⟩
theorem ev_cst{x:Str}{d:D}{v:V}{u:Value}{pos:Pos}(hg:Gl X x)(hd:∀ H,Rep X.K H d v)(hm:X.mg x=some u)(r:RelV v u)(hp:plainName x=true):Ev X ρ (.Name x pos) d:=by
 intro σ H Hs Q hs hr hq
 unfold plainName at hp
 rw[Bool.and_eq_true,bne_iff_ne,bne_iff_ne] at hp
 exact PE.sem (pe_glob hg hm r (by simpa using hp.1)) (hq _ H Hs (.refl hs) (hd Hs))
theorem ev_const{c:Const}{d:D}{j:Nat}{pos:Pos}(h:(match c with | .none=>some D.non | .bool b=>some (.bl b) | .int i=>some (.int i) | .str x=>some (.str x) | _=>none)=some d):Ev X ρ (.Constant c j pos) d:=by
 intro σ H Hs Q hs hr hq
 cases c<;>simp at h<;>subst h
 ·exact PE.sem pe_non (hq _ H Hs (.refl hs) (by simp[Rep]))
 ·exact PE.sem pe_bl (hq _ H Hs (.refl hs) (by simp[Rep]))
 ·exact PE.sem pe_int (hq _ H Hs (.refl hs) (by simp[Rep]))
 ·exact PE.sem pe_str (hq _ H Hs (.refl hs) (by simp[Rep]))
theorem ev_two{a b:Expr}{x y d:D}{r:R2}{e:Expr}(ha:Ev X ρ a x)(hb:Ev X ρ b y)(hp:PE X e (tOp r (tSem X a) (tSem X b)))
  (hr:∀ u v H Hs Q,Same Hs H->Rep X.K Hs x u->Rep X.K Hs y v->(∀ w H' Hs',Ext Hs H Hs' H'->Rep X.K Hs' d w->Q w H')->r u v H Q):Ev X ρ e d:=by
 intro σ H Hs Q hs hst hq
 refine hp.sem (ha σ H Hs _ hs hst fun u H1 Hs1 E1 r1=>hb σ H1 Hs1 _ E1.sub (hst.same E1.vis) fun v H2 Hs2 E2 r2=>?_)
 exact hr u v H2 Hs2 Q E2.sub (Rep.same E2.vis x u r1) r2 fun w H' Hs' E3 r3=>hq w H' Hs' (E1.trans (E2.trans E3)) r3
theorem small_ok{i:Int}(h:small i=true):-(2^64)<i/\i<2^64:=by
 unfold small at h
 rw[Bool.and_eq_true,decide_eq_true_eq,decide_eq_true_eq] at h
 exact h
theorem szl_ok{n:Nat}(h:szl n=true):n<=sizeLine:=by
 unfold szl at h
 rw[decide_eq_true_eq] at h
 exact Nat.le_trans h (by rw[sizeLine_eq];decide)
theorem szl_lt{n:Nat}(h:szl n=true):n<sizeLine:=by
 unfold szl at h
 rw[decide_eq_true_eq] at h
 exact Nat.lt_of_le_of_lt h (by rw[sizeLine_eq];decide)
theorem rep_int{K:PySem.W.Frag}{H:Hp}{i:Int}{v:V}(h:Rep K H (.int i) v):v=.int i:=by simpa[Rep] using h
theorem rep_bl{K:PySem.W.Frag}{H:Hp}{i:Bool}{v:V}(h:Rep K H (.bl i) v):v=.bl i:=by simpa[Rep] using h
theorem rep_tup{K:PySem.W.Frag}{H:Hp}{ds:List D}{v:V}(h:Rep K H (.tup ds) v):∃ a vs,v=.ref a/\SqT K H a vs/\RepL K H ds vs:=by simpa[Rep] using h
theorem rep_lst{K:PySem.W.Frag}{H:Hp}{ds:List D}{v:V}(h:Rep K H (.lst ds) v):∃ a vs,v=.ref a/\SqL K H a vs/\RepL K H ds vs:=by simpa[Rep] using h
theorem new_tup{Hs H:Hp}{ds:List D}{vs:List V}{p:Addr}{Q:VK}(hs:Same Hs H)(hr:RepL X.K Hs ds vs)(hp:H p=none)(hq:∀ w H' Hs',Ext Hs H Hs' H'->Rep X.K Hs' (.tup ds) w->Q w H'):Q (.ref p) (upd H p (.tup vs)) :=
 hq _ _ _ (Ext.new hs (.tup vs) hp) (by simp only[Rep];exact⟨p,vs,rfl,.of upd_same,RepL.same (Ext.new hs (.tup vs) hp).vis ds vs hr⟩)
theorem new_lst{Hs H:Hp}{ds:List D}{vs:List V}{p:Addr}{Q:VK}(hs:Same Hs H)(hr:RepL X.K Hs ds vs)(hp:H p=none)(hq:∀ w H' Hs',Ext Hs H Hs' H'->Rep X.K Hs' (.lst ds) w->Q w H'):Q (.ref p) (upd H p (.lst vs)) :=
 hq _ _ _ (Ext.new hs (.lst vs) hp) (by simp only[Rep];exact⟨p,vs,rfl,.of upd_same,RepL.same (Ext.new hs (.lst vs) hp).vis ds vs hr⟩)
def rCat2(K:PySem.W.Frag):R2:=fun x y H Q=>∃ a b xs ys,x=.ref a/\y=.ref b/\SqT K H a xs/\SqT K H b ys/\xs.length+ys.length<=sizeLine /\
 (xs=[]->Q (.ref b) H)/\(xs≠[]->ys=[]->Q (.ref a) H)/\(xs≠[]->ys≠[]->∀ p,H p=none->Q (.ref p) (upd H p (.tup (xs++ys))))
theorem op_cat2:OpR X (binaryOp .Add) (rCat2 X.K):=by
 intro pins s σ H x y v u Q I rx ry h
 obtain⟨a,b,xs,ys,rfl,rfl,ha,hb,hz,q0,q1,q2⟩:=h
 by_cases hx:xs=[]
 ·subst hx
  cases (show v=Value.ref a from rx)
  cases (show u=Value.ref b from ry)
  obtain⟨its,r1,p1,_⟩:=I.tuple ha
  obtain⟨its2,r2,p2,_⟩:=I.tuple hb
  have e0:its=[]:=r1.nil_iff.mpr rfl
  subst e0
  obtain⟨⟨c,dd,data,sl⟩,ho,hc,n,hd⟩:=id p1
  obtain⟨⟨c2,dd2,data2,sl2⟩,ho2,hc2,n2,hd2⟩:=id p2
  simp only at hc hd hc2 hd2
  subst hc hd hc2 hd2
  exact concat_meets ⟨_,ho,rfl⟩ ⟨_,ho2,rfl⟩ noFill_tuple_add seq_tuple_add PySem.F.slot_tuple_add PySem.F.entry_tuple_add (PySem.F.args_tuple_add_2 _ _) (tuple_addW0 a b _ its2.toArray n n2 dd dd2 sl sl2 rfl) ⟨ho,ho2,.ref b,H,I,rfl,q0 rfl⟩
 ·exact op_catT pins s σ H (.ref a) (.ref b) v u Q I rx ry ⟨a,b,xs,ys,rfl,rfl,ha,hb,hx,hz,q1 hx,q2 hx⟩
def rRepT(K:PySem.W.Frag):R2:=fun x y H Q=>∃ a v k,x=.ref a/\y=.int k/\SqT K H a [v]/\0<=k/\k<=4/\(k=1->Q (.ref a) H)/\(k≠1->∀ p,H p=none->Q (.ref p) (upd H p (.tup (List.replicate k.toNat v))))
theorem op_repT:OpR X (binaryOp .Mult) (rRepT X.K):=by
 intro pins s σ H x y v u Q I rx ry h
 obtain⟨a,w,k,rfl,rfl,ha,k1,k4,q1,q2⟩:=h
 cases (show v=Value.ref a from rx)
 obtain⟨t,e⟩:=(show ∃ t,u=Value.int k t from ry)
 subst e
 obtain⟨its,r1,p1,_⟩:=I.tuple ha
 obtain⟨u0,rfl,ru⟩:=vals1 r1
 obtain⟨⟨c,dd,data,sl⟩,ho,hc,n,hd⟩:=id p1
 simp only at hc hd
 subst hc hd
 have new:∀ (vs:List V) (us:List Value),Vals vs us->vs.length<=4->(∀ p,H p=none->Q (.ref p) (upd H p (.tup vs)))->EP X pins σ Q (Value.ref s.heap.objs.size) { s with heap:=s.heap.push { cls:=Value.type "tuple",data:=Data.seq us.toArray },toks:=s.toks }:=fun vs us r hl q =>
  ⟨.ref s.heap.objs.size,_,I.laid (t':=s.toks) (o:=.tup vs) (fun b ob q=>Heap.get?_push_of_some _ q) (Nat.le_refl _) ⟨Nat.le_trans hl (by decide),us,r,IsTup.new _ _⟩,rfl,q _ (I.hok.fresh (Nat.le_refl _))⟩
 refine wpAny_binaryOp_repeat_ref (T:="tuple") (U:="int") (by decide) ⟨_,ho,rfl⟩ (fun s'=>typeIs_int s' k t) noFill_tuple_mul PySem.F.fills_int_mul PySem.F.slot_int_rmul repeat_tuple PySem.F.slot_int_index.lookup
  (call_meets PySem.F.slot_int_rmul (typeIs_int s k t) PySem.F.entry_int_rmul (PySem.F.args_int_rmul_2 _ _) (int_rmul_tuple k t a _ n dd sl) ⟨ho,rfl,⟨_,ho,rfl⟩,?_⟩)
 have hk:k=0\/k=1\/k=2\/k=3\/k=4:=by omega
 rcases hk with rfl | rfl | rfl | rfl | rfl
 ·exact call_meets PySem.F.slot_tuple_mul ⟨_,ho,rfl⟩ PySem.F.entry_tuple_mul (PySem.F.args_tuple_mul_2 _ _) (tuple_mul0 a u0 n dd sl t) ⟨ho,new [] [] .nil (by simp) (q2 (by decide))⟩
 ·exact call_meets PySem.F.slot_tuple_mul ⟨_,ho,rfl⟩ PySem.F.entry_tuple_mul (PySem.F.args_tuple_mul_2 _ _) (tuple_mul1 a _ n dd sl t) ⟨ho,.ref a,H,I,rfl,q1 rfl⟩
 ·exact call_meets PySem.F.slot_tuple_mul ⟨_,ho,rfl⟩ PySem.F.entry_tuple_mul (PySem.F.args_tuple_mul_2 _ _) (tuple_mul2 a u0 n dd sl t) ⟨ho,new [w,w] [u0,u0] (.cons ru (.cons ru .nil)) (by simp) (q2 (by decide))⟩
 ·exact call_meets PySem.F.slot_tuple_mul ⟨_,ho,rfl⟩ PySem.F.entry_tuple_mul (PySem.F.args_tuple_mul_2 _ _) (tuple_mul3 a u0 n dd sl t) ⟨ho,new [w,w,w] [u0,u0,u0] (.cons ru (.cons ru (.cons ru .nil))) (by simp) (q2 (by decide))⟩
 ·exact call_meets PySem.F.slot_tuple_mul ⟨_,ho,rfl⟩ PySem.F.entry_tuple_mul (PySem.F.args_tuple_mul_2 _ _) (tuple_mul4 a u0 n dd sl t) ⟨ho,new [w,w,w,w] [u0,u0,u0,u0] (.cons ru (.cons ru (.cons ru (.cons ru .nil)))) (by simp) (q2 (by decide))⟩
theorem repL_rep{K:PySem.W.Frag}{H:Hp}{d:D}{v:V}(h:Rep K H d v):∀ n:Nat,RepL K H (List.replicate n d) (List.replicate n v)
 | 0=>.nil
 | n+1=>.cons h (repL_rep h n)
theorem RepL.rep{K:PySem.W.Frag}{H:Hp}{ds:List D}{vs:List V}(h:RepL K H ds vs):∀ n:Nat,RepL K H (List.replicate n ds).flatten (List.replicate n vs).flatten
  | 0=>by simp[RepL]
  | n + 1 => by
    simp only[List.replicate_succ,List.flatten_cons]
    exact h.append (h.rep n)
theorem ev_repT{a b:Expr}{xs:List D}{j:Int}{d:D}{pos:Pos}(ha:Ev X ρ a (.tup xs))(hb:Ev X ρ b (.int j))(h:repT xs j=some d):Ev X ρ (.BinOp a .Mult b pos) d:=by
  match xs,ha,h with
  | [],_,h=>exact absurd h (by simp[repT])
  | _::_::_,_,h=>exact absurd h (by simp[repT])
  | [x], ha, h =>
    simp only[repT] at h
    split at h
    · rename_i hz
      rw[Bool.and_eq_true,decide_eq_true_eq,decide_eq_true_eq] at hz
      cases h
      refine ev_two ha hb (pe_op op_repT pe_sem pe_sem) fun u v H Hs Q hs r1 r2 hq=>?_
      obtain⟨p,us,rfl,h1,h2⟩:=rep_tup r1
      simp only[RepL] at h2
      obtain⟨w,r,rfl,hw,hr⟩:=h2
      subst hr
      refine⟨p,w,j,rfl,rep_int r2,hs.tup h1,hz.1,hz.2,fun e=>?_,fun _ l hl=>new_tup hs (repL_rep hw _) hl hq⟩
      subst e
      exact hq _ H Hs (.refl hs) r1
    · cases h
def CMulM(i j:Int):Prop:=CMul i j\/(i.natAbs.log2<10000/\j.natAbs.log2<10000)
theorem mid_ok{i:Int}(h:mid i=true):i.natAbs.log2<10000:=by unfold mid at h;simpa using h
theorem bits_mid{i:Int}(h:i.natAbs.log2<10000):Builtin.Int.intBits i<=2^20:=by
 unfold Builtin.Int.intBits
 split<;>omega
theorem op_mulM:OpR X (binaryOp .Mult) (rI CMulM fun i j=>.int (i*j)):=opI fun _ _ _ _ _ _ _ hc q=>mul_int q (hc.elim (fun z=>z.ok) fun z=>.of_bits (bits_mid z.1) (bits_mid z.2))
def CDivL(i j:Int):Prop:=j≠0/\j.natAbs.log2<9000
theorem op_fdivL:OpR X (binaryOp .FloorDiv) (rI CDivL fun i j=>.int (i.fdiv j)):=opI fun _ _ _ _ _ _ _ hc q=>floordiv_int hc.1 q (.inl (PyProof.noPylong_of_log2 hc.2))
theorem ev_binop{a b:Expr}{op:Operator}{x y d:D}{pos:Pos}(ha:Ev X ρ a x)(hb:Ev X ρ b y)(h:binop op x y=some d):Ev X ρ (.BinOp a op b pos) d:=by
 unfold binop at h
 split at h
 ·cases h
  exact ev_two ha hb (pe_op op_add pe_sem pe_sem) fun u v H Hs Q hs r1 r2 hq=>⟨_,_,rep_int r1,rep_int r2,hq _ H Hs (.refl hs) (by simp[Rep])⟩
 ·split at h
  ·rename_i hz
   cases h
   refine ev_two ha hb (pe_op op_cat2 pe_sem pe_sem) fun u v H Hs Q hs r1 r2 hq=>?_
   obtain⟨p,us,rfl,h1,h2⟩:=rep_tup r1
   obtain⟨q,ws,rfl,h3,h4⟩:=rep_tup r2
   have l1:=h2.length
   have l2:=h4.length
   have nil:∀ (l:List D),l.length=0->l=[]:=fun l hl=>by cases l<;>simp at hl ⊢
   refine⟨p,q,us,ws,rfl,rfl,hs.tup h1,hs.tup h3,by have:=szl_ok hz;omega,fun e=>?_,fun _ e=>?_,fun _ _ l hl=>new_tup hs (h2.append h4) hl hq⟩
   ·subst e
    have e2:=nil _ l1
    subst e2
    exact hq _ H Hs (.refl hs) r2
   ·subst e
    have e2:=nil _ l2
    subst e2
    refine hq _ H Hs (.refl hs) ?_
    rw[List.append_nil]
    exact r1
  ·cases h
 ·split at h
  ·rename_i hz
   cases h
   refine ev_two ha hb (pe_op op_catL pe_sem pe_sem) fun u v H Hs Q hs r1 r2 hq=>?_
   obtain⟨p,us,rfl,h1,h2⟩:=rep_lst r1
   obtain⟨q,ws,rfl,h3,h4⟩:=rep_lst r2
   have l1:=h2.length
   have l2:=h4.length
   exact⟨p,q,us,ws,rfl,rfl,hs.seq h1,hs.seq h3,by have:=szl_ok hz;omega,fun l hl=>new_lst hs (h2.append h4) hl hq⟩
  ·cases h
 ·cases h
  exact ev_two ha hb (pe_op op_sub pe_sem pe_sem) fun u v H Hs Q hs r1 r2 hq=>⟨_,_,rep_int r1,rep_int r2,hq _ H Hs (.refl hs) (by simp[Rep])⟩
 ·split at h
  ·rename_i hz
   cases h
   rw[Bool.or_eq_true,Bool.or_eq_true,Bool.and_eq_true] at hz
   have hz':CMulM _ _:=hz.elim (fun z=>z.elim (fun z=>.inl (.inl (small_ok z))) (fun z=>.inl (.inr (small_ok z)))) (fun z=>.inr ⟨mid_ok z.1,mid_ok z.2⟩)
   exact ev_two ha hb (pe_op op_mulM pe_sem pe_sem) fun u v H Hs Q hs r1 r2 hq=>⟨_,_,rep_int r1,rep_int r2,hz',hq _ H Hs (.refl hs) (by simp[Rep])⟩
  ·cases h
 ·split at h
  ·rename_i hz
   cases h
   rw[Bool.and_eq_true,Bool.and_eq_true,decide_eq_true_eq,decide_eq_true_eq] at hz
   refine ev_two ha hb (pe_op op_repL pe_sem pe_sem) fun u v H Hs Q hs r1 r2 hq=>?_
   obtain⟨p,us,rfl,h1,h2⟩:=rep_lst r1
   have l1:=h2.length
   exact⟨p,_,us,rfl,rep_int r2,hs.seq h1,by omega,by omega,by have:=szl_ok hz.2;rw[<- l1];exact this,fun l hl=>new_lst hs (h2.rep _) hl hq⟩
  ·cases h
 ·exact ev_repT ha hb h
 ·split at h
  ·rename_i hz
   cases h
   rw[Bool.and_eq_true,decide_eq_true_eq,decide_eq_true_eq] at hz
   exact ev_two ha hb (pe_op op_fdiv pe_sem pe_sem) fun u v H Hs Q hs r1 r2 hq=>⟨_,_,rep_int r1,rep_int r2,hz,hq _ H Hs (.refl hs) (by simp[Rep])⟩
  ·split at h
   ·rename_i hz
    cases h
    rw[Bool.and_eq_true,decide_eq_true_eq,decide_eq_true_eq] at hz
    exact ev_two ha hb (pe_op op_fdivL pe_sem pe_sem) fun u v H Hs Q hs r1 r2 hq=>⟨_,_,rep_int r1,rep_int r2,hz,hq _ H Hs (.refl hs) (by simp[Rep])⟩
   ·cases h
 ·split at h
  ·rename_i hz
   cases h
   rw[decide_eq_true_eq] at hz
   exact ev_two ha hb (pe_op op_mod pe_sem pe_sem) fun u v H Hs Q hs r1 r2 hq=>⟨_,_,rep_int r1,rep_int r2,hz,hq _ H Hs (.refl hs) (by simp[Rep])⟩
  ·split at h
   ·rename_i hz
    cases h
    rw[decide_eq_true_eq] at hz
    exact ev_two ha hb (pe_op op_modN pe_sem pe_sem) fun u v H Hs Q hs r1 r2 hq=>⟨_,_,rep_int r1,rep_int r2,hz,hq _ H Hs (.refl hs) (by simp[Rep])⟩
   ·cases h
 ·cases h
end
end L2
namespace L2
open PySem PySem.Spec PyProof.Rows DE PySem.SeqAt
section
variable {X:Cx} {ρ:Rho} {cx:Cxt} {k:Nat} {sc:Scope}
theorem plain_star{e:Expr}{es:List Expr}{env:Env}(h:plainE e=true):starEach (e::es) env=(false,eval e env)::starEach es env:=by
 cases e<;>first | rfl | (simp[plainE] at h)
theorem plain_ix{e:Expr}(h:plainE e=true):PlainIx e:=by
 intro o i
 cases e<;>first | rfl | (simp[plainE] at h)
theorem plain_set{e:Expr}{env:Env}(h:plainE e=true)(x:Value):foldedSetIterable e env x=pure x:=by
 cases e<;>first | rfl | (simp[plainE] at h)
theorem plain_mark{e:Expr}{op:CmpOp}(h:plainE e=true):behindInMarks op e=false:=by
 cases e<;>first | rfl | (simp[plainE] at h)
theorem stars_any{env:Env}{pos:Pos}:∀ {es:List Expr},(∀ e∈es,plainE e=true)->(backTo pos (starEach es env)).any (·.1)=false
  | [],_=>rfl
  | e :: es, h => by
    rw[plain_star (h e List.mem_cons_self)]
    have ih:=stars_any (env:=env) (pos:=pos) fun e' he=>h e' (List.mem_cons_of_mem _ he)
    show((false:Bool)||(backTo pos (starEach es env)).any (·.1))=false
    rw[ih];rfl
theorem ev_plain:∀ {n:Nat} {ρ:Rho} {e:Expr} {d:D},ev cx n sc ρ e=some d->plainE e=true
  | 0,_,_,_,h=>by simp[ev] at h
  | n + 1, ρ, e, d, h => by
    cases e<;>first | rfl | (exact nomatch (show(Option.none:Option D)=some d from h))
def tSemW(X:Cx)(e:Expr):TT:=fun σ H Q=>∀ whole pins s,Inv X pins σ H s->wpAny (model X.prog X.w) X.A (isTrue e X.env whole) (TP X pins σ Q) X.xe s
def EvW(X:Cx)(ρ:Rho)(e:Expr)(b:Bool):Prop:=∀ σ H Hs Q,Same Hs H->RepSt X.K Hs ρ σ->(∀ H' Hs',Ext Hs H Hs' H'->Q b H')->tSemW X e σ H Q
theorem pw_sem{e:Expr}:PW X e (tSemW X e):=fun whole pins s σ H Q I h=>h whole pins s I
theorem PW.sem{e:Expr}{t:TT}{σ:St}{H:Hp}{Q:Bool->Hp->Prop}(h:PW X e t)(q:t σ H Q):tSemW X e σ H Q:=fun whole pins s I=>h whole pins s σ H Q I q
theorem EvW.t{e:Expr}{b:Bool}(h:EvW X ρ e b):EvT X ρ e b:=fun σ H Hs Q hs hr hq pins s I=>h σ H Hs Q hs hr hq _ pins s I
theorem evT_val{e:Expr}{b:Bool}(h:Ev X ρ e (.bl b))(he:∀ whole,isTrue e X.env whole=(do let v <- whole;standAt e.pos;holding [v] (truthy v))):EvT X ρ e b:=fun σ H Hs Q hs hr hq =>
 (pt_val pe_sem he).sem (h σ H Hs _ hs hr fun v H' Hs' E1 r1=>⟨b,rep_bl r1,hq H' Hs' E1⟩)
theorem ev_not{a:Expr}{b:Bool}{pos:Pos}(h:Ev X ρ a (.bl b)):Ev X ρ (.UnaryOp .Not a pos) (.bl (!b)):=fun σ H Hs Q hs hr hq =>
 (pe_not pe_sem).sem (h σ H Hs _ hs hr fun v H' Hs' E1 r1=>⟨b,rep_bl r1,hq _ H' Hs' E1 (by simp[Rep])⟩)
theorem evT_not{a:Expr}{b:Bool}{pos:Pos}(h:EvT X ρ a b):EvT X ρ (.UnaryOp .Not a pos) (!b):=fun σ H Hs Q hs hr hq =>
 (pt_not pt_sem).sem (h σ H Hs _ hs hr fun H' Hs' E1=>hq H' Hs' E1)
theorem ev_neg{a:Expr}{i:Int}{pos:Pos}(h:Ev X ρ a (.int i)):Ev X ρ (.UnaryOp .USub a pos) (.int (-i)):=fun σ H Hs Q hs hr hq =>
 (pe_un un_neg pe_sem).sem (h σ H Hs _ hs hr fun v H' Hs' E1 r1=>⟨i,rep_int r1,hq _ H' Hs' E1 (by simp[Rep])⟩)
theorem ev_boolop{op:BoolOp}{f:Expr->Option D}{pos:Pos}:∀ {es:List Expr} {d:D},(∀ e∈es,∀ d,f e=some d->Ev X ρ e d/\∀ b,d=.bl b->EvT X ρ e b)->boolGo op f es=some d ->
    Ev X ρ (.BoolOp op es pos) d/\∀ b,d=.bl b->EvW X ρ (.BoolOp op es pos) b
  | [],d,_,h=>by simp[boolGo] at h
  | [e], d, hf, h => by
    obtain⟨h1,h2⟩:=hf e (by simp) d (by simpa[boolGo] using h)
    refine⟨fun σ H Hs Q hs hr hq=>(pe_one pe_sem).sem (h1 σ H Hs Q hs hr hq),fun b hb σ H Hs Q hs hr hq=>?_⟩
    cases op with
    | And=>exact(pw_and1 pt_sem).sem (h2 b hb σ H Hs Q hs hr hq)
    | Or=>exact(pw_or1 pt_sem).sem (h2 b hb σ H Hs Q hs hr hq)
  | e :: e' :: r, d, hf, h => by
    simp only[boolGo] at h
    cases he:f e with
    | none=>rw[he] at h;simp at h
    | some x =>
      rw[he] at h
      cases x with
      | bl c =>
        obtain⟨h1,h2⟩:=hf e (by simp) _ he
        have h2':=h2 c rfl
        simp only[asB,Option.bind_some,Option.bind_eq_bind,bind,Option.bind] at h
        have ih:=fun d' (q:boolGo op f (e'::r)=some d')=>ev_boolop (pos:=pos) (es:=e'::r) (fun a ha=>hf a (List.mem_cons_of_mem _ ha)) q
        cases op with
        | And =>
          cases c with
          | true =>
            simp only[if_true] at h
            obtain⟨i1,i2⟩:=ih d h
            refine⟨fun σ H Hs Q hs hr hq=>(pe_and pe_sem pe_sem).sem (h1 σ H Hs _ hs hr fun v H' Hs' E1 r1=>⟨true,rep_bl r1,iteT (i1 σ H' Hs' Q E1.sub (hr.same E1.vis) fun w H2 Hs2 E2 r2=>hq w H2 Hs2 (E1.trans E2) r2)⟩),fun b hb σ H Hs Q hs hr hq=>?_⟩
            exact(pw_and pt_sem pw_sem).sem (h2' σ H Hs _ hs hr fun H' Hs' E1=>iteT (i2 b hb σ H' Hs' Q E1.sub (hr.same E1.vis) fun H2 Hs2 E2=>hq H2 Hs2 (E1.trans E2)))
          | false =>
            simp only[Bool.false_eq_true,if_false,Option.some.injEq] at h
            subst h
            refine⟨fun σ H Hs Q hs hr hq=>(pe_and pe_sem pe_sem).sem (h1 σ H Hs _ hs hr fun v H' Hs' E1 r1=>⟨false,rep_bl r1,iteF (hq _ H' Hs' E1 (by simp[Rep]))⟩),fun b hb σ H Hs Q hs hr hq=>?_⟩
            cases hb
            exact(pw_and pt_sem pw_sem).sem (h2' σ H Hs _ hs hr fun H' Hs' E1=>iteF (hq H' Hs' E1))
        | Or =>
          cases c with
          | true =>
            simp only[if_true,Option.some.injEq] at h
            subst h
            refine⟨fun σ H Hs Q hs hr hq=>(pe_or pe_sem pe_sem).sem (h1 σ H Hs _ hs hr fun v H' Hs' E1 r1=>⟨true,rep_bl r1,iteT (hq _ H' Hs' E1 (by simp[Rep]))⟩),fun b hb σ H Hs Q hs hr hq=>?_⟩
            cases hb
            exact(pw_or pt_sem pw_sem).sem (h2' σ H Hs _ hs hr fun H' Hs' E1=>iteT (hq H' Hs' E1))
          | false =>
            simp only[Bool.false_eq_true,if_false] at h
            obtain⟨i1,i2⟩:=ih d h
            refine⟨fun σ H Hs Q hs hr hq=>(pe_or pe_sem pe_sem).sem (h1 σ H Hs _ hs hr fun v H' Hs' E1 r1=>⟨false,rep_bl r1,iteF (i1 σ H' Hs' Q E1.sub (hr.same E1.vis) fun w H2 Hs2 E2 r2=>hq w H2 Hs2 (E1.trans E2) r2)⟩),fun b hb σ H Hs Q hs hr hq=>?_⟩
            exact(pw_or pt_sem pw_sem).sem (h2' σ H Hs _ hs hr fun H' Hs' E1=>iteF (i2 b hb σ H' Hs' Q E1.sub (hr.same E1.vis) fun H2 Hs2 E2=>hq H2 Hs2 (E1.trans E2)))
      | _=>simp[asB] at h
def rCmp(X:Cx)(op:CmpOp):R2:=fun u v H Q=>∃ Hs x y d,Same Hs H/\Rep X.K Hs x u/\Rep X.K Hs y v/\cmpop op x y=some d/\∃ b,d=.bl b/\Q (.bl b) H
theorem rep_non{K:PySem.W.Frag}{H:Hp}{v:V}(h:Rep K H .non v):v=.non:=by simpa[Rep] using h
theorem isNon_ok{K:PySem.W.Frag}{H:Hp}{x:D}{v:V}(h:Rep K H x v):isNon x=decide (v=V.non):=by
  cases x with
  | non=>rw[rep_non h];rfl
  | bl b=>rw[rep_bl h];rfl
  | int b=>rw[rep_int h];rfl
  | str b => have e : v = .str b := by simpa [Rep] using h
             rw[e];rfl
  | tup b=>obtain⟨a,vs,e,_⟩:=rep_tup h;rw[e];rfl
  | lst b=>obtain⟨a,vs,e,_⟩:=rep_lst h;rw[e];rfl
  | exc c=>simp only[Rep] at h;obtain⟨a,C,e,_⟩:=h;rw[e];rfl
  | dic k x=>simp only[Rep] at h;obtain⟨a,C,e,_⟩:=h;rw[e];rfl
theorem asIs_rep{K:PySem.W.Frag}{H:Hp}:∀ {ds:List D} {ns:List Int} {vs:List V},asIs ds=some ns->RepL K H ds vs->vs=ns.map V.int
  | [], ns, vs, h, r => by
    simp only[asIs,Option.some.injEq] at h;subst h
    simpa[RepL] using r
  | .int i :: ds, ns, vs, h, r => by
    simp only[asIs,Option.map_eq_some_iff] at h
    obtain⟨ms,h1,rfl⟩:=h
    simp only[RepL] at r
    obtain⟨v,r',rfl,h2,h3⟩:=r
    rw[rep_int h2,asIs_rep h1 h3]
    rfl
  | .non::ds,ns,vs,h,r=>by simp[asIs] at h
  | .bl _::ds,ns,vs,h,r=>by simp[asIs] at h
  | .str _::ds,ns,vs,h,r=>by simp[asIs] at h
  | .tup _::ds,ns,vs,h,r=>by simp[asIs] at h
  | .lst _::ds,ns,vs,h,r=>by simp[asIs] at h
  | .exc _::ds,ns,vs,h,r=>by simp[asIs] at h
  | .dic _ _::ds,ns,vs,h,r=>by simp[asIs] at h
theorem any_ints(i:Int):∀ {ns:List Int} {us:List Value},Vals (ns.map V.int) us->us.any (fun y=>match y with | .int j _=>j==i | _=>false)=ns.any (· ==i)
  | [],us,r=>by rw[List.map_nil] at r;cases r;rfl
  | n :: ns, us, r => by
    rw[List.map_cons] at r
    cases r with
    | cons r1 r2 =>
      obtain⟨t,e⟩:=(show ∃ t,_=Value.int n t from r1)
      subst e
      simp only[List.any_cons,any_ints i r2]
theorem mem_ints:∀ {ns:List Int} {us:List Value},Vals (ns.map V.int) us->∀ y∈us,∃ j t,y=Value.int j t
  | [],us,r,y,hy=>by rw[List.map_nil] at r;cases r;simp at hy
  | n :: ns, us, r, y, hy => by
    rw[List.map_cons] at r
    cases r with
    | cons r1 r2 =>
      obtain⟨t,e⟩:=(show ∃ t,_=Value.int n t from r1)
      subst e
      rcases List.mem_cons.mp hy with rfl | hy
      · exact⟨n,t,rfl⟩
      · exact mem_ints r2 y hy
theorem in_ints{pins:List (Addr×Obj)}{σ:St}{H:Hp}{s:Shared}{i:Int}{ys:List D}{ns:List Int}{u v:V}{w z:Value}(I:Inv X pins σ H s)(A:Around)(hu:u=.int i)(hv:Rep X.K H (.tup ys) v)(hn:asIs ys=some ns)(ru:RelV u w)(rv:RelV v z) :
  (∀ (Q:Value->Shared->Prop) (E:Value->Shared->Prop),Q (.bool (ns.any (· ==i))) s->wpAny (model X.prog X.w) A (compareOp .In w z) Q E s)/\(∀ (Q:Value->Shared->Prop) (E:Value->Shared->Prop),Q (.bool (!ns.any (· ==i))) s->wpAny (model X.prog X.w) A (compareOp .NotIn w z) Q E s):=by
 subst hu
 obtain⟨t,e⟩:=(show ∃ t,w=Value.int i t from ru)
 subst e
 obtain⟨a,vs,rfl,h1,h2⟩:=rep_tup hv
 cases (show z=Value.ref a from rv)
 have e:=asIs_rep hn h2
 subst e
 obtain⟨its,r,p⟩:=isT I h1
 have he:∀ y,y∈its.toArray->EqAt A.in1 s y (.int i t) (match y with | .int j _=>j==i | _=>false):=fun y hy=>by
  obtain⟨j,t',rfl⟩:=mem_ints r y (by simpa using hy)
  exact fun P w Q E q=>wpAny_eqBool_int q
 have ea:its.toArray.any (fun y=>match y with | .int j _=>j==i | _=>false)=ns.any (· ==i):=by
  rw[List.any_toArray];exact any_ints i r
 refine⟨fun Q E q=>in_tupleAt _ p he (by rw[ea];exact q),fun Q E q=>notIn_tupleAt _ p he (by rw[ea];exact q)⟩
theorem asSs_rep{K:PySem.W.Frag}{H:Hp}:∀ {ds:List D} {ns:List Str} {vs:List V},asSs ds=some ns->RepL K H ds vs->vs=ns.map V.str
  | [], ns, vs, h, r => by
    simp only[asSs,Option.some.injEq] at h;subst h
    simpa[RepL] using r
  | .str i :: ds, ns, vs, h, r => by
    simp only[asSs] at h
    obtain⟨ms,h1,rfl⟩:=Option.map_eq_some_iff.mp h
    simp only[RepL] at r
    obtain⟨v,rr,rfl,h2,h3⟩:=r
    have e:v=.str i:=by simpa[Rep] using h2
    rw[asSs_rep h1 h3,e];rfl
  | .non::ds,ns,vs,h,r=>by simp[asSs] at h
  | .bl _::ds,ns,vs,h,r=>by simp[asSs] at h
  | .int _::ds,ns,vs,h,r=>by simp[asSs] at h
  | .tup _::ds,ns,vs,h,r=>by simp[asSs] at h
  | .lst _::ds,ns,vs,h,r=>by simp[asSs] at h
  | .exc _::ds,ns,vs,h,r=>by simp[asSs] at h
  | .dic _ _::ds,ns,vs,h,r=>by simp[asSs] at h
def eS(x:D):Value->Bool
 | .str t _=>deq (.str t) x
 | _=>false
theorem any_strs(x:D):∀ {ns:List Str} {us:List Value},Vals (ns.map V.str) us->us.any (eS x)=ns.any fun t=>deq (.str t) x
  | [],us,r=>by rw[List.map_nil] at r;cases r;rfl
  | n :: ns, us, r => by
    rw[List.map_cons] at r
    cases r with
    | cons r1 r2 =>
      obtain⟨t,e⟩:=(show ∃ t,_=Value.str n t from r1)
      subst e
      simp only[List.any_cons,any_strs x r2,eS]
theorem mem_strs:∀ {ns:List Str} {us:List Value},Vals (ns.map V.str) us->∀ y∈us,∃ j t,y=Value.str j t
  | [],us,r,y,hy=>by rw[List.map_nil] at r;cases r;simp at hy
  | n :: ns, us, r, y, hy => by
    rw[List.map_cons] at r
    cases r with
    | cons r1 r2 =>
      obtain⟨t,e⟩:=(show ∃ t,_=Value.str n t from r1)
      subst e
      rcases List.mem_cons.mp hy with rfl | hy
      · exact⟨n,t,rfl⟩
      · exact mem_strs r2 y hy
theorem in_strs{pins:List (Addr×Obj)}{σ:St}{H:Hp}{s:Shared}{x:D}{ys:List D}{ns:List Str}{u v:V}{w z:Value}(I:Inv X pins σ H s)(A:Around)(hA:A.units+2<cLine)(hx:Rep X.K H x u)(hd:dep x<=50)(hv:Rep X.K H (.tup ys) v)(hn:asSs ys=some ns)(ru:RelV u w)(rv:RelV v z) :
  (∀ (Q:Value->Shared->Prop) (E:Value->Shared->Prop),Q (.bool (ns.any fun t=>deq (.str t) x)) s->wpAny (model X.prog X.w) A (compareOp .In w z) Q E s)/\(∀ (Q:Value->Shared->Prop) (E:Value->Shared->Prop),Q (.bool (!ns.any fun t=>deq (.str t) x)) s->wpAny (model X.prog X.w) A (compareOp .NotIn w z) Q E s):=by
 obtain⟨a,vs,rfl,h1,h2⟩:=rep_tup hv
 cases (show z=Value.ref a from rv)
 have e:=asSs_rep hn h2
 subst e
 obtain⟨its,r,p⟩:=isT I h1
 have he:∀ y,y∈its.toArray->EqAt A.in1 s y w (eS x y):=fun y hy=>by
  obtain⟨j,t',rfl⟩:=mem_strs r y (by simpa using hy)
  exact eqAt_of I (.str j) x (.str j) u (.str j t') w A.in1 (by simp[Rep]) hx ⟨t',rfl⟩ ru (by rw[unit_in1];simp only[dep];omega) (by simp[dep]) (by omega)
 have ea:its.toArray.any (eS x)=ns.any fun t=>deq (.str t) x:=by
  rw[List.any_toArray];exact any_strs x r
 refine⟨fun Q E q=>in_tupleAt _ p he (by rw[ea];exact q),fun Q E q=>notIn_tupleAt _ p he (by rw[ea];exact q)⟩
theorem inT_ok{x:D}{ys:List D}{b:Bool}(h:inT x ys=some b):(∃ i ns,x=.int i/\asIs ys=some ns/\b=ns.any (· ==i))\/∃ ss,asSs ys=some ss/\dep x<=50/\b=ss.any fun t=>deq (.str t) x:=by
 have hS:∀ {b},inS x ys=some b->∃ ss,asSs ys=some ss/\dep x<=50/\b=ss.any fun t=>deq (.str t) x:=fun {b} h=>by
  unfold inS at h
  obtain⟨ss,h1,h2⟩:=Option.bind_eq_some_iff.mp h
  split at h2
  ·rename_i hd
   cases h2
   exact⟨ss,h1,by simpa using hd,rfl⟩
  ·cases h2
 unfold inT at h
 split at h
 ·rename_i i ns e1 e2
  cases x<;>simp[asI] at e1
  cases h
  subst e1
  exact .inl ⟨_,ns,rfl,e2,rfl⟩
 ·exact .inr (hS h)
theorem in_any{pins:List (Addr×Obj)}{σ:St}{H:Hp}{s:Shared}{x:D}{ys:List D}{b:Bool}{u v:V}{w z:Value}(I:Inv X pins σ H s)(A:Around)(hA:A.units+2<cLine)(hx:Rep X.K H x u)(hv:Rep X.K H (.tup ys) v)(h:inT x ys=some b)(ru:RelV u w)(rv:RelV v z) :
  (∀ (Q:Value->Shared->Prop) (E:Value->Shared->Prop),Q (.bool b) s->wpAny (model X.prog X.w) A (compareOp .In w z) Q E s)/\(∀ (Q:Value->Shared->Prop) (E:Value->Shared->Prop),Q (.bool (!b)) s->wpAny (model X.prog X.w) A (compareOp .NotIn w z) Q E s):=by
 rcases inT_ok h with⟨i,ns,rfl,e1,rfl⟩ | ⟨ss,e1,e2,rfl⟩
 ·exact in_ints I A (rep_int hx) hv e1 ru rv
 ·exact in_strs I A hA hx e2 hv e1 ru rv
theorem notIn_intsL{pins:List (Addr×Obj)}{σ:St}{H:Hp}{s:Shared}{i:Int}{ys:List D}{ns:List Int}{u v:V}{w z:Value}(I:Inv X pins σ H s)(A:Around)(hu:u=.int i)(hv:Rep X.K H (.lst ys) v)(hn:asIs ys=some ns)(ru:RelV u w)(rv:RelV v z) :
  ∀ (Q:Value->Shared->Prop) (E:Value->Shared->Prop),Q (.bool (!ns.any (· ==i))) s->wpAny (model X.prog X.w) A (compareOp .NotIn w z) Q E s:=by
 subst hu
 obtain⟨t,e⟩:=(show ∃ t,w=Value.int i t from ru)
 subst e
 obtain⟨a,vs,rfl,h1,h2⟩:=rep_lst hv
 cases (show z=Value.ref a from rv)
 have e:=asIs_rep hn h2
 subst e
 obtain⟨its,r,p,_⟩:=I.list h1
 have he:∀ y,y∈its.toArray->EqAt A.in1 s y (.int i t) (match y with | .int j _=>j==i | _=>false):=fun y hy=>by
  obtain⟨j,t',rfl⟩:=mem_ints r y (by simpa using hy)
  exact fun P w Q E q=>wpAny_eqBool_int q
 have ea:its.toArray.any (fun y=>match y with | .int j _=>j==i | _=>false)=ns.any (· ==i):=by
  rw[List.any_toArray];exact any_ints i r
 exact fun Q E q=>notIn_listAt _ p.isList he (by rw[ea];exact q)
theorem op_isB:OpR X (compareOp .Is) (fun x y H Q=>∃ a b,x=.bl a/\y=.bl b/\Q (.bl (a==b)) H):=by
 intro pins s σ H x y v u Q I rx ry h
 obtain⟨a,b,rfl,rfl,q⟩:=h
 cases (show v=Value.bool a from rx)
 cases (show u=Value.bool b from ry)
 cases a<;>cases b<;>exact wpAny_pure ⟨.bl _,H,I,rfl,q⟩
theorem op_notB:OpR X (compareOp .IsNot) (fun x y H Q=>∃ a b,x=.bl a/\y=.bl b/\Q (.bl (!(a==b))) H):=by
 intro pins s σ H x y v u Q I rx ry h
 obtain⟨a,b,rfl,rfl,q⟩:=h
 cases (show v=Value.bool a from rx)
 cases (show u=Value.bool b from ry)
 cases a<;>cases b<;>exact wpAny_pure ⟨.bl _,H,I,rfl,q⟩
theorem op_cmp(hr:Room k X.A)(op:CmpOp):OpR X (compareOp op) (rCmp X op):=by
 intro pins s σ H u v w z Q I ru rv h
 obtain⟨Hs,x,y,d,hs,rx,ry,hc,b,rfl,q⟩:=h
 have rx':=Rep.same hs x u rx
 have ry':=Rep.same hs y v ry
 unfold cmpop at hc
 split at hc
 ·split at hc
  ·rename_i hd
   rw[Bool.and_eq_true,decide_eq_true_eq,decide_eq_true_eq] at hd
   cases hc
   exact(cmpEq_of I X.A rx' ry' ru rv (by have:=hr.un;omega) (by omega) (by omega)).1 _ _ _ _ ⟨.bl _,H,I,rfl,q⟩
  ·cases hc
 ·split at hc
  ·rename_i hd
   rw[Bool.and_eq_true,decide_eq_true_eq,decide_eq_true_eq] at hd
   cases hc
   exact(cmpEq_of I X.A rx' ry' ru rv (by have:=hr.un;omega) (by omega) (by omega)).2 _ _ _ _ ⟨.bl _,H,I,rfl,q⟩
  ·cases hc
 ·cases hc;exact op_lt pins s σ H u v w z Q I ru rv ⟨_,_,rep_int rx,rep_int ry,q⟩
 ·cases hc;exact op_le pins s σ H u v w z Q I ru rv ⟨_,_,rep_int rx,rep_int ry,q⟩
 ·cases hc;exact op_gt pins s σ H u v w z Q I ru rv ⟨_,_,rep_int rx,rep_int ry,q⟩
 ·cases hc;exact op_ge pins s σ H u v w z Q I ru rv ⟨_,_,rep_int rx,rep_int ry,q⟩
 ·cases hc;rw[isNon_ok rx] at q;exact op_isN pins s σ H u v w z Q I ru rv ⟨rep_non ry,q⟩
 ·cases hc;rw[isNon_ok rx] at q;exact op_notN pins s σ H u v w z Q I ru rv ⟨rep_non ry,q⟩
 ·cases hc;exact op_isB pins s σ H u v w z Q I ru rv ⟨_,_,rep_bl rx,rep_bl ry,q⟩
 ·cases hc;exact op_notB pins s σ H u v w z Q I ru rv ⟨_,_,rep_bl rx,rep_bl ry,q⟩
 ·obtain⟨ns,hn,he⟩:=Option.map_eq_some_iff.mp hc
  cases he
  exact(in_any I X.A (by have:=hr.un;omega) rx' ry' hn ru rv).1 _ _ ⟨.bl _,H,I,rfl,q⟩
 ·obtain⟨ns,hn,he⟩:=Option.map_eq_some_iff.mp hc
  cases he
  exact(in_any I X.A (by have:=hr.un;omega) rx' ry' hn ru rv).2 _ _ ⟨.bl _,H,I,rfl,q⟩
 ·obtain⟨ns,hn,he⟩:=Option.map_eq_some_iff.mp hc
  cases he
  exact notIn_intsL I X.A (rep_int rx') ry' hn ru rv _ _ ⟨.bl _,H,I,rfl,q⟩
 ·cases hc
theorem cmp_bl{op:CmpOp}{x y d:D}(h:cmpop op x y=some d):∃ b,d=.bl b:=by
 unfold cmpop at h
 split at h<;>first | (cases h;exact⟨_,rfl⟩) | (obtain⟨_,_,rfl⟩:=Option.map_eq_some_iff.mp h;exact⟨_,rfl⟩) | (split at h<;>first | (cases h;exact⟨_,rfl⟩) | cases h) | cases h
theorem ev_cmp1{a b:Expr}{op:CmpOp}{x y d:D}{pos:Pos}(hr:Room k X.A)(ha:Ev X ρ a x)(hb:Ev X ρ b y)(hm:plainE b=true)(h:cmpop op x y=some d):Ev X ρ (.Compare a [op] [b] pos) d/\∀ c,d=.bl c->EvT X ρ (.Compare a [op] [b] pos) c:=by
 obtain⟨c,rfl⟩:=cmp_bl h
 refine⟨ev_two ha hb (pe_cmpR (op_cmp hr op) pe_sem pe_sem (plain_mark hm)) fun u v H Hs Q hs r1 r2 hq=>⟨Hs,x,y,_,hs,r1,r2,h,c,rfl,hq _ H Hs (.refl hs) (by simp[Rep])⟩,fun c' hc' σ H Hs Q hs hst hq=>?_⟩
 cases hc'
 refine(pt_cmpR (op_cmp hr op) pe_sem pe_sem (plain_mark hm)).sem (ha σ H Hs _ hs hst fun u H1 Hs1 E1 r1=>hb σ H1 Hs1 _ E1.sub (hst.same E1.vis) fun v H2 Hs2 E2 r2=>?_)
 exact⟨Hs2,x,y,_,E2.sub,Rep.same E2.vis x u r1,r2,h,c,rfl,c,rfl,hq H2 Hs2 (E1.trans E2)⟩
theorem last_ok{op op':CmpOp}{b c:Expr}(h:plainE c=true):lastMarks [op,op'] [b,c]=false:=plain_mark h
theorem ev_cmp2{a b e:Expr}{op op':CmpOp}{x y d:D}{c:Bool}{pos:Pos}(hr:Room k X.A)(ha:Ev X ρ a x)(hb:Ev X ρ b y)(hm:plainE e=true)(h:cmpop op x y=some (.bl c))(hd:(c=true->∃ z,Ev X ρ e z/\cmpop op' y z=some d)/\(c=false->d=.bl false)) :
    Ev X ρ (.Compare a [op,op'] [b,e] pos) d/\∀ c,d=.bl c->EvT X ρ (.Compare a [op,op'] [b,e] pos) c:=by
  have core:∀ σ H Hs Q,Same Hs H->RepSt X.K Hs ρ σ->(∀ v H' Hs',Ext Hs H Hs' H'->Rep X.K Hs' d v->Q v H')->tChain (rCmp X op) (rCmp X op') (tSem X a) (tSem X b) (tSem X e) σ H Q:=by
    intro σ H Hs Q hs hst hq
    refine ha σ H Hs _ hs hst fun u H1 Hs1 E1 r1=>hb σ H1 Hs1 _ E1.sub (hst.same E1.vis) fun v H2 Hs2 E2 r2=>?_
    refine⟨Hs2,x,y,_,E2.sub,Rep.same E2.vis x u r1,r2,h,c,rfl,c,rfl,?_⟩
    cases c with
    | false=>rw[hd.2 rfl] at hq;exact iteF (hq _ H2 Hs2 (E1.trans E2) (by simp[Rep]))
    | true =>
      obtain⟨z,hz,hc⟩:=hd.1 rfl
      obtain⟨c',rfl⟩:=cmp_bl hc
      refine iteT (hz σ H2 Hs2 _ E2.sub ((hst.same E1.vis).same E2.vis) fun w H3 Hs3 E3 r3=>?_)
      exact⟨Hs3,y,z,_,E3.sub,Rep.same E3.vis y v r2,r3,hc,c',rfl,hq _ H3 Hs3 (E1.trans (E2.trans E3)) (by simp[Rep])⟩
  refine⟨fun σ H Hs Q hs hst hq=>(pe_chain (op_cmp hr op) (op_cmp hr op') pe_sem pe_sem pe_sem (last_ok hm)).sem (core σ H Hs Q hs hst hq),fun c' hc' σ H Hs Q hs hst hq=>?_⟩
  subst hc'
  exact(pt_chain (op_cmp hr op) (op_cmp hr op') pe_sem pe_sem pe_sem (last_ok hm)).sem (core σ H Hs _ hs hst fun v H' Hs' E1 r1=>⟨c',rep_bl r1,hq H' Hs' E1⟩)
theorem ev_if{c a b:Expr}{t:Bool}{d:D}{pos:Pos}(hc:EvT X ρ c t)(ha:t=true->Ev X ρ a d)(hb:t=false->Ev X ρ b d):Ev X ρ (.IfExp c a b pos) d:=fun σ H Hs Q hs hst hq =>
  (pe_ifExp pt_sem pe_sem pe_sem).sem (hc σ H Hs _ hs hst fun H1 Hs1 E1=>by
    cases t with
    | true=>exact iteT (ha rfl σ H1 Hs1 Q E1.sub (hst.same E1.vis) fun v H' Hs' E2 r=>hq v H' Hs' (E1.trans E2) r)
    | false=>exact iteF (hb rfl σ H1 Hs1 Q E1.sub (hst.same E1.vis) fun v H' Hs' E2 r=>hq v H' Hs' (E1.trans E2) r))
theorem evT_if{c a b:Expr}{t r:Bool}{pos:Pos}(hc:EvT X ρ c t)(ha:t=true->EvT X ρ a r)(hb:t=false->EvT X ρ b r):EvT X ρ (.IfExp c a b pos) r:=by
 intro σ H Hs Q hs hst hq pins s I
 refine isTrue_IfExp (thn (hc σ H Hs (fun b' H'=>b'=t/\∃ Hs',Ext Hs H Hs' H') hs hst (fun H1 Hs1 E1=>⟨rfl,Hs1,E1⟩) pins s I) fun b' s2 ⟨H2,I2,e2,Hs2,E2⟩=>?_)
 subst e2
 cases b' with
 | true=>exact iteT (ha rfl σ H2 Hs2 Q E2.sub (hst.same E2.vis) (fun H' Hs' E3=>hq H' Hs' (E2.trans E3)) pins s2 I2)
 | false=>exact iteF (hb rfl σ H2 Hs2 Q E2.sub (hst.same E2.vis) (fun H' Hs' E3=>hq H' Hs' (E2.trans E3)) pins s2 I2)
theorem ev_args{f:Expr->Option D}:∀ {es:List Expr} {ds:List D},(∀ e∈es,∀ d,f e=some d->Ev X ρ e d/\plainE e=true)->mapO f es=some ds->EvA X ρ es ds/\(∀ e∈es,plainE e=true)
  | [], ds, _, h => by
    simp only[mapO,Option.some.injEq] at h
    subst h
    exact⟨fun σ H Hs Q hs hst hq=>pa_nil.sem (hq [] H Hs (.refl hs) .nil),fun e he=>absurd he (by simp)⟩
  | e :: es, ds, hf, h => by
    simp only[mapO,bind,Option.bind] at h
    cases he:f e with
    | none=>rw[he] at h;cases h
    | some d =>
      rw[he] at h
      simp only at h
      cases hr:mapO f es with
      | none=>rw[hr] at h;cases h
      | some dr =>
        rw[hr] at h
        simp only[Option.some.injEq] at h
        subst h
        obtain⟨h1,hp⟩:=hf e (by simp) d he
        obtain⟨h2,hps⟩:=ev_args (fun a ha=>hf a (List.mem_cons_of_mem _ ha)) hr
        refine⟨fun σ H Hs Q hs hst hq=>(pa_cons pe_sem pa_sem (plain_star hp)).sem (h1 σ H Hs _ hs hst fun v H1 Hs1 E1 r1=>h2 σ H1 Hs1 _ E1.sub (hst.same E1.vis) fun vs H2 Hs2 E2 r2=>?_),fun a ha=>?_⟩
        · exact hq _ H2 Hs2 (E1.trans E2) (.cons (Rep.same E2.vis d v r1) r2)
        · rcases List.mem_cons.mp ha with rfl | ha
          · exact hp
          · exact hps a ha
theorem ev_tuple{es:List Expr}{ds:List D}{j:Nat}{pos:Pos}(h:EvA X ρ es ds)(hz:szl ds.length=true):Ev X ρ (.Tuple es j pos) (.tup ds):=fun σ H Hs Q hs hst hq =>
 (pe_tup pa_sem).sem (h σ H Hs _ hs hst fun vs H1 Hs1 E1 r1=>⟨by rw[<- r1.length];exact szl_ok hz,fun p hp=>new_tup E1.sub r1 hp fun w H' Hs' E2 r2=>hq w H' Hs' (E1.trans E2) r2⟩)
theorem ev_list{es:List Expr}{ds:List D}{pos:Pos}(h:EvA X ρ es ds)(hz:szl ds.length=true):Ev X ρ (.List es pos) (.lst ds):=fun σ H Hs Q hs hst hq =>
 (pe_lst pa_sem).sem (h σ H Hs _ hs hst fun vs H1 Hs1 E1 r1=>⟨by rw[<- r1.length];exact szl_ok hz,fun p hp=>new_lst E1.sub r1 hp fun w H' Hs' E2 r2=>hq w H' Hs' (E1.trans E2) r2⟩)
theorem ixD_eq(n:Nat)(i:Int):ixD n i=ixN n i:=rfl
theorem atD_rep{K:PySem.W.Frag}{H:Hp}{ds:List D}{vs:List V}{i:Int}{d:D}(h:RepL K H ds vs)(e:atD ds i=some d):∃ v,atI vs i=some v/\Rep K H d v:=by
  unfold atD at e
  rw[ixD_eq,h.length] at e
  cases q:ixN vs.length i with
  | none=>rw[q] at e;cases e
  | some j =>
    rw[q] at e
    obtain⟨v,h1,h2⟩:=h.get (i:=j) (d:=d) e
    exact⟨v,by unfold atI;rw[q];exact h1,h2⟩
theorem rep_dic{K:PySem.W.Frag}{H:Hp}{ks:List (Sum Int Str)}{ds:List D}{v:V}(h:Rep K H (.dic ks ds) v):∃ (a:Addr) (kvs:List (Key×V)),v=.ref a/\Rd H a (.dK kvs)/\kvs.map (·.1)=ks/\RepL K H ds (kvs.map (·.2)):=by simpa[Rep] using h
theorem val_rep{K:PySem.W.Frag}{H:Hp}{k:Key}{d:D}:∀ {kvs:List (Key×V)} {ds:List D},RepL K H ds (kvs.map (·.2))->valD (kvs.map (·.1)) ds k=some d->∃ v,valV kvs k=some v/\Rep K H d v
  | [],ds,r,h=>by simp[valD] at h
  | (k', v') :: kvs, ds, r, h => by
    cases ds with
    | nil=>simp[valD] at h
    | cons d' ds =>
      simp only[List.map_cons,RepL] at r
      obtain⟨v,rr,e,h2,h3⟩:=r
      cases e
      unfold valD at h
      simp only[List.map_cons,List.zip_cons_cons,List.find?_cons] at h
      unfold valV
      rw[List.find?_cons]
      by_cases q:k'=k
      · simp only[q,decide_true] at h ⊢
        simp only[Option.map_some,Option.some.injEq] at h ⊢
        subst h
        exact⟨v',rfl,h2⟩
      · simp only[q,decide_false] at h ⊢
        exact val_rep h3 h
theorem val_non{K:PySem.W.Frag}{H:Hp}{k:Key}:∀ {kvs:List (Key×V)} {ds:List D},RepL K H ds (kvs.map (·.2))->valD (kvs.map (·.1)) ds k=none->valV kvs k=none
  | [],ds,r,h=>rfl
  | (k', v') :: kvs, ds, r, h => by
    cases ds with
    | nil=>simp[RepL] at r
    | cons d' ds =>
      simp only[List.map_cons,RepL] at r
      obtain⟨v,rr,e,h2,h3⟩:=r
      cases e
      unfold valD at h
      simp only[List.map_cons,List.zip_cons_cons,List.find?_cons] at h
      unfold valV
      rw[List.find?_cons]
      by_cases q:k'=k
      · simp only[q,decide_true] at h
        simp at h
      · simp only[q,decide_false] at h ⊢
        exact val_non h3 h
theorem key_rep{K:PySem.W.Frag}{H:Hp}{d:D}{v:V}{k:Key}(h:keyD d=some k)(r:Rep K H d v):v=kV k:=by
 cases d<;>simp[keyD] at h
 ·subst h;exact rep_int r
 ·subst h
  rename_i x
  have e:v=.str x:=by simpa[Rep] using r
  exact e
theorem ev_dsub{a b:Expr}{ks:List (Sum Int Str)}{ds:List D}{y d:D}{k':Key}{pos:Pos}(hr:Room k X.A)(ha:Ev X ρ a (.dic ks ds))(hb:Ev X ρ b y)(hp:plainE b=true)(hk:keyD y=some k')(hd:valD ks ds k'=some d):Ev X ρ (.Subscript a b pos) d:=by
 intro σ H Hs Q hs hst hq
 refine PE.sem (pe_dget (hu_of hr) pe_sem pe_sem fun ov iv=>plain_ix hp ov iv) (ha σ H Hs _ hs hst fun v H1 Hs1 E1 r1=>hb σ H1 Hs1 _ E1.sub (hst.same E1.vis) fun u H2 Hs2 E2 r2=>?_)
 have rdE:∀ {H1 H2:Hp} {a:Addr} {u:HO},Same H1 H2->Rd H1 a u->Rd H2 a u:=fun e r=>r.elim (fun q=>.inl (e _ _ q)) fun⟨o,q⟩=>.inr ⟨o,e _ _ q⟩
 obtain⟨p,kvs,rfl,h1,rfl,h3⟩:=rep_dic (Rep.same E2.vis _ v r1)
 obtain⟨w,h4,h5⟩:=val_rep h3 hd
 exact⟨p,w,rfl,.inl ⟨kvs,k',rdE E2.sub h1,key_rep hk r2,h4.symm⟩,hq w H2 Hs2 (E1.trans E2) h5⟩
theorem obd{α β:Type}{x:Option α}{f:α->Option β}{b:β}(h:(x >>=f)=some b):∃ a,x=some a/\f a=some b:=Option.bind_eq_some_iff.mp h
def semP(X:Cx):List (Option Expr)->List Expr->List (TE×TE)
 | some k::ks,v::vs=>(tSem X k,tSem X v)::semP X ks vs
 | _,_=>[]
theorem pairs_shape{f:Expr->Option D}:∀ {ks:List (Option Expr)} {vs:List Expr} {l:List (Sum Int Str×D)} {pos:Pos},pairsO f ks vs=some l->PPs X pos ks vs (semP X ks vs)/\ks.all (·.isSome)=true/\ks.length=vs.length/\l.length=ks.length
  | [],[],l,pos,h=>by simp only[pairsO,Option.some.injEq] at h;subst h;exact⟨pps_nil,rfl,rfl,rfl⟩
  | some k :: ks, v :: vs, l, pos, h => by
    simp only[pairsO] at h
    obtain⟨x,h1,h⟩:=obd h
    obtain⟨d,h2,h⟩:=obd h
    obtain⟨r,h3,h⟩:=obd h
    cases h
    obtain⟨a1,a2,a3,a4⟩:=pairs_shape (pos:=pos) h3
    exact⟨pps_cons pe_sem pe_sem a1,by simpa using a2,by simp[a3],by simp[a4]⟩
  | [],_::_,l,pos,h=>by simp[pairsO] at h
  | none::ks,vs,l,pos,h=>by cases vs<;>simp[pairsO] at h
  | some k::ks,[],l,pos,h=>by simp[pairsO] at h
def RepP(K:PySem.W.Frag)(H:Hp)(l:List (Sum Int Str×D))(kvs:List (Key×V)):Prop:=kvs.map (·.1)=l.map (·.1)/\RepL K H (l.map (·.2)) (kvs.map (·.2))
theorem RepP.nil{K:PySem.W.Frag}{H:Hp}:RepP K H [] []:=⟨rfl,.nil⟩
theorem RepP.cons{K:PySem.W.Frag}{H:Hp}{l:List (Sum Int Str×D)}{kvs:List (Key×V)}{k:Key}{d:D}{v:V}(h:Rep K H d v)(r:RepP K H l kvs):RepP K H ((k,d)::l) ((k,v)::kvs):=⟨by simp[r.1],.cons h r.2⟩
theorem RepP.inv{K:PySem.W.Frag}{H:Hp}{k:Key}{d:D}{l:List (Sum Int Str×D)}{kvs:List (Key×V)}(r:RepP K H ((k,d)::l) kvs):∃ v kvs',kvs=(k,v)::kvs'/\Rep K H d v/\RepP K H l kvs':=by
  obtain⟨r1,r2⟩:=r
  cases kvs with
  | nil=>simp at r1
  | cons q kvs =>
    obtain⟨k',v⟩:=q
    simp only[List.map_cons,List.cons.injEq] at r1
    simp only[List.map_cons,RepL] at r2
    obtain⟨v',rr,e,h2,h3⟩:=r2
    cases e
    exact⟨v,kvs,by rw[r1.1],h2,r1.2,h3⟩
theorem RepP.nil_inv{K:PySem.W.Frag}{H:Hp}{kvs:List (Key×V)}(r:RepP K H [] kvs):kvs=[]:=by
 have:=r.1
 simpa using this
theorem RepP.any{K:PySem.W.Frag}{H:Hp}(k:Key):∀ {l:List (Sum Int Str×D)} {kvs:List (Key×V)},RepP K H l kvs->(l.any fun q=>decide (q.1=k))=kvs.any fun q=>decide (q.1=k)
  | [],kvs,r=>by rw[r.nil_inv];rfl
  | (k', d) :: l, kvs, r => by
    obtain⟨v,kvs',rfl,_,r'⟩:=r.inv
    simp only[List.any_cons,RepP.any k r']
theorem RepP.repl{K:PySem.W.Frag}{H:Hp}{k:Key}{d:D}{v:V}(hd:Rep K H d v):∀ {l:List (Sum Int Str×D)} {kvs:List (Key×V)},RepP K H l kvs->RepP K H (l.map fun q=>if q.1=k then(q.1,d) else q) (kvs.map fun q=>if q.1=k then(q.1,v) else q)
  | [],kvs,r=>by rw[r.nil_inv];exact .nil
  | (k', d') :: l, kvs, r => by
    obtain⟨v',kvs',rfl,h,r'⟩:=r.inv
    simp only[List.map_cons]
    by_cases q:k'=k
    · rw[if_pos q,if_pos q];exact .cons hd (RepP.repl hd r')
    · rw[if_neg q,if_neg q];exact .cons h (RepP.repl hd r')
theorem RepP.snoc{K:PySem.W.Frag}{H:Hp}{k:Key}{d:D}{v:V}(hd:Rep K H d v):∀ {l:List (Sum Int Str×D)} {kvs:List (Key×V)},RepP K H l kvs->RepP K H (l++[(k,d)]) (kvs++[(k,v)])
  | [],kvs,r=>by rw[r.nil_inv];exact .cons hd .nil
  | (k', d') :: l, kvs, r => by
    obtain⟨v',kvs',rfl,h,r'⟩:=r.inv
    exact .cons h (RepP.snoc hd r')
theorem RepP.put{K:PySem.W.Frag}{H:Hp}{k:Key}{d:D}{v:V}{l:List (Sum Int Str×D)}{kvs:List (Key×V)}(hd:Rep K H d v)(r:RepP K H l kvs):RepP K H (putD l k d) (putK kvs k v):=by
 unfold putD putK
 rw[r.any k]
 split
 ·exact r.repl hd
 ·exact r.snoc hd
theorem RepP.mrg{K:PySem.W.Frag}{H:Hp}:∀ {l:List (Sum Int Str×D)} {kvs:List (Key×V)} {a:List (Sum Int Str×D)} {b:List (Key×V)},RepP K H l kvs->RepP K H a b->RepP K H (l.foldl (fun a q=>putD a q.1 q.2) a) (mergeK b kvs)
  | [],kvs,a,b,r,r2=>by rw[r.nil_inv];exact r2
  | (k', d') :: l, kvs, a, b, r, r2 => by
    obtain⟨v',kvs',rfl,h,r'⟩:=r.inv
    exact RepP.mrg (l:=l) (kvs:=kvs') r' (r2.put h)
theorem pairs_read{f:Expr->Option D}(hf:∀ e d,f e=some d->Ev X ρ e d):∀ {ks:List (Option Expr)} {vs:List Expr} {l:List (Sum Int Str×D)},pairsO f ks vs=some l->∀ σ H Hs (Q:List (V×V)->Hp->Prop),Same Hs H->RepSt X.K Hs ρ σ ->
    (∀ kvs H' Hs',Ext Hs H Hs' H'->RepP X.K Hs' l kvs->Q (kvs.map fun q=>(kV q.1,q.2)) H')->tPairs (semP X ks vs) σ H Q
  | [], [], l, h, σ, H, Hs, Q, hs, hst, hq => by
    simp only[pairsO,Option.some.injEq] at h;subst h
    exact hq [] H Hs (.refl hs) .nil
  | some k :: ks, v :: vs, l, h, σ, H, Hs, Q, hs, hst, hq => by
    simp only[pairsO] at h
    obtain⟨x,h1,h⟩:=obd h
    obtain⟨d,h2,h⟩:=obd h
    obtain⟨r,h3,h⟩:=obd h
    cases h
    obtain⟨kd,h4,h5⟩:=obd (show(f k >>=keyD)=some x from h1)
    refine hf _ _ h4 σ H Hs _ hs hst fun u H1 Hs1 E1 r1=>hf _ _ h2 σ H1 Hs1 _ E1.sub (hst.same E1.vis) fun w H2 Hs2 E2 r2=>?_
    refine pairs_read hf h3 σ H2 Hs2 _ E2.sub ((hst.same E1.vis).same E2.vis) fun kvs H3 Hs3 E3 r3=>?_
    have:=hq ((x,w)::kvs) H3 Hs3 (E1.trans (E2.trans E3)) (.cons (Rep.same E3.vis _ _ r2) r3)
    rw[List.map_cons,<- key_rep h5 r1] at this
    exact this
  | [],_::_,l,h,_,_,_,_,_,_,_=>by simp[pairsO] at h
  | none::ks,vs,l,h,_,_,_,_,_,_,_=>by cases vs<;>simp[pairsO] at h
  | some k::ks,[],l,h,_,_,_,_,_,_,_=>by simp[pairsO] at h
theorem ev_dict{f:Expr->Option D}{ks:List (Option Expr)}{vs:List Expr}{l:List (Sum Int Str×D)}{pos:Pos}(hf:∀ e d,f e=some d->Ev X ρ e d)(h0:ks.isEmpty=false)(h15:ks.length<=15)(h:pairsO f ks vs=some l):Ev X ρ (.Dict ks vs pos) (dicOf (mrgD l)):=by
  intro σ H Hs Q hs hst hq
  obtain⟨a1,a2,a3,a4⟩:=pairs_shape (X:=X) (pos:=pos) h
  refine PE.sem (pe_disp a1 a2 a3 (by intro e;rw[e] at h0;simp at h0) h15) fun p hp=>?_
  have Hn:Hs p=none:=by
    cases e:Hs p with
    | none=>rfl
    | some u=>rw[hs _ _ e] at hp;cases hp
  have hs1:Same Hs (upd H p (.dK [])):=fun b u e=>by rw[upd_ne (ne_of_none e Hn)];exact hs b u e
  refine pairs_read hf h σ _ Hs _ hs1 hst fun kvs H' Hs' E r=>?_
  have hH':H' p=some (.dK []):=E.all _ _ upd_same
  have Hn':Hs' p=none:=E.hid _ _ upd_same Hn
  have hz:kvs.length=l.length:=by have:=congrArg List.length r.1;simpa using this
  refine⟨hH',kvs,rfl,by omega,?_⟩
  have E2:Ext Hs H (upd Hs' p (.dK (mergeK [] kvs))) (upd H' p (.dK (mergeK [] kvs))) :=
    { vis := fun b u e => by rw [upd_ne (ne_of_none e Hn)]; exact E.vis b u e
      all:=fun b u e=>by rw[upd_ne (ne_of_none e hp)];exact E.all b u (by rw[upd_ne (ne_of_none e hp)];exact e)
      sub:=fun b u e=>by
        by_cases hb:b=p
        · subst hb;rw[upd_same] at e ⊢;exact e
        · rw[upd_ne hb] at e ⊢;exact E.sub b u e
      hid:=fun b u e n=>by rw[upd_ne (ne_of_none e hp)];exact E.hid b u (by rw[upd_ne (ne_of_none e hp)];exact e) n }
  refine hq _ _ _ E2 ?_
  have r2:=RepP.mrg (a:=[]) (b:=[]) r .nil
  simp only[dicOf,Rep]
  refine⟨p,mergeK [] kvs,rfl,.inl upd_same,r2.1,RepL.same (fun b u e=>?_) _ _ r2.2⟩
  rw[upd_ne (ne_of_none e Hn')];exact e
theorem ev_get2{o e e2:Expr}{x y z d:D}{ap pos:Pos}(hr:Room k X.A)(ho:Ev X ρ o x)(hb:attributeBase o "get" X.env (eval o X.env)=eval o X.env)(hl:(ap.endLine==pos.line)=true)(h1:Ev X ρ e y)(p1:plainE e=true)(h2:Ev X ρ e2 z)(p2:plainE e2=true)(h:getD2 x y z=some d) :
    Ev X ρ (.Call (.Attribute o "get" ap) [e,e2] [] pos) d:=by
  cases x<;>simp only[getD2] at h
  all_goals first | cases h | skip
  rename_i ks ds
  obtain⟨k',hk,rfl⟩:=Option.map_eq_some_iff.mp h
  intro σ H Hs Q hs hst hq
  have m:M2 X o "get" ap e e2 pos:=⟨hb,by simp only[starEach,plain_star p1,plain_star p2];rfl,hl,by simp only[starEach,plain_star p1,plain_star p2];rfl⟩
  have rdE:∀ {H1 H2:Hp} {a:Addr} {u:HO},Same H1 H2->Rd H1 a u->Rd H2 a u:=fun e r=>r.elim (fun q=>.inl (e _ _ q)) fun⟨o,q⟩=>.inr ⟨o,e _ _ q⟩
  refine PE.sem (pe_dget2 (hu_of hr) pe_sem pe_sem pe_sem m) (ho σ H Hs _ hs hst fun v H1 Hs1 E1 r1=>?_)
  obtain⟨p,kvs,rfl,g1,rfl,g3⟩:=rep_dic r1
  refine⟨p,rfl,.inl ⟨kvs,rdE E1.sub g1⟩,h1 σ H1 Hs1 _ E1.sub (hst.same E1.vis) fun u H2 Hs2 E2 r2=>h2 σ H2 Hs2 _ E2.sub ((hst.same E1.vis).same E2.vis) fun w H3 Hs3 E3 r3=>?_⟩
  have E23:=E2.trans E3
  have g3':=RepL.same E23.vis _ _ g3
  refine⟨valV kvs k',.inl ⟨kvs,k',rdE E3.sub (rdE E23.vis g1),key_rep hk r2,rfl⟩,hq _ H3 Hs3 (E1.trans E23) ?_⟩
  cases e:valD (kvs.map (·.1)) ds k' with
  | none=>rw[val_non g3' e];exact r3
  | some d =>
    obtain⟨v,e1,e2⟩:=val_rep g3' e
    rw[e1]
    exact e2
theorem ev_index{a b:Expr}{x d:D}{i:Int}{xs:List D}{pos:Pos}(ha:Ev X ρ a x)(hb:Ev X ρ b (.int i))(hp:plainE b=true)(hx:items x=some xs)(hd:atD xs i=some d):Ev X ρ (.Subscript a b pos) d:=by
  cases x with
  | tup ys =>
    simp only[items,Option.some.injEq] at hx
    subst hx
    refine ev_two ha hb (pe_ix ix_tup pe_sem pe_sem (plain_ix hp)) fun u v H Hs Q hs r1 r2 hq=>?_
    obtain⟨p,vs,rfl,h1,h2⟩:=rep_tup r1
    obtain⟨w,h3,h4⟩:=atD_rep h2 hd
    exact⟨p,vs,i,w,rfl,rep_int r2,hs.tup h1,h3,hq w H Hs (.refl hs) h4⟩
  | lst ys =>
    simp only[items,Option.some.injEq] at hx
    subst hx
    refine ev_two ha hb (pe_ix ix_list pe_sem pe_sem (plain_ix hp)) fun u v H Hs Q hs r1 r2 hq=>?_
    obtain⟨p,vs,rfl,h1,h2⟩:=rep_lst r1
    obtain⟨w,h3,h4⟩:=atD_rep h2 hd
    exact⟨p,vs,i,w,rfl,rep_int r2,hs.seq h1,h3,hq w H Hs (.refl hs) h4⟩
  | _=>simp[items] at hx
theorem sIxD_eq(n d:Nat)(o:Option Int):sIxD n d o=HT.sIx n d o:=by cases o<;>rfl
theorem cut_rep{K:PySem.W.Frag}{H:Hp}{ds:List D}{vs:List V}(lo hi:Option Int)(h:RepL K H ds vs):RepL K H (cutT ds lo hi) (cutV vs lo hi):=by
 unfold cutT cutV
 rw[sIxD_eq,sIxD_eq,h.length]
 exact(h.drop _).take _
def EvO(X:Cx)(ρ:Rho)(e:Option Expr)(o:Option Int):Prop:=∃ t:TO,PO X e t/\∀ σ H Hs Q,Same Hs H->RepSt X.K Hs ρ σ->(∀ H' Hs',Ext Hs H Hs' H'->Q o H')->t σ H Q
theorem evO_none:EvO X ρ none none:=⟨_,po_none,fun σ H Hs Q hs hst hq=>hq H Hs (.refl hs)⟩
theorem evO_some{e:Expr}{i:Int}(h:Ev X ρ e (.int i)):EvO X ρ (some e) (some i):=⟨_,po_some pe_sem,fun σ H Hs Q hs hst hq=>h σ H Hs _ hs hst fun v H' Hs' E1 r1=>⟨i,rep_int r1,hq H' Hs' E1⟩⟩
theorem ev_slice{a:Expr}{lo hi:Option Expr}{l u:Option Int}{xs:List D}{p2 pos:Pos}(ha:Ev X ρ a (.tup xs))(hl:EvO X ρ lo l)(hu:EvO X ρ hi u)(hw:¬ (sIxD xs.length 0 l=0/\sIxD xs.length xs.length u=xs.length)) :
  Ev X ρ (.Subscript a (.Slice lo hi none p2) pos) (.tup (cutT xs l u)):=by
 obtain⟨tl,pl,ql⟩:=hl
 obtain⟨tu,pu,qu⟩:=hu
 intro σ H Hs Q hs hst hq
 refine(pe_slice sl_tup pe_sem pl pu).sem (ha σ H Hs _ hs hst fun v H1 Hs1 E1 r1=>ql σ H1 Hs1 _ E1.sub (hst.same E1.vis) fun H2 Hs2 E2=>qu σ H2 Hs2 _ E2.sub ((hst.same E1.vis).same E2.vis) fun H3 Hs3 E3=>?_)
 obtain⟨p,vs,rfl,h1,h2⟩:=rep_tup (Rep.same (E2.trans E3).vis _ _ r1)
 refine⟨p,vs,rfl,E3.sub.tup h1,?_,fun q hq'=>new_tup E3.sub (cut_rep l u h2) hq' fun w H' Hs' E4 r4=>hq w H' Hs' (E1.trans (E2.trans (E3.trans E4))) r4⟩
 rw[sIxD_eq,sIxD_eq,h2.length] at hw
 exact hw
theorem ev_sliceW{a:Expr}{lo hi:Option Expr}{l u:Option Int}{xs:List D}{p2 pos:Pos}(ha:Ev X ρ a (.tup xs))(hl:EvO X ρ lo l)(hu:EvO X ρ hi u)(hw:sIxD xs.length 0 l=0/\sIxD xs.length xs.length u=xs.length) :
  Ev X ρ (.Subscript a (.Slice lo hi none p2) pos) (.tup xs):=by
 obtain⟨tl,pl,ql⟩:=hl
 obtain⟨tu,pu,qu⟩:=hu
 intro σ H Hs Q hs hst hq
 refine(pe_slice sl_tupW pe_sem pl pu).sem (ha σ H Hs _ hs hst fun v H1 Hs1 E1 r1=>ql σ H1 Hs1 _ E1.sub (hst.same E1.vis) fun H2 Hs2 E2=>qu σ H2 Hs2 _ E2.sub ((hst.same E1.vis).same E2.vis) fun H3 Hs3 E3=>?_)
 have r3:=Rep.same (E2.trans E3).vis _ _ r1
 obtain⟨p,vs,rfl,h1,h2⟩:=rep_tup r3
 refine⟨p,vs,rfl,E3.sub.tup h1,?_,hq _ H3 Hs3 (E1.trans (E2.trans E3)) r3⟩
 rw[sIxD_eq,sIxD_eq,h2.length] at hw
 exact hw
theorem ev_sliceL{a:Expr}{lo hi:Option Expr}{l u:Option Int}{xs:List D}{p2 pos:Pos}(ha:Ev X ρ a (.lst xs))(hl:EvO X ρ lo l)(hu:EvO X ρ hi u) :
  Ev X ρ (.Subscript a (.Slice lo hi none p2) pos) (.lst (cutT xs l u)):=by
 obtain⟨tl,pl,ql⟩:=hl
 obtain⟨tu,pu,qu⟩:=hu
 intro σ H Hs Q hs hst hq
 refine(pe_slice sl_list pe_sem pl pu).sem (ha σ H Hs _ hs hst fun v H1 Hs1 E1 r1=>ql σ H1 Hs1 _ E1.sub (hst.same E1.vis) fun H2 Hs2 E2=>qu σ H2 Hs2 _ E2.sub ((hst.same E1.vis).same E2.vis) fun H3 Hs3 E3=>?_)
 obtain⟨p,vs,rfl,h1,h2⟩:=rep_lst (Rep.same (E2.trans E3).vis _ _ r1)
 exact⟨p,vs,rfl,E3.sub.seq h1,fun q hq'=>new_lst E3.sub (cut_rep l u h2) hq' fun w H' Hs' E4 r4=>hq w H' Hs' (E1.trans (E2.trans (E3.trans E4))) r4⟩
theorem ev_call{f:Str}{es:List Expr}{ds:List D}{d:D}{p pos:Pos}(G:Good cx k X sc)(hg:Gl X f)(hf:cx.fns.contains f=true)(hne:es≠[])(h:EvA X ρ es ds)(hp:∀ e∈es,plainE e=true)(hc:cx.call f ds=some d) :
    Ev X ρ (.Call (.Name f p) es [] pos) d:=by
  obtain⟨hdb,a,fd,ps,har,_,hm,hk,hb,F⟩:=G.fns f hf
  cases es with
  | nil=>exact absurd rfl hne
  | cons e es =>
    intro σ H Hs Q hs hst hq
    refine(pe_call F G.room hg hm hk hb .nil pass1 pa_sem hdb (plain_star (hp e (by simp))) (stars_any fun e' he=>hp e' (List.mem_cons_of_mem _ he))).sem (h σ H Hs _ hs hst fun vs H1 Hs1 E1 r1=>?_)
    refine⟨?_,Hs1,ds,E1.sub,?_,.inl ⟨d,hc,fun v H' Hs' E2 r2=>hq v H' Hs' (E1.trans E2) r2⟩⟩
    · rw[List.append_nil,<- r1.length,har ds d hc]
    · rw[List.append_nil];exact r1
theorem fns_at(G:Good cx k X sc):∀ {es:List Expr} {fs:List Str},fnNames cx sc es=some fs->∃ as:List Addr,as.length=fs.length/\(∀ (j:Nat) (f:Str),fs[j]?=some f->cx.fns.contains f=true/\∃ a,as[j]?=some a/\X.mg f=some (.ref a))/\∀ σ H Q,Q (as.map V.ref) H->tSemA X es σ H Q
  | [], fs, h => by
    simp only[fnNames,Option.some.injEq] at h
    subst h
    exact⟨[],rfl,fun j f e=>by simp at e,fun σ H Q q=>pa_nil.sem q⟩
  | e :: es, fs, h => by
    unfold fnNames at h
    split at h
    · rename_i q;cases q
    · rename_i x p r q
      cases q
      split at h
      · rename_i hc
        rw[Bool.and_eq_true] at hc
        obtain⟨fr,h1,rfl⟩:=Option.map_eq_some_iff.mp h
        obtain⟨as,g1,g2,g3⟩:=fns_at G h1
        obtain⟨hdb,a,fd,ps,_,_,hm,_⟩:=G.fns x hc.2
        have hg:Gl X x:=by
          have e:sc.names.lookup x=some .globalImplicit:=by have:=hc.1;unfold isGl at this;simpa using this
          show X.env.scope.names.lookup x=_
          rw[G.sce,e]
        refine⟨a::as,by simp[g1],fun j f e=>?_,fun σ H Q q=>(pa_cons (pe_glob (v:=.ref a) hg hm rfl hdb) pa_sem (plain_star rfl)).sem (g3 σ H _ q)⟩
        cases j with
        | zero=>simp at e;subst e;exact⟨hc.2,a,rfl,hm⟩
        | succ j=>exact g2 j f (by simpa using e)
      · cases h
    · cases h
theorem ev_fnAt{f:Str}{es:List Expr}{ix:Expr}{i:Int}{p1 p2:Pos}(G:Good cx k X sc)(hf:fnAt cx sc es i=some f)(hi:Ev X ρ ix (.int i))(hpi:plainE ix=true):cx.fns.contains f=true/\∃ a,X.mg f=some (.ref a) /\
    ∀ σ H Hs Q,Same Hs H->RepSt X.K Hs ρ σ->(∀ H' Hs',Ext Hs H Hs' H'->Q (.ref a) H')->tSem X (.Subscript (.List es p1) ix p2) σ H Q:=by
  unfold fnAt at hf
  cases hn:fnNames cx sc es with
  | none=>rw[hn] at hf;cases hf
  | some fs =>
    rw[hn] at hf
    have hf':(if szl fs.length then(ixD fs.length i).bind fun j=>fs[j]? else none)=some f:=hf
    split at hf'
    · rename_i hz
      obtain⟨j,q1,q2⟩:=Option.bind_eq_some_iff.mp hf'
      obtain⟨as,g1,g2,g3⟩:=fns_at (X:=X) G hn
      obtain⟨c1,a,c2,c3⟩:=g2 j f q2
      refine⟨c1,a,c3,fun σ H Hs Q hs hst hq=>?_⟩
      refine(pe_ix ix_list pe_sem pe_sem (plain_ix hpi)).sem ((pe_lst pa_sem).sem (g3 σ H _ ⟨by rw[List.length_map,g1];exact szl_ok hz,fun p hp=>?_⟩))
      have E0:Ext Hs H Hs (upd H p (.lst (as.map V.ref))):={
        vis:=fun b u e=>e
        all:=fun b u e=>by rw[upd_ne (ne_of_none e hp)];exact e
        sub:=fun b u e=>by rw[upd_ne (ne_of_none (hs b u e) hp)];exact hs b u e
        hid:=fun b u e n=>n }
      refine hi σ _ Hs _ E0.sub hst fun v H1 Hs1 E1 r1=>?_
      refine⟨p,as.map V.ref,i,.ref a,rfl,rep_int r1,.of (E1.all _ _ upd_same),?_,hq H1 Hs1 (E0.trans E1)⟩
      unfold atI
      rw[List.length_map,g1,<- ixD_eq,q1]
      show(as.map V.ref)[j]?=_
      rw[List.getElem?_map,c2];rfl
    · cases hf'
theorem ev_callF{f:Str}{es args:List Expr}{ix:Expr}{i:Int}{ds:List D}{d:D}{p1 p2 pos:Pos}(G:Good cx k X sc)(hf:fnAt cx sc es i=some f)(hi:Ev X ρ ix (.int i))(hpi:plainE ix=true)(hne:args≠[])(hA:EvA X ρ args ds)(hp:∀ e∈args,plainE e=true)(hc:cx.call f ds=some d) :
    Ev X ρ (.Call (.Subscript (.List es p1) ix p2) args [] pos) d:=by
  obtain⟨hfn,a0,hm0,callee⟩:=ev_fnAt (p1:=p1) (p2:=p2) G hf hi hpi
  obtain⟨hdb,a,fd,ps,har,_,hm,hk,hb,F⟩:=G.fns f hfn
  obtain rfl:a=a0:=by rw[hm] at hm0;exact Value.ref.inj (Option.some.inj hm0)
  cases args with
  | nil=>exact absurd rfl hne
  | cons e args =>
    intro σ H Hs Q hs hst hq pins s I
    refine Call_ (thn (callee σ H Hs (fun v H1=>v=.ref a/\∃ Hs1,Ext Hs H Hs1 H1) hs hst (fun H1 Hs1 E1=>⟨rfl,Hs1,E1⟩) pins s I) fun u s1 ⟨v,H1,I1,r,e1,Hs1,E1⟩=>?_)
    subst e1
    cases (show u=Value.ref a from r)
    refine PySem.W.callWith_K (h₀:=X.base) I1.ok.mod.kin hk ?_ (plain_star (hp e (by simp))) (stars_any fun e' he=>hp e' (List.mem_cons_of_mem _ he))
    refine thn (hA σ H1 Hs1 (fun vs H2=>∃ Hs2,Ext Hs1 H1 Hs2 H2/\RepL X.K Hs2 ds vs) E1.sub (hst.same E1.vis) (fun vs H2 Hs2 E2 r2=>⟨Hs2,E2,r2⟩) pos pins s1 I1) fun us s2 ⟨vs,H2,I2,r,Hs2,E2,r2⟩=>⟨I2.kIn,?_⟩
    refine run_fn F G.room hb .nil pass1 I2 r ?_
    rw[List.append_nil]
    exact⟨by rw[<- r2.length,har ds d hc],Hs2,ds,E2.sub,r2,.inl ⟨d,hc,fun v H' Hs' E3 r3=>hq v H' Hs' (E1.trans (E2.trans E3)) r3⟩⟩
def rSem(X:Cx)(f:Value):List V->Hp->VK->Prop:=fun vs H Q=>∀ pins s σ us,Inv X pins σ H s->Vals vs us->wpAny (model X.prog X.w) X.A (call f us) (EP X pins σ Q) X.xe s
theorem call_sem{f:Value}:CallR X f (rSem X f):=fun pins s σ H xs us Q I r h=>h pins s σ us I r
theorem CallR.sem{f:Value}{r:List V->Hp->VK->Prop}{vs:List V}{H:Hp}{Q:VK}(h:CallR X f r)(q:r vs H Q):rSem X f vs H Q:=fun pins s σ us I rv=>h pins s σ H vs us Q I rv q
def EvC(X:Cx)(f:Value)(ds:List D)(d:D):Prop:=∀ vs H Hs Q,Same Hs H->RepL X.K Hs ds vs->(∀ v H' Hs',Ext Hs H Hs' H'->Rep X.K Hs' d v->Q v H')->rSem X f vs H Q
theorem repL1{K:PySem.W.Frag}{H:Hp}{d:D}{vs:List V}(h:RepL K H [d] vs):∃ v,vs=[v]/\Rep K H d v:=by
 simp only[RepL] at h
 obtain⟨v,r,rfl,h1,h2⟩:=h
 subst h2
 exact⟨v,rfl,h1⟩
theorem repL2{K:PySem.W.Frag}{H:Hp}{d e:D}{vs:List V}(h:RepL K H [d,e] vs):∃ v w,vs=[v,w]/\Rep K H d v/\Rep K H e w:=by
 simp only[RepL] at h
 obtain⟨v,r,rfl,h1,w,r2,rfl,h2,h3⟩:=h
 subst h3
 exact⟨v,w,rfl,h1,h2⟩
theorem rep_items{K:PySem.W.Frag}{H:Hp}{d:D}{l:List D}{v:V}(h:Rep K H d v)(e:items d=some l):∃ a vs,v=.ref a/\(SqL K H a vs\/SqT K H a vs)/\RepL K H l vs:=by
 cases d with
 | tup xs=>simp only[items,Option.some.injEq] at e;subst e;obtain⟨a,vs,e1,e2,e3⟩:=rep_tup h;exact⟨a,vs,e1,.inr e2,e3⟩
 | lst xs=>simp only[items,Option.some.injEq] at e;subst e;obtain⟨a,vs,e1,e2,e3⟩:=rep_lst h;exact⟨a,vs,e1,.inl e2,e3⟩
 | _=>simp[items] at e
theorem asBs_rep{K:PySem.W.Frag}{H:Hp}:∀ {ds:List D} {bs:List Bool} {vs:List V},asBs ds=some bs->RepL K H ds vs->vs=bs.map V.bl
  | [], ns, vs, h, r => by
    simp only[asBs,Option.some.injEq] at h;subst h
    simpa[RepL] using r
  | .bl i :: ds, ns, vs, h, r => by
    simp only[asBs,Option.map_eq_some_iff] at h
    obtain⟨ms,h1,rfl⟩:=h
    simp only[RepL] at r
    obtain⟨v,r',rfl,h2,h3⟩:=r
    rw[rep_bl h2,asBs_rep h1 h3]
    rfl
  | .non::ds,ns,vs,h,r=>by simp[asBs] at h
  | .int _::ds,ns,vs,h,r=>by simp[asBs] at h
  | .str _::ds,ns,vs,h,r=>by simp[asBs] at h
  | .tup _::ds,ns,vs,h,r=>by simp[asBs] at h
  | .lst _::ds,ns,vs,h,r=>by simp[asBs] at h
  | .exc _::ds,ns,vs,h,r=>by simp[asBs] at h
  | .dic _ _::ds,ns,vs,h,r=>by simp[asBs] at h
theorem boolsAre_of:∀ {bs:List Bool} {us:List Value},Vals (bs.map V.bl) us->LSm.BoolsAre us bs
  | [],us,r=>by rw[List.map_nil] at r;cases r;exact .nil
  | b :: bs, us, r => by
    rw[List.map_cons] at r
    cases r with
    | cons r1 r2 =>
      cases (show _=Value.bool b from r1)
      exact .cons b (boolsAre_of r2)
theorem call_sumL(hc:X.calm=true):CallR X (.builtin "sum") (fun xs H Q=>∃ (p:Addr) (ns:List Int),xs=[.ref p]/\SqL X.K H p (ns.map V.int)/\Q (.int ns.sum) H):=by
 intro pins s σ H xs us Q I r h
 obtain⟨p,ns,rfl,hq,q⟩:=h
 obtain⟨u,rfl,rx⟩:=vals1 r
 cases (show u=Value.ref p from rx)
 obtain⟨its,r',pl,hz⟩:=I.list hq
 have hi:=intsAre_of r'
 obtain⟨zs,hx⟩:=hi.allInts.items
 have hl':s.heap.IsList p (intItems zs):=hx▸pl.isList
 refine sum_intListG (I.ok.hd hc) hl' fun h' tk t' hk=>⟨.int ns.sum,H,I.kept hk,⟨t',?_⟩,q⟩
 have e1:ns=zs.toList.map (·.1):=by
  rw[<- nums_intItems,<- hx]
  exact(show numsOf its.toArray.toList=ns from hi.numsOf).symm
 rw[preSum_eq,List.take_of_length_le (by simp),e1]
theorem call_allL(hc:X.calm=true):CallR X (.builtin "all") (fun xs H Q=>∃ (p:Addr) (bs:List Bool),xs=[.ref p]/\SqL X.K H p (bs.map V.bl)/\Q (.bl (bs.all id)) H):=by
 intro pins s σ H xs us Q I r h
 obtain⟨p,bs,rfl,hq,q⟩:=h
 obtain⟨u,rfl,rx⟩:=vals1 r
 cases (show u=Value.ref p from rx)
 obtain⟨its,r',pl,hz⟩:=I.list hq
 have hb:=boolsAre_of r'
 have hl:=pl.isList
 have hlt:p<s.heap.objs.size:=by obtain⟨_,e,_⟩:=hl;exact Heap.lt_size e
 refine call_all_walk (wpAny_pyIter_list hl ⟨s.heap.objs.size,[s.heap.objs.size,p],[s.heap.objs.size],its.toArray.size,_,_,fun i=>(bs[i]?).getD true,rfl,Walks.list (A:=X.A.in1) (I.ok.hd hc) _ p (Nat.ne_of_lt hlt) its.toArray,⟨⟨_,Heap.get?_push_size _ rfl,rfl,rfl⟩,hl.push _⟩,fun i v s' Q' E' hP hQ=>?_,fun h' tk hk=>?_⟩)
 ·obtain⟨b,e,rfl⟩:=hb.get i v (by simpa using hP)
  simp only[e,Option.getD_some] at hQ
  exact wpAny_truthy_bool hQ
 ·have e:((List.range its.toArray.size).all fun i=>(bs[i]?).getD true)=bs.all id:=by rw[List.size_toArray,hb.length];exact LSm.range_all bs
  rw[e]
  exact⟨.bl _,H,I.kept (LSm.kept_iter hk),rfl,q⟩
theorem range_anyB(bs:List Bool):((List.range bs.length).any fun i=>(bs[i]?).getD false)=bs.any id:=by
 rw[Bool.eq_iff_iff,List.any_eq_true,List.any_eq_true]
 constructor
 ·rintro⟨i,hi,h⟩
  have hi':=List.mem_range.mp hi
  rw[List.getElem?_eq_getElem hi'] at h
  exact⟨_,List.getElem_mem hi',h⟩
 ·rintro⟨b,hb,h⟩
  obtain⟨i,hi,rfl⟩:=List.mem_iff_getElem.mp hb
  exact⟨i,List.mem_range.mpr hi,by rw[List.getElem?_eq_getElem hi];exact h⟩
theorem call_anyL(hc:X.calm=true):CallR X (.builtin "any") (fun xs H Q=>∃ (p:Addr) (bs:List Bool),xs=[.ref p]/\SqL X.K H p (bs.map V.bl)/\Q (.bl (bs.any id)) H):=by
 intro pins s σ H xs us Q I r h
 obtain⟨p,bs,rfl,hq,q⟩:=h
 obtain⟨u,rfl,rx⟩:=vals1 r
 cases (show u=Value.ref p from rx)
 obtain⟨its,r',pl,hz⟩:=I.list hq
 have hb:=boolsAre_of r'
 have hl:=pl.isList
 have hlt:p<s.heap.objs.size:=by obtain⟨_,e,_⟩:=hl;exact Heap.lt_size e
 refine call_any_walk (wpAny_pyIter_list hl ⟨s.heap.objs.size,[s.heap.objs.size,p],[s.heap.objs.size],its.toArray.size,_,_,fun i=>(bs[i]?).getD false,rfl,Walks.list (A:=X.A.in1) (I.ok.hd hc) _ p (Nat.ne_of_lt hlt) its.toArray,⟨⟨_,Heap.get?_push_size _ rfl,rfl,rfl⟩,hl.push _⟩,fun i v s' Q' E' hP hQ=>?_,fun h' tk hk=>?_⟩)
 ·obtain⟨b,e,rfl⟩:=hb.get i v (by simpa using hP)
  simp only[e,Option.getD_some] at hQ
  exact wpAny_truthy_bool hQ
 ·have e:((List.range its.toArray.size).any fun i=>(bs[i]?).getD false)=bs.any id:=by rw[List.size_toArray,hb.length];exact range_anyB bs
  rw[e]
  exact⟨.bl _,H,I.kept (LSm.kept_iter hk),rfl,q⟩
theorem call_sumT(hc:X.calm=true):CallR X (.builtin "sum") (fun xs H Q=>∃ (p:Addr) (ns:List Int),xs=[.ref p]/\SqT X.K H p (ns.map V.int)/\Q (.int ns.sum) H):=by
 intro pins s σ H xs us Q I r h
 obtain⟨p,ns,rfl,hq,q⟩:=h
 obtain⟨u,rfl,rx⟩:=vals1 r
 cases (show u=Value.ref p from rx)
 obtain⟨its,r',pl,hz⟩:=I.tuple hq
 have hi:=intsAre_of r'
 obtain⟨zs,hx⟩:=hi.allInts.items
 have hl':s.heap.IsTuple p (intItems zs):=hx▸pl
 have lt:p<s.heap.objs.size:=pl.lt
 refine call_sum_walkG (wpAny_pyIter_tuple hl' ⟨_,_,_,_,_,_,numAt zs,rfl,Walks.tuple (A:=X.A.in1) (I.ok.hd hc) _ p (Nat.ne_of_lt lt) (intItems zs),⟨⟨_,Heap.get?_push_size _ rfl,rfl,rfl⟩,by obtain⟨o,e,rr⟩:=hl';exact⟨o,Heap.get?_push_of_some _ e,rr⟩⟩,?_,(fun _ _=>intItems_at),fun h' tk t' hk=>?_⟩)
 ·intro b hb
  show b<(s.heap.push _).objs.size
  rw[Heap.size_push]
  simp at hb
  rcases hb with rfl | rfl
  ·exact Nat.lt_succ_self _
  ·exact Nat.lt_succ_of_lt lt
 ·have kp:∀ b o,s.heap.get? b=some o->h'.get? b=some o:=fun b o e=>hk b o (by simp;exact Nat.ne_of_lt (Heap.lt_size e)) (Heap.get?_push_of_some _ e)
  refine⟨.int ns.sum,H,I.kept kp,⟨t',?_⟩,q⟩
  have e1:ns=zs.toList.map (·.1):=by
   rw[<- nums_intItems,<- hx]
   exact(show numsOf its.toArray.toList=ns from hi.numsOf).symm
  have e2:(intItems zs).size=zs.size:=by simp[intItems]
  rw[e2,preSum_eq,List.take_of_length_le (by simp),e1]
theorem ev_tupC{d0:D}{l:List D}(hl:items d0=some l):EvC X (.type "tuple") [d0] (.tup l):=by
  intro vs H Hs Q hs hr hq
  obtain⟨v,rfl,r1⟩:=repL1 hr
  refine CallR.sem call_tuple_of ?_
  cases d0 with
  | tup xs =>
    simp only[items,Option.some.injEq] at hl;subst hl
    obtain⟨a,us,rfl,h1,h2⟩:=rep_tup r1
    exact⟨a,us,rfl,.inr ⟨hs.tup h1,hq _ H Hs (.refl hs) r1⟩⟩
  | lst xs =>
    simp only[items,Option.some.injEq] at hl;subst hl
    obtain⟨a,us,rfl,h1,h2⟩:=rep_lst r1
    exact⟨a,us,rfl,.inl ⟨hs.seq h1,fun p hp=>new_tup hs h2 hp hq⟩⟩
  | _=>simp[items] at hl
def bltV:String->Value
 | "tuple"=>.type "tuple"
 | "list"=>.type "list"
 | "int"=>.type "int"
 | b=>.builtin b
theorem mxL_arg:∀ (n:Nat) (xs:List Int) (x:Int) (r:List Int),xs=x::r->r.length=n->xs.getD (argBest (fun i j=>decide (xs.getD i 0>xs.getD j 0)) n) 0=mxL r x:=by
  have key:∀ (n:Nat) (x:Int) (r q:List Int),n=r.length->(x::r++q).getD (argBest (fun i j=>decide ((x::r++q).getD i 0>(x::r++q).getD j 0)) n) 0=mxL r x:=by
    intro n
    induction n with
    | zero =>
      intro x r q h
      have:r=[]:=List.length_eq_zero_iff.mp h.symm
      subst this;rfl
    | succ n ih =>
      intro x r q h
      obtain⟨r',y,rfl⟩:∃ r' y,r=r'++[y]:=⟨r.dropLast,r.getLast (by intro e;rw[e] at h;simp at h),(List.dropLast_concat_getLast _).symm⟩
      have hl:n=r'.length:=by simp at h;omega
      have e:=ih x r' (y::q) hl
      have e0:x::(r'++[y])++q=x::r'++y::q:=by simp
      rw[e0]
      have ml:∀ (r':List Int) (x:Int),mxL (r'++[y]) x=if y>mxL r' x then y else mxL r' x:=by
        intro r'
        induction r' with
        | nil=>intro x;rfl
        | cons a r' ih2=>intro x;exact ih2 _
      have gy:(x::r'++y::q).getD (n+1) 0=y:=by
        rw[List.getD_eq_getElem?_getD,List.cons_append,List.getElem?_cons_succ,List.getElem?_append_right (by omega),hl,Nat.sub_self];rfl
      rw[ml,argBest]
      simp only[gy,e,decide_eq_true_eq]
      by_cases c:y>mxL r' x
      · simp only[c,if_true,gy]
      · simp only[c,if_false,e]
  intro n xs x r h1 h2
  subst h1
  have:=key n x r [] h2.symm
  simpa using this
theorem call_maxN(hc:X.calm=true):CallR X (.builtin "max") (fun xs H Q=>∃ (p:Addr) (x:Int) (r:List Int),xs=[.ref p]/\SqL X.K H p ((x::r).map V.int)/\Q (.int (mxL r x)) H):=by
 intro pins s σ H xs us Q I r h
 obtain⟨p,x,ns,rfl,hq,q⟩:=h
 obtain⟨u,rfl,rx⟩:=vals1 r
 cases (show u=Value.ref p from rx)
 obtain⟨its,r',pl,hz⟩:=I.list hq
 have hi:=intsAre_of r'
 obtain⟨zs,hx⟩:=hi.allInts.items
 have hl':s.heap.IsList p (intItems zs):=hx▸pl.isList
 have e1:x::ns=zs.toList.map (·.1):=by
  rw[<- nums_intItems,<- hx]
  exact(show numsOf its.toArray.toList=x::ns from hi.numsOf).symm
 have n1:zs.size=ns.length+1:=by simpa using(congrArg List.length e1).symm
 have at1:∀ m,numAt zs m=(x::ns).getD m 0:=fun m=>by
  unfold numAt
  rw[e1,List.getD_eq_getElem?_getD,List.getElem?_map,Array.getElem?_toList]
 refine max_intList (I.ok.hd hc) hl' (by omega) fun v h' tk hv kp=>⟨.int _,H,I.kept kp,?_,q⟩
 obtain⟨t,rfl⟩:=intItems_at hv
 refine⟨t,?_⟩
 congr 1
 rw[n1,at1]
 simp only[at1,Nat.add_one_sub_one]
 exact mxL_arg ns.length (x::ns) x ns rfl rfl
theorem mnL_arg:∀ (n:Nat) (xs:List Int) (x:Int) (r:List Int),xs=x::r->r.length=n->xs.getD (argBest (fun i j=>decide (xs.getD i 0<xs.getD j 0)) n) 0=mnL r x:=by
  have key:∀ (n:Nat) (x:Int) (r q:List Int),n=r.length->(x::r++q).getD (argBest (fun i j=>decide ((x::r++q).getD i 0<(x::r++q).getD j 0)) n) 0=mnL r x:=by
    intro n
    induction n with
    | zero =>
      intro x r q h
      have:r=[]:=List.length_eq_zero_iff.mp h.symm
      subst this;rfl
    | succ n ih =>
      intro x r q h
      obtain⟨r',y,rfl⟩:∃ r' y,r=r'++[y]:=⟨r.dropLast,r.getLast (by intro e;rw[e] at h;simp at h),(List.dropLast_concat_getLast _).symm⟩
      have hl:n=r'.length:=by simp at h;omega
      have e:=ih x r' (y::q) hl
      have e0:x::(r'++[y])++q=x::r'++y::q:=by simp
      rw[e0]
      have ml:∀ (r':List Int) (x:Int),mnL (r'++[y]) x=if y<mnL r' x then y else mnL r' x:=by
        intro r'
        induction r' with
        | nil=>intro x;rfl
        | cons a r' ih2=>intro x;exact ih2 _
      have gy:(x::r'++y::q).getD (n+1) 0=y:=by
        rw[List.getD_eq_getElem?_getD,List.cons_append,List.getElem?_cons_succ,List.getElem?_append_right (by omega),hl,Nat.sub_self];rfl
      rw[ml,argBest]
      simp only[gy,e,decide_eq_true_eq]
      by_cases c:y<mnL r' x
      · simp only[c,if_true,gy]
      · simp only[c,if_false,e]
  intro n xs x r h1 h2
  subst h1
  have:=key n x r [] h2.symm
  simpa using this
theorem call_minT(hc:X.calm=true):CallR X (.builtin "min") (fun xs H Q=>∃ (p:Addr) (x:Int) (r:List Int),xs=[.ref p]/\SqT X.K H p ((x::r).map V.int)/\Q (.int (mnL r x)) H):=by
 intro pins s σ H xs us Q I r h
 obtain⟨p,x,ns,rfl,hq,q⟩:=h
 obtain⟨u,rfl,rx⟩:=vals1 r
 cases (show u=Value.ref p from rx)
 obtain⟨its,r',pl,hz⟩:=I.tuple hq
 have hi:=intsAre_of r'
 obtain⟨zs,hx⟩:=hi.allInts.items
 have hl':s.heap.IsTuple p (intItems zs):=hx▸pl
 have lt:p<s.heap.objs.size:=pl.lt
 have e1:x::ns=zs.toList.map (·.1):=by
  rw[<- nums_intItems,<- hx]
  exact(show numsOf its.toArray.toList=x::ns from hi.numsOf).symm
 have n1:zs.size=ns.length+1:=by simpa using(congrArg List.length e1).symm
 have at1:∀ m,numAt zs m=(x::ns).getD m 0:=fun m=>by
  unfold numAt
  rw[e1,List.getD_eq_getElem?_getD,List.getElem?_map,Array.getElem?_toList]
 refine call_min_walk (wpAny_pyIter_tuple hl' ⟨_,_,_,_,_,_,_,rfl,Walks.tuple (A:=X.A.in1) (I.ok.hd hc) _ p (Nat.ne_of_lt lt) (intItems zs),⟨⟨_,Heap.get?_push_size _ rfl,rfl,rfl⟩,by obtain⟨o,e,rr⟩:=hl';exact⟨o,Heap.get?_push_of_some _ e,rr⟩⟩,?_,by simp[intItems];omega,CmpOf.ints_lt (numAt zs) (fun _ _=>intItems_at),fun v h' tk hv hk=>?_⟩)
 ·intro b hb
  show b<(s.heap.push _).objs.size
  rw[Heap.size_push]
  simp at hb
  rcases hb with rfl | rfl
  ·exact Nat.lt_succ_self _
  ·exact Nat.lt_succ_of_lt lt
 ·have kp:∀ b o,s.heap.get? b=some o->h'.get? b=some o:=fun b o e=>hk b o (by simp;exact Nat.ne_of_lt (Heap.lt_size e)) (Heap.get?_push_of_some _ e)
  refine⟨.int (mnL ns x),H,I.kept kp,?_,q⟩
  obtain⟨t,rfl⟩:=intItems_at hv
  refine⟨t,?_⟩
  congr 1
  have e2:(intItems zs).size=ns.length+1:=by simp[intItems,n1]
  rw[e2,at1]
  simp only[at1,Nat.add_one_sub_one]
  exact mnL_arg ns.length (x::ns) x ns rfl rfl
theorem mnT_ok{xs:List D}{d:D}(h:mnT xs=some d):∃ x r,asIs xs=some (x::r)/\d=.int (mnL r x):=by
 unfold mnT at h
 obtain⟨is,h1,h2⟩:=Option.bind_eq_some_iff.mp h
 cases is with
 | nil=>cases h2
 | cons x r=>cases h2;exact⟨x,r,h1,rfl⟩
theorem call_maxT(hc:X.calm=true):CallR X (.builtin "max") (fun xs H Q=>∃ (p:Addr) (x:Int) (r:List Int),xs=[.ref p]/\SqT X.K H p ((x::r).map V.int)/\Q (.int (mxL r x)) H):=by
 intro pins s σ H xs us Q I r h
 obtain⟨p,x,ns,rfl,hq,q⟩:=h
 obtain⟨u,rfl,rx⟩:=vals1 r
 cases (show u=Value.ref p from rx)
 obtain⟨its,r',pl,hz⟩:=I.tuple hq
 have hi:=intsAre_of r'
 obtain⟨zs,hx⟩:=hi.allInts.items
 have hl':s.heap.IsTuple p (intItems zs):=hx▸pl
 have lt:p<s.heap.objs.size:=pl.lt
 have e1:x::ns=zs.toList.map (·.1):=by
  rw[<- nums_intItems,<- hx]
  exact(show numsOf its.toArray.toList=x::ns from hi.numsOf).symm
 have n1:zs.size=ns.length+1:=by simpa using(congrArg List.length e1).symm
 have at1:∀ m,numAt zs m=(x::ns).getD m 0:=fun m=>by
  unfold numAt
  rw[e1,List.getD_eq_getElem?_getD,List.getElem?_map,Array.getElem?_toList]
 refine call_max_walk (wpAny_pyIter_tuple hl' ⟨_,_,_,_,_,_,_,rfl,Walks.tuple (A:=X.A.in1) (I.ok.hd hc) _ p (Nat.ne_of_lt lt) (intItems zs),⟨⟨_,Heap.get?_push_size _ rfl,rfl,rfl⟩,by obtain⟨o,e,rr⟩:=hl';exact⟨o,Heap.get?_push_of_some _ e,rr⟩⟩,?_,by simp[intItems];omega,CmpOf.ints_gt (numAt zs) (fun _ _=>intItems_at),fun v h' tk hv hk=>?_⟩)
 ·intro b hb
  show b<(s.heap.push _).objs.size
  rw[Heap.size_push]
  simp at hb
  rcases hb with rfl | rfl
  ·exact Nat.lt_succ_self _
  ·exact Nat.lt_succ_of_lt lt
 ·have kp:∀ b o,s.heap.get? b=some o->h'.get? b=some o:=fun b o e=>hk b o (by simp;exact Nat.ne_of_lt (Heap.lt_size e)) (Heap.get?_push_of_some _ e)
  refine⟨.int (mxL ns x),H,I.kept kp,?_,q⟩
  obtain⟨t,rfl⟩:=intItems_at hv
  refine⟨t,?_⟩
  congr 1
  have e2:(intItems zs).size=ns.length+1:=by simp[intItems,n1]
  rw[e2,at1]
  simp only[at1,Nat.add_one_sub_one]
  exact mxL_arg ns.length (x::ns) x ns rfl rfl
theorem mxN_ok{xs:List D}{d:D}(h:mxN xs=some d):∃ x r,asIs xs=some (x::r)/\d=.int (mxL r x):=by
 unfold mxN at h
 obtain⟨is,h1,h2⟩:=Option.bind_eq_some_iff.mp h
 cases is with
 | nil=>cases h2
 | cons x r=>cases h2;exact⟨x,r,h1,rfl⟩
theorem ev_blt{b:String}{ds:List D}{d:D}(hc:X.calm=true)(h:DE.blt b ds=some d):EvC X (bltV b) ds d:=by
 intro vs H Hs Q hs hr hq
 unfold DE.blt at h
 split at h
 ·simp only[bind,Option.bind] at h
  split at h
  ·cases h
  ·rename_i l hl
   cases h
   obtain⟨v,rfl,r1⟩:=repL1 hr
   obtain⟨a,us,rfl,h1,h2⟩:=rep_items r1 hl
   refine CallR.sem call_len_seq ⟨a,us,rfl,h1.imp hs.seq hs.tup,?_⟩
   rw[<- h2.length]
   exact hq _ H Hs (.refl hs) (by simp[Rep])
 ·simp only[bind,Option.bind] at h
  split at h
  ·cases h
  ·rename_i l hl
   cases h
   obtain⟨v,rfl,r1⟩:=repL1 hr
   obtain⟨a,us,rfl,h1,h2⟩:=rep_lst r1
   have e:=asBs_rep hl h2
   subst e
   exact CallR.sem (call_allL hc) ⟨a,_,rfl,hs.seq h1,hq _ H Hs (.refl hs) (by simp[Rep])⟩
 ·simp only[bind,Option.bind] at h
  split at h
  ·cases h
  ·rename_i l hl
   cases h
   obtain⟨v,rfl,r1⟩:=repL1 hr
   obtain⟨a,us,rfl,h1,h2⟩:=rep_lst r1
   have e:=asIs_rep hl h2
   subst e
   exact CallR.sem (call_sumL hc) ⟨a,_,rfl,hs.seq h1,hq _ H Hs (.refl hs) (by simp[Rep])⟩
 ·simp only[bind,Option.bind] at h
  split at h
  ·cases h
  ·rename_i l hl
   cases h
   obtain⟨v,rfl,r1⟩:=repL1 hr
   obtain⟨a,us,rfl,h1,h2⟩:=rep_tup r1
   have e:=asIs_rep hl h2
   subst e
   exact CallR.sem (call_sumT hc) ⟨a,_,rfl,hs.tup h1,hq _ H Hs (.refl hs) (by simp[Rep])⟩
 ·simp only[bind,Option.bind] at h
  split at h
  ·cases h
  ·rename_i l hl
   cases h
   exact ev_tupC hl vs H Hs Q hs hr hq
 ·simp only[bind,Option.bind] at h
  split at h
  ·cases h
  ·rename_i l hl
   cases h
   obtain⟨v,rfl,r1⟩:=repL1 hr
   obtain⟨a,us,rfl,h1,h2⟩:=rep_items r1 hl
   exact CallR.sem call_list_of ⟨a,us,rfl,h1.imp hs.seq hs.tup,fun p hp=>new_lst hs h2 hp hq⟩
 ·simp only[bind,Option.bind] at h
  split at h
  ·cases h
  ·rename_i l hl
   cases h
   obtain⟨v,rfl,r1⟩:=repL1 hr
   obtain⟨a,us,rfl,h1,h2⟩:=rep_lst r1
   have e:=asBs_rep hl h2
   subst e
   exact CallR.sem (call_anyL hc) ⟨a,_,rfl,hs.seq h1,hq _ H Hs (.refl hs) (by simp[Rep])⟩
 ·obtain⟨x,r,hx,rfl⟩:=mnT_ok h
  obtain⟨v,rfl,r1⟩:=repL1 hr
  obtain⟨a,us,rfl,h1,h2⟩:=rep_tup r1
  have e:=asIs_rep hx h2
  subst e
  exact CallR.sem (call_minT hc) ⟨a,x,r,rfl,hs.tup h1,hq _ H Hs (.refl hs) (by simp[Rep])⟩
 ·simp at h
 ·obtain⟨x,r,hx,rfl⟩:=mxN_ok h
  obtain⟨v,rfl,r1⟩:=repL1 hr
  obtain⟨a,us,rfl,h1,h2⟩:=rep_lst r1
  have e:=asIs_rep hx h2
  subst e
  exact CallR.sem (call_maxN hc) ⟨a,x,r,rfl,hs.seq h1,hq _ H Hs (.refl hs) (by simp[Rep])⟩
 ·obtain⟨x,r,hx,rfl⟩:=mxN_ok h
  obtain⟨v,rfl,r1⟩:=repL1 hr
  obtain⟨a,us,rfl,h1,h2⟩:=rep_tup r1
  have e:=asIs_rep hx h2
  subst e
  exact CallR.sem (call_maxT hc) ⟨a,x,r,rfl,hs.tup h1,hq _ H Hs (.refl hs) (by simp[Rep])⟩
 ·cases h
  obtain⟨v,w,rfl,r1,r2⟩:=repL2 hr
  exact CallR.sem (call_min2 hc) ⟨_,_,by rw[rep_int r1,rep_int r2],hq _ H Hs (.refl hs) (by simp[Rep])⟩
 ·cases h
  obtain⟨v,w,rfl,r1,r2⟩:=repL2 hr
  exact CallR.sem (call_max2 hc) ⟨_,_,by rw[rep_int r1,rep_int r2],hq _ H Hs (.refl hs) (by simp[Rep])⟩
 ·cases h
  obtain⟨v,rfl,r1⟩:=repL1 hr
  exact CallR.sem call_abs ⟨_,by rw[rep_int r1],hq _ H Hs (.refl hs) (by simp[Rep])⟩
 ·cases h
  obtain⟨v,rfl,r1⟩:=repL1 hr
  exact CallR.sem call_int1 (.inr ⟨_,by rw[rep_bl r1],hq _ H Hs (.refl hs) (by simp[Rep,DE.b2i])⟩)
 ·cases h
  obtain⟨v,rfl,r1⟩:=repL1 hr
  exact CallR.sem call_int1 (.inl ⟨_,by rw[rep_int r1],hq _ H Hs (.refl hs) (by simp[Rep])⟩)
 ·cases h
end
end L2
namespace L2
open PySem PySem.Spec PyProof.Rows DE PySem.SeqAt
section
variable {X:Cx} {ρ:Rho} {cx:Cxt} {k:Nat} {sc:Scope}
theorem bltOf_ok{x:Str}{b:String}(G:Good cx k X sc)(h:bltOf cx sc x=some b):Gl X x/\X.mg x=none/\x=Str.ofString b:=by
 unfold bltOf isGl at h
 split at h
 ·rename_i hg
  have e:sc.names.lookup x=some .globalImplicit:=by simpa using hg
  refine⟨?_,G.blt x b h⟩
  show X.env.scope.names.lookup x=_
  rw[G.sce,e]
 ·cases h
theorem blt_names{b:String}{ds:List D}{d:D}(h:DE.blt b ds=some d):b="len"\/b="all"\/b="sum"\/b="tuple"\/b="list"\/b="min"\/b="max"\/b="abs"\/b="int"\/b="any":=by
 unfold DE.blt at h
 split at h<;>first | (simp;done) | cases h
theorem ev_bcall{x:Str}{b:String}{e:Expr}{es:List Expr}{ds:List D}{d:D}{p pos:Pos}(G:Good cx k X sc)(hx:bltOf cx sc x=some b)(h:EvA X ρ (e::es) ds)(hp:∀ a∈e::es,plainE a=true)(hd:DE.blt b ds=some d) :
  Ev X ρ (.Call (.Name x p) (e::es) [] pos) d:=by
 obtain⟨hg,hm,rfl⟩:=bltOf_ok G hx
 have c:=ev_blt (X:=X) G.calm hd
 have s1:=plain_star (env:=X.env) (es:=es) (hp e (by simp))
 have s2:=stars_any (env:=X.env) (pos:=pos) fun a ha=>hp a (List.mem_cons_of_mem _ ha)
 have fin:∀ f:Value,bltV b=f->PE X (.Call (.Name (Str.ofString b) p) (e::es) [] pos) (tCB (rSem X f) (tSemA X (e::es)))->Ev X ρ (.Call (.Name (Str.ofString b) p) (e::es) [] pos) d:=by
  intro f hf hpe σ H Hs Q hs hst hq
  rw[hf] at c
  refine hpe.sem (h σ H Hs _ hs hst fun vs H1 Hs1 E1 r1=>?_)
  exact c vs H1 Hs1 Q E1.sub r1 fun v H' Hs' E2 r2=>hq v H' Hs' (E1.trans E2) r2
 rcases blt_names hd with rfl | rfl | rfl | rfl | rfl | rfl | rfl | rfl | rfl | rfl
 ·exact fin (.builtin "len") rfl (pe_callB call_sem hg hm (by decide +kernel) pa_sem (by decide) (by decide) s1 s2)
 ·exact fin (.builtin "all") rfl (pe_callB call_sem hg hm (by decide +kernel) pa_sem (by decide) (by decide) s1 s2)
 ·exact fin (.builtin "sum") rfl (pe_callB call_sem hg hm (by decide +kernel) pa_sem (by decide) (by decide) s1 s2)
 ·exact fin (.type "tuple") rfl (pe_callTy call_sem hg hm (by decide +kernel) pa_sem (by decide) (by decide) s1 s2)
 ·exact fin (.type "list") rfl (pe_callTy call_sem hg hm (by decide +kernel) pa_sem (by decide) (by decide) s1 s2)
 ·exact fin (.builtin "min") rfl (pe_callB call_sem hg hm (by decide +kernel) pa_sem (by decide) (by decide) s1 s2)
 ·exact fin (.builtin "max") rfl (pe_callB call_sem hg hm (by decide +kernel) pa_sem (by decide) (by decide) s1 s2)
 ·exact fin (.builtin "abs") rfl (pe_callB call_sem hg hm (by decide +kernel) pa_sem (by decide) (by decide) s1 s2)
 ·exact fin (.type "int") rfl (pe_callTy call_sem hg hm (by decide +kernel) pa_sem (by decide) (by decide) s1 s2)
 ·exact fin (.builtin "any") rfl (pe_callB call_sem hg hm (by decide +kernel) pa_sem (by decide) (by decide) s1 s2)
theorem numAt_map{zs:Array (Int×Tok)}{i:Nat}:numAt zs i=(zs.toList.map (·.1)).getD i 0:=by
 unfold numAt
 rw[List.getD_eq_getElem?_getD,List.getElem?_map,Array.getElem?_toList]
theorem pe_maxD{x:Str}{a:Expr}{t:TE}{c:Int}{p pos kp q:Pos}{n:Nat}(hc:X.calm=true)(hg:Gl X x)(hm:X.mg x=none)(hv:bootBuiltins x=some (.builtin "max"))(hn:x≠"__name__")(hdb:(x==("__debug__":Str))=false)(ha:PE X a t)
    (he:starEach [a] X.env=(false,eval a X.env)::starEach [] X.env) :
    PE X (.Call (.Name x p) [a] [⟨some "default",.Constant (.int c) n q,kp⟩] pos) (fun σ H Q=>t σ H fun v H1=>∃ l ns,v=.ref l/\SqL X.K H1 l (ns.map V.int)/\Q (.int (mxD ns c)) H1):=by
  intro pins s σ H Q I h
  refine wpAny_Call_Name_kw (ld_blt I hg hm hv ?_ hn hdb)
  have hbt:backTo pos (starEach [a] X.env)=(false,eval a X.env)::backTo pos (starEach [] X.env):=by rw[he];rfl
  refine PyProof.Rows.callWith_kw ?_ hbt (by rw[hbt];rfl) rfl rfl
  refine thn (pa_cons ha pa_nil he pos pins s σ H (fun vs H1=>∃ l ns,vs=[.ref l]/\SqL X.K H1 l (ns.map V.int)/\Q (.int (mxD ns c)) H1) I ?_) fun us s1 ⟨vs,H1,I1,r1,q1⟩=>?_
  · refine(show t σ H _ from ?_)
    have e:(fun(v:V) (H1:Hp)=>∃ l ns,v=.ref l/\SqL X.K H1 l (ns.map V.int)/\Q (.int (mxD ns c)) H1)=(fun(x:V) (H1:Hp)=>tNil σ H1 fun us H2=>∃ l ns,x::us=[.ref l]/\SqL X.K H2 l (ns.map V.int)/\Q (.int (mxD ns c)) H2):=by
      funext v H1
      simp only[tNil,List.cons.injEq,and_true]
    rw[<- e]
    exact h
  obtain⟨l,ns,hx,hq,q2⟩:=q1
  subst hx
  obtain⟨u,rfl,rx⟩:=vals1 r1
  cases (show u=Value.ref l from rx)
  refine PyProof.Rows.kws_cons (thn (pe_int pins s1 σ H1 (fun v H2=>v=.int c/\H2=H1) I1 ⟨rfl,rfl⟩) fun u s2 ⟨v,H2,I2,r2,e1,e2⟩=>PyProof.Rows.kws_nil ?_)
  subst e1 e2
  obtain⟨dt,rfl⟩:=(show ∃ t,u=Value.int c t from r2)
  obtain⟨its,r',pl,hz⟩:=I2.list hq
  have hi:=intsAre_of r'
  obtain⟨zs,hx⟩:=hi.allInts.items
  have hl':s2.heap.IsList l (intItems zs):=hx▸pl.isList
  have e1:ns=zs.toList.map (·.1):=by
    rw[<- nums_intItems,<- hx]
    exact(show numsOf its.toArray.toList=ns from hi.numsOf).symm
  refine mx_call (I2.ok.hd hc) hl' fun t' h' tk hk=>⟨.int (mxD ns c),_,I2.kept hk,⟨t',?_⟩,q2⟩
  have hlen:zs.size=ns.length:=by rw[e1];simp
  rw[hlen]
  congr 1
  cases ns with
  | nil=>rfl
  | cons y r =>
    show mxF (numAt zs) 1 r.length (numAt zs 0)=mxL r y
    rw[numAt_map,<- e1,mxF_L r 1 _ fun i hi=>by rw[numAt_map,<- e1,Nat.add_comm 1 i];simp]
    rfl
theorem ev_maxD{x:Str}{a:Expr}{k':Keyword}{c:Int}{d d':D}{p pos:Pos}(G:Good cx k X sc)(hx:bltOf cx sc x=some "max")(hk:kdef k'=some c)(ha:Ev X ρ a d)(hp:plainE a=true)(h:mxOf d c=some d') :
  Ev X ρ (.Call (.Name x p) [a] [k'] pos) d':=by
 obtain⟨hg,hm,rfl⟩:=bltOf_ok G hx
 obtain⟨ka,kv,kp⟩:=k'
 unfold kdef at hk
 split at hk
 ·rename_i hka
  have:ka=some "default":=by simpa using hka
  subst this
  unfold cstI at hk
  split at hk
  ·rename_i c0 n q hkv
   cases hk
   have:kv=.Constant (.int c) n q:=hkv
   subst this
   unfold mxOf at h
   split at h
   ·rename_i xs c1
    obtain⟨is,h1,rfl⟩:=Option.map_eq_some_iff.mp h
    intro σ H Hs Q hs hst hq
    refine(pe_maxD (X:=X) G.calm hg hm (by decide +kernel) (by decide) (by decide) pe_sem (plain_star hp)).sem ?_
    refine ha σ H Hs _ hs hst fun v H1 Hs1 E1 r1=>?_
    obtain⟨l,vs,rfl,h3,h4⟩:=rep_lst r1
    have e:=asIs_rep h1 h4
    subst e
    exact⟨l,is,rfl,E1.sub.seq h3,hq _ H1 Hs1 E1 (by simp[Rep])⟩
   ·cases h
  ·cases hk
 ·cases hk
def rIsi(K:PySem.W.Frag)(T:String):List V->Hp->VK->Prop:=fun xs H Q=>∃ x d,xs=[x,.ty T]/\Rep K H d x/\isExc d=false/\Q (.bl (isTy T d)) H
theorem ty_names{T:String}(h:tyKnown T=true):T="int"\/T="bool"\/T="tuple"\/T="list"\/T="str":=by
 unfold tyKnown at h
 split at h<;>first | (simp;done) | cases h
theorem valsC{x:V}{vs:List V}{us:List Value}(r:Vals (x::vs) us):∃ u w,us=u::w/\RelV x u/\Vals vs w:=by
 cases r with
 | cons r rr=>exact⟨_,_,rfl,r,rr⟩
theorem call_isi{T:String}(hk:tyKnown T=true):CallR X (.builtin "isinstance") (rIsi X.K T):=by
  intro pins s σ H xs us Q I r h
  obtain⟨x,d,rfl,rd,hne,q⟩:=h
  obtain⟨u,w1,rfl,rx,rr⟩:=valsC r
  obtain⟨c,w2,rfl,rc,rr2⟩:=valsC rr
  cases rr2
  cases (show c=Value.type T from rc)
  have fin:∀ b,b=isTy T d->∀ tk,EP X pins σ Q (.bool b) { s with toks:=tk }:=fun b hb tk=>⟨.bl _,H,I.tok _,by rw[hb];rfl,q⟩
  have ks:=ty_names hk
  cases d with
  | exc c=>exact absurd hne (by simp[isExc])
  | dic _ _=>exact absurd hne (by simp[isExc])
  | non =>
    cases rep_non rd;cases (show u=Value.none from rx)
    rcases ks with rfl | rfl | rfl | rfl | rfl<;>exact PySem.W.kia_one (b:=false) PySem.W.kitx_none I.kIn True.intro rfl (fun z=>nomatch z) (fin _ rfl)
  | bl y =>
    cases rep_bl rd;cases (show u=Value.bool y from rx)
    rcases ks with rfl | rfl | rfl | rfl | rfl
    · exact PySem.W.kia_one (b:=true) PySem.W.kitx_bool I.kIn True.intro rfl (fun z=>nomatch z) (fin _ rfl)
    · exact PySem.W.kia_one (b:=true) PySem.W.kitx_bool I.kIn True.intro rfl (fun z=>nomatch z) (fin _ rfl)
    · exact PySem.W.kia_one (b:=false) PySem.W.kitx_bool I.kIn True.intro rfl (fun z=>nomatch z) (fin _ rfl)
    · exact PySem.W.kia_one (b:=false) PySem.W.kitx_bool I.kIn True.intro rfl (fun z=>nomatch z) (fin _ rfl)
    · exact PySem.W.kia_one (b:=false) PySem.W.kitx_bool I.kIn True.intro rfl (fun z=>nomatch z) (fin _ rfl)
  | int y =>
    cases rep_int rd
    obtain⟨t,e⟩:=(show ∃ t,u=Value.int y t from rx)
    cases e
    rcases ks with rfl | rfl | rfl | rfl | rfl
    · exact PySem.W.kia_one (b:=true) PySem.W.kitx_int I.kIn True.intro rfl (fun z=>nomatch z) (fin _ rfl)
    · exact PySem.W.kia_one (b:=false) PySem.W.kitx_int I.kIn True.intro rfl (fun z=>nomatch z) (fin _ rfl)
    · exact PySem.W.kia_one (b:=false) PySem.W.kitx_int I.kIn True.intro rfl (fun z=>nomatch z) (fin _ rfl)
    · exact PySem.W.kia_one (b:=false) PySem.W.kitx_int I.kIn True.intro rfl (fun z=>nomatch z) (fin _ rfl)
    · exact PySem.W.kia_one (b:=false) PySem.W.kitx_int I.kIn True.intro rfl (fun z=>nomatch z) (fin _ rfl)
  | str y =>
    have ev:x=.str y:=by simpa[Rep] using rd
    subst ev
    obtain⟨t,e⟩:=(show ∃ t,u=Value.str y t from rx)
    cases e
    rcases ks with rfl | rfl | rfl | rfl | rfl
    · exact PySem.W.kia_one (b:=false) PySem.W.kitx_str I.kIn True.intro rfl (fun z=>nomatch z) (fin _ rfl)
    · exact PySem.W.kia_one (b:=false) PySem.W.kitx_str I.kIn True.intro rfl (fun z=>nomatch z) (fin _ rfl)
    · exact PySem.W.kia_one (b:=false) PySem.W.kitx_str I.kIn True.intro rfl (fun z=>nomatch z) (fin _ rfl)
    · exact PySem.W.kia_one (b:=false) PySem.W.kitx_str I.kIn True.intro rfl (fun z=>nomatch z) (fin _ rfl)
    · exact PySem.W.kia_one (b:=true) PySem.W.kitx_str I.kIn True.intro rfl (fun z=>nomatch z) (fin _ rfl)
  | tup ds =>
    obtain⟨a,vs,rfl,h1,h2⟩:=rep_tup rd
    cases (show u=Value.ref a from rx)
    obtain⟨its,_,o,g1,g2,_⟩:=isT I h1
    rcases ks with rfl | rfl | rfl | rfl | rfl
    · exact PySem.W.kia_one (b:=false) PySem.W.kitx_tuple I.kIn ⟨o,g1,g2⟩ rfl (fun z=>nomatch z) (fin _ rfl)
    · exact PySem.W.kia_one (b:=false) PySem.W.kitx_tuple I.kIn ⟨o,g1,g2⟩ rfl (fun z=>nomatch z) (fin _ rfl)
    · exact PySem.W.kia_one (b:=true) PySem.W.kitx_tuple I.kIn ⟨o,g1,g2⟩ rfl (fun z=>nomatch z) (fin _ rfl)
    · exact PySem.W.kia_one (b:=false) PySem.W.kitx_tuple I.kIn ⟨o,g1,g2⟩ rfl (fun z=>nomatch z) (fin _ rfl)
    · exact PySem.W.kia_one (b:=false) PySem.W.kitx_tuple I.kIn ⟨o,g1,g2⟩ rfl (fun z=>nomatch z) (fin _ rfl)
  | lst ds =>
    obtain⟨a,vs,rfl,h1,h2⟩:=rep_lst rd
    cases (show u=Value.ref a from rx)
    obtain⟨its,_,o,g1,g2,_⟩:=isL I h1
    rcases ks with rfl | rfl | rfl | rfl | rfl
    · exact PySem.W.kia_one (b:=false) PySem.W.kitx_list I.kIn ⟨o,g1,g2⟩ rfl (fun z=>nomatch z) (fin _ rfl)
    · exact PySem.W.kia_one (b:=false) PySem.W.kitx_list I.kIn ⟨o,g1,g2⟩ rfl (fun z=>nomatch z) (fin _ rfl)
    · exact PySem.W.kia_one (b:=false) PySem.W.kitx_list I.kIn ⟨o,g1,g2⟩ rfl (fun z=>nomatch z) (fin _ rfl)
    · exact PySem.W.kia_one (b:=true) PySem.W.kitx_list I.kIn ⟨o,g1,g2⟩ rfl (fun z=>nomatch z) (fin _ rfl)
    · exact PySem.W.kia_one (b:=false) PySem.W.kitx_list I.kIn ⟨o,g1,g2⟩ rfl (fun z=>nomatch z) (fin _ rfl)
theorem ev_isi{x t:Str}{T:String}{a:Expr}{d:D}{p pt pos:Pos}(G:Good cx k X sc)(hx:bltOf cx sc x=some "isinstance")(ht:bltOf cx sc t=some T)(hk:tyKnown T=true)(ha:Ev X ρ a d)(hp:plainE a=true)(hne:isExc d=false) :
  Ev X ρ (.Call (.Name x p) [a,.Name t pt] [] pos) (.bl (isTy T d)):=by
 obtain⟨hg,hm,rfl⟩:=bltOf_ok G hx
 obtain⟨hg2,hm2,rfl⟩:=bltOf_ok G ht
 have htv:PE X (.Name (Str.ofString T) pt) (tC (.ty T)):=by
  rcases ty_names hk with rfl | rfl | rfl | rfl | rfl<;>exact pe_bltn hg2 hm2 (by decide +kernel) rfl
 intro σ H Hs Q hs hst hq
 refine(pe_callB (call_isi (X:=X) hk) hg hm (by decide +kernel) (pa_cons pe_sem (pa_cons htv pa_nil (plain_star rfl)) (plain_star hp)) (by decide) (by decide) (plain_star hp) rfl).sem ?_
 exact ha σ H Hs _ hs hst fun v H1 Hs1 E1 r1=>⟨v,d,rfl,Rep.same E1.sub d v r1,hne,hq _ H1 Hs1 E1 (by simp[Rep])⟩
def rIsiX(K:PySem.W.Frag)(cv:V)(C:Addr)(b:Bool):List V->Hp->VK->Prop:=fun xs H Q=>∃ a,xs=[.ref a,cv]/\H a=some (.ext (isX a (.ref C)))/\Q (.bl b) H
theorem call_isiX{cv:V}{c:Value}{C:Addr}{b:Bool}(hA:xAttr X.K C=true)(hc:∀ u,RelV cv u->u=c)(e:PySem.W.kitOne X.K (.ref C) c=some b):CallR X (.builtin "isinstance") (rIsiX X.K cv C b):=by
 intro pins s σ H xs us Q I r h
 obtain⟨a,rfl,ha,q⟩:=h
 obtain⟨u,w1,rfl,rx,rr⟩:=valsC r
 obtain⟨u2,w2,rfl,rc,rr2⟩:=valsC rr
 cases rr2
 cases (show u=Value.ref a from rx)
 cases hc u2 rc
 exact PySem.W.kia_one (kitx_exc hA) I.kIn (I.hok _ _ ha).1 e (fun z=>nomatch z) fun tk=>⟨.bl _,H,I.tok _,rfl,q⟩
theorem ev_isiC{x c:Str}{t a:Expr}{tv:TE}{cv:V}{cw:Value}{b:Bool}{p pos:Pos}(G:Good cx k X sc)(hx:bltOf cx sc x=some "isinstance")(hc:cx.exs.contains c=true)(ht:PE X t (tC cv))(hpt:plainE t=true)(hcv:∀ u,RelV cv u->u=cw)
  (hk:∀ C,PySem.W.nsIn X.K mainGlobals c=some (some (.ref C))->PySem.W.kitOne X.K (.ref C) cw=some b) (ha:Ev X ρ a (.exc c)) (hp:plainE a=true):Ev X ρ (.Call (.Name x p) [a,t] [] pos) (.bl b):=by
 obtain⟨hg,hm,rfl⟩:=bltOf_ok G hx
 obtain⟨C,M,e1,_,_,e2,_⟩:=G.exs.cls c hc
 intro σ H Hs Q hs hst hq
 refine(pe_callB (call_isiX (X:=X) (cv:=cv) e2 hcv (hk C e1)) hg hm (by decide +kernel) (pa_cons pe_sem (pa_cons ht pa_nil (plain_star hpt)) (plain_star hp)) (by decide) (by decide) (plain_star hp) (by rw[plain_star hpt];rfl)).sem ?_
 refine ha σ H Hs _ hs hst fun v H1 Hs1 E1 r1=>?_
 have r2:=Rep.same E1.sub _ v r1
 simp only[Rep] at r2
 obtain⟨a0,C0,rfl,f1,f2⟩:=r2
 rw[e1] at f1
 cases f1
 exact⟨a0,rfl,f2,hq _ H1 Hs1 E1 (by simp[Rep])⟩
theorem ev_isiV{x t c:Str}{a:Expr}{p pt pos:Pos}(G:Good cx k X sc)(hx:bltOf cx sc x=some "isinstance")(ht:bltOf cx sc t=some "ValueError")(hc:cx.exs.contains c=true)(ha:Ev X ρ a (.exc c))(hp:plainE a=true):Ev X ρ (.Call (.Name x p) [a,.Name t pt] [] pos) (.bl true):=by
 obtain⟨hg2,hm2,rfl⟩:=bltOf_ok G ht
 refine ev_isiC (tv:=tC (.ty "ValueError")) (cv:=.ty "ValueError") (cw:=.type "ValueError") G hx hc (pe_bltn hg2 hm2 (by decide +kernel) rfl) rfl (fun u r=>r) (fun C e=>?_) ha hp
 obtain⟨C',M,e1,_,_,_,_,_,e2⟩:=G.exs.cls c hc
 rw[e] at e1
 cases e1
 exact e2
theorem xOf_ok{t:Expr}{c':Str}(h:xOf cx sc t=some c'):∃ pt,t=.Name c' pt/\isGl cx sc c'=true/\(cx.exs.contains c'=true\/c'=cx.top)/\(c'==("__debug__":Str))=false:=by
 unfold xOf at h
 split at h
 ·rename_i y pt
  split at h
  ·rename_i q
   cases h
   rw[Bool.and_eq_true,Bool.and_eq_true,Bool.or_eq_true] at q
   have q2:=q.2
   unfold plainName at q2
   rw[Bool.and_eq_true,bne_iff_ne] at q2
   exact⟨pt,rfl,q.1.1,q.1.2.imp id (fun z=>by simpa using z),by simpa using q2.1⟩
  ·cases h
 ·cases h
theorem ev_isiX{x c c':Str}{t a:Expr}{p pos:Pos}(G:Good cx k X sc)(hx:bltOf cx sc x=some "isinstance")(ht:xOf cx sc t=some c')(hc:cx.exs.contains c=true)(ha:Ev X ρ a (.exc c))(hp:plainE a=true):Ev X ρ (.Call (.Name x p) [a,t] [] pos) (.bl (xsub cx.top c c')):=by
 obtain⟨pt,rfl,hgl,hin,hd⟩:=xOf_ok ht
 have hg:Gl X c':=by
  have e:sc.names.lookup c'=some .globalImplicit:=by unfold isGl at hgl;simpa using hgl
  show X.env.scope.names.lookup c'=_
  rw[G.sce,e]
 by_cases htop:c'=cx.top
 ·subst htop
  obtain⟨C,M,e1,e2,_,_,_,e3,_⟩:=G.exs.cls c hc
  have:xsub cx.top c cx.top=true:=by unfold xsub;simp
  rw[this]
  refine ev_isiC (tv:=tC (.ref M)) (cv:=.ref M) (cw:=.ref M) G hx hc (pe_glob hg (G.exs.glob _ _ e2) rfl hd) rfl (fun u r=>r) (fun C' e=>?_) ha hp
  rw[e] at e1;cases e1
  exact e3
 ·have hin':cx.exs.contains c'=true:=hin.resolve_right htop
  obtain⟨C,C',e1,e2,e3⟩:=G.exs.sub c c' hc hin'
  have:xsub cx.top c c'=(c==c'):=by
   unfold xsub
   have:(c'==cx.top)=false:=by simpa using htop
   rw[this,Bool.or_false]
  rw[this]
  refine ev_isiC (tv:=tC (.ref C')) (cv:=.ref C') (cw:=.ref C') G hx hc (pe_glob hg (G.exs.glob _ _ e2) rfl hd) rfl (fun u r=>r) (fun C'' e=>?_) ha hp
  rw[e] at e1;cases e1
  exact e3
end
end L2
namespace L2
open PySem PySem.Spec PyProof.Rows DE PySem.SeqAt
section
variable {X:Cx} {ρ:Rho} {cx:Cxt} {k:Nat} {sc:Scope}
theorem vals_of:∀ {vs:List V} {us:List Value},vs.length=us.length->(∀ (i:Nat) (v:V) (u:Value),vs[i]?=some v->us[i]?=some u->RelV v u)->Vals vs us
 | [],[],_,_=>.nil
 | [],u::us,h,_=>by simp at h
 | v::vs,[],h,_=>by simp at h
 | v::vs,u::us,h,hr=>.cons (hr 0 v u rfl rfl) (vals_of (by simpa using h) fun i a b e1 e2=>hr (i+1) a b (by simpa using e1) (by simpa using e2))
def rangeV(lo hi:Int):List V:=(List.range (hi-lo).toNat).map fun(k:Nat)=>V.int (lo+(k:Int))
theorem repL_map{α:Type}{K:PySem.W.Frag}{H:Hp}{f:α->D}{g:α->V}(h:∀ x,Rep K H (f x) (g x)):∀ l:List α,RepL K H (l.map f) (l.map g)
 | []=>.nil
 | x::r=>.cons (h x) (repL_map h r)
theorem range_rep{K:PySem.W.Frag}{H:Hp}{lo hi:Int}:RepL K H (rangeD lo hi) (rangeV lo hi):=repL_map (fun x=>by simp[Rep]) _
theorem rng_ok{i:Int}(h:rng62 i=true):-(2^62)<=i/\i<2^62:=by
 unfold rng62 at h
 rw[Bool.and_eq_true,decide_eq_true_eq,decide_eq_true_eq] at h
 exact h
theorem list_of_range{pins:List (Addr×Obj)}{σ:St}{H:Hp}{s:Shared}{Q:VK}{E:Value->Shared->Prop}{lo hi:Int}{t u v:Tok}{tk:Nat}(hc:X.calm=true)(I:Inv X pins σ H s)(h1:-(2^62)<=lo/\lo<2^62)(h3:-(2^62)<=hi/\hi<2^62)
  (hz:szl (hi-lo).toNat=true) (q:∀ p,H p=none->Q (.ref p) (upd H p (.lst (rangeV lo hi)))) :
  wpAny (model X.prog X.w) X.A (call (.type "list") [.ref s.heap.objs.size]) (EP X pins σ Q) E { s with heap:=s.heap.push { cls:=.type "range",data:=.fields #[.int lo t,.int hi u,.int 1 v] },toks:=tk }:=by
 have hz':(hi-lo).toNat<=100000:=by unfold szl at hz;simpa using hz
 refine call_list_range (n:=(hi-lo).toNat) (I.ok.hd hc) (IsRange.new ..) (small_one h1.1 h1.2 h3.1 h3.2) (by rw[rangeSize_one];split<;>omega) (by omega) fun h' tk' acc' c' kp e its=>?_
 have I1:Inv X pins σ H { s with heap:=s.heap.push { cls:=.type "range",data:=.fields #[.int lo t,.int hi u,.int 1 v] },toks:=tk }:=I.kept fun b o e=>Heap.get?_push_of_some _ e
 have hl:(rangeV lo hi).length=(hi-lo).toNat:=by simp[rangeV]
 have hv:Vals (rangeV lo hi) acc'.toList:=by
  refine vals_of (by rw[hl,Array.length_toList,its.1]) fun i v u e1 e2=>?_
  obtain⟨t,rfl⟩:=its.2 i u (by simpa using e2)
  unfold rangeV at e1
  rw[List.getElem?_map] at e1
  obtain⟨j,e3,rfl⟩:=Option.map_eq_some_iff.mp e1
  rw[List.getElem?_eq_some_iff] at e3
  obtain⟨_,e3⟩:=e3
  rw[List.getElem_range] at e3
  subst e3
  exact⟨t,by rw[Int.mul_one]⟩
 refine⟨.ref _,_,I1.laid (t':=tk') kp (Nat.le_refl _) (show ObjOk X.prog X.w _ h' _ (.lst (rangeV lo hi)) from⟨by rw[hl];exact szl_ok hz,acc'.toList,c',hv,e⟩),rfl,q _ (I1.hok.fresh (Nat.le_refl _))⟩
theorem tuple_of_range{pins:List (Addr×Obj)}{σ:St}{H:Hp}{s:Shared}{Q:VK}{E:Value->Shared->Prop}{lo hi:Int}{t u v:Tok}{tk:Nat}(hc:X.calm=true)(I:Inv X pins σ H s)(h1:-(2^62)<=lo/\lo<2^62)(h3:-(2^62)<=hi/\hi<2^62)
  (hz:szl (hi-lo).toNat=true) (q:∀ p,H p=none->Q (.ref p) (upd H p (.tup (rangeV lo hi)))) :
  wpAny (model X.prog X.w) X.A (call (.type "tuple") [.ref s.heap.objs.size]) (EP X pins σ Q) E { s with heap:=s.heap.push { cls:=.type "range",data:=.fields #[.int lo t,.int hi u,.int 1 v] },toks:=tk }:=by
 have hz':(hi-lo).toNat<=100000:=by unfold szl at hz;simpa using hz
 refine call_tuple_range (n:=(hi-lo).toNat) (I.ok.hd hc) (IsRange.new ..) (small_one h1.1 h1.2 h3.1 h3.2) (by rw[rangeSize_one];split<;>omega) hz' fun h' tk' acc' kp its=>?_
 have I1:Inv X pins σ H { s with heap:=s.heap.push { cls:=.type "range",data:=.fields #[.int lo t,.int hi u,.int 1 v] },toks:=tk }:=I.kept fun b o e=>Heap.get?_push_of_some _ e
 have I2:Inv X pins σ H { s with heap:=h',toks:=tk' }:=I1.kept (h':=h') (t':=tk') kp
 have hl:(rangeV lo hi).length=(hi-lo).toNat:=by simp[rangeV]
 have hv:Vals (rangeV lo hi) acc'.toList:=by
  refine vals_of (by rw[hl,Array.length_toList,its.1]) fun i v u e1 e2=>?_
  obtain⟨t,rfl⟩:=its.2 i u (by simpa using e2)
  unfold rangeV at e1
  rw[List.getElem?_map] at e1
  obtain⟨j,e3,rfl⟩:=Option.map_eq_some_iff.mp e1
  rw[List.getElem?_eq_some_iff] at e3
  obtain⟨_,e3⟩:=e3
  rw[List.getElem_range] at e3
  subst e3
  exact⟨t,by rw[Int.mul_one]⟩
 refine⟨.ref _,_,I2.laid (h':=h'.push { cls:=.type "tuple",data:=.seq acc' }) (t':=tk') (fun b o e=>Heap.get?_push_of_some _ e) (Nat.le_refl _) ?_,rfl,q _ (I2.hok.fresh (Nat.le_refl _))⟩
 refine(show ObjOk X.prog X.w _ _ _ (.tup (rangeV lo hi)) from⟨by rw[hl];exact szl_ok hz,acc'.toList,hv,?_⟩)
 exact⟨_,Heap.get?_push_size _ rfl,rfl,0,rfl⟩
theorem ev_trange1{x y:Str}{a:Expr}{j:Int}{p q q' pos:Pos}(G:Good cx k X sc)(hx:bltOf cx sc x=some "tuple")(hy:bltOf cx sc y=some "range")(ha:Ev X ρ a (.int j))(hp:plainE a=true)(hj:rng62 j=true)(hz:szl j.toNat=true) :
  Ev X ρ (.Call (.Name x p) [.Call (.Name y q) [a] [] q'] [] pos) (.tup (rangeD 0 j)):=by
 obtain⟨hg,hm,rfl⟩:=bltOf_ok G hx
 obtain⟨hg2,hm2,rfl⟩:=bltOf_ok G hy
 intro σ H Hs Q hs hst hq pins s I
 refine Call_ (ld_blt I hg hm (show bootBuiltins "tuple"=some (.type "tuple") by decide +kernel) (PyProof.Rows.callWith_type1 ?_ rfl rfl))
 show wpAny _ _ (spliced [(false,eval (.Call (.Name _ q) [a] [] q') X.env)]) _ _ _
 refine Calls.spliced_cons ?_
 refine Call_ (ld_blt I hg2 hm2 boot_range (PyProof.Rows.callWith_type1 ?_ (plain_star hp) rfl))
 refine thn ((pa_cons pe_sem pa_nil (plain_star hp)) q' pins s σ H (fun vs H1=>∃ Hs1,vs=[.int j]/\Ext Hs H Hs1 H1) I (ha σ H Hs _ hs hst fun v H1 Hs1 E1 r1=>⟨Hs1,by rw[rep_int r1],E1⟩)) fun us s1 ⟨vs,H1,I1,r1,Hs1,e1,E1⟩=>?_
 subst e1
 obtain⟨u,w1,rfl,rx,rr⟩:=valsC r1
 cases rr
 obtain⟨t,rfl⟩:=(show ∃ t,u=Value.int j t from rx)
 refine call_range_1 (Calls.spliced_nil ?_)
 exact tuple_of_range G.calm I1 (by decide) (rng_ok hj) (by simpa using hz) fun p hp=>new_tup E1.sub range_rep hp fun w H' Hs' E2 r2=>hq w H' Hs' (E1.trans E2) r2
theorem ev_lrange1{x y:Str}{a:Expr}{j:Int}{p q q' pos:Pos}(G:Good cx k X sc)(hx:bltOf cx sc x=some "list")(hy:bltOf cx sc y=some "range")(ha:Ev X ρ a (.int j))(hp:plainE a=true)(hj:rng62 j=true)(hz:szl j.toNat=true) :
  Ev X ρ (.Call (.Name x p) [.Call (.Name y q) [a] [] q'] [] pos) (.lst (rangeD 0 j)):=by
 obtain⟨hg,hm,rfl⟩:=bltOf_ok G hx
 obtain⟨hg2,hm2,rfl⟩:=bltOf_ok G hy
 intro σ H Hs Q hs hst hq pins s I
 refine Call_ (ld_blt I hg hm (show bootBuiltins "list"=some (.type "list") by decide +kernel) (PyProof.Rows.callWith_type1 ?_ rfl rfl))
 show wpAny _ _ (spliced [(false,eval (.Call (.Name _ q) [a] [] q') X.env)]) _ _ _
 refine Calls.spliced_cons ?_
 refine Call_ (ld_blt I hg2 hm2 boot_range (PyProof.Rows.callWith_type1 ?_ (plain_star hp) rfl))
 refine thn ((pa_cons pe_sem pa_nil (plain_star hp)) q' pins s σ H (fun vs H1=>∃ Hs1,vs=[.int j]/\Ext Hs H Hs1 H1) I (ha σ H Hs _ hs hst fun v H1 Hs1 E1 r1=>⟨Hs1,by rw[rep_int r1],E1⟩)) fun us s1 ⟨vs,H1,I1,r1,Hs1,e1,E1⟩=>?_
 subst e1
 obtain⟨u,w1,rfl,rx,rr⟩:=valsC r1
 cases rr
 obtain⟨t,rfl⟩:=(show ∃ t,u=Value.int j t from rx)
 refine call_range_1 (Calls.spliced_nil ?_)
 exact list_of_range G.calm I1 (by decide) (rng_ok hj) (by simpa using hz) fun p hp=>new_lst E1.sub range_rep hp fun w H' Hs' E2 r2=>hq w H' Hs' (E1.trans E2) r2
theorem ev_lrange2{x y:Str}{a b:Expr}{i j:Int}{p q q' pos:Pos}(G:Good cx k X sc)(hx:bltOf cx sc x=some "list")(hy:bltOf cx sc y=some "range")(ha:Ev X ρ a (.int i))(hp:plainE a=true)(hb:Ev X ρ b (.int j))(hpb:plainE b=true)(hi:rng62 i=true)(hj:rng62 j=true)(hz:szl (j-i).toNat=true) :
  Ev X ρ (.Call (.Name x p) [.Call (.Name y q) [a,b] [] q'] [] pos) (.lst (rangeD i j)):=by
 obtain⟨hg,hm,rfl⟩:=bltOf_ok G hx
 obtain⟨hg2,hm2,rfl⟩:=bltOf_ok G hy
 intro σ H Hs Q hs hst hq pins s I
 refine Call_ (ld_blt I hg hm (show bootBuiltins "list"=some (.type "list") by decide +kernel) (PyProof.Rows.callWith_type1 ?_ rfl rfl))
 show wpAny _ _ (spliced [(false,eval (.Call (.Name _ q) [a,b] [] q') X.env)]) _ _ _
 refine Calls.spliced_cons ?_
 refine Call_ (ld_blt I hg2 hm2 boot_range (PyProof.Rows.callWith_type1 ?_ (plain_star hp) (stars_any fun e he=>by rw[List.mem_singleton.mp he];exact hpb)))
 refine thn ((pa_cons pe_sem (pa_cons pe_sem pa_nil (plain_star hpb)) (plain_star hp)) q' pins s σ H (fun vs H1=>∃ Hs1,vs=[.int i,.int j]/\Ext Hs H Hs1 H1) I (ha σ H Hs _ hs hst fun v H1 Hs1 E1 r1=>hb σ H1 Hs1 _ E1.sub (hst.same E1.vis) fun v' H2 Hs2 E2 r2=>⟨Hs2,by rw[rep_int r1,rep_int r2],E1.trans E2⟩)) fun us s1 ⟨vs,H1,I1,r1,Hs1,e1,E1⟩=>?_
 subst e1
 obtain⟨u,w1,rfl,rx,rr⟩:=valsC r1
 obtain⟨u2,w2,rfl,rx2,rr2⟩:=valsC rr
 cases rr2
 obtain⟨t,rfl⟩:=(show ∃ t,u=Value.int i t from rx)
 obtain⟨t2,rfl⟩:=(show ∃ t,u2=Value.int j t from rx2)
 refine call_range_2 (Calls.spliced_nil ?_)
 exact list_of_range G.calm I1 (rng_ok hi) (rng_ok hj) hz fun p hp=>new_lst E1.sub range_rep hp fun w H' Hs' E2 r2=>hq w H' Hs' (E1.trans E2) r2
variable {tg iter a b:Expr}
theorem evI_seq{d:D}{l:List D}(h:Ev X ρ iter d)(hl:items d=some l):EvI X ρ tg iter l:=by
  intro σ H Hs R hs hst hq
  cases d with
  | lst xs =>
    simp only[items,Option.some.injEq] at hl;subst hl
    refine(pi_list (tg:=tg) pe_sem).sem (h σ H Hs _ hs hst fun v H1 Hs1 E1 r1=>?_)
    obtain⟨p,vs,rfl,h1,h2⟩:=rep_lst r1
    refine⟨p,rfl,⟨vs,E1.sub.seq h1⟩,hq _ H1 Hs1 E1 fun Hs' H' e1 e2=>⟨⟨vs,e2.seq (e1.seq h1),by rw[h2.length];exact Nat.le_refl _⟩,fun i d hd=>?_⟩⟩
    obtain⟨v,g1,g2⟩:=h2.get hd
    refine⟨⟨vs,v,e2.seq (e1.seq h1),g1⟩,fun x H2 y=>?_⟩
    obtain⟨rfl,y⟩:=y
    have:=y vs (e2.seq (e1.seq h1))
    rw[g1] at this;cases this
    exact⟨Hs',.refl e2,Rep.same e1 d v g2⟩
  | tup xs =>
    simp only[items,Option.some.injEq] at hl;subst hl
    refine(pi_tup (tg:=tg) pe_sem).sem (h σ H Hs _ hs hst fun v H1 Hs1 E1 r1=>?_)
    obtain⟨p,vs,rfl,h1,h2⟩:=rep_tup r1
    refine⟨p,rfl,⟨vs,E1.sub.tup h1⟩,hq _ H1 Hs1 E1 fun Hs' H' e1 e2=>⟨⟨vs,e2.tup (e1.tup h1),by rw[h2.length];exact Nat.le_refl _⟩,fun i d hd=>?_⟩⟩
    obtain⟨v,g1,g2⟩:=h2.get hd
    refine⟨⟨vs,v,e2.tup (e1.tup h1),g1⟩,fun x H2 y=>?_⟩
    obtain⟨rfl,y⟩:=y
    have:=y vs (e2.tup (e1.tup h1))
    rw[g1] at this;cases this
    exact⟨Hs',.refl e2,Rep.same e1 d v g2⟩
  | _=>simp[items] at hl
theorem itrep_range{K:PySem.W.Frag}{Hs0:Hp}{lo hi:Int}{n:Nat}(hn:n=(hi-lo).toNat):ItRep K (Itr lo n) Hs0 (rangeD lo hi):=by
 have hl:(rangeD lo hi).length=n:=by rw[hn];simp[rangeD]
 intro Hs H e1 e2
 refine⟨by show n<=_;rw[hl];exact Nat.le_refl _,fun i d hd=>?_⟩
 have hi:i<n:=by have:=(List.getElem?_eq_some_iff.mp hd).1;rw[hl] at this;exact this
 refine⟨hi,fun x H' y=>?_⟩
 obtain⟨rfl,rfl⟩:=y
 refine⟨Hs,.refl e2,?_⟩
 unfold rangeD at hd
 rw[List.getElem?_map] at hd
 obtain⟨j,e3,rfl⟩:=Option.map_eq_some_iff.mp hd
 rw[List.getElem?_eq_some_iff] at e3
 obtain⟨_,e3⟩:=e3
 rw[List.getElem_range] at e3
 subst e3
 simp[Rep]
theorem evI_range1{x:Str}{j:Int}{p pos:Pos}(G:Good cx k X sc)(hx:bltOf cx sc x=some "range")(ha:Ev X ρ a (.int j))(hp:plainE a=true)(hj:rng62 j=true):EvI X ρ tg (.Call (.Name x p) [a] [] pos) (rangeD 0 j):=by
 obtain⟨hg,hm,rfl⟩:=bltOf_ok G hx
 intro σ H Hs R hs hst hq
 have q:=pi_range1 (tg:=tg) (p:=p) (pos:=pos) hg hm (pa_cons (pe_sem (X:=X) (e:=a)) pa_nil (plain_star hp)) (plain_star hp)
 refine PI.sem q (ha σ H Hs _ hs hst fun v H1 Hs1 E1 r1=>?_)
 exact⟨j,by rw[rep_int r1],(rng_ok hj).1,(rng_ok hj).2,hq _ H1 Hs1 E1 (itrep_range (by simp))⟩
theorem evI_range2{x:Str}{i j:Int}{p pos:Pos}(G:Good cx k X sc)(hx:bltOf cx sc x=some "range")(ha:Ev X ρ a (.int i))(hp:plainE a=true)(hb:Ev X ρ b (.int j))(hpb:plainE b=true)(hi:rng62 i=true)(hj:rng62 j=true):EvI X ρ tg (.Call (.Name x p) [a,b] [] pos) (rangeD i j):=by
 obtain⟨hg,hm,rfl⟩:=bltOf_ok G hx
 intro σ H Hs R hs hst hq
 have q:=pi_range2 (tg:=tg) (p:=p) (pos:=pos) hg hm (pa_cons (pe_sem (X:=X) (e:=a)) (pa_cons (pe_sem (X:=X) (e:=b)) pa_nil (plain_star hpb)) (plain_star hp)) (by rw[plain_star hp,plain_star hpb];rfl) (plain_star hpb)
 refine PI.sem q (ha σ H Hs _ hs hst fun v H1 Hs1 E1 r1=>hb σ H1 Hs1 _ E1.sub (hst.same E1.vis) fun v' H2 Hs2 E2 r2=>?_)
 exact⟨i,j,by rw[rep_int r1,rep_int r2],⟨(rng_ok hi).1,(rng_ok hi).2,(rng_ok hj).1,(rng_ok hj).2⟩,hq _ H2 Hs2 (E1.trans E2) (itrep_range rfl)⟩
theorem evI_zip{x:Str}{xs ys:List D}{p pos pt:Pos}{es:List Expr}{kt:Nat}(G:Good cx k X sc)(hx:bltOf cx sc x=some "zip")(ha:Ev X ρ a (.tup xs))(hp:plainE a=true)(hb:Ev X ρ b (.tup ys))(hpb:plainE b=true) :
  EvI X ρ (.Tuple es kt pt) (.Call (.Name x p) [a,b] [] pos) ((xs.zip ys).map fun q=>.tup [q.1,q.2]):=by
 obtain⟨hg,hm,rfl⟩:=bltOf_ok G hx
 intro σ H Hs R hs hst hq
 have q:=pi_zip (es:=es) (kt:=kt) (pt:=pt) (p:=p) (pos:=pos) hg hm (pa_cons (pe_sem (X:=X) (e:=a)) (pa_cons (pe_sem (X:=X) (e:=b)) pa_nil (plain_star hpb)) (plain_star hp)) (by rw[plain_star hp,plain_star hpb];rfl) (plain_star hpb)
 refine PI.sem q (ha σ H Hs _ hs hst fun v H1 Hs1 E1 r1=>hb σ H1 Hs1 _ E1.sub (hst.same E1.vis) fun v' H2 Hs2 E2 r2=>?_)
 obtain⟨c,vs,rfl,h1,h2⟩:=rep_tup (Rep.same E2.vis _ _ r1)
 obtain⟨d,us,rfl,h3,h4⟩:=rep_tup r2
 have l1:=h2.length
 have l2:=h4.length
 refine⟨c,d,rfl,⟨vs,E2.sub.tup h1⟩,⟨us,E2.sub.tup h3⟩,hq _ H2 Hs2 (E1.trans E2) fun Hs' H' e1 e2=>⟨⟨vs,us,e2.tup (e1.tup h1),e2.tup (e1.tup h3),?_⟩,fun i z hz=>?_⟩⟩
 ·rw[List.length_map,List.length_zip]
  omega
 ·rw[List.getElem?_map] at hz
  obtain⟨⟨x1,y1⟩,e3,rfl⟩:=Option.map_eq_some_iff.mp hz
  rw[List.getElem?_zip_eq_some] at e3
  obtain⟨v1,g1,g2⟩:=h2.get e3.1
  obtain⟨v2,g3,g4⟩:=h4.get e3.2
  refine⟨⟨vs,us,v1,v2,e2.tup (e1.tup h1),e2.tup (e1.tup h3),g1,g3⟩,fun w H3 y=>?_⟩
  obtain⟨p,hp',rfl,y⟩:=y
  rw[y vs us v1 v2 (e2.tup (e1.tup h1)) (e2.tup (e1.tup h3)) g1 g3]
  refine⟨_,Ext.new e2 (.tup [v1,v2]) hp',?_⟩
  have sm:=(Ext.new e2 (.tup [v1,v2]) hp').vis
  simp only[Rep]
  exact⟨p,[v1,v2],rfl,.of upd_same,.cons (Rep.same sm _ _ (Rep.same e1 _ _ g2)) (.cons (Rep.same sm _ _ (Rep.same e1 _ _ g4)) .nil)⟩
theorem evI_zipN{x:Str}{xs ys:List D}{p pos pt:Pos}{es:List Expr}{kt:Nat}(G:Good cx k X sc)(hx:bltOf cx sc x=some "zip")(ha:Ev X ρ a (.tup xs))(hp:plainE a=true)(hb:Ev X ρ b (.lst ys))(hpb:plainE b=true) :
  EvI X ρ (.Tuple es kt pt) (.Call (.Name x p) [a,b] [] pos) ((xs.zip ys).map fun q=>.tup [q.1,q.2]):=by
 obtain⟨hg,hm,rfl⟩:=bltOf_ok G hx
 intro σ H Hs R hs hst hq
 have q:=pi_zipN (es:=es) (kt:=kt) (pt:=pt) (p:=p) (pos:=pos) hg hm (pa_cons (pe_sem (X:=X) (e:=a)) (pa_cons (pe_sem (X:=X) (e:=b)) pa_nil (plain_star hpb)) (plain_star hp)) (by rw[plain_star hp,plain_star hpb];rfl) (plain_star hpb)
 refine PI.sem q (ha σ H Hs _ hs hst fun v H1 Hs1 E1 r1=>hb σ H1 Hs1 _ E1.sub (hst.same E1.vis) fun v' H2 Hs2 E2 r2=>?_)
 obtain⟨c,vs,rfl,h1,h2⟩:=rep_tup (Rep.same E2.vis _ _ r1)
 obtain⟨d,us,rfl,h3,h4⟩:=rep_lst r2
 have l1:=h2.length
 have l2:=h4.length
 refine⟨c,d,rfl,⟨vs,E2.sub.tup h1⟩,⟨us,E2.sub.seq h3⟩,hq _ H2 Hs2 (E1.trans E2) fun Hs' H' e1 e2=>⟨⟨vs,us,e2.tup (e1.tup h1),e2.seq (e1.seq h3),?_⟩,fun i z hz=>?_⟩⟩
 ·rw[List.length_map,List.length_zip]
  omega
 ·rw[List.getElem?_map] at hz
  obtain⟨⟨x1,y1⟩,e3,rfl⟩:=Option.map_eq_some_iff.mp hz
  rw[List.getElem?_zip_eq_some] at e3
  obtain⟨v1,g1,g2⟩:=h2.get e3.1
  obtain⟨v2,g3,g4⟩:=h4.get e3.2
  refine⟨⟨vs,us,v1,v2,e2.tup (e1.tup h1),e2.seq (e1.seq h3),g1,g3⟩,fun w H3 y=>?_⟩
  obtain⟨p,hp',rfl,y⟩:=y
  rw[y vs us v1 v2 (e2.tup (e1.tup h1)) (e2.seq (e1.seq h3)) g1 g3]
  refine⟨_,Ext.new e2 (.tup [v1,v2]) hp',?_⟩
  have sm:=(Ext.new e2 (.tup [v1,v2]) hp').vis
  simp only[Rep]
  exact⟨p,[v1,v2],rfl,.of upd_same,.cons (Rep.same sm _ _ (Rep.same e1 _ _ g2)) (.cons (Rep.same sm _ _ (Rep.same e1 _ _ g4)) .nil)⟩
theorem enD_len{xs:List D}:(enD xs).length=xs.length:=by simp[enD]
theorem enD_get{xs:List D}{i:Nat}{d:D}(h:(enD xs)[i]?=some d):∃ x,xs[i]?=some x/\d=.tup [.int (i:Int),x]:=by
 unfold enD at h
 rw[List.getElem?_map] at h
 obtain⟨⟨x,j⟩,e1,e2⟩:=Option.map_eq_some_iff.mp h
 rw[List.getElem?_zipIdx] at e1
 obtain⟨y,e3,e4⟩:=Option.map_eq_some_iff.mp e1
 simp at e4
 obtain⟨rfl,rfl⟩:=e4
 exact⟨y,e3,e2.symm⟩
theorem evI_enum{x:Str}{xs:List D}{p pos pt:Pos}{es:List Expr}{kt:Nat}(G:Good cx k X sc)(hx:bltOf cx sc x=some "enumerate")(ha:Ev X ρ a (.tup xs))(hp:plainE a=true) :
  EvI X ρ (.Tuple es kt pt) (.Call (.Name x p) [a] [] pos) (enD xs):=by
 obtain⟨hg,hm,rfl⟩:=bltOf_ok G hx
 intro σ H Hs R hs hst hq
 have q:=pi_enum (es:=es) (kt:=kt) (pt:=pt) (p:=p) (pos:=pos) hg hm (pa_cons (pe_sem (X:=X) (e:=a)) pa_nil (plain_star hp)) (plain_star hp)
 refine PI.sem q (ha σ H Hs _ hs hst fun v H1 Hs1 E1 r1=>?_)
 obtain⟨c,vs,rfl,h1,h2⟩:=rep_tup r1
 refine⟨c,rfl,⟨vs,E1.sub.tup h1⟩,hq _ H1 Hs1 E1 fun Hs' H' e1 e2=>⟨⟨vs,e2.tup (e1.tup h1),by rw[enD_len,h2.length]⟩,fun i d hd=>?_⟩⟩
 obtain⟨y,e3,rfl⟩:=enD_get hd
 obtain⟨w,g1,g2⟩:=h2.get e3
 refine⟨⟨vs,w,e2.tup (e1.tup h1),g1⟩,fun u H2 yl=>?_⟩
 obtain⟨p,hp',rfl,yl⟩:=yl
 rw[yl vs w (e2.tup (e1.tup h1)) g1]
 refine⟨_,Ext.new e2 (.tup [.int (i:Int),w]) hp',?_⟩
 have sm:=(Ext.new e2 (.tup [.int (i:Int),w]) hp').vis
 simp only[Rep]
 exact⟨p,[.int (i:Int),w],rfl,.of upd_same,.cons (by simp[Rep]) (.cons (Rep.same sm _ _ (Rep.same e1 _ _ g2)) .nil)⟩
end
end L2
namespace L2
open PySem PySem.Spec PyProof.Rows DE PySem.SeqAt
theorem obind{α β:Type}{x:Option α}{f:α->Option β}{y:β}(h:(x >>=f)=some y):∃ a,x=some a/\f a=some y:=by
 cases x with
 | none=>cases h
 | some a=>exact⟨a,rfl,h⟩
def gSem(X:Cx)(tg:Expr):TG:=fun v σ H Q=>∀ pins s u,Inv X pins σ H s->RelV v u->wpAny (model X.prog X.w) X.A (assign tg X.env u) (fun _ s'=>∃ σ' H',Inv X pins σ' H' s'/\Q σ' H') X.xe s
def gsSem(X:Cx)(es:List Expr):TGs:=fun vs σ H Q=>∀ pins s us,Inv X pins σ H s->Vals vs us->wpAny (model X.prog X.w) X.A (assignInOrder ((assignEach es X.env).map (·.2)) us) (fun _ s'=>∃ σ' H',Inv X pins σ' H' s'/\Q σ' H') X.xe s
section
variable {X:Cx} {tg:Expr} {es:List Expr}
theorem pg_sem:PG X tg (gSem X tg):=fun pins s σ H v u Q I r h=>h pins s u I r
theorem PG.sem{t:TG}{v:V}{σ:St}{H:Hp}{Q:St->Hp->Prop}(h:PG X tg t)(q:t v σ H Q):gSem X tg v σ H Q:=fun pins s u I r=>h pins s σ H v u Q I r q
theorem pgs_sem:PGs X es (gsSem X es):=fun pins s σ H v u Q I r h=>h pins s u I r
theorem PGs.sem{t:TGs}{v:List V}{σ:St}{H:Hp}{Q:St->Hp->Prop}(h:PGs X es t)(q:t v σ H Q):gsSem X es v σ H Q:=fun pins s u I r=>h pins s σ H v u Q I r q
end
theorem setR_names:∀ (ρ:Rho) (x:Str) (v:Sl),(setR ρ x v).map (·.1)=ρ.map (·.1)
  | [],_,_=>rfl
  | (y, s) :: r, x, v => by
    unfold setR
    split
    · rfl
    · simp[setR_names r x v]
theorem setR_get:∀ {ρ:Rho} {x:Str} {v:Sl} {i:Nat},(ρ.map (·.1)).Nodup->(ρ.map (·.1))[i]?=some x->∀ j:Nat,(setR ρ x v)[j]?=if j=i then some (x,v) else ρ[j]?
  | [],x,v,i,_,h,_=>by simp at h
  | (y, s) :: r, x, v, 0, hn, h, j => by
    simp at h;subst h
    cases j with
    | zero=>simp[setR]
    | succ j=>simp[setR]
  | (y, s) :: r, x, v, i + 1, hn, h, j => by
    rw[List.map_cons,List.nodup_cons] at hn
    have h':(r.map (·.1))[i]?=some x:=by simpa using h
    have hne:(x==y)=false:=by
      rw[beq_eq_false_iff_ne]
      intro e
      subst e
      exact hn.1 (List.mem_of_getElem? h')
    simp only[setR,hne,Bool.false_eq_true,if_false]
    cases j with
    | zero=>simp
    | succ j =>
      have:=setR_get (v:=v) hn.2 h' j
      simp only[List.getElem?_cons_succ,this,Nat.add_right_cancel_iff]
theorem contains_ix{l:List Str}{x:Str}(h:l.contains x=true):∃ i:Nat,l[i]?=some x:=by
 have:=List.mem_of_elem_eq_true h
 exact List.mem_iff_getElem?.mp this
structure Owns (X:Cx) (scope:Scope):Prop where
 own:∀ x,ownIn scope x=true->Loc X.env.scope x/\(X.fn x=true\/X.env.scope.names.lookup x=some .local)
def Keeps1(K:PySem.W.Frag)(Hs:Hp)(scope:Scope)(P:Rho->St->Prop):Prop:=∀ ρ σ (i:Nat) x d v,(ρ.map (·.1)).Nodup->(ρ.map (·.1))[i]?=some x->ownIn scope x=true->P ρ σ->Rep K Hs d v->P (setR ρ x (.sh d)) (σ.set i (some v))
section
variable {X:Cx} {scope:Scope} {Hs H:Hp} {P:Rho->St->Prop} {Q:St->Hp->Prop}
theorem bind_name{x:Str}{pos:Pos}{ρ ρ':Rho}{σ:St}{d:D}{v:V}(hO:Owns X scope)(hnd:X.N.Nodup)(hN:X.N=ρ.map (·.1))(KE:Keeps1 X.K Hs scope P)(hb:(if ownIn scope x&&(ρ.map (·.1)).contains x then some (setR ρ x (.sh d)) else none)=some ρ')(hp:P ρ σ)(rd:Rep X.K Hs d v)
  (hq:∀ σ',X.N=ρ'.map (·.1)->P ρ' σ'->Q σ' H):gSem X (.Name x pos) v σ H Q:=by
 split at hb
 ·rename_i hc
  cases hb
  rw[Bool.and_eq_true] at hc
  obtain⟨i,hi⟩:=contains_ix hc.2
  obtain⟨h1,h2⟩:=hO.own x hc.1
  exact PG.sem (pg_name (i:=i) hnd (by rw[hN];exact hi) h1 h2) (hq _ (by rw[setR_names];exact hN) (KE ρ σ i x d v (by rw[<- hN];exact hnd) hi hc.1 hp rd))
 ·cases hb
theorem names_each{env:Env}:∀ {es:List Expr} {ds:List D} {ρ ρ':Rho},bindNames scope es ds ρ=some ρ'->(assignEach es env).length=es.length/\(assignEach es env).findIdx? (·.1)=none/\es.length=ds.length
  | [],[],_,_,_=>⟨rfl,rfl,rfl⟩
  | [],d::ds,ρ,ρ',h=>by simp[bindNames] at h
  | e::es,[],ρ,ρ',h=>by cases e<;>simp[bindNames] at h
  | e :: es, d :: ds, ρ, ρ', h => by
    cases e<;>try (simp[bindNames] at h;done)
    rename_i x pos
    simp only[bindNames] at h
    split at h
    · obtain⟨h1,h2,h3⟩:=names_each (env:=env) h
      refine⟨by show(assignEach es env).length+1=_;rw[h1];rfl,?_,by simp[h3]⟩
      show((false,assign (.Name x pos) env)::assignEach es env).findIdx? (·.1)=none
      rw[List.findIdx?_cons]
      simp only[Bool.false_eq_true,if_false,h2]
      rfl
    · cases h
theorem bind_names(hO:Owns X scope)(hnd:X.N.Nodup)(KE:Keeps1 X.K Hs scope P):∀ {es:List Expr} {ds:List D} {vs:List V} {ρ ρ':Rho} {σ:St},X.N=ρ.map (·.1)->bindNames scope es ds ρ=some ρ'->P ρ σ->RepL X.K Hs ds vs->(∀ σ',X.N=ρ'.map (·.1)->P ρ' σ'->Q σ' H)->gsSem X es vs σ H Q
  | [], [], vs, ρ, ρ', σ, hN, h, hp, rd, hq => by
    simp only[bindNames,Option.some.injEq] at h
    subst h
    simp only[RepL] at rd
    exact PGs.sem pgs_nil ⟨rd,hq _ hN hp⟩
  | [],d::ds,vs,ρ,ρ',σ,hN,h,hp,rd,hq=>by simp[bindNames] at h
  | e::es,[],vs,ρ,ρ',σ,hN,h,hp,rd,hq=>by cases e<;>simp[bindNames] at h
  | e :: es, d :: ds, vs, ρ, ρ', σ, hN, h, hp, rd, hq => by
    cases e<;>try (simp[bindNames] at h;done)
    rename_i x pos
    simp only[bindNames] at h
    split at h
    · rename_i hc
      simp only[RepL] at rd
      obtain⟨v,r,rfl,r1,r2⟩:=rd
      refine PGs.sem (pgs_cons pg_sem pgs_sem) ⟨v,r,rfl,?_⟩
      exact bind_name hO hnd hN KE (ρ':=setR ρ x (.sh d)) (by rw[if_pos hc]) hp r1 fun σ' hN' hp'=>bind_names hO hnd KE hN' h hp' r2 hq
    · cases h
theorem bind_ok{tg:Expr}{ρ ρ':Rho}{σ:St}{d:D}{v:V}(hc:X.calm=true)(hO:Owns X scope)(hnd:X.N.Nodup)(hs:Same Hs H)(hN:X.N=ρ.map (·.1))(KE:Keeps1 X.K Hs scope P)(hb:bindT scope tg d ρ=some ρ')(hp:P ρ σ)(rd:Rep X.K Hs d v)
  (hq:∀ σ',X.N=ρ'.map (·.1)->P ρ' σ'->Q σ' H):gSem X tg v σ H Q:=by
 unfold bindT at hb
 split at hb
 ·exact bind_name hO hnd hN KE hb hp rd hq
 ·rename_i es k pos ds
  obtain⟨a,vs,rfl,h1,h2⟩:=rep_tup rd
  obtain⟨e1,e2,e3⟩:=names_each (env:=X.env) hb
  exact PG.sem (pg_tup hc pgs_sem e1 e2) ⟨a,vs,rfl,hs.tup h1,by rw[<- h2.length,e3],bind_names hO hnd KE hN hb hp h2 hq⟩
 ·cases hb
end
section
variable {X Xc:Cx} {scope sc:Scope} {cx:Cxt} {k:Nat} {ρ:Rho}
theorem nodupB_ok:∀ {l:List Str},nodupB l=true->l.Nodup
  | [],_=>.nil
  | x :: r, h => by
    unfold nodupB at h
    rw[Bool.and_eq_true] at h
    refine List.nodup_cons.mpr ⟨fun hm=>?_,nodupB_ok h.2⟩
    have:r.contains x=true:=by simpa using hm
    rw[this] at h
    exact absurd h.1 (by decide)
theorem compOk_ok(G:Good cx k X sc)(h:compOk sc scope=true):scope.kind=.function/\(scope.names.map (·.1)).Nodup/\∀ x,(x,NameKind.free)∈scope.names->X.env.kindOf x=some .cell\/X.env.kindOf x=some .free:=by
 unfold compOk at h
 rw[Bool.and_eq_true,Bool.and_eq_true] at h
 refine⟨by simpa using h.1.1,nodupB_ok h.1.2,fun x hx=>?_⟩
 have:=List.all_eq_true.mp h.2 _ hx
 show X.env.scope.names.lookup x=_\/X.env.scope.names.lookup x=_
 rw[G.sce]
 simpa using this
theorem rel_eq(G:Good cx k X sc):relabel scope X.env=relS scope sc:=by
 unfold relabel relS Env.kindOf
 rw[G.sce]
theorem Good.comp(G:Good cx k X sc)(C:CompOf X scope Xc)(h:compOk sc scope=true):Good cx k Xc (relS scope sc) where
 calm:=C.calm
 room:=by rw[C.A];exact G.room
 sce:=by rw[C.sc,rel_eq G]
 kind:=(compOk_ok G h).1
 nd:=by rw[C.N];exact(compOk_ok G h).2.1
 cst:=by rw[C.mg,C.K];exact G.cst
 blt:=by rw[C.mg];exact G.blt
 exs:=by rw[C.mg,C.K];exact G.exs
 fns:=by rw[C.mg,C.prog,C.w,C.K,C.base];exact G.fns
theorem Owns.comp(G:Good cx k X sc)(C:CompOf X scope Xc):Owns Xc scope where
 own:=fun x hx=>by
  unfold ownIn at hx
  rw[Bool.or_eq_true] at hx
  have look:∀ kd,scope.names.lookup x=some kd->kd≠.free->Xc.env.scope.names.lookup x=some kd:=fun kd e hne=>by
   rw[C.sc]
   show(scope.names.map _).lookup x=_
   rw[relabel_lookup,e]
   simp[hne]
  rcases hx with hx | hx
  ·have e:scope.names.lookup x=some .local:=by simpa using hx
   have e2:=look _ e (by decide)
   exact⟨.inl e2,.inr e2⟩
  ·have e:scope.names.lookup x=some .cell:=by simpa using hx
   have e2:=look _ e (by decide)
   refine⟨.inr e2,.inl ?_⟩
   rw[C.fn]
   show(scope.names.lookup x==some .cell)=true
   rw[e];rfl
theorem compRho_names:(compRho scope ρ).map (·.1)=scope.names.map (·.1):=by
 unfold compRho
 rw[List.map_map]
 rfl
theorem compRho_rep{K:PySem.W.Frag}{Hs:Hp}{σ:St}{N:List Str}(hN:N=ρ.map (·.1))(h:RepSt K Hs ρ σ):RepSt K Hs (compRho scope ρ) (mkSt N scope.names σ):=by
  intro i x d e
  unfold compRho at e
  rw[List.getElem?_map] at e
  obtain⟨p,e1,e2⟩:=Option.map_eq_some_iff.mp e
  cases hk:p.2==NameKind.free with
  | false=>rw[hk] at e2;simp at e2
  | true =>
    rw[hk] at e2
    simp only[if_true,Prod.mk.injEq] at e2
    obtain⟨rfl,e2⟩:=e2
    have e3:ρ.lookup p.1=some (.sh d):=by
      cases q:ρ.lookup p.1 with
      | none=>rw[q] at e2;simp[shOf] at e2
      | some sl =>
        rw[q] at e2
        cases sl<;>simp[shOf] at e2
        rw[e2]
    obtain⟨j,g1,g2⟩:=lookup_ix e3
    obtain⟨v,g3,g4⟩:=h j _ d g1
    refine⟨v,?_,g4⟩
    unfold mkSt
    rw[List.getElem?_map,e1]
    simp only[Option.map_some,hk,if_true]
    unfold slotOf
    rw[hN,g2]
    simp[g3]
def CSt(K:PySem.W.Frag)(Hs:Hp)(n:Nat)(ρ0:Rho):Rho->St->Prop:=fun ρ σ=>σ.length=n/\RepSt K Hs ρ σ/\RepSt K Hs ρ0 σ
theorem repSt_set{K:PySem.W.Frag}{Hs:Hp}{ρ:Rho}{σ:St}{i:Nat}{x:Str}{d:D}{v:V}(hn:(ρ.map (·.1)).Nodup)(hi:(ρ.map (·.1))[i]?=some x)(hl:i<σ.length)(h:RepSt K Hs ρ σ)(r:Rep K Hs d v):RepSt K Hs (setR ρ x (.sh d)) (σ.set i (some v)):=by
 intro j y d' e
 rw[setR_get hn hi j] at e
 split at e
 ·rename_i hj
  subst hj
  cases e
  exact⟨v,by rw[List.getElem?_set_self hl],r⟩
 ·rename_i hj
  obtain⟨w,h1,h2⟩:=h j y d' e
  exact⟨w,by rw[List.getElem?_set_ne (fun z=>hj z.symm)];exact h1,h2⟩
theorem keeps_comp{K:PySem.W.Frag}{Hs:Hp}{n:Nat}(hnd:(scope.names.map (·.1)).Nodup)(hn:n=scope.names.length):Keeps1 K Hs scope (fun ρ1 σ=>ρ1.map (·.1)=scope.names.map (·.1)/\CSt K Hs n (compRho scope ρ) ρ1 σ):=by
  intro ρ1 σ i x d v h1 h2 h3 ⟨h4,h5,h6,h7⟩ r
  refine⟨by rw[setR_names];exact h4,by rw[List.length_set];exact h5,?_,?_⟩
  · have hi:i<σ.length:=by
      rw[h5,hn]
      have:=(List.getElem?_eq_some_iff.mp h2).1
      rw[h4] at this
      simpa using this
    exact repSt_set h1 h2 hi h6 r
  · intro j y d' e
    obtain⟨w,g1,g2⟩:=h7 j y d' e
    refine⟨w,?_,g2⟩
    have hj:i≠j:=by
      intro z
      subst z
      rw[h4] at h2
      unfold compRho at e
      rw[List.getElem?_map] at e
      rw[List.getElem?_map] at h2
      obtain⟨p,e1,e2⟩:=Option.map_eq_some_iff.mp e
      rw[e1] at h2
      have ex:p.1=x:=by simpa using h2
      cases hk:p.2==NameKind.free with
      | false=>rw[hk] at e2;simp at e2
      | true =>
        have ek:p.2=.free:=by simpa using hk
        have hm:=List.mem_of_getElem? e1
        have:=lookup_nodup (c:=p.2) hnd (by rw[show p=(x,p.2) from by rw[<- ex]] at hm;exact hm)
        unfold ownIn at h3
        rw[this,ek] at h3
        exact absurd h3 (by decide)
    rw[List.getElem?_set_ne hj]
    exact g1
def ifSem(X:Cx)(ifs:List Expr):TT:=fun σ H Q=>∀ pins s,Inv X pins σ H s->wpAny (model X.prog X.w) X.A (forIn ifs true fun c r=>if r=true then do let ok <- isTrue c X.env (eval c X.env);pure (ForInStep.yield ok) else pure (ForInStep.yield r)) (TP X pins σ Q) X.xe s
theorem pifs_sem{ifs:List Expr}:PIfs X ifs (ifSem X ifs):=fun pins s σ H Q I h=>h pins s I
theorem PIfs.sem{ifs:List Expr}{t:TT}{σ:St}{H:Hp}{Q:Bool->Hp->Prop}(h:PIfs X ifs t)(q:t σ H Q):ifSem X ifs σ H Q:=fun pins s I=>h pins s σ H Q I q
theorem ev_ifs{f:Expr->Option D}{ifs:List Expr}{b:Bool}(hf:∀ e d,f e=some d->Ev X ρ e d/\∀ b,d=.bl b->EvT X ρ e b)(h:ifsGo f ifs=some b){σ:St}{H Hs:Hp}{Q:Bool->Hp->Prop}(hs:Same Hs H)(hst:RepSt X.K Hs ρ σ)(hq:∀ H' Hs',Ext Hs H Hs' H'->Q b H'):ifSem X ifs σ H Q:=by
  unfold ifsGo at h
  split at h
  · cases h
    exact PIfs.sem pifs_nil (hq H Hs (.refl hs))
  · rename_i c
    cases hc:f c with
    | none=>rw[hc] at h;cases h
    | some d =>
      rw[hc] at h
      cases d<;>simp[asB] at h
      subst h
      exact PIfs.sem (pifs_one pt_sem) ((hf c _ hc).2 _ rfl σ H Hs Q hs hst hq)
  · cases h
theorem Ext.acc{Hs H Hs' H':Hp}{acc:Addr}{o:HO}(E:Ext Hs H Hs' H')(h:H acc=none)(h':Hs' acc=none):Ext Hs H Hs' (upd H' acc o) where
 vis:=E.vis
 all:=fun b u e=>by rw[upd_ne (ne_of_none e h)];exact E.all b u e
 sub:=fun b u e=>by rw[upd_ne (ne_of_none e h')];exact E.sub b u e
 hid:=E.hid
theorem compGo_cons{f:D->Option (Option D)}{d:D}{r out:List D}(h:compGo f (d::r)=some out):(∃ v o',f d=some (some v)/\compGo f r=some o'/\out=v::o')\/(f d=some none/\compGo f r=some out):=by
  simp only[compGo,bind,Option.bind] at h
  cases hf:f d with
  | none=>rw[hf] at h;cases h
  | some o =>
    rw[hf] at h
    cases o with
    | none=>exact .inr ⟨rfl,h⟩
    | some v =>
      simp only[Option.map_eq_some_iff] at h
      obtain⟨o',h1,rfl⟩:=h
      exact .inl ⟨v,o',rfl,h1,rfl⟩
def compF(cx:Cxt)(n:Nat)(sc scope:Scope)(ρ:Rho)(tg elt:Expr)(ifs:List Expr):D->Option (Option D):=fun d=>do
 let ρ1 <- bindT scope tg d (compRho scope ρ)
 let b <- ifsGo (ev cx n (relS scope sc) ρ1) ifs
 if b then(ev cx n (relS scope sc) ρ1 elt).map some else some none
theorem comp_read{tg iter elt:Expr}{ifs:List Expr}{l out:List D}{n:Nat}(G:Good cx k X sc)(hN:X.N=ρ.map (·.1))(hok:compOk sc scope=true)(hI:EvI X ρ tg iter l)(hz:szl l.length=true)(hgo:compGo (compF cx n sc scope ρ tg elt ifs) l=some out)
    (hE:∀ Xc,CompOf X scope Xc->∀ ρ1:Rho,Xc.N=ρ1.map (·.1)->∀ e d,ev cx n (relS scope sc) ρ1 e=some d->Ev Xc ρ1 e d/\∀ b,d=.bl b->EvT Xc ρ1 e b)
    {σ:St} {H Hs:Hp} {Q:VK} (hs:Same Hs H) (hst:RepSt X.K Hs ρ σ) (hq:∀ acc vs Hs' H',Ext Hs H Hs' H'->H acc=none->Hs' acc=none->H' acc=some (.lst vs)->RepL X.K Hs' out vs->Q (.ref acc) H') :
    tComp X scope (tSemI X tg iter) (mkSt X.N scope.names) (fun Xc=>gSem Xc tg) (fun Xc=>ifSem Xc ifs) (fun Xc=>tSem Xc elt) σ H Q:=by
  obtain⟨ok1,ok2,ok3⟩:=compOk_ok G hok
  refine hI σ H Hs _ hs hst fun J H1 Hs1 E1 hJ acc hacc Xc C=>?_
  have GC:=G.comp C hok
  have OC:=Owns.comp (scope:=scope) G C
  have hNc:∀ ρ1:Rho,ρ1.map (·.1)=scope.names.map (·.1)->Xc.N=ρ1.map (·.1):=fun ρ1 h=>by rw[C.N,h]
  have a1:Hs1 acc=none:=E1.sub.free hacc
  have a0:H acc=none:=E1.all.free hacc
  let W:Nat->Nat->St->Hp->Prop:=fun i m σc H=>m=l.length-i/\i<=l.length/\∃ Hs3 ys pre rest,Ext Hs1 H1 Hs3 H/\Hs3 acc=none/\H acc=some (.lst ys)/\RepL X.K Hs3 pre ys/\compGo (compF cx n sc scope ρ tg elt ifs) (l.drop i)=some rest/\pre++rest=out/\pre.length<=i/\σc.length=scope.names.length/\RepSt X.K Hs3 (compRho scope ρ) σc
  refine⟨W,⟨l.length,rfl,Nat.zero_le _,Hs1,[],[],out,Ext.acc (.refl E1.sub) hacc a1,a1,upd_same,.nil,by simpa using hgo,rfl,Nat.le_refl _,by simp[mkSt],compRho_rep hN (hst.same E1.vis)⟩,?_⟩
  rintro i m σc H3 ⟨rfl,hi,Hs3,ys,pre,rest,E3,b3,c3,r3,g3,p3,q3,l3,s3⟩
  obtain⟨st3,go3⟩:=hJ Hs3 H3 E3.vis E3.sub
  by_cases hlt:i<l.length
  · have hd:l[i]?=some l[i]:=List.getElem?_eq_getElem hlt
    obtain⟨gi,yi⟩:=go3 i l[i] hd
    refine .inr ⟨gi,fun σ' H'=>W (i+1) (l.length-(i+1)) σ' H',fun σ' H' w=>⟨_,by omega,w⟩,fun x H4 y4=>?_⟩
    obtain⟨Hs4,E4,rx⟩:=yi x H4 y4
    have b4:Hs4 acc=none:=E4.hid acc _ c3 b3
    have c4:H4 acc=some (.lst ys):=E4.all _ _ c3
    rw[List.drop_eq_getElem_cons hlt] at g3
    have key:∃ ρ1,bindT scope tg l[i] (compRho scope ρ)=some ρ1/\∃ b,ifsGo (ev cx n (relS scope sc) ρ1) ifs=some b/\((b=true/\∃ v o',ev cx n (relS scope sc) ρ1 elt=some v/\compGo (compF cx n sc scope ρ tg elt ifs) (l.drop (i+1))=some o'/\rest=v::o')\/(b=false/\compGo (compF cx n sc scope ρ tg elt ifs) (l.drop (i+1))=some rest)):=by
      have inv:∀ o,compF cx n sc scope ρ tg elt ifs l[i]=some o->∃ ρ1,bindT scope tg l[i] (compRho scope ρ)=some ρ1/\∃ b,ifsGo (ev cx n (relS scope sc) ρ1) ifs=some b/\(if b then(ev cx n (relS scope sc) ρ1 elt).map some else some none)=some o:=by
        intro o h
        obtain⟨ρ1,h1,h⟩:=obind h
        obtain⟨b,h2,h⟩:=obind h
        exact⟨ρ1,h1,b,h2,h⟩
      rcases compGo_cons g3 with⟨v,o',f1,f2,f3⟩ | ⟨f1,f2⟩
      · obtain⟨ρ1,h1,b,h2,h3⟩:=inv _ f1
        refine⟨ρ1,h1,b,h2,?_⟩
        cases b with
        | false=>simp at h3
        | true =>
          simp only[if_true,Option.map_eq_some_iff] at h3
          obtain⟨w,h3,h4⟩:=h3
          have h5:w=v:=Option.some.inj h4
          subst h5
          exact .inl ⟨rfl,w,o',h3,f2,f3⟩
      · obtain⟨ρ1,h1,b,h2,h3⟩:=inv _ f1
        refine⟨ρ1,h1,b,h2,?_⟩
        cases b with
        | true=>simp at h3
        | false=>exact .inr ⟨rfl,f2⟩
    obtain⟨ρ1,k1,b,k2,k3⟩:=key
    have s4:RepSt X.K Hs4 (compRho scope ρ) σc:=s3.same E4.vis
    have KE:=keeps_comp (K:=Xc.K) (Hs:=Hs4) (ρ:=ρ) (n:=scope.names.length) ok2 rfl
    refine bind_ok (X:=Xc) (scope:=scope) (Hs:=Hs4) GC.calm OC GC.nd E4.sub (hNc _ compRho_names) KE k1 ⟨compRho_names,l3,by rw[C.K];exact s4,by rw[C.K];exact s4⟩ (by rw[C.K];exact rx) fun σ5 hN5 p5=>?_
    obtain⟨_,l5,s5,s5'⟩:=p5
    have hev:=hE Xc C ρ1 hN5
    refine ev_ifs hev k2 E4.sub s5 fun H6 Hs6 E6=>?_
    have b6:Hs6 acc=none:=E6.hid acc _ c4 b4
    have c6:H6 acc=some (.lst ys):=E6.all _ _ c4
    have s6:RepSt X.K Hs6 (compRho scope ρ) σ5:=by rw[<- C.K];exact s5'.same E6.vis
    rcases k3 with⟨rfl,v,o',k3,k4,k5⟩ | ⟨rfl,k3⟩
    · refine iteT ((hev elt v k3).1 σ5 H6 Hs6 _ E6.sub (s5.same E6.vis) fun w H7 Hs7 E7 r7=>?_)
      have b7:Hs7 acc=none:=E7.hid acc _ c6 b6
      have c7:H7 acc=some (.lst ys):=E7.all _ _ c6
      refine⟨ys,c7,?_,rfl,hlt,Hs7,ys++[w],pre++[v],o',Ext.acc (E3.trans (E4.trans (E6.trans E7))) hacc b7,b7,upd_same,?_,k4,?_,by simp;omega,l5,s6.same E7.vis⟩
      · have:=r3.length
        have:=szl_lt hz
        omega
      · rw[<- C.K]
        refine RepL.append ?_ (.cons r7 .nil)
        rw[C.K]
        exact RepL.same (E4.trans (E6.trans E7)).vis pre ys r3
      · rw[<- p3,k5];simp
    · refine iteF ?_
      exact⟨rfl,hlt,Hs6,ys,pre,rest,E3.trans (E4.trans E6),b6,c6,RepL.same (E4.trans E6).vis pre ys r3,k3,p3,by omega,l5,s6⟩
  · have hi':i=l.length:=by omega
    subst hi'
    refine .inl ⟨st3,?_⟩
    rw[List.drop_length] at g3
    simp only[compGo,Option.some.injEq] at g3
    subst g3
    rw[List.append_nil] at p3
    subst p3
    exact hq acc ys Hs3 H3 (E1.trans E3) a0 b3 c3 r3
end
end L2
namespace L2
open PySem PySem.Spec PyProof.Rows DE PySem.SeqAt
section
variable {X:Cx} {ρ:Rho} {cx:Cxt} {k:Nat} {sc scope:Scope}
end
end L2
namespace L2
open PySem PySem.Spec PyProof.Rows DE PySem.SeqAt
theorem Ext.shown{Hs H Hs' H':Hp}{acc:Addr}{o:HO}(E:Ext Hs H Hs' H')(h:H acc=none)(h1:Hs' acc=none)(h2:H' acc=some o):Ext Hs H (upd Hs' acc o) H' where
 vis:=fun b u e=>by rw[upd_ne (ne_of_none (E.vis b u e) h1)];exact E.vis b u e
 all:=E.all
 sub:=fun b u e=>by
  by_cases hb:b=acc
  ·subst hb;rw[upd_same] at e;rw[h2];exact e
  ·rw[upd_ne hb] at e;exact E.sub b u e
 hid:=fun b u e n=>by rw[upd_ne (ne_of_none e h)];exact E.hid b u e n
section
variable {X:Cx} {ρ:Rho} {cx:Cxt} {k:Nat} {sc scope:Scope}
theorem ev_comp{tg iter elt:Expr}{ifs:List Expr}{l out:List D}{n:Nat}{pos:Pos}(G:Good cx k X sc)(hN:X.N=ρ.map (·.1))(hok:compOk sc scope=true)(hI:EvI X ρ tg iter l)(hp:plainE iter=true)(hz:szl l.length=true)(hgo:compGo (compF cx n sc scope ρ tg elt ifs) l=some out)
  (hE:∀ Xc,CompOf X scope Xc->∀ ρ1:Rho,Xc.N=ρ1.map (·.1)->∀ e d,ev cx n (relS scope sc) ρ1 e=some d->Ev Xc ρ1 e d/\∀ b,d=.bl b->EvT Xc ρ1 e b) :
  Ev X ρ (.ListComp elt [⟨tg,iter,ifs,0⟩] scope pos) (.lst out):=by
 obtain⟨ok1,ok2,ok3⟩:=compOk_ok G hok
 intro σ H Hs Q hs hst hq
 refine PE.sem (pe_comp G.calm ok1 ok2 ok3 pi_sem (fun Xc C=>⟨pg_sem,pifs_sem,pe_sem⟩) (plain_set hp)) (comp_read G hN hok hI hz hgo hE hs hst fun acc vs Hs' H' E1 h1 h2 h3 r=>?_)
 have E2:=E1.shown h1 h2 h3
 refine hq _ H' _ E2 ?_
 simp only[Rep]
 refine⟨acc,vs,rfl,.of upd_same,RepL.same (fun b u e=>?_) out vs r⟩
 rw[upd_ne (ne_of_none e h2)];exact e
def WkP (cx : Cxt) (sc : Scope) (e : Expr) : Wk -> Prop
    | .r1 a=>∃ x p pos,e=.Call (.Name x p) [a] [] pos/\bltOf cx sc x=some "range"
    | .r2 a b=>∃ x p pos,e=.Call (.Name x p) [a,b] [] pos/\bltOf cx sc x=some "range"
    | .zp a b=>∃ x p pos,e=.Call (.Name x p) [a,b] [] pos/\bltOf cx sc x=some "zip"
    | .rv a=>∃ x p pos,e=.Call (.Name x p) [a] [] pos/\bltOf cx sc x=some "reversed"
    | .en a=>∃ x p pos,e=.Call (.Name x p) [a] [] pos/\bltOf cx sc x=some "enumerate"
    | .sq=>True
theorem wk_ok{e:Expr}:WkP cx sc e (wkOf cx sc e):=by
 unfold wkOf
 split
 ·rename_i x p args pos
  split
  ·rename_i h
   split
   ·exact⟨x,p,pos,rfl,h⟩
   ·exact⟨x,p,pos,rfl,h⟩
   ·trivial
  ·rename_i h
   split
   ·exact⟨x,p,pos,rfl,h⟩
   ·trivial
  ·rename_i h
   split
   ·exact⟨x,p,pos,rfl,h⟩
   ·trivial
  ·rename_i h
   split
   ·exact⟨x,p,pos,rfl,h⟩
   ·trivial
  ·trivial
 ·trivial
theorem asI_some{x:Option D}{i:Int}(h:x.bind asI=some i):x=some (.int i):=by
 obtain⟨d,h1,h2⟩:=obind (show(x >>=asI)=some i from h)
 cases d<;>simp[asI] at h2
 subst h2;exact h1
theorem asB_some{x:Option D}{i:Bool}(h:x.bind asB=some i):x=some (.bl i):=by
 obtain⟨d,h1,h2⟩:=obind (show(x >>=asB)=some i from h)
 cases d<;>simp[asB] at h2
 subst h2;exact h1
theorem evI_ok{f:Expr->Option D}{tg e:Expr}{l:List D}(G:Good cx k X sc)(hf:∀ e d,f e=some d->Ev X ρ e d/\plainE e=true)(h:evI cx (isTupE tg) f sc e=some l):EvI X ρ tg e l/\plainE e=true:=by
 unfold evI at h
 have w:=wk_ok (cx:=cx) (sc:=sc) (e:=e)
 split at h
 ·rename_i a hw
  rw[hw] at w
  obtain⟨x,p,pos,rfl,hx⟩:=w
  obtain⟨j,h1,h⟩:=obind h
  split at h
  ·rename_i hj
   cases h
   obtain⟨ha,hp⟩:=hf _ _ (asI_some h1)
   exact⟨evI_range1 G hx ha hp hj,rfl⟩
  ·cases h
 ·rename_i a b hw
  rw[hw] at w
  obtain⟨x,p,pos,rfl,hx⟩:=w
  obtain⟨i,h1,h⟩:=obind h
  obtain⟨j,h2,h⟩:=obind h
  split at h
  ·rename_i hj
   cases h
   rw[Bool.and_eq_true] at hj
   obtain⟨ha,hp⟩:=hf _ _ (asI_some h1)
   obtain⟨hb,hpb⟩:=hf _ _ (asI_some h2)
   exact⟨evI_range2 G hx ha hp hb hpb hj.1 hj.2,rfl⟩
  ·cases h
 ·rename_i a b hw
  rw[hw] at w
  obtain⟨x,p,pos,rfl,hx⟩:=w
  obtain⟨d1,h1,h⟩:=obind h
  obtain⟨d2,h2,h⟩:=obind (show(f b >>=fun y=>if isTupE tg=true then zipD d1 y else none)=some l from h)
  have h':(if isTupE tg=true then zipD d1 d2 else none)=some l:=h
  clear h
  split at h'
  ·rename_i ht
   obtain⟨ha,hp⟩:=hf _ _ h1
   obtain⟨hb,hpb⟩:=hf _ _ h2
   cases tg<;>simp[isTupE] at ht
   unfold zipD at h'
   split at h'
   ·cases h';exact⟨evI_zip G hx ha hp hb hpb,rfl⟩
   ·simp at h'
   ·simp at h'
   ·cases h';exact⟨evI_zipN G hx ha hp hb hpb,rfl⟩
   ·cases h'
  ·cases h'
 ·rename_i a hw
  rw[hw] at w
  obtain⟨x,p,pos,rfl,hx⟩:=w
  simp at h
 ·rename_i a hw
  rw[hw] at w
  obtain⟨x,p,pos,rfl,hx⟩:=w
  obtain⟨d1,h1,h⟩:=obind h
  split at h
  ·rename_i ht
   obtain⟨us,hu,rfl⟩:=Option.map_eq_some_iff.mp h
   obtain⟨ha,hp⟩:=hf _ _ h1
   cases tg<;>simp[isTupE] at ht
   cases d1<;>simp[tupI] at hu
   subst hu;exact⟨evI_enum G hx ha hp,rfl⟩
  ·cases h
 ·obtain⟨d,h1,h2⟩:=obind (show(f e >>=items)=some l from h)
  obtain⟨ha,hp⟩:=hf _ _ h1
  exact⟨evI_seq ha h2,hp⟩
theorem tyOf_ok{t:Expr}{T:String}(h:tyOf cx sc t=some T):∃ x p,t=.Name x p/\bltOf cx sc x=some T:=by
 unfold tyOf at h
 split at h
 ·exact⟨_,_,rfl,h⟩
 ·cases h
def WcP (cx : Cxt) (sc : Scope) (b : String) (args : List Expr) : Wc -> Prop
    | .lr1 a=>∃ x p pos,args=[.Call (.Name x p) [a] [] pos]/\bltOf cx sc x=some "range"/\b="list"
    | .lr2 a a'=>∃ x p pos,args=[.Call (.Name x p) [a,a'] [] pos]/\bltOf cx sc x=some "range"/\b="list"
    | .tv a=>∃ x p pos,args=[.Call (.Name x p) [a] [] pos]/\bltOf cx sc x=some "reversed"/\b="tuple"
    | .tr1 a=>∃ x p pos,args=[.Call (.Name x p) [a] [] pos]/\bltOf cx sc x=some "range"/\b="tuple"
    | .ls a=>∃ x p pos,args=[.Call (.Name x p) [a] [] pos]/\bltOf cx sc x=some "set"/\b="len"
    | .al=>True
theorem wc_ok{b:String}{args:List Expr}:WcP cx sc b args (wcOf cx sc b args):=by
 unfold wcOf
 split
 ·rename_i e
  have w:=wk_ok (cx:=cx) (sc:=sc) (e:=e)
  split
  ·rename_i hw
   rw[hw] at w
   obtain⟨x,p,pos,rfl,hx⟩:=w
   exact⟨x,p,pos,rfl,hx,rfl⟩
  ·rename_i hw
   rw[hw] at w
   obtain⟨x,p,pos,rfl,hx⟩:=w
   exact⟨x,p,pos,rfl,hx,rfl⟩
  ·rename_i hw
   rw[hw] at w
   obtain⟨x,p,pos,rfl,hx⟩:=w
   exact⟨x,p,pos,rfl,hx,rfl⟩
  ·rename_i hw
   rw[hw] at w
   obtain⟨x,p,pos,rfl,hx⟩:=w
   exact⟨x,p,pos,rfl,hx,rfl⟩
  ·split
   ·rename_i a ha
    unfold setA at ha
    split at ha
    ·rename_i y q a' q' _
     split at ha
     ·rename_i hb
      cases ha
      exact⟨y,q,q',rfl,by simpa using hb,rfl⟩
     ·cases ha
    ·cases ha
   ·trivial
  ·trivial
 ·trivial
end
theorem ev_ok(cx:Cxt):∀ (n:Nat) {k:Nat} {X:Cx} {sc:Scope} {ρ:Rho} {e:Expr} {d:D},Good cx k X sc->X.N=ρ.map (·.1)->ev cx n sc ρ e=some d->Ev X ρ e d/\∀ b,d=.bl b->EvT X ρ e b
  | 0,k,X,sc,ρ,e,d,_,_,h=>by exact nomatch (show(Option.none:Option D)=some d from h)
  | n + 1, k, X, sc, ρ, e, d, G, hN, h => by
    have ih:∀ e d,ev cx n sc ρ e=some d->Ev X ρ e d/\∀ b,d=.bl b->EvT X ρ e b:=fun e d h=>ev_ok cx n G hN h
    have ihp:∀ e d,ev cx n sc ρ e=some d->Ev X ρ e d/\plainE e=true:=fun e d h=>⟨(ih e d h).1,ev_plain h⟩
    have val:∀ {e d},(∀ whole,isTrue e X.env whole=(do let v <- whole;standAt e.pos;holding [v] (truthy v)))->Ev X ρ e d->Ev X ρ e d/\∀ b,d=.bl b->EvT X ρ e b:=fun he h1=>⟨h1,fun b hb=>by subst hb;exact evT_val h1 he⟩
    cases e with
    | Name x pos =>
      simp only[ev] at h
      split at h
      · rename_i hp
        refine val (fun _=>rfl) ?_
        have fin:∀ kd,sc.names.lookup x=some kd->(kd=.local\/kd=.cell\/kd=.free)->(match ρ.lookup x with | some (.sh d)=>some d | _=>none)=some d->Ev X ρ (.Name x pos) d:=by
          intro kd hk hkd hm
          split at hm
          · rename_i d' hl
            cases hm
            refine ev_name hN ?_ hp hl
            unfold Vis
            rw[G.sce,hk]
            rcases hkd with rfl | rfl | rfl
            · exact .inl rfl
            · exact .inr (.inl rfl)
            · exact .inr (.inr rfl)
          · cases hm
        split at h
        · rename_i hk;exact fin _ hk (.inl rfl) h
        · rename_i hk;exact fin _ hk (.inr (.inl rfl)) h
        · rename_i hk;exact fin _ hk (.inr (.inr rfl)) h
        · rename_i hk
          obtain⟨v,u,h0,h1,h2⟩:=G.cst x d h
          exact ev_cst (show X.env.scope.names.lookup x=_ by rw[G.sce];exact hk) h0 h1 h2 hp
        · cases h
      · cases h
    | Constant c j pos =>
      simp only[ev] at h
      exact val (fun _=>rfl) (ev_const h)
    | BinOp a op b pos =>
      simp only[ev] at h
      obtain⟨x,h1,h⟩:=obind h
      obtain⟨y,h2,h⟩:=obind h
      exact val (fun _=>rfl) (ev_binop (ih _ _ h1).1 (ih _ _ h2).1 h)
    | UnaryOp op a pos =>
      simp only[ev] at h
      obtain⟨x,h1,h⟩:=obind h
      cases op<;>simp only[Option.map_eq_some_iff] at h<;>try (cases h;done)
      · obtain⟨b,h2,rfl⟩:=h
        cases x<;>simp[asB] at h2
        subst h2
        refine⟨ev_not (ih _ _ h1).1,fun c hc=>?_⟩
        cases hc
        exact evT_not ((ih _ _ h1).2 _ rfl)
      · obtain⟨i,h2,rfl⟩:=h
        cases x<;>simp[asI] at h2
        subst h2
        exact val (fun _=>rfl) (ev_neg (ih _ _ h1).1)
    | BoolOp op es pos =>
      simp only[ev] at h
      obtain⟨h1,h2⟩:=ev_boolop (pos:=pos) (fun e _ d hd=>ih e d hd) h
      exact⟨h1,fun b hb=>(h2 b hb).t⟩
    | Compare a ops bs pos =>
      simp only[ev] at h
      split at h
      · obtain⟨x,h1,h⟩:=obind h
        obtain⟨y,h2,h⟩:=obind h
        exact ev_cmp1 G.room (ih _ _ h1).1 (ih _ _ h2).1 (ev_plain h2) h
      · split at h
        · cases h
        rename_i e3 hpl
        have hpl':plainE e3=true:=by simpa using hpl
        obtain⟨x,h1,h⟩:=obind h
        obtain⟨y,h2,h⟩:=obind h
        obtain⟨c,h3,h⟩:=obind h
        have h3':=asB_some h3
        cases c with
        | false =>
          simp only[Bool.false_eq_true,if_false,Option.some.injEq] at h
          subst h
          exact ev_cmp2 G.room (ih _ _ h1).1 (ih _ _ h2).1 hpl' h3' ⟨fun q=>(nomatch q),fun _=>rfl⟩
        | true =>
          simp only[if_true] at h
          obtain⟨z,h4,h⟩:=obind h
          exact ev_cmp2 G.room (ih _ _ h1).1 (ih _ _ h2).1 (ev_plain h4) h3' ⟨fun _=>⟨z,(ih _ _ h4).1,h⟩,fun q=>nomatch q⟩
      · cases h
    | IfExp c a b pos =>
      simp only[ev] at h
      obtain⟨t,h1,h⟩:=obind h
      have h1':=(ih _ _ (asB_some h1)).2 _ rfl
      cases t with
      | true =>
        simp only[if_true] at h
        refine⟨ev_if h1' (fun _=>(ih _ _ h).1) (fun q=>nomatch q),fun r hr=>evT_if h1' (fun _=>(ih _ _ h).2 r hr) (fun q=>nomatch q)⟩
      | false =>
        simp only[Bool.false_eq_true,if_false] at h
        refine⟨ev_if h1' (fun q=>nomatch q) (fun _=>(ih _ _ h).1),fun r hr=>evT_if h1' (fun q=>nomatch q) (fun _=>(ih _ _ h).2 r hr)⟩
    | Tuple es j pos =>
      simp only[ev] at h
      obtain⟨ds,h1,h⟩:=obind h
      split at h
      · rename_i hz
        cases h
        exact val (fun _=>rfl) (ev_tuple (ev_args (fun e _ d hd=>ihp e d hd) h1).1 hz)
      · cases h
    | List es pos =>
      simp only[ev] at h
      obtain⟨ds,h1,h⟩:=obind h
      split at h
      · rename_i hz
        cases h
        exact val (fun _=>rfl) (ev_list (ev_args (fun e _ d hd=>ihp e d hd) h1).1 hz)
      · cases h
    | Subscript a b pos =>
      simp only[ev] at h
      obtain⟨x,h1,h⟩:=obind h
      split at h
      · split at h
        · obtain⟨l,h2,h⟩:=obind h
          obtain⟨u,h3,h⟩:=obind h
          have hl:∀ {o:Option Expr} {l:Option Int},(match o with | none=>some none | some e=>(ev cx n sc ρ e).bind fun d=>(asI d).map some)=some l->EvO X ρ o l:=by
            intro o l h2
            cases o with
            | none=>cases h2;exact evO_none
            | some e =>
              simp only at h2
              obtain⟨d',g1,g2⟩:=Option.bind_eq_some_iff.mp h2
              obtain⟨i,g3,rfl⟩:=Option.map_eq_some_iff.mp g2
              cases d'<;>simp[asI] at g3
              subst g3
              exact evO_some (ih _ _ g1).1
          split at h
          · rename_i xs
            split at h
            · rename_i hw
              cases h
              rw[Bool.and_eq_true] at hw
              exact val (fun _=>rfl) (ev_sliceW (ih _ _ h1).1 (hl h2) (hl h3) ⟨by simpa using hw.1,by simpa using hw.2⟩)
            · rename_i hw
              cases h
              refine val (fun _=>rfl) (ev_slice (ih _ _ h1).1 (hl h2) (hl h3) fun q=>hw ?_)
              rw[q.1,q.2]
              simp
          · cases h
            exact val (fun _=>rfl) (ev_sliceL (ih _ _ h1).1 (hl h2) (hl h3))
          · cases h
        · simp[revS] at h
      · obtain⟨y,h2,h⟩:=obind h
        have hp2:=ev_plain h2
        have hr:=G.room
        unfold subD at h
        split at h
        · exact val (fun _=>rfl) (ev_index (ih _ _ h1).1 (ih _ _ h2).1 hp2 rfl h)
        · exact val (fun _=>rfl) (ev_index (ih _ _ h1).1 (ih _ _ h2).1 hp2 rfl h)
        · obtain⟨k',h3,h4⟩:=Option.bind_eq_some_iff.mp h
          exact val (fun _=>rfl) (ev_dsub hr (ih _ _ h1).1 (ih _ _ h2).1 hp2 h3 h4)
        · cases h
    | Dict ks vs pos =>
      simp only[ev] at h
      split at h
      · cases h
      · rename_i hz
        obtain⟨l,h1,rfl⟩:=Option.map_eq_some_iff.mp h
        simp only[Bool.or_eq_true,decide_eq_true_eq,not_or,Bool.not_eq_true] at hz
        exact val (fun _=>rfl) (ev_dict (fun e d hd=>(ih e d hd).1) hz.1 (by omega) h1)
    | Call f args kws pos =>
      refine val (fun _=>rfl) ?_
      simp only[ev] at h
      split at h
      · rename_i x p
        split at h
        · rename_i hg
          have hb:∀ {b},cx.blt.lookup x=some b->bltOf cx sc x=some b:=fun q=>by unfold bltOf;rw[if_pos hg];exact q
          split at h
          · rename_i hx
            split at h
            · obtain⟨d',h1,h⟩:=obind h
              split at h
              · rename_i c' hxo
                split at h
                · rename_i c
                  split at h
                  · rename_i hin
                    cases h
                    exact ev_isiX G (hb hx) hxo hin (ih _ _ h1).1 (ev_plain h1)
                  · cases h
                · cases h
              · obtain⟨T,h2,h5⟩:=obind h
                clear h
                obtain⟨t,pt,rfl,ht⟩:=tyOf_ok h2
                split at h5
                · rename_i c
                  split at h5
                  · rename_i hc
                    rw[Bool.and_eq_true] at hc
                    have eT:T="ValueError":=by simpa using hc.2
                    subst eT
                    cases h5
                    exact ev_isiV G (hb hx) ht hc.1 (ih _ _ h1).1 (ev_plain h1)
                  · cases h5
                · cases h5
                · rename_i hne hne2
                  split at h5
                  · rename_i hk
                    cases h5
                    refine ev_isi G (hb hx) ht hk (ih _ _ h1).1 (ev_plain h1) ?_
                    cases d'<;>first | rfl | exact absurd rfl (hne _) | exact absurd rfl (hne2 _ _)
                  · cases h5
            · cases h
          · rename_i b _ hx
            have wc:=wc_ok (cx:=cx) (sc:=sc) (b:=b) (args:=args)
            split at h
            · rename_i a hw
              rw[hw] at wc
              obtain⟨y,q,q',rfl,hy,rfl⟩:=wc
              obtain⟨j,h1,h⟩:=obind h
              split at h
              · rename_i hz
                rw[Bool.and_eq_true] at hz
                cases h
                have h1':=asI_some h1
                exact ev_lrange1 G (hb hx) hy (ih _ _ h1').1 (ev_plain h1') hz.1 hz.2
              · cases h
            · rename_i a a' hw
              rw[hw] at wc
              obtain⟨y,q,q',rfl,hy,rfl⟩:=wc
              obtain⟨i,h1,h⟩:=obind h
              obtain⟨j,h2,h⟩:=obind h
              split at h
              · rename_i hz
                rw[Bool.and_eq_true,Bool.and_eq_true] at hz
                cases h
                have h1':=asI_some h1
                have h2':=asI_some h2
                exact ev_lrange2 G (hb hx) hy (ih _ _ h1').1 (ev_plain h1') (ih _ _ h2').1 (ev_plain h2') hz.1.1 hz.1.2 hz.2
              · cases h
            · rename_i a hw
              rw[hw] at wc
              obtain⟨y,q,q',rfl,hy,rfl⟩:=wc
              obtain⟨j,h1,h⟩:=obind h
              split at h
              · rename_i hz
                rw[Bool.and_eq_true] at hz
                cases h
                have h1':=asI_some h1
                exact ev_trange1 G (hb hx) hy (ih _ _ h1').1 (ev_plain h1') hz.1 hz.2
              · cases h
            · rename_i a hw
              rw[hw] at wc
              obtain⟨y,q,q',rfl,hy,rfl⟩:=wc
              simp at h
            · rename_i a hw
              rw[hw] at wc
              obtain⟨y,q,q',rfl,hy,rfl⟩:=wc
              simp at h
            · split at h
              · cases h
              · rename_i hne
                obtain⟨ds,h1,h2⟩:=obind h
                obtain⟨ha,hp⟩:=ev_args (fun e _ d hd=>ihp e d hd) h1
                cases args with
                | nil=>exact absurd rfl hne
                | cons e es=>exact ev_bcall G (hb hx) ha hp h2
          · split at h
            · rename_i hf
              rw[Bool.and_eq_true] at hf
              obtain⟨ds,h1,h⟩:=obind h
              obtain⟨ha,hp⟩:=ev_args (fun e _ d hd=>ihp e d hd) h1
              have hgl:Gl X x:=by
                have e:sc.names.lookup x=some .globalImplicit:=by unfold isGl at hg;simpa using hg
                show X.env.scope.names.lookup x=_
                rw[G.sce,e]
              refine ev_call G hgl hf.1 (fun q=>?_) ha hp h
              rw[q] at hf
              exact absurd hf.2 (by decide)
            · cases h
        · cases h
      · split at h
        · split at h
          · rename_i hx
            obtain⟨c,h1,h⟩:=obind h
            obtain⟨d',h2,h⟩:=obind h
            exact ev_maxD G (by simpa using hx) h1 (ih _ _ h2).1 (ev_plain h2) h
          · cases h
        · cases h
      · split at h
        · split at h
          · rename_i hl
            obtain⟨x,h1,h⟩:=obind h
            obtain⟨z,h2,h⟩:=obind h
            simp[lstMeth] at h
          · cases h
        · cases h
      · split at h
        · split at h
          · rename_i hl
            obtain⟨x,h1,h⟩:=obind h
            obtain⟨y,h2,h⟩:=obind h
            obtain⟨z,h3,h⟩:=obind h
            simp only[Bool.and_eq_true] at hl
            obtain⟨⟨⟨l1,l2⟩,l3⟩,l4⟩:=hl
            have l2':=eq_of_beq l2
            subst l2'
            exact ev_get2 G.room (ih _ _ h1).1 rfl l1 (ih _ _ h2).1 l3 (ih _ _ h3).1 l4 h
          · cases h
        · cases h
      · split at h
        · cases h
        · rename_i hne
          obtain⟨i,h1,h⟩:=obind h
          obtain⟨f,h2,h⟩:=obind h
          obtain⟨ds,h3,h⟩:=obind h
          obtain⟨ha,hp⟩:=ev_args (fun e _ d hd=>ihp e d hd) h3
          have h1':=asI_some h1
          exact ev_callF G h2 (ih _ _ h1').1 (ev_plain h1') (fun q=>hne (by rw[q];rfl)) ha hp h
      · cases h
    | ListComp elt gens scope pos =>
      refine val (fun _=>rfl) ?_
      simp only[ev] at h
      split at h
      · rename_i tg iter ifs a
        split at h
        · rename_i hok
          rw[Bool.and_eq_true] at hok
          have ea:a=0:=by simpa using hok.1
          subst ea
          obtain⟨l,h1,h⟩:=obind h
          split at h
          · rename_i hz
            obtain⟨out,h2,h⟩:=obind h
            cases h
            obtain⟨hI,hp⟩:=evI_ok (tg:=tg) G ihp h1
            exact ev_comp G hN hok.2 hI hp hz h2 fun Xc C ρ1 hN1 e d he=>ev_ok cx n (G.comp C hok.2) hN1 he
          · cases h
        · cases h
      · cases h
    | _=>exact nomatch (show(Option.none:Option D)=some d from h)
end L2
namespace L2
open PySem PySem.Spec PyProof.Rows DE PySem.SeqAt
section
variable {prog:Program} {w:World} {A:Around} {E:Value->Shared->Prop}
theorem drawn_list{it t:Addr}{xs:List Value}(apart:t≠it):∀ (more i:Nat) (s:Shared) (Q:List Value->Shared->Prop),s.heap.IsListIter it t i->s.heap.IsList t xs.toArray->i+more<=xs.length ->
    (∀ h',h'.IsListIter it t (i+more)->Heap.SameBut it s.heap h'->Q ((xs.drop i).take more) { s with heap:=h' })->wpAny (model prog w) A (draw (.ref it) more) Q E s
  | 0, i, s, Q, it0, _, _, q => by
    show wpAny _ _ (pure []) _ _ _
    exact wpAny_pure (by simpa using q s.heap it0 (Heap.SameBut.refl ..))
  | more + 1, i, s, Q, it0, hl, hle, q => by
    have lt:i<xs.length:=by omega
    show wpAny _ _ (pyNext (.ref it) >>=_) _ _ _
    refine wpAny_bind (wpAny_pyNext_list_item it0 hl (x:=xs[i]) (by simp[lt]) fun h1 st1 sb1=>?_)
    have hl1:h1.IsList t xs.toArray:=by
      obtain⟨o,e,r⟩:=hl
      exact⟨o,(sb1.2 t apart).trans e,r⟩
    refine wpAny_bind (wpAny_holding (drawn_list apart more (i+1) _ _ st1 hl1 (by omega) fun h2 st2 sb2=>wpAny_pure ?_))
    have z:=q h2 (by rw[show i+(more+1)=i+1+more by omega];exact st2) (sb1.trans sb2)
    rw[List.drop_eq_getElem_cons lt,List.take_succ_cons] at z
    exact z
theorem unpacked_list{s:Shared}{t:Addr}{xs:List Value}{Q:List Value->Shared->Prop}(hh:A.handled=none)(hl:s.heap.IsList t xs.toArray)(q:∀ h',(∀ b o,s.heap.get? b=some o->h'.get? b=some o)->Q xs { s with heap:=h' }) :
  wpAny (model prog w) A (unpackItems (.ref t) xs.length none) Q E s:=by
 have apart:t≠s.heap.objs.size:=by obtain⟨o,e,_⟩:=hl;exact Nat.ne_of_lt (Heap.lt_size e)
 have keep:∀ {h':Heap},(∀ b o,b≠s.heap.objs.size->s.heap.get? b=some o->h'.get? b=some o)->∀ b o,s.heap.get? b=some o->h'.get? b=some o:=fun k b o e=>k b o (Nat.ne_of_lt (Heap.lt_size e)) e
 have pushed:∀ (n:Obj),(s.heap.push n).IsList t xs.toArray:=fun n=>by
  obtain⟨o,e,r⟩:=hl
  exact⟨o,Heap.get?_push_of_some _ e,r⟩
 simp only[unpackItems,notIterableAtAll]
 refine wpAny_bind (wpAny_bind (wpAny_specialOf hl.typeIs PySem.slot_list_iter.lookup (wpAny_pure ?_)))
 simp only[Bool.false_eq_true,if_false,Option.isNone_some,Bool.not_true,Bool.false_and]
 refine wpAny_bind (wpAny_holding (wpAny_pyIter_list hl ?_))
 refine wpAny_bind (wpAny_holding (drawn_list apart xs.length 0 _ _ ⟨_,Heap.get?_push_size _ rfl,rfl,rfl⟩ (pushed _) (by omega) fun h1 st1 sb1=>?_))
 have all:List.take xs.length (List.drop 0 xs)=xs:=by simp
 rw[all,if_neg (by simp)]
 have hl1:h1.IsList t xs.toArray:=by
  obtain⟨o,e,r⟩:=pushed { cls:=.type "list_iterator",data:=.fields #[.ref t,.int 0 0] }
  exact⟨o,(sb1.2 t apart).trans e,r⟩
 refine wpAny_bind (wpAny_holding (wpAny_pyNext_list_end hh st1 hl1 (by simp) fun h2 eb=>?_))
 simp only[Option.isSome_none,Bool.false_eq_true,if_false]
 exact wpAny_pure (q h2 (keep fun b o hb e=>eb b o hb ((sb1.2 b hb).trans (Heap.get?_push_of_some _ e))))
end
section
variable {X:Cx} {es:List Expr} {k:Nat} {t:TGs} {n:Nat} {pos:Pos}
def gLst(K:PySem.W.Frag)(n:Nat)(t:TGs):TG:=fun v σ H Q=>∃ a xs,v=.ref a/\SqL K H a xs/\xs.length=n/\t xs σ H Q
theorem pg_lst(hc:X.calm=true)(h:PGs X es t)(hn:(assignEach es X.env).length=n)(hst:(assignEach es X.env).findIdx? (·.1)=none):PG X (.Tuple es k pos) (gLst X.K n t):=by
 intro pins s σ H v u Q I r hw
 obtain⟨a,xs,rfl,hq,hl,hw⟩:=hw
 cases (show u=Value.ref a from r)
 obtain⟨its,rv,pl,hz⟩:=I.list hq
 have e:(assignEach es X.env).length=its.length:=by rw[hn,<- hl,rv.length]
 rw[assign_Tuple]
 refine wpAny_bind (wpAny_standAt ?_)
 unfold unpack
 rw[hst,e]
 refine wpAny_bind (wpAny_holding (unpacked_list (I.ok.hd hc) pl.isList fun h' kp=>?_))
 exact h pins _ σ H xs _ Q (I.kept (t':=s.toks) kp) rv hw
end
def OO(K:PySem.W.Frag)(H0 Hs H:Hp)(a:Addr)(bs:List Addr)(dss:List (List D)):Prop :=
  H a = some (.lst (bs.map V.ref)) /\ Hs a = none /\ H0 a = none /\ bs.Nodup /\ a ∉ bs /\ bs.length = dss.length /\
    ∀ (j:Nat) b,bs[j]?=some b->Hs b=none/\H0 b=none/\∃ ds us,dss[j]?=some ds/\H b=some (.lst us)/\RepL K Hs ds us
structure Hd (K:PySem.W.Frag) (Hs0 H0 Hs H:Hp) (ρ:Rho) (σ:St):Prop where
 ext:Ext Hs0 H0 Hs H
 len:σ.length=ρ.length
 sh:RepSt K Hs ρ σ
 ow:∀ (i:Nat) (x:Str) (ds:List D),ρ[i]?=some (x,.ow ds)->∃ a vs,σ[i]?=some (some (.ref a))/\H a=some (.lst vs)/\RepL K Hs ds vs/\Hs a=none/\H0 a=none
 dis:∀ (i j:Nat) (x y:Str) (ds es:List D) (a:Addr),i≠j->ρ[i]?=some (x,.ow ds)->ρ[j]?=some (y,.ow es)->σ[i]?=some (some (.ref a))->σ[j]?=some (some (.ref a))->False
 oo:∀ (i:Nat) (x:Str) (dss:List (List D)),ρ[i]?=some (x,.oo dss)->(∃ a bs,σ[i]?=some (some (.ref a))/\OO K H0 Hs H a bs dss)/\∀ (j:Nat) y s,j≠i->ρ[j]?=some (y,s)->calmS s=true
section
variable {K:PySem.W.Frag} {Hs0 H0 Hs H Hs' H':Hp} {ρ:Rho} {σ:St}
theorem OO.step{a:Addr}{bs:List Addr}{dss:List (List D)}(h:OO K H0 Hs H a bs dss)(E:Ext Hs H Hs' H'):OO K H0 Hs' H' a bs dss:=by
 obtain⟨h1,h2,h3,h4,h5,h6,h7⟩:=h
 refine⟨E.all _ _ h1,E.hid a _ h1 h2,h3,h4,h5,h6,fun j b e=>?_⟩
 obtain⟨k1,k2,ds,us,k3,k4,k5⟩:=h7 j b e
 exact⟨E.hid b _ k4 k1,k2,ds,us,k3,E.all _ _ k4,RepL.same E.vis ds us k5⟩
theorem Hd.step(h:Hd K Hs0 H0 Hs H ρ σ)(E:Ext Hs H Hs' H'):Hd K Hs0 H0 Hs' H' ρ σ where
 ext:=h.ext.trans E
 len:=h.len
 sh:=h.sh.same E.vis
 ow:=fun i x ds e=>by
  obtain⟨a,vs,h1,h2,h3,h4,h5⟩:=h.ow i x ds e
  exact⟨a,vs,h1,E.all _ _ h2,RepL.same E.vis ds vs h3,E.hid a _ h2 h4,h5⟩
 dis:=h.dis
 oo:=fun i x dss e=>by
  obtain⟨⟨a,bs,h1,h2⟩,h3⟩:=h.oo i x dss e
  exact⟨⟨a,bs,h1,h2.step E⟩,h3⟩
theorem frz_get{n:Nat}{e:Expr}{i:Nat}{x:Str}{s:Sl}(h:(frz n e ρ)[i]?=some (x,s)):(ρ[i]?=some (x,s)/\(calmS s=false->ment n x e=false))\/(∃ ds,s=.sh (.lst ds)/\ρ[i]?=some (x,.ow ds)/\ment n x e=true)\/∃ dss,s=.sh (.lst (dss.map .lst))/\ρ[i]?=some (x,.oo dss)/\ment n x e=true:=by
  unfold frz at h
  rw[List.getElem?_map] at h
  obtain⟨⟨y,t⟩,h1,h2⟩:=Option.map_eq_some_iff.mp h
  cases t with
  | no=>simp at h2;obtain⟨rfl,rfl⟩:=h2;exact .inl ⟨h1,fun z=>nomatch z⟩
  | sh d=>simp at h2;obtain⟨rfl,rfl⟩:=h2;exact .inl ⟨h1,fun z=>nomatch z⟩
  | ow ds =>
    simp only at h2
    cases hm:ment n y e with
    | true =>
      rw[hm,if_pos rfl] at h2
      cases h2
      exact .inr (.inl ⟨ds,rfl,h1,hm⟩)
    | false =>
      rw[hm] at h2
      simp at h2
      obtain⟨rfl,rfl⟩:=h2
      exact .inl ⟨h1,fun _=>hm⟩
  | oo dss =>
    simp only at h2
    cases hm:ment n y e with
    | true =>
      rw[hm,if_pos rfl] at h2
      cases h2
      exact .inr (.inr ⟨dss,rfl,h1,hm⟩)
    | false =>
      rw[hm] at h2
      simp at h2
      obtain⟨rfl,rfl⟩:=h2
      exact .inl ⟨h1,fun _=>hm⟩
theorem frz_names(n:Nat)(e:Expr):(frz n e ρ).map (·.1)=ρ.map (·.1):=by
 unfold frz
 rw[List.map_map]
 apply List.map_congr_left
 intro p _
 obtain⟨x,s⟩:=p
 cases s<;>simp<;>(split<;>rfl)
theorem RepL.get_of{K:PySem.W.Frag}{H:Hp}:∀ {ds:List D} {vs:List V},ds.length=vs.length->(∀ (j:Nat) d v,ds[j]?=some d->vs[j]?=some v->Rep K H d v)->RepL K H ds vs
 | [],[],_,_=>.nil
 | [],_::_,h,_=>by simp at h
 | _::_,[],h,_=>by simp at h
 | d::ds,v::vs,h,q=>.cons (q 0 d v rfl rfl) (RepL.get_of (by simpa using h) fun j d' v' e1 e2=>q (j+1) d' v' (by simpa using e1) (by simpa using e2))
theorem OO.mem{a b:Addr}{bs:List Addr}{dss:List (List D)}(h:OO K H0 Hs H a bs dss)(hb:b∈bs):Hs b=none/\H0 b=none:=by
 obtain⟨j,e⟩:=List.mem_iff_getElem?.mp hb
 obtain⟨k1,k2,_⟩:=h.2.2.2.2.2.2 j b e
 exact⟨k1,k2⟩
open Classical in
theorem Hd.frozen2(n:Nat)(e:Expr)(h:Hd K Hs0 H0 Hs H ρ σ):∃ Hs1,Same Hs Hs1/\(∀ b o,Hs1 b=some o->Hs b=some o\/∃ vs,o=.lst vs)/\Hd K Hs0 H0 Hs1 H (frz n e ρ) σ:=by
 let Fo:Addr->Prop:=fun b=>∃ (i:Nat) (x:Str) (ds:List D),ρ[i]?=some (x,Sl.ow ds)/\ment n x e=true/\σ[i]?=some (some (V.ref b))
 let Fb:Addr->Prop:=fun b=>∃ (i:Nat) (x:Str) (dss:List (List D)) (a:Addr) (bs:List Addr),ρ[i]?=some (x,Sl.oo dss)/\ment n x e=true/\σ[i]?=some (some (V.ref a))/\OO K H0 Hs H a bs dss/\(b=a\/b∈bs)
 let Hs1:Hp:=fun b=>if Fo b\/Fb b then H b else Hs b
 have vis:Same Hs Hs1:=fun b o q=>by
  show(if Fo b\/Fb b then H b else Hs b)=some o
  split
  ·exact h.ext.sub b o q
  ·exact q
 have sub:Same Hs1 H:=fun b o q=>by
  have q':(if Fo b\/Fb b then H b else Hs b)=some o:=q
  split at q'
  ·exact q'
  ·exact h.ext.sub b o q'
 have fz0:∀ b,Fo b\/Fb b->H0 b=none/\Hs b=none:=fun b hb=>by
  rcases hb with⟨i,x,ds,g1,_,g3⟩ | ⟨i,x,dss,a,bs,g1,_,g3,g4,g5⟩
  ·obtain⟨a,vs,k1,k2,k3,k4,k5⟩:=h.ow i x ds g1
   rw[k1] at g3
   cases g3
   exact⟨k5,k4⟩
  ·rcases g5 with rfl | g5
   ·exact⟨g4.2.2.1,g4.2.1⟩
   ·exact⟨(g4.mem g5).2,(g4.mem g5).1⟩
 have shp:∀ b o,Hs1 b=some o->Hs b=some o\/∃ vs,o=.lst vs:=fun b o q=>by
  have q':(if Fo b\/Fb b then H b else Hs b)=some o:=q
  split at q'
  ·rename_i f
   rcases f with⟨i,x,ds,g1,_,g3⟩ | ⟨i,x,dss,a,bs,g1,_,g3,g4,g5⟩
   ·obtain⟨a,vs,k1,k2,k3,k4,k5⟩:=h.ow i x ds g1
    rw[k1] at g3
    cases g3
    rw[k2] at q'
    cases q'
    exact .inr ⟨vs,rfl⟩
   ·rcases g5 with rfl | g5
    ·rw[g4.1] at q'
     cases q'
     exact .inr ⟨_,rfl⟩
    ·obtain⟨j,ej⟩:=List.mem_iff_getElem?.mp g5
     obtain⟨_,_,_,us,_,m4,_⟩:=g4.2.2.2.2.2.2 j b ej
     rw[m4] at q'
     cases q'
     exact .inr ⟨us,rfl⟩
  ·exact .inl q'
 refine⟨Hs1,vis,shp,⟨h.ext.vis.trans vis,h.ext.all,sub,fun b o q z=>?_⟩,by rw[h.len];simp[frz],fun i x d q=>?_,fun i x ds q=>?_,fun i j x y ds es a hij q1 q2=>?_,fun i x dss q=>?_⟩
 ·show(if Fo b\/Fb b then H b else Hs b)=none
  rw[if_neg fun f=>by rw[(fz0 b f).1] at q;cases q]
  exact h.ext.hid b o q z
 ·rcases frz_get q with⟨q,_⟩ | ⟨ds,e1,q2,hm⟩ | ⟨dss,e1,q2,hm⟩
  ·obtain⟨v,k1,k2⟩:=h.sh i x d q
   exact⟨v,k1,Rep.same vis d v k2⟩
  ·cases e1
   obtain⟨a,vs,k1,k2,k3,k4,k5⟩:=h.ow i x ds q2
   refine⟨_,k1,?_⟩
   simp only[Rep]
   refine⟨a,vs,rfl,.of ?_,RepL.same vis ds vs k3⟩
   show(if Fo a\/Fb a then H a else Hs a)=_
   rw[if_pos (.inl ⟨i,x,ds,q2,hm,k1⟩)]
   exact k2
  ·cases e1
   obtain⟨⟨a,bs,k1,k2⟩,_⟩:=h.oo i x dss q2
   refine⟨_,k1,?_⟩
   simp only[Rep]
   refine⟨a,bs.map V.ref,rfl,.of ?_,?_⟩
   ·show(if Fo a\/Fb a then H a else Hs a)=_
    rw[if_pos (.inr ⟨i,x,dss,a,bs,q2,hm,k1,k2,.inl rfl⟩)]
    exact k2.1
   ·refine RepL.get_of (by rw[List.length_map,List.length_map,k2.2.2.2.2.2.1]) fun j d v g1 g2=>?_
    rw[List.getElem?_map] at g1 g2
    obtain⟨es,g3,rfl⟩:=Option.map_eq_some_iff.mp g1
    obtain⟨b,g4,rfl⟩:=Option.map_eq_some_iff.mp g2
    obtain⟨_,_,ds,us,m3,m4,m5⟩:=k2.2.2.2.2.2.2 j b g4
    rw[g3] at m3
    cases m3
    simp only[Rep]
    refine⟨b,us,rfl,.of ?_,RepL.same vis es us m5⟩
    show(if Fo b\/Fb b then H b else Hs b)=_
    rw[if_pos (.inr ⟨i,x,dss,a,bs,q2,hm,k1,k2,.inr (List.mem_of_getElem? g4)⟩)]
    exact m4
 ·rcases frz_get q with⟨q,hm⟩ | ⟨ds',e1,q,hm⟩ | ⟨ds',e1,q,hm⟩
  ·obtain⟨a,vs,k1,k2,k3,k4,k5⟩:=h.ow i x ds q
   refine⟨a,vs,k1,k2,RepL.same vis ds vs k3,?_,k5⟩
   show(if Fo a\/Fb a then H a else Hs a)=none
   rw[if_neg]
   ·exact k4
   ·rintro(⟨j,y,es,g1,g2,g3⟩ | ⟨j,y,dss,_,_,g1,_⟩)
    ·by_cases hij:i=j
     ·subst hij
      rw[q] at g1
      cases g1
      rw[hm rfl] at g2
      cases g2
     ·exact h.dis i j x y ds es a hij q g1 k1 g3
    ·by_cases hij:i=j
     ·subst hij
      rw[q] at g1
      cases g1
     ·exact nomatch (h.oo j y dss g1).2 i x _ hij q
  ·cases e1
  ·cases e1
 ·rcases frz_get q1 with⟨q1,_⟩ | ⟨ds',e1,_⟩ | ⟨ds',e1,_⟩
  ·rcases frz_get q2 with⟨q2,_⟩ | ⟨ds',e1,_⟩ | ⟨ds',e1,_⟩
   ·exact h.dis i j x y ds es a hij q1 q2
   ·cases e1
   ·cases e1
  ·cases e1
  ·cases e1
 ·rcases frz_get q with⟨q,hm⟩ | ⟨ds',e1,_⟩ | ⟨ds',e1,_⟩
  ·obtain⟨⟨a,bs,k1,k2⟩,k3⟩:=h.oo i x dss q
   have nf:∀ b,¬ (Fo b\/Fb b):=by
    rintro b (⟨j,y,es,g1,_⟩ | ⟨j,y,dss',_,_,g1,g2,_⟩)
    ·by_cases hij:j=i
     ·subst hij
      rw[q] at g1
      cases g1
     ·exact nomatch k3 j y _ hij g1
    ·by_cases hij:j=i
     ·subst hij
      rw[q] at g1
      cases g1
      rw[hm rfl] at g2
      cases g2
     ·exact nomatch k3 j y _ hij g1
   have sm:∀ b,Hs1 b=Hs b:=fun b=>by
    show(if Fo b\/Fb b then H b else Hs b)=_
    rw[if_neg (nf b)]
   refine⟨⟨a,bs,k1,k2.1,by rw[sm];exact k2.2.1,k2.2.2.1,k2.2.2.2.1,k2.2.2.2.2.1,k2.2.2.2.2.2.1,fun j b g=>?_⟩,fun j y s hj g=>?_⟩
   ·obtain⟨m1,m2,ds,us,m3,m4,m5⟩:=k2.2.2.2.2.2.2 j b g
    exact⟨by rw[sm];exact m1,m2,ds,us,m3,m4,RepL.same vis ds us m5⟩
   ·rcases frz_get g with⟨g,_⟩ | ⟨_,e1,_⟩ | ⟨_,e1,_⟩
    ·exact k3 j y s hj g
    ·rw[e1];rfl
    ·rw[e1];rfl
  ·cases e1
  ·cases e1
theorem Hd.frozen(n:Nat)(e:Expr)(h:Hd K Hs0 H0 Hs H ρ σ):∃ Hs1,Same Hs Hs1/\Hd K Hs0 H0 Hs1 H (frz n e ρ) σ :=
 let ⟨Hs1,a,_,b⟩:=h.frozen2 n e
 ⟨Hs1,a,b⟩
theorem scal_rep{H1 H2:Hp}{d:D}{v:V}(h:scD d=true)(r:Rep K H1 d v):Rep K H2 d v:=by
 cases d<;>first | (simpa[Rep] using r) | (simp[scD] at h)
theorem scal_reps{H1 H2:Hp}:∀ {ds:List D} {vs:List V},ds.all scD=true->RepL K H1 ds vs->RepL K H2 ds vs
  | [],vs,_,r=>by simpa[RepL] using r
  | d :: ds, vs, h, r => by
    simp only[List.all_cons,Bool.and_eq_true] at h
    simp only[RepL] at r
    obtain⟨w,r',rfl,h1,h2⟩:=r
    exact .cons (scal_rep h.1 h1) (scal_reps h.2 h2)
theorem flat_keep{Hs1 Hs' H':Hp}{d:D}{v:V}(hs:Same Hs H)(vis:Same Hs Hs1)(shp:∀ b o,Hs1 b=some o->Hs b=some o\/∃ vs,o=.lst vs)(E:Ext Hs1 H Hs' H')(hd:flatD d=true)(r:Rep K Hs' d v):∃ Hs3,Ext Hs H Hs3 H'/\Rep K Hs3 d v:=by
  have back:Ext Hs H Hs H':=⟨.refl _,E.all,hs.trans E.all,fun _ _ _ h=>h⟩
  by_cases hsc:scD d=true
  · exact⟨Hs,back,scal_rep hsc r⟩
  · cases d with
    | tup ds =>
      have hds:ds.all scD=true:=hd
      obtain⟨p,ws,rfl,h1,h2⟩:=rep_tup r
      have fin:∀ u:HO,Hs' p=some u->(∀ vs,u≠.lst vs)->(∀ Hx:Hp,Hx p=some u->SqT K Hx p ws)->∃ Hs3,Ext Hs H Hs3 H'/\Rep K Hs3 (.tup ds) (.ref p):=fun u hu hnl hx=>by
        cases hp:Hs p with
        | some u' =>
          have:=E.vis _ _ (vis _ _ hp)
          rw[hu] at this
          cases this
          refine⟨Hs,back,?_⟩
          simp only[Rep]
          exact⟨p,ws,rfl,hx Hs hp,scal_reps hds h2⟩
        | none =>
          have h1n:Hs1 p=none:=by
            cases q:Hs1 p with
            | none=>rfl
            | some o =>
              rcases shp p o q with z | ⟨vs,rfl⟩
              · rw[hp] at z;cases z
              · have:=E.vis _ _ q
                rw[hu] at this
                cases this
                exact absurd rfl (hnl vs)
          have hHn:H p=none:=by
            cases q:H p with
            | none=>rfl
            | some o=>have:=E.hid p o q h1n;rw[hu] at this;cases this
          have ne:∀ {b:Addr} {o:HO},Hs b=some o->b≠p:=fun {b o} q z=>by subst z;rw[hp] at q;cases q
          refine⟨upd Hs p u,⟨fun b o q=>by rw[upd_ne (ne q)];exact q,E.all,fun b o q=>?_,fun b o q z=>?_⟩,?_⟩
          · by_cases hb:b=p
            · subst hb;rw[upd_same] at q;cases q;exact E.sub _ _ hu
            · rw[upd_ne hb] at q;exact E.all _ _ (hs _ _ q)
          · have hb:b≠p:=fun z=>by subst z;rw[hHn] at q;cases q
            rw[upd_ne hb];exact z
          · simp only[Rep]
            exact⟨p,ws,rfl,hx _ upd_same,scal_reps hds h2⟩
      rcases h1 with(h1 | ⟨o,h1⟩) | h1
      · exact fin _ h1 (fun vs z=>nomatch z) fun Hx q=>.inl (.inl q)
      · exact fin _ h1 (fun vs z=>nomatch z) fun Hx q=>.inl (.inr ⟨o,q⟩)
      · refine⟨Hs,back,?_⟩
        simp only[Rep]
        exact⟨p,ws,rfl,.inr h1,scal_reps hds h2⟩
    | _=>exact absurd hd hsc
theorem Hd.set{x:Str}{i:Nat}{d:D}{v:V}(h:Hd K Hs0 H0 Hs H ρ σ)(hn:(ρ.map (·.1)).Nodup)(hi:(ρ.map (·.1))[i]?=some x)(r:Rep K Hs d v):Hd K Hs0 H0 Hs H (setR ρ x (.sh d)) (σ.set i (some v)):=by
 have hl:i<σ.length:=by have:=(List.getElem?_eq_some_iff.mp hi).1;rw[h.len];simpa using this
 refine⟨h.ext,by rw[List.length_set,h.len];have:=congrArg List.length (setR_names ρ x (.sh d));simpa using this.symm,repSt_set hn hi hl h.sh r,fun j y ds e=>?_,fun j j' y y' ds es a hjj e1 e2 e3 e4=>?_,fun j y dss e=>?_⟩
 ·rw[setR_get hn hi j] at e
  split at e
  ·cases e
  ·rename_i hj
   obtain⟨a,vs,k1,k⟩:=h.ow j y ds e
   exact⟨a,vs,by rw[List.getElem?_set_ne (fun z=>hj z.symm)];exact k1,k⟩
 ·rw[setR_get hn hi] at e1 e2
  split at e1
  ·cases e1
  ·rename_i hj
   split at e2
   ·cases e2
   ·rename_i hj'
    rw[List.getElem?_set_ne (fun z=>hj z.symm)] at e3
    rw[List.getElem?_set_ne (fun z=>hj' z.symm)] at e4
    exact h.dis j j' y y' ds es a hjj e1 e2 e3 e4
 ·rw[setR_get hn hi j] at e
  split at e
  ·cases e
  ·rename_i hj
   obtain⟨⟨a,bs,k1,k2⟩,k3⟩:=h.oo j y dss e
   refine⟨⟨a,bs,by rw[List.getElem?_set_ne (fun z=>hj z.symm)];exact k1,k2⟩,fun l z s hl' g=>?_⟩
   rw[setR_get hn hi l] at g
   split at g
   ·cases g;rfl
   ·exact k3 l z s hl' g
theorem Hd.own{x:Str}{i:Nat}{ds:List D}{vs:List V}{acc:Addr}(h:Hd K Hs0 H0 Hs H ρ σ)(hn:(ρ.map (·.1)).Nodup)(hi:(ρ.map (·.1))[i]?=some x)(h1:H acc=some (.lst vs))(r:RepL K Hs ds vs)(h2:Hs acc=none)(h3:H0 acc=none)
  (no:∀ (j:Nat) y dss,j≠i->ρ[j]?=some (y,.oo dss)->False) (ap:∀ (j:Nat) y es,j≠i->ρ[j]?=some (y,.ow es)->σ[j]?=some (some (.ref acc))->False):Hd K Hs0 H0 Hs H (setR ρ x (.ow ds)) (σ.set i (some (.ref acc))):=by
 have hl:i<σ.length:=by have:=(List.getElem?_eq_some_iff.mp hi).1;rw[h.len];simpa using this
 refine⟨h.ext,by rw[List.length_set,h.len];have:=congrArg List.length (setR_names ρ x (.ow ds));simpa using this.symm,fun j y d e=>?_,fun j y es e=>?_,fun j j' y y' ds' es a hjj e1 e2 e3 e4=>?_,fun j y dss e=>?_⟩
 ·rw[setR_get hn hi j] at e
  split at e
  ·cases e
  ·rename_i hj
   obtain⟨v,k1,k2⟩:=h.sh j y d e
   exact⟨v,by rw[List.getElem?_set_ne (fun z=>hj z.symm)];exact k1,k2⟩
 ·rw[setR_get hn hi j] at e
  split at e
  ·rename_i hj
   subst hj
   cases e
   exact⟨acc,vs,by rw[List.getElem?_set_self hl],h1,r,h2,h3⟩
  ·rename_i hj
   obtain⟨a,vs',k1,k⟩:=h.ow j y es e
   exact⟨a,vs',by rw[List.getElem?_set_ne (fun z=>hj z.symm)];exact k1,k⟩
 ·rw[setR_get hn hi] at e1 e2
  split at e1
  ·rename_i hj
   split at e2
   ·rename_i hj'
    exact hjj (hj.trans hj'.symm)
   ·rename_i hj'
    subst hj
    rw[List.getElem?_set_self hl] at e3
    cases e3
    rw[List.getElem?_set_ne (fun z=>hj' z.symm)] at e4
    exact ap j' y' es hj' e2 e4
  ·rename_i hj
   split at e2
   ·rename_i hj'
    subst hj'
    rw[List.getElem?_set_self hl] at e4
    cases e4
    rw[List.getElem?_set_ne (fun z=>hj z.symm)] at e3
    exact ap j y ds' hj e1 e3
   ·rename_i hj'
    rw[List.getElem?_set_ne (fun z=>hj z.symm)] at e3
    rw[List.getElem?_set_ne (fun z=>hj' z.symm)] at e4
    exact h.dis j j' y y' ds' es a hjj e1 e2 e3 e4
 ·rw[setR_get hn hi j] at e
  split at e
  ·cases e
  ·rename_i hj
   exact(no j y dss hj e).elim
theorem Hd.app{x:Str}{i:Nat}{ds es:List D}{vs:List V}{a:Addr}(h:Hd K Hs0 H0 Hs H ρ σ)(hn:(ρ.map (·.1)).Nodup)(hi:ρ[i]?=some (x,.ow ds))(hσ:σ[i]?=some (some (.ref a)))(r:RepL K Hs es vs):Hd K Hs0 H0 Hs (upd H a (.lst vs)) (setR ρ x (.ow es)) σ:=by
 obtain⟨a',vs',k1,k2,k3,k4,k5⟩:=h.ow i x ds hi
 rw[hσ] at k1
 cases k1
 have hi':(ρ.map (·.1))[i]?=some x:=by rw[List.getElem?_map,hi];rfl
 refine⟨Ext.acc h.ext k5 k4,by rw[h.len];have:=congrArg List.length (setR_names ρ x (.ow es));simpa using this.symm,fun j y d e=>?_,fun j y es' e=>?_,fun j j' y y' ds' es' b hjj e1 e2 e3 e4=>?_,fun j y dss e=>?_⟩
 ·rw[setR_get hn hi' j] at e
  split at e
  ·cases e
  ·exact h.sh j y d e
 ·rw[setR_get hn hi' j] at e
  split at e
  ·rename_i hj
   subst hj
   cases e
   exact⟨a,vs,hσ,upd_same,r,k4,k5⟩
  ·rename_i hj
   obtain⟨b,us,g1,g2,g⟩:=h.ow j y es' e
   refine⟨b,us,g1,?_,g⟩
   rw[upd_ne]
   ·exact g2
   ·rintro rfl
    exact h.dis j i y x es' ds b hj e hi g1 hσ
 ·rw[setR_get hn hi'] at e1 e2
  split at e1
  ·rename_i hj
   split at e2
   ·rename_i hj'
    exact hjj (hj.trans hj'.symm)
   ·subst hj
    exact h.dis j j' x y' ds es' b hjj hi e2 e3 e4
  ·split at e2
   ·rename_i hj'
    subst hj'
    exact h.dis j j' y x ds' ds b hjj e1 hi e3 e4
   ·exact h.dis j j' y y' ds' es' b hjj e1 e2 e3 e4
 ·rw[setR_get hn hi' j] at e
  split at e
  ·cases e
  ·rename_i hj
   exact nomatch (h.oo j y dss e).2 i x _ (fun w=>hj w.symm) hi
theorem onlyC_ok{x:Str}{i:Nat}(hn:(ρ.map (·.1)).Nodup)(hi:(ρ.map (·.1))[i]?=some x)(h:onlyC ρ x=true):∀ (j:Nat) y s,j≠i->ρ[j]?=some (y,s)->calmS s=true:=fun j y s hj e=>by
 have:=List.all_eq_true.mp h _ (List.mem_of_getElem? e)
 rw[Bool.or_eq_true] at this
 rcases this with q | q
 ·exfalso
  have ey:y=x:=by simpa using q
  have e':(ρ.map (·.1))[j]?=some x:=by rw[List.getElem?_map,e,<- ey];rfl
  exact hj ((List.getElem?_inj (List.getElem?_eq_some_iff.mp e').1 hn).mp (e'.trans hi.symm))
 ·exact q
theorem noOo_ok{x:Str}{i:Nat}(hn:(ρ.map (·.1)).Nodup)(hi:(ρ.map (·.1))[i]?=some x)(h:noOo ρ x=true):∀ (j:Nat) y dss,j≠i->ρ[j]?=some (y,.oo dss)->False:=fun j y dss hj e=>by
 have:=List.all_eq_true.mp h _ (List.mem_of_getElem? e)
 rw[Bool.or_eq_true] at this
 rcases this with q | q
 ·have ey:y=x:=by simpa using q
  have e':(ρ.map (·.1))[j]?=some x:=by rw[List.getElem?_map,e,<- ey];rfl
  exact hj ((List.getElem?_inj (List.getElem?_eq_some_iff.mp e').1 hn).mp (e'.trans hi.symm))
 ·exact nomatch q
theorem Hd.own2{x:Str}{i:Nat}{dss:List (List D)}{a:Addr}{bs:List Addr}(h:Hd K Hs0 H0 Hs H ρ σ)(hn:(ρ.map (·.1)).Nodup)(hi:(ρ.map (·.1))[i]?=some x)(o:OO K H0 Hs H a bs dss)(no:∀ (j:Nat) y s,j≠i->ρ[j]?=some (y,s)->calmS s=true):Hd K Hs0 H0 Hs H (setR ρ x (.oo dss)) (σ.set i (some (.ref a))):=by
 have hl:i<σ.length:=by have:=(List.getElem?_eq_some_iff.mp hi).1;rw[h.len];simpa using this
 refine⟨h.ext,by rw[List.length_set,h.len];have:=congrArg List.length (setR_names ρ x (.oo dss));simpa using this.symm,fun j y d e=>?_,fun j y es e=>?_,fun j j' y y' ds' es a hjj e1 e2 e3 e4=>?_,fun j y dss' e=>?_⟩
 ·rw[setR_get hn hi j] at e
  split at e
  ·cases e
  ·rename_i hj
   obtain⟨v,k1,k2⟩:=h.sh j y d e
   exact⟨v,by rw[List.getElem?_set_ne (fun z=>hj z.symm)];exact k1,k2⟩
 ·rw[setR_get hn hi j] at e
  split at e
  ·cases e
  ·rename_i hj
   exact nomatch no j y _ hj e
 ·rw[setR_get hn hi] at e1
  split at e1
  ·cases e1
  ·rename_i hj
   exact nomatch no j y _ hj e1
 ·rw[setR_get hn hi j] at e
  split at e
  ·rename_i hj
   subst hj
   cases e
   refine⟨⟨a,bs,by rw[List.getElem?_set_self hl],o⟩,fun l z s hl' g=>?_⟩
   rw[setR_get hn hi l,if_neg hl'] at g
   exact no l z s hl' g
  ·rename_i hj
   exact nomatch no j y _ hj e
theorem Hd.app2{x:Str}{i:Nat}{dss dss':List (List D)}{a c:Addr}{bs':List Addr}{vs:List V}(h:Hd K Hs0 H0 Hs H ρ σ)(hn:(ρ.map (·.1)).Nodup)(hi:ρ[i]?=some (x,.oo dss))(hσ:σ[i]?=some (some (.ref a)))(c1:Hs c=none)(c2:H0 c=none)(o:OO K H0 Hs (upd H c (.lst vs)) a bs' dss'):Hd K Hs0 H0 Hs (upd H c (.lst vs)) (setR ρ x (.oo dss')) σ:=by
 have hi':(ρ.map (·.1))[i]?=some x:=by rw[List.getElem?_map,hi];rfl
 obtain⟨_,no⟩:=h.oo i x dss hi
 refine⟨Ext.acc h.ext c2 c1,by rw[h.len];have:=congrArg List.length (setR_names ρ x (.oo dss'));simpa using this.symm,fun j y d e=>?_,fun j y es e=>?_,fun j j' y y' ds' es a hjj e1 e2 e3 e4=>?_,fun j y dss'' e=>?_⟩
 ·rw[setR_get hn hi' j] at e
  split at e
  ·cases e
  ·exact h.sh j y d e
 ·rw[setR_get hn hi' j] at e
  split at e
  ·cases e
  ·rename_i hj
   exact nomatch no j y _ hj e
 ·rw[setR_get hn hi'] at e1
  split at e1
  ·cases e1
  ·rename_i hj
   exact nomatch no j y _ hj e1
 ·rw[setR_get hn hi' j] at e
  split at e
  ·rename_i hj
   subst hj
   cases e
   refine⟨⟨a,bs',hσ,o⟩,fun l z s hl' g=>?_⟩
   rw[setR_get hn hi' l,if_neg hl'] at g
   exact no l z s hl' g
  ·rename_i hj
   exact nomatch no j y _ hj e
theorem keeps_hd{scope:Scope}:Keeps1 K Hs scope (fun ρ σ=>Hd K Hs0 H0 Hs H ρ σ):=fun ρ σ i x d v hn hi _ h r=>h.set hn hi r
end
end L2
namespace L2
open PySem PySem.Spec PyProof.Rows PySem.SeqAt
open DE hiding st
def sSem(X:Cx)(s:Stmt):TS:=fun D σ H=>∀ pins s0,Inv X pins σ H s0->wpAny (model X.prog X.w) X.A (exec s X.env) (SP X pins D) X.xe s0
def ssSem(X:Cx)(s:List Stmt):TS:=fun D σ H=>∀ pins s0,Inv X pins σ H s0->wpAny (model X.prog X.w) X.A (execs s X.env) (SP X pins D) X.xe s0
section
variable {X:Cx} {s:Stmt} {ss:List Stmt} {t:TS} {D:Ends} {σ:St} {H:Hp}
theorem ps_sem:PS X s (sSem X s):=fun pins s σ H D I h=>h pins s I
theorem PS.sem(h:PS X s t)(q:t D σ H):sSem X s D σ H:=fun pins s I=>h pins s σ H D I q
theorem pss_sem:PSs X ss (ssSem X ss):=fun pins s σ H D I h=>h pins s I
theorem PSs.sem(h:PSs X ss t)(q:t D σ H):ssSem X ss D σ H:=fun pins s I=>h pins s σ H D I q
end
def Runs(X:Cx)(Hs0 H0:Hp)(ρ:Rho)(fl:Fl)(t:TS):Prop:=∀ σ H Hs D,Hd X.K Hs0 H0 Hs H ρ σ->X.N=ρ.map (·.1)->(∀ ρ' σ' Hs' H',fl=.nxt ρ'->Same Hs Hs'->X.N=ρ'.map (·.1)->Hd X.K Hs0 H0 Hs' H' ρ' σ'->D.nx σ' H') ->
 (∀ d v Hs' H',fl=.ret d->Ext Hs0 H0 Hs' H'->Rep X.K Hs' d v->D.rt v H')->t D σ H
structure GoodS (cx:Cxt) (k:Nat) (X:Cx) (sc:Scope):Prop where
 good:Good cx k X sc
 own:Owns X sc
 pass:PassesOwn (model X.prog X.w) X.A X.env X.xe
 stk:X.stack=X.env::X.outer/\X.env.frame=some X.env.locals
section
variable {X:Cx} {ρ:Rho} {cx:Cxt} {k F:Nat} {sc scope:Scope} {Hs0 H0:Hp} {e:Expr} {d:D}
theorem ev_st(G:GoodS cx k X sc)(hN:X.N=ρ.map (·.1))(he:ev cx F sc (frz F e ρ) e=some d){σ:St}{H Hs:Hp}{Q:VK}(h:Hd X.K Hs0 H0 Hs H ρ σ)(q:∀ v Hs' H',Same Hs Hs'->Hd X.K Hs0 H0 Hs' H' (frz F e ρ) σ->Rep X.K Hs' d v->Q v H'):tSem X e σ H Q:=by
 obtain⟨Hs1,sm1,h1⟩:=h.frozen F e
 exact(ev_ok cx F G.good (by rw[frz_names];exact hN) he).1 σ H Hs1 Q h1.ext.sub h1.sh fun v H' Hs' E r=>q v Hs' H' (sm1.trans E.vis) (h1.step E) r
theorem ev_stT(G:GoodS cx k X sc)(hN:X.N=ρ.map (·.1)){b:Bool}(he:ev cx F sc (frz F e ρ) e=some (.bl b)){σ:St}{H Hs:Hp}{Q:Bool->Hp->Prop}(h:Hd X.K Hs0 H0 Hs H ρ σ)(q:∀ Hs' H',Same Hs Hs'->Hd X.K Hs0 H0 Hs' H' (frz F e ρ) σ->Q b H'):tSemT X e σ H Q:=by
 obtain⟨Hs1,sm1,h1⟩:=h.frozen F e
 exact(ev_ok cx F G.good (by rw[frz_names];exact hN) he).2 b rfl σ H Hs1 Q h1.ext.sub h1.sh fun H' Hs' E=>q Hs' H' (sm1.trans E.vis) (h1.step E)
theorem swaps_not{t:Option Expr}{l:Nat}{env:Env}(he:ev cx F sc ρ e=some d)(hc:∀ a b c p,e≠.ListComp a b c p):swapsWith e t l env=pure false:=by
  cases F with
  | zero=>simp[ev] at he
  | succ F =>
    cases e<;>first | rfl | (exact nomatch (show(Option.none:Option D)=some d from he)) | (exact absurd rfl (hc _ _ _ _))
theorem slFor_sh(h:isFresh e=false):slFor e d=.sh d:=by
 unfold slFor
 split
 ·rw[h];rfl
 ·rfl
def OwnE(X:Cx)(ρ:Rho)(e:Expr)(ds:List D):Prop:=∀ σ H Hs Q,Same Hs H->RepSt X.K Hs ρ σ->(∀ acc vs Hs' H',Ext Hs H Hs' H'->H acc=none->Hs' acc=none->H' acc=some (.lst vs)->RepL X.K Hs' ds vs->Q (.ref acc) H')->tSem X e σ H Q
theorem own_list{es:List Expr}{ds:List D}{pos:Pos}(h:EvA X ρ es ds)(hz:szl ds.length=true):OwnE X ρ (.List es pos) ds:=fun σ H Hs Q hs hst hq =>
  (pe_lst pa_sem).sem (h σ H Hs _ hs hst fun vs H1 Hs1 E1 r1=>⟨by rw[<- r1.length];exact szl_ok hz,fun p hp =>
    hq p vs Hs1 _ (Ext.acc E1 (E1.all.free hp) (E1.sub.free hp)) (E1.all.free hp) (E1.sub.free hp) upd_same r1⟩)
theorem comp_inv'{elt:Expr}{gens:List Comprehension}{pos:Pos}{n:Nat}(G:Good cx k X sc)(hN:X.N=ρ.map (·.1))(he:ev cx (n+1) sc ρ (.ListComp elt gens scope pos)=some d) :
    ∃ tg iter ifs l out, gens = [⟨tg, iter, ifs, 0⟩] /\ compOk sc scope = true /\ EvI X ρ tg iter l /\ plainE iter = true /\ szl l.length = true /\ compGo (compF cx n sc scope ρ tg elt ifs) l = some out /\ d = .lst out /\
      (∀ Xc,CompOf X scope Xc->∀ ρ1:Rho,Xc.N=ρ1.map (·.1)->∀ e d,ev cx n (relS scope sc) ρ1 e=some d->Ev Xc ρ1 e d/\∀ b,d=.bl b->EvT Xc ρ1 e b):=by
  simp only[ev] at he
  split at he
  · rename_i tg iter ifs a
    split at he
    · rename_i hok
      rw[Bool.and_eq_true] at hok
      have ea:a=0:=by simpa using hok.1
      subst ea
      obtain⟨l,h1,he⟩:=obind he
      split at he
      · rename_i hz
        obtain⟨out,h2,he⟩:=obind he
        cases he
        obtain⟨hI,hp⟩:=evI_ok (tg:=tg) G (fun e d h=>⟨(ev_ok cx n G hN h).1,ev_plain h⟩) h1
        exact⟨tg,iter,ifs,l,out,rfl,hok.2,hI,hp,hz,h2,rfl,fun Xc C ρ1 hN1 e d he=>ev_ok cx n (G.comp C hok.2) hN1 he⟩
      · cases he
    · cases he
  · cases he
theorem own_rep{a b:Expr}{ds:List D}{j:Int}{pos:Pos}(ha:Ev X ρ a (.lst ds))(hb:Ev X ρ b (.int j))(h1:j<=1000)(h2:-1000<=j)(hz:szl (ds.length*j.toNat)=true):OwnE X ρ (.BinOp a .Mult b pos) (List.replicate j.toNat ds).flatten:=fun σ H Hs Q hs hst hq=>by
 refine(pe_op op_repL pe_sem pe_sem).sem (ha σ H Hs _ hs hst fun u H1 Hs1 E1 r1=>hb σ H1 Hs1 _ E1.sub (hst.same E1.vis) fun v H2 Hs2 E2 r2=>?_)
 obtain⟨p,us,rfl,g1,g2⟩:=rep_lst (Rep.same E2.vis _ _ r1)
 have l1:=g2.length
 have E:=E1.trans E2
 exact⟨p,_,us,rfl,rep_int r2,E2.sub.seq g1,by omega,by omega,by have:=szl_ok hz;rw[<- l1];exact this,fun q hq'=>hq q _ Hs2 _ (Ext.acc E (E.all.free hq') (E.sub.free hq')) (E.all.free hq') (E.sub.free hq') upd_same (g2.rep _)⟩
theorem st_own{x:Str}{ds:List D}{px pos:Pos}(G:GoodS cx k X sc)(hN:X.N=ρ.map (·.1))(hx:ownIn sc x=true)(hc:(ρ.map (·.1)).contains x=true)(hno:noOo (frz F e ρ) x=true)
  (hrun:∀ (i:Nat),X.N[i]?=some x->∀ σ H Hs D,Same Hs H->RepSt X.K Hs (frz F e ρ) σ->(∀ acc vs Hs' H',Ext Hs H Hs' H'->H acc=none->Hs' acc=none->H' acc=some (.lst vs)->RepL X.K Hs' ds vs->D.nx (σ.set i (some (.ref acc))) H')->sSem X (.Assign [.Name x px] e pos) D σ H) :
  Runs X Hs0 H0 ρ (.nxt (setR (frz F e ρ) x (.ow ds))) (sSem X (.Assign [.Name x px] e pos)):=by
 intro σ H Hs D h _ hn hr
 obtain⟨i,hi⟩:=contains_ix hc
 obtain⟨Hs1,sm1,h1⟩:=h.frozen F e
 have hnd:((frz F e ρ).map (·.1)).Nodup:=by rw[frz_names,<- hN];exact G.good.nd
 refine hrun i (by rw[hN];exact hi) σ H Hs1 D h1.ext.sub h1.sh fun acc vs Hs' H' E a1 a2 a3 r=>?_
 refine hn _ _ Hs' H' rfl (sm1.trans E.vis) (by rw[setR_names,frz_names];exact hN) ((h1.step E).own hnd (by rw[frz_names];exact hi) a3 r a2 (h1.ext.all.free a1) (noOo_ok hnd (by rw[frz_names];exact hi) hno) fun j y es hj q1 q2=>?_)
 obtain⟨b,us,k1,k2,_⟩:=h1.ow j y es q1
 rw[k1] at q2
 cases q2
 rw[a1] at k2
 cases k2
theorem st_name{x:Str}{px pos:Pos}(G:GoodS cx k X sc)(hN:X.N=ρ.map (·.1))(hx:ownIn sc x=true)(hc:(ρ.map (·.1)).contains x=true)(hno:isFresh e=true->noOo (frz F e ρ) x=true)(he:ev cx F sc (frz F e ρ) e=some d) :
    Runs X Hs0 H0 ρ (.nxt (setR (frz F e ρ) x (slFor e d))) (sSem X (.Assign [.Name x px] e pos)):=by
  obtain⟨ox,of⟩:=G.own.own x hx
  have hN':X.N=(frz F e ρ).map (·.1):=by rw[frz_names];exact hN
  by_cases hfr:isFresh e=true
  · cases F with
    | zero=>simp[ev] at he
    | succ F =>
      cases e with
      | List es p2 =>
        simp only[ev] at he
        obtain⟨ds,h1,he⟩:=obind he
        split at he
        · rename_i hz
          cases he
          have hA:=(ev_args (fun e _ d hd=>⟨(ev_ok cx F G.good hN' hd).1,ev_plain hd⟩) h1).1
          refine st_own G hN hx hc (hno rfl) fun i hi σ H Hs D hs hst hq=>?_
          refine PS.sem (ps_set G.good.nd hi ox pe_sem rfl of) (own_list hA hz σ H Hs _ hs hst fun acc vs Hs' H' E a1 a2 a3 r=>hq acc vs Hs' H' E a1 a2 a3 r)
        · cases he
      | ListComp elt gens scope p2 =>
        obtain⟨tg,iter,ifs,l,out,rfl,hok,hI,hp,hz,hgo,rfl,hE⟩:=comp_inv' G.good hN' he
        obtain⟨ok1,ok2,ok3⟩:=compOk_ok G.good hok
        refine st_own G hN hx hc (hno rfl) fun i hi σ H Hs D hs hst hq=>?_
        have rd:tComp X scope (tSemI X tg iter) (mkSt X.N scope.names) (fun Xc=>gSem Xc tg) (fun Xc=>ifSem Xc ifs) (fun Xc=>tSem Xc elt) σ H (fun v H1=>D.nx (σ.set i (some v)) H1) :=
          comp_read G.good hN' hok hI hz hgo hE hs hst fun acc vs Hs' H' E a1 a2 a3 r=>hq acc vs Hs' H' E a1 a2 a3 r
        cases hsw:(X.env.blockKind==.function&&X.env.kindOf x==some .local&&px.line==p2.line && !(scope.names.any fun(n,k)=>n==x&&(k==.local||k==.cell))) with
        | true =>
          have e1:swapsWith (.ListComp elt [⟨tg,iter,ifs,0⟩] scope p2) (some (.Name x px)) pos.line X.env=pure true:=by rw[<- hsw];rfl
          rw[Bool.and_eq_true,Bool.and_eq_true,Bool.and_eq_true] at hsw
          have hl:X.env.scope.names.lookup x=some .local:=by simpa[Env.kindOf] using hsw.1.1.2
          exact PS.sem (ps_setC G.good.nd hi hl G.good.calm ok1 ok2 ok3 pi_sem (fun Xc C=>⟨pg_sem,pifs_sem,pe_sem⟩) (plain_set hp) e1) rd
        | false =>
          have e1:swapsWith (.ListComp elt [⟨tg,iter,ifs,0⟩] scope p2) (some (.Name x px)) pos.line X.env=pure false:=by rw[<- hsw];rfl
          exact PS.sem (ps_set G.good.nd hi ox (pe_comp G.good.calm ok1 ok2 ok3 pi_sem (fun Xc C=>⟨pg_sem,pifs_sem,pe_sem⟩) (plain_set hp)) e1 of) rd
      | BinOp a op b p2 =>
        have hno':=hno hfr
        simp only[isFresh,Bool.and_eq_true] at hfr
        obtain⟨q1,q2⟩:=hfr
        cases op<;>simp[isMu] at q2
        cases a with
        | List es p3 =>
          simp only[ev] at he
          obtain⟨dx,h1,he⟩:=obind he
          obtain⟨dy,h2,he⟩:=obind he
          have hl:∃ ds0,dx=.lst ds0:=by
            cases F with
            | zero=>simp[ev] at h1
            | succ F =>
              simp only[ev] at h1
              obtain⟨ds0,_,h1⟩:=obind h1
              split at h1
              · cases h1;exact⟨_,rfl⟩
              · cases h1
          obtain⟨ds0,rfl⟩:=hl
          cases dy with
          | int j =>
            simp only[binop] at he
            split at he
            · rename_i hz
              cases he
              rw[Bool.and_eq_true,Bool.and_eq_true,decide_eq_true_eq,decide_eq_true_eq] at hz
              have e1:=(ev_ok cx F G.good hN' h1).1
              have e2:=(ev_ok cx F G.good hN' h2).1
              refine st_own G hN hx hc hno' fun i hi σ H Hs D hs hst hq=>?_
              refine PS.sem (ps_set G.good.nd hi ox pe_sem rfl of) (own_rep e1 e2 hz.1.1 hz.1.2 hz.2 σ H Hs _ hs hst fun acc vs Hs' H' E a1 a2 a3 r=>hq acc vs Hs' H' E a1 a2 a3 r)
            · cases he
          | _=>simp[binop] at he
        | _=>exact absurd (show false=true from q1) Bool.false_ne_true
      | _=>simp[isFresh] at hfr
  · have hfr':isFresh e=false:=by simpa using hfr
    rw[slFor_sh hfr']
    intro σ H Hs D h _ hn hr
    obtain⟨i,hi⟩:=contains_ix hc
    have hsw:=swaps_not (t:=some (.Name x px)) (l:=pos.line) (env:=X.env) he fun a b c p q=>by rw[q] at hfr';cases hfr'
    refine PS.sem (ps_set (i:=i) G.good.nd (by rw[hN];exact hi) ox pe_sem hsw of) (ev_st G hN he h fun v Hs' H' sm h' r=>?_)
    exact hn _ _ Hs' H' rfl sm (by rw[setR_names];exact hN') (h'.set (by rw[<- hN'];exact G.good.nd) (by rw[frz_names];exact hi) r)
theorem bind_items{es:List Expr}{l:List D}{ρ':Rho}{σ:St}{v:V}{Hs H:Hp}{P:Rho->St->Prop}{Q:St->Hp->Prop}{kt:Nat}{pos:Pos}(G:GoodS cx k X sc)(hs:Same Hs H)(hN:X.N=ρ.map (·.1))(KE:Keeps1 X.K Hs sc P)(hl:items d=some l)(hb:bindNames sc es l ρ=some ρ')(hp:P ρ σ)(rd:Rep X.K Hs d v)
    (hq:∀ σ',X.N=ρ'.map (·.1)->P ρ' σ'->Q σ' H):gSem X (.Tuple es kt pos) v σ H Q:=by
  obtain⟨e1,e2,e3⟩:=names_each (env:=X.env) hb
  cases d with
  | tup xs =>
    simp only[items,Option.some.injEq] at hl;subst hl
    obtain⟨a,vs,rfl,h1,h2⟩:=rep_tup rd
    exact PG.sem (pg_tup G.good.calm pgs_sem e1 e2) ⟨a,vs,rfl,hs.tup h1,by rw[<- h2.length,e3],bind_names G.own G.good.nd KE hN hb hp h2 hq⟩
  | lst xs =>
    simp only[items,Option.some.injEq] at hl;subst hl
    obtain⟨a,vs,rfl,h1,h2⟩:=rep_lst rd
    exact PG.sem (pg_lst G.good.calm pgs_sem e1 e2) ⟨a,vs,rfl,hs.seq h1,by rw[<- h2.length,e3],bind_names G.own G.good.nd KE hN hb hp h2 hq⟩
  | _=>simp[items] at hl
theorem nc0_ok{n:Nat}(h:nc0 e=true):foldedForSure n e=false/\constantsAlone n e=false:=by
 cases e<;>simp[nc0] at h<;>(constructor<;>simp[foldedForSure,constantsAlone,h])
theorem nc1_ok{n:Nat}(h:nc1 e=true):constantsAlone (n+1) e=false:=by
 unfold nc1 at h
 split at h
 ·simp[constantsAlone,(nc0_ok (n:=n) h).2]
 ·exact(nc0_ok h).2
theorem nc_ok(h:nc e=true):foldedForSure 8 e=false/\constantsAlone 8 e=false:=by
 unfold nc at h
 split at h
 ·rw[Bool.or_eq_true] at h
  refine⟨by simp[foldedForSure],?_⟩
  rcases h with h | h<;>simp[constantsAlone,(nc0_ok (n:=7) h).2]
 ·rw[Bool.or_eq_true] at h
  refine⟨by simp[foldedForSure],?_⟩
  rcases h with h | h<;>simp[constantsAlone,(nc1_ok (n:=6) h)]
 ·exact nc0_ok h
theorem block_fn(G:Good cx k X sc):X.env.blockKind=.function:=by
 unfold Env.blockKind
 rw[G.sce,G.kind]
 rfl
theorem swp_no{es:List Expr}{kt:Nat}{pt:Pos}(G:Good cx k X sc)(h:swp sc es e=some false):swappedStores [.Tuple es kt pt] e X.env=pure none:=by
  cases e with
  | Tuple vs k2 p2 =>
    simp only[swp] at h
    split at h
    · rename_i x px y py a b
      split at h
      · split at h
        · cases h
        · split at h
          · rename_i hcs
            rw[Bool.and_eq_true] at hcs
            have f1:foldedForSure 8 a=true:=by cases a<;>first | rfl | (simp[isCst] at hcs)
            have f2:foldedForSure 8 b=true:=by cases b<;>first | rfl | (simp[isCst] at hcs)
            have al1:[a,b].all (foldedForSure 8)=true:=by simp[f1,f2]
            unfold swappedStores
            simp only[al1,if_true]
            repeat' split
            all_goals rfl
          · cases h
      · rename_i hl
        have hl':¬ ((X.env.kindOf x==some .local)=true/\(X.env.kindOf y==some .local)=true):=by
          intro q
          apply hl
          rw[Bool.and_eq_true]
          unfold Env.kindOf at q
          rw[G.sce] at q
          exact q
        unfold swappedStores
        cases h1:X.env.kindOf x==some .local<;>cases h2:X.env.kindOf y==some .local
        all_goals simp only[h1,h2] at hl'
        all_goals simp[h1,h2,block_fn G]
        · intro _ _ hlen
          exfalso
          have n1:¬ X.env.kindOf x=some .local:=by simpa using h1
          have n2:¬ X.env.kindOf y=some .local:=by simpa using h2
          simp[List.filterMap_cons,n1,n2] at hlen
        · intro _ _ hlen
          exfalso
          have n1:¬ X.env.kindOf x=some .local:=by simpa using h1
          simp only[List.filterMap_cons,List.filterMap_nil,n1,false_and,if_false] at hlen
          split at hlen<;>simp at hlen
        · intro _ _ hlen
          exfalso
          have n1:¬ X.env.kindOf y=some .local:=by simpa using h2
          simp only[List.filterMap_cons,List.filterMap_nil,n1,false_and,if_false] at hlen
          split at hlen<;>simp at hlen
        · exact absurd ⟨trivial,trivial⟩ hl'
    · rename_i x px y py z pz a b c
      split at h
      · rename_i hl
        simp only[Bool.and_eq_true] at hl
        obtain⟨⟨l1,l2⟩,l3⟩:=hl
        have kd:∀ {v:Str},(sc.names.lookup v==some NameKind.cell)=true->¬ X.env.kindOf v=some .local:=fun {v} hv q=>by
          unfold Env.kindOf at q
          rw[G.sce,eq_of_beq hv] at q
          cases q
        have n1:=kd l1
        have n2:=kd l2
        have n3:=kd l3
        unfold swappedStores
        have b1:(X.env.kindOf x==some NameKind.local)=false:=by simpa using n1
        have b2:(X.env.kindOf y==some NameKind.local)=false:=by simpa using n2
        have b3:(X.env.kindOf z==some NameKind.local)=false:=by simpa using n3
        simp[block_fn G,List.filterMap_cons,b1,b2,b3,n1,n2,n3]
      · cases h
    · cases h
  | _=>rfl
theorem swp_yes{es:List Expr}{kt:Nat}{pt:Pos}(G:Good cx k X sc)(h:swp sc es e=some true):∃ x px y py a b k2 p2,es=[.Name x px,.Name y py]/\e=.Tuple [a,b] k2 p2/\X.env.scope.names.lookup x=some .local/\X.env.scope.names.lookup y=some .local/\x≠y/\plainE a=true/\plainE b=true /\
    swappedStores [.Tuple es kt pt] e X.env=pure (some [x,y]):=by
  cases e with
  | Tuple vs k2 p2 =>
    simp only[swp] at h
    split at h
    · rename_i x px y py a b
      split at h
      · rename_i hl
        split at h
        · rename_i hq
          rw[Bool.and_eq_true] at hl
          rw[Bool.and_eq_true,Bool.and_eq_true,Bool.and_eq_true,Bool.and_eq_true,Bool.or_eq_true] at hq
          obtain⟨⟨⟨⟨q1,q2⟩,q3⟩,q4⟩,q5⟩:=hq
          have l1:X.env.kindOf x=some .local:=by unfold Env.kindOf;rw[G.sce];simpa using hl.1
          have l2:X.env.kindOf y=some .local:=by unfold Env.kindOf;rw[G.sce];simpa using hl.2
          have hxy:x≠y:=by simpa using q2
          have hpl : py.line = px.line := by have : px.line = py.line := by simpa using q1
                                             exact this.symm
          have f1:(foldedForSure 8 a&&foldedForSure 8 b)=false:=by
            rcases q3 with q | q
            · rw[(nc_ok q).1];rfl
            · rw[(nc_ok q).1,Bool.and_false]
          have f2:(constantsAlone 8 a&&constantsAlone 8 b)=false:=by
            rcases q3 with q | q
            · rw[(nc_ok q).2];rfl
            · rw[(nc_ok q).2,Bool.and_false]
          refine⟨x,px,y,py,a,b,k2,p2,rfl,rfl,l1,l2,hxy,q4,q5,?_⟩
          unfold swappedStores
          have ed:([x,y]:List Str).eraseDups.length=2:=by
            have:(y==x)=false:=by simpa using hxy.symm
            simp[List.eraseDups_cons,this]
          have al1:[a,b].all (foldedForSure 8)=false:=by simpa using f1
          have al2:[a,b].all (constantsAlone 8)=false:=by simpa using f2
          simp only[al1,al2,block_fn G]
          generalize hst:[a,b].any _=sb
          have hsb:sb=false:=by
            rw[<- hst,List.any_cons,List.any_cons,List.any_nil,Bool.or_false,Bool.or_eq_false_iff]
            clear hst f1 f2 al1 al2 q3
            refine⟨?_,?_⟩
            · cases a<;>first | rfl | (simp[plainE] at q4)
            · cases b<;>first | rfl | (simp[plainE] at q5)
          generalize hf:List.filterMap _ [Expr.Name x px,Expr.Name y py]=nm
          have hnm:nm=[x,y]:=by
            rw[<- hf]
            simp[List.filterMap_cons,l1,l2,hpl,Expr.pos]
          rw[hsb,hnm]
          simp only[ed]
          rfl
        · split at h<;>cases h
      · cases h
    · split at h<;>cases h
    · cases h
  | _=>simp[swp] at h
end
end L2
namespace L2
open PySem PySem.Spec PyProof.Rows PySem.SeqAt
open DE hiding st
def XOk(X:Cx)(σ:St)(E:XK):Prop:=∀ pins H s e s',Inv X pins σ H s->CX1 X.prog X.w X.stack H s E e s'->X.xe e s'
def RaiseOk(X:Cx)(σ:St)(E:XK):Prop:=∀ pins H s (C e:Addr) h' args,Inv X pins σ H s->Heap.MadeExcOf s.heap h' e (.ref C) args->E (.ref C) none H->X.xe (.ref e) { s with heap:=h' }
def EX(X:Cx)(c:Str)(Hs H:Hp)(E:XK):Prop:=∀ C H' Hs',PySem.W.nsIn X.K mainGlobals c=some (some (.ref C))->Ext Hs H Hs' H'->E (.ref C) none H'
theorem EX.step{X:Cx}{c:Str}{Hs H Hs1 H1:Hp}{E:XK}(h:EX X c Hs H E)(e:Ext Hs H Hs1 H1):EX X c Hs1 H1 E:=fun C H' Hs' hn e'=>h C H' Hs' hn (e.trans e')
def EvX(X:Cx)(ρ:Rho)(e:Expr)(c:Str):Prop:=∀ σ H Hs E,Same Hs H->RepSt X.K Hs ρ σ->EX X c Hs H E->XOk X σ E->∀ Q,tSem X e σ H Q
def EvXA(X:Cx)(ρ:Rho)(es:List Expr)(c:Str):Prop:=∀ σ H Hs E,Same Hs H->RepSt X.K Hs ρ σ->EX X c Hs H E->XOk X σ E->∀ Q,tSemA X es σ H Q
section
variable {X:Cx} {ρ:Rho} {cx:Cxt} {k:Nat} {sc scope:Scope}
theorem run_fnX{f:Addr}{fd:FuncData}{ps:List Str}{sp:Sp}{E:XK}{pins:List (Addr×Obj)}{σ:St}{H:Hp}{s:Shared}{Q:VK}{us:List Value}{vs:List V}(F:FnOk X.prog X.w X.K X.mg X.base (CX1 X.prog X.w) k f fd ps sp)(hr:Room k X.A)(hb:Binds X.K fd ps [])(hx:XOk X σ E)
    (I:Inv X pins σ H s) (r:Vals vs us) (h:sp vs H Q E):wpAny (model X.prog X.w) X.A (call (.ref f) us) (EP X pins σ Q) X.xe s:=by
  have hl:(us++([]:List Value)).length=ps.length:=by rw[List.append_nil,<- r.length];exact F.len _ _ _ _ h
  have hb':=hb s us I.kIn hl
  rw[List.append_nil] at hb'
  refine wpAny_call (codeAny_mono (F.run X.A X.stack s H ⟨us,[]⟩ us vs Q E hr I.env0 hb' r h) fun r s' hq=>?_)
  cases r with
  | error e=>exact hx pins H s e s' I hq
  | ok fl =>
    cases fl with
    | ret u=>exact I.after hq
    | next=>exact False.elim hq
    | brk=>exact False.elim hq
    | cont=>exact False.elim hq
theorem args_X{f:Expr->Option D}{g:Expr->Option Str}{c:Str}(hf:∀ e d,f e=some d->Ev X ρ e d)(hg:∀ e c,g e=some c->EvX X ρ e c):∀ {es:List Expr},(∀ e∈es,plainE e=true)->argsX f g es=some c->EvXA X ρ es c
  | [],_,h=>by simp[argsX] at h
  | e :: es, hp, h => by
    simp only[argsX] at h
    intro σ H Hs E hs hst hE hx Q
    refine(pa_cons pe_sem pa_sem (plain_star (hp e (by simp)))).sem ?_
    cases he:f e with
    | some d =>
      rw[he] at h
      exact hf e d he σ H Hs _ hs hst fun v H1 Hs1 E1 _=>args_X hf hg (fun e' h'=>hp e' (List.mem_cons_of_mem _ h')) h σ H1 Hs1 E E1.sub (hst.same E1.vis) (hE.step E1) hx _
    | none =>
      rw[he] at h
      exact hg e c h σ H Hs E hs hst hE hx _
theorem ev_callX{f:Str}{es:List Expr}{c:Str}{p pos:Pos}(G:Good cx k X sc)(hg:Gl X f)(hf:cx.fns.contains f=true)(hne:es≠[])(hp:∀ e∈es,plainE e=true)(h:EvXA X ρ es c\/∃ ds,EvA X ρ es ds/\cx.callx f ds=some c) :
    EvX X ρ (.Call (.Name f p) es [] pos) c:=by
  obtain⟨hdb,a,fd,ps,_,har,hm,hk,hb,F⟩:=G.fns f hf
  cases es with
  | nil=>exact absurd rfl hne
  | cons e es =>
    intro σ H Hs E hs hst hE hx Q pins s I
    refine wpAny_Call_Name_kw (ld_glob I hg hm ?_ hdb)
    refine PySem.W.callWith_K (h₀:=X.base) I.ok.mod.kin hk ?_ (plain_star (hp e (by simp))) (stars_any fun e' he=>hp e' (List.mem_cons_of_mem _ he))
    rcases h with h | ⟨ds,hA,hc⟩
    · exact thn (h σ H Hs E hs hst hE hx (fun _ _=>False) pos pins s I) fun us s1 ⟨vs,H1,I1,r,q⟩=>q.elim
    · refine thn (hA σ H Hs (fun vs H1=>∃ Hs1,Ext Hs H Hs1 H1/\RepL X.K Hs1 ds vs) hs hst (fun vs H1 Hs1 E1 r1=>⟨Hs1,E1,r1⟩) pos pins s I) fun us s1 ⟨vs,H1,I1,r,Hs1,E1,r1⟩=>⟨I1.kIn,?_⟩
      exact run_fnX F G.room hb hx I1 r ⟨by rw[<- r1.length,har ds c hc],Hs1,ds,E1.sub,r1,.inr ⟨c,hc,hE.step E1⟩⟩
theorem ev_callFX{f:Str}{es args:List Expr}{ix:Expr}{i:Int}{ds:List D}{c:Str}{p1 p2 pos:Pos}(G:Good cx k X sc)(hf:fnAt cx sc es i=some f)(hi:Ev X ρ ix (.int i))(hpi:plainE ix=true)(hne:args≠[])(hA:EvA X ρ args ds)(hp:∀ e∈args,plainE e=true)(hc:cx.callx f ds=some c) :
    EvX X ρ (.Call (.Subscript (.List es p1) ix p2) args [] pos) c:=by
  obtain⟨hfn,a0,hm0,callee⟩:=ev_fnAt (p1:=p1) (p2:=p2) G hf hi hpi
  obtain⟨hdb,a,fd,ps,_,har,hm,hk,hb,F⟩:=G.fns f hfn
  obtain rfl:a=a0:=by rw[hm] at hm0;exact Value.ref.inj (Option.some.inj hm0)
  cases args with
  | nil=>exact absurd rfl hne
  | cons e args =>
    intro σ H Hs E hs hst hE hx Q pins s I
    refine Call_ (thn (callee σ H Hs (fun v H1=>v=.ref a/\∃ Hs1,Ext Hs H Hs1 H1) hs hst (fun H1 Hs1 E1=>⟨rfl,Hs1,E1⟩) pins s I) fun u s1 ⟨v,H1,I1,r,e1,Hs1,E1⟩=>?_)
    subst e1
    cases (show u=Value.ref a from r)
    refine PySem.W.callWith_K (h₀:=X.base) I1.ok.mod.kin hk ?_ (plain_star (hp e (by simp))) (stars_any fun e' he=>hp e' (List.mem_cons_of_mem _ he))
    refine thn (hA σ H1 Hs1 (fun vs H2=>∃ Hs2,Ext Hs1 H1 Hs2 H2/\RepL X.K Hs2 ds vs) E1.sub (hst.same E1.vis) (fun vs H2 Hs2 E2 r2=>⟨Hs2,E2,r2⟩) pos pins s1 I1) fun us s2 ⟨vs,H2,I2,r,Hs2,E2,r2⟩=>⟨I2.kIn,?_⟩
    exact run_fnX F G.room hb hx I2 r ⟨by rw[<- r2.length,har ds c hc],Hs2,ds,E2.sub,r2,.inr ⟨c,hc,(hE.step E1).step E2⟩⟩
theorem ev_maxX{x:Str}{a:Expr}{k':Keyword}{c:Str}{p pos:Pos}(G:Good cx k X sc)(hx:bltOf cx sc x=some "max")(hk:(kdef k').isSome=true)(h:EvX X ρ a c)(hp:plainE a=true):EvX X ρ (.Call (.Name x p) [a] [k'] pos) c:=by
 obtain⟨hg,hm,rfl⟩:=bltOf_ok G hx
 obtain⟨ka,kv,kp⟩:=k'
 obtain⟨i,hi⟩:=Option.isSome_iff_exists.mp hk
 unfold kdef at hi
 split at hi
 ·rename_i q
  have e:ka=some "default":=by simpa using q
  subst e
  intro σ H Hs E hs hst hE hx Q pins s I
  have he:starEach [a] X.env=(false,eval a X.env)::starEach [] X.env:=plain_star hp
  have hbt:backTo pos (starEach [a] X.env)=(false,eval a X.env)::backTo pos (starEach [] X.env):=by rw[he];rfl
  refine wpAny_Call_Name_kw (ld_blt (u:=.builtin "max") I hg hm (by decide +kernel) ?_ (by decide) (by decide))
  refine PyProof.Rows.callWith_kw ?_ hbt (by rw[hbt];rfl) rfl rfl
  exact thn (pa_cons pe_sem pa_nil he pos pins s σ H (fun _ _=>False) I (h σ H Hs E hs hst hE hx _)) fun us s1 ⟨vs,H1,I1,r,q⟩=>q.elim
 ·cases hi
theorem evx_ok(cx:Cxt):∀ (n:Nat) {k:Nat} {X:Cx} {sc:Scope} {ρ:Rho} {e:Expr} {c:Str},Good cx k X sc->X.N=ρ.map (·.1)->evx cx n sc ρ e=some c->EvX X ρ e c
  | 0,k,X,sc,ρ,e,c,_,_,h=>by exact nomatch (show(Option.none:Option Str)=some c from h)
  | n + 1, k, X, sc, ρ, e, c, G, hN, h => by
    have ih:∀ e d,ev cx n sc ρ e=some d->Ev X ρ e d/\∀ b,d=.bl b->EvT X ρ e b:=fun e d h=>ev_ok cx n G hN h
    simp only[evx] at h
    split at h
    · rename_i x p args pos
      split at h
      · rename_i hc
        simp only[Bool.and_eq_true] at hc
        obtain⟨⟨⟨hgl,hne⟩,hpl⟩,hfn⟩:=hc
        have hg:Gl X x:=by
          have e:sc.names.lookup x=some .globalImplicit:=by unfold isGl at hgl;simpa using hgl
          show X.env.scope.names.lookup x=_
          rw[G.sce,e]
        have hp:∀ e∈args,plainE e=true:=fun e he=>List.all_eq_true.mp hpl e he
        refine ev_callX G hg hfn (fun q=>by rw[q] at hne;exact absurd hne (by decide)) hp ?_
        split at h
        · rename_i ds hds
          exact .inr ⟨ds,(ev_args (fun e _ d hd=>⟨(ih e d hd).1,ev_plain hd⟩) hds).1,h⟩
        · exact .inl (args_X (fun e d h=>(ih e d h).1) (fun e c h=>evx_ok cx n G hN h) hp h)
      · cases h
    · rename_i es p1 ix p2 args pos
      split at h
      · rename_i hc
        simp only[Bool.and_eq_true] at hc
        obtain⟨⟨hne,hpl⟩,hpi⟩:=hc
        obtain⟨i,h1,h⟩:=obind h
        obtain⟨f,h2,h⟩:=obind h
        obtain⟨ds,h3,h⟩:=obind h
        have hp:∀ e∈args,plainE e=true:=fun e he=>List.all_eq_true.mp hpl e he
        exact ev_callFX G h2 (ih _ _ (asI_some h1)).1 hpi (fun q=>by rw[q] at hne;exact absurd hne (by decide)) (ev_args (fun e _ d hd=>⟨(ih e d hd).1,ev_plain hd⟩) h3).1 hp h
      · cases h
    · rename_i x p a k' pos
      split at h
      · rename_i hc
        simp only[Bool.and_eq_true] at hc
        obtain⟨⟨h1,h2⟩,h3⟩:=hc
        exact ev_maxX G (by simpa using h1) h2 (evx_ok cx n G hN h) h3
      · cases h
    · rename_i cc a b pos
      split at h
      · rename_i hc
        have hc':=(ih _ _ (asB_some hc)).2 _ rfl
        have ha:=evx_ok cx n G hN h
        intro σ H Hs E hs hst hE hx Q
        exact(pe_ifExp pt_sem pe_sem pe_sem).sem (hc' σ H Hs _ hs hst fun H1 Hs1 E1=>iteT (ha σ H1 Hs1 E E1.sub (hst.same E1.vis) (hE.step E1) hx Q))
      · rename_i hc
        have hc':=(ih _ _ (asB_some hc)).2 _ rfl
        have ha:=evx_ok cx n G hN h
        intro σ H Hs E hs hst hE hx Q
        exact(pe_ifExp pt_sem pe_sem pe_sem).sem (hc' σ H Hs _ hs hst fun H1 Hs1 E1=>iteF (ha σ H1 Hs1 E E1.sub (hst.same E1.vis) (hE.step E1) hx Q))
      · cases h
    · rename_i elt tg iter ifs a scope pos
      split at h
      · rename_i hc
        simp only[Bool.and_eq_true] at hc
        obtain⟨⟨ha,hok⟩,hp⟩:=hc
        have ea:a=0:=by simpa using ha
        subst ea
        obtain⟨ok1,ok2,ok3⟩:=compOk_ok G hok
        have hi:=evx_ok cx n G hN h
        intro σ H Hs E hs hst hE hx Q
        refine PE.sem (pe_comp G.calm ok1 ok2 ok3 pi_sem (fun Xc C=>⟨pg_sem,pifs_sem,pe_sem⟩) (plain_set hp)) ?_
        intro pins s I
        exact thn (hi σ H Hs E hs hst hE hx (fun _ _=>False) pins s I) fun v s1 ⟨_,_,_,_,q⟩=>q.elim
      · cases h
    · cases h
end
end L2
namespace L2
open PySem PySem.Spec PyProof.Rows PySem.SeqAt
open DE hiding st
section
variable {X:Cx} {ρ:Rho} {cx:Cxt} {k F:Nat} {sc scope:Scope} {Hs0 H0:Hp} {e:Expr} {d:D}
theorem list_inv'{n:Nat}{lnm y:Str}{p1 p2 p3:Pos}{v:D}(h:ev cx n sc ρ (.Call (.Name lnm p1) [.Name y p2] [] p3)=some v)(hb:bltOf cx sc lnm=some "list"):∃ m d es,ev cx m sc ρ (.Name y p2)=some d/\items d=some es/\v=.lst es:=by
  cases n with
  | zero=>exact nomatch (show(Option.none:Option D)=some v from h)
  | succ n =>
    unfold bltOf at hb
    split at hb
    · rename_i hg
      have hw:wcOf cx sc "list" [Expr.Name y p2]=.al:=rfl
      simp only[ev,hg,if_true,hb,hw,List.isEmpty_cons,Bool.false_eq_true,if_false] at h
      obtain⟨ds,h1,h2⟩:=obind h
      simp only[mapO] at h1
      obtain⟨d',g1,g2⟩:=obind h1
      obtain⟨_,g3,g4⟩:=obind g2
      cases g3
      cases g4
      obtain⟨es,g5,g6⟩:=obind (show(items d' >>=fun l=>some (D.lst l))=some v from h2)
      cases g6
      exact⟨n,d',es,g1,g5,rfl⟩
    · cases hb
theorem own_ev{n:Nat}{es:List D}(G:Good cx k X sc)(hN:X.N=ρ.map (·.1))(ho:ownX cx sc e=true)(he:ev cx n sc ρ e=some (.lst es)):OwnE X ρ e es:=by
  unfold ownX at ho
  split at ho
  · rename_i lnm p1 y p2 p3
    simp only[Bool.and_eq_true] at ho
    obtain⟨⟨q2,q3⟩,q5⟩:=ho
    have hb:bltOf cx sc lnm=some "list":=by simpa using q2
    obtain⟨m,d',es',g1,g2,g3⟩:=list_inv' he hb
    cases g3
    obtain⟨hg,hm,rfl⟩:=bltOf_ok G hb
    intro σ H Hs Q hs hst hq
    refine(pe_callTy (call_list_of (X:=X)) hg hm (by decide +kernel) (pa_cons pe_sem pa_nil (plain_star rfl)) (by decide) (by decide) (plain_star rfl) rfl).sem ?_
    refine(ev_ok cx m G hN g1).1 σ H Hs _ hs hst fun v H7 Hs7 E7 r7=>?_
    obtain⟨q,us,rfl,k1,k2⟩:=rep_items r7 g2
    exact⟨q,us,rfl,k1.imp E7.sub.seq E7.sub.tup,fun b hb7=>hq b us Hs7 _ (Ext.acc E7 (E7.all.free hb7) (E7.sub.free hb7)) (E7.all.free hb7) (E7.sub.free hb7) upd_same k2⟩
  · cases n with
    | zero=>exact nomatch (show(Option.none:Option D)=some _ from he)
    | succ n =>
      obtain⟨tg,iter,ifs,l,out,rfl,hok,hI,hp,hz,hgo,e1,hE⟩:=comp_inv' G hN he
      cases e1
      obtain⟨ok1,ok2,ok3⟩:=compOk_ok G hok
      intro σ H Hs Q hs hst hq
      exact(pe_comp G.calm ok1 ok2 ok3 pi_sem (fun Xc C=>⟨pg_sem,pifs_sem,pe_sem⟩) (plain_set hp)).sem (comp_read G hN hok hI hz hgo hE hs hst hq)
  · cases ho
theorem comp_oo{tg iter elt:Expr}{l:List D}{dss:List (List D)}(G:Good cx k X sc)(hN:X.N=ρ.map (·.1))(hok:compOk sc scope=true)(hI:EvI X ρ tg iter l)(hz:szl l.length=true)(hlen:dss.length=l.length)
  (hs1:∀ Xc,CompOf X scope Xc->∀ (i:Nat) d,l[i]?=some d->∃ ρ1 es,bindT scope tg d (compRho scope ρ)=some ρ1/\dss[i]?=some es/\(Xc.N=ρ1.map (·.1)->OwnE Xc ρ1 elt es))
  {σ:St} {H Hs:Hp} {Q:VK} (hs:Same Hs H) (hst:RepSt X.K Hs ρ σ) (hq:∀ a bs Hs' H',Ext Hs H Hs' H'->OO X.K H Hs' H' a bs dss->Q (.ref a) H') :
  tComp X scope (tSemI X tg iter) (mkSt X.N scope.names) (fun Xc=>gSem Xc tg) (fun Xc=>ifSem Xc []) (fun Xc=>tSem Xc elt) σ H Q:=by
 obtain⟨ok1,ok2,ok3⟩:=compOk_ok G hok
 refine hI σ H Hs _ hs hst fun J H1 Hs1 E1 hJ acc hacc Xc C=>?_
 have GC:=G.comp C hok
 have OC:=Owns.comp (scope:=scope) G C
 have hNc:∀ ρ1:Rho,ρ1.map (·.1)=scope.names.map (·.1)->Xc.N=ρ1.map (·.1):=fun ρ1 h=>by rw[C.N,h]
 have a1:Hs1 acc=none:=E1.sub.free hacc
 have a0:H acc=none:=E1.all.free hacc
 let W:Nat->Nat->St->Hp->Prop:=fun i m σc H3=>m=l.length-i/\i<=l.length/\∃ Hs3 bs,Ext Hs1 H1 Hs3 H3/\OO X.K H Hs3 H3 acc bs (dss.take i)/\σc.length=scope.names.length/\RepSt X.K Hs3 (compRho scope ρ) σc
 refine⟨W,⟨l.length,rfl,Nat.zero_le _,Hs1,[],Ext.acc (.refl E1.sub) hacc a1,⟨upd_same,a1,a0,.nil,by simp,by simp,fun j b e=>by simp at e⟩,by simp[mkSt],compRho_rep hN (hst.same E1.vis)⟩,?_⟩
 rintro i m σc H3 ⟨rfl,hi,Hs3,bs,E3,o3,l3,s3⟩
 obtain⟨st3,go3⟩:=hJ Hs3 H3 E3.vis E3.sub
 by_cases hlt:i<l.length
 ·have hd:l[i]?=some l[i]:=List.getElem?_eq_getElem hlt
  obtain⟨gi,yi⟩:=go3 i l[i] hd
  refine .inr ⟨gi,fun σ' H'=>W (i+1) (l.length-(i+1)) σ' H',fun σ' H' w=>⟨_,by omega,w⟩,fun x H4 y4=>?_⟩
  obtain⟨Hs4,E4,rx⟩:=yi x H4 y4
  obtain⟨ρ1,es,k1,k4,kO⟩:=hs1 Xc C i l[i] hd
  have s4:RepSt X.K Hs4 (compRho scope ρ) σc:=s3.same E4.vis
  have KE:=keeps_comp (K:=Xc.K) (Hs:=Hs4) (ρ:=ρ) (n:=scope.names.length) ok2 rfl
  refine bind_ok (X:=Xc) (scope:=scope) (Hs:=Hs4) GC.calm OC GC.nd E4.sub (hNc _ compRho_names) KE k1 ⟨compRho_names,l3,by rw[C.K];exact s4,by rw[C.K];exact s4⟩ (by rw[C.K];exact rx) fun σ5 hN5 p5=>?_
  obtain⟨_,l5,s5,s5'⟩:=p5
  refine ev_ifs (f:=fun _=>none) (ifs:=[]) (b:=true) (fun _ _ h=>nomatch h) rfl E4.sub s5 fun H6 Hs6 E6=>iteT ?_
  have E46:=E4.trans E6
  have o6:=o3.step E46
  have E16:Ext Hs1 H1 Hs6 H6:=E3.trans E46
  refine kO hN5 σ5 H6 Hs6 _ E6.sub (s5.same E6.vis) fun b us Hs7 H7 E7 hb6 hbs hb7 g2=>?_
  have o7:=o6.step E7
  have E17:Ext Hs1 H1 Hs7 H7:=E16.trans E7
  have ne:acc≠b:=fun w=>by have:=o6.1;rw[w,hb6] at this;cases this
  refine⟨bs.map V.ref,o7.1,?_,rfl,hlt,Hs7,bs++[b],?_,?_,l5,?_⟩
  ·have:=szl_lt hz
   have:=o7.2.2.2.2.2.1
   rw[List.length_map,this,List.length_take]
   omega
  ·exact Ext.acc E17 hacc o7.2.1
  ·have b0:H b=none:=E1.all.free (E16.all.free hb6)
   have ln:=o7.2.2.2.2.2.1
   have old:∀ (j:Nat) b',bs[j]?=some b'->b'≠b/\b'≠acc:=fun j b' e=>by
    obtain⟨_,_,_,_,_,m4,_⟩:=o6.2.2.2.2.2.2 j b' e
    refine⟨fun w=>?_,fun w=>o6.2.2.2.2.1 (by rw[<- w];exact List.mem_of_getElem? e)⟩
    rw[w,hb6] at m4
    cases m4
   refine⟨by rw[upd_same,List.map_append];rfl,o7.2.1,o7.2.2.1,?_,?_,?_,fun j b' e=>?_⟩
   ·rw[List.nodup_append]
    refine⟨o7.2.2.2.1,by simp,fun x' hx' y' hy'=>?_⟩
    obtain⟨j,e⟩:=List.mem_iff_getElem?.mp hx'
    rw[List.mem_singleton.mp hy']
    exact(old j x' e).1
   ·rw[List.mem_append,not_or]
    exact⟨o7.2.2.2.2.1,by simpa using ne⟩
   ·rw[List.length_append,ln,List.length_take,List.length_take,List.length_singleton]
    omega
   ·by_cases hj:j<bs.length
    ·rw[List.getElem?_append_left hj] at e
     obtain⟨m1,m2,ds,ws,m3,m4,m5⟩:=o7.2.2.2.2.2.2 j b' e
     obtain⟨n1,n2⟩:=old j b' e
     refine⟨m1,m2,ds,ws,?_,by rw[upd_ne n2];exact m4,m5⟩
     rw[ln,List.length_take] at hj
     rw[List.getElem?_take] at m3 ⊢
     rw[if_pos (by omega)] at m3 ⊢
     exact m3
    ·rw[List.getElem?_append_right (by omega)] at e
     have ej:j-bs.length=0:=by
      rcases Nat.eq_zero_or_pos (j-bs.length) with z | z
      ·exact z
      ·rw[List.getElem?_eq_none (by simp;omega)] at e;cases e
     rw[ej] at e
     have eb:b=b':=by simpa using e
     subst eb
     have jl:j=i:=by
      rw[ln,List.length_take] at hj ej
      omega
     subst jl
     refine⟨hbs,b0,es,us,?_,by rw[upd_ne (Ne.symm ne)];exact hb7,by rw[<- C.K];exact g2⟩
     rw[List.getElem?_take,if_pos (by omega)]
     exact k4
  ·rw[<- C.K]
   exact s5'.same (E6.trans E7).vis
 ·have hi':i=l.length:=by omega
  subst hi'
  refine .inl ⟨st3,hq acc bs Hs3 H3 (E1.trans E3) ?_⟩
  rw[<- hlen,List.take_length] at o3
  exact o3
theorem OO.low{K:PySem.W.Frag}{H0 H1 Hs H:Hp}{a:Addr}{bs:List Addr}{dss:List (List D)}(h:OO K H1 Hs H a bs dss)(q:∀ b,H1 b=none->H0 b=none):OO K H0 Hs H a bs dss:=by
 obtain⟨h1,h2,h3,h4,h5,h6,h7⟩:=h
 refine⟨h1,h2,q _ h3,h4,h5,h6,fun j b e=>?_⟩
 obtain⟨k1,k2,k3⟩:=h7 j b e
 exact⟨k1,q _ k2,k3⟩
theorem lsts_get:∀ {ds:List D} {dss:List (List D)},lsts ds=some dss->dss.length=ds.length/\∀ (i:Nat) d,ds[i]?=some d->∃ es,d=.lst es/\dss[i]?=some es
  | [],dss,h=>by cases h;exact⟨rfl,fun i d e=>by simp at e⟩
  | d :: ds, dss, h => by
    cases d with
    | lst es =>
      simp only[lsts,Option.map_eq_some_iff] at h
      obtain⟨r,h1,rfl⟩:=h
      obtain⟨g1,g2⟩:=lsts_get h1
      refine⟨by simp[g1],fun i d e=>?_⟩
      cases i with
      | zero=>simp at e;subst e;exact⟨es,rfl,rfl⟩
      | succ i=>exact g2 i d (by simpa using e)
    | _=>simp[lsts] at h
theorem compGo_get{f:D->Option (Option D)}:∀ {l out:List D},(∀ d∈l,f d≠some none)->compGo f l=some out->out.length=l.length/\∀ (i:Nat) d,l[i]?=some d->∃ v,f d=some (some v)/\out[i]?=some v
  | [],out,_,h=>by cases h;exact⟨rfl,fun i d e=>by simp at e⟩
  | d :: l, out, hn, h => by
    rcases compGo_cons h with⟨v,o',f1,f2,rfl⟩ | ⟨f1,_⟩
    · obtain⟨g1,g2⟩:=compGo_get (fun d hd=>hn d (List.mem_cons_of_mem _ hd)) f2
      refine⟨by simp[g1],fun i d e=>?_⟩
      cases i with
      | zero=>simp at e;subst e;exact⟨v,f1,rfl⟩
      | succ i=>exact g2 i d (by simpa using e)
    · exact absurd f1 (hn d List.mem_cons_self)
theorem st_oo{x:Str}{px pos:Pos}{dss:List (List D)}(G:GoodS cx k X sc)(hN:X.N=ρ.map (·.1))(hx:ownIn sc x=true)(hc:(ρ.map (·.1)).contains x=true)(hoo:ooE cx sc e=true)(hon:onlyC (frz F e ρ) x=true)(he:ev cx F sc (frz F e ρ) e=some d)(hd:lstsD d=some dss) :
    Runs X Hs0 H0 ρ (.nxt (setR (frz F e ρ) x (.oo dss))) (sSem X (.Assign [.Name x px] e pos)):=by
  obtain⟨ox,of⟩:=G.own.own x hx
  have hN':X.N=(frz F e ρ).map (·.1):=by rw[frz_names];exact hN
  unfold ooE at hoo
  split at hoo
  · rename_i elt y' pt iter a0 scope p4
    cases F with
    | zero=>exact nomatch (show(Option.none:Option D)=some d from he)
    | succ F =>
      obtain⟨tg,iter',ifs,l,out,hg,hok,hI,hp,hz,hgo,rfl,hE⟩:=comp_inv' G.good hN' he
      cases hg
      obtain⟨ok1,ok2,ok3⟩:=compOk_ok G.good hok
      intro σ H Hs D h _ hn hr
      obtain⟨i,hi⟩:=contains_ix hc
      obtain⟨Hs1,sm1,h1⟩:=h.frozen (F+1) (.ListComp elt [⟨.Name y' pt,iter,[],0⟩] scope p4)
      generalize hρ:frz (F+1) (.ListComp elt [⟨.Name y' pt,iter,[],0⟩] scope p4) ρ=ρ' at *
      have nm:ρ'.map (·.1)=ρ.map (·.1):=by rw[<- hρ,frz_names]
      have hf:∀ d o,compF cx F sc scope ρ' (.Name y' pt) elt [] d=some o->∃ ρ1 v,bindT scope (.Name y' pt) d (compRho scope ρ')=some ρ1/\ev cx F (relS scope sc) ρ1 elt=some v/\o=some v:=fun d o h=>by
        obtain⟨ρ1,h1,h⟩:=obind h
        obtain⟨b,h2,h⟩:=obind h
        cases h2
        simp only[if_true,Option.map_eq_some_iff] at h
        obtain⟨v,h3,h4⟩:=h
        exact⟨ρ1,v,h1,h3,h4.symm⟩
      obtain⟨n1,n2⟩:=compGo_get (fun d _ h=>by obtain⟨_,_,_,_,h⟩:=hf d _ h;cases h) hgo
      obtain⟨m1,m2⟩:=lsts_get (show lsts out=some dss from hd)
      have hnd:(ρ'.map (·.1)).Nodup:=by rw[nm,<- hN];exact G.good.nd
      have hi':X.N[i]?=some x:=by rw[hN];exact hi
      have rd:tComp X scope (tSemI X (.Name y' pt) iter) (mkSt X.N scope.names) (fun Xc=>gSem Xc (.Name y' pt)) (fun Xc=>ifSem Xc []) (fun Xc=>tSem Xc elt) σ H (fun v H1=>D.nx (σ.set i (some v)) H1):=by
        refine comp_oo (dss:=dss) G.good hN' hok hI hz (by rw[m1,n1]) (fun Xc C j dd hj=>?_) h1.ext.sub h1.sh fun a bs Hs' H' E o=>?_
        · obtain⟨v,f1,f2⟩:=n2 j dd hj
          obtain⟨ρ1,v',b1,b2,b3⟩:=hf dd _ f1
          cases b3
          obtain⟨es',g3,g4⟩:=m2 j v f2
          subst g3
          exact⟨ρ1,es',b1,g4,fun hN1=>own_ev (G.good.comp C hok) hN1 hoo b2⟩
        · exact hn _ _ Hs' H' rfl (sm1.trans E.vis) (by rw[setR_names,nm];exact hN) ((h1.step E).own2 hnd (by rw[nm];exact hi) (o.low fun b q=>h1.ext.all.free q) (onlyC_ok hnd (by rw[nm];exact hi) hon))
      cases hsw:(X.env.blockKind==.function&&X.env.kindOf x==some .local&&px.line==p4.line && !(scope.names.any fun(n,k)=>n==x&&(k==.local||k==.cell))) with
      | true =>
        have e1:swapsWith (.ListComp elt [⟨.Name y' pt,iter,[],0⟩] scope p4) (some (.Name x px)) pos.line X.env=pure true:=by rw[<- hsw];rfl
        rw[Bool.and_eq_true,Bool.and_eq_true,Bool.and_eq_true] at hsw
        have hl:X.env.scope.names.lookup x=some .local:=by simpa[Env.kindOf] using hsw.1.1.2
        exact PS.sem (ps_setC G.good.nd hi' hl G.good.calm ok1 ok2 ok3 pi_sem (fun Xc C=>⟨pg_sem,pifs_sem,pe_sem⟩) (plain_set hp) e1) rd
      | false =>
        have e1:swapsWith (.ListComp elt [⟨.Name y' pt,iter,[],0⟩] scope p4) (some (.Name x px)) pos.line X.env=pure false:=by rw[<- hsw];rfl
        exact PS.sem (ps_set G.good.nd hi' ox (pe_comp G.good.calm ok1 ok2 ok3 pi_sem (fun Xc C=>⟨pg_sem,pifs_sem,pe_sem⟩) (plain_set hp)) e1 of) rd
  · cases hoo
theorem plain_asg{o i:Expr}{pos:Pos}{env:Env}(h:plainE i=true):∀ v,assign (.Subscript o i pos) env v=(do
      let ov <- holding [v] (eval o env)
      let iv <- holding [v,ov] (eval i env)
      standAt pos
      holding [v,ov,iv] (setItem ov iv v)
      release [v,ov,iv] []):=by
  intro v
  cases i<;>first | rfl | (exact absurd h (by simp[plainE]))
theorem RepL.set{K:PySem.W.Frag}{H:Hp}{d:D}{v:V}(hv:Rep K H d v):∀ {ds:List D} {vs:List V} (n:Nat),RepL K H ds vs->RepL K H (ds.set n d) (vs.set n v)
  | [], vs, n, h => by
    have:vs=[]:=by simpa[RepL] using h
    subst this
    simpa[RepL] using h
  | e :: ds, vs, n, h => by
    simp only[RepL] at h
    obtain⟨w,r,rfl,h1,h2⟩:=h
    cases n with
    | zero=>exact .cons hv h2
    | succ n=>exact .cons h1 (RepL.set hv n h2)
theorem sole_no{tg:Expr}{l:Nat}{env:Env}(he:ev cx F sc ρ e=some d)(hc:isFresh e=false):swapsWithSole [tg] e l env=pure false:=by
 show swapsWith e (some tg) l env=pure false
 exact swaps_not he fun a b c p q=>by rw[q] at hc;cases hc
theorem stores_no{o i:Expr}{pos:Pos}{env:Env}:swappedStores [.Subscript o i pos] e env=pure none:=by
 cases e<;>rfl
theorem st_sto2{x:Str}{i1 i2:Expr}{dss:List (List D)}{ds:List D}{j1 j2:Int}{n1 n2:Nat}{px tp tp2 pos:Pos}(G:GoodS cx k X sc)(hN:X.N=ρ.map (·.1))(hx:ρ.lookup x=some (.oo dss))(ho:ownIn sc x=true)(hp:plainName x=true)(hfr:isFresh e=false)
  (q1:ev cx F sc (frz F e ρ) e=some d) (q2:ev cx F sc (frz F i1 ρ) i1=some (.int j1)) (q3:ixD dss.length j1=some n1) (q4:dss[n1]?=some ds) (q5:ev cx F sc (frz F i2 ρ) i2=some (.int j2)) (q6:ixD ds.length j2=some n2) (q7:flatD d=true) :
  Runs X Hs0 H0 ρ (.nxt (setR ρ x (.oo (dss.set n1 (ds.set n2 d))))) (sSem X (.Assign [.Subscript (.Subscript (.Name x px) i1 tp) i2 tp2] e pos)):=by
 have hNf:∀ e,X.N=(frz F e ρ).map (·.1):=fun e=>by rw[frz_names];exact hN
 obtain⟨i,hi,_⟩:=lookup_ix hx
 have nd:(ρ.map (·.1)).Nodup:=by rw[<- hN];exact G.good.nd
 intro σ H Hs D h _ hn hr
 obtain⟨⟨ad,bs,k1,k2⟩,_⟩:=h.oo i x dss hi
 unfold plainName at hp
 rw[Bool.and_eq_true,bne_iff_ne,bne_iff_ne] at hp
 have vis:Vis X.env.scope x:=(G.own.own x ho).1.elim .inl fun q=>.inr (.inl q)
 have hNi:X.N[i]?=some x:=by rw[hN,List.getElem?_map,hi];rfl
 have pv:∀ {pp:Pos},PE X (.Name x pp) (tVar i):=fun {pp}=>pe_var hNi vis (by simpa using hp.1) (by simpa using hp.2)
 have ll:=k2.2.2.2.2.2.1
 have nlt:n1<bs.length:=by
  rw[ll]
  exact(List.getElem?_eq_some_iff.mp q4).1
 obtain⟨b,hb⟩:∃ b,bs[n1]?=some b:=⟨_,List.getElem?_eq_getElem nlt⟩
 refine PS.sem (ps_asg pe_sem (pg_sub (pe_ix ix_list pv pe_sem (plain_ix (ev_plain q2))) pe_sem set_list (plain_asg (ev_plain q5))) (sole_no q1 hfr) stores_no rfl) ?_
 obtain⟨Hs1,sm1,shp,h1⟩:=h.frozen2 F e
 refine(ev_ok cx F G.good (hNf e) q1).1 σ H Hs1 _ h1.ext.sub h1.sh fun v1 H1 Hs4 E1 r1=>?_
 obtain⟨Hs7,B1,r1'⟩:=flat_keep h.ext.sub sm1 shp E1 q7 r1
 have hB1:=h.step B1
 obtain⟨Hs2,sm2,h2⟩:=hB1.frozen F i1
 refine⟨.ref ad,k1,(ev_ok cx F G.good (hNf i1) q2).1 σ H1 Hs2 _ h2.ext.sub h2.sh fun v2 H2 Hs5 E2 r2=>?_⟩
 have B2:Ext Hs7 H1 Hs7 H2:=⟨.refl _,E2.all,hB1.ext.sub.trans E2.all,fun _ _ _ h=>h⟩
 have hB2:=hB1.step B2
 have o2:=(k2.step B1).step B2
 refine⟨ad,bs.map V.ref,j1,.ref b,rfl,rep_int r2,.of o2.1,?_,?_⟩
 ·unfold atI
  rw[List.length_map,ll,<- ixD_eq,q3]
  show(bs.map V.ref)[n1]?=_
  rw[List.getElem?_map,hb];rfl
 obtain⟨Hs3,sm3,h3⟩:=hB2.frozen F i2
 refine(ev_ok cx F G.good (hNf i2) q5).1 σ H2 Hs3 _ h3.ext.sub h3.sh fun v3 H3 Hs6 E3 r3=>?_
 have B3:Ext Hs7 H2 Hs7 H3:=⟨.refl _,E3.all,hB2.ext.sub.trans E3.all,fun _ _ _ h=>h⟩
 have o3:=o2.step B3
 obtain⟨m1,m2,ds',us,m3,m4,m5⟩:=o3.2.2.2.2.2.2 n1 b hb
 rw[q4] at m3
 cases m3
 have nab:ad≠b:=fun w=>o3.2.2.2.2.1 (by rw[w];exact List.mem_of_getElem? hb)
 refine⟨b,us,j2,n2,rfl,rep_int r3,m4,by rw[<- m5.length,<- ixD_eq];exact q6,?_⟩
 refine hn _ _ Hs7 _ rfl B1.vis (by rw[setR_names];exact hN) ((hB2.step B3).app2 nd hi k1 m1 m2 (bs':=bs) ⟨by rw[upd_ne nab];exact o3.1,o3.2.1,o3.2.2.1,o3.2.2.2.1,o3.2.2.2.2.1,by rw[List.length_set];exact o3.2.2.2.2.2.1,fun jj b' e=>?_⟩)
 by_cases hjj:n1=jj
 ·subst hjj
  rw[hb] at e
  cases e
  refine⟨m1,m2,ds.set n2 d,us.set n2 v1,?_,upd_same,RepL.set r1' n2 m5⟩
  rw[List.getElem?_set,if_pos rfl,if_pos (by rw[<- ll];exact nlt)]
 ·obtain⟨m1',m2',ds',us',m3',m4',m5'⟩:=o3.2.2.2.2.2.2 jj b' e
  refine⟨m1',m2',ds',us',?_,?_,m5'⟩
  ·rw[List.getElem?_set,if_neg hjj];exact m3'
  ·rw[upd_ne]
   ·exact m4'
   ·intro w
    rw[w] at e
    exact hjj ((List.getElem?_inj nlt o3.2.2.2.1).mp (hb.trans e.symm))
end
end L2
namespace L2
open PySem PySem.Spec PyProof.Rows PySem.SeqAt
open DE hiding st
section
variable {X:Cx} {pos:Pos}
def tPar3(i j l:Nat)(ta:TA):TS:=fun D σ H=>ta σ H fun vs H1=>∃ v w u,vs=[v,w,u]/\D.nx (((σ.set i (some v)).set j (some w)).set l (some u)) H1
theorem ps_par3{i j l:Nat}{x y z:Str}{a b c:Expr}{ta:TA}{px py pz pt:Pos}{kt k2 pt2}(hc:X.calm=true)(hN:X.N.Nodup)(hi:X.N[i]?=some x)(hj:X.N[j]?=some y)(hl:X.N[l]?=some z)(hij:i≠j)(hil:i≠l)(hjl:j≠l)
  (hx:X.env.scope.names.lookup x=some .local) (hy:X.env.scope.names.lookup y=some .local) (hz:X.env.scope.names.lookup z=some .local) (ha:PA X [a,b,c] ta)
  (hw:swappedStores [.Tuple [.Name x px,.Name y py,.Name z pz] kt pt] (.Tuple [a,b,c] k2 pt2) X.env=pure (some [x,y,z]))
  (hs:swapsWithSole [.Tuple [.Name x px,.Name y py,.Name z pz] kt pt] (.Tuple [a,b,c] k2 pt2) pos.line X.env=pure false:=by rfl) :
  PS X (.Assign [.Tuple [.Name x px,.Name y py,.Name z pz] kt pt] (.Tuple [a,b,c] k2 pt2) pos) (tPar3 i j l ta):=by
 intro pins s σ H D I h
 rw[exec_Assign_arm]
 refine wpAny_bind (wpAny_standAt ?_)
 rw[hs]
 refine wpAny_bind (wpAny_pure ?_)
 rw[if_neg (by decide)]
 refine wpAny_bind (Tuple_ (thn (ha _ pins s σ H _ I h) fun us s1 ⟨vs,H1,I1,r1,q1⟩=>?_))
 obtain⟨v,w,u,e1,q1⟩:=q1
 subst e1
 obtain⟨u1,w1,rfl,rv,r2⟩:=valsC r1
 obtain⟨u2,w2,rfl,rw',r3⟩:=valsC r2
 obtain⟨u3,w3,rfl,ru,r4⟩:=valsC r3
 cases r4
 refine wpAny_newObj_type ?_ (by show 3<=sizeLine;decide)
 have I2:Inv X pins σ H1 { s1 with heap:=s1.heap.push { cls:=.type "tuple",data:=.seq [u1,u2,u3].toArray } }:=I1.kept (t':=s1.toks) fun b o e=>Heap.get?_push_of_some _ e
 rw[hw]
 refine wpAny_bind (wpAny_pure ?_)
 show wpAny (model X.prog X.w) X.A (do rule "assign.swapped-stores";let items <- unpackItems (.ref s1.heap.objs.size) 3 none;assignInOrder [fun v=>bindName X.env z v,fun v=>bindName X.env y v,fun v=>bindName X.env x v] items.reverse;pure Flow.next) _ _ _
 refine wpAny_bind (wpAny_rule (wpAny_bind (unpackItems_tuple (items := #[u1,u2,u3]) (I.ok.hd hc) (IsTup.new s1.heap _) fun h' hx'=>?_)))
 have I3:=I2.kept (h':=h') (t':=s1.toks) fun b o e=>hx' b o (Nat.ne_of_lt (Heap.lt_size e)) e
 show wpAny _ _ (assignInOrder [fun v=>bindName X.env z v,fun v=>bindName X.env y v,fun v=>bindName X.env x v] [u3,u2,u1] >>=fun _=>pure Flow.next) _ _ _
 refine wpAny_bind (assignInOrder_cons (wpAny_bindName (store_ok I3 hN hl (.inl hz) ru (fun s2 I4=>?_) (.inr hz))))
 refine assignInOrder_cons (wpAny_bindName (store_ok I4 hN hj (.inl hy) rw' (fun s3 I5=>?_) (.inr hy)))
 refine assignInOrder_cons (wpAny_bindName (store_ok I5 hN hi (.inl hx) rv (fun s4 I6=>assignInOrder_nil (wpAny_pure ?_)) (.inr hx)))
 have e:((σ.set l (some u)).set j (some w)).set i (some v)=((σ.set i (some v)).set j (some w)).set l (some u):=by
  rw[List.set_comm _ _ (Ne.symm hjl),List.set_comm _ _ (Ne.symm hil),List.set_comm _ _ (Ne.symm hij)]
 rw[e] at I6
 exact⟨_,H1,I6,q1⟩
end
section
variable {X:Cx} {ρ:Rho} {cx:Cxt} {k F:Nat} {sc scope:Scope} {Hs0 H0:Hp} {e:Expr} {d:D}
theorem st_tup{es:List Expr}{l:List D}{ρ':Rho}{kt:Nat}{pt pos:Pos}(G:GoodS cx k X sc)(hN:X.N=ρ.map (·.1))(hs:(swp sc es e).isSome=true)(he:ev cx F sc (frz F e ρ) e=some d)(hl:items d=some l)(hb:bindNames sc es l (frz F e ρ)=some ρ') :
    Runs X Hs0 H0 ρ (.nxt ρ') (sSem X (.Assign [.Tuple es kt pt] e pos)):=by
  have hN':X.N=(frz F e ρ).map (·.1):=by rw[frz_names];exact hN
  obtain⟨b,hb'⟩:=Option.isSome_iff_exists.mp hs
  cases b with
  | false =>
    have hw:=swp_no (kt:=kt) (pt:=pt) G.good hb'
    have hso:swapsWithSole [.Tuple es kt pt] e pos.line X.env=pure false:=by
      show swapsWith e (some (.Tuple es kt pt)) pos.line X.env=pure false
      by_cases hc:∃ a b c p,e=.ListComp a b c p
      · obtain⟨a,b,c,p,rfl⟩:=hc
        rfl
      · exact swaps_not he fun a b c p q=>hc ⟨a,b,c,p,q⟩
    intro σ H Hs D h _ hn hr
    exact PS.sem (ps_asg pe_sem pg_sem hso hw rfl) (ev_st G hN he h fun v Hs' H' sm h' r=>bind_items G h'.ext.sub hN' keeps_hd hl hb h' r fun σ' hN2 p=>hn ρ' σ' Hs' H' rfl sm hN2 p)
  | true =>
    obtain⟨x,px,y,py,a,b,k2,p2,rfl,rfl,lx,ly,hxy,pa,pb,hw⟩:=swp_yes (kt:=kt) (pt:=pt) G.good hb'
    cases F with
    | zero=>simp[ev] at he
    | succ F =>
      simp only[ev] at he
      obtain⟨ds,h1,he⟩:=obind he
      split at he
      · cases he
        simp only[items,Option.some.injEq] at hl
        subst hl
        have hA:=(ev_args (fun e _ d hd=>⟨(ev_ok cx F G.good hN' hd).1,ev_plain hd⟩) h1).1
        have hlen:ds.length=2:=by have:=(names_each (env:=X.env) hb).2.2;simpa using this.symm
        obtain⟨d1,d2,rfl⟩:∃ d1 d2,ds=[d1,d2]:=by
          match ds,hlen with
          | [d1,d2],_=>exact⟨d1,d2,rfl⟩
        simp only[bindNames] at hb
        split at hb
        · rename_i c1
          split at hb
          · rename_i c2
            cases hb
            rw[Bool.and_eq_true] at c1 c2
            rw[setR_names] at c2
            obtain⟨i,hi⟩:=contains_ix c1.2
            obtain⟨j,hj⟩:=contains_ix c2.2
            have hij:i≠j:=fun z=>by rw[z,hj] at hi;cases hi;exact hxy rfl
            intro σ H Hs D h _ hn hr
            obtain⟨Hs1,sm1,h1'⟩:=h.frozen (F+1) (.Tuple [a,b] k2 p2)
            refine PS.sem (ps_par G.good.calm G.good.nd (by rw[hN'];exact hi) (by rw[hN'];exact hj) hij lx ly pa_sem hw rfl) (hA σ H Hs1 _ h1'.ext.sub h1'.sh fun vs H' Hs' E r=>?_)
            obtain⟨v,w,rfl,r1,r2⟩:=repL2 r
            have nd:((frz (F+1) (.Tuple [a,b] k2 p2) ρ).map (·.1)).Nodup:=by rw[<- hN'];exact G.good.nd
            have g1:=(h1'.step E).set nd hi r1
            have g2:=g1.set (by rw[setR_names];exact nd) (by rw[setR_names];exact hj) r2
            exact⟨v,w,rfl,hn _ _ Hs' H' rfl (sm1.trans E.vis) (by rw[setR_names,setR_names];exact hN') g2⟩
          · cases hb
        · cases hb
      · cases he
theorem swp3_ok{es:List Expr}{kt:Nat}{pt:Pos}(G:Good cx k X sc)(h:swp3 sc es e=true) :
    ∃ x y z a b c px py pz k2 p2,es=[.Name x px,.Name y py,.Name z pz]/\e=.Tuple [a,b,c] k2 p2/\X.env.scope.names.lookup x=some .local/\X.env.scope.names.lookup y=some .local/\X.env.scope.names.lookup z=some .local/\x≠y/\x≠z/\y≠z /\
    swappedStores [.Tuple es kt pt] e X.env=pure (some [x,y,z]):=by
  unfold swp3 at h
  split at h
  · rename_i x px y py z pz a b c k2 p2
    have hq:=h
    simp only[Bool.and_eq_true,Bool.or_eq_true,Bool.not_eq_true',bne_iff_ne] at hq
    obtain⟨⟨⟨⟨⟨⟨⟨l1,l2⟩,l3⟩,q1,q2⟩,⟨n1,n2⟩,n3⟩,q3⟩,⟨p4,p5⟩,p6⟩,⟨c1,c2⟩,c3⟩:=hq
    have m1:X.env.kindOf x=some .local:=by unfold Env.kindOf;rw[G.sce];simpa using l1
    have m2:X.env.kindOf y=some .local:=by unfold Env.kindOf;rw[G.sce];simpa using l2
    have m3:X.env.kindOf z=some .local:=by unfold Env.kindOf;rw[G.sce];simpa using l3
    have hpl : py.line = px.line := by have : px.line = py.line := by simpa using q1
                                       exact this.symm
    have hpl2 : pz.line = px.line := by have : px.line = pz.line := by simpa using q2
                                        exact this.symm
    have f1:(foldedForSure 8 a&&(foldedForSure 8 b&&foldedForSure 8 c))=false:=by
      rcases q3 with(q | q) | q
      · rw[(nc_ok q).1];rfl
      · rw[(nc_ok q).1,Bool.false_and,Bool.and_false]
      · rw[(nc_ok q).1,Bool.and_false,Bool.and_false]
    have f2:(constantsAlone 8 a&&(constantsAlone 8 b&&constantsAlone 8 c))=false:=by
      rcases q3 with(q | q) | q
      · rw[(nc_ok q).2];rfl
      · rw[(nc_ok q).2,Bool.false_and,Bool.and_false]
      · rw[(nc_ok q).2,Bool.and_false,Bool.and_false]
    refine⟨x,y,z,a,b,c,px,py,pz,k2,p2,rfl,rfl,m1,m2,m3,n1,n2,n3,?_⟩
    unfold swappedStores
    have ed:([x,y,z]:List Str).eraseDups.length=3:=by
      have h1:(y==x)=false:=by simpa using n1.symm
      have h2:(z==x)=false:=by simpa using n2.symm
      have h3:(z==y)=false:=by simpa using n3.symm
      simp[List.eraseDups_cons,h1,h2,h3]
    have al1:[a,b,c].all (foldedForSure 8)=false:=by simpa using f1
    have al2:[a,b,c].all (constantsAlone 8)=false:=by simpa using f2
    simp only[al1,al2,block_fn G]
    generalize hst:[a,b,c].any _=sb
    have hsb:sb=false:=by
      rw[<- hst,List.any_cons,List.any_cons,List.any_cons,List.any_nil,Bool.or_false,Bool.or_eq_false_iff,Bool.or_eq_false_iff]
      clear hst f1 f2 al1 al2 q3 c1 c2 c3
      refine⟨?_,?_,?_⟩
      · cases a<;>first | rfl | (simp[plainE] at p4)
      · cases b<;>first | rfl | (simp[plainE] at p5)
      · cases c<;>first | rfl | (simp[plainE] at p6)
    generalize hf:List.filterMap _ [Expr.Name x px,Expr.Name y py,Expr.Name z pz]=nm
    have hnm:nm=[x,y,z]:=by
      rw[<- hf]
      simp[List.filterMap_cons,m1,m2,m3,hpl,hpl2,Expr.pos]
    rw[hsb,hnm]
    simp only[ed]
    rfl
  · cases h
theorem repL3{K:PySem.W.Frag}{H:Hp}{d1 d2 d3:D}{vs:List V}(r:RepL K H [d1,d2,d3] vs):∃ v w u,vs=[v,w,u]/\Rep K H d1 v/\Rep K H d2 w/\Rep K H d3 u:=by
 simp only[RepL] at r
 obtain⟨v,r1,rfl,h1,w,r2,rfl,h2,u,r3,rfl,h3,rfl⟩:=r
 exact⟨v,w,u,rfl,h1,h2,h3⟩
theorem st_tup3{es:List Expr}{l:List D}{ρ':Rho}{kt:Nat}{pt pos:Pos}(G:GoodS cx k X sc)(hN:X.N=ρ.map (·.1))(hs:swp3 sc es e=true)(he:ev cx F sc (frz F e ρ) e=some d)(hl:items d=some l)(hb:bindNames sc es l (frz F e ρ)=some ρ') :
    Runs X Hs0 H0 ρ (.nxt ρ') (sSem X (.Assign [.Tuple es kt pt] e pos)):=by
  have hN':X.N=(frz F e ρ).map (·.1):=by rw[frz_names];exact hN
  obtain⟨x,y,z,a,b,c,px,py,pz,k2,p2,rfl,rfl,lx,ly,lz,hxy,hxz,hyz,hw⟩:=swp3_ok (kt:=kt) (pt:=pt) G.good hs
  cases F with
  | zero=>simp[ev] at he
  | succ F =>
    simp only[ev] at he
    obtain⟨ds,h1,he⟩:=obind he
    split at he
    · cases he
      simp only[items,Option.some.injEq] at hl
      subst hl
      have hA:=(ev_args (fun e _ d hd=>⟨(ev_ok cx F G.good hN' hd).1,ev_plain hd⟩) h1).1
      have hlen:ds.length=3:=by have:=(names_each (env:=X.env) hb).2.2;simpa using this.symm
      obtain⟨d1,d2,d3,rfl⟩:∃ d1 d2 d3,ds=[d1,d2,d3]:=by
        match ds,hlen with
        | [d1,d2,d3],_=>exact⟨d1,d2,d3,rfl⟩
      simp only[bindNames] at hb
      split at hb
      · rename_i c1
        split at hb
        · rename_i c2
          split at hb
          · rename_i c3
            cases hb
            rw[Bool.and_eq_true] at c1 c2 c3
            rw[setR_names] at c2
            rw[setR_names,setR_names] at c3
            obtain⟨i,hi⟩:=contains_ix c1.2
            obtain⟨j,hj⟩:=contains_ix c2.2
            obtain⟨l,hl⟩:=contains_ix c3.2
            have hij:i≠j:=fun z=>by rw[z,hj] at hi;cases hi;exact hxy rfl
            have hil:i≠l:=fun z=>by rw[z,hl] at hi;cases hi;exact hxz rfl
            have hjl:j≠l:=fun z=>by rw[z,hl] at hj;cases hj;exact hyz rfl
            intro σ H Hs D h _ hn hr
            obtain⟨Hs1,sm1,h1'⟩:=h.frozen (F+1) (.Tuple [a,b,c] k2 p2)
            refine PS.sem (ps_par3 G.good.calm G.good.nd (by rw[hN'];exact hi) (by rw[hN'];exact hj) (by rw[hN'];exact hl) hij hil hjl lx ly lz pa_sem hw rfl) (hA σ H Hs1 _ h1'.ext.sub h1'.sh fun vs H' Hs' E r=>?_)
            obtain⟨v,w,u,rfl,r1,r2,r3⟩:=repL3 r
            have nd:((frz (F+1) (.Tuple [a,b,c] k2 p2) ρ).map (·.1)).Nodup:=by rw[<- hN'];exact G.good.nd
            have g1:=(h1'.step E).set nd hi r1
            have g2:=g1.set (by rw[setR_names];exact nd) (by rw[setR_names];exact hj) r2
            have g3:=g2.set (by rw[setR_names,setR_names];exact nd) (by rw[setR_names,setR_names];exact hl) r3
            exact⟨v,w,u,rfl,hn _ _ Hs' H' rfl (sm1.trans E.vis) (by rw[setR_names,setR_names,setR_names];exact hN') g3⟩
          · cases hb
        · cases hb
      · cases hb
    · cases he
theorem Runs.frz0{fl:Fl}{t:TS}{e:Expr}(h:Runs X Hs0 H0 (frz 0 e ρ) fl t):Runs X Hs0 H0 ρ fl t:=by
 intro σ H Hs D hd hN hn hr
 obtain⟨Hs1,sm1,h1⟩:=hd.frozen 0 e
 exact h σ H Hs1 D h1 (by rw[frz_names];exact hN) (fun ρ' σ' Hs' H' q sm hN' h'=>hn ρ' σ' Hs' H' q (sm1.trans sm) hN' h') hr
theorem st_append{x:Str}{ds:List D}{px ap cp pos:Pos}(G:GoodS cx k X sc)(hN:X.N=ρ.map (·.1))(hx:(frz F e ρ).lookup x=some (.ow ds))(ho:ownIn sc x=true)(hp:plainName x=true)(hline:(ap.endLine==cp.line)=true)(hz:szl (ds.length+1)=true)(he:ev cx F sc (frz F e ρ) e=some d) :
  Runs X Hs0 H0 ρ (.nxt (setR (frz F e ρ) x (.ow (ds++[d])))) (sSem X (.Expr (.Call (.Attribute (.Name x px) "append" ap) [e] [] cp) pos)):=by
 have hN':X.N=(frz F e ρ).map (·.1):=by rw[frz_names];exact hN
 obtain⟨i,hi,_⟩:=lookup_ix hx
 have nd:((frz F e ρ).map (·.1)).Nodup:=by rw[<- hN'];exact G.good.nd
 have hpl:=ev_plain he
 intro σ H Hs D h _ hn hr
 obtain⟨Hs1,sm1,h1⟩:=h.frozen F e
 obtain⟨a,vs,k1,k2,k3,k4,k5⟩:=h1.ow i x ds hi
 unfold plainName at hp
 rw[Bool.and_eq_true,bne_iff_ne,bne_iff_ne] at hp
 have vis:Vis X.env.scope x:=(G.own.own x ho).1.elim .inl fun q=>.inr (.inl q)
 refine PS.sem (ps_expr (pe_bm PySem.F.plainAttrs_list PySem.F.slot_list_append PySem.F.type_list_append mt_append (pe_var (i:=i) (by rw[hN',List.getElem?_map,hi];rfl) vis (by simpa using hp.1) (by simpa using hp.2)) (pa_cons pe_sem pa_nil (plain_star hpl)) rfl (by rw[plain_star hpl];rfl) hline (plain_star hpl) rfl) rfl) ?_
 refine⟨_,k1,.inl ⟨rfl,vs,.of k2⟩,?_⟩
 refine(ev_ok cx F G.good hN' he).1 σ H Hs1 _ h1.ext.sub h1.sh fun v H' Hs' E r=>?_
 have h2:=h1.step E
 refine⟨a,vs,v,rfl,rfl,E.all _ _ k2,by have:=k3.length;have:=szl_lt hz;omega,?_⟩
 exact hn _ _ Hs' _ rfl (sm1.trans E.vis) (by rw[setR_names];exact hN') (h2.app nd hi k1 (RepL.append (RepL.same E.vis ds vs k3) (.cons r .nil)))
theorem st_appendF{x:Str}{ds:List D}{px ap cp pos:Pos}(G:GoodS cx k X sc)(hN:X.N=ρ.map (·.1))(hx:ρ.lookup x=some (.ow ds))(ho:ownIn sc x=true)(hp:plainName x=true)(hline:(ap.endLine==cp.line)=true)(hz:szl (ds.length+1)=true)(he:ev cx F sc (frz F e ρ) e=some d)(hfl:flatD d=true) :
  Runs X Hs0 H0 ρ (.nxt (setR ρ x (.ow (ds++[d])))) (sSem X (.Expr (.Call (.Attribute (.Name x px) "append" ap) [e] [] cp) pos)):=by
 have hN':X.N=(frz F e ρ).map (·.1):=by rw[frz_names];exact hN
 obtain⟨i,hi,_⟩:=lookup_ix hx
 have nd:(ρ.map (·.1)).Nodup:=by rw[<- hN];exact G.good.nd
 have hpl:=ev_plain he
 intro σ H Hs D h _ hn hr
 obtain⟨Hs1,sm1,shp,h1⟩:=h.frozen2 F e
 obtain⟨a,vs,k1,k2,k3,k4,k5⟩:=h.ow i x ds hi
 unfold plainName at hp
 rw[Bool.and_eq_true,bne_iff_ne,bne_iff_ne] at hp
 have vis:Vis X.env.scope x:=(G.own.own x ho).1.elim .inl fun q=>.inr (.inl q)
 refine PS.sem (ps_expr (pe_bm PySem.F.plainAttrs_list PySem.F.slot_list_append PySem.F.type_list_append mt_append (pe_var (i:=i) (by rw[hN,List.getElem?_map,hi];rfl) vis (by simpa using hp.1) (by simpa using hp.2)) (pa_cons pe_sem pa_nil (plain_star hpl)) rfl (by rw[plain_star hpl];rfl) hline (plain_star hpl) rfl) rfl) ?_
 refine⟨_,k1,.inl ⟨rfl,vs,.of k2⟩,?_⟩
 refine(ev_ok cx F G.good hN' he).1 σ H Hs1 _ h1.ext.sub h1.sh fun v H' Hs' E r=>?_
 obtain⟨Hs3,E3,r3⟩:=flat_keep h.ext.sub sm1 shp E hfl r
 have h2:=h.step E3
 refine⟨a,vs,v,rfl,rfl,E3.all _ _ k2,by have:=k3.length;have:=szl_lt hz;omega,?_⟩
 exact hn _ _ Hs3 _ rfl E3.vis (by rw[setR_names];exact hN) (h2.app nd hi k1 (RepL.append (RepL.same E3.vis ds vs k3) (.cons r3 .nil)))
theorem augOf_ok{x:Str}{e i2 e2:Expr}(h:augOf x e=some (i2,e2)):∃ py p2 p3,e=.BinOp (.Subscript (.Name x py) i2 p2) .Add e2 p3:=by
 unfold augOf at h
 split at h
 ·rename_i y py i p2 e' p3
  split at h
  ·rename_i q
   cases h
   have:x=y:=by simpa using q
   subst this
   exact⟨py,p2,p3,rfl⟩
  ·cases h
 ·cases h
theorem st_store{x:Str}{ie i2 e2:Expr}{ds:List D}{j2 a b j:Int}{n:Nat}{px py tp p2 p3 pos:Pos}(G:GoodS cx k X sc)(hN:X.N=ρ.map (·.1))(hx:(frz F ie (frz F e2 (frz F i2 ρ))).lookup x=some (.ow ds))(ho:ownIn sc x=true)(hp:plainName x=true)
  (q1:ev cx F sc (frz F ie (frz F e2 (frz F i2 ρ))) i2=some (.int j2)) (q2:atD ds j2=some (.int a)) (q3:ev cx F sc (frz F ie (frz F e2 (frz F i2 ρ))) e2=some (.int b)) (q4:ev cx F sc (frz F ie (frz F e2 (frz F i2 ρ))) ie=some (.int j)) (q5:ixD ds.length j=some n) :
  Runs X Hs0 H0 ρ (.nxt (setR (frz F ie (frz F e2 (frz F i2 ρ))) x (.ow (ds.set n (.int (a+b)))))) (sSem X (.Assign [.Subscript (.Name x px) ie tp] (.BinOp (.Subscript (.Name x py) i2 p2) .Add e2 p3) pos)):=by
 have hN':X.N=(frz F ie (frz F e2 (frz F i2 ρ))).map (·.1):=by rw[frz_names,frz_names,frz_names];exact hN
 obtain⟨i,hi,_⟩:=lookup_ix hx
 have nd:((frz F ie (frz F e2 (frz F i2 ρ))).map (·.1)).Nodup:=by rw[<- hN'];exact G.good.nd
 intro σ H Hs D h _ hn hr
 obtain⟨Hs1,sm1,h1⟩:=h.frozen F i2
 obtain⟨Hs2,sm2,h2⟩:=h1.frozen F e2
 obtain⟨Hs3,sm3,h3⟩:=h2.frozen F ie
 obtain⟨ad,vs,k1,k2,k3,k4,k5⟩:=h3.ow i x ds hi
 unfold plainName at hp
 rw[Bool.and_eq_true,bne_iff_ne,bne_iff_ne] at hp
 have vis:Vis X.env.scope x:=(G.own.own x ho).1.elim .inl fun q=>.inr (.inl q)
 have hNi:X.N[i]?=some x:=by rw[hN',List.getElem?_map,hi];rfl
 have pv:∀ {pp:Pos},PE X (.Name x pp) (tVar i):=fun {pp}=>pe_var hNi vis (by simpa using hp.1) (by simpa using hp.2)
 refine PS.sem (ps_asg (pe_op op_add (pe_ix ix_list pv pe_sem (plain_ix (ev_plain q1))) pe_sem) (pg_sub pv pe_sem set_list (plain_asg (ev_plain q4))) rfl rfl rfl) ?_
 obtain⟨w,w1,w2⟩:=atD_rep k3 q2
 cases rep_int w2
 refine⟨.ref ad,k1,(ev_ok cx F G.good hN' q1).1 σ H Hs3 _ h3.ext.sub h3.sh fun v1 H1 Hs4 E1 r1=>?_⟩
 refine⟨ad,vs,j2,.int a,rfl,rep_int r1,.of (E1.all _ _ k2),w1,?_⟩
 refine(ev_ok cx F G.good hN' q3).1 σ H1 Hs4 _ E1.sub (h3.sh.same E1.vis) fun v2 H2 Hs5 E2 r2=>?_
 refine⟨a,b,rfl,rep_int r2,.ref ad,k1,(ev_ok cx F G.good hN' q4).1 σ H2 Hs5 _ E2.sub ((h3.sh.same E1.vis).same E2.vis) fun v3 H3 Hs6 E3 r3=>?_⟩
 have E:=E1.trans (E2.trans E3)
 refine⟨ad,vs,j,n,rfl,rep_int r3,E.all _ _ k2,by rw[<- k3.length,<- ixD_eq];exact q5,?_⟩
 exact hn _ _ Hs6 _ rfl (sm1.trans (sm2.trans (sm3.trans E.vis))) (by rw[setR_names];exact hN') ((h3.step E).app nd hi k1 (RepL.set (by simp[Rep]) n (RepL.same E.vis ds vs k3)))
theorem st_sto1{x:Str}{ie:Expr}{ds:List D}{j:Int}{n:Nat}{px tp pos:Pos}(G:GoodS cx k X sc)(hN:X.N=ρ.map (·.1))(hx:(frz F ie (frz F e ρ)).lookup x=some (.ow ds))(ho:ownIn sc x=true)(hp:plainName x=true)(hfr:isFresh e=false)
  (q1:ev cx F sc (frz F ie (frz F e ρ)) e=some d) (q4:ev cx F sc (frz F ie (frz F e ρ)) ie=some (.int j)) (q5:ixD ds.length j=some n) :
  Runs X Hs0 H0 ρ (.nxt (setR (frz F ie (frz F e ρ)) x (.ow (ds.set n d)))) (sSem X (.Assign [.Subscript (.Name x px) ie tp] e pos)):=by
 have hN':X.N=(frz F ie (frz F e ρ)).map (·.1):=by rw[frz_names,frz_names];exact hN
 obtain⟨i,hi,_⟩:=lookup_ix hx
 have nd:((frz F ie (frz F e ρ)).map (·.1)).Nodup:=by rw[<- hN'];exact G.good.nd
 intro σ H Hs D h _ hn hr
 obtain⟨Hs1,sm1,h1⟩:=h.frozen F e
 obtain⟨Hs3,sm3,h3⟩:=h1.frozen F ie
 obtain⟨ad,vs,k1,k2,k3,k4,k5⟩:=h3.ow i x ds hi
 unfold plainName at hp
 rw[Bool.and_eq_true,bne_iff_ne,bne_iff_ne] at hp
 have vis:Vis X.env.scope x:=(G.own.own x ho).1.elim .inl fun q=>.inr (.inl q)
 have hNi:X.N[i]?=some x:=by rw[hN',List.getElem?_map,hi];rfl
 have pv:∀ {pp:Pos},PE X (.Name x pp) (tVar i):=fun {pp}=>pe_var hNi vis (by simpa using hp.1) (by simpa using hp.2)
 refine PS.sem (ps_asg pe_sem (pg_sub pv pe_sem set_list (plain_asg (ev_plain q4))) (sole_no q1 hfr) stores_no rfl) ?_
 refine(ev_ok cx F G.good hN' q1).1 σ H Hs3 _ h3.ext.sub h3.sh fun v1 H1 Hs4 E1 r1=>?_
 refine⟨.ref ad,k1,(ev_ok cx F G.good hN' q4).1 σ H1 Hs4 _ E1.sub (h3.sh.same E1.vis) fun v3 H3 Hs6 E3 r3=>?_⟩
 have E:=E1.trans E3
 refine⟨ad,vs,j,n,rfl,rep_int r3,E.all _ _ k2,by rw[<- k3.length,<- ixD_eq];exact q5,?_⟩
 exact hn _ _ Hs6 _ rfl (sm1.trans (sm3.trans E.vis)) (by rw[setR_names];exact hN') ((h3.step E).app nd hi k1 (RepL.set (Rep.same E3.vis _ _ r1) n (RepL.same E.vis ds vs k3)))
theorem st_lst{x:Str}{ds:List D}{px pos:Pos}(G:GoodS cx k X sc)(hN:X.N=ρ.map (·.1))(hx:ownIn sc x=true)(hc:(ρ.map (·.1)).contains x=true)(hno:noOo (frz F e ρ) x=true)(hl:lstE cx sc e=true)(he:ev cx F sc (frz F e ρ) e=some (.lst ds)) :
  Runs X Hs0 H0 ρ (.nxt (setR (frz F e ρ) x (.ow ds))) (sSem X (.Assign [.Name x px] e pos)):=by
 have hN':X.N=(frz F e ρ).map (·.1):=by rw[frz_names];exact hN
 obtain⟨ox,of⟩:=G.own.own x hx
 have hfr:isFresh e=false:=by cases e<;>first | rfl | (simp[lstE] at hl;done)
 have hown:ownX cx sc e=true:=by
  unfold lstE at hl
  split at hl
  ·exact hl
  ·cases hl
 refine st_own G hN hx hc hno fun i hi σ H Hs D hs hst hq=>?_
 have hsw:=swaps_not (t:=some (.Name x px)) (l:=pos.line) (env:=X.env) he fun a b c p q=>by rw[q] at hfr;cases hfr
 exact PS.sem (ps_set (i:=i) G.good.nd hi ox pe_sem hsw of) (own_ev G.good hN' hown he σ H Hs _ hs hst fun acc vs Hs' H' E a1 a2 a3 r=>hq acc vs Hs' H' E a1 a2 a3 r)
theorem ext_meets(l:Addr)(xs:Array Value)(n:Nat)(b:Addr)(ys:Array Value)(m:Nat)(dd:Option Addr)(sl:Array (Option Value))(c0:¬(!xs.isEmpty&&Builtin.List.listTooLong (xs.size+ys.size))=true)(c1:xs.size<=sizeLine)(c2:xs.size+ys.size<=sizeLine+1) :
    Meets (Builtin.«list.extend» ⟨[.ref l,.ref b],[]⟩) (fun _ R s=>s.heap.get? l=some { cls:=.type "list",data:=.seq xs n }/\s.heap.get? b=some { cls:=.type "list",dict:=dd,data:=.seq ys m,slots:=sl } /\
      R (.ok (.ret Value.none)) { s with heap:=s.heap.update l (Obj.mapSeq fun x=>x++ys),toks:=s.toks }) :=
  .of_wp fun prog w A R s h=>by
    obtain⟨hp,g,d,tk,os⟩:=s
    obtain⟨hl,hb,h⟩:=h
    have f1:=sub_list_list;have f2:=AutoSeq1.sub_tuple_list;have f3:=AutoSeq1.sub_list_tuple
    have z:(xs++ys).size<=sizeLine+1:=by rw[Array.size_append];exact c2
    wp_walk using(wpAny_updateSeq hl rfl (hz:=c1) (_hz':=z)),AutoSeq1.wpAny_loadPart' hl,AutoSeq1.wpAny_loadPart' hb;exact⟨_,rfl,h⟩
def rExt2(K:PySem.W.Frag):V->List V->Hp->VK->Prop:=fun x vs H Q=>∃ l b xs zs,x=.ref l/\vs=[.ref b]/\H l=some (.lst xs)/\SqL K H b zs/\xs.length+zs.length<=sizeLine/\Q .non (upd H l (.lst (xs++zs)))
theorem mt_ext2:MtM X "list.extend" (rExt2 X.K):=by
 intro pins s σ H x vs v us Q I rx rv h
 obtain⟨l,b,xs,zs,rfl,rfl,hH,hB,hz,q⟩:=h
 cases (show v=Value.ref l from rx)
 obtain⟨u,rfl,ru⟩:=rv.one
 cases (show u=Value.ref b from ru)
 obtain⟨z,its,n,r,hl,e⟩:=I.lstM hH
 obtain⟨its2,r2,pl,hz2⟩:=I.list hB
 have hl2:=r2.length
 obtain⟨⟨c2,dd2,data2,sl2⟩,n2,e2,hc2,hd2,hs2⟩:=pl
 simp only at hc2 hs2
 have hsz:its.toArray.size+its2.toArray.size<=sizeLine:=by rw[List.size_toArray,List.size_toArray];omega
 have lng:¬ (!its.toArray.isEmpty&&Builtin.List.listTooLong (its.toArray.size+its2.toArray.size))=true:=fun w=>by
  rw[notLongL hsz,Bool.and_false] at w;cases w
 obtain⟨h3,h4⟩:=(show dd2=none/\data2=.seq its2.toArray n2 from⟨hd2,hs2⟩)
 subst hc2 h4
 refine call_meets F.slot_list_extend ⟨_,e,rfl⟩ F.entry_list_extend (F.args_list_extend_2 _ _) (ext_meets l its.toArray n b its2.toArray n2 dd2 sl2 lng (by rw[List.size_toArray];omega) (by omega)) ⟨e,e2,?_⟩
 exact⟨.non,_,I.lset (its':=its++its2) hH e (by simp) (r.append r2) (by rw[List.length_append];omega),rfl,q⟩
theorem ext_meetsT(l:Addr)(xs:Array Value)(n:Nat)(b:Addr)(ys:Array Value)(m:Nat)(dd:Option Addr)(sl:Array (Option Value))(c0:¬(!xs.isEmpty&&Builtin.List.listTooLong (xs.size+ys.size))=true)(c1:xs.size<=sizeLine)(c2:xs.size+ys.size<=sizeLine+1) :
    Meets (Builtin.«list.extend» ⟨[.ref l,.ref b],[]⟩) (fun _ R s=>s.heap.get? l=some { cls:=.type "list",data:=.seq xs n }/\s.heap.get? b=some { cls:=.type "tuple",dict:=dd,data:=.seq ys m,slots:=sl } /\
      R (.ok (.ret Value.none)) { s with heap:=s.heap.update l (Obj.mapSeq fun x=>x++ys),toks:=s.toks }) :=
  .of_wp fun prog w A R s h=>by
    obtain⟨hp,g,d,tk,os⟩:=s
    obtain⟨hl,hb,h⟩:=h
    have f1:=sub_list_list;have f2:=AutoSeq1.sub_tuple_list;have f3:=AutoSeq1.sub_list_tuple;have f4:=isSubtype_tuple_tuple
    have z:(xs++ys).size<=sizeLine+1:=by rw[Array.size_append];exact c2
    wp_walk using(wpAny_updateSeq hl rfl (hz:=c1) (_hz':=z)),AutoSeq1.wpAny_loadPart' hl,AutoSeq1.wpAny_loadPart' hb;exact⟨_,rfl,h⟩
def rExtT(K:PySem.W.Frag):V->List V->Hp->VK->Prop:=fun x vs H Q=>∃ l b xs zs,x=.ref l/\vs=[.ref b]/\H l=some (.lst xs)/\SqT K H b zs/\xs.length+zs.length<=sizeLine/\Q .non (upd H l (.lst (xs++zs)))
theorem mt_extT:MtM X "list.extend" (rExtT X.K):=by
 intro pins s σ H x vs v us Q I rx rv h
 obtain⟨l,b,xs,zs,rfl,rfl,hH,hB,hz,q⟩:=h
 cases (show v=Value.ref l from rx)
 obtain⟨u,rfl,ru⟩:=rv.one
 cases (show u=Value.ref b from ru)
 obtain⟨z,its,n,r,hl,e⟩:=I.lstM hH
 obtain⟨its2,r2,pl,hz2⟩:=I.tuple hB
 have hl2:=r2.length
 obtain⟨⟨c2,dd2,data2,sl2⟩,e2,hc2,n2,hs2⟩:=pl
 simp only at hc2 hs2
 have hsz:its.toArray.size+its2.toArray.size<=sizeLine:=by rw[List.size_toArray,List.size_toArray];omega
 have lng:¬ (!its.toArray.isEmpty&&Builtin.List.listTooLong (its.toArray.size+its2.toArray.size))=true:=fun w=>by
  rw[notLongL hsz,Bool.and_false] at w;cases w
 subst hc2 hs2
 refine call_meets F.slot_list_extend ⟨_,e,rfl⟩ F.entry_list_extend (F.args_list_extend_2 _ _) (ext_meetsT l its.toArray n b its2.toArray n2 dd2 sl2 lng (by rw[List.size_toArray];omega) (by omega)) ⟨e,e2,?_⟩
 exact⟨.non,_,I.lset (its':=its++its2) hH e (by simp) (r.append r2) (by rw[List.length_append];omega),rfl,q⟩
theorem st_extend{x:Str}{ds zs:List D}{px ap cp pos:Pos}(G:GoodS cx k X sc)(hN:X.N=ρ.map (·.1))(hx:(frz F e ρ).lookup x=some (.ow ds))(ho:ownIn sc x=true)(hp:plainName x=true)(hline:(ap.endLine==cp.line)=true)(hz:szl (ds.length+zs.length)=true)(he:ev cx F sc (frz F e ρ) e=some (.lst zs)) :
  Runs X Hs0 H0 ρ (.nxt (setR (frz F e ρ) x (.ow (ds++zs)))) (sSem X (.Expr (.Call (.Attribute (.Name x px) "extend" ap) [e] [] cp) pos)):=by
 have hN':X.N=(frz F e ρ).map (·.1):=by rw[frz_names];exact hN
 obtain⟨i,hi,_⟩:=lookup_ix hx
 have nd:((frz F e ρ).map (·.1)).Nodup:=by rw[<- hN'];exact G.good.nd
 have hpl:=ev_plain he
 intro σ H Hs D h _ hn hr
 obtain⟨Hs1,sm1,h1⟩:=h.frozen F e
 obtain⟨a,vs,k1,k2,k3,k4,k5⟩:=h1.ow i x ds hi
 unfold plainName at hp
 rw[Bool.and_eq_true,bne_iff_ne,bne_iff_ne] at hp
 have vis:Vis X.env.scope x:=(G.own.own x ho).1.elim .inl fun q=>.inr (.inl q)
 refine PS.sem (ps_expr (pe_bm PySem.F.plainAttrs_list PySem.F.slot_list_extend PySem.F.type_list_extend mt_ext2 (pe_var (i:=i) (by rw[hN',List.getElem?_map,hi];rfl) vis (by simpa using hp.1) (by simpa using hp.2)) (pa_cons pe_sem pa_nil (plain_star hpl)) rfl (by rw[plain_star hpl];rfl) hline (plain_star hpl) rfl) rfl) ?_
 refine⟨_,k1,.inl ⟨rfl,vs,.of k2⟩,?_⟩
 refine(ev_ok cx F G.good hN' he).1 σ H Hs1 _ h1.ext.sub h1.sh fun v H' Hs' E r=>?_
 have h2:=h1.step E
 obtain⟨b,us,rfl,g1,g2⟩:=rep_lst r
 refine⟨a,b,vs,us,rfl,rfl,E.all _ _ k2,E.sub.seq g1,by have:=k3.length;have:=g2.length;have:=szl_ok hz;omega,?_⟩
 exact hn _ _ Hs' _ rfl (sm1.trans E.vis) (by rw[setR_names];exact hN') (h2.app nd hi k1 (RepL.append (RepL.same E.vis ds vs k3) g2))
theorem st_extendT{x:Str}{ds zs:List D}{px ap cp pos:Pos}(G:GoodS cx k X sc)(hN:X.N=ρ.map (·.1))(hx:(frz F e ρ).lookup x=some (.ow ds))(ho:ownIn sc x=true)(hp:plainName x=true)(hline:(ap.endLine==cp.line)=true)(hz:szl (ds.length+zs.length)=true)(he:ev cx F sc (frz F e ρ) e=some (.tup zs)) :
  Runs X Hs0 H0 ρ (.nxt (setR (frz F e ρ) x (.ow (ds++zs)))) (sSem X (.Expr (.Call (.Attribute (.Name x px) "extend" ap) [e] [] cp) pos)):=by
 have hN':X.N=(frz F e ρ).map (·.1):=by rw[frz_names];exact hN
 obtain⟨i,hi,_⟩:=lookup_ix hx
 have nd:((frz F e ρ).map (·.1)).Nodup:=by rw[<- hN'];exact G.good.nd
 have hpl:=ev_plain he
 intro σ H Hs D h _ hn hr
 obtain⟨Hs1,sm1,h1⟩:=h.frozen F e
 obtain⟨a,vs,k1,k2,k3,k4,k5⟩:=h1.ow i x ds hi
 unfold plainName at hp
 rw[Bool.and_eq_true,bne_iff_ne,bne_iff_ne] at hp
 have vis:Vis X.env.scope x:=(G.own.own x ho).1.elim .inl fun q=>.inr (.inl q)
 refine PS.sem (ps_expr (pe_bm PySem.F.plainAttrs_list PySem.F.slot_list_extend PySem.F.type_list_extend mt_extT (pe_var (i:=i) (by rw[hN',List.getElem?_map,hi];rfl) vis (by simpa using hp.1) (by simpa using hp.2)) (pa_cons pe_sem pa_nil (plain_star hpl)) rfl (by rw[plain_star hpl];rfl) hline (plain_star hpl) rfl) rfl) ?_
 refine⟨_,k1,.inl ⟨rfl,vs,.of k2⟩,?_⟩
 refine(ev_ok cx F G.good hN' he).1 σ H Hs1 _ h1.ext.sub h1.sh fun v H' Hs' E r=>?_
 have h2:=h1.step E
 obtain⟨b,us,rfl,g1,g2⟩:=rep_tup r
 refine⟨a,b,vs,us,rfl,rfl,E.all _ _ k2,E.sub.tup g1,by have:=k3.length;have:=g2.length;have:=szl_ok hz;omega,?_⟩
 exact hn _ _ Hs' _ rfl (sm1.trans E.vis) (by rw[setR_names];exact hN') (h2.app nd hi k1 (RepL.append (RepL.same E.vis ds vs k3) g2))
theorem st_expr{pos:Pos}(G:GoodS cx k X sc)(hN:X.N=ρ.map (·.1))(he:ev cx F sc (frz F e ρ) e=some d)(hc:∀ a b c p,e≠.ListComp a b c p):Runs X Hs0 H0 ρ (.nxt (frz F e ρ)) (sSem X (.Expr e pos)):=by
 intro σ H Hs D h _ hn hr
 exact PS.sem (ps_expr pe_sem (swaps_not he hc)) (ev_st G hN he h fun v Hs' H' sm h' r=>hn _ _ Hs' H' rfl sm (by rw[frz_names];exact hN) h')
theorem go_ok{f:Rho->Stmt->Option Fl}(hf:∀ ρ s fl,X.N=ρ.map (·.1)->f ρ s=some fl->Runs X Hs0 H0 ρ fl (sSem X s)):∀ (l:List Stmt) (ρ:Rho) (fl:Fl),X.N=ρ.map (·.1)->stGo f l ρ=some fl->Runs X Hs0 H0 ρ fl (ssSem X l)
  | [], ρ, fl, hN, h => by
    simp only[stGo,Option.some.injEq] at h
    subst h
    intro σ H Hs D h _ hn hr
    exact PSs.sem pss_nil (hn _ _ Hs H rfl (.refl _) hN h)
  | s :: r, ρ, fl, hN, h => by
    simp only[stGo] at h
    obtain⟨fl1,h1,h2⟩:=obind h
    intro σ H Hs D hd _ hn hr
    refine PSs.sem (pss_cons ps_sem pss_sem) (hf ρ s fl1 hN h1 σ H Hs _ hd hN (fun ρ' σ' Hs' H' q sm hN' hd'=>?_) fun d v Hs' H' q E rr=>?_)
    · subst q
      exact go_ok hf r ρ' fl hN' h2 σ' H' Hs' D hd' hN' (fun ρ2 σ2 Hs2 H2 q2 sm2=>hn ρ2 σ2 Hs2 H2 q2 (sm.trans sm2)) hr
    · subst q
      cases h2
      exact hr d v Hs' H' rfl E rr
theorem st_for{tg iter:Expr}{body:List Stmt}{l:List D}{fl:Fl}{pos:Pos}{f:D->Rho->Option Fl}(G:GoodS cx k X sc)(hN:X.N=ρ.map (·.1))(hI:evI cx (isTupE tg) (ev cx F sc (frz F iter ρ)) sc iter=some l)
  (hf:∀ d ρ1 fl,f d ρ1=some fl->X.N=ρ1.map (·.1)->∃ ρ2,bindT sc tg d ρ1=some ρ2/\(X.N=ρ2.map (·.1)->Runs X Hs0 H0 ρ2 fl (ssSem X body))) (h:forGo f l (frz F iter ρ)=some fl):Runs X Hs0 H0 ρ fl (sSem X (.For tg iter body [] pos)):=by
 have hN':X.N=(frz F iter ρ).map (·.1):=by rw[frz_names];exact hN
 obtain⟨hI',hp⟩:=evI_ok (tg:=tg) (ρ:=frz F iter ρ) G.good (fun e d h=>⟨(ev_ok cx F G.good hN' h).1,ev_plain h⟩) hI
 intro σ H Hs D hd _ hn hr
 obtain⟨Hs1,sm1,h1⟩:=hd.frozen F iter
 refine PS.sem (ps_for G.pass G.good.calm pi_sem pg_sem pss_sem (plain_set hp)) (hI' σ H Hs1 _ h1.ext.sub h1.sh fun J H2 Hs2 E2 hJ=>?_)
 let W:Nat->Nat->St->Hp->Prop:=fun i m σ H=>m=l.length-i/\i<=l.length/\∃ ρi Hsi,Same Hs2 Hsi/\Hd X.K Hs0 H0 Hsi H ρi σ/\X.N=ρi.map (·.1)/\forGo f (l.drop i) ρi=some fl
 refine⟨W,⟨l.length,rfl,Nat.zero_le _,_,Hs2,.refl _,h1.step E2,hN',by simpa using h⟩,?_⟩
 rintro i m σi Hi ⟨rfl,hi,ρi,Hsi,sm,hdi,hNi,gi⟩
 obtain⟨stp,go⟩:=hJ Hsi Hi sm hdi.ext.sub
 by_cases hlt:i<l.length
 ·obtain⟨g1,g2⟩:=go i l[i] (List.getElem?_eq_getElem hlt)
  refine .inr ⟨g1,fun σ' H'=>W (i+1) (l.length-(i+1)) σ' H',fun σ' H' w=>⟨_,by omega,w⟩,fun x H' y=>?_⟩
  obtain⟨Hs3,E3,rx⟩:=g2 x H' y
  rw[List.drop_eq_getElem_cons hlt] at gi
  simp only[forGo] at gi
  obtain⟨fl1,b1,b2⟩:=obind gi
  obtain⟨ρ2,c1,c2⟩:=hf _ _ _ b1 hNi
  have hd3:=hdi.step E3
  refine bind_ok G.good.calm G.own G.good.nd hd3.ext.sub hNi (keeps_hd (Hs0:=Hs0) (H0:=H0) (H:=H')) c1 hd3 rx fun σ' hN2 p=>?_
  refine c2 hN2 σ' H' Hs3 _ p hN2 (fun ρ' σ'' Hs' H'' q sm4 hN3 hd4=>?_) fun d v Hs' H'' q E rr=>?_
  ·subst q
   exact⟨rfl,hlt,ρ',Hs',sm.trans (E3.vis.trans sm4),hd4,hN3,b2⟩
  ·subst q
   cases b2
   exact hr d v Hs' H'' rfl E rr
 ·have hi':i=l.length:=by omega
  subst hi'
  refine .inl ⟨stp,?_⟩
  rw[List.drop_length] at gi
  simp only[forGo,Option.some.injEq] at gi
  exact hn ρi σi Hsi Hi gi.symm (sm1.trans (E2.vis.trans sm)) hNi hdi
end
section
variable {X:Cx} {ρ:Rho} {cx:Cxt} {k F:Nat} {sc scope:Scope} {Hs0 H0:Hp} {e:Expr} {d:D}
theorem unnox{s:Stmt}{D:Ends}{σ:St}{H:Hp}(h:sSem X.nox s D σ H):sSem X s D σ H:=fun pins s0 I=>wpAny_mono (h pins s0 (I.wish _)) (fun _ _ q=>q.unwish) fun _ _ z=>False.elim z
abbrev Cx.pinned(X:Cx)(pn:List (Addr×Obj))(xe:Value->Shared->Prop):Cx:={ X with pn:=pn,xe:=xe }
def RunsX(rs:Bool)(X:Cx)(Hs0 H0:Hp)(ρ:Rho)(c:Str)(ρ':Rho)(t:TS):Prop:=∀ σ H Hs D,Hd X.K Hs0 H0 Hs H ρ σ->X.N=ρ.map (·.1) ->
 (∀ σ' Hs' H',Same Hs Hs'->X.N=ρ'.map (·.1)->Hd X.K Hs0 H0 Hs' H' ρ' σ'->∃ E,EX X c Hs' H' E/\XOk X σ' E/\(rs=true->RaiseOk X σ' E))->t D σ H
theorem goX_ok{rs:Bool}{f:Rho->Stmt->Option Fl}{g:Rho->Stmt->Option (Str×Rho)}{c:Str}{ρ':Rho}(hf:∀ ρ s fl,X.N=ρ.map (·.1)->f ρ s=some fl->Runs X.nox Hs0 H0 ρ fl (sSem X.nox s))(hg:∀ ρ s c ρ',X.N=ρ.map (·.1)->g ρ s=some (c,ρ')->RunsX rs X Hs0 H0 ρ c ρ' (sSem X s)) :
    ∀ (l:List Stmt) (ρ:Rho),X.N=ρ.map (·.1)->stxGo f g l ρ=some (c,ρ')->RunsX rs X Hs0 H0 ρ c ρ' (ssSem X l)
  | [],ρ,hN,h=>by simp[stxGo] at h
  | s :: r, ρ, hN, h => by
    simp only[stxGo] at h
    intro σ H Hs D hd _ hx
    refine PSs.sem (pss_cons ps_sem pss_sem) ?_
    split at h
    · rename_i ρ1 h1
      refine unnox (hf ρ s _ hN h1 σ H Hs _ hd hN (fun ρ2 σ2 Hs2 H2 q sm hN2 hd2=>?_) fun d v Hs2 H2 q _ _=>nomatch q)
      cases q
      exact goX_ok hf hg r ρ1 hN2 h σ2 H2 Hs2 D hd2 hN2 fun σ3 Hs3 H3 sm3=>hx σ3 Hs3 H3 (sm.trans sm3)
    · cases h
    · exact hg ρ s c ρ' hN h σ H Hs _ hd hN hx
theorem evx_st{c:Str}(G:Good cx k X sc)(hN:X.N=ρ.map (·.1))(he:evx cx F sc (frz F e ρ) e=some c){σ:St}{H Hs:Hp}{rs:Bool}{Q:VK}(h:Hd X.K Hs0 H0 Hs H ρ σ)
  (hx:∀ σ' Hs' H',Same Hs Hs'->X.N=(frz F e ρ).map (·.1)->Hd X.K Hs0 H0 Hs' H' (frz F e ρ) σ'->∃ E,EX X c Hs' H' E/\XOk X σ' E/\(rs=true->RaiseOk X σ' E)):tSem X e σ H Q:=by
 obtain⟨Hs1,sm1,h1⟩:=h.frozen F e
 have hN':X.N=(frz F e ρ).map (·.1):=by rw[frz_names];exact hN
 obtain⟨E,e1,e2,_⟩:=hx σ Hs1 H sm1 hN' h1
 exact evx_ok cx F G hN' he σ H Hs1 E h1.ext.sub h1.sh e1 e2 Q
theorem swapsX{t:Option Expr}{l:Nat}{env:Env}{c:Str}(he:evx cx F sc ρ e=some c)(hc:isFresh e=false):swapsWith e t l env=pure false:=by
  cases F with
  | zero=>exact nomatch (show(Option.none:Option Str)=some c from he)
  | succ F =>
    cases e<;>first | rfl | (exact nomatch (show(Option.none:Option Str)=some c from he)) | (exact absurd hc (by simp[isFresh]))
end
mutual
theorem st_ok(cx:Cxt)(F:Nat):∀ (n:Nat) {k:Nat} {X:Cx} {sc:Scope} {ρ:Rho} {s:Stmt} {fl:Fl} {Hs0 H0:Hp},GoodS cx k X sc->X.N=ρ.map (·.1)->DE.st cx F n sc ρ s=some fl->Runs X Hs0 H0 ρ fl (sSem X s)
  | 0,k,X,sc,ρ,s,fl,Hs0,H0,_,_,h=>by simp[DE.st] at h
  | n + 1, k, X, sc, ρ, s, fl, Hs0, H0, G, hN, h => by
    have block:∀ (l:List Stmt) (ρ:Rho) (fl:Fl),X.N=ρ.map (·.1)->stGo (fun ρ s=>DE.st cx F n sc ρ s) l ρ=some fl->Runs X Hs0 H0 ρ fl (ssSem X l):=go_ok fun ρ s fl hN h=>st_ok cx F n G hN h
    cases s with
    | Pass pos =>
      simp only[DE.st,Option.some.injEq] at h
      subst h
      intro σ H Hs D hd _ hn hr
      exact PS.sem ps_pass (hn _ _ Hs H rfl (.refl _) hN hd)
    | Return v pos =>
      simp only[DE.st] at h
      cases v with
      | none =>
        simp only[Option.some.injEq] at h
        subst h
        intro σ H Hs D hd _ hn hr
        exact PS.sem ps_retN (hr .non .non Hs H rfl hd.ext (by simp[Rep]))
      | some e =>
        simp only[Option.map_eq_some_iff] at h
        obtain⟨d,he,rfl⟩:=h
        intro σ H Hs D hd _ hn hr
        exact PS.sem (ps_ret pe_sem) (ev_st G hN he hd fun v Hs' H' sm h' r=>hr d v Hs' H' rfl h'.ext r)
    | Assign tgs e pos =>
      simp only[DE.st] at h
      split at h
      · split at h
        · rename_i hc
          rw[Bool.and_eq_true] at hc
          split at h
          · rename_i hoo
            rw[Bool.and_eq_true] at hoo
            obtain⟨d,he,h⟩:=Option.bind_eq_some_iff.mp h
            obtain⟨dss,hd,rfl⟩:=Option.map_eq_some_iff.mp h
            exact st_oo G hN hc.1 hc.2 hoo.1 hoo.2 he hd
          · split at h
            · rename_i hle
              rw[Bool.and_eq_true] at hle
              obtain⟨d,he,h⟩:=Option.bind_eq_some_iff.mp h
              obtain⟨ds,hd,rfl⟩:=Option.map_eq_some_iff.mp h
              cases d<;>simp[lstI] at hd
              subst hd
              exact st_lst G hN hc.1 hc.2 hle.2 hle.1 he
            · split at h
              · split at h
                · rename_i hno
                  simp only[Option.map_eq_some_iff] at h
                  obtain⟨d,he,rfl⟩:=h
                  exact Runs.frz0 (e:=e) (st_name G (by rw[frz_names];exact hN) hc.1 (by rw[frz_names];exact hc.2) (fun _=>hno) he)
                · cases h
              · rename_i hno
                simp only[Option.map_eq_some_iff] at h
                obtain⟨d,he,rfl⟩:=h
                refine st_name G hN hc.1 hc.2 (fun hf=>?_) he
                rw[hf,Bool.true_and] at hno
                simpa using hno
        · cases h
      · split at h
        · rename_i hs
          obtain⟨d,he,h⟩:=obind h
          obtain⟨l,hl,h⟩:=obind h
          simp only[Option.map_eq_some_iff] at h
          obtain⟨ρ',hb,rfl⟩:=h
          rcases Bool.or_eq_true _ _ |>.mp hs with hs | hs
          · exact st_tup G hN hs he hl hb
          · exact st_tup3 G hN hs he hl hb
        · cases h
      · split at h
        · rename_i x px
          split at h
          · rename_i i2 e2 hau
            obtain⟨py,p2,p3,rfl⟩:=augOf_ok hau
            split at h
            · rename_i ds hx
              split at h
              · rename_i hc
                rw[Bool.and_eq_true] at hc
                obtain⟨j2,h1,h⟩:=obind h
                obtain⟨a,h2,h⟩:=obind h
                obtain⟨b,h3,h⟩:=obind h
                obtain⟨j,h4,h⟩:=obind h
                obtain⟨n,h5,h⟩:=obind h
                cases h
                exact st_store G hN hx hc.1 hc.2 (asI_some h1) (asI_some h2) (asI_some h3) (asI_some h4) h5
              · cases h
            · cases h
          · split at h
            · rename_i ds hx
              split at h
              · rename_i hc
                simp only[Bool.and_eq_true,Bool.not_eq_true'] at hc
                obtain⟨d,h1,h⟩:=obind h
                obtain⟨j,h4,h⟩:=obind h
                obtain⟨n,h5,h⟩:=obind h
                cases h
                exact st_sto1 G hN hx hc.1.1 hc.1.2 hc.2 h1 (asI_some h4) h5
              · cases h
            · cases h
        · split at h
          · rename_i dss hx
            split at h
            · rename_i hc
              rw[Bool.and_eq_true,Bool.and_eq_true] at hc
              obtain⟨d,h1,h⟩:=obind h
              obtain⟨j1,h2,h⟩:=obind h
              obtain⟨n1,h3,h⟩:=obind h
              obtain⟨ds,h4,h⟩:=obind h
              obtain⟨j2,h5,h⟩:=obind h
              obtain⟨n2,h6,h⟩:=obind h
              split at h
              · rename_i h7
                cases h
                exact st_sto2 G hN hx hc.1.1 hc.1.2 (by simpa using hc.2) h1 (asI_some h2) h3 h4 (asI_some h5) h6 h7
              · cases h
            · cases h
          · cases h
        · cases h
      · cases h
    | Expr v pos =>
      simp only[DE.st] at h
      split at h
      · rename_i x px m ap e cp
        split at h
        · rename_i ds hx
          split at h
          · rename_i hc
            rw[Bool.and_eq_true,Bool.and_eq_true] at hc
            obtain⟨⟨c1,c2⟩,c4⟩:=hc
            split at h
            · rename_i hc2
              rw[Bool.and_eq_true] at hc2
              simp only[Option.map_eq_some_iff] at h
              obtain⟨d,he,rfl⟩:=h
              have em:m="append":=by simpa using hc2.1
              subst em
              exact st_append G hN hx c1 c2 c4 hc2.2 he
            · split at h
              · rename_i hc3
                obtain⟨d,he,h⟩:=obind h
                have em:m="extend":=by simpa using hc3
                subst em
                split at h
                · split at h
                  · rename_i hz
                    cases h
                    exact st_extend G hN hx c1 c2 c4 hz he
                  · cases h
                · split at h
                  · rename_i hz
                    cases h
                    exact st_extendT G hN hx c1 c2 c4 hz he
                  · cases h
                · cases h
              · cases h
          · cases h
        · split at h
          · rename_i ds hx
            split at h
            · rename_i hc
              rw[Bool.and_eq_true,Bool.and_eq_true,Bool.and_eq_true,Bool.and_eq_true] at hc
              obtain⟨⟨⟨c1,c2⟩,c4⟩,c5,c6⟩:=hc
              obtain⟨d,he,h⟩:=obind h
              have em:m="append":=by simpa using c5
              subst em
              split at h
              · rename_i hfl
                cases h
                exact st_appendF G hN hx c1 c2 c4 c6 he hfl
              · cases h
            · cases h
          · cases h
        · cases h
      · cases h
      · cases h
      · rename_i h1 h2 h3
        simp only[Option.map_eq_some_iff] at h
        obtain⟨d,he,rfl⟩:=h
        exact st_expr G hN he fun a b c p q=>h2 a b c p q
    | If c a b pos =>
      simp only[DE.st] at h
      obtain⟨t,h1,h⟩:=obind h
      have he:=asB_some h1
      intro σ H Hs D hd _ hn hr
      have hN':X.N=(frz F c ρ).map (·.1):=by rw[frz_names];exact hN
      refine PS.sem (ps_if pt_sem pss_sem pss_sem) (ev_stT G hN he hd fun Hs' H' sm h'=>?_)
      cases t with
      | true =>
        simp only[if_true] at h
        exact iteT (block a _ fl hN' h σ H' Hs' D h' hN' (fun ρ2 σ2 Hs2 H2 q2 sm2=>hn ρ2 σ2 Hs2 H2 q2 (sm.trans sm2)) hr)
      | false =>
        simp only[Bool.false_eq_true,if_false] at h
        exact iteF (block b _ fl hN' h σ H' Hs' D h' hN' (fun ρ2 σ2 Hs2 H2 q2 sm2=>hn ρ2 σ2 Hs2 H2 q2 (sm.trans sm2)) hr)
    | For tg iter body orelse pos =>
      simp only[DE.st] at h
      split at h
      · obtain⟨l,hI,h⟩:=obind h
        refine st_for G hN hI (fun d ρ1 fl hf hN1=>?_) h
        obtain⟨ρ2,g1,g2⟩:=obind hf
        exact⟨ρ2,g1,fun hN2=>block body ρ2 fl hN2 g2⟩
      · cases h
    | While c body orelse pos =>
      simp only[DE.st] at h
      split at h
      · simp at h
      · cases h
    | _=>exact nomatch (show(Option.none:Option Fl)=some fl from h)
theorem stx_ok(cx:Cxt)(F:Nat):∀ (n:Nat) {k:Nat} {X:Cx} {sc:Scope} {ρ:Rho} {s:Stmt} {c:Str} {ρ':Rho} {Hs0 H0:Hp},GoodS cx k X.nox sc->X.N=ρ.map (·.1)->DE.stx cx F n sc ρ s=some (c,ρ')->RunsX cx.rs X Hs0 H0 ρ c ρ' (sSem X s)
  | 0,k,X,sc,ρ,s,c,ρ',Hs0,H0,_,_,h=>by simp[DE.stx] at h
  | n + 1, k, X, sc, ρ, s, c, ρ', Hs0, H0, G, hN, h => by
    have GX:Good cx k X sc:=⟨G.good.calm,G.good.room,G.good.sce,G.good.kind,G.good.nd,G.good.cst,G.good.blt,G.good.exs,G.good.fns⟩
    have block:∀ (l:List Stmt) (ρ:Rho) (c:Str) (ρ':Rho),X.N=ρ.map (·.1)->stxGo (fun ρ s=>DE.st cx F n sc ρ s) (fun ρ s=>DE.stx cx F n sc ρ s) l ρ=some (c,ρ')->RunsX cx.rs X Hs0 H0 ρ c ρ' (ssSem X l):=fun l ρ c ρ' hN h =>
      goX_ok (fun ρ s fl hN h=>st_ok cx F n G hN h) (fun ρ s c ρ' hN h=>stx_ok cx F n G hN h) l ρ hN h
    simp only[DE.stx] at h
    split at h
    · rename_i cc np txt j p1 cpos pos
      split at h
      · rename_i hc
        cases h
        simp only[Bool.and_eq_true] at hc
        obtain⟨⟨⟨h1,h2⟩,h3⟩,h4⟩:=hc
        obtain⟨C,M,e1,_,e2,_⟩:=GX.exs.cls c h3
        have hg:Gl X c:=by
          have e:sc.names.lookup c=some .globalImplicit:=by unfold isGl at h2;simpa using h2
          show X.env.scope.names.lookup c=_
          rw[GX.sce,e]
        unfold plainName at h4
        rw[Bool.and_eq_true,bne_iff_ne] at h4
        intro σ H Hs D hd _ hx pins s I
        obtain⟨E,x1,x2,x3⟩:=hx σ Hs H (.refl _) hN hd
        exact raise_ok I GX.room.hd hg (GX.exs.glob _ _ e1) (by simpa using h4.1) e2 fun s2 h' e args I2 hm=>x3 h1 pins H s2 C e h' args I2 hm (x1 C H Hs e1 (.refl hd.ext.sub))
      · cases h
    · rename_i e pos
      split at h
      · cases h
      · rename_i hfr
        obtain⟨c1,h1,h2⟩:=Option.map_eq_some_iff.mp h
        cases h2
        intro σ H Hs D hd _ hx
        exact PS.sem (ps_expr pe_sem (swapsX h1 (by simpa using hfr))) (evx_st GX hN h1 hd hx)
    · rename_i e pos
      obtain⟨c1,h1,h2⟩:=Option.map_eq_some_iff.mp h
      cases h2
      intro σ H Hs D hd _ hx
      exact PS.sem (ps_ret pe_sem) (evx_st GX hN h1 hd hx)
    · rename_i x px e pos
      split at h
      · cases h
      · rename_i hfr
        obtain⟨c1,h1,h2⟩:=Option.map_eq_some_iff.mp h
        cases h2
        intro σ H Hs D hd _ hx pins s I
        exact wpAny_Assign_Name (thn (evx_st (Q:=fun _ _=>False) GX hN h1 hd hx pins s I) fun v s1 ⟨_,_,_,_,q⟩=>q.elim) (swapsX h1 (by simpa using hfr))
    · rename_i cc a b pos
      split at h
      · rename_i kk hk
        have he:=asB_some hk
        have hN':X.N=(frz F cc ρ).map (·.1):=by rw[frz_names];exact hN
        intro σ H Hs D hd _ hx
        obtain⟨Hs1,sm1,h1⟩:=hd.frozen F cc
        refine PS.sem (ps_if pt_sem pss_sem pss_sem) ((ev_ok cx F GX hN' he).2 kk rfl σ H Hs1 _ h1.ext.sub h1.sh fun H' Hs' E=>?_)
        have h2:=h1.step E
        cases kk with
        | true=>exact iteT (block a _ c ρ' hN' h σ H' Hs' D h2 hN' fun σ3 Hs3 H3 sm3=>hx σ3 Hs3 H3 ((sm1.trans E.vis).trans sm3))
        | false=>exact iteF (block b _ c ρ' hN' h σ H' Hs' D h2 hN' fun σ3 Hs3 H3 sm3=>hx σ3 Hs3 H3 ((sm1.trans E.vis).trans sm3))
      · rename_i hk
        split at h
        · rename_i e hn
          obtain⟨c1,h1,h2⟩:=Option.map_eq_some_iff.mp h
          cases h2
          unfold notCall at hn
          split at hn
          · rename_i f as ks p1 p2
            cases hn
            have hN':X.N=(frz F (.UnaryOp .Not (.Call f as ks p1) p2) ρ).map (·.1):=by rw[frz_names];exact hN
            intro σ H Hs D hd _ hx
            obtain⟨Hs1,sm1,hd1⟩:=hd.frozen F (.UnaryOp .Not (.Call f as ks p1) p2)
            obtain⟨E,e1,e2,_⟩:=hx σ Hs1 H sm1 hN' hd1
            exact PS.sem (ps_if (pt_not (pt_val pe_sem)) pss_sem pss_sem) (evx_ok cx F GX hN' h1 σ H Hs1 E hd1.ext.sub hd1.sh e1 e2 _)
          · cases hn
        · cases h
    · rename_i tg iter body pos
      split at h
      · obtain⟨c1,h1,h2⟩:=Option.map_eq_some_iff.mp h
        cases h2
        intro σ H Hs D hd _ hx pins s I
        rw[arm_exec_For]
        exact wpAny_bind (wpAny_standAt (wpAny_bind (thn (evx_st (Q:=fun _ _=>False) GX hN h1 hd hx pins s I) fun v s1 ⟨_,_,_,_,q⟩=>q.elim)))
      · cases h
    · cases h
end
end L2
namespace L2
open PySem PySem.Spec PyProof.Rows PySem.SeqAt
open DE hiding st
structure FunAt (K:PySem.W.Frag) (mg:Str->Option Value) (f:Str) (fd:Fd):Prop where
 ex:∃ (t:Stmt) (a:Addr) (g:FuncData),mg f=some (.ref a)/\Fun K f f t a g/\Binds K g fd.ps []/\fd.body=defBody t/\fd.sc=defScope t
 fs:FnScope fd.N fd.ps fd.sc
 nd:(f==("__debug__":Str))=false
structure Text (K:PySem.W.Frag) (mg:Str->Option Value) (P:Pg):Prop where
 cst:∀ x d,P.cst.lookup x=some d->∃ v u,(∀ H,Rep K H d v)/\mg x=some u/\RelV v u
 blt:∀ x b,P.blt.lookup x=some b->mg x=none/\x=Str.ofString b
 fns:∀ f fd,P.defs.lookup f=some fd->FunAt K mg f fd
 exs:XText K mg P.exs P.top
theorem lookup_has{α:Type}:∀ {l:List (Str×α)} {x:Str},(l.map (·.1)).contains x=true->∃ a,l.lookup x=some a
  | [],x,h=>by simp at h
  | (y, a) :: r, x, h => by
    rw[List.lookup_cons]
    cases hb:x==y with
    | true=>exact⟨a,rfl⟩
    | false =>
      refine lookup_has ?_
      rw[List.map_cons,List.contains_cons,hb,Bool.false_or] at h
      exact h
theorem start_rep{K:PySem.W.Frag}{H:Hp}{fd:Fd}{ds:List D}{vs:List V}(S:FnScope fd.N fd.ps fd.sc)(hl:ds.length=fd.ps.length)(r:RepL K H ds vs) :
  fd.N=(startR fd ds).map (·.1)/\(start fd.N vs).length=(startR fd ds).length/\∀ (i:Nat) (x:Str) (s:Sl),(startR fd ds)[i]?=some (x,s)->(s=.no\/∃ d v,s=.sh d/\(start fd.N vs)[i]?=some (some v)/\Rep K H d v):=by
 have lv:=r.length
 have lz:(fd.ps.zip (ds.map Sl.sh)).length=fd.ps.length:=by rw[List.length_zip,List.length_map];omega
 have hpl:fd.ps.length<=fd.N.length:=by have:=congrArg List.length S.pre;rw[List.length_take] at this;omega
 refine⟨?_,?_,fun i x s e=>?_⟩
 ·unfold startR
  rw[List.map_append,List.map_map,List.map_fst_zip (by rw[List.length_map];omega)]
  have:(fd.N.drop fd.ps.length).map ((fun p:Str×Sl=>p.1)∘fun x=>(x,Sl.no))=fd.N.drop fd.ps.length:=by
   rw[show((fun p:Str×Sl=>p.1)∘fun x=>(x,Sl.no))=id from rfl,List.map_id]
  rw[this]
  conv=>lhs;rw[<- List.take_append_drop fd.ps.length fd.N,S.pre]
 ·unfold start startR
  rw[List.length_append,List.length_append,lz]
  simp
  omega
 ·unfold startR at e
  by_cases hi:i<fd.ps.length
  ·rw[List.getElem?_append_left (by rw[lz];exact hi),List.getElem?_zip_eq_some] at e
   obtain⟨_,e2⟩:=e
   rw[List.getElem?_map] at e2
   obtain⟨d,e3,rfl⟩:=Option.map_eq_some_iff.mp e2
   obtain⟨v,g1,g2⟩:=r.get e3
   refine .inr ⟨d,v,rfl,?_,g2⟩
   unfold start
   rw[List.getElem?_append_left (by rw[List.length_map];omega),List.getElem?_map,g1]
   rfl
  ·rw[List.getElem?_append_right (by rw[lz];omega),List.getElem?_map] at e
   obtain⟨y,_,e3⟩:=Option.map_eq_some_iff.mp e
   cases e3
   exact .inl rfl
section
variable {P:Program} {w:World} {K:PySem.W.Frag} {mg:Str->Option Value} {base:Heap} {T:Pg} {F:Nat}
abbrev vR(c:Str->List D->Option Rs):Str->List D->Option D:=fun f ds=>Rs.val? (c f ds)
abbrev xR(c:Str->List D->Option Rs):Str->List D->Option Str:=fun f ds=>Rs.exc? (c f ds)
theorem val_some{o:Option Rs}{d:D}(h:Rs.val? o=some d):o=some (.val d):=by
 unfold Rs.val? at h
 split at h
 ·cases h;rfl
 ·cases h
theorem exc_some{o:Option Rs}{c:Str}(h:Rs.exc? o=some c):o=some (.exc c):=by
 unfold Rs.exc? at h
 split at h
 ·cases h;rfl
 ·cases h
theorem call_par{k:Nat}{f:Str}{fd:Fd}(hf:T.defs.lookup f=some fd):∀ ds r,callR T F k f ds=some r->ds.length=fd.ps.length:=by
  intro ds d h
  cases k with
  | zero=>simp[callR_0] at h
  | succ k =>
    simp only[callR_s,hf] at h
    split at h
    · rename_i hl;simpa using hl
    · cases h
theorem Fun.okX{x qual:Str}{st:Stmt}{f:Addr}{fd:FuncData}{N ps:List Str}{k:Nat}{sp:Sp}(F:Fun K x qual st f fd)(S:FnScope N ps (defScope st))(len:∀ vs H Q E,sp vs H Q E->vs.length=ps.length)
    (hbody:∀ (cdv:Value) (A:Around) (outer:List Env) (s:Shared) (H:Hp) (vs:List V) (Q:VK) (E:XK),Room k (A.deeper (envOfC qual (defScope st) s.heap.objs.size f cdv))->sp vs H Q E ->
      ∃ t,PSs (cxOf (CX1 P w) P w K mg base N qual (defScope st) f cdv A outer s H E) (defBody st) t/\t { nx:=fun _ H'=>Q .non H',rt:=Q } (start N vs) H):FnOk P w K mg base (CX1 P w) (k+1) f fd ps sp:=by
  obtain⟨oc,od,kV,doc,pm,an,cdv,ct,osl,rfl,lk,hcd⟩:=F.ex
  exact fn_of lk hcd S len fun A outer s H vs Q E hr hsp=>hbody cdv A outer s H vs Q E hr hsp
theorem all_ok(X:Text K mg T):∀ (k:Nat) (f:Str) (fd:Fd) (t:Stmt) (a:Addr) (g:FuncData),T.defs.lookup f=some fd->Fun K f f t a g->fd.body=defBody t->fd.sc=defScope t->FnScope fd.N fd.ps fd.sc->FnOk P w K mg base (CX1 P w) k a g fd.ps (spX K (vR (callR T F k)) (xR (callR T F k)) f fd.ps)
  | 0, f, fd, t, a, g, hf, Fn, hb, hs, S => by
    refine⟨fun vs H Q E h=>h.1,fun A outer s H args us vs Q E _ _ _ _ h=>?_⟩
    obtain⟨_,Hs,ds,_,_,⟨d,hc,_⟩ | ⟨c,hc,_⟩⟩:=h
    · have:=val_some hc;simp[callR_0] at this
    · have:=exc_some hc;simp[callR_0] at this
  | k + 1, f, fd, t, a, g, hf, Fn, hb, hs, S => by
    refine Fun.okX (N:=fd.N) Fn (by rw[<- hs];exact S) (fun vs H Q E h=>h.1) fun cdv A outer s H vs Q E hr h=>?_
    obtain⟨hlv,Hs,ds,hsm,rl,hcase⟩:=h
    have hld:ds.length=fd.ps.length:=by
      rcases hcase with⟨d,hc,_⟩ | ⟨c,hc,_⟩
      · exact call_par hf ds _ (val_some hc)
      · exact call_par hf ds _ (exc_some hc)
    have unf:callR T F (k+1) f ds=bodyR (T.cx (callR T F k)) F fd.sc fd.body (startR fd ds):=by
      simp only[callR_s,hf]
      rw[if_pos (by simpa using hld)]
    obtain⟨s1,s2,s3⟩:=start_rep S hld rl
    refine⟨ssSem _ (defBody t),pss_sem,?_⟩
    have G:GoodS (T.cx (callR T F k)) k (cxOf (CX1 P w) P w K mg base fd.N f (defScope t) a cdv A outer s H E).nox fd.sc :=
      { good := { calm := rfl, room := hr, sce := hs.symm, kind := S.kind, nd := S.nd, cst := X.cst, blt := X.blt, exs := X.exs
                  fns:=fun f' hf'=>by
                    obtain⟨fd',hl'⟩:=lookup_has (l:=T.defs) hf'
                    have FA:=X.fns f' fd' hl'
                    obtain⟨t',a',g',m1,m2,m3,m4,m5⟩:=FA.ex
                    exact⟨FA.nd,a',g',fd'.ps,fun ds d h=>call_par hl' ds _ (val_some h),fun ds c h=>call_par hl' ds _ (exc_some h),m1,m2.kp,m3,all_ok X k f' fd' t' a' g' hl' m2 m4 m5 FA.fs⟩ }
        own:=⟨fun x hx=>⟨by
          unfold ownIn at hx
          rw[Bool.or_eq_true] at hx
          show(defScope t).names.lookup x=_\/(defScope t).names.lookup x=_
          rw[<- hs]
          exact hx.imp (fun q=>by simpa using q) (fun q=>by simpa using q),.inl rfl⟩⟩
        pass:=PassesOwn.never
        stk:=⟨rfl,rfl⟩ }
    have noow:∀ (i:Nat) (x:Str) (ds':List D),(startR fd ds)[i]?=some (x,.ow ds')->False:=fun i x ds' e=>by
      rcases s3 i x _ e with q | ⟨d',v,q,q1,q2⟩
      · cases q
      · cases q
    have hd:Hd K Hs H Hs H (startR fd ds) (start fd.N vs):=by
      refine⟨.refl hsm,s2,fun i x d e=>?_,fun i x ds' e=>(noow i x ds' e).elim,fun i j x y ds' es a' _ e=>(noow i x ds' e).elim,fun i x dss e=>by
        rcases s3 i x _ e with q | ⟨d',v,q,q1,q2⟩
        · cases q
        · cases q⟩
      rcases s3 i x _ e with q | ⟨d',v,q,q1,q2⟩
      · cases q
      · cases q
        exact⟨v,q1,q2⟩
    rcases hcase with⟨d,hc,hq⟩ | ⟨c,hc,hq⟩
    · have hc':=val_some hc
      rw[unf] at hc'
      unfold bodyR at hc'
      intro pins s0 I
      have fin:∀ fl,stGo (fun ρ s=>DE.st (T.cx (callR T F k)) F F fd.sc ρ s) fd.body (startR fd ds)=some fl->(match fl with | .ret d'=>d'=d | .nxt _=>d=.non)->ssSem (cxOf (CX1 P w) P w K mg base fd.N f (defScope t) a cdv A outer s H E).nox (defBody t) { nx:=fun _ H'=>Q .non H',rt:=Q } (start fd.N vs) H:=by
        intro fl hg hfl
        rw[hb] at hg
        refine go_ok (fun ρ s fl hN h=>st_ok _ F F G hN h) (defBody t) (startR fd ds) fl s1 hg (start fd.N vs) H Hs _ hd s1 (fun ρ' σ' Hs' H' q _ _ hd'=>?_) fun d' v Hs' H' q E' r=>?_
        · subst q
          have e:d=.non:=hfl
          subst e
          exact hq .non H' Hs' hd'.ext (by simp[Rep])
        · subst q
          have e:d'=d:=hfl
          subst e
          exact hq v H' Hs' E' r
      have key:ssSem (cxOf (CX1 P w) P w K mg base fd.N f (defScope t) a cdv A outer s H E).nox (defBody t) { nx:=fun _ H'=>Q .non H',rt:=Q } (start fd.N vs) H:=by
        split at hc'
        · rename_i d' hg;cases hc';exact fin _ hg rfl
        · rename_i ρ' hg;cases hc';exact fin _ hg rfl
        · split at hc'<;>cases hc'
      exact wpAny_mono (key pins s0 (I.wish _)) (fun _ _ q=>q.unwish) fun _ _ z=>False.elim z
    · have hc':=exc_some hc
      rw[unf] at hc'
      unfold bodyR at hc'
      split at hc'
      · cases hc'
      · cases hc'
      · split at hc'
        · rename_i c' ρ' hg
          cases hc'
          rw[hb] at hg
          refine goX_ok (rs:=true) (X:=cxOf (CX1 P w) P w K mg base fd.N f (defScope t) a cdv A outer s H E) (fun ρ s fl hN h=>st_ok _ F F G hN h) (fun ρ s c ρ' hN h=>stx_ok _ F F G hN h) (defBody t) (startR fd ds) s1 hg (start fd.N vs) H Hs _ hd s1 fun σ1 Hs1 H1 _ _ hd1=>?_
          refine⟨E,fun C H2 Hs2 q E2=>hq C H2 Hs2 q (hd1.ext.trans E2),fun pins H2 s2 e s3 I2 hcx=>pass_body pins σ1 H2 s2 e s3 I2 hcx,fun _ pins H2 s2 C e h' args I2 hm hE=>raise_body I2 hm hE⟩
        · cases hc'
theorem FnOk.calm{k:Nat}{f:Addr}{fd:FuncData}{ps:List Str}{sp:Sp}(F:FnOk P w K mg base (CX1 P w) k f fd ps sp)(h:∀ vs H Q E,sp vs H Q E->sp vs H Q E0):FnOk P w K mg base CX0 k f fd ps sp :=
  ⟨F.len,fun A outer s H args us vs Q E hr he hb hv hs=>codeAny_mono (F.run A outer s H args us vs Q E0 hr he hb hv (h _ _ _ _ hs)) fun r s' q=>by
    cases r with
    | error e=>obtain⟨_,_,_,_,_,_,z⟩:=(show CX1 P w outer H s E0 e s' from q);exact z.elim
    | ok fl=>cases fl<;>exact q⟩
def spTrue(K:PySem.W.Frag):Sp:=fun vs H Q _=>∃ (a:Addr) (ns:List Int),vs=[.ref a]/\SqL K H a (ns.map V.int)/\ns.length<=63/\∀ H',Q (.bl true) H'
theorem law_ok{k:Nat}{f:Str}{fd:Fd}{t:Stmt}{a:Addr}{g:FuncData}(X:Text K mg T)(hf:T.defs.lookup f=some fd)(Fn:Fun K f f t a g)(hb:fd.body=defBody t)(hs:fd.sc=defScope t)(S:FnScope fd.N fd.ps fd.sc)(h1:fd.ps.length=1)
  (hlaw:∀ ns:List Int,ns.length<=63->callN T F k f [.lst (ns.map D.int)]=some (.bl true)):FnOk P w K mg base CX0 k a g fd.ps (spTrue K):=by
 refine FnOk.calm ((all_ok (F:=F) X k f fd t a g hf Fn hb hs S).imp fun vs H Q E h=>?_) fun _ _ _ _ h=>h
 obtain⟨p,ns,rfl,hS,hl,q⟩:=h
 refine⟨by rw[h1];rfl,H,[.lst (ns.map D.int)],.refl _,.cons ?_ .nil,.inl ⟨.bl true,by have:=hlaw ns hl;rw[callN_eq] at this;exact this,fun v H' Hs' _ r=>by rw[rep_bl r];exact q H'⟩⟩
 simp only[Rep]
 exact⟨p,ns.map V.int,rfl,hS,repL_map (fun x=>by simp[Rep]) ns⟩
end
end L2
namespace DE
open PySem
def Ls{α:Type}(m:Nat)(h:Nat->α):List α:=(List.range m).map h
theorem Ls_len{α:Type}{m:Nat}{h:Nat->α}:(Ls m h).length=m:=by simp[Ls]
theorem Ls_get{α:Type}{m i:Nat}{h:Nat->α}(hi:i<m):(Ls m h)[i]?=some (h i):=by simp[Ls,hi]
theorem Ls_congr{α:Type}{m:Nat}{h g:Nat->α}(e:∀ i,i<m->h i=g i):Ls m h=Ls m g:=by
 unfold Ls
 exact List.map_congr_left fun i hi=>e i (List.mem_range.mp hi)
theorem Ls_map{α β:Type}{m:Nat}{h:Nat->α}{f:α->β}:(Ls m h).map f=Ls m fun i=>f (h i):=by
 unfold Ls;rw[List.map_map];rfl
theorem Ls_zip{α β:Type}{m:Nat}{h:Nat->α}{g:Nat->β}:(Ls m h).zip (Ls m g)=Ls m fun i=>(h i,g i):=by
 apply List.ext_getElem?
 intro i
 by_cases hi:i<m
 ·rw[Ls_get hi,List.getElem?_zip_eq_some]
  exact⟨Ls_get hi,Ls_get hi⟩
 ·rw[List.getElem?_eq_none (by rw[List.length_zip,Ls_len,Ls_len];omega),List.getElem?_eq_none (by rw[Ls_len];omega)]
theorem Ls_snoc{α:Type}{m:Nat}{h:Nat->α}:Ls (m+1) h=Ls m h++[h m]:=by
 unfold Ls;rw[List.range_succ,List.map_append];rfl
theorem Ls_take{α:Type}{m k:Nat}{h:Nat->α}(hk:k<=m):(Ls m h).take k=Ls k h:=by
 apply List.ext_getElem?
 intro i
 rw[List.getElem?_take]
 split
 ·rw[Ls_get (by omega),Ls_get (by omega)]
 ·rw[List.getElem?_eq_none (by rw[Ls_len];omega)]
theorem Ls_drop{α:Type}{m k:Nat}{h:Nat->α}:(Ls m h).drop k=Ls (m-k) fun i=>h (k+i):=by
 apply List.ext_getElem?
 intro i
 rw[List.getElem?_drop]
 by_cases hi:k+i<m
 ·rw[Ls_get hi,Ls_get (by omega)]
 ·rw[List.getElem?_eq_none (by rw[Ls_len];omega),List.getElem?_eq_none (by rw[Ls_len];omega)]
theorem atD_Ls{m:Nat}{h:Nat->D}{j:Nat}(hj:j<m):atD (Ls m h) (j:Int)=some (h j):=by
 unfold atD ixD
 rw[Ls_len,if_pos (by omega),if_pos (by omega)]
 simp[Ls_get hj]
theorem atD_nat{l:List D}{j:Nat}{d:D}(h:l[j]?=some d):atD l (j:Int)=some d:=by
 have hj:=(List.getElem?_eq_some_iff.mp h).1
 unfold atD ixD
 rw[if_pos (by omega),if_pos (by omega)]
 simpa using h
theorem rangeD_eq{lo hi:Int}:rangeD lo hi=Ls (hi-lo).toNat fun k=>.int (lo+(k:Int)):=rfl
theorem range0_eq{n:Nat}:rangeD 0 (n:Int)=Ls n fun k=>.int (k:Int):=by
 unfold rangeD Ls
 simp
def nmOf(cx:Cxt)(sc:Scope)(ρ:Rho)(x:Str):Option D:=if plainName x then(match sc.names.lookup x with
        | some .local=>(match ρ.lookup x with | some (.sh d)=>some d | _=>none)
        | some .cell=>(match ρ.lookup x with | some (.sh d)=>some d | _=>none)
        | some .free=>(match ρ.lookup x with | some (.sh d)=>some d | _=>none)
        | some .globalImplicit=>cx.cst.lookup x
        | _=>none) else none
def cnOf(c:Const):Option D:=(match c with
        | .none=>some .non
        | .bool b=>some (.bl b)
        | .int i=>some (.int i)
        | .str x=>some (.str x)
        | _=>none)
section
variable {cx:Cxt} {n:Nat} {sc scope:Scope} {ρ:Rho} {a b c e:Expr} {es:List Expr} {p q:Pos} {x y z d:D} {ds:List D} {nm:Str} {op op':CmpOp}
theorem xName(h:nmOf cx sc ρ nm=some d):ev cx (n+1) sc ρ (.Name nm p)=some d:=h
theorem xConst{k:Const}{j:Nat}(h:cnOf k=some d):ev cx (n+1) sc ρ (.Constant k j p)=some d:=h
theorem xBin{o:Operator}(h1:ev cx n sc ρ a=some x)(h2:ev cx n sc ρ b=some y)(h:binop o x y=some d):ev cx (n+1) sc ρ (.BinOp a o b p)=some d:=by
 simp only[ev,h1,h2];exact h
theorem xNot{t:Bool}(h1:ev cx n sc ρ a=some (.bl t)):ev cx (n+1) sc ρ (.UnaryOp .Not a p)=some (.bl (!t)):=by
 simp only[ev,h1];rfl
theorem xNotT(h1:ev cx n sc ρ a=some (.bl true)):ev cx (n+1) sc ρ (.UnaryOp .Not a p)=some (.bl false):=xNot h1
theorem xNotF(h1:ev cx n sc ρ a=some (.bl false)):ev cx (n+1) sc ρ (.UnaryOp .Not a p)=some (.bl true):=xNot h1
theorem xNeg{i:Int}(h1:ev cx n sc ρ a=some (.int i)):ev cx (n+1) sc ρ (.UnaryOp .USub a p)=some (.int (-i)):=by
 simp only[ev,h1];rfl
theorem xAndT(h1:ev cx n sc ρ a=some (.bl true))(h2:boolGo .And (ev cx n sc ρ) (b::es)=some d):boolGo .And (ev cx n sc ρ) (a::b::es)=some d:=by
 simp only[boolGo,h1];exact h2
theorem xAndF(h1:ev cx n sc ρ a=some (.bl false)):boolGo .And (ev cx n sc ρ) (a::b::es)=some (.bl false):=by
 simp only[boolGo,h1];rfl
theorem xOrF(h1:ev cx n sc ρ a=some (.bl false))(h2:boolGo .Or (ev cx n sc ρ) (b::es)=some d):boolGo .Or (ev cx n sc ρ) (a::b::es)=some d:=by
 simp only[boolGo,h1];exact h2
theorem xOrT(h1:ev cx n sc ρ a=some (.bl true)):boolGo .Or (ev cx n sc ρ) (a::b::es)=some (.bl true):=by
 simp only[boolGo,h1];rfl
theorem xOne{o:BoolOp}(h1:ev cx n sc ρ a=some d):boolGo o (ev cx n sc ρ) [a]=some d:=h1
theorem xBool{o:BoolOp}(h:boolGo o (ev cx n sc ρ) es=some d):ev cx (n+1) sc ρ (.BoolOp o es p)=some d:=h
theorem xCmp(h1:ev cx n sc ρ a=some x)(h2:ev cx n sc ρ b=some y)(h:cmpop op x y=some d):ev cx (n+1) sc ρ (.Compare a [op] [b] p)=some d:=by
 simp only[ev,h1,h2];exact h
theorem xCmpT(h1:ev cx n sc ρ a=some x)(h2:ev cx n sc ρ b=some y)(h:cmpop op x y=some (.bl true))(h3:ev cx n sc ρ c=some z)(h4:cmpop op' y z=some d)(hp:plainE c=true:=by rfl):ev cx (n+1) sc ρ (.Compare a [op,op'] [b,c] p)=some d:=by
 simp only[ev,h1,h2,h3,hp]
 show((cmpop op x y).bind asB).bind _=_
 rw[h];exact h4
theorem xIfT(h1:ev cx n sc ρ c=some (.bl true))(h2:ev cx n sc ρ a=some d):ev cx (n+1) sc ρ (.IfExp c a b p)=some d:=by
 simp only[ev,h1];exact h2
theorem xIfF(h1:ev cx n sc ρ c=some (.bl false))(h2:ev cx n sc ρ b=some d):ev cx (n+1) sc ρ (.IfExp c a b p)=some d:=by
 simp only[ev,h1];exact h2
theorem xNil{f:Expr->Option D}:mapO f []=some []:=rfl
theorem xCons{f:Expr->Option D}(h1:f a=some x)(h2:mapO f es=some ds):mapO f (a::es)=some (x::ds):=by
 simp only[mapO,h1,h2];rfl
theorem xTup{j:Nat}(h1:mapO (ev cx n sc ρ) es=some ds)(hz:szl ds.length=true):ev cx (n+1) sc ρ (.Tuple es j p)=some (.tup ds):=by
 simp only[ev,h1]
 show(if szl ds.length=true then _ else _)=_
 rw[if_pos hz]
theorem xLst(h1:mapO (ev cx n sc ρ) es=some ds)(hz:szl ds.length=true):ev cx (n+1) sc ρ (.List es p)=some (.lst ds):=by
 simp only[ev,h1]
 show(if szl ds.length=true then _ else _)=_
 rw[if_pos hz]
theorem subD_ix{x:D}{i:Int}{xs:List D}(h:items x=some xs):subD x (.int i)=atD xs i:=by cases x<;>simp[items] at h<;>subst h<;>rfl
theorem xIx{i:Int}{xs:List D}(h1:ev cx n sc ρ a=some x)(h2:ev cx n sc ρ b=some (.int i))(h3:items x=some xs)(h4:atD xs i=some d)(hs:plainE b=true:=by rfl):ev cx (n+1) sc ρ (.Subscript a b p)=some d:=by
 simp only[ev,h1]
 show Option.bind _ _=_
 cases b<;>first | (simp[plainE] at hs;done) | (simp only[h2];show subD x (.int i)=some d;rw[subD_ix h3];exact h4)
theorem xTr1{j:Int}{x y:Str}{q q' p':Pos}(hg:bltOf cx sc x=some "tuple")(hy:bltOf cx sc y=some "range")(h1:ev cx n sc ρ a=some (.int j))(hz:(rng62 j&&szl j.toNat)=true):ev cx (n+1) sc ρ (.Call (.Name x q) [.Call (.Name y q') [a] [] p'] [] p)=some (.tup (rangeD 0 j)):=by
 have hw:wkOf cx sc (.Call (.Name y q') [a] [] p')=.r1 a:=by simp[wkOf,hy]
 unfold bltOf at hg
 split at hg
 ·rename_i g
  simp only[ev,g,if_true,hg,wcOf,hw]
  show((ev cx n sc ρ a).bind asI).bind (fun j=>if(rng62 j&&szl j.toNat)=true then some (D.tup (rangeD 0 j)) else none)=_
  rw[h1]
  show(if(rng62 j&&szl j.toNat)=true then some (D.tup (rangeD 0 j)) else none)=_
  rw[if_pos hz]
 ·cases hg
theorem xDict{ks:List (Option Expr)}{vs:List Expr}{l:List (Sum Int Str×D)}(h0:(ks.isEmpty||decide (15<ks.length))=false)(h:pairsO (ev cx n sc ρ) ks vs=some l)(hd:dicOf (mrgD l)=d):ev cx (n+1) sc ρ (.Dict ks vs p)=some d:=by
 subst hd
 simp only[ev,h0,Bool.false_eq_true,if_false,h,Option.map_some]
theorem pNil:pairsO (ev cx n sc ρ) [] []=some []:=rfl
theorem pCons{k v:Expr}{ks:List (Option Expr)}{vs:List Expr}{y:D}{q:Sum Int Str}{l:List (Sum Int Str×D)}(h1:ev cx n sc ρ k=some y)(h2:keyD y=some q)(h3:ev cx n sc ρ v=some d)(h4:pairsO (ev cx n sc ρ) ks vs=some l):pairsO (ev cx n sc ρ) (some k::ks) (v::vs)=some ((q,d)::l):=by
 simp only[pairsO,h1,h3,h4,Option.bind_some,h2];rfl
theorem xGet2{ks:List (Option Expr)}{vs:List Expr}{dp ap:Pos}{M:Str}{e e2:Expr}{y z:D}(hl:(ap.endLine==p.line&&M=="get"&&plainE e&&plainE e2)=true)(h1:ev cx n sc ρ (.Dict ks vs dp)=some x)(h2:ev cx n sc ρ e=some y)(h3:ev cx n sc ρ e2=some z)(h:getD2 x y z=some d):ev cx (n+1) sc ρ (.Call (.Attribute (.Dict ks vs dp) M ap) [e,e2] [] p)=some d:=by
 simp only[ev,hl,if_true]
 simp only[h1,h2,h3,bind,Option.bind_some,h]
def oI(cx:Cxt)(n:Nat)(sc:Scope)(ρ:Rho):Option Expr->Option (Option Int)
 | none=>some none
 | some e=>(ev cx n sc ρ e).bind fun d=>(asI d).map some
theorem xSl{xs:List D}{lo hi:Option Expr}{l u:Option Int}(h1:ev cx n sc ρ a=some (.tup xs))(h2:oI cx n sc ρ lo=some l)(h3:oI cx n sc ρ hi=some u)(h4:(sIxD xs.length 0 l==0&&sIxD xs.length xs.length u==xs.length)=false) :
  ev cx (n+1) sc ρ (.Subscript a (.Slice lo hi none q) p)=some (.tup (cutT xs l u)):=by
 unfold oI at h2 h3
 simp only[ev,h1,bind,Option.bind_some]
 have e:∀ (A B:Option (Option Int)),A=some l->B=some u->(A.bind fun l=>B.bind fun h=>if(sIxD xs.length 0 l==0&&sIxD xs.length xs.length h==xs.length)=true then some (D.tup xs) else some (D.tup (cutT xs l h)))=some (.tup (cutT xs l u)):=by
  intro A B ha hb
  subst ha hb
  simp only[Option.bind_some,h4,Bool.false_eq_true,if_false]
 exact e _ _ h2 h3
theorem oNone:oI cx n sc ρ none=some none:=rfl
theorem oSome{i:Int}(h:ev cx n sc ρ e=some (.int i)):oI cx n sc ρ (some e)=some (some i):=by
 simp only[oI,h];rfl
theorem xIsi{t:Expr}{T:String}(hg:bltOf cx sc nm=some "isinstance")(ht:tyOf cx sc t=some T)(hk:tyKnown T=true)(h1:ev cx n sc ρ a=some x)(h:isTy T x=c')(hxo:xOf cx sc t=none:=by rfl)(hne:isExc x=false:=by rfl):ev cx (n+1) sc ρ (.Call (.Name nm q) [a,t] [] p)=some (.bl c'):=by
 unfold bltOf at hg
 split at hg
 ·rename_i hgl
  subst h
  simp only[ev,hgl,hg,h1,ht,if_true,hxo,bind,Option.bind_some]
  cases x<;>first | (show(if tyKnown T=true then _ else _)=_;rw[if_pos hk]) | exact absurd hne (by simp[isExc])
 ·cases hg
theorem xBlt{B:String}(hg:bltOf cx sc nm=some B)(hw:wcOf cx sc B es=.al)(hn:(B=="isinstance"||es.isEmpty)=false)(h1:mapO (ev cx n sc ρ) es=some ds)(h:blt B ds=some d):ev cx (n+1) sc ρ (.Call (.Name nm q) es [] p)=some d:=by
 rw[Bool.or_eq_false_iff] at hn
 unfold bltOf at hg
 split at hg
 ·rename_i hgl
  simp only[ev,hgl,hg,if_true]
  split
  ·rename_i he;cases he;simp at hn
  ·rename_i he;cases he
   simp only[hw,hn.2,h1,Bool.false_eq_true,if_false]
   exact h
  ·rename_i he;cases he
 ·cases hg
def isFn(cx:Cxt)(sc:Scope)(nm:Str)(es:List Expr):Bool:=isGl cx sc nm&&(cx.blt.lookup nm).isNone&&cx.fns.contains nm && !es.isEmpty
theorem xCall(hf:isFn cx sc nm es=true)(h1:mapO (ev cx n sc ρ) es=some ds)(h:cx.call nm ds=some d):ev cx (n+1) sc ρ (.Call (.Name nm q) es [] p)=some d:=by
 unfold isFn at hf
 rw[Bool.and_eq_true,Bool.and_eq_true,Bool.and_eq_true] at hf
 obtain⟨⟨⟨h2,h3⟩,h4⟩,h5⟩:=hf
 have h3':cx.blt.lookup nm=none:=by simpa using h3
 simp only[ev,h2,h3',h4,h5,Bool.and_self,if_true,h1]
 exact h
theorem wR1{tup:Bool}{j:Int}(hw:wkOf cx sc e=.r1 a)(h1:ev cx n sc ρ a=some (.int j))(hz:rng62 j=true):evI cx tup (ev cx n sc ρ) sc e=some (rangeD 0 j):=by
 unfold evI
 rw[hw]
 simp only[h1,Option.bind_some,asI]
 show(if rng62 j=true then _ else _)=_
 rw[if_pos hz]
theorem wR2{tup:Bool}{i j:Int}(hw:wkOf cx sc e=.r2 a b)(h1:ev cx n sc ρ a=some (.int i))(h2:ev cx n sc ρ b=some (.int j))(hz:(rng62 i&&rng62 j)=true):evI cx tup (ev cx n sc ρ) sc e=some (rangeD i j):=by
 unfold evI
 rw[hw]
 simp only[h1,h2,Option.bind_some,asI]
 show(if(rng62 i&&rng62 j)=true then _ else _)=_
 rw[if_pos hz]
theorem wZp{xs ys:List D}(hw:wkOf cx sc e=.zp a b)(h1:ev cx n sc ρ a=some (.tup xs))(h2:ev cx n sc ρ b=some (.tup ys)):evI cx true (ev cx n sc ρ) sc e=some ((xs.zip ys).map fun q=>.tup [q.1,q.2]):=by
 unfold evI
 rw[hw]
 simp only[h1,h2,bind,Option.bind_some]
 rfl
theorem wZpTL{xs ys:List D}(hw:wkOf cx sc e=.zp a b)(h1:ev cx n sc ρ a=some (.tup xs))(h2:ev cx n sc ρ b=some (.lst ys)):evI cx true (ev cx n sc ρ) sc e=some ((xs.zip ys).map fun q=>.tup [q.1,q.2]):=by
 unfold evI
 rw[hw]
 simp only[h1,h2,bind,Option.bind_some]
 rfl
theorem wEn{xs:List D}(hw:wkOf cx sc e=.en a)(h1:ev cx n sc ρ a=some (.tup xs)):evI cx true (ev cx n sc ρ) sc e=some (enD xs):=by
 unfold evI
 rw[hw]
 simp only[h1,bind,Option.bind_some]
 rfl
theorem wSq{tup:Bool}{xs:List D}(hw:wkOf cx sc e=.sq)(h1:ev cx n sc ρ e=some x)(h2:items x=some xs):evI cx tup (ev cx n sc ρ) sc e=some xs:=by
 unfold evI
 rw[hw]
 simp only[h1,Option.bind_some]
 exact h2
theorem compGo_Ls{f:D->Option (Option D)}{h g:Nat->D}:∀ {m:Nat},(∀ i,i<m->f (h i)=some (some (g i)))->compGo f (Ls m h)=some (Ls m g):=by
  have key:∀ (l:List Nat),(∀ i∈l,f (h i)=some (some (g i)))->compGo f (l.map h)=some (l.map g):=by
    intro l
    induction l with
    | nil=>intro _;rfl
    | cons i r ih =>
      intro hi
      simp only[List.map_cons,compGo,hi i List.mem_cons_self,ih fun j hj=>hi j (List.mem_cons_of_mem _ hj)]
      rfl
  intro m hm
  exact key _ fun i hi=>hm i (List.mem_range.mp hi)
def cF(cx:Cxt)(n:Nat)(sc scope:Scope)(ρ:Rho)(tg elt:Expr)(ifs:List Expr):D->Option (Option D):=fun d=>do
 let ρ1 <- bindT scope tg d (compRho scope ρ)
 let b <- ifsGo (ev cx n (relS scope sc) ρ1) ifs
 if b then(ev cx n (relS scope sc) ρ1 elt).map some else some none
theorem cStep{tg elt:Expr}{ρ1:Rho}(h1:bindT scope tg x (compRho scope ρ)=some ρ1)(h2:ev cx n (relS scope sc) ρ1 elt=some d):cF cx n sc scope ρ tg elt [] x=some (some d):=by
 simp only[cF,h1,ifsGo]
 show Option.map some (ev cx n (relS scope sc) ρ1 elt)=_
 rw[h2];rfl
theorem cStepIf{tg elt:Expr}{ρ1:Rho}{t:Bool}(h1:bindT scope tg x (compRho scope ρ)=some ρ1)(h3:ev cx n (relS scope sc) ρ1 c=some (.bl t))(h2:ev cx n (relS scope sc) ρ1 elt=some d):cF cx n sc scope ρ tg elt [c] x=some (if t then some d else none):=by
 simp only[cF,h1,ifsGo,h3,h2,bind,Option.bind_some,asB]
 cases t<;>rfl
theorem xComp{tg elt iter:Expr}{ifs:List Expr}{l out:List D}(hok:compOk sc scope=true)(hI:evI cx (isTupE tg) (ev cx n sc ρ) sc iter=some l)(hz:szl l.length=true)(hgo:compGo (cF cx n sc scope ρ tg elt ifs) l=some out) :
  ev cx (n+1) sc ρ (.ListComp elt [⟨tg,iter,ifs,0⟩] scope p)=some (.lst out):=by
 simp only[ev,hok,hI]
 show(if szl l.length=true then(compGo (cF cx n sc scope ρ tg elt ifs) l).bind (fun out=>some (D.lst out)) else none)=some (D.lst out)
 rw[if_pos hz,hgo]
 rfl
variable {F:Nat} {f:Rho->Stmt->Option Fl} {r:List Stmt} {fl:Fl} {m:Nat}
abbrev blk(cx:Cxt)(F m:Nat)(sc:Scope):List Stmt->Rho->Option Fl:=stGo (fun ρ s=>st cx F m sc ρ s)
theorem gNilS:blk cx F m sc [] ρ=some (.nxt ρ):=rfl
def thenS(cx:Cxt)(F m:Nat)(sc:Scope)(r:List Stmt):Fl->Option Fl
 | .ret d=>some (.ret d)
 | .nxt ρ'=>blk cx F m sc r ρ'
theorem gSt{s:Stmt}{fl1:Fl}(h:st cx F m sc ρ s=some fl1)(k:thenS cx F m sc r fl1=some fl):blk cx F m sc (s::r) ρ=some fl:=by
 show(st cx F m sc ρ s).bind _=_
 rw[h]
 cases fl1<;>exact k
theorem gRet(h:ev cx F sc (frz F e ρ) e=some d):blk cx F (m+1) sc (.Return (some e) p::r) ρ=some (.ret d):=by
 refine gSt (fl1:=.ret d) ?_ rfl
 simp only[st,h];rfl
theorem gSet{px:Pos}(ho:(ownIn sc nm&&(ρ.map (·.1)).contains nm)=true)(h:ev cx F sc (frz F e ρ) e=some d)(k:blk cx F (m+1) sc r (setR (frz F e ρ) nm (slFor e d))=some fl)(hoo:(ooE cx sc e&&onlyC (frz F e ρ) nm)=false:=by rfl)(hno:(isFresh e && !noOo (frz F e ρ) nm)=false:=by rfl)(hle:lstE cx sc e=false:=by rfl):blk cx F (m+1) sc (.Assign [.Name nm px] e p::r) ρ=some fl:=by
 refine gSt (fl1:=.nxt _) ?_ k
 simp only[st,h,if_pos ho,hoo,hno,hle,Bool.false_and,Bool.false_eq_true,if_false];rfl
theorem gSetL{px:Pos}{ρ':Rho}{ds:List D}(hf:frz F e ρ=ρ')(ho:(ownIn sc nm&&(ρ.map (·.1)).contains nm)=true)(h:ev cx F sc ρ' e=some (.lst ds))(hoo:ooE cx sc e=false)(hle:(lstE cx sc e&&noOo ρ' nm)=true)(k:blk cx F (m+1) sc r (setR ρ' nm (.ow ds))=some fl):blk cx F (m+1) sc (.Assign [.Name nm px] e p::r) ρ=some fl:=by
 subst hf
 refine gSt (fl1:=.nxt _) ?_ k
 simp only[st,if_pos ho,hoo,hle,h,Bool.false_and,Bool.false_eq_true,if_false,if_true];rfl
theorem gSto1{px tp:Pos}{ρ':Rho}{ie:Expr}{ds:List D}{j:Int}{n1:Nat}(hf:frz F ie (frz F e ρ)=ρ')(ha:augOf nm e=none)(hx:ρ'.lookup nm=some (.ow ds))(ho:(ownIn sc nm&&plainName nm && !isFresh e)=true)(h:ev cx F sc ρ' e=some d)(h1:ev cx F sc ρ' ie=some (.int j))(h2:ixD ds.length j=some n1)(k:blk cx F (m+1) sc r (setR ρ' nm (.ow (ds.set n1 d)))=some fl):blk cx F (m+1) sc (.Assign [.Subscript (.Name nm px) ie tp] e p::r) ρ=some fl:=by
 subst hf
 refine gSt (fl1:=.nxt _) ?_ k
 simp only[st,ha,hx,if_pos ho,h,h1,Option.bind_some,asI,h2,bind]
theorem gTup{es:List Expr}{j:Nat}{ρ':Rho}{l:List D}(hs:(swp sc es e).isSome=true)(h:ev cx F sc (frz F e ρ) e=some d)(hl:items d=some l)(hb:bindNames sc es l (frz F e ρ)=some ρ')(k:blk cx F (m+1) sc r ρ'=some fl):blk cx F (m+1) sc (.Assign [.Tuple es j q] e p::r) ρ=some fl:=by
 refine gSt (fl1:=.nxt _) ?_ k
 simp only[st,h,hs,Bool.true_or,if_true,hl,bind,Option.bind_some,hb,Option.map_some]
theorem gTup3{es:List Expr}{j:Nat}{ρ1 ρ':Rho}{l:List D}(hf:frz F e ρ=ρ1)(hs:swp3 sc es e=true)(h:ev cx F sc ρ1 e=some d)(hl:items d=some l)(hb:bindNames sc es l ρ1=some ρ')(k:blk cx F (m+1) sc r ρ'=some fl):blk cx F (m+1) sc (.Assign [.Tuple es j q] e p::r) ρ=some fl:=by
 subst hf
 refine gSt (fl1:=.nxt _) ?_ k
 simp only[st,h,hs,Bool.or_true,if_true,hl,bind,Option.bind_some,hb,Option.map_some]
def xprOk:Expr->Bool
 | .Call (.Name ..) _ _ _=>true
 | _=>false
theorem gXpr(hx:xprOk e=true)(h:ev cx F sc (frz F e ρ) e=some d)(k:blk cx F (m+1) sc r (frz F e ρ)=some fl):blk cx F (m+1) sc (.Expr e p::r) ρ=some fl:=by
 unfold xprOk at hx
 split at hx
 ·refine gSt (fl1:=.nxt _) ?_ k
  simp only[st,h,Option.map_some]
 ·cases hx
theorem gApp{px ap cp:Pos}{M:Str}{ds:List D}(hx:(frz F e ρ).lookup nm=some (.ow ds))(ho:(ownIn sc nm&&plainName nm&&ap.endLine==cp.line)=true)(hM:(M=="append")=true)(hz:szl (ds.length+1)=true)(h:ev cx F sc (frz F e ρ) e=some d)(k:blk cx F (m+1) sc r (setR (frz F e ρ) nm (.ow (ds++[d])))=some fl) :
  blk cx F (m+1) sc (.Expr (.Call (.Attribute (.Name nm px) M ap) [e] [] cp) p::r) ρ=some fl:=by
 refine gSt (fl1:=.nxt _) ?_ k
 simp only[st,hx,ho,hM,hz,Bool.and_self,if_true,h,Option.map_some]
theorem gExt{px ap cp:Pos}{M:Str}{ds zs:List D}(hx:(frz F e ρ).lookup nm=some (.ow ds))(ho:(ownIn sc nm&&plainName nm&&ap.endLine==cp.line)=true)(hM:(M=="append")=false)(hM2:(M=="extend")=true)(hz:szl (ds.length+zs.length)=true)(h:ev cx F sc (frz F e ρ) e=some (.lst zs))(k:blk cx F (m+1) sc r (setR (frz F e ρ) nm (.ow (ds++zs)))=some fl) :
  blk cx F (m+1) sc (.Expr (.Call (.Attribute (.Name nm px) M ap) [e] [] cp) p::r) ρ=some fl:=by
 refine gSt (fl1:=.nxt _) ?_ k
 simp only[st,hx,ho,hM,hM2,Bool.false_and,Bool.false_eq_true,if_false,if_true,h,bind,Option.bind_some,hz]
theorem gIfT{A B:List Stmt}{fl1:Fl}(h:ev cx F sc (frz F c ρ) c=some (.bl true))(k:blk cx F m sc A (frz F c ρ)=some fl1)(k2:thenS cx F (m+1) sc r fl1=some fl):blk cx F (m+1) sc (.If c A B p::r) ρ=some fl:=by
 refine gSt ?_ k2
 have k':stGo (fun ρ s=>st cx F m sc ρ s) A (frz F c ρ)=some fl1:=k
 simp only[st,h,bind,Option.bind_some,asB,if_true,k']
theorem gIfF{A B:List Stmt}{fl1:Fl}(h:ev cx F sc (frz F c ρ) c=some (.bl false))(k:blk cx F m sc B (frz F c ρ)=some fl1)(k2:thenS cx F (m+1) sc r fl1=some fl):blk cx F (m+1) sc (.If c A B p::r) ρ=some fl:=by
 refine gSt ?_ k2
 have k':stGo (fun ρ s=>st cx F m sc ρ s) B (frz F c ρ)=some fl1:=k
 simp only[st,h,bind,Option.bind_some,asB,Bool.false_eq_true,if_false,k']
theorem gIfN{A:List Stmt}(h:ev cx F sc (frz F c ρ) c=some (.bl false))(k:blk cx F (m+1) sc r (frz F c ρ)=some fl):blk cx F (m+1) sc (.If c A [] p::r) ρ=some fl :=
 gIfF h gNilS k
theorem forGo_Ls{f:D->Rho->Option Fl}{h:Nat->D}{R:Nat->Rho}{N:Nat}(hs:∀ i,i<N->f (h i) (R i)=some (.nxt (R (i+1)))):forGo f (Ls N h) (R 0)=some (.nxt (R N)):=by
  have key:∀ (j i:Nat),i+j=N->forGo f ((List.range' i j).map h) (R i)=some (.nxt (R N)):=by
    intro j
    induction j with
    | zero => intro i hi; have : i = N := by omega
              subst this;rfl
    | succ j ih =>
      intro i hi
      rw[List.range'_succ,List.map_cons]
      simp only[forGo,hs i (by omega)]
      exact ih (i+1) (by omega)
  have:=key N 0 (by omega)
  rw[<- List.range_eq_range'] at this
  exact this
def fF(cx:Cxt)(F m:Nat)(sc:Scope)(tg:Expr)(body:List Stmt):D->Rho->Option Fl:=fun d ρ=>do let ρ1 <- bindT sc tg d ρ;stGo (fun ρ s=>st cx F m sc ρ s) body ρ1
theorem fStep{tg:Expr}{body:List Stmt}{ρ1:Rho}(h1:bindT sc tg d ρ=some ρ1)(h2:blk cx F m sc body ρ1=some fl):fF cx F m sc tg body d ρ=some fl:=by
 have h2':stGo (fun ρ s=>st cx F m sc ρ s) body ρ1=some fl:=h2
 simp only[fF,h1];exact h2'
theorem gFor{tg iter:Expr}{body:List Stmt}{l:List D}{fl1:Fl}(hI:evI cx (isTupE tg) (ev cx F sc (frz F iter ρ)) sc iter=some l)(hgo:forGo (fF cx F m sc tg body) l (frz F iter ρ)=some fl1)(k2:thenS cx F (m+1) sc r fl1=some fl):blk cx F (m+1) sc (.For tg iter body [] p::r) ρ=some fl:=by
 refine gSt ?_ k2
 have hgo':forGo (fun d ρ=>(bindT sc tg d ρ).bind fun ρ1=>stGo (fun ρ s=>st cx F m sc ρ s) body ρ1) l (frz F iter ρ)=some fl1:=hgo
 simp only[st,hI,bind,Option.bind_some,hgo']
abbrev cxN(P:Pg)(F k:Nat):Cxt:=⟨P.cst,P.blt,P.defs.map (·.1),P.exs,P.top,true,callN P F k,callE P F k⟩
theorem cx_eq{P:Pg}{k:Nat}:P.cx (callR P F k)=cxN P F k:=by
 have e1:callN P F k=fun f ds=>Rs.val? (callR P F k f ds):=by funext f ds;exact callN_eq
 have e2:callE P F k=fun f ds=>Rs.exc? (callR P F k f ds):=by funext f ds;exact callE_eq
 unfold cxN
 rw[e1,e2]
 rfl
theorem xrun{P:Pg}{k:Nat}{f:Str}{fd:Fd}(hf:P.defs.lookup f=some fd)(hl:(ds.length==fd.ps.length)=true)(h:blk (cxN P F k) F F fd.sc fd.body (startR fd ds)=some (.ret d)):callN P F (k+1) f ds=some d:=by
 have h':stGo (fun ρ s=>st (cxN P F k) F F fd.sc ρ s) fd.body (startR fd ds)=some (.ret d):=h
 rw[callN_eq]
 simp only[callR_s,hf,hl,if_true,bodyR,cx_eq,h',Rs.val?]
theorem xrun0{P:Pg}{k:Nat}{f:Str}{fd:Fd}{ρ':Rho}(hf:P.defs.lookup f=some fd)(hl:(ds.length==fd.ps.length)=true)(h:blk (cxN P F k) F F fd.sc fd.body (startR fd ds)=some (.nxt ρ')):callN P F (k+1) f ds=some .non:=by
 have h':stGo (fun ρ s=>st (cxN P F k) F F fd.sc ρ s) fd.body (startR fd ds)=some (.nxt ρ'):=h
 rw[callN_eq]
 simp only[callR_s,hf,hl,if_true,bodyR,cx_eq,h',Rs.val?]
end
end DE
namespace DE
open PySem
abbrev row(n:Nat)(f:Nat->Int):D:=.tup (Ls n fun j=>.int (f j))
abbrev tbl(m n:Nat)(f:Nat->Nat->Int):D:=.tup (Ls m fun i=>.tup (Ls n fun j=>.int (f i j)))
def sumN:Nat->(Nat->Int)->Int
 | 0,_=>0
 | n+1,f=>sumN n f+f n
theorem asIs_Ls{f:Nat->Int}:∀ {n:Nat},asIs (Ls n fun i=>D.int (f i))=some (Ls n f):=by
 have key:∀ l:List Nat,asIs (l.map fun i=>D.int (f i))=some (l.map f):=by
  intro l
  induction l with
  | nil=>rfl
  | cons a r ih=>simp only[List.map_cons,asIs,ih];rfl
 intro n
 exact key _
theorem asBs_Ls{f:Nat->Bool}:∀ {n:Nat},asBs (Ls n fun i=>D.bl (f i))=some (Ls n f):=by
 have key:∀ l:List Nat,asBs (l.map fun i=>D.bl (f i))=some (l.map f):=by
  intro l
  induction l with
  | nil=>rfl
  | cons a r ih=>simp only[List.map_cons,asBs,ih];rfl
 intro n
 exact key _
theorem sum_Ls{f:Nat->Int}:∀ {n:Nat},(Ls n f).sum=sumN n f
 | 0=>rfl
 | n+1=>by rw[Ls_snoc,List.sum_append,sum_Ls];simp[sumN]
theorem bLen{n:Nat}{h:Nat->D}:blt "len" [.tup (Ls n h)]=some (.int (n:Int)):=by
 show some (D.int ((Ls n h).length:Int))=_
 rw[Ls_len]
theorem bSum{n:Nat}{f:Nat->Int}:blt "sum" [.lst (Ls n fun i=>.int (f i))]=some (.int (sumN n f)):=by
 show(asIs (Ls n fun i=>D.int (f i))).bind (fun is=>some (D.int is.sum))=_
 rw[asIs_Ls,Option.bind_some,sum_Ls]
theorem bAll{n:Nat}{f:Nat->Bool}(h:∀ i,i<n->f i=true):blt "all" [.lst (Ls n fun i=>.bl (f i))]=some (.bl true):=by
 show(asBs (Ls n fun i=>D.bl (f i))).bind (fun bs=>some (D.bl (bs.all id)))=_
 rw[asBs_Ls,Option.bind_some]
 have:(Ls n f).all id=true:=by
  rw[List.all_eq_true]
  intro b hb
  unfold Ls at hb
  obtain⟨i,hi,rfl⟩:=List.mem_map.mp hb
  exact h i (List.mem_range.mp hi)
 rw[this]
theorem bTup{l:List D}:blt "tuple" [.lst l]=some (.tup l):=rfl
theorem szlN{n:Nat}(h:n<=100000):szl n=true:=by unfold szl;exact decide_eq_true h
theorem szlLs{α:Type}{n:Nat}{h:Nat->α}(hn:n<=100000):szl (Ls n h).length=true:=by rw[Ls_len];exact szlN hn
theorem rngN{n:Nat}(h:n<=100000):rng62 (n:Int)=true:=by
 unfold rng62
 rw[decide_eq_true (by omega),decide_eq_true (by omega)];rfl
theorem oLe{i j:Int}(h:i<=j):cmpop .LtE (.int i) (.int j)=some (.bl true):=by
 show some (D.bl (decide (i<=j)))=_
 rw[decide_eq_true h]
theorem oLt{i j:Int}(h:i<j):cmpop .Lt (.int i) (.int j)=some (.bl true):=by
 show some (D.bl (decide (i<j)))=_
 rw[decide_eq_true h]
theorem oLtF{i j:Int}(h:¬ i<j):cmpop .Lt (.int i) (.int j)=some (.bl false):=by
 show some (D.bl (decide (i<j)))=_
 rw[decide_eq_false h]
theorem oEqI{i j:Int}(h:i=j):cmpop .Eq (.int i) (.int j)=some (.bl true):=by
 subst h
 show some (D.bl (i==i))=_
 rw[beq_self_eq_true]
theorem oEqF{i j:Int}(h:i≠j):cmpop .Eq (.int i) (.int j)=some (.bl false):=by
 show some (D.bl (i==j))=_
 rw[beq_eq_false_iff_ne.mpr h]
theorem oNeI{i j:Int}(h:i=j):cmpop .NotEq (.int i) (.int j)=some (.bl false):=by
 subst h
 show some (D.bl (!(i==i)))=_
 rw[beq_self_eq_true];rfl
theorem bMul{i j:Int}(h:small i=true\/small j=true):binop .Mult (.int i) (.int j)=some (.int (i*j)):=by
 show(if(small i||small j||(mid i&&mid j))=true then _ else _)=_
 rw[if_pos (by rw[Bool.or_eq_true,Bool.or_eq_true];exact .inl h)]
theorem bMod{i j:Int}(h:0<j):binop .Mod (.int i) (.int j)=some (.int (i%j)):=by
 show(if decide (0<j)=true then _ else _)=_
 rw[if_pos (decide_eq_true h)]
theorem bDiv{i j:Int}(h:0<j)(h':j<1073741824):binop .FloorDiv (.int i) (.int j)=some (.int (i / j)):=by
 show(if(decide (0<j)&&decide (j<1073741824))=true then _ else _)=_
 rw[if_pos (by rw[decide_eq_true h,decide_eq_true h'];rfl)]
mutual
theorem dq_refl:∀ d:D,dep d<1000->deq d d=true
 | .non,_=>rfl
 | .bl b,_=>by simp[deq]
 | .int i,_=>by simp[deq]
 | .str x,_=>by simp[deq]
 | .tup xs,h=>by simp only[deq];exact dqs_refl xs (by simp only[dep] at h;omega)
 | .lst xs,h=>by simp only[deq];exact dqs_refl xs (by simp only[dep] at h;omega)
 | .exc c,h=>absurd h (by simp[dep])
 | .dic _ _,h=>absurd h (by simp[dep])
theorem dqs_refl:∀ ds:List D,deps ds<1000->deqs ds ds=true
  | [],_=>rfl
  | d :: ds, h => by
    simp only[deps] at h
    simp only[deqs,dq_refl d (by omega),dqs_refl ds (by omega),Bool.and_self]
end
theorem oEq{x y:D}(h1:dep x<=50)(h2:dep y<=50):cmpop .Eq x y=some (.bl (deq x y)):=by
 show(if(decide (dep x<=50)&&decide (dep y<=50))=true then some (D.bl (deq x y)) else none)=_
 rw[decide_eq_true h1,decide_eq_true h2];rfl
theorem oNe{x y:D}(h1:dep x<=50)(h2:dep y<=50):cmpop .NotEq x y=some (.bl (!deq x y)):=by
 show(if(decide (dep x<=50)&&decide (dep y<=50))=true then some (D.bl (!deq x y)) else none)=_
 rw[decide_eq_true h1,decide_eq_true h2];rfl
theorem deps_le{b:Nat}:∀ {l:List D},(∀ d∈l,dep d<=b)->deps l<=b
  | [],_=>Nat.zero_le _
  | d :: r, h => by
    simp only[deps]
    exact Nat.max_le.mpr ⟨h d List.mem_cons_self,deps_le fun e he=>h e (List.mem_cons_of_mem _ he)⟩
theorem dep_row{n:Nat}{f:Nat->Int}:dep (row n f)<=1:=by
 simp only[dep]
 have:=deps_le (b:=0) (l:=Ls n fun j=>D.int (f j)) fun d hd=>by
  unfold Ls at hd
  obtain⟨i,_,rfl⟩:=List.mem_map.mp hd
  simp[dep]
 omega
theorem dep_tbl{m n:Nat}{f:Nat->Nat->Int}:dep (tbl m n f)<=2:=by
 simp only[dep]
 have:=deps_le (b:=1) (l:=Ls m fun i=>D.tup (Ls n fun j=>D.int (f i j))) fun d hd=>by
  unfold Ls at hd
  obtain⟨i,_,rfl⟩:=List.mem_map.mp hd
  exact dep_row (f:=f i)
 omega
theorem oNeT{m n:Nat}{f g:Nat->Nat->Int}(h:∀ i j,i<m->j<n->f i j=g i j):cmpop .NotEq (tbl m n f) (tbl m n g)=some (.bl false):=by
 have e:tbl m n f=tbl m n g:=by
  show D.tup _=D.tup _
  congr 1
  refine Ls_congr fun i hi=>?_
  congr 1
  refine Ls_congr fun j hj=>?_
  rw[h i j hi hj]
 rw[e]
 rw[oNe (Nat.le_trans dep_tbl (by decide)) (Nat.le_trans dep_tbl (by decide)),dq_refl _ (Nat.lt_of_le_of_lt dep_tbl (by decide))];rfl
theorem oEqT{m n:Nat}{f g:Nat->Nat->Int}(h:∀ i j,i<m->j<n->f i j=g i j):cmpop .Eq (tbl m n f) (tbl m n g)=some (.bl true):=by
 have e:tbl m n f=tbl m n g:=by
  show D.tup _=D.tup _
  congr 1
  refine Ls_congr fun i hi=>?_
  congr 1
  refine Ls_congr fun j hj=>?_
  rw[h i j hi hj]
 rw[e]
 rw[oEq (Nat.le_trans dep_tbl (by decide)) (Nat.le_trans dep_tbl (by decide)),dq_refl _ (Nat.lt_of_le_of_lt dep_tbl (by decide))]
section
variable {cx:Cxt} {n:Nat} {sc scope:Scope} {ρ:Rho} {a b c e:Expr} {es:List Expr} {p q:Pos} {x y z d:D} {ds:List D} {nm:Str}
theorem wR1n{tup:Bool}{j:Nat}(hw:wkOf cx sc e=.r1 a)(h1:ev cx n sc ρ a=some (.int (j:Int)))(hz:j<=100000):evI cx tup (ev cx n sc ρ) sc e=some (Ls j fun k=>.int (k:Int)):=by
 rw[wR1 hw h1 (rngN hz),range0_eq]
theorem wZpL{m:Nat}{h g:Nat->D}(hw:wkOf cx sc e=.zp a b)(h1:ev cx n sc ρ a=some (.tup (Ls m h)))(h2:ev cx n sc ρ b=some (.tup (Ls m g))):evI cx true (ev cx n sc ρ) sc e=some (Ls m fun i=>.tup [h i,g i]):=by
 rw[wZp hw h1 h2,Ls_zip,Ls_map]
theorem wSqT{tup:Bool}{xs:List D}(hw:wkOf cx sc e=.sq)(h1:ev cx n sc ρ e=some (.tup xs)):evI cx tup (ev cx n sc ρ) sc e=some xs:=wSq hw h1 rfl
theorem xIxL{m j:Nat}{h:Nat->D}(h1:ev cx n sc ρ a=some (.tup (Ls m h)))(h2:ev cx n sc ρ b=some (.int (j:Int)))(hj:j<m)(hs:plainE b=true)(hd:h j=d):ev cx (n+1) sc ρ (.Subscript a b p)=some d:=hd▸xIx h1 h2 rfl (atD_Ls hj) hs
theorem xIx0{m:Nat}{h:Nat->D}(h1:ev cx n sc ρ a=some (.tup (Ls m h)))(h2:ev cx n sc ρ b=some (.int 0))(hj:0<m)(hs:plainE b=true)(hd:h 0=d):ev cx (n+1) sc ρ (.Subscript a b p)=some d:=hd▸xIx h1 h2 rfl (atD_Ls (j:=0) hj) hs
end
abbrev plc(q:Nat)(c:Nat->Nat):D:=.tup (Ls q fun j=>.int ((c j:Nat):Int))
theorem Ls_zipM{α β:Type}{m n:Nat}{h:Nat->α}{g:Nat->β}:(Ls m h).zip (Ls n g)=Ls (min m n) fun i=>(h i,g i):=by
 apply List.ext_getElem?
 intro i
 by_cases hi:i<min m n
 ·rw[Ls_get hi,List.getElem?_zip_eq_some]
  exact⟨Ls_get (by omega),Ls_get (by omega)⟩
 ·rw[List.getElem?_eq_none (by rw[List.length_zip,Ls_len,Ls_len];omega),List.getElem?_eq_none (by rw[Ls_len];omega)]
theorem cut_lo{m a:Nat}{h:Nat->D}(ha:a<=m):cutT (Ls m h) (some (a:Int)) none=Ls (m-a) fun i=>h (a+i):=by
 unfold cutT
 have e1:sIxD (Ls m h).length 0 (some (a:Int))=a:=by
  unfold sIxD
  rw[Ls_len]
  simp only
  rw[if_neg (by omega)]
  omega
 have e2:sIxD (Ls m h).length (Ls m h).length none=m:=Ls_len
 rw[e1,e2,Ls_drop,Ls_take (Nat.le_refl _)]
theorem cut_hi{m a:Nat}{h:Nat->D}(ha:a<=m):cutT (Ls m h) none (some (a:Int))=Ls a h:=by
 unfold cutT
 have e1:sIxD (Ls m h).length 0 none=0:=rfl
 have e2:sIxD (Ls m h).length (Ls m h).length (some (a:Int))=a:=by
  unfold sIxD
  rw[Ls_len]
  simp only
  rw[if_neg (by omega)]
  omega
 rw[e1,e2,List.drop_zero,Nat.sub_zero,Ls_take ha]
section
variable {cx:Cxt} {n:Nat} {sc scope:Scope} {ρ:Rho} {a b c e:Expr} {es:List Expr} {p q:Pos} {x y z d:D} {ds:List D} {nm:Str}
theorem wZpM{m m':Nat}{h g:Nat->D}(hw:wkOf cx sc e=.zp a b)(h1:ev cx n sc ρ a=some (.tup (Ls m h)))(h2:ev cx n sc ρ b=some (.tup (Ls m' g))):evI cx true (ev cx n sc ρ) sc e=some (Ls (min m m') fun i=>.tup [h i,g i]):=by
 rw[wZp hw h1 h2,Ls_zipM,Ls_map]
theorem xSlLo{m j:Nat}{h:Nat->D}(h1:ev cx n sc ρ a=some (.tup (Ls m h)))(h2:ev cx n sc ρ b=some (.int (j:Int)))(hj:0<j)(hm:0<m)(hjm:j<=m):ev cx (n+1) sc ρ (.Subscript a (.Slice (some b) none none q) p)=some (.tup (Ls (m-j) fun i=>h (j+i))):=by
 rw[xSl h1 (oSome h2) oNone,cut_lo hjm]
 have:(sIxD (Ls m h).length 0 (some (j:Int))==0)=false:=by
  unfold sIxD
  rw[Ls_len]
  simp only
  rw[if_neg (by omega)]
  have:min (j:Int).toNat m≠0:=by omega
  exact beq_eq_false_iff_ne.mpr this
 rw[this];rfl
end
theorem enD_Ls{m:Nat}{h:Nat->D}:enD (Ls m h)=Ls m fun i=>.tup [.int (i:Int),h i]:=by
 apply List.ext_getElem?
 intro i
 unfold enD
 rw[List.getElem?_map,List.getElem?_zipIdx]
 by_cases hi:i<m
 ·rw[Ls_get hi,Ls_get hi];simp
 ·rw[List.getElem?_eq_none (by rw[Ls_len];omega),List.getElem?_eq_none (by rw[Ls_len];omega)];rfl
theorem wEnL{cx:Cxt}{n:Nat}{sc:Scope}{ρ:Rho}{a e:Expr}{m:Nat}{h:Nat->D}(hw:wkOf cx sc e=.en a)(h1:ev cx n sc ρ a=some (.tup (Ls m h))):evI cx true (ev cx n sc ρ) sc e=some (Ls m fun i=>.tup [.int (i:Int),h i]):=by
 rw[wEn hw h1,enD_Ls]
theorem Ls_of{α β:Type}(d:α)(g:α->β)(l:List α):l.map g=Ls l.length fun i=>g (l.getD i d):=by
 apply List.ext_getElem?
 intro i
 by_cases hi:i<l.length
 ·rw[List.getElem?_map,Ls_get hi,List.getElem?_eq_getElem hi,List.getD_eq_getElem?_getD,List.getElem?_eq_getElem hi];rfl
 ·rw[List.getElem?_eq_none (by rw[List.length_map];omega),List.getElem?_eq_none (by rw[Ls_len];omega)]
theorem sumN_congr{n:Nat}{f g:Nat->Int}(h:∀ i,i<n->f i=g i):sumN n f=sumN n g:=by
 induction n with
 | zero=>rfl
 | succ n ih=>simp only[sumN];rw[ih fun i hi=>h i (by omega),h n (by omega)]
theorem sumN_mull{n:Nat}{f:Nat->Int}{c:Int}:sumN n (fun i=>c*f i)=c*sumN n f:=by
 induction n with
 | zero=>simp[sumN]
 | succ n ih=>simp only[sumN,ih,Int.mul_add]
end DE
namespace DE
open PySem
theorem oLeF{i j:Int}(h:¬ i<=j):cmpop .LtE (.int i) (.int j)=some (.bl false):=by
 show some (D.bl (decide (i<=j)))=_
 rw[decide_eq_false h]
theorem oGt{i j:Int}:cmpop .Gt (.int i) (.int j)=some (.bl (decide (j<i))):=rfl
theorem xAnd2{cx:Cxt}{n:Nat}{sc:Scope}{ρ:Rho}{a b:Expr}{p:Pos}{s t:Bool}(h1:ev cx n sc ρ a=some (.bl s))(h2:ev cx n sc ρ b=some (.bl t)):ev cx (n+1) sc ρ (.BoolOp .And [a,b] p)=some (.bl (s&&t)):=by
 cases s with
 | true=>exact xBool (xAndT h1 (xOne h2))
 | false=>exact xBool (xAndF h1)
theorem oLeB{i j:Int}:cmpop .LtE (.int i) (.int j)=some (.bl (decide (i<=j))):=rfl
section
variable {cx:Cxt} {n:Nat} {sc scope:Scope} {ρ:Rho} {a b c e:Expr} {es:List Expr} {p q:Pos} {x y z d:D} {ds:List D} {nm:Str} {F m:Nat} {r:List Stmt} {fl:Fl} {op op':CmpOp}
theorem xCmpF(h1:ev cx n sc ρ a=some x)(h2:ev cx n sc ρ b=some y)(h:cmpop op x y=some (.bl false))(hp:plainE c=true:=by rfl):ev cx (n+1) sc ρ (.Compare a [op,op'] [b,c] p)=some (.bl false):=by
 simp only[ev,hp,Bool.not_true,Bool.false_eq_true,if_false,h1,h2,bind,Option.bind_some,h,asB]
theorem gExtT{px ap cp:Pos}{M:Str}{ds zs:List D}(hx:(frz F e ρ).lookup nm=some (.ow ds))(ho:(ownIn sc nm&&plainName nm&&ap.endLine==cp.line)=true)(hM:(M=="append")=false)(hM2:(M=="extend")=true)(hz:szl (ds.length+zs.length)=true)(h:ev cx F sc (frz F e ρ) e=some (.tup zs))(k:blk cx F (m+1) sc r (setR (frz F e ρ) nm (.ow (ds++zs)))=some fl) :
  blk cx F (m+1) sc (.Expr (.Call (.Attribute (.Name nm px) M ap) [e] [] cp) p::r) ρ=some fl:=by
 refine gSt (fl1:=.nxt _) ?_ k
 simp only[st,hx,ho,hM,hM2,Bool.false_and,Bool.false_eq_true,if_false,if_true,h,bind,Option.bind_some,hz]
end
section
variable {cx:Cxt} {n:Nat} {sc scope:Scope} {ρ:Rho} {a b c e:Expr} {es:List Expr} {p q:Pos} {x y z d:D} {ds:List D} {nm:Str} {F m:Nat} {r:List Stmt} {fl:Fl}
end
section
variable {cx:Cxt} {n:Nat} {sc scope:Scope} {ρ:Rho} {a b c e:Expr} {p q:Pos}
end
theorem dep_mem{x:D}:∀ {l:List D},x∈l->dep x<=deps l
  | y :: l, h => by
    simp only[deps]
    rcases List.mem_cons.mp h with rfl | h
    · omega
    · have:=dep_mem h;omega
theorem bAddT{us vs:List D}(h:us.length+vs.length<=100000):binop .Add (.tup us) (.tup vs)=some (.tup (us++vs)):=by
 show(if szl (us.length+vs.length)=true then _ else _)=_
 rw[if_pos (szlN h)]
theorem compGo_map{f:D->Option (Option D)}{g:D->D}:∀ {l:List D},(∀ x∈l,f x=some (some (g x)))->compGo f l=some (l.map g)
  | [],_=>rfl
  | x :: l, h => by
    simp only[compGo,h x List.mem_cons_self,bind,Option.bind_some,compGo_map (l:=l) fun y hy=>h y (List.mem_cons_of_mem _ hy),Option.map_some,List.map_cons]
theorem bAllM{l:List D}{t:D->Bool}:blt "all" [.lst (l.map fun x=>.bl (t x))]=some (.bl (l.all t)):=by
 have key:∀ l:List D,asBs (l.map fun x=>.bl (t x))=some (l.map t):=by
  intro l
  induction l with
  | nil=>rfl
  | cons a r ih=>simp only[List.map_cons,asBs,ih];rfl
 show(asBs (l.map fun x=>.bl (t x))).bind (fun bs=>some (D.bl (bs.all id)))=_
 rw[key,Option.bind_some,List.all_map];rfl
theorem forGo_pre{f:D->Rho->Option Fl}{R:List D->Rho}{whole:List D}(h:∀ pre x post,pre++x::post=whole->f x (R pre)=some (.nxt (R (pre++[x])))):∀ {l pre:List D},pre++l=whole->forGo f l (R pre)=some (.nxt (R whole))
  | [],pre,e=>by rw[List.append_nil] at e;rw[e];rfl
  | x :: l, pre, e => by
    simp only[forGo,h pre x l e]
    exact forGo_pre h (l:=l) (pre:=pre++[x]) (by rw[List.append_assoc];exact e)
def lastS:List D->Sl
 | []=>.no
 | x::r=>.sh (r.getLastD x)
theorem lastS_snoc:∀ (l:List D) (x:D),lastS (l++[x])=.sh x
  | [],x=>rfl
  | y :: l, x => by
    show Sl.sh ((l++[x]).getLastD y)=_
    simp
theorem notX{x:D}(h:dep x<1000):isExc x=false:=by cases x<;>first | rfl | exact absurd h (by simp[dep])
def nOw:Sl->Bool
 | .ow _=>false
 | .oo _=>false
 | _=>true
def calmR(ρ:Rho):Bool:=ρ.all fun p=>nOw p.2
theorem frz_id{F:Nat}{e:Expr}{ρ:Rho}(h:calmR ρ=true):frz F e ρ=ρ:=by
 unfold frz
 conv=>rhs;rw[<- List.map_id ρ]
 apply List.map_congr_left
 intro p hp
 have:=List.all_eq_true.mp h p hp
 obtain⟨x,s⟩:=p
 cases s<;>first | rfl | simp[nOw] at this
theorem calm_noOo{ρ:Rho}{x:Str}(h:calmR ρ=true):noOo ρ x=true:=by
 unfold noOo
 rw[List.all_eq_true]
 intro p hp
 have:=List.all_eq_true.mp h p hp
 obtain⟨y,s⟩:=p
 cases s<;>first | (simp[nOw] at this;done) | simp[isOo]
section
variable {cx:Cxt} {sc:Scope} {ρ:Rho} {c e:Expr} {p:Pos} {d:D} {nm:Str} {F m:Nat} {r:List Stmt} {fl:Fl}
theorem cSet{px:Pos}(hc:calmR ρ=true)(ho:(ownIn sc nm&&(ρ.map (·.1)).contains nm)=true)(h:ev cx F sc ρ e=some d)(k:blk cx F (m+1) sc r (setR ρ nm (slFor e d))=some fl)(hoo:(ooE cx sc e&&onlyC ρ nm)=false:=by rfl)(hle:lstE cx sc e=false:=by rfl):blk cx F (m+1) sc (.Assign [.Name nm px] e p::r) ρ=some fl:=by
 refine gSet ho (by rw[frz_id hc];exact h) ?_ (by rw[frz_id hc];exact hoo) (by rw[frz_id hc,calm_noOo hc];simp) hle
 rw[frz_id hc];exact k
theorem ooE_fresh(h:isFresh e=false):ooE cx sc e=false:=by
 cases e<;>first | rfl | exact absurd h (by simp[isFresh])
theorem slFor_sh'(h:isFresh e=false):slFor e d=.sh d:=by
 unfold slFor
 split
 ·rw[h];rfl
 ·rfl
theorem cSetN{px:Pos}(hc:calmR ρ=true)(ho:(ownIn sc nm&&(ρ.map (·.1)).contains nm)=true)(hfr:isFresh e=false)(h:ev cx F sc ρ e=some d)(k:blk cx F (m+1) sc r (setR ρ nm (.sh d))=some fl)(hle:lstE cx sc e=false:=by rfl):blk cx F (m+1) sc (.Assign [.Name nm px] e p::r) ρ=some fl:=cSet hc ho h (by rw[slFor_sh' hfr];exact k) (by rw[ooE_fresh hfr];rfl) hle
theorem cIfT{A B:List Stmt}{fl1:Fl}(hc:calmR ρ=true)(h:ev cx F sc ρ c=some (.bl true))(k:blk cx F m sc A ρ=some fl1)(k2:thenS cx F (m+1) sc r fl1=some fl):blk cx F (m+1) sc (.If c A B p::r) ρ=some fl:=gIfT (by rw[frz_id hc];exact h) (by rw[frz_id hc];exact k) k2
theorem cIfF{A B:List Stmt}{fl1:Fl}(hc:calmR ρ=true)(h:ev cx F sc ρ c=some (.bl false))(k:blk cx F m sc B ρ=some fl1)(k2:thenS cx F (m+1) sc r fl1=some fl):blk cx F (m+1) sc (.If c A B p::r) ρ=some fl:=gIfF (by rw[frz_id hc];exact h) (by rw[frz_id hc];exact k) k2
theorem cIfN{A:List Stmt}(hc:calmR ρ=true)(h:ev cx F sc ρ c=some (.bl false))(k:blk cx F (m+1) sc r ρ=some fl):blk cx F (m+1) sc (.If c A [] p::r) ρ=some fl:=cIfF hc h gNilS k
theorem cRet(hc:calmR ρ=true)(h:ev cx F sc ρ e=some d):blk cx F (m+1) sc (.Return (some e) p::r) ρ=some (.ret d):=gRet (by rw[frz_id hc];exact h)
end
end DE
namespace DE
open PySem
theorem oNeD{d:D}(h:dep d<=50):cmpop .NotEq d d=some (.bl false):=by
 rw[oNe h h,dq_refl d (by omega)];rfl
def upd(f:Nat->Nat->Int)(a b:Nat)(v:Int):Nat->Nat->Int:=fun i j=>if i=a then(if j=b then v else f i j) else f i j
theorem cTup{cx:Cxt}{sc:Scope}{ρ ρ':Rho}{e:Expr}{p q:Pos}{d:D}{F m j:Nat}{r:List Stmt}{fl:Fl}{es:List Expr}{l:List D}(hc:calmR ρ=true)(hs:(swp sc es e).isSome=true)(h:ev cx F sc ρ e=some d)(hl:items d=some l)(hb:bindNames sc es l ρ=some ρ')(k:blk cx F (m+1) sc r ρ'=some fl):blk cx F (m+1) sc (.Assign [.Tuple es j q] e p::r) ρ=some fl:=gTup hs (by rw[frz_id hc];exact h) hl (by rw[frz_id hc];exact hb) k
end DE
namespace DE
open PySem
end DE
namespace DE
open PySem
end DE
namespace DE
open PySem
section
variable {cx:Cxt} {sc:Scope} {ρ ρ' ρ2:Rho} {e:Expr} {p:Pos} {d:D} {nm:Str} {F m:Nat} {r:List Stmt} {fl:Fl} {ds:List D}
theorem calm_c{y:Str}{s:Sl}(h:nOw s=true)(r:calmR ρ=true):calmR ((y,s)::ρ)=true:=by
 unfold calmR at r ⊢
 rw[List.all_cons,h,r];rfl
theorem gForN{tg iter:Expr}{body:List Stmt}{l:List D}(hf:frz F iter ρ=ρ')(hI:evI cx (isTupE tg) (ev cx F sc ρ') sc iter=some l)(hgo:forGo (fF cx F m sc tg body) l ρ'=some (.nxt ρ2))(k2:blk cx F (m+1) sc r ρ2=some fl):blk cx F (m+1) sc (.For tg iter body [] p::r) ρ=some fl:=by
 subst hf
 exact gFor hI hgo k2
theorem gRetE(hf:frz F e ρ=ρ')(h:ev cx F sc ρ' e=some d):blk cx F (m+1) sc (.Return (some e) p::r) ρ=some (.ret d):=gRet (by rw[hf];exact h)
end
end DE
namespace M15
open PySem L2 DE
def top(i:Nat):Stmt:=PySem.Challenge.pw_minortables_k15_whole_joined_minors.main.body.getD i (.Pass ⟨0,0,0,0⟩)
def mkFd(t:Stmt):Fd:=⟨(defArgs t).args.map (·.arg),(defArgs t).args.map (·.arg)++(((defScope t).names.filter fun p=>(p.2==.local||p.2==.cell) && !((defArgs t).args.map (·.arg)).contains p.1).map (·.1)),defScope t,defBody t⟩
def cs:List (Str×D):=[("MOST_LINES",.int 4)]
def bl:List (Str×String):=[("len","len"),("all","all"),("sum","sum"),("tuple","tuple"),("list","list"),("min","min"),("max","max"),("int","int"),("bool","bool"),("isinstance","isinstance"),("range","range"),("zip","zip"),("enumerate","enumerate")]
def df:List (Str×Fd):=[(("is_whole":Str),mkFd (top 7)),(("is_whole_within":Str),mkFd (top 8)),(("is_short_tuple":Str),mkFd (top 9)),(("has_lines":Str),mkFd (top 10)),(("numbers_of":Str),mkFd (top 11)),(("has_table_form":Str),mkFd (top 12)),(("is_square":Str),mkFd (top 13)),(("is_place":Str),mkFd (top 14)),(("are_rising_places":Str),mkFd (top 15)),(("need_table":Str),mkFd (top 16)),(("need_square":Str),mkFd (top 17)),(("need_place":Str),mkFd (top 18)),(("need_places":Str),mkFd (top 19)),(("need_size":Str),mkFd (top 20)),(("column_of":Str),mkFd (top 22)),(("columns_of":Str),mkFd (top 23)),(("turned":Str),mkFd (top 24)),(("picked":Str),mkFd (top 25)),(("part_at":Str),mkFd (top 26)),(("part":Str),mkFd (top 27)),(("row_plus":Str),mkFd (top 28)),(("set_below":Str),mkFd (top 30)),(("set_beside":Str),mkFd (top 31)),(("set_aslant":Str),mkFd (top 32)),(("need_two_rows":Str),mkFd (top 33)),(("rows_exchanged":Str),mkFd (top 34)),(("row_added":Str),mkFd (top 35)),(("without":Str),mkFd (top 37)),(("worth_of":Str),mkFd (top 38)),(("rest_worth":Str),mkFd (top 39)),(("signed_rest":Str),mkFd (top 40)),(("row_with_rests":Str),mkFd (top 41)),(("with_behind":Str),mkFd (top 42)),(("rising_tuples":Str),mkFd (top 43)),(("greatest_size":Str),mkFd (top 44)),(("minors_of_rows":Str),mkFd (top 45)),(("minors_of_size":Str),mkFd (top 46)),(("minors_in":Str),mkFd (top 47)),(("all_minors":Str),mkFd (top 48)),(("whole_minor":Str),mkFd (top 49)),(("rank":Str),mkFd (top 50)),(("_law_cell":Str),mkFd (top 52)),(("_law_pick":Str),mkFd (top 53)),(("_law_table":Str),mkFd (top 54)),(("_law_worth":Str),mkFd (top 55)),(("_law_big":Str),mkFd (top 56)),(("_law_rows":Str),mkFd (top 57)),(("law":Str),mkFd (top 58))]
def xs:List Str:=["NoTable","NoFit","NoPlace"]
def T:Pg:=⟨cs,bl,df,xs,"MinorError"⟩
def BnO(nm:Str)(t:Stmt):Prop:=∀ (kV doc pm:Value) (an:Option Addr) (cdv ct:Value) (us:List Value),us.length=(mkFd t).ps.length->bindArgs (PySem.W.fnOf nm nm (defArgs t) (defBody t) (defScope t) .none kV doc pm an cdv ct) ⟨us,[]⟩=pure ((mkFd t).ps.zip us)
def fsB(fd:Fd):Bool:=decide (fd.sc.kind=.function) && !fd.sc.isCoroutine && !fd.sc.isGenerator&&decide fd.N.Nodup&&decide (fd.N.take fd.ps.length=fd.ps)&&fd.ps.all (fun x=>decide (fd.sc.names.lookup x=some .local)||decide (fd.sc.names.lookup x=some .cell))&&fd.sc.names.all fun y=>decide (y.2≠.free)
theorem fs_of{fd:Fd}(h:fsB fd=true):FnScope fd.N fd.ps fd.sc:=by
 unfold fsB at h
 simp only[Bool.and_eq_true,decide_eq_true_eq,Bool.not_eq_true',List.all_eq_true,Bool.or_eq_true] at h
 obtain⟨⟨⟨⟨⟨⟨h1,h2⟩,h3⟩,h4⟩,h5⟩,h6⟩,h7⟩:=h
 exact⟨h1,h2,h3,h4,h5,h6,h7⟩
theorem fun_at{K:PySem.W.Frag}{h:Heap}{mg:Str->Option Value}{nm:Str}{t:Stmt}(X:K.In h)(G:h.Ns mainGlobals mg)(f:Addr)(dc pm cd:Value)(hb:BnO nm t)(a:PySem.W.nsIn K mainGlobals nm=some (some (.ref f)))
  (l:K.lookup f=some ⟨.type "function",none,.func (PySem.W.fnOf nm nm (defArgs t) (defBody t) (defScope t) .none .none dc pm none cd .none),#[]⟩) (c:(PySem.W.codeIn K cd nm&&PySem.W.keepIn K (.ref f)&&fsB (mkFd t) && !(nm==("__debug__":Str)))=true):FunAt K mg nm (mkFd t):=by
 simp only[Bool.and_eq_true,Bool.not_eq_true'] at c
 obtain⟨⟨⟨c,k⟩,hs⟩,hd⟩:=c
 exact⟨⟨t,f,_,PySem.W.mg_of X G a,fun_mk l c k,(fun_mk l c k).binds hb,rfl,rfl⟩,fs_of hs,hd⟩
theorem len1{us:List Value}(h:us.length=1):∃ a,us=[a]:=List.length_eq_one_iff.mp h
theorem len2{us:List Value}(h:us.length=2):∃ a b,us=[a,b]:=by cases us with | nil=>cases h | cons a r=>obtain⟨b,e⟩:=len1 (us:=r) (Nat.succ.inj h);exact⟨a,b,congrArg (List.cons a) e⟩
theorem len3{us:List Value}(h:us.length=3):∃ a b c,us=[a,b,c]:=by cases us with | nil=>cases h | cons a r=>obtain⟨b,c,e⟩:=len2 (us:=r) (Nat.succ.inj h);exact⟨a,b,c,congrArg (List.cons a) e⟩
theorem len4{us:List Value}(h:us.length=4):∃ a b c d,us=[a,b,c,d]:=by cases us with | nil=>cases h | cons a r=>obtain⟨b,c,d,e⟩:=len3 (us:=r) (Nat.succ.inj h);exact⟨a,b,c,d,congrArg (List.cons a) e⟩
theorem b7:BnO "is_whole" (top 7):=fun _ _ _ _ _ _ _ h=>by obtain⟨_,rfl⟩:=len1 h;rfl
theorem b8:BnO "is_whole_within" (top 8):=fun _ _ _ _ _ _ _ h=>by obtain⟨_,_,_,rfl⟩:=len3 h;rfl
theorem b9:BnO "is_short_tuple" (top 9):=fun _ _ _ _ _ _ _ h=>by obtain⟨_,rfl⟩:=len1 h;rfl
theorem b10:BnO "has_lines" (top 10):=fun _ _ _ _ _ _ _ h=>by obtain⟨_,rfl⟩:=len1 h;rfl
theorem b11:BnO "numbers_of" (top 11):=fun _ _ _ _ _ _ _ h=>by obtain⟨_,rfl⟩:=len1 h;rfl
theorem b12:BnO "has_table_form" (top 12):=fun _ _ _ _ _ _ _ h=>by obtain⟨_,rfl⟩:=len1 h;rfl
theorem b13:BnO "is_square" (top 13):=fun _ _ _ _ _ _ _ h=>by obtain⟨_,rfl⟩:=len1 h;rfl
theorem b14:BnO "is_place" (top 14):=fun _ _ _ _ _ _ _ h=>by obtain⟨_,_,rfl⟩:=len2 h;rfl
theorem b15:BnO "are_rising_places" (top 15):=fun _ _ _ _ _ _ _ h=>by obtain⟨_,_,rfl⟩:=len2 h;rfl
theorem b16:BnO "need_table" (top 16):=fun _ _ _ _ _ _ _ h=>by obtain⟨_,rfl⟩:=len1 h;rfl
theorem b17:BnO "need_square" (top 17):=fun _ _ _ _ _ _ _ h=>by obtain⟨_,rfl⟩:=len1 h;rfl
theorem b18:BnO "need_place" (top 18):=fun _ _ _ _ _ _ _ h=>by obtain⟨_,_,rfl⟩:=len2 h;rfl
theorem b19:BnO "need_places" (top 19):=fun _ _ _ _ _ _ _ h=>by obtain⟨_,_,rfl⟩:=len2 h;rfl
theorem b20:BnO "need_size" (top 20):=fun _ _ _ _ _ _ _ h=>by obtain⟨_,_,rfl⟩:=len2 h;rfl
theorem b22:BnO "column_of" (top 22):=fun _ _ _ _ _ _ _ h=>by obtain⟨_,_,rfl⟩:=len2 h;rfl
theorem b23:BnO "columns_of" (top 23):=fun _ _ _ _ _ _ _ h=>by obtain⟨_,rfl⟩:=len1 h;rfl
theorem b24:BnO "turned" (top 24):=fun _ _ _ _ _ _ _ h=>by obtain⟨_,rfl⟩:=len1 h;rfl
theorem b25:BnO "picked" (top 25):=fun _ _ _ _ _ _ _ h=>by obtain⟨_,_,rfl⟩:=len2 h;rfl
theorem b26:BnO "part_at" (top 26):=fun _ _ _ _ _ _ _ h=>by obtain⟨_,_,_,rfl⟩:=len3 h;rfl
theorem b27:BnO "part" (top 27):=fun _ _ _ _ _ _ _ h=>by obtain⟨_,_,_,rfl⟩:=len3 h;rfl
theorem b28:BnO "row_plus" (top 28):=fun _ _ _ _ _ _ _ h=>by obtain⟨_,_,rfl⟩:=len2 h;rfl
theorem b30:BnO "set_below" (top 30):=fun _ _ _ _ _ _ _ h=>by obtain⟨_,_,rfl⟩:=len2 h;rfl
theorem b31:BnO "set_beside" (top 31):=fun _ _ _ _ _ _ _ h=>by obtain⟨_,_,rfl⟩:=len2 h;rfl
theorem b32:BnO "set_aslant" (top 32):=fun _ _ _ _ _ _ _ h=>by obtain⟨_,_,rfl⟩:=len2 h;rfl
theorem b33:BnO "need_two_rows" (top 33):=fun _ _ _ _ _ _ _ h=>by obtain⟨_,_,_,rfl⟩:=len3 h;rfl
theorem b34:BnO "rows_exchanged" (top 34):=fun _ _ _ _ _ _ _ h=>by obtain⟨_,_,_,rfl⟩:=len3 h;rfl
theorem b35:BnO "row_added" (top 35):=fun _ _ _ _ _ _ _ h=>by obtain⟨_,_,_,_,rfl⟩:=len4 h;rfl
theorem b37:BnO "without" (top 37):=fun _ _ _ _ _ _ _ h=>by obtain⟨_,_,_,rfl⟩:=len3 h;rfl
theorem b38:BnO "worth_of" (top 38):=fun _ _ _ _ _ _ _ h=>by obtain⟨_,rfl⟩:=len1 h;rfl
theorem b39:BnO "rest_worth" (top 39):=fun _ _ _ _ _ _ _ h=>by obtain⟨_,_,_,rfl⟩:=len3 h;rfl
theorem b40:BnO "signed_rest" (top 40):=fun _ _ _ _ _ _ _ h=>by obtain⟨_,_,_,rfl⟩:=len3 h;rfl
theorem b41:BnO "row_with_rests" (top 41):=fun _ _ _ _ _ _ _ h=>by obtain⟨_,_,rfl⟩:=len2 h;rfl
theorem b42:BnO "with_behind" (top 42):=fun _ _ _ _ _ _ _ h=>by obtain⟨_,_,rfl⟩:=len2 h;rfl
theorem b43:BnO "rising_tuples" (top 43):=fun _ _ _ _ _ _ _ h=>by obtain⟨_,_,rfl⟩:=len2 h;rfl
theorem b44:BnO "greatest_size" (top 44):=fun _ _ _ _ _ _ _ h=>by obtain⟨_,rfl⟩:=len1 h;rfl
theorem b45:BnO "minors_of_rows" (top 45):=fun _ _ _ _ _ _ _ h=>by obtain⟨_,_,rfl⟩:=len2 h;rfl
theorem b46:BnO "minors_of_size" (top 46):=fun _ _ _ _ _ _ _ h=>by obtain⟨_,_,rfl⟩:=len2 h;rfl
theorem b47:BnO "minors_in" (top 47):=fun _ _ _ _ _ _ _ h=>by obtain⟨_,rfl⟩:=len1 h;rfl
theorem b48:BnO "all_minors" (top 48):=fun _ _ _ _ _ _ _ h=>by obtain⟨_,rfl⟩:=len1 h;rfl
theorem b49:BnO "whole_minor" (top 49):=fun _ _ _ _ _ _ _ h=>by obtain⟨_,rfl⟩:=len1 h;rfl
theorem b50:BnO "rank" (top 50):=fun _ _ _ _ _ _ _ h=>by obtain⟨_,rfl⟩:=len1 h;rfl
theorem b52:BnO "_law_cell" (top 52):=fun _ _ _ _ _ _ _ h=>by obtain⟨_,_,rfl⟩:=len2 h;rfl
theorem b53:BnO "_law_pick" (top 53):=fun _ _ _ _ _ _ _ h=>by obtain⟨_,_,_,rfl⟩:=len3 h;rfl
theorem b54:BnO "_law_table" (top 54):=fun _ _ _ _ _ _ _ h=>by obtain⟨_,_,_,_,rfl⟩:=len4 h;rfl
theorem b55:BnO "_law_worth" (top 55):=fun _ _ _ _ _ _ _ h=>by obtain⟨_,rfl⟩:=len1 h;rfl
theorem b56:BnO "_law_big" (top 56):=fun _ _ _ _ _ _ _ h=>by obtain⟨_,_,rfl⟩:=len2 h;rfl
theorem b57:BnO "_law_rows" (top 57):=fun _ _ _ _ _ _ _ h=>by obtain⟨_,_,rfl⟩:=len2 h;rfl
theorem b58:BnO "law" (top 58):=fun _ _ _ _ _ _ _ h=>by obtain⟨_,rfl⟩:=len1 h;rfl
theorem in_of{α:Type}{Q:Str->α->Prop}:∀ {l:List (Str×α)},(∀ p∈l,Q p.1 p.2)->∀ f fd,l.lookup f=some fd->Q f fd
  | (y, e) :: r, hp, f, fd, h => by
    rw[List.lookup_cons] at h
    cases hb:f==y with
    | true =>
      rw[hb] at h
      have e1:f=y:=by simpa using hb
      cases h
      subst e1
      exact hp _ List.mem_cons_self
    | false =>
      rw[hb] at h
      exact in_of (fun p hm=>hp p (List.mem_cons_of_mem _ hm)) f fd h
theorem aC{α:Type}{Q:α->Prop}{a:α}{l:List α}(h:Q a)(t:∀ p∈l,Q p):∀ p∈a::l,Q p:=List.forall_mem_cons.mpr ⟨h,t⟩
theorem aN{α:Type}{Q:α->Prop}:∀ p∈([]:List α),Q p:=List.forall_mem_nil _
theorem cA{K:PySem.W.Frag}{h:Heap}{mg:Str->Option Value}{x:Str}{i:Int}(X:K.In h)(G:h.Ns mainGlobals mg)(tk:Tok)(e:PySem.W.nsIn K mainGlobals x=some (some (.int i tk))):∃ v u,(∀ H,Rep K H (D.int i) v)/\mg x=some u/\RelV v u:=⟨.int i,_,fun _=>by simp[Rep],PySem.W.mg_of X G e,⟨_,rfl⟩⟩
theorem bA{K:PySem.W.Frag}{h:Heap}{mg:Str->Option Value}{x:Str}{b:String}(X:K.In h)(G:h.Ns mainGlobals mg)(e:PySem.W.nsIn K mainGlobals x=some none)(q:x=Str.ofString b):mg x=none/\x=Str.ofString b:=⟨PySem.W.mg_none_of X G e,q⟩
theorem lawIs:T.defs.lookup ("law":Str)=some (mkFd (top 58)):=by kernel_rfl
theorem fin{l:PySem.W.OpenLaw}{w:World}{K:PySem.W.Frag}{h:Heap}{mg:Str->Option Value}{fa:Addr}(hlaw:∀ ns:List Int,ns.length<=63->callN T 60 40 "law" [.lst (ns.map D.int)]=some (.bl true))(TX:Text K mg T)(X:K.In h)(G:h.Ns mainGlobals mg)(hfa:mg "law"=some (.ref fa))(f:Addr)(dc pm cd:Value)(a:PySem.W.nsIn K mainGlobals "law"=some (some (.ref f)))
  (lk:K.lookup f=some ⟨.type "function",none,.func (PySem.W.fnOf "law" "law" (defArgs (top 58)) (defBody (top 58)) (defScope (top 58)) .none .none dc pm none cd .none),#[]⟩) (c:PySem.W.codeIn K cd "law"=true) (kp:PySem.W.keepIn K (.ref f)=true) :
  ∃ fd:FuncData,(∀ (s:Shared) (v:Value),BindsTo s fd ⟨[v],[]⟩ [("_law_script",v)])/\∀ base:Heap,K.In base->base.Ns mainGlobals mg->FnOk l.prog w K mg base CX0 40 fa fd ["_law_script"] (spTrue K):=by
 have e:=hfa.symm.trans (PySem.W.mg_of X G a)
 cases e
 refine⟨_,fun s v=>.of_eq (b58 .none dc pm none cd .none [v] rfl),fun base _ _=>?_⟩
 exact law_ok (fd:=mkFd (top 58)) (t:=top 58) (f:="law") TX lawIs (fun_mk lk c kp) rfl rfl (fs_of (by decide +kernel)) rfl hlaw
theorem walk{l:PySem.W.OpenLaw}{q:Program}{loose:List Str}{XP:(Str->Option Value)->Heap->Prop}{YP:World->Heap->Prop}{d:DefRec}{K:Params->PySem.W.Frag}(hn:l.most=some 63)(hdf:d.params.defaults=[])
    (hY:∀ (w:World) (h:Heap),YP w h->(K w.params).In h)
    (F:∀ (w:World) (mg:Str->Option Value) (fa:Addr) (h:Heap),(K w.params).In h->h.Ns mainGlobals mg->mg d.name=some (.ref fa) ->
      ∃ fd:FuncData,(∀ (s:Shared) (u:Value),BindsTo s fd ⟨[u],[]⟩ [("_law_script",u)])/\∀ base:Heap,(K w.params).In base->base.Ns mainGlobals mg->FnOk l.prog w (K w.params) mg base CX0 40 fa fd ["_law_script"] (spTrue (K w.params))) :
    PySem.W.WalkO q loose XP YP l.row.toRowW d [] (fun f vs=>PySem.call f vs) :=
  L2.walk_of (n:=63) (k:=40) (x:="_law_script") (CX:=fun _=>CX0) (sp:=fun w=>spTrue (K w.params)) hn (by decide) hdf ⟨rfl,by decide,by decide⟩ hY F (fun _ _ a ns hl _ hS=>⟨a,ns,rfl,hS,hl,fun _=>rfl⟩) fun _ _ _ _ _ z=>z
end M15
local macro_rules | `(tactic| walk_at "xs") => `(tactic| first | exact DE.bLen | exact DE.bLenL | exact DE.bSum | rfl | assumption | omega)
local macro_rules | `(tactic| walk_at "xm") => `(tactic| first | exact DE.xNil | (refine' DE.xCons ?hA ?hB; (case hA => walk_at "xv"); (case hB => walk_at "xm")))
local macro_rules | `(tactic| walk_at "xi") => `(tactic| first
  | (refine' DE.wSqT ?hA ?hB; (case hA => rfl); (case hB => walk_at "xv"))
  | (refine' DE.wSq ?hA ?hB ?hC; (case hA => rfl); (case hB => walk_at "xv"); (case hC => rfl))
  | (refine' DE.wR1n ?hA ?hB ?hC; (case hA => rfl); (case hB => walk_at "xv"); (case hC => omega))
  | (refine' DE.wR2 ?hA ?hB ?hC ?hD; (case hA => rfl); (case hB => walk_at "xv"); (case hC => walk_at "xv"); (case hD => walk_at "xs"))
  | (refine' DE.wZpL ?hA ?hB ?hC; (case hA => rfl); (case hB => walk_at "xv"); (case hC => walk_at "xv"))
  | (refine' DE.wEnL ?hA ?hB; (case hA => rfl); (case hB => walk_at "xv")))
local macro_rules | `(tactic| walk_at "xl") => `(tactic| (refine' DE.xComp ?hA ?hB ?hC (DE.compGo_Ls ?hD); (case hA => rfl); (case hB => walk_at "xi"); (case hC => (exact DE.szlLs (by omega))); (case hD => (intro i hi; refine' DE.cStep ?hE ?hF; (case hE => rfl); (case hF => walk_at "xv")))))
local macro_rules | `(tactic| walk_at "xv") => `(tactic| first
  | exact DE.xName rfl
  | exact DE.xConst rfl
  | (refine' DE.xBin ?hA ?hB ?hC; (case hA => walk_at "xv"); (case hB => walk_at "xv"); (case hC => walk_at "xs"))
  | (refine' DE.xCmp ?hA ?hB ?hC; (case hA => walk_at "xv"); (case hB => walk_at "xv"); (case hC => walk_at "xs"))
  | (refine' DE.xIx0 ?hA ?hB ?hC ?hD ?hE; (case hA => walk_at "xv"); (case hB => walk_at "xv"); (case hC => omega); (case hD => rfl); (case hE => rfl))
  | (refine' DE.xIxL ?hA ?hB ?hC ?hD ?hE; (case hA => walk_at "xv"); (case hB => walk_at "xv"); (case hC => omega); (case hD => rfl); (case hE => rfl))
  | (refine' DE.xIxLl ?hA ?hB ?hC ?hD ?hE; (case hA => walk_at "xv"); (case hB => walk_at "xv"); (case hC => omega); (case hD => rfl); (case hE => rfl))
  | (refine' DE.xIsi ?hA ?hB ?hC ?hD ?hE ?hF ?hG; (case hA => rfl); (case hB => rfl); (case hC => rfl); (case hD => walk_at "xv"); (case hE => rfl); (case hF => rfl); (case hG => rfl))
  | (refine' DE.xBlt ?hA ?hB ?hC ?hD ?hE; (case hA => rfl); (case hB => rfl); (case hC => rfl); (case hD => walk_at "xm"); (case hE => walk_at "xs"))
  | (refine' DE.xCall ?hA ?hB ?hC; (case hA => rfl); (case hB => walk_at "xm"); (case hC => walk_at "xc"))
  | (refine' DE.xLr1n ?hA ?hB ?hC ?hD; (case hA => rfl); (case hB => rfl); (case hC => walk_at "xv"); (case hD => omega))
  | (refine' DE.xTup ?hA ?hB; (case hA => walk_at "xm"); (case hB => rfl))
  | (refine' DE.xLst ?hA ?hB; (case hA => walk_at "xm"); (case hB => rfl))
  | walk_at "xl"
  | (refine' DE.xNeg ?hA; (case hA => walk_at "xv"))
  | (refine' DE.xNot ?hA; (case hA => walk_at "xv")))
namespace M15
open PySem DE
theorem callN_0{P:Pg}{F:Nat}{f:Str}{ds:List D}:callN P F 0 f ds=none:=by rw[callN_eq,callR_0];rfl
def whole:D->Bool
 | .int _=>true
 | _=>false
theorem is_whole(k:Nat){d:D}(h:dep d<1000):callN T 60 (k+1) "is_whole" [d]=some (.bl (whole d)):=by
 cases d with
 | exc c=>exact absurd h (by simp[dep])
 | dic _ _=>exact absurd h (by simp[dep])
 | _=>kernel_rfl
def within(l m:Int):D->Bool
 | .int i=>decide (l<=i)&&decide (i<=m)
 | _=>false
theorem is_within(k:Nat){d:D}{l m:Int}(h:dep d<1000):callN T 60 (k+2) "is_whole_within" [d,.int l,.int m]=some (.bl (within l m d)):=by
  cases hw:whole d with
  | false =>
    have e:within l m d=false:=by cases d<;>first | rfl | simp[whole] at hw
    rw[e]
    refine xrun (fd:=mkFd (top 8)) rfl rfl (gRet (xBool (xAndF ?_)))
    refine' xCall ?L15a_1a ?L15a_1b ?L15a_1c;(case L15a_1a=>rfl);(case L15a_1b=>walk_at "xm");(case L15a_1c=>exact hw▸is_whole k h)
  | true =>
    cases d<;>simp[whole] at hw
    rename_i i
    refine xrun (fd:=mkFd (top 8)) rfl rfl (gRet (xBool (xAndT ?_ (xOne ?_))))
    · refine' xCall ?L15a_2a ?L15a_2b ?L15a_2c;(case L15a_2a=>rfl);(case L15a_2b=>walk_at "xm");(case L15a_2c=>exact is_whole k (by simp[dep]))
    · by_cases h1:l<=i
      · have e:within l m (.int i)=decide (i<=m):=by simp[within,h1]
        rw[e]
        exact xCmpT (by walk_at "xv") (by walk_at "xv") (oLe h1) (by walk_at "xv") oLeB
      · have e:within l m (.int i)=false:=by simp[within,h1]
        rw[e]
        exact xCmpF (by walk_at "xv") (by walk_at "xv") (oLeF h1)
def shortB:D->Bool
 | .tup us=>decide (1<=us.length)&&decide (us.length<=4)
 | _=>false
theorem bLenT{us:List D}:blt "len" [.tup us]=some (.int (us.length:Int)):=rfl
theorem is_short(k:Nat){d:D}(h:dep d<1000):callN T 60 (k+1) "is_short_tuple" [d]=some (.bl (shortB d)):=by
  cases ht:isTy "tuple" d with
  | false =>
    have e:shortB d=false:=by cases d<;>first | rfl | simp[isTy] at ht
    rw[e]
    exact xrun (fd:=mkFd (top 9)) rfl rfl (gRet (xBool (xAndF (xIsi rfl rfl rfl (by walk_at "xv") ht rfl (notX h)))))
  | true =>
    cases d<;>simp[isTy] at ht
    rename_i us
    refine xrun (fd:=mkFd (top 9)) rfl rfl (gRet (xBool (xAndT (xIsi rfl rfl rfl (by walk_at "xv") rfl) (xOne ?_))))
    by_cases h1:1<=us.length
    · have e:shortB (.tup us)=decide ((us.length:Int)<=4):=by
        simp only[shortB,h1,decide_true,Bool.true_and]
        exact decide_eq_decide.mpr (by omega)
      rw[e]
      refine xCmpT (by walk_at "xv") (y:=.int (us.length:Int)) ?_ (oLe (by omega)) (by walk_at "xv") oLeB
      refine' xBlt ?L15a_3a ?L15a_3b ?L15a_3c ?L15a_3d ?L15a_3e;(case L15a_3a=>rfl);(case L15a_3b=>rfl);(case L15a_3c=>rfl);(case L15a_3d=>walk_at "xm");(case L15a_3e=>exact bLenT)
    · have e:shortB (.tup us)=false:=by simp only[shortB];rw[decide_eq_false h1];rfl
      rw[e]
      refine xCmpF (by walk_at "xv") (y:=.int (us.length:Int)) ?_ (oLeF (by omega))
      refine' xBlt ?L15a_4a ?L15a_4b ?L15a_4c ?L15a_4d ?L15a_4e;(case L15a_4a=>rfl);(case L15a_4b=>rfl);(case L15a_4c=>rfl);(case L15a_4d=>walk_at "xm");(case L15a_4e=>exact bLenT)
theorem at0{z:D}{zs:List D}:atD (z::zs) 0=some z:=atD_nat (j:=0) rfl
def lenT:D->Nat
 | .tup us=>us.length
 | _=>0
def lens(us:List D):Bool:=us.all fun r=>lenT r==lenT (us.headD .non)
def linesB:D->Bool
 | .tup us=>shortB (.tup us)&&us.all shortB&&lens us
 | _=>false
theorem short_tup{d:D}(h:shortB d=true):∃ us,d=.tup us/\1<=us.length/\us.length<=4:=by
 cases d<;>simp[shortB] at h
 rename_i us
 exact⟨us,rfl,by omega,by omega⟩
theorem deps_of{us:List D}(h:dep (.tup us)<1000):∀ x∈us,dep x<1000:=fun x hx=>by
 have:=dep_mem hx
 simp only[dep] at h
 omega
theorem has_lines(k:Nat){d:D}(h:dep d<1000):callN T 60 (k+2) "has_lines" [d]=some (.bl (linesB d)):=by
  cases hs:shortB d with
  | false =>
    have e:linesB d=false:=by cases d<;>first | rfl | (simp only[linesB,hs];rfl)
    rw[e]
    refine xrun (fd:=mkFd (top 10)) rfl rfl (gIfT (fl1:=.ret (.bl false)) (xBool (xOrT (xNotF ?_))) (gRet (by walk_at "xv")) rfl)
    refine' xCall ?L15a_5a ?L15a_5b ?L15a_5c;(case L15a_5a=>rfl);(case L15a_5b=>walk_at "xm");(case L15a_5c=>exact hs▸is_short k h)
  | true =>
    obtain⟨us,rfl,g1,g4⟩:=short_tup hs
    have hd:=deps_of h
    cases ha:us.all shortB with
    | false =>
      have e:linesB (.tup us)=false:=by simp only[linesB,ha,Bool.and_false,Bool.false_and]
      rw[e]
      refine xrun (fd:=mkFd (top 10)) rfl rfl (gIfT (fl1:=.ret (.bl false)) (xBool (xOrF (xNotT ?_) (xOne (xNotF ?_)))) (gRet (by walk_at "xv")) rfl)
      · refine' xCall ?L15a_6a ?L15a_6b ?L15a_6c;(case L15a_6a=>rfl);(case L15a_6b=>walk_at "xm");(case L15a_6c=>exact hs▸is_short k h)
      · refine xBlt rfl rfl rfl (xCons (xComp (l:=us) rfl (wSq rfl (by walk_at "xv") rfl) (szlN (by omega)) (compGo_map (g:=fun x=>.bl (shortB x)) fun x hx=>cStep rfl ?_)) xNil) (by rw[bAllM,ha])
        refine' xCall ?L15a_7a ?L15a_7b ?L15a_7c;(case L15a_7a=>rfl);(case L15a_7b=>walk_at "xm");(case L15a_7c=>exact is_short k (hd x hx))
    | true =>
      have e:linesB (.tup us)=lens us:=by simp only[linesB,ha,hs,Bool.true_and]
      rw[e]
      refine xrun (fd:=mkFd (top 10)) rfl rfl (gIfN (xBool (xOrF (xNotT ?_) (xOne (xNotT ?_)))) (gRet ?_))
      · refine' xCall ?L15a_8a ?L15a_8b ?L15a_8c;(case L15a_8a=>rfl);(case L15a_8b=>walk_at "xm");(case L15a_8c=>exact hs▸is_short k h)
      · refine xBlt rfl rfl rfl (xCons (xComp (l:=us) rfl (wSq rfl (by walk_at "xv") rfl) (szlN (by omega)) (compGo_map (g:=fun x=>.bl (shortB x)) fun x hx=>cStep rfl ?_)) xNil) (by rw[bAllM,ha])
        refine' xCall ?L15a_9a ?L15a_9b ?L15a_9c;(case L15a_9a=>rfl);(case L15a_9b=>walk_at "xm");(case L15a_9c=>exact is_short k (hd x hx))
      · refine xBlt rfl rfl rfl (xCons (xComp (l:=us) rfl (wSq rfl (by walk_at "xv") rfl) (szlN (by omega)) (compGo_map (g:=fun x=>.bl (lenT x==lenT (us.headD .non))) fun x hx=>cStep rfl ?_)) xNil) bAllM
        obtain⟨ys,rfl,y1,y4⟩:=short_tup (List.all_eq_true.mp ha x hx)
        cases us with
        | nil=>simp at g1
        | cons z zs =>
          obtain⟨ws,rfl,w1,w4⟩:=short_tup (List.all_eq_true.mp ha z (by simp))
          refine xCmp (x:=.int (ys.length:Int)) (y:=.int (ws.length:Int)) ?_ ?_ ?_
          · refine' xBlt ?L15a_10a ?L15a_10b ?L15a_10c ?L15a_10d ?L15a_10e;(case L15a_10a=>rfl);(case L15a_10b=>rfl);(case L15a_10c=>rfl);(case L15a_10d=>walk_at "xm");(case L15a_10e=>exact bLenT)
          · refine xBlt rfl rfl rfl (xCons ?_ xNil) bLenT
            exact xIx (by walk_at "xv") (by walk_at "xv") rfl at0
          · show some (D.bl ((ys.length:Int)==(ws.length:Int)))=_
            congr 2
            show _=(ys.length==ws.length)
            rw[Bool.eq_iff_iff]
            simp only[beq_iff_eq]
            omega
def itemsT:D->List D
 | .tup us=>us
 | _=>[]
def nums:List D->List D
 | []=>[]
 | r::rs=>itemsT r++nums rs
theorem nums_snoc:∀ (a:List D) (r:D),nums (a++[r])=nums a++itemsT r
 | [],r=>by simp[nums]
 | x::a,r=>by simp[nums,nums_snoc a r]
theorem nums_len:∀ {us:List D},us.all shortB=true->(nums us).length<=4*us.length
  | [],_=>by simp[nums]
  | r :: us, h => by
    rw[List.all_cons,Bool.and_eq_true] at h
    obtain⟨ys,rfl,y1,y4⟩:=short_tup h.1
    have:=nums_len h.2
    simp only[nums,itemsT,List.length_append,List.length_cons]
    omega
theorem numbers_of(k:Nat){us:List D}(h4:us.length<=4)(ha:us.all shortB=true):callN T 60 (k+1) "numbers_of" [.tup us]=some (.lst (nums us)):=by
 have hl:=nums_len ha
 have key:∀ (s:Sl),(s=.no\/∃ d,s=.sh d)->blk (cxN T 60 k) 60 60 (mkFd (top 11)).sc ((mkFd (top 11)).body.drop 2) [("table",.sh (.tup us)),("told",.ow (nums us)),("row",s)]=some (.ret (.lst (nums us))):=by
  intro s hs
  rcases hs with rfl | ⟨d,rfl⟩
  ·exact gRet (by walk_at "xv")
  ·exact gRet (by walk_at "xv")
 refine xrun (fd:=mkFd (top 11)) rfl rfl (gSet rfl (d:=.lst []) (by walk_at "xv") (gFor (l:=us) (fl1:=.nxt [("table",.sh (.tup us)),("told",.ow (nums us)),("row",lastS us)]) (wSq rfl (by walk_at "xv") rfl) ?_ (key _ ?_)))
 ·refine forGo_pre (R:=fun pre=>[("table",.sh (.tup us)),("told",.ow (nums pre)),("row",lastS pre)]) (whole:=us) (fun pre x post e=>?_) (pre:=[]) rfl
  have hx:shortB x=true:=List.all_eq_true.mp ha x (by rw[<- e];simp)
  have hp:pre.all shortB=true:=by rw[<- e,List.all_append,Bool.and_eq_true] at ha;exact ha.1
  have hl2:=nums_len hp
  have hl3:pre.length<=us.length:=by rw[<- e];simp
  obtain⟨ys,rfl,y1,y4⟩:=short_tup hx
  rw[nums_snoc,lastS_snoc,show itemsT (.tup ys)=ys from rfl]
  exact fStep rfl (gExtT rfl rfl rfl rfl (szlN (by omega)) (by walk_at "xv") gNilS)
 ·cases us with
  | nil=>exact .inl rfl
  | cons x r=>exact .inr ⟨_,rfl⟩
def formB(d:D):Bool:=linesB d&&(nums (itemsT d)).all whole
theorem lines_inv{d:D}(h:linesB d=true):∃ us,d=.tup us/\1<=us.length/\us.length<=4/\us.all shortB=true/\lens us=true:=by
 cases d<;>simp only[linesB,Bool.and_eq_true] at h<;>try (cases h;done)
 rename_i us
 obtain⟨us',e,h1,h4⟩:=short_tup h.1.1
 cases e
 exact⟨us,rfl,h1,h4,h.1.2,h.2⟩
theorem nums_mem{x:D}:∀ {us:List D},x∈nums us->∃ r∈us,x∈itemsT r
  | r :: us, h => by
    simp only[nums,List.mem_append] at h
    rcases h with h | h
    · exact⟨r,by simp,h⟩
    · obtain⟨r',h1,h2⟩:=nums_mem h
      exact⟨r',List.mem_cons_of_mem _ h1,h2⟩
theorem nums_dep{us:List D}(h:dep (.tup us)<1000):∀ x∈nums us,dep x<1000:=fun x hx=>by
 obtain⟨r,h1,h2⟩:=nums_mem hx
 have h3:=deps_of h r h1
 cases r<;>simp only[itemsT] at h2<;>try (cases h2;done)
 exact deps_of h3 x h2
theorem has_form(k:Nat){d:D}(h:dep d<1000):callN T 60 (k+3) "has_table_form" [d]=some (.bl (formB d)):=by
  cases hl:linesB d with
  | false =>
    have e:formB d=false:=by simp only[formB,hl,Bool.false_and]
    rw[e]
    refine xrun (fd:=mkFd (top 12)) rfl rfl (gRet (xBool (xAndF ?_)))
    refine' xCall ?L15a_11a ?L15a_11b ?L15a_11c;(case L15a_11a=>rfl);(case L15a_11b=>walk_at "xm");(case L15a_11c=>exact hl▸has_lines k h)
  | true =>
    obtain⟨us,rfl,g1,g4,ga,_⟩:=lines_inv hl
    have e:formB (.tup us)=(nums us).all whole:=by simp only[formB,hl,Bool.true_and,itemsT]
    have hn:=nums_len ga
    have hd:=nums_dep h
    rw[e]
    refine xrun (fd:=mkFd (top 12)) rfl rfl (gRet (xBool (xAndT ?_ (xOne ?_))))
    · refine' xCall ?L15a_12a ?L15a_12b ?L15a_12c;(case L15a_12a=>rfl);(case L15a_12b=>walk_at "xm");(case L15a_12c=>exact hl▸has_lines k h)
    · refine xBlt rfl rfl rfl (xCons (xComp (l:=nums us) rfl (wSq rfl (xCall rfl (by walk_at "xm") (numbers_of (k+1) g4 ga)) rfl) (szlN (by omega)) (compGo_map (g:=fun x=>.bl (whole x)) fun x hx=>cStep rfl ?_)) xNil) bAllM
      refine' xCall ?L15a_13a ?L15a_13b ?L15a_13c;(case L15a_13a=>rfl);(case L15a_13b=>walk_at "xm");(case L15a_13c=>exact is_whole (k+1) (hd x hx))
theorem need_ok(k:Nat){d:D}(h:dep d<1000)(hf:formB d=true):callN T 60 (k+4) "need_table" [d]=some .non:=by
 refine xrun0 (fd:=mkFd (top 16)) rfl rfl (gIfN (xNotT ?_) gNilS)
 refine' xCall ?L15a_14a ?L15a_14b ?L15a_14c;(case L15a_14a=>rfl);(case L15a_14b=>walk_at "xm");(case L15a_14c=>exact hf▸has_form k h)
theorem short_Ls{m:Nat}{h:Nat->D}:shortB (.tup (Ls m h))=(decide (1<=m)&&decide (m<=4)):=by simp only[shortB,Ls_len]
theorem mem_Ls{m:Nat}{h:Nat->D}{x:D}(hx:x∈Ls m h):∃ i,i<m/\x=h i:=by
 unfold Ls at hx
 obtain⟨i,hi,rfl⟩:=List.mem_map.mp hx
 exact⟨i,List.mem_range.mp hi,rfl⟩
theorem head_Ls{m:Nat}{h:Nat->D}(hm:1<=m):(Ls m h).headD .non=h 0:=by
 obtain⟨m',rfl⟩:∃ m',m=m'+1:=⟨m-1,by omega⟩
 unfold Ls
 rw[List.range_succ_eq_map];rfl
theorem form_tbl{m n:Nat}{f:Nat->Nat->Int}(h1:1<=m)(h2:1<=n):formB (tbl m n f)=(decide (m<5)&&decide (n<5)):=by
 by_cases hm:m<=4
 ·by_cases hn:n<=4
  ·have e1:linesB (tbl m n f)=true:=by
    show(shortB (tbl m n f)&&(Ls m fun i=>row n (f i)).all shortB&&lens (Ls m fun i=>row n (f i)))=true
    rw[short_Ls,decide_eq_true h1,decide_eq_true hm]
    have a1:(Ls m fun i=>row n (f i)).all shortB=true:=by
     rw[List.all_eq_true]
     intro x hx
     obtain⟨i,_,rfl⟩:=mem_Ls hx
     rw[short_Ls,decide_eq_true h2,decide_eq_true hn];rfl
    have a2:lens (Ls m fun i=>row n (f i))=true:=by
     unfold lens
     rw[List.all_eq_true,head_Ls h1]
     intro x hx
     obtain⟨i,_,rfl⟩:=mem_Ls hx
     simp[lenT,Ls_len]
    rw[a1,a2];rfl
   have e2:(nums (itemsT (tbl m n f))).all whole=true:=by
    rw[List.all_eq_true]
    intro x hx
    obtain⟨r,hr,hx⟩:=nums_mem hx
    obtain⟨i,_,rfl⟩:=mem_Ls (show r∈Ls m fun i=>row n (f i) from hr)
    obtain⟨j,_,rfl⟩:=mem_Ls (show x∈Ls n fun j=>D.int (f i j) from hx)
    rfl
   unfold formB
   rw[e1,e2,decide_eq_true (show m<5 by omega),decide_eq_true (show n<5 by omega)]
  ·have e1:linesB (tbl m n f)=false:=by
    show(shortB (tbl m n f)&&(Ls m fun i=>row n (f i)).all shortB&&lens (Ls m fun i=>row n (f i)))=false
    have a1:(Ls m fun i=>row n (f i)).all shortB=false:=by
     rw[List.all_eq_false]
     refine⟨row n (f 0),?_,?_⟩
     ·unfold Ls;exact List.mem_map.mpr ⟨0,List.mem_range.mpr (by omega),rfl⟩
     ·rw[short_Ls,decide_eq_false hn];simp
    rw[a1,Bool.and_false,Bool.false_and]
   unfold formB
   rw[e1,decide_eq_false (show ¬ n<5 by omega),Bool.and_false,Bool.false_and]
 ·have e1:linesB (tbl m n f)=false:=by
   show(shortB (tbl m n f)&&(Ls m fun i=>row n (f i)).all shortB&&lens (Ls m fun i=>row n (f i)))=false
   rw[short_Ls,decide_eq_false hm,Bool.and_false,Bool.false_and,Bool.false_and]
  unfold formB
  rw[e1,decide_eq_false (show ¬ m<5 by omega),Bool.false_and,Bool.false_and]
theorem form_ok{m n:Nat}{f:Nat->Nat->Int}(h1:1<=m)(h2:m<=4)(h3:1<=n)(h4:n<=4):formB (tbl m n f)=true:=by rw[form_tbl h1 h3,decide_eq_true (by omega),decide_eq_true (by omega)];rfl
theorem need_table(k:Nat){m n:Nat}{f:Nat->Nat->Int}(h1:1<=m)(h2:m<=4)(h3:1<=n)(h4:n<=4):callN T 60 (k+4) "need_table" [tbl m n f]=some .non :=
 need_ok k (Nat.lt_of_le_of_lt dep_tbl (by decide)) (form_ok h1 h2 h3 h4)
theorem whole_within(k:Nat){i l h:Int}(h1:l<=i)(h2:i<=h):callN T 60 (k+2) "is_whole_within" [.int i,.int l,.int h]=some (.bl true):=by
 rw[is_within k (by simp[dep])]
 simp[within,h1,h2]
theorem column_of(k:Nat){m n j:Nat}{f:Nat->Nat->Int}(hj:j<n)(h2:m<=4):callN T 60 (k+1) "column_of" [tbl m n f,.int (j:Int)]=some (row m fun i=>f i j):=by
 refine xrun (fd:=mkFd (top 22)) rfl rfl (gRet ?_)
 refine' xBlt ?L15a_16a ?L15a_16b ?L15a_16c ?L15a_16d ?L15a_16e;(case L15a_16a=>rfl);(case L15a_16b=>rfl);(case L15a_16c=>rfl);(case L15a_16d=>walk_at "xm");(case L15a_16e=>exact bTup)
theorem columns_of(k:Nat){m n:Nat}{f:Nat->Nat->Int}(h1:1<=m)(h2:m<=4)(h4:n<=4):callN T 60 (k+2) "columns_of" [tbl m n f]=some (tbl n m fun i j=>f j i):=by
 refine xrun (fd:=mkFd (top 23)) rfl rfl (gRet ?_)
 refine xBlt rfl rfl rfl (xCons ?_ xNil) bTup
 refine' xComp ?L15a_17a ?L15a_17b ?L15a_17c (compGo_Ls ?L15a_17d);(case L15a_17a=>rfl);(case L15a_17b=>walk_at "xi");(case L15a_17c=>exact szlLs (by omega))
 case L15a_17d =>
  intro i hi
  refine' cStep ?L15a_17e ?L15a_17f;(case L15a_17e=>rfl)
  case L15a_17f =>
   refine' xCall ?L15a_18a ?L15a_18b ?L15a_18c;(case L15a_18a=>rfl);(case L15a_18b=>walk_at "xm");(case L15a_18c=>exact column_of _ hi h2)
theorem is_place(k:Nat){v many:Nat}(h:v<many):callN T 60 (k+3) "is_place" [.int (v:Int),.int (many:Int)]=some (.bl true):=by
 refine xrun (fd:=mkFd (top 14)) rfl rfl (gRet ?_)
 refine' xCall ?L15a_19a ?L15a_19b ?L15a_19c;(case L15a_19a=>rfl);(case L15a_19b=>walk_at "xm");(case L15a_19c=>exact whole_within _ (by omega) (by omega))
theorem rising(k:Nat){q many:Nat}{c:Nat->Nat}(h1:1<=q)(h4:q<=4)(hc:∀ j,j<q->c j<many)(hr:∀ j,j+1<q->c j<c (j+1)):callN T 60 (k+4) "are_rising_places" [plc q c,.int (many:Int)]=some (.bl true):=by
 refine xrun (fd:=mkFd (top 15)) rfl rfl (gIfN (xBool (xOrF (xNotT ?_) (xOne ?_))) (gIfN (xNotT ?_) (gRet ?_)))
 ·walk_at "xv"
 ·refine xCmp (x:=.int (q:Int)) ?_ (by walk_at "xv") (oEqF (by omega))
  walk_at "xv"
 ·refine xBlt rfl rfl rfl (xCons ?_ xNil) (bAll (n:=q) (f:=fun _=>true) fun _ _=>rfl)
  refine' xComp ?L15a_20a ?L15a_20b ?L15a_20c (compGo_Ls ?L15a_20d);(case L15a_20a=>rfl);(case L15a_20b=>walk_at "xi");(case L15a_20c=>exact szlLs (by omega))
  case L15a_20d =>
   intro j hj
   refine' cStep ?L15a_20e ?L15a_20f;(case L15a_20e=>rfl)
   case L15a_20f =>
    refine' xCall ?L15a_21a ?L15a_21b ?L15a_21c;(case L15a_21a=>rfl);(case L15a_21b=>walk_at "xm");(case L15a_21c=>exact is_place _ (hc j hj))
 ·refine xBlt rfl rfl rfl (xCons ?_ xNil) (bAll (n:=min q (q-1)) (f:=fun _=>true) fun _ _=>rfl)
  refine' xComp ?a1 ?a2 ?a3 (compGo_Ls ?a4);(case a1=>rfl)
  case a2 =>
   refine' wZpM ?b1 ?b2 ?b3;(case b1=>rfl);(case b2=>walk_at "xv")
   case b3 =>
    refine' xSlLo (j:=1) ?d1 ?d2 (by omega) (by omega) h1
    case d1=>walk_at "xv"
    case d2=>walk_at "xv"
  case a3=>exact szlLs (by omega)
  case a4 =>
   intro j hj
   refine' cStep ?c1 (xCmp ?c2 ?c3 (oLt ?c4));(case c1=>rfl);(case c2=>walk_at "xv");(case c3=>walk_at "xv")
   have:=hr j (by omega)
   rw[Nat.add_comm 1 j]
   omega
theorem need_places(k:Nat){q many:Nat}{c:Nat->Nat}(h1:1<=q)(h4:q<=4)(hc:∀ j,j<q->c j<many)(hr:∀ j,j+1<q->c j<c (j+1)):callN T 60 (k+5) "need_places" [plc q c,.int (many:Int)]=some .non:=by
 refine xrun0 (fd:=mkFd (top 19)) rfl rfl (gIfN (xNotT ?_) gNilS)
 refine' xCall ?L15a_22a ?L15a_22b ?L15a_22c;(case L15a_22a=>rfl);(case L15a_22b=>walk_at "xm");(case L15a_22c=>exact rising k h1 h4 hc hr)
theorem picked(k:Nat){n q:Nat}{f:Nat->Int}{c:Nat->Nat}(h4:q<=4)(hc:∀ j,j<q->c j<n):callN T 60 (k+1) "picked" [row n f,plc q c]=some (row q fun j=>f (c j)):=by
 refine xrun (fd:=mkFd (top 25)) rfl rfl (gRet (xBlt rfl rfl rfl (xCons ?_ xNil) bTup))
 refine' xComp ?L15a_23a ?L15a_23b ?L15a_23c (compGo_Ls ?L15a_23d);(case L15a_23a=>rfl);(case L15a_23b=>walk_at "xi");(case L15a_23c=>exact szlLs (by omega))
 case L15a_23d =>
  intro j hj
  refine' cStep ?L15a_23e ?L15a_23f;(case L15a_23e=>rfl)
  case L15a_23f =>
   refine' xIxL ?L15a_24a ?L15a_24b ?L15a_24c ?L15a_24d ?L15a_24e;(case L15a_24a=>walk_at "xv");(case L15a_24b=>walk_at "xv");(case L15a_24c=>exact hc j hj);(case L15a_24d=>rfl);(case L15a_24e=>rfl)
theorem part_at(k:Nat){m n q p:Nat}{f:Nat->Nat->Int}{r c:Nat->Nat}(g2:q<=4)(g4:p<=4)
  (hr:∀ j,j<q->r j<m) (hc:∀ j,j<p->c j<n):callN T 60 (k+2) "part_at" [tbl m n f,plc q r,plc p c]=some (tbl q p fun i j=>f (r i) (c j)):=by
 refine xrun (fd:=mkFd (top 26)) rfl rfl (gRet (xBlt rfl rfl rfl (xCons ?_ xNil) bTup))
 ·refine' xComp ?L15a_25a ?L15a_25b ?L15a_25c (compGo_Ls ?L15a_25d);(case L15a_25a=>rfl);(case L15a_25b=>walk_at "xi");(case L15a_25c=>exact szlLs (by omega))
  case L15a_25d =>
   intro i hi
   refine' cStep ?L15a_25e ?L15a_25f;(case L15a_25e=>rfl)
   case L15a_25f =>
    refine' xCall ?a1 (xCons ?a2 (xCons ?a3 xNil)) (picked _ g4 hc);(case a1=>rfl)
    ·refine' xIxL ?L15a_26a ?L15a_26b ?L15a_26c ?L15a_26d ?L15a_26e;(case L15a_26a=>walk_at "xv");(case L15a_26b=>walk_at "xv");(case L15a_26c=>exact hr i hi);(case L15a_26d=>rfl);(case L15a_26e=>rfl)
    ·walk_at "xv"
def Sm(m n:Nat)(f:Nat->Nat->Int):Prop:=∀ i j,i<m->j<n->small (f i j)=true
def cellV(ns:List Int)(k:Nat):Int:=if k<ns.length then ns.getD k 0 else if ns=[] then 0 else ns.getD (k%ns.length) 0*31+k
def drawnV(ns:List Int)(k:Nat):Int:=(cellV ns k+6151*((k:Int)+1))*40692%2147483399
def pickN(ns:List Int)(k many:Nat):Nat:=((drawnV ns k*drawnV ns k+drawnV ns k / 31)%2147483629%(many:Int)).toNat
theorem pickN_lt{ns:List Int}{k many:Nat}(h:0<many):pickN ns k many<many:=by
 unfold pickN
 have h1:=Int.emod_nonneg ((drawnV ns k*drawnV ns k+drawnV ns k / 31)%2147483629) (show(many:Int)≠0 by omega)
 have h2:=Int.emod_lt_of_pos ((drawnV ns k*drawnV ns k+drawnV ns k / 31)%2147483629) (show(0:Int)<many by omega)
 omega
abbrev scr(ns:List Int):D:=.lst (ns.map D.int)
theorem scr_len{ns:List Int}:blt "len" [scr ns]=some (.int (ns.length:Int)):=by
 show some (D.int ((ns.map D.int).length:Int))=_
 rw[List.length_map]
theorem scr_at{ns:List Int}{k:Nat}(h:k<ns.length):atD (ns.map D.int) (k:Int)=some (.int (ns.getD k 0)):=by
 refine atD_nat ?_
 rw[List.getElem?_map,List.getElem?_eq_getElem h,List.getD_eq_getElem?_getD,List.getElem?_eq_getElem h];rfl
theorem scr_dep{ns:List Int}:dep (scr ns)<=50:=by
 simp only[dep]
 have:=deps_le (b:=0) (l:=ns.map D.int) fun d hd=>by
  obtain⟨i,_,rfl⟩:=List.mem_map.mp hd
  simp[dep]
 omega
theorem cell(k:Nat)(ns:List Int)(kk:Nat):callN T 60 (k+1) "_law_cell" [scr ns,.int (kk:Int)]=some (.int (cellV ns kk)):=by
 unfold cellV
 by_cases h:kk<ns.length
 ·rw[if_pos h]
  refine xrun (fd:=mkFd (top 52)) rfl rfl (gIfT (fl1:=.ret (.int (ns.getD kk 0))) (xCmp (by walk_at "xv") (xBlt rfl rfl rfl (by walk_at "xm") scr_len) (oLt (by omega))) (gRet ?_) rfl)
  exact xIx (by walk_at "xv") (by walk_at "xv") rfl (scr_at h)
 ·rw[if_neg h]
  by_cases e:ns=[]
  ·subst e
   rw[if_pos rfl]
   refine xrun (fd:=mkFd (top 52)) rfl rfl (gIfN (xCmp (by walk_at "xv") (xBlt rfl rfl rfl (by walk_at "xm") (scr_len (ns:=[]))) (oLtF (by simp))) (gIfT (fl1:=.ret (.int 0)) (xCmp (by walk_at "xv") (by walk_at "xv") rfl) (gRet (by walk_at "xv")) rfl))
  ·rw[if_neg e]
   have hl:0<ns.length:=List.length_pos_iff.mpr e
   refine xrun (fd:=mkFd (top 52)) rfl rfl (gIfN (xCmp (by walk_at "xv") (xBlt rfl rfl rfl (by walk_at "xm") scr_len) (oLtF (by omega))) (gIfN (xCmp (y:=.lst []) (by walk_at "xv") (by walk_at "xv") ?_) (gRet ?_)))
   ·rw[oEq scr_dep (by simp[dep,deps])]
    cases ns with
    | nil=>exact absurd rfl e
    | cons a r=>rfl
   ·refine xBin (xBin (x:=.int (ns.getD (kk%ns.length) 0)) (xIx (i:=((kk%ns.length:Nat):Int)) (by walk_at "xv") ?_ rfl (scr_at (Nat.mod_lt _ hl))) (by walk_at "xv") (bMul (.inr (by decide)))) (by walk_at "xv") rfl
    refine xBin (by walk_at "xv") (xBlt rfl rfl rfl (by walk_at "xm") scr_len) ?_
    rw[bMod (by omega)]
    rfl
theorem pick(k:Nat)(ns:List Int)(kk:Nat){many:Nat}(h:0<many):callN T 60 (k+2) "_law_pick" [scr ns,.int (kk:Int),.int (many:Int)]=some (.int ((pickN ns kk many:Nat):Int)):=by
 have d0:=Int.emod_nonneg ((cellV ns kk+6151*((kk:Int)+1))*40692) (show(2147483399:Int)≠0 by decide)
 have d1:=Int.emod_lt_of_pos ((cellV ns kk+6151*((kk:Int)+1))*40692) (show(0:Int)<2147483399 by decide)
 have e:((pickN ns kk many:Nat):Int)=(drawnV ns kk*drawnV ns kk+drawnV ns kk / 31)%2147483629%(many:Int):=by
  unfold pickN
  exact Int.toNat_of_nonneg (Int.emod_nonneg _ (by omega))
 rw[e]
 refine xrun (fd:=mkFd (top 53)) rfl rfl (gSet rfl (d:=.int (drawnV ns kk)) ?_ (gRet ?_))
 ·refine xBin (xBin (xBin (x:=.int (cellV ns kk)) (y:=.int (6151*((kk:Int)+1))) ?_ ?_ rfl) (by walk_at "xv") (bMul (.inr (by decide)))) (by walk_at "xv") (bMod (by decide))
  ·refine' xCall ?L15a_27a ?L15a_27b ?L15a_27c;(case L15a_27a=>rfl);(case L15a_27b=>walk_at "xm");(case L15a_27c=>exact cell _ ns kk)
  ·exact xBin (by walk_at "xv") (xBin (by walk_at "xv") (by walk_at "xv") rfl) (bMul (.inl (by decide)))
 ·refine xBin (xBin (xBin (xBin (by walk_at "xv") (by walk_at "xv") (bMul (.inl ?_))) (xBin (by walk_at "xv") (by walk_at "xv") (bDiv (by decide) (by decide))) rfl) (by walk_at "xv") (bMod (by decide))) (by walk_at "xv") (bMod (by omega))
  unfold small
  unfold drawnV
  rw[decide_eq_true (by omega),decide_eq_true (by omega)];rfl
theorem xEqD{cx:Cxt}{n:Nat}{sc:Scope}{ρ:Rho}{e:Expr}{d d':D}(h:ev cx n sc ρ e=some d)(q:d=d'):ev cx n sc ρ e=some d':=q▸h
def lowV:Nat->Nat
 | 0=>0
 | 1=>0
 | 2=>1
 | _=>4
theorem lowV_le(p:Nat):lowV p<=4:=by unfold lowV;split<;>omega
def tabV(ns:List Int)(at':Nat):Nat->Nat->Int:=fun i j=>((pickN ns (at'+1+8*i+j) (6+lowV (pickN ns at' 4)):Nat):Int)-((lowV (pickN ns at' 4):Nat):Int)
def rowS:Nat->Sl
 | 0=>.no
 | i+1=>.sh (.int (i:Int))
def rhoT(ns:List Int)(a m n low:Nat)(md:List D)(rw:Sl):Rho:=[("_law_script",.sh (scr ns)),("_law_at",.sh (.int (a:Int))),("_law_rows_here",.sh (.int (m:Int))),("_law_columns",.sh (.int (n:Int))),("_law_low",.sh (.int (low:Int))),("_law_made",.ow md),("_law_row",rw)]
theorem table(k:Nat)(ns:List Int)(a:Nat){m n:Nat}(hm:m<=4)(hn:n<=4):callN T 60 (k+3) "_law_table" [scr ns,.int (a:Int),.int (m:Int),.int (n:Int)]=some (tbl m n (tabV ns a)):=by
 have hp:=pickN_lt (ns:=ns) (k:=a) (many:=4) (by omega)
 refine xrun (fd:=mkFd (top 54)) rfl rfl (gSet rfl (d:=.int ((lowV (pickN ns a 4):Nat):Int)) ?_ (gSet rfl (d:=.lst []) (by walk_at "xv") (gFor (l:=Ls m fun i=>.int (i:Int)) (fl1:=.nxt (rhoT ns a m n (lowV (pickN ns a 4)) (Ls m fun i=>row n (tabV ns a i)) (rowS m))) ?_ ?_ (gRet (xBlt rfl rfl rfl (by walk_at "xm") bTup)))))
 ·refine xIx (x:=.lst [.int 0,.int 0,.int 1,.int 4]) (i:=((pickN ns a 4:Nat):Int)) (by walk_at "xv") ?_ rfl ?_
  ·refine xCall rfl (by walk_at "xm") (pick (k+0) ns a (many:=4) (by omega))
  ·generalize pickN ns a 4=p at hp
   match p,hp with
   | 0,_=>rfl
   | 1,_=>rfl
   | 2,_=>rfl
   | 3,_=>rfl
 ·walk_at "xi"
 ·refine forGo_Ls (R:=fun i=>rhoT ns a m n (lowV (pickN ns a 4)) (Ls i fun i=>row n (tabV ns a i)) (rowS i)) fun i hi=>?_
  refine fStep (ρ1:=rhoT ns a m n (lowV (pickN ns a 4)) (Ls i fun i=>row n (tabV ns a i)) (.sh (.int (i:Int)))) rfl ?_
  show _=some (Fl.nxt (rhoT ns a m n (lowV (pickN ns a 4)) (Ls (i+1) fun i=>row n (tabV ns a i)) (rowS (i+1))))
  rw[Ls_snoc]
  refine gApp (d:=row n (tabV ns a i)) rfl rfl rfl (szlN (by rw[Ls_len];omega)) ?_ rfl
  refine xBlt rfl rfl rfl (xCons ?_ xNil) bTup
  refine' xComp ?L15a_28a ?L15a_28b ?L15a_28c (compGo_Ls ?L15a_28d);(case L15a_28a=>rfl);(case L15a_28b=>walk_at "xi");(case L15a_28c=>exact szlLs (by omega))
  case L15a_28d =>
   intro j hj
   refine' cStep ?L15a_28e ?L15a_28f;(case L15a_28e=>rfl)
   case L15a_28f =>
    refine xBin (x:=.int ((pickN ns (a+1+8*i+j) (6+lowV (pickN ns a 4)):Nat):Int)) (xCall rfl (xCons ?_ (xCons ?_ (xCons ?_ xNil))) (pick (k+0) ns (a+1+8*i+j) (many:=6+lowV (pickN ns a 4)) (by omega))) (by walk_at "xv") rfl
    ·walk_at "xv"
    ·refine xEqD (xBin (xBin (xBin (by walk_at "xv") (by walk_at "xv") rfl) (xBin (by walk_at "xv") (by walk_at "xv") (bMul (.inl (by decide)))) rfl) (by walk_at "xv") rfl) (congrArg D.int (by omega))
    ·refine xEqD (xBin (by walk_at "xv") (by walk_at "xv") rfl) (congrArg D.int (by omega))
theorem turned(k:Nat){m n:Nat}{f:Nat->Nat->Int}(h1:1<=m)(h2:m<=4)(h3:1<=n)(h4:n<=4):callN T 60 (k+5) "turned" [tbl m n f]=some (tbl n m fun i j=>f j i):=by
 refine xrun (fd:=mkFd (top 24)) rfl rfl (gXpr rfl (d:=.non) ?_ (gRet ?_))
 ·refine' xCall ?L15a_29a ?L15a_29b ?L15a_29c;(case L15a_29a=>rfl);(case L15a_29b=>walk_at "xm");(case L15a_29c=>exact need_table k h1 h2 h3 h4)
 ·refine' xCall ?L15a_30a ?L15a_30b ?L15a_30c;(case L15a_30a=>rfl);(case L15a_30b=>walk_at "xm");(case L15a_30c=>exact columns_of (k+2) h1 h2 h4)
theorem part(k:Nat){m n q p:Nat}{f:Nat->Nat->Int}{r c:Nat->Nat}(h1:1<=m)(h2:m<=4)(h3:1<=n)(h4:n<=4)(g1:1<=q)(g2:q<=4)(g3:1<=p)(g4:p<=4)
  (hr:∀ j,j<q->r j<m) (hr':∀ j,j+1<q->r j<r (j+1)) (hc:∀ j,j<p->c j<n) (hc':∀ j,j+1<p->c j<c (j+1)):callN T 60 (k+6) "part" [tbl m n f,plc q r,plc p c]=some (tbl q p fun i j=>f (r i) (c j)):=by
 refine xrun (fd:=mkFd (top 27)) rfl rfl (gXpr rfl (d:=.non) ?_ (gXpr rfl (d:=.non) ?_ (gXpr rfl (d:=.non) ?_ (gRet ?_))))
 ·refine' xCall ?L15a_31a ?L15a_31b ?L15a_31c;(case L15a_31a=>rfl);(case L15a_31b=>walk_at "xm");(case L15a_31c=>exact need_table (k+1) h1 h2 h3 h4)
 ·refine' xCall ?L15a_32a ?L15a_32b ?L15a_32c;(case L15a_32a=>rfl);(case L15a_32b=>walk_at "xm");(case L15a_32c=>exact need_places k g1 g2 hr hr')
 ·refine' xCall ?L15a_33a ?L15a_33b ?L15a_33c;(case L15a_33a=>rfl);(case L15a_33b=>walk_at "xm");(case L15a_33c=>exact need_places k g3 g4 hc hc')
 ·refine' xCall ?L15a_34a ?L15a_34b ?L15a_34c;(case L15a_34a=>rfl);(case L15a_34b=>walk_at "xm");(case L15a_34c=>exact part_at (k+3) g2 g4 hr hc)
def mul(n:Nat)(f g:Nat->Nat->Int):Nat->Nat->Int:=fun i j=>sumN n fun l=>f i l*g l j
def skip(j b:Nat):Nat:=if b<j then b else b+1
def sg(b:Nat)(w:Int):Int:=if b%2=1 then -w else w
def sub(f:Nat->Nat->Int)(r c:Nat):Nat->Nat->Int:=fun a b=>f (skip r a) (skip c b)
def det:Nat->(Nat->Nat->Int)->Int
 | 0,_=>1
 | n+1,f=>sumN (n+1) fun j=>f 0 j*sg (0+j) (det n (sub f 0 j))
def cof(n:Nat)(f:Nat->Nat->Int)(r c:Nat):Int:=sg (r+c) (det (n-1) (sub f r c))
theorem Ls_app{m r:Nat}{h:Nat->D}(hr:r<m):Ls r h++Ls (m-(r+1)) (fun i=>h (r+1+i))=Ls (m-1) fun i=>h (skip r i):=by
 apply List.ext_getElem?
 intro i
 by_cases h1:i<r
 ·rw[List.getElem?_append_left (by rw[Ls_len];exact h1),Ls_get h1,Ls_get (by omega)]
  simp[skip,h1]
 ·rw[List.getElem?_append_right (by rw[Ls_len];omega),Ls_len]
  by_cases h2:i<m-1
  ·rw[Ls_get (by omega),Ls_get h2]
   simp only[skip,h1,if_false]
   rw[show r+1+(i-r)=i+1 by omega]
  ·rw[List.getElem?_eq_none (by rw[Ls_len];omega),List.getElem?_eq_none (by rw[Ls_len];omega)]
section
variable {cx:Cxt} {n:Nat} {sc:Scope} {ρ:Rho} {a b a2 b2:Expr} {p p2 q q2:Pos} {op:Pos}
theorem xSlHi{m j:Nat}{h:Nat->D}(h1:ev cx n sc ρ a=some (.tup (Ls m h)))(h2:ev cx n sc ρ b=some (.int (j:Int)))(hj:j<m):ev cx (n+1) sc ρ (.Subscript a (.Slice none (some b) none q) p)=some (.tup (Ls j h)):=by
 rw[xSl h1 oNone (oSome h2),cut_hi (by omega)]
 have:(sIxD (Ls m h).length (Ls m h).length (some (j:Int))==(Ls m h).length)=false:=by
  unfold sIxD
  rw[Ls_len]
  simp only
  rw[if_neg (by omega)]
  exact beq_eq_false_iff_ne.mpr (by omega)
 rw[this,Bool.and_false]
theorem xOut{m r:Nat}{h:Nat->D}(h1:ev cx n sc ρ a=some (.tup (Ls m h)))(h2:ev cx n sc ρ b=some (.int (r:Int)))(h3:ev cx n sc ρ a2=some (.tup (Ls m h)))(h4:ev cx n sc ρ b2=some (.int ((r:Int)+1)))(hr:r<m)(hm:m<=100000) :
  ev cx (n+2) sc ρ (.BinOp (.Subscript a (.Slice none (some b) none q) p) .Add (.Subscript a2 (.Slice (some b2) none none q2) p2) op)=some (.tup (Ls (m-1) fun i=>h (skip r i))):=by
 refine xBin (xSlHi h1 h2 hr) (xSlLo (j:=r+1) h3 (by rw[h4];rfl) (by omega) (by omega) (by omega)) ?_
 rw[<- Ls_app hr]
 show(if szl ((Ls r h).length+(Ls (m-(r+1)) _).length)=true then _ else _)=_
 rw[if_pos (by rw[Ls_len,Ls_len];exact szlN (by omega))]
end
theorem without(k:Nat){m n r c:Nat}{f:Nat->Nat->Int}(hr:r<m)(hc:c<n)(h2:m<=4)(h4:n<=4):callN T 60 (k+1) "without" [tbl m n f,.int (r:Int),.int (c:Int)]=some (tbl (m-1) (n-1) (sub f r c)):=by
 refine xrun (fd:=mkFd (top 37)) rfl rfl (gSet rfl (d:=.tup (Ls (m-1) fun i=>row n (f (skip r i)))) ?_ (gRet (xBlt rfl rfl rfl (xCons ?_ xNil) bTup)))
 ·refine xOut (h:=fun i=>row n (f i)) ?_ ?_ ?_ ?_ hr (by omega)
  ·walk_at "xv"
  ·walk_at "xv"
  ·walk_at "xv"
  ·exact xBin (by walk_at "xv") (by walk_at "xv") rfl
 ·refine' xComp ?L15a_37a ?L15a_37b ?L15a_37c (compGo_Ls ?L15a_37d);(case L15a_37a=>rfl);(case L15a_37b=>walk_at "xi");(case L15a_37c=>exact szlLs (by omega))
  case L15a_37d =>
   intro i hi
   refine' cStep ?L15a_37e ?L15a_37f;(case L15a_37e=>rfl)
   case L15a_37f =>
    refine xOut (h:=fun j=>.int (f (skip r i) j)) ?_ ?_ ?_ ?_ hc (by omega)
    ·walk_at "xv"
    ·walk_at "xv"
    ·walk_at "xv"
    ·exact xBin (by walk_at "xv") (by walk_at "xv") rfl
theorem worth_step(k:Nat){n:Nat}{f:Nat->Nat->Int}(h4:n+1<=4)(hs:Sm (n+1) (n+1) f)(ih:∀ r c,r<n+1->c<n+1->callN T 60 k "worth_of" [tbl n n (sub f r c)]=some (.int (det n (sub f r c)))) :
  (∀ r c,r<n+1->c<n+1->callN T 60 (k+2) "signed_rest" [tbl (n+1) (n+1) f,.int (r:Int),.int (c:Int)]=some (.int (cof (n+1) f r c)))/\callN T 60 (k+4) "worth_of" [tbl (n+1) (n+1) f]=some (.int (det (n+1) f)):=by
 have rest:∀ r c,r<n+1->c<n+1->callN T 60 (k+1) "rest_worth" [tbl (n+1) (n+1) f,.int (r:Int),.int (c:Int)]=some (.int (det n (sub f r c))):=by
  intro r c hr hc
  refine xrun (fd:=mkFd (top 39)) rfl rfl (gRet ?_)
  refine xCall rfl (xCons ?_ xNil) (ih r c hr hc)
  cases k with
  | zero=>have:=ih r c hr hc;rw[callN_0] at this;cases this
  | succ k=>refine' xCall ?L15a_38a ?L15a_38b ?L15a_38c;(case L15a_38a=>rfl);(case L15a_38b=>walk_at "xm");(case L15a_38c=>exact without k hr hc h4 h4)
 have sgn:∀ r c,r<n+1->c<n+1->callN T 60 (k+2) "signed_rest" [tbl (n+1) (n+1) f,.int (r:Int),.int (c:Int)]=some (.int (cof (n+1) f r c)):=by
  intro r c hr hc
  refine xrun (fd:=mkFd (top 40)) rfl rfl (gSet rfl (d:=.int (det n (sub f r c))) ?_ (gRet ?_))
  ·refine' xCall ?L15a_39a ?L15a_39b ?L15a_39c;(case L15a_39a=>rfl);(case L15a_39b=>walk_at "xm");(case L15a_39c=>exact rest r c hr hc)
  ·unfold cof sg
   by_cases q:(r+c)%2=1
   ·rw[if_pos q]
    refine xIfT (xCmp (x:=.int (((r+c)%2:Nat):Int)) (xEqD (xBin (xBin (by walk_at "xv") (by walk_at "xv") rfl) (by walk_at "xv") (bMod (by decide))) (congrArg D.int (by omega))) (by walk_at "xv") (oEqI (by omega))) (xNeg ?_)
    walk_at "xv"
   ·rw[if_neg q]
    refine xIfF (xCmp (x:=.int (((r+c)%2:Nat):Int)) (xEqD (xBin (xBin (by walk_at "xv") (by walk_at "xv") rfl) (by walk_at "xv") (bMod (by decide))) (congrArg D.int (by omega))) (by walk_at "xv") (oEqF (by omega))) ?_
    walk_at "xv"
 refine⟨sgn,?_⟩
 have rows:callN T 60 (k+3) "row_with_rests" [tbl (n+1) (n+1) f,.int 0]=some (.lst (Ls (n+1) fun c=>.tup [.int (f 0 c),.int (cof (n+1) f 0 c)])):=by
  refine xrun (fd:=mkFd (top 41)) rfl rfl (gRet ?_)
  refine' xComp ?L15a_40a ?L15a_40b ?L15a_40c (compGo_Ls ?L15a_40d);(case L15a_40a=>rfl);(case L15a_40b=>walk_at "xi");(case L15a_40c=>exact szlLs (by omega))
  case L15a_40d =>
   intro c hc
   refine' cStep ?L15a_40e ?L15a_40f;(case L15a_40e=>rfl)
   case L15a_40f =>
    refine xTup (xCons (by walk_at "xv") (xCons ?_ xNil)) rfl
    refine xCall rfl (xCons ?_ (xCons ?_ (xCons ?_ xNil))) (sgn 0 c (by omega) hc)
    ·walk_at "xv"
    ·walk_at "xv"
    ·walk_at "xv"
 refine xrun (fd:=mkFd (top 38)) rfl rfl (gIfN (xCmp (x:=.int ((n+1:Nat):Int)) ?_ (by walk_at "xv") (oEqF (by omega))) (gRet ?_))
 ·walk_at "xv"
 ·have e:det (n+1) f=sumN (n+1) fun j=>f 0 j*cof (n+1) f 0 j:=rfl
  rw[e]
  refine xBlt rfl rfl rfl (xCons ?_ xNil) bSum
  refine' xComp ?a1 ?a2 ?a3 (compGo_Ls ?a4);(case a1=>rfl)
  case a2 =>
   refine wSq rfl (x:=.lst (Ls (n+1) fun c=>.tup [.int (f 0 c),.int (cof (n+1) f 0 c)])) ?_ rfl
   refine' xCall ?L15a_41a ?L15a_41b ?L15a_41c;(case L15a_41a=>rfl);(case L15a_41b=>walk_at "xm");(case L15a_41c=>exact rows)
  case a3=>exact szlLs (by omega)
  case a4 =>
   intro c hc
   refine' cStep ?b1 (xBin ?b2 ?b3 (bMul (.inl (hs 0 c (by omega) hc))));(case b1=>rfl);(case b2=>walk_at "xv");(case b3=>walk_at "xv")
theorem worth:∀ (n k:Nat) {f:Nat->Nat->Int},n<=4->Sm n n f->callN T 60 (k+4*n+1) "worth_of" [tbl n n f]=some (.int (det n f))
  | 0, k, f, _, _ => by
    show callN T 60 (k+1) "worth_of" [.tup []]=some (.int 1)
    kernel_rfl
  | n + 1, k, f, h, hs => by
    have q:=worth_step (k+4*n+1) h hs fun r c hr hc=>worth n k (by omega) fun i j hi hj=>hs _ _ (by unfold skip;split<;>omega) (by unfold skip;split<;>omega)
    have e:k+4*(n+1)+1=k+4*n+1+4:=by omega
    rw[e]
    exact q.2
theorem whole_minor(k n:Nat){f:Nat->Nat->Int}(h1:1<=n)(h4:n<=4)(hs:Sm n n f):callN T 60 (k+4*n+5) "whole_minor" [tbl n n f]=some (.int (det n f)):=by
 have sq:callN T 60 (k+4*n+3) "is_square" [tbl n n f]=some (.bl true):=by
  refine xrun (fd:=mkFd (top 13)) rfl rfl (gRet (xCmp (x:=.int (n:Int)) ?_ ?_ (oEqI rfl)))
  ·walk_at "xv"
  ·walk_at "xv"
 have ns:callN T 60 (k+4*n+4) "need_square" [tbl n n f]=some .non:=by
  refine xrun0 (fd:=mkFd (top 17)) rfl rfl (gIfN (xNotT ?_) gNilS)
  refine' xCall ?L15a_42a ?L15a_42b ?L15a_42c;(case L15a_42a=>rfl);(case L15a_42b=>walk_at "xm");(case L15a_42c=>exact sq)
 refine xrun (fd:=mkFd (top 49)) rfl rfl (gXpr rfl (d:=.non) ?_ (gXpr rfl (d:=.non) ?_ (gRet ?_)))
 ·refine' xCall ?L15a_43a ?L15a_43b ?L15a_43c;(case L15a_43a=>rfl);(case L15a_43b=>walk_at "xm");(case L15a_43c=>exact need_table (k+4*n) h1 h4 h1 h4)
 ·refine' xCall ?L15a_44a ?L15a_44b ?L15a_44c;(case L15a_44a=>rfl);(case L15a_44b=>walk_at "xm");(case L15a_44c=>exact ns)
 ·refine xCall rfl (by walk_at "xm") ?_
  have q:=worth n (k+3) h4 hs
  rw[show k+3+4*n+1=k+4*n+4 by omega] at q
  exact q
end M15
namespace M15
open PySem DE
abbrev plL(l:List Nat):D:=.tup (l.map fun(k:Nat)=>D.int (k:Int))
theorem plL_eq(l:List Nat):plL l=plc l.length fun i=>l.getD i 0:=by
 show D.tup _=D.tup _
 rw[Ls_of 0]
def subs(many:Nat):Nat->List (List Nat)
 | 0=>[[]]
 | s+1=>(subs many s).flatMap fun a=>(List.range' ((a.getLast?.map (· + 1)).getD 0) (many-(a.getLast?.map (· + 1)).getD 0)).map fun x=>a++[x]
theorem rising_ok(k:Nat){n s:Nat}(h1:1<=n)(h4:n<=4)(s1:1<=s)(sn:s<=n):callN T 60 (k+2) "rising_tuples" [.int (n:Int),.int (s:Int)]=some (.lst ((subs n s).map plL)):=by
 match n,s,h1,h4,s1,sn with
 | 1,1,_,_,_,_=>kernel_rfl
 | 2,1,_,_,_,_=>kernel_rfl
 | 2,2,_,_,_,_=>kernel_rfl
 | 3,1,_,_,_,_=>kernel_rfl
 | 3,2,_,_,_,_=>kernel_rfl
 | 3,3,_,_,_,_=>kernel_rfl
 | 4,1,_,_,_,_=>kernel_rfl
 | 4,2,_,_,_,_=>kernel_rfl
 | 4,3,_,_,_,_=>kernel_rfl
 | 4,4,_,_,_,_=>kernel_rfl
def okL(n:Nat)(l:List Nat):Bool:=l.all fun x=>decide (x<n)
theorem okL_ok{n:Nat}{l:List Nat}(h:okL n l=true):∀ j,j<l.length->l.getD j 0<n:=by
 unfold okL at h
 rw[List.all_eq_true] at h
 intro j hj
 have:=h l[j] (List.getElem_mem _)
 rw[List.getD_eq_getElem?_getD,List.getElem?_eq_getElem hj]
 simpa using this
def allOk(n s:Nat):Bool:=(subs n s).all fun S=>okL n S&&decide (S.length=s)
theorem subs_all{n s:Nat}(h1:1<=n)(h4:n<=4)(s1:1<=s)(sn:s<=n):allOk n s=true/\(subs n s).length<=6:=by
 match n,s,h1,h4,s1,sn with
 | 1,1,_,_,_,_=>decide
 | 2,1,_,_,_,_=>decide
 | 2,2,_,_,_,_=>decide
 | 3,1,_,_,_,_=>decide
 | 3,2,_,_,_,_=>decide
 | 3,3,_,_,_,_=>decide
 | 4,1,_,_,_,_=>decide
 | 4,2,_,_,_,_=>decide
 | 4,3,_,_,_,_=>decide
 | 4,4,_,_,_,_=>decide
theorem subs_ok{n s:Nat}{S:List Nat}(h1:1<=n)(h4:n<=4)(s1:1<=s)(sn:s<=n)(hS:S∈subs n s):okL n S=true/\S.length=s:=by
 have q:=List.all_eq_true.mp (subs_all h1 h4 s1 sn).1 S hS
 simp only[Bool.and_eq_true,decide_eq_true_eq] at q
 exact q
def dM(f:Nat->Nat->Int)(R C:List Nat):Int:=det R.length fun i j=>f (R.getD i 0) (C.getD j 0)
def mnD(f:Nat->Nat->Int)(R C:List Nat):D:=.tup [plL R,plL C,.int (dM f R C)]
theorem forGo_pm{α:Type}{f:D->Rho->Option Fl}{g:α->D}{R:List α->Rho}{whole:List α}(h:∀ pre x post,pre++x::post=whole->f (g x) (R pre)=some (.nxt (R (pre++[x])))):∀ {l pre:List α},pre++l=whole->forGo f (l.map g) (R pre)=some (.nxt (R whole))
  | [],pre,e=>by rw[List.append_nil] at e;rw[e];rfl
  | x :: l, pre, e => by
    simp only[List.map_cons,forGo,h pre x l e]
    exact forGo_pm h (l:=l) (pre:=pre++[x]) (by rw[List.append_assoc];exact e)
def lastG{α:Type}(g:α->D)(l:List α):Sl:=match l.getLast? with
 | none=>.no
 | some x=>.sh (g x)
theorem lastG_snoc{α:Type}{g:α->D}{l:List α}{x:α}:lastG g (l++[x])=.sh (g x):=by simp[lastG]
theorem lastG_or{α:Type}(g:α->D)(l:List α):lastG g l=.no\/∃ d,lastG g l=.sh d:=by
 unfold lastG
 split
 ·exact .inl rfl
 ·exact .inr ⟨_,rfl⟩
structure Tb (m n:Nat) (f:Nat->Nat->Int):Prop where
 m1:1<=m
 m4:m<=4
 n1:1<=n
 n4:n<=4
 sm:Sm m n f
theorem part_worth(k:Nat){m n:Nat}{f:Nat->Nat->Int}{R C:List Nat}(t:Tb m n f)(hR:okL m R=true)(hC:okL n C=true)(hl:C.length=R.length)(h4:R.length<=4) :
  callN T 60 (k+2) "part_at" [tbl m n f,plL R,plL C]=some (tbl R.length R.length fun i j=>f (R.getD i 0) (C.getD j 0))/\callN T 60 (k+4*R.length+1) "worth_of" [tbl R.length R.length fun i j=>f (R.getD i 0) (C.getD j 0)]=some (.int (dM f R C)):=by
 have r:=okL_ok hR
 have c:=okL_ok hC
 rw[hl] at c
 refine⟨?_,worth R.length k h4 fun i j hi hj=>t.sm _ _ (r i hi) (c j hj)⟩
 rw[plL_eq R,plL_eq C,hl]
 exact part_at k h4 h4 r c
theorem len_pl(l:List Nat):blt "len" [plL l]=some (.int (l.length:Int)):=by
 show some (D.int ((l.map fun(k:Nat)=>D.int (k:Int)).length:Int))=_
 rw[List.length_map]
def rhoR(t R:D)(md:List D)(c:Sl):Rho:=[("table",.sh t),("rows",.sh R),("told",.ow md),("columns",c)]
theorem minors_rows(k:Nat){m n:Nat}{f:Nat->Nat->Int}{R:List Nat}(t:Tb m n f)(hR:okL m R=true)(g1:1<=R.length)(gn:R.length<=n):callN T 60 (k+4*R.length+2) "minors_of_rows" [tbl m n f,plL R]=some (.lst ((subs n R.length).map fun C=>mnD f R C)):=by
 have t':=t
 obtain⟨m1,m4,n1,n4,hs⟩:=t'
 have key:∀ (s:Sl),(s=.no\/∃ d,s=.sh d)->blk (cxN T 60 (k+4*R.length+1)) 60 60 (mkFd (top 45)).sc ((mkFd (top 45)).body.drop 2) (rhoR (tbl m n f) (plL R) ((subs n R.length).map fun C=>mnD f R C) s)=some (.ret (.lst ((subs n R.length).map fun C=>mnD f R C))):=by
  intro s hs
  rcases hs with rfl | ⟨d,rfl⟩
  ·exact gRet (by walk_at "xv")
  ·exact gRet (by walk_at "xv")
 refine xrun (fd:=mkFd (top 45)) rfl rfl (gSet rfl (d:=.lst []) (by walk_at "xv") (gFor (l:=(subs n R.length).map plL) (fl1:=.nxt (rhoR (tbl m n f) (plL R) ((subs n R.length).map fun C=>mnD f R C) (lastG plL (subs n R.length)))) (wSq (x:=.lst ((subs n R.length).map plL)) rfl ?_ rfl) ?_ (key _ (lastG_or _ _))))
 ·refine xCall rfl (xCons (x:=.int (n:Int)) ?_ (xCons (x:=.int (R.length:Int)) ?_ xNil)) (rising_ok (k+4*R.length-1+0) n1 n4 g1 gn |> fun q=>by rw[show k+4*R.length-1+0+2=k+4*R.length+1 by omega] at q;exact q)
  ·walk_at "xv"
  ·refine' xBlt ?L15n_1a ?L15n_1b ?L15n_1c ?L15n_1d ?L15n_1e;(case L15n_1a=>rfl);(case L15n_1b=>rfl);(case L15n_1c=>rfl);(case L15n_1d=>walk_at "xm");(case L15n_1e=>exact len_pl R)
 ·refine forGo_pm (R:=fun pre=>rhoR (tbl m n f) (plL R) (pre.map fun C=>mnD f R C) (lastG plL pre)) (whole:=subs n R.length) (fun pre C post e=>?_) (pre:=[]) rfl
  have hC:=subs_ok n1 n4 g1 gn (S:=C) (by rw[<- e];simp)
  have hz:pre.length<=6:=by
   have h6:=(subs_all n1 n4 g1 gn).2
   rw[<- e] at h6
   simp at h6
   omega
  obtain⟨p1,p2⟩:=part_worth (k+4*R.length-1) t hR hC.1 hC.2 (by omega)
  obtain⟨q1,q2⟩:=part_worth k t hR hC.1 hC.2 (by omega)
  rw[show k+4*R.length-1+2=k+4*R.length+1 by omega] at p1
  refine fStep (ρ1:=rhoR (tbl m n f) (plL R) (pre.map fun C=>mnD f R C) (.sh (plL C))) rfl ?_
  show _=some (Fl.nxt (rhoR (tbl m n f) (plL R) ((pre++[C]).map fun C=>mnD f R C) (lastG plL (pre++[C]))))
  rw[List.map_append,lastG_snoc]
  refine gApp (d:=mnD f R C) rfl rfl rfl (szlN (by rw[List.length_map];omega)) ?_ rfl
  exact xTup (xCons (by walk_at "xv") (xCons (by walk_at "xv") (xCons (xCall rfl (xCons (xCall rfl (by walk_at "xm") p1) xNil) q2) xNil))) rfl
theorem len_fm{α β:Type}{g:α->List β}{b:Nat}:∀ {l:List α},(∀ x∈l,(g x).length<=b)->(l.flatMap g).length<=l.length*b
  | [],_=>by simp
  | x :: l, h => by
    have h1:=h x List.mem_cons_self
    have h2:=len_fm (l:=l) fun y hy=>h y (List.mem_cons_of_mem _ hy)
    simp only[List.flatMap_cons,List.length_append,List.length_cons,Nat.succ_mul]
    omega
def mS(m n:Nat)(f:Nat->Nat->Int)(s:Nat):List D:=(subs m s).flatMap fun R=>(subs n s).map fun C=>mnD f R C
def mA(m n:Nat)(f:Nat->Nat->Int)(i:Nat):List D:=(List.range i).flatMap fun j=>mS m n f (j+1)
theorem mS_len{m n s:Nat}{f:Nat->Nat->Int}(m1:1<=m)(m4:m<=4)(n1:1<=n)(n4:n<=4)(s1:1<=s)(sm:s<=m)(sn:s<=n):(mS m n f s).length<=36:=by
 have h1:=(subs_all m1 m4 s1 sm).2
 have h2:=(subs_all n1 n4 s1 sn).2
 have:=len_fm (l:=subs m s) (g:=fun R=>(subs n s).map fun C=>mnD f R C) (b:=6) fun R _=>by rw[List.length_map];exact h2
 unfold mS
 omega
theorem mA_len{m n i:Nat}{f:Nat->Nat->Int}(m1:1<=m)(m4:m<=4)(n1:1<=n)(n4:n<=4)(im:i<=m)(in':i<=n):(mA m n f i).length<=i*36:=by
 have:=len_fm (l:=List.range i) (g:=fun j=>mS m n f (j+1)) (b:=36) fun j hj=>by
  have:=List.mem_range.mp hj
  exact mS_len m1 m4 n1 n4 (by omega) (by omega) (by omega)
 rw[List.length_range] at this
 exact this
theorem mA_succ{m n i:Nat}{f:Nat->Nat->Int}:mA m n f (i+1)=mA m n f i++mS m n f (i+1):=by
 unfold mA
 rw[List.range_succ,List.flatMap_append]
 simp
theorem dist{α β:Type}{g:α->List β}{l:List α}{x:α}:(l++[x]).flatMap g=l.flatMap g++g x:=by
 rw[List.flatMap_append];simp
def rhoZ(t s:D)(md:List D)(c:Sl):Rho:=[("table",.sh t),("size",.sh s),("told",.ow md),("rows",c)]
theorem minors_size(k:Nat){m n s:Nat}{f:Nat->Nat->Int}(t:Tb m n f)(s1:1<=s)(hm:s<=m)(hn:s<=n):callN T 60 (k+4*s+3) "minors_of_size" [tbl m n f,.int (s:Int)]=some (.lst (mS m n f s)):=by
 have t':=t
 obtain⟨m1,m4,n1,n4,hs⟩:=t'
 have key:∀ (c:Sl),(c=.no\/∃ d,c=.sh d)->blk (cxN T 60 (k+4*s+2)) 60 60 (mkFd (top 46)).sc ((mkFd (top 46)).body.drop 2) (rhoZ (tbl m n f) (.int (s:Int)) (mS m n f s) c)=some (.ret (.lst (mS m n f s))):=by
  intro c hc
  rcases hc with rfl | ⟨d,rfl⟩
  ·exact gRet (by walk_at "xv")
  ·exact gRet (by walk_at "xv")
 refine xrun (fd:=mkFd (top 46)) rfl rfl (gSet rfl (d:=.lst []) (by walk_at "xv") (gFor (l:=(subs m s).map plL) (fl1:=.nxt (rhoZ (tbl m n f) (.int (s:Int)) (mS m n f s) (lastG plL (subs m s)))) (wSq (x:=.lst ((subs m s).map plL)) rfl ?_ rfl) ?_ (key _ (lastG_or _ _))))
 ·refine xCall rfl (xCons (x:=.int (m:Int)) ?_ (xCons (x:=.int (s:Int)) ?_ xNil)) (rising_ok (k+4*s) m1 m4 s1 hm)
  ·walk_at "xv"
  ·walk_at "xv"
 ·refine forGo_pm (R:=fun pre=>rhoZ (tbl m n f) (.int (s:Int)) (pre.flatMap fun R=>(subs n s).map fun C=>mnD f R C) (lastG plL pre)) (whole:=subs m s) (fun pre R post e=>?_) (pre:=[]) rfl
  have hR:=subs_ok m1 m4 s1 hm (S:=R) (by rw[<- e];simp)
  have h6:=(subs_all n1 n4 s1 hn).2
  have hz:(pre.flatMap fun R=>(subs n s).map fun C=>mnD f R C).length<=36:=by
   have h1:=(subs_all m1 m4 s1 hm).2
   rw[<- e] at h1
   simp at h1
   have:=len_fm (l:=pre) (g:=fun R=>(subs n s).map fun C=>mnD f R C) (b:=6) fun R _=>by rw[List.length_map];exact h6
   omega
  have mr:=minors_rows k t hR.1 (by rw[hR.2];exact s1) (by rw[hR.2];exact hn)
  rw[hR.2] at mr
  refine fStep (ρ1:=rhoZ (tbl m n f) (.int (s:Int)) (pre.flatMap fun R=>(subs n s).map fun C=>mnD f R C) (.sh (plL R))) rfl ?_
  show _=some (Fl.nxt (rhoZ (tbl m n f) (.int (s:Int)) ((pre++[R]).flatMap fun R=>(subs n s).map fun C=>mnD f R C) (lastG plL (pre++[R]))))
  rw[dist,lastG_snoc]
  refine gExt rfl rfl rfl rfl (szlN (by rw[List.length_map];omega)) ?_ rfl
  exact xCall rfl (by walk_at "xm") mr
theorem greatest(k:Nat){m n:Nat}{f:Nat->Nat->Int}(h:1<=m):callN T 60 (k+1) "greatest_size" [tbl m n f]=some (.int ((min m n:Nat):Int)):=by
 refine xrun (fd:=mkFd (top 44)) rfl rfl (gRet (xEqD (xBlt (ds:=[.int (m:Int),.int (n:Int)]) rfl rfl rfl (xCons ?_ (xCons ?_ xNil)) rfl) ?_))
 ·walk_at "xv"
 ·walk_at "xv"
 ·congr 1
  by_cases q:(n:Int)<(m:Int)
  ·rw[if_pos q];omega
  ·rw[if_neg q];omega
def rhoI(t:D)(md:List D)(c:Sl):Rho:=[("table",.sh t),("told",.ow md),("size",c)]
def szS:Nat->Sl
 | 0=>.no
 | i+1=>.sh (.int (1+(i:Int)))
theorem minors_in(k:Nat){m n:Nat}{f:Nat->Nat->Int}(t:Tb m n f):callN T 60 (k+20) "minors_in" [tbl m n f]=some (.lst (mA m n f (min m n))):=by
 have t':=t
 obtain⟨m1,m4,n1,n4,hs⟩:=t'
 have key:∀ (c:Sl),(c=.no\/∃ d,c=.sh d)->blk (cxN T 60 (k+19)) 60 60 (mkFd (top 47)).sc ((mkFd (top 47)).body.drop 2) (rhoI (tbl m n f) (mA m n f (min m n)) c)=some (.ret (.lst (mA m n f (min m n)))):=by
  intro c hc
  rcases hc with rfl | ⟨d,rfl⟩
  ·exact gRet (by walk_at "xv")
  ·exact gRet (by walk_at "xv")
 refine xrun (fd:=mkFd (top 47)) rfl rfl (gSet rfl (d:=.lst []) (by walk_at "xv") (gFor (l:=Ls (min m n) fun i=>.int (1+(i:Int))) (fl1:=.nxt (rhoI (tbl m n f) (mA m n f (min m n)) (szS (min m n)))) ?_ ?_ (key _ ?_)))
 ·have e:rangeD 1 (((min m n:Nat):Int)+1)=Ls (min m n) fun i=>.int (1+(i:Int)):=by
   rw[rangeD_eq]
   congr 1
   omega
  rw[<- e]
  refine wR2 rfl (by walk_at "xv") (xBin (x:=.int ((min m n:Nat):Int)) ?_ (by walk_at "xv") rfl) ?_
  ·refine' xCall ?L15n_2a ?L15n_2b ?L15n_2c;(case L15n_2a=>rfl);(case L15n_2b=>walk_at "xm");(case L15n_2c=>exact greatest (k+18) m1)
  ·unfold rng62
   simp only[Bool.and_eq_true,decide_eq_true_eq]
   omega
 ·refine forGo_Ls (R:=fun i=>rhoI (tbl m n f) (mA m n f i) (szS i)) fun i hi=>?_
  have hl:=mA_len (f:=f) m1 m4 n1 n4 (i:=i) (by omega) (by omega)
  have hl2:=mS_len (f:=f) m1 m4 n1 n4 (s:=i+1) (by omega) (by omega) (by omega)
  refine fStep (ρ1:=rhoI (tbl m n f) (mA m n f i) (.sh (.int (1+(i:Int))))) rfl ?_
  show _=some (Fl.nxt (rhoI (tbl m n f) (mA m n f (i+1)) (.sh (.int (1+(i:Int))))))
  rw[mA_succ]
  refine gExt rfl rfl rfl rfl (szlN (by omega)) ?_ rfl
  refine xCall rfl (xCons (x:=tbl m n f) (by walk_at "xv") (xCons (x:=.int ((i+1:Nat):Int)) (xEqD (by walk_at "xv") (congrArg D.int (by omega))) xNil)) ?_
  have q:=minors_size (k+16-4*(i+1)) t (s:=i+1) (by omega) (by omega) (by omega)
  rw[show k+16-4*(i+1)+4*(i+1)+3=k+19 by omega] at q
  exact q
 ·cases h:min m n with
  | zero=>exact .inl rfl
  | succ i=>exact .inr ⟨_,rfl⟩
theorem all_minors(k:Nat){m n:Nat}{f:Nat->Nat->Int}(t:Tb m n f):callN T 60 (k+21) "all_minors" [tbl m n f]=some (.lst (mA m n f (min m n))):=by
 refine xrun (fd:=mkFd (top 48)) rfl rfl (gXpr rfl (d:=.non) ?_ (gRet ?_))
 ·refine' xCall ?L15n_3a ?L15n_3b ?L15n_3c;(case L15n_3a=>rfl);(case L15n_3b=>walk_at "xm");(case L15n_3c=>exact need_table (k+16) t.m1 t.m4 t.n1 t.n4)
 ·refine' xCall ?L15n_4a ?L15n_4b ?L15n_4c;(case L15n_4a=>rfl);(case L15n_4b=>walk_at "xm");(case L15n_4c=>exact minors_in k t)
def sgn1(b:Nat):Int:=if b%2=1 then -1 else 1
def ldet:Nat->(Nat->Nat->Int)->Int
 | 0,_=>1
 | n+1,f=>sumN (n+1) fun c=>sgn1 (n+c)*f n c*ldet n fun a b=>f a (skip c b)
theorem small_sgn{b:Nat}{x:Int}(h:small x=true):small (sgn1 b*x)=true:=by
 unfold small at h ⊢
 simp only[Bool.and_eq_true,decide_eq_true_eq] at h ⊢
 unfold sgn1
 split<;>omega
def rhoW(t md la:D)(c r s:Sl):Rho:=[("_law_table_here",.sh t),("_law_made",.sh md),("_law_last",.sh la),("_law_column",c),("_law_rest",r),("_law_sign",s)]
def lwB:List Stmt:=match (mkFd (top 55)).body.getD 3 (.Pass ⟨0,0,0,0⟩) with | .For _ _ b _ _=>b | _=>[]
def lwT:Expr:=match (mkFd (top 55)).body.getD 3 (.Pass ⟨0,0,0,0⟩) with | .For t _ _ _ _=>t | _=>.Name "" ⟨0,0,0,0⟩
theorem lw_step(k:Nat){n c:Nat}{f:Nat->Nat->Int}{v:Int}{s1 s2 s3:Sl}(c1:nOw s1=true)(c2:nOw s2=true)(c3:nOw s3=true)(h4:n+1<=4)(hc:c<n+1)(hs:Sm (n+1) (n+1) f)(ih:callN T 60 (k+1) "_law_worth" [tbl n n fun a b=>f a (skip c b)]=some (.int (ldet n fun a b=>f a (skip c b)))) :
  fF (cxN T 60 (k+1)) 60 59 (mkFd (top 55)).sc lwT lwB (.int (c:Int)) (rhoW (tbl (n+1) (n+1) f) (.int v) (.int (n:Int)) s1 s2 s3) =
   some (.nxt (rhoW (tbl (n+1) (n+1) f) (.int (v+sgn1 (n+c)*f n c*ldet n fun a b=>f a (skip c b))) (.int (n:Int)) (.sh (.int (c:Int))) (.sh (tbl n n fun a b=>f a (skip c b))) (.sh (.int (sgn1 (n+c)))))):=by
 refine fStep (ρ1:=rhoW (tbl (n+1) (n+1) f) (.int v) (.int (n:Int)) (.sh (.int (c:Int))) s2 s3) rfl ?_
 refine cSetN (d:=tbl n n fun a b=>f a (skip c b)) (calm_c rfl (calm_c rfl (calm_c rfl (calm_c rfl (calm_c c2 (calm_c c3 rfl)))))) rfl rfl ?_ ?_
 ·refine xBlt rfl rfl rfl (xCons ?_ xNil) bTup
  refine' xComp ?a1 (wSqT ?a2 (xSlHi (m:=n+1) (j:=n) (h:=fun i=>row (n+1) (f i)) ?a3 ?a4 (by omega))) ?a5 (compGo_Ls ?a6);(case a1=>rfl);(case a2=>rfl);(case a3=>walk_at "xv");(case a4=>walk_at "xv");(case a5=>exact szlLs (by omega))
  case a6 =>
   intro i hi
   refine' cStep ?b1 (xOut (m:=n+1) (r:=c) (h:=fun j=>.int (f i j)) ?b2 ?b3 ?b4 ?b5 hc (by omega));(case b1=>rfl);(case b2=>walk_at "xv");(case b3=>walk_at "xv");(case b4=>walk_at "xv")
   case b5=>exact xBin (by walk_at "xv") (by walk_at "xv") rfl
 show blk _ _ _ _ _ (rhoW (tbl (n+1) (n+1) f) (.int v) (.int (n:Int)) (.sh (.int (c:Int))) (.sh (tbl n n fun a b=>f a (skip c b))) s3)=_
 refine cSetN (d:=.int (sgn1 (n+c))) (calm_c rfl (calm_c rfl (calm_c rfl (calm_c rfl (calm_c rfl (calm_c c3 rfl)))))) rfl rfl ?_ ?_
 ·unfold sgn1
  by_cases q:(n+c)%2=1
  ·rw[if_pos q]
   exact xIfT (xCmp (x:=.int (((n+c)%2:Nat):Int)) (xEqD (xBin (xBin (by walk_at "xv") (by walk_at "xv") rfl) (by walk_at "xv") (bMod (by decide))) (congrArg D.int (by omega))) (by walk_at "xv") (oEqI (by omega))) (xNeg (by walk_at "xv"))
  ·rw[if_neg q]
   exact xIfF (xCmp (x:=.int (((n+c)%2:Nat):Int)) (xEqD (xBin (xBin (by walk_at "xv") (by walk_at "xv") rfl) (by walk_at "xv") (bMod (by decide))) (congrArg D.int (by omega))) (by walk_at "xv") (oEqF (by omega))) (by walk_at "xv")
 refine gSet rfl (d:=.int (v+sgn1 (n+c)*f n c*ldet n fun a b=>f a (skip c b))) ?_ rfl
 refine xBin (x:=.int v) (by walk_at "xv") (xBin (x:=.int (sgn1 (n+c)*f n c)) (xBin (x:=.int (sgn1 (n+c))) (y:=.int (f n c)) (by walk_at "xv") ?_ (bMul (.inl ?_))) (xCall rfl (by walk_at "xm") ih) (bMul (.inl (small_sgn (hs n c (by omega) hc))))) rfl
 ·refine xIxL (m:=n+1) (j:=c) (h:=fun j=>.int (f n j)) (xIxL (m:=n+1) (j:=n) (h:=fun i=>row (n+1) (f i)) ?_ ?_ (by omega) rfl rfl) ?_ hc rfl rfl
  ·walk_at "xv"
  ·walk_at "xv"
  ·walk_at "xv"
 ·unfold sgn1;split<;>decide
def s3(g:Nat->D):Nat->Sl
 | 0=>.no
 | i+1=>.sh (g i)
theorem s3_calm(g:Nat->D)(i:Nat):nOw (s3 g i)=true:=by cases i<;>rfl
theorem nil_tbl{n:Nat}{f:Nat->Nat->Int}:cmpop .Eq (tbl (n+1) (n+1) f) (.tup [])=some (.bl false):=by
 rw[oEq (Nat.le_trans dep_tbl (by decide)) (by simp[dep,deps])]
 show some (D.bl (deqs (Ls (n+1) _) []))=_
 simp[Ls,List.range_succ_eq_map,deqs]
theorem lawWorth:∀ (n k:Nat) {f:Nat->Nat->Int},n<=4->Sm n n f->callN T 60 (k+n+1) "_law_worth" [tbl n n f]=some (.int (ldet n f))
  | 0, k, f, _, _ => by
    show callN T 60 (k+1) "_law_worth" [.tup []]=some (.int 1)
    kernel_rfl
  | n + 1, k, f, h4, hs => by
    have ih:=fun c (hc:c<n+1)=>lawWorth n k (f:=fun a b=>f a (skip c b)) (by omega) fun i j hi hj=>hs _ _ (by omega) (by unfold skip;split<;>omega)
    show callN T 60 (k+n+1+1) "_law_worth" _=_
    refine xrun (fd:=mkFd (top 55)) rfl rfl (gIfN (xCmp (x:=tbl (n+1) (n+1) f) (by walk_at "xv") (by walk_at "xv") nil_tbl) (gSet rfl (d:=.int 0) (by walk_at "xv") (gSet rfl (d:=.int (n:Int)) ?_ (gFor (l:=Ls (n+1) fun i=>.int (i:Int)) (fl1:=.nxt (rhoW (tbl (n+1) (n+1) f) (.int (ldet (n+1) f)) (.int (n:Int)) (.sh (.int (n:Int))) (s3 (fun c=>tbl n n fun a b=>f a (skip c b)) (n+1)) (s3 (fun c=>.int (sgn1 (n+c))) (n+1)))) ?_ ?_ (gRet ?_)))))
    · refine xEqD (xBin (x:=.int ((n+1:Nat):Int)) ?_ (by walk_at "xv") rfl) (congrArg D.int (by omega))
      walk_at "xv"
    · walk_at "xi"
    · exact forGo_Ls (R:=fun i=>rhoW (tbl (n+1) (n+1) f) (.int (sumN i fun c=>sgn1 (n+c)*f n c*ldet n fun a b=>f a (skip c b))) (.int (n:Int)) (s3 (fun c=>.int (c:Int)) i) (s3 (fun c=>tbl n n fun a b=>f a (skip c b)) i) (s3 (fun c=>.int (sgn1 (n+c))) i)) fun i hi=>lw_step (k+n) (s3_calm _ _) (s3_calm _ _) (s3_calm _ _) h4 hi hs (ih i hi)
    · walk_at "xv"
section
variable {cx:Cxt} {sc:Scope} {ρ ρ':Rho} {e:Expr} {p:Pos} {d:D} {nm:Str} {F m:Nat} {r:List Stmt} {fl:Fl} {y:Str} {s:Sl} {ds:List D}
end
theorem det1(f:Nat->Nat->Int):det 1 f=f 0 0:=by simp[det,sumN,sg]
theorem det2(f:Nat->Nat->Int):det 2 f=f 0 0*f 1 1-f 0 1*f 1 0:=by
 simp[det,sumN,sg,sub,skip]
 grind
theorem det3(f:Nat->Nat->Int):det 3 f=f 0 0*(f 1 1*f 2 2-f 1 2*f 2 1)-f 0 1*(f 1 0*f 2 2-f 1 2*f 2 0)+f 0 2*(f 1 0*f 2 1-f 1 1*f 2 0):=by
 have e:det 3 f=f 0 0*det 2 (sub f 0 0)+f 0 1 * -(det 2 (sub f 0 1))+f 0 2*det 2 (sub f 0 2):=by
  simp[det,sumN,sg]
 rw[e,det2,det2,det2]
 simp[sub,skip]
 grind
theorem det4(f:Nat->Nat->Int):det 4 f=f 0 0*det 3 (sub f 0 0)-f 0 1*det 3 (sub f 0 1)+f 0 2*det 3 (sub f 0 2)-f 0 3*det 3 (sub f 0 3):=by
 have e:det 4 f=f 0 0*det 3 (sub f 0 0)+f 0 1 * -(det 3 (sub f 0 1))+f 0 2*det 3 (sub f 0 2)+f 0 3 * -(det 3 (sub f 0 3)):=by
  simp only[show det 4 f=sumN 4 (fun j=>f 0 j*sg (0+j) (det 3 (sub f 0 j))) from rfl,sumN,sg]
  simp
 rw[e]
 grind
theorem ld1(g:Nat->Nat->Int):ldet 1 g=det 1 g:=by
 simp only[det1,ldet,sumN,sgn1]
 grind
theorem ld2(g:Nat->Nat->Int):ldet 2 g=det 2 g:=by
 rw[show ldet 2 g=sumN 2 (fun c=>sgn1 (1+c)*g 1 c*ldet 1 fun a b=>g a (skip c b)) from rfl]
 simp only[ld1,det2,det1,sumN,sgn1,skip]
 simp
 grind
theorem ld3(g:Nat->Nat->Int):ldet 3 g=det 3 g:=by
 rw[show ldet 3 g=sumN 3 (fun c=>sgn1 (2+c)*g 2 c*ldet 2 fun a b=>g a (skip c b)) from rfl]
 simp only[ld2,det3,det2,sumN,sgn1,skip]
 simp
 grind
theorem ld4(g:Nat->Nat->Int):ldet 4 g=det 4 g:=by
 rw[show ldet 4 g=sumN 4 (fun c=>sgn1 (3+c)*g 3 c*ldet 3 fun a b=>g a (skip c b)) from rfl]
 simp only[ld3,det4,det3,sumN,sgn1,sub,skip]
 simp
 grind (splits:=0)
theorem ld_eq{n:Nat}(h1:1<=n)(h4:n<=4)(f:Nat->Nat->Int):ldet n f=det n f:=by
 match n,h1,h4 with
 | 1,_,_=>exact ld1 f
 | 2,_,_=>exact ld2 f
 | 3,_,_=>exact ld3 f
 | 4,_,_=>exact ld4 f
theorem calm_c{y:Str}{s:Sl}{ρ:Rho}(h:nOw s=true)(r:calmR ρ=true):calmR ((y,s)::ρ)=true:=by
 unfold calmR at r ⊢
 rw[List.all_cons,h,r];rfl
section
variable {cx:Cxt} {sc:Scope} {ρ ρ':Rho} {e:Expr} {p:Pos} {d:D} {nm:Str} {F m:Nat} {r:List Stmt} {fl:Fl} {y:Str} {s:Sl} {ds:List D}
theorem fz_n:frz F e []=[]:=rfl
end
end M15
namespace M15
open PySem DE
theorem det0(f:Nat->Nat->Int):det 0 f=1:=rfl
set_option maxHeartbeats 400000000
theorem cb11(A B:Nat->Nat->Int):det 1 (fun i j=>sumN 1 fun l=>A i l*B l j)=sumN (subs 1 1).length fun t=>det 1 (fun i j=>A i (((subs 1 1).getD t []).getD j 0))*det 1 (fun i j=>B (((subs 1 1).getD t []).getD i 0) j):=by
 rw[show subs 1 1=[[0]] from rfl]
 simp only[List.length_cons,List.length_nil,Nat.zero_add,Nat.reduceAdd,sumN,List.getD_cons_zero,List.getD_cons_succ,det4,det3,det2,det1,sub,skip]
 try grind (splits:=0)
theorem cb12(A B:Nat->Nat->Int):det 1 (fun i j=>sumN 2 fun l=>A i l*B l j)=sumN (subs 2 1).length fun t=>det 1 (fun i j=>A i (((subs 2 1).getD t []).getD j 0))*det 1 (fun i j=>B (((subs 2 1).getD t []).getD i 0) j):=by
 rw[show subs 2 1=[[0],[1]] from rfl]
 simp only[List.length_cons,List.length_nil,Nat.zero_add,Nat.reduceAdd,sumN,List.getD_cons_zero,List.getD_cons_succ,det4,det3,det2,det1,sub,skip]
 try grind (splits:=0)
theorem cb13(A B:Nat->Nat->Int):det 1 (fun i j=>sumN 3 fun l=>A i l*B l j)=sumN (subs 3 1).length fun t=>det 1 (fun i j=>A i (((subs 3 1).getD t []).getD j 0))*det 1 (fun i j=>B (((subs 3 1).getD t []).getD i 0) j):=by
 rw[show subs 3 1=[[0],[1],[2]] from rfl]
 simp only[List.length_cons,List.length_nil,Nat.zero_add,Nat.reduceAdd,sumN,List.getD_cons_zero,List.getD_cons_succ,det4,det3,det2,det1,sub,skip]
 try grind (splits:=0)
theorem cb14(A B:Nat->Nat->Int):det 1 (fun i j=>sumN 4 fun l=>A i l*B l j)=sumN (subs 4 1).length fun t=>det 1 (fun i j=>A i (((subs 4 1).getD t []).getD j 0))*det 1 (fun i j=>B (((subs 4 1).getD t []).getD i 0) j):=by
 rw[show subs 4 1=[[0],[1],[2],[3]] from rfl]
 simp only[List.length_cons,List.length_nil,Nat.zero_add,Nat.reduceAdd,sumN,List.getD_cons_zero,List.getD_cons_succ,det4,det3,det2,det1,sub,skip]
 try grind (splits:=0)
theorem cb22(A B:Nat->Nat->Int):det 2 (fun i j=>sumN 2 fun l=>A i l*B l j)=sumN (subs 2 2).length fun t=>det 2 (fun i j=>A i (((subs 2 2).getD t []).getD j 0))*det 2 (fun i j=>B (((subs 2 2).getD t []).getD i 0) j):=by
 rw[show subs 2 2=[[0,1]] from rfl]
 simp only[List.length_cons,List.length_nil,Nat.zero_add,Nat.reduceAdd,sumN,List.getD_cons_zero,List.getD_cons_succ,det4,det3,det2,det1,sub,skip]
 try grind (splits:=0)
theorem cb23(A B:Nat->Nat->Int):det 2 (fun i j=>sumN 3 fun l=>A i l*B l j)=sumN (subs 3 2).length fun t=>det 2 (fun i j=>A i (((subs 3 2).getD t []).getD j 0))*det 2 (fun i j=>B (((subs 3 2).getD t []).getD i 0) j):=by
 rw[show subs 3 2=[[0,1],[0,2],[1,2]] from rfl]
 simp only[List.length_cons,List.length_nil,Nat.zero_add,Nat.reduceAdd,sumN,List.getD_cons_zero,List.getD_cons_succ,det4,det3,det2,det1,sub,skip]
 try grind (splits:=0)
theorem cb24(A B:Nat->Nat->Int):det 2 (fun i j=>sumN 4 fun l=>A i l*B l j)=sumN (subs 4 2).length fun t=>det 2 (fun i j=>A i (((subs 4 2).getD t []).getD j 0))*det 2 (fun i j=>B (((subs 4 2).getD t []).getD i 0) j):=by
 rw[show subs 4 2=[[0,1],[0,2],[0,3],[1,2],[1,3],[2,3]] from rfl]
 simp only[List.length_cons,List.length_nil,Nat.zero_add,Nat.reduceAdd,sumN,List.getD_cons_zero,List.getD_cons_succ,det4,det3,det2,det1,sub,skip]
 try grind (splits:=0)
theorem cb33(A B:Nat->Nat->Int):det 3 (fun i j=>sumN 3 fun l=>A i l*B l j)=sumN (subs 3 3).length fun t=>det 3 (fun i j=>A i (((subs 3 3).getD t []).getD j 0))*det 3 (fun i j=>B (((subs 3 3).getD t []).getD i 0) j):=by
 rw[show subs 3 3=[[0,1,2]] from rfl]
 simp only[List.length_cons,List.length_nil,Nat.zero_add,Nat.reduceAdd,sumN,List.getD_cons_zero,List.getD_cons_succ,det4,det3,det2,det1,sub,skip]
 try grind (splits:=0)
theorem cb34(A B:Nat->Nat->Int):det 3 (fun i j=>sumN 4 fun l=>A i l*B l j)=sumN (subs 4 3).length fun t=>det 3 (fun i j=>A i (((subs 4 3).getD t []).getD j 0))*det 3 (fun i j=>B (((subs 4 3).getD t []).getD i 0) j):=by
 rw[show subs 4 3=[[0,1,2],[0,1,3],[0,2,3],[1,2,3]] from rfl]
 simp only[List.length_cons,List.length_nil,Nat.zero_add,Nat.reduceAdd,sumN,List.getD_cons_zero,List.getD_cons_succ,det4,det3,det2,det1,sub,skip]
 try grind (splits:=0)
theorem cb44(A B:Nat->Nat->Int):det 4 (fun i j=>sumN 4 fun l=>A i l*B l j)=sumN (subs 4 4).length fun t=>det 4 (fun i j=>A i (((subs 4 4).getD t []).getD j 0))*det 4 (fun i j=>B (((subs 4 4).getD t []).getD i 0) j):=by
 rw[show subs 4 4=[[0,1,2,3]] from rfl]
 simp only[List.length_cons,List.length_nil,Nat.zero_add,Nat.reduceAdd,sumN,List.getD_cons_zero,List.getD_cons_succ,det4,det3,det2,det1,sub,skip]
 simp
 try grind (splits:=0)
def left(n:Nat)(l:List Nat):List Nat:=(List.range n).filter fun k => !l.contains k
def lapT(A B:Nat->Nat->Int):List (Int×List Nat×List Nat×List Nat×List Nat)->Int
 | []=>0
 | (s,R,C,R',C')::r=>s*(dM A R C*dM B R' C')+lapT A B r
def lapL(n:Nat):List (Int×List Nat×List Nat×List Nat×List Nat):=(List.range (n+1)).flatMap fun i=>(subs n i).flatMap fun R=>(subs n i).map fun C=>(if(R.sum+C.sum)%2=1 then -1 else 1,R,C,left n R,left n C)
theorem lapT_zero{A B:Nat->Nat->Int}:∀ {l:List (Int×List Nat×List Nat×List Nat×List Nat)},(∀ x∈l,dM A x.2.1 x.2.2.1*dM B x.2.2.2.1 x.2.2.2.2=0)->lapT A B l=0
  | [],_=>rfl
  | (s, R, C, R', C') :: r, h => by
    have h1:=h _ List.mem_cons_self
    simp only at h1
    simp only[lapT,h1,Int.mul_zero,Int.zero_add]
    exact lapT_zero fun x hx=>h x (List.mem_cons_of_mem _ hx)
theorem lap_zero{n:Nat}{A B:Nat->Nat->Int}(h:∀ i,i<=n->∀ R∈subs n i,∀ C∈subs n i,dM A R C*dM B (left n R) (left n C)=0):lapT A B (lapL n)=0:=by
 refine lapT_zero fun x hx=>?_
 obtain⟨i,hi,hx⟩:=List.mem_flatMap.mp hx
 obtain⟨R,hR,hx⟩:=List.mem_flatMap.mp hx
 obtain⟨C,hC,rfl⟩:=List.mem_map.mp hx
 exact h i (by have:=List.mem_range.mp hi;omega) R hR C hC
theorem det_sum1(A B:Nat->Nat->Int):det 1 (fun i j=>A i j+B i j)=lapT A B (lapL 1):=by
 rw[show lapL 1=[(1,[],[],[0],[0]),(1,[0],[0],[],[])] from by decide +kernel]
 simp only[lapT,dM,List.length_cons,List.length_nil,Nat.zero_add,Nat.reduceAdd,List.getD_cons_zero,List.getD_cons_succ,det4,det3,det2,det1,det0,sub,skip]
 try grind (splits:=0)
theorem det_sum2(A B:Nat->Nat->Int):det 2 (fun i j=>A i j+B i j)=lapT A B (lapL 2):=by
 rw[show lapL 2=[(1,[],[],[0,1],[0,1]),(1,[0],[0],[1],[1]),(-1,[0],[1],[1],[0]),(-1,[1],[0],[0],[1]),(1,[1],[1],[0],[0]),(1,[0,1],[0,1],[],[])] from by decide +kernel]
 simp only[lapT,dM,List.length_cons,List.length_nil,Nat.zero_add,Nat.reduceAdd,List.getD_cons_zero,List.getD_cons_succ,det4,det3,det2,det1,det0,sub,skip]
 try grind (splits:=0)
theorem det_sum3(A B:Nat->Nat->Int):det 3 (fun i j=>A i j+B i j)=lapT A B (lapL 3):=by
 rw[show lapL 3=[(1,[],[],[0,1,2],[0,1,2]),(1,[0],[0],[1,2],[1,2]),(-1,[0],[1],[1,2],[0,2]),(1,[0],[2],[1,2],[0,1]),(-1,[1],[0],[0,2],[1,2]),(1,[1],[1],[0,2],[0,2]),(-1,[1],[2],[0,2],[0,1]),(1,[2],[0],[0,1],[1,2]),(-1,[2],[1],[0,1],[0,2]),(1,[2],[2],[0,1],[0,1]),(1,[0,1],[0,1],[2],[2]),(-1,[0,1],[0,2],[2],[1]),(1,[0,1],[1,2],[2],[0]),(-1,[0,2],[0,1],[1],[2]),(1,[0,2],[0,2],[1],[1]),(-1,[0,2],[1,2],[1],[0]),(1,[1,2],[0,1],[0],[2]),(-1,[1,2],[0,2],[0],[1]),(1,[1,2],[1,2],[0],[0]),(1,[0,1,2],[0,1,2],[],[])] from by decide +kernel]
 simp only[lapT,dM,List.length_cons,List.length_nil,Nat.zero_add,Nat.reduceAdd,List.getD_cons_zero,List.getD_cons_succ,det4,det3,det2,det1,det0,sub,skip]
 try grind (splits:=0)
theorem det_sum4(A B:Nat->Nat->Int):det 4 (fun i j=>A i j+B i j)=lapT A B (lapL 4):=by
 rw[show lapL 4=[(1,[],[],[0,1,2,3],[0,1,2,3]),(1,[0],[0],[1,2,3],[1,2,3]),(-1,[0],[1],[1,2,3],[0,2,3]),(1,[0],[2],[1,2,3],[0,1,3]),(-1,[0],[3],[1,2,3],[0,1,2]),(-1,[1],[0],[0,2,3],[1,2,3]),(1,[1],[1],[0,2,3],[0,2,3]),(-1,[1],[2],[0,2,3],[0,1,3]),(1,[1],[3],[0,2,3],[0,1,2]),(1,[2],[0],[0,1,3],[1,2,3]),(-1,[2],[1],[0,1,3],[0,2,3]),(1,[2],[2],[0,1,3],[0,1,3]),(-1,[2],[3],[0,1,3],[0,1,2]),(-1,[3],[0],[0,1,2],[1,2,3]),(1,[3],[1],[0,1,2],[0,2,3]),(-1,[3],[2],[0,1,2],[0,1,3]),(1,[3],[3],[0,1,2],[0,1,2]),(1,[0,1],[0,1],[2,3],[2,3]),(-1,[0,1],[0,2],[2,3],[1,3]),(1,[0,1],[0,3],[2,3],[1,2]),(1,[0,1],[1,2],[2,3],[0,3]),(-1,[0,1],[1,3],[2,3],[0,2]),(1,[0,1],[2,3],[2,3],[0,1]),(-1,[0,2],[0,1],[1,3],[2,3]),(1,[0,2],[0,2],[1,3],[1,3]),(-1,[0,2],[0,3],[1,3],[1,2]),(-1,[0,2],[1,2],[1,3],[0,3]),(1,[0,2],[1,3],[1,3],[0,2]),(-1,[0,2],[2,3],[1,3],[0,1]),(1,[0,3],[0,1],[1,2],[2,3]),(-1,[0,3],[0,2],[1,2],[1,3]),(1,[0,3],[0,3],[1,2],[1,2]),(1,[0,3],[1,2],[1,2],[0,3]),(-1,[0,3],[1,3],[1,2],[0,2]),(1,[0,3],[2,3],[1,2],[0,1]),(1,[1,2],[0,1],[0,3],[2,3]),(-1,[1,2],[0,2],[0,3],[1,3]),(1,[1,2],[0,3],[0,3],[1,2]),(1,[1,2],[1,2],[0,3],[0,3]),(-1,[1,2],[1,3],[0,3],[0,2]),(1,[1,2],[2,3],[0,3],[0,1]),(-1,[1,3],[0,1],[0,2],[2,3]),(1,[1,3],[0,2],[0,2],[1,3]),(-1,[1,3],[0,3],[0,2],[1,2]),(-1,[1,3],[1,2],[0,2],[0,3]),(1,[1,3],[1,3],[0,2],[0,2]),(-1,[1,3],[2,3],[0,2],[0,1]),(1,[2,3],[0,1],[0,1],[2,3]),(-1,[2,3],[0,2],[0,1],[1,3]),(1,[2,3],[0,3],[0,1],[1,2]),(1,[2,3],[1,2],[0,1],[0,3]),(-1,[2,3],[1,3],[0,1],[0,2]),(1,[2,3],[2,3],[0,1],[0,1]),(1,[0,1,2],[0,1,2],[3],[3]),(-1,[0,1,2],[0,1,3],[3],[2]),(1,[0,1,2],[0,2,3],[3],[1]),(-1,[0,1,2],[1,2,3],[3],[0]),(-1,[0,1,3],[0,1,2],[2],[3]),(1,[0,1,3],[0,1,3],[2],[2]),(-1,[0,1,3],[0,2,3],[2],[1]),(1,[0,1,3],[1,2,3],[2],[0]),(1,[0,2,3],[0,1,2],[1],[3]),(-1,[0,2,3],[0,1,3],[1],[2]),(1,[0,2,3],[0,2,3],[1],[1]),(-1,[0,2,3],[1,2,3],[1],[0]),(-1,[1,2,3],[0,1,2],[0],[3]),(1,[1,2,3],[0,1,3],[0],[2]),(-1,[1,2,3],[0,2,3],[0],[1]),(1,[1,2,3],[1,2,3],[0],[0]),(1,[0,1,2,3],[0,1,2,3],[],[])] from by decide +kernel]
 simp only[lapT,dM,List.length_cons,List.length_nil,Nat.zero_add,Nat.reduceAdd,List.getD_cons_zero,List.getD_cons_succ,det4,det3,det2,det1,det0,sub,skip]
 simp
 try grind (splits:=0)
end M15
namespace M15
open PySem DE
theorem c5{n:Nat}(h:n<=4):n=0\/n=1\/n=2\/n=3\/n=4:=by omega
theorem skip_lt{r a n:Nat}(ha:a<n):skip r a<n+1:=by unfold skip;split<;>omega
theorem sumN_cg{n:Nat}{f g:Nat->Int}(h:∀ i,i<n->f i=g i):sumN n f=sumN n g:=by
 induction n with
 | zero=>rfl
 | succ n ih=>simp only[sumN];rw[ih fun i hi=>h i (by omega),h n (by omega)]
theorem det_cg:∀ {n:Nat} {f g:Nat->Nat->Int},(∀ i j,i<n->j<n->f i j=g i j)->det n f=det n g
  | 0,_,_,_=>rfl
  | n + 1, f, g, h => by
    unfold det
    refine sumN_cg fun j hj=>?_
    rw[h 0 j (by omega) hj,det_cg (n:=n) (f:=sub f 0 j) (g:=sub g 0 j) fun a b ha hb=>h _ _ (skip_lt ha) (skip_lt hb)]
theorem sumN_ne{n:Nat}{f:Nat->Int}(h:sumN n f≠0):∃ i,i<n/\f i≠0:=by
  induction n with
  | zero=>exact absurd rfl h
  | succ n ih =>
    by_cases q:f n=0
    · simp only[sumN,q,Int.add_zero] at h
      obtain⟨i,hi,e⟩:=ih h
      exact⟨i,by omega,e⟩
    · exact⟨n,by omega,q⟩
theorem sumN_zero{m:Nat}{a:Nat->Int}(h:∀ l,l<m->a l=0):sumN m a=0:=by
 induction m with
 | zero=>rfl
 | succ k ih=>simp only[sumN];rw[ih fun l hl=>h l (by omega),h k (by omega),Int.add_zero]
theorem zlast:∀ {n:Nat} {f:Nat->Nat->Int},(∀ i,f i n=0)->det (n+1) f=0
  | n, f, h => by
    unfold det
    refine sumN_zero fun j hj=>?_
    by_cases q:j=n
    · rw[q,h,Int.zero_mul]
    · obtain⟨m,rfl⟩:∃ m,n=m+1:=⟨n-1,by omega⟩
      rw[zlast (n:=m) (f:=sub f 0 j) fun i=>by unfold sub skip;rw[if_neg (show ¬ m<j by omega)];exact h _]
      unfold sg
      split<;>simp
theorem sumN_ext{a:Nat->Int}{n:Nat}:∀ {s:Nat},n<=s->(sumN s fun l=>if l<n then a l else 0)=sumN n a:=by
  intro s
  induction s with
  | zero=>intro h;rw[show n=0 by omega];rfl
  | succ s ih =>
    intro h
    by_cases q:n=s+1
    · subst q
      exact sumN_cg fun l hl=>if_pos hl
    · simp only[sumN]
      rw[ih (by omega),if_neg (by omega),Int.add_zero]
def lastOk(s:Nat):Bool:=(List.range (subs s s).length).all fun t=>((subs s s).getD t []).getD (s-1) 0==s-1
theorem lastOk_tab:(lastOk 2&&lastOk 3&&lastOk 4)=true:=by decide +kernel
theorem cb_zero{s n:Nat}(s2:2<=s)(s4:s<=4)(hn:n<s)(cb:∀ A B:Nat->Nat->Int,det s (fun i j=>sumN s fun l=>A i l*B l j)=sumN (subs s s).length fun t=>det s (fun i j=>A i (((subs s s).getD t []).getD j 0))*det s (fun i j=>B (((subs s s).getD t []).getD i 0) j))(A B:Nat->Nat->Int):det s (fun i j=>sumN n fun l=>A i l*B l j)=0:=by
 have e:det s (fun i j=>sumN n fun l=>A i l*B l j)=det s (fun i j=>sumN s fun l=>(fun i l=>if l<n then A i l else 0) i l*B l j):=det_cg fun i j _ _=>by
  rw[<- sumN_ext (s:=s) (by omega)]
  exact sumN_cg fun l _=>by show(if l<n then A i l*B l j else 0)=(if l<n then A i l else 0)*B l j;split<;>simp
 rw[e,cb]
 refine sumN_zero fun t ht=>?_
 have hl:lastOk s=true:=by
  have:=lastOk_tab
  simp only[Bool.and_eq_true] at this
  rcases c5 s4 with rfl | rfl | rfl | rfl | rfl
  ·exact absurd s2 (by decide)
  ·exact absurd s2 (by decide)
  ·exact this.1.1
  ·exact this.1.2
  ·exact this.2
 have q:=List.all_eq_true.mp hl t (List.mem_range.mpr ht)
 obtain⟨m,rfl⟩:∃ m,s=m+1:=⟨s-1,by omega⟩
 rw[zlast fun i=>by show(if((subs (m+1) (m+1)).getD t []).getD m 0<n then A i (((subs (m+1) (m+1)).getD t []).getD m 0) else 0)=0;rw[show((subs (m+1) (m+1)).getD t []).getD m 0=m from beq_iff_eq.mp q,if_neg (by omega)],Int.zero_mul]
theorem cbS{s:Nat}(s1:1<=s)(s4:s<=4)(A B:Nat->Nat->Int):det s (fun i j=>sumN s fun l=>A i l*B l j)=sumN (subs s s).length fun t=>det s (fun i j=>A i (((subs s s).getD t []).getD j 0))*det s (fun i j=>B (((subs s s).getD t []).getD i 0) j):=by
 rcases c5 s4 with rfl | rfl | rfl | rfl | rfl
 ·exact absurd s1 (by decide)
 ·exact cb11 A B
 ·exact cb22 A B
 ·exact cb33 A B
 ·exact cb44 A B
def nilOk:Bool:=(List.range 5).all fun n=>(List.range 5).all fun s=>(subs n s).isEmpty||decide (s<=n)
theorem nilOk_tab:nilOk=true:=by decide +kernel
theorem subs_nil{n s:Nat}(n4:n<=4)(s4:s<=4)(h:n<s):subs n s=[]:=by
 have q:=List.all_eq_true.mp (List.all_eq_true.mp nilOk_tab n (List.mem_range.mpr (by omega))) s (List.mem_range.mpr (by omega))
 rw[Bool.or_eq_true,decide_eq_true_eq] at q
 rcases q with q | q
 ·exact List.isEmpty_iff.mp q
 ·exact absurd h (Nat.not_lt.mpr q)
theorem cbAll{s n:Nat}(s1:1<=s)(s4:s<=4)(n1:1<=n)(n4:n<=4)(A B:Nat->Nat->Int):det s (fun i j=>sumN n fun l=>A i l*B l j)=sumN (subs n s).length fun t=>det s (fun i j=>A i (((subs n s).getD t []).getD j 0))*det s (fun i j=>B (((subs n s).getD t []).getD i 0) j):=by
 by_cases q:n<s
 ·rw[subs_nil n4 s4 q]
  exact cb_zero (by omega) s4 q (cbS s1 s4) A B
 ·by_cases e:n=s
  ·subst e;exact cbS s1 s4 A B
  ·rcases c5 s4 with rfl | rfl | rfl | rfl | rfl<;>rcases c5 n4 with rfl | rfl | rfl | rfl | rfl<;>first | exact absurd s1 (by decide) | exact absurd n1 (by decide) | exact absurd (by decide) q | exact absurd rfl e | exact cb12 A B | exact cb13 A B | exact cb14 A B | exact cb23 A B | exact cb24 A B | exact cb34 A B
theorem detAdd{s:Nat}(s1:1<=s)(s4:s<=4)(A B:Nat->Nat->Int)(h:∀ i,i<=s->∀ R∈subs s i,∀ C∈subs s i,dM A R C*dM B (left s R) (left s C)=0):det s (fun i j=>A i j+B i j)=0:=by
 rcases c5 s4 with rfl | rfl | rfl | rfl | rfl
 ·exact absurd s1 (by decide)
 ·rw[det_sum1];exact lap_zero h
 ·rw[det_sum2];exact lap_zero h
 ·rw[det_sum3];exact lap_zero h
 ·rw[det_sum4];exact lap_zero h
def sOk(m s:Nat):Bool:=(subs m s).all fun R=>R.length==s&&(R.all fun x=>decide (x<m))&&(subs (m+1) s).contains R&&(List.range (s+1)).all fun i=>(subs s i).all fun S=>(subs m i).contains (S.map (R.getD · 0))&&(subs m (s-i)).contains ((left s S).map (R.getD · 0))&&S.all (fun x=>decide (x<s))&&(left s S).all (fun x=>decide (x<s))
theorem sOk_tab:((List.range 5).all fun m=>(List.range 5).all fun s=>sOk m s)=true:=by decide +kernel
theorem sOk_all{m s:Nat}(h4:m<=4)(s4:s<=4):sOk m s=true :=
 List.all_eq_true.mp (List.all_eq_true.mp sOk_tab m (List.mem_range.mpr (by omega))) s (List.mem_range.mpr (by omega))
section
variable {m n s i:Nat} {R S:List Nat}
theorem subs_R(h4:m<=4)(s4:s<=4)(hR:R∈subs m s):R.length=s/\(∀ x∈R,x<m)/\R∈subs (m+1) s/\∀ i,i<=s->∀ S∈subs s i,S.map (R.getD · 0)∈subs m i/\(left s S).map (R.getD · 0)∈subs m (s-i)/\(∀ x∈S,x<s)/\∀ x∈left s S,x<s:=by
 have h:=List.all_eq_true.mp (sOk_all h4 s4) R hR
 simp only[Bool.and_eq_true,beq_iff_eq,List.all_eq_true,decide_eq_true_eq,List.contains_iff_mem,List.mem_range] at h
 exact⟨h.1.1.1,h.1.1.2,h.1.2,fun i hi S hS=>⟨(h.2 i (by omega) S hS).1.1.1,(h.2 i (by omega) S hS).1.1.2,(h.2 i (by omega) S hS).1.2,(h.2 i (by omega) S hS).2⟩⟩
theorem getD_lt(h:∀ x∈R,x<m)(hi:i<R.length):R.getD i 0<m:=by
 rw[List.getD_eq_getElem?_getD,List.getElem?_eq_getElem hi]
 exact h _ (List.getElem_mem hi)
end
section
variable {m n p s:Nat} {f g:Nat->Nat->Int} {R C:List Nat}
theorem dM_cg(m4:m<=4)(n4:n<=4)(s4:s<=4)(hR:R∈subs m s)(hC:C∈subs n s)(h:∀ i j,i<m->j<n->f i j=g i j):dM f R C=dM g R C:=by
 have r:=subs_R m4 s4 hR
 have c:=subs_R n4 s4 hC
 exact det_cg fun i j hi hj=>h _ _ (getD_lt r.2.1 hi) (getD_lt c.2.1 (by rw[c.1,<- r.1];exact hj))
def Up(m n:Nat)(f:Nat->Nat->Int)(b:Nat):Prop:=∀ s R C,s<=4->R∈subs m s->C∈subs n s->dM f R C≠0->s<=b
structure Rk (m n:Nat) (f:Nat->Nat->Int) (r:Nat):Prop where
 up:Up m n f r
 hit:r<=4/\∃ R C,R∈subs m r/\C∈subs n r/\dM f R C≠0
theorem Rk.le{r b:Nat}(h:Rk m n f r)(u:Up m n f b):r<=b:=by
 obtain⟨h4,R,C,hR,hC,e⟩:=h.hit
 exact u r R C h4 hR hC e
theorem Up.cg{b:Nat}(m4:m<=4)(n4:n<=4)(u:Up m n f b)(h:∀ i j,i<m->j<n->g i j=f i j):Up m n g b:=fun s R C s4 hR hC e =>
 u s R C s4 hR hC (by rw[<- dM_cg m4 n4 s4 hR hC h];exact e)
theorem mul_hit(m4:m<=4)(n1:1<=n)(n4:n<=4)(p4:p<=4)(s1:1<=s)(s4:s<=4)(hR:R∈subs m s)(hC:C∈subs p s)(e:dM (mul n f g) R C≠0):∃ S∈subs n s,dM f R S≠0/\dM g S C≠0:=by
 have r:=subs_R m4 s4 hR
 unfold dM at e
 rw[r.1] at e
 have e2:det s (fun i j=>sumN n fun l=>(fun i l=>f (R.getD i 0) l) i l*(fun l j=>g l (C.getD j 0)) l j)≠0:=e
 rw[cbAll s1 s4 n1 n4] at e2
 obtain⟨t,ht,e3⟩:=sumN_ne e2
 have hS:(subs n s).getD t []∈subs n s:=by
  rw[List.getD_eq_getElem?_getD,List.getElem?_eq_getElem ht]
  exact List.getElem_mem ht
 have c:=subs_R n4 s4 hS
 refine⟨_,hS,?_,?_⟩
 ·unfold dM;rw[r.1];exact fun z=>e3 (by rw[z,Int.zero_mul])
 ·unfold dM;rw[c.1];exact fun z=>e3 (by rw[z,Int.mul_zero])
theorem up_mul_l{b:Nat}(m4:m<=4)(n1:1<=n)(n4:n<=4)(p4:p<=4)(u:Up m n f b):Up m p (mul n f g) b:=fun s R C s4 hR hC e=>by
 by_cases s1:1<=s
 ·obtain⟨S,hS,e1,_⟩:=mul_hit m4 n1 n4 p4 s1 s4 hR hC e
  exact u s R S s4 hR hS e1
 ·exact Nat.le_trans (Nat.le_of_lt_succ (Nat.lt_of_not_le s1)) (Nat.zero_le _)
theorem up_mul_r{b:Nat}(m4:m<=4)(n1:1<=n)(n4:n<=4)(p4:p<=4)(u:Up n p g b):Up m p (mul n f g) b:=fun s R C s4 hR hC e=>by
 by_cases s1:1<=s
 ·obtain⟨S,hS,_,e1⟩:=mul_hit m4 n1 n4 p4 s1 s4 hR hC e
  exact u s S C s4 hS hC e1
 ·exact Nat.le_trans (Nat.le_of_lt_succ (Nat.lt_of_not_le s1)) (Nat.zero_le _)
theorem dM_at{S S':List Nat}(h:∀ x∈S,x<R.length)(h':∀ x∈S',x<C.length)(hl:S'.length=S.length):dM (fun i j=>f (R.getD i 0) (C.getD j 0)) S S'=dM f (S.map (R.getD · 0)) (S'.map (C.getD · 0)):=by
 unfold dM
 rw[List.length_map]
 refine det_cg fun i j hi hj=>?_
 have hj':j<S'.length:=by omega
 simp only[List.getD_eq_getElem?_getD,List.getElem?_map,List.getElem?_eq_getElem hi,List.getElem?_eq_getElem hj',Option.map_some,Option.getD_some]
theorem up_add{b b':Nat}(m4:m<=4)(n4:n<=4)(u:Up m n f b)(v:Up m n g b'):Up m n (fun i j=>f i j+g i j) (b+b'):=fun s R C s4 hR hC e=>by
 by_cases s1:1<=s
 ·by_cases q:s<=b+b'
  ·exact q
  ·exfalso
   have r:=subs_R m4 s4 hR
   have c:=subs_R n4 s4 hC
   unfold dM at e
   rw[r.1] at e
   refine e (detAdd s1 s4 (fun i j=>f (R.getD i 0) (C.getD j 0)) (fun i j=>g (R.getD i 0) (C.getD j 0)) fun i hi S hS S' hS'=>?_)
   have r1:=r.2.2.2 i hi S hS
   have c1:=c.2.2.2 i hi S' hS'
   have l1:=subs_R s4 (Nat.le_trans hi s4) hS
   have l2:=subs_R s4 (Nat.le_trans hi s4) hS'
   have si4:s-i<=4:=Nat.le_trans (Nat.sub_le s i) s4
   have k1:=subs_R m4 si4 r1.2.1
   have k2:=subs_R n4 si4 c1.2.1
   have hl:(left s S').length=(left s S).length:=by
    have a:=k1.1;have b:=k2.1
    rw[List.length_map] at a b
    exact b.trans a.symm
   rw[dM_at (by rw[r.1];exact r1.2.2.1) (by rw[c.1];exact c1.2.2.1) (by rw[l1.1,l2.1]),dM_at (by rw[r.1];exact r1.2.2.2) (by rw[c.1];exact c1.2.2.2) hl]
   by_cases z1:dM f (S.map (R.getD · 0)) (S'.map (C.getD · 0))=0
   ·rw[z1,Int.zero_mul]
   ·by_cases z2:dM g ((left s S).map (R.getD · 0)) ((left s S').map (C.getD · 0))=0
    ·rw[z2,Int.mul_zero]
    ·have a1:=u i _ _ (Nat.le_trans hi s4) r1.1 c1.1 z1
     have a2:=v (s-i) _ _ si4 r1.2.1 c1.2.1 z2
     exact absurd (Nat.le_trans (Nat.le_of_eq (Nat.add_sub_cancel' hi).symm) (Nat.add_le_add a1 a2)) q
 ·exact Nat.le_trans (Nat.le_of_lt_succ (Nat.lt_of_not_le s1)) (Nat.zero_le _)
theorem sumN_pick{m:Nat}{a:Nat->Int}:∀ {i:Nat},i<m->(sumN m fun l=>(if l=i then 1 else 0)*a l)=a i:=by
  induction m with
  | zero=>intro i hi;omega
  | succ m ih =>
    intro i hi
    simp only[sumN]
    by_cases q:i=m
    · subst q
      rw[if_pos rfl,Int.one_mul,sumN_cg (g:=fun _=>0) fun l hl=>by rw[if_neg (by omega),Int.zero_mul]]
      have:∀ k,(sumN k fun _=>0)=0:=fun k=>by induction k with | zero=>rfl | succ k ih=>simp only[sumN,ih,Int.add_zero]
      rw[this,Int.zero_add]
    · rw[ih (by omega),if_neg (by omega),Int.zero_mul,Int.add_zero]
theorem sumN_add{m:Nat}{a c:Nat->Int}:(sumN m fun l=>a l+c l)=sumN m a+sumN m c:=by
 induction m with
 | zero=>rfl
 | succ k ih=>simp only[sumN];rw[ih];omega
def more(m:Nat)(f:Nat->Nat->Int)(c:Nat->Int):Nat->Nat->Int:=fun i j=>if i<m then f i j else c j
end
end M15
namespace M15
open PySem DE
theorem xMaxD{cx:Cxt}{n:Nat}{sc:Scope}{ρ:Rho}{a:Expr}{kw:Keyword}{nm:Str}{q p:Pos}{c:Int}{ds:List D}{is:List Int}(hg:bltOf cx sc nm=some "max")(hk:kdef kw=some c)(h:ev cx n sc ρ a=some (.lst ds))(hi:asIs ds=some is):ev cx (n+1) sc ρ (.Call (.Name nm q) [a] [kw] p)=some (.int (mxD is c)):=by
 simp only[ev,hg,hk,h,bind,Option.bind_some,beq_self_eq_true,if_true,mxOf,hi,Option.map_some]
theorem compGo_fm{f:D->Option (Option D)}{g:D->Option Int}:∀ {l:List D},(∀ x∈l,f x=some ((g x).map D.int))->compGo f l=some ((l.filterMap g).map D.int)
  | [],_=>rfl
  | x :: l, h => by
    simp only[compGo,h x List.mem_cons_self,bind,Option.bind_some]
    have ih:=compGo_fm (l:=l) fun y hy=>h y (List.mem_cons_of_mem _ hy)
    cases e:g x with
    | none=>simp only[Option.map_none,List.filterMap_cons,e];exact ih
    | some v=>simp only[Option.map_some,List.filterMap_cons,e,ih,List.map_cons]
theorem asIs_map:∀ l:List Int,asIs (l.map D.int)=some l
 | []=>rfl
 | x::l=>by simp only[List.map_cons,asIs,asIs_map l,Option.map_some]
theorem mxL_ge:∀ (l:List Int) (b:Int),b<=mxL l b/\∀ x∈l,x<=mxL l b
  | [],b=>⟨Int.le_refl _,fun x h=>nomatch h⟩
  | y :: l, b => by
    have h:=mxL_ge l (if y>b then y else b)
    simp only[mxL]
    by_cases q:y>b
    · rw[if_pos q] at h ⊢
      exact⟨by omega,fun x hx=>(List.mem_cons.mp hx).elim (fun e=>e▸h.1) (h.2 x)⟩
    · rw[if_neg q] at h ⊢
      exact⟨h.1,fun x hx=>(List.mem_cons.mp hx).elim (fun e=>by subst e;omega) (h.2 x)⟩
theorem mxL_mem:∀ (l:List Int) (b:Int),mxL l b=b\/mxL l b∈l
  | [],b=>.inl rfl
  | y :: l, b => by
    simp only[mxL]
    rcases mxL_mem l (if y>b then y else b) with h | h
    · by_cases q:y>b
      · rw[if_pos q] at h ⊢;exact .inr (List.mem_cons.mpr (.inl h))
      · rw[if_neg q] at h ⊢;exact .inl h
    · exact .inr (List.mem_cons_of_mem _ h)
theorem mxD_ge{l:List Int}{x:Int}(h:x∈l):x<=mxD l 0:=by
 cases l with
 | nil=>cases h
 | cons y l=>exact(List.mem_cons.mp h).elim (fun e=>e▸(mxL_ge l y).1) ((mxL_ge l y).2 x)
theorem mxD_mem(l:List Int):mxD l 0=0\/mxD l 0∈l:=by
 cases l with
 | nil=>exact .inl rfl
 | cons y l=>exact .inr (List.mem_cons.mpr (mxL_mem l y))
def gR:D->Option Int
 | .tup [.tup R,_,.int w]=>if w !=0 then some (R.length:Int) else none
 | _=>none
theorem gR_mn{f:Nat->Nat->Int}{R C:List Nat}:gR (mnD f R C)=if dM f R C !=0 then some (R.length:Int) else none:=by
 show(if dM f R C !=0 then some (((R.map fun(k:Nat)=>D.int (k:Int)).length:Nat):Int) else none)=_
 rw[List.length_map]
theorem mA_iff{m n i:Nat}{f:Nat->Nat->Int}{x:D}:x∈mA m n f i↔∃ s R C,s<i/\R∈subs m (s+1)/\C∈subs n (s+1)/\x=mnD f R C:=by
 unfold mA mS
 simp only[List.mem_flatMap,List.mem_map,List.mem_range]
 constructor
 ·rintro⟨s,h,R,hR,C,hC,e⟩;exact⟨s,R,C,h,hR,hC,e.symm⟩
 ·rintro⟨s,R,C,h,hR,hC,e⟩;exact⟨s,h,R,hR,C,hC,e.symm⟩
theorem subs_le{m s:Nat}{R:List Nat}(m4:m<=4)(s4:s<=4)(h:R∈subs m s):s<=m:=by
 by_cases q:s<=m
 ·exact q
 ·rw[subs_nil m4 s4 (by omega)] at h;cases h
theorem rk_of{m n:Nat}{f:Nat->Nat->Int}(m4:m<=4)(n4:n<=4):Rk m n f (mxD ((mA m n f (min m n)).filterMap gR) 0).toNat:=by
  constructor
  · intro s R C s4 hR hC e
    have h1:=subs_le m4 s4 hR
    have h2:=subs_le n4 s4 hC
    cases s with
    | zero=>omega
    | succ s =>
      have hx:mnD f R C∈mA m n f (min m n):=mA_iff.mpr ⟨s,R,C,by omega,hR,hC,rfl⟩
      have hg:((R.length:Nat):Int)∈(mA m n f (min m n)).filterMap gR:=List.mem_filterMap.mpr ⟨_,hx,by rw[gR_mn,if_pos (by simpa using e)]⟩
      have:=mxD_ge hg
      rw[(subs_R m4 s4 hR).1] at this
      omega
  · rcases mxD_mem ((mA m n f (min m n)).filterMap gR) with h | h
    · rw[h]
      exact⟨by omega,[],[],by simp[subs],by simp[subs],by simp[dM,det]⟩
    · obtain⟨x,hx,e⟩:=List.mem_filterMap.mp h
      obtain⟨s,R,C,hs,hR,hC,rfl⟩:=mA_iff.mp hx
      rw[gR_mn] at e
      split at e
      · rename_i q
        have e':=Option.some.inj e
        rw[(subs_R m4 (by omega) hR).1] at e'
        rw[<- e',Int.toNat_natCast]
        exact⟨by omega,R,C,hR,hC,by simpa using q⟩
      · cases e
theorem rank(k:Nat){m n:Nat}{f:Nat->Nat->Int}(t:Tb m n f):∃ r:Nat,callN T 60 (k+22) "rank" [tbl m n f]=some (.int (r:Int))/\Rk m n f r:=by
 have hl:=mA_len (f:=f) t.m1 t.m4 t.n1 t.n4 (i:=min m n) (by omega) (by omega)
 have h4:=t.m4
 have r:=rk_of (f:=f) t.m4 t.n4
 refine⟨_,?_,r⟩
 have h0:0<=mxD ((mA m n f (min m n)).filterMap gR) 0:=by
  rcases mxD_mem ((mA m n f (min m n)).filterMap gR) with h | h
  ·omega
  ·obtain⟨x,hx,e⟩:=List.mem_filterMap.mp h
   obtain⟨s,R,C,hs,hR,hC,rfl⟩:=mA_iff.mp hx
   rw[gR_mn] at e
   split at e
   ·have e':=Option.some.inj e;omega
   ·cases e
 rw[Int.toNat_of_nonneg h0]
 refine xrun (fd:=mkFd (top 50)) rfl rfl (gRet (xMaxD (ds:=((mA m n f (min m n)).filterMap gR).map D.int) rfl rfl (xComp (l:=mA m n f (min m n)) rfl (wSq (x:=.lst (mA m n f (min m n))) rfl (xCall rfl (by walk_at "xm") (all_minors k t)) rfl) (szlN (by omega)) (compGo_fm fun x hx=>?_)) (asIs_map _)))
 obtain⟨s,R,C,hs,hR,hC,rfl⟩:=mA_iff.mp hx
 rw[gR_mn]
 refine Eq.trans (cStepIf (d:=.int (R.length:Int)) (t:=dM f R C !=0) rfl (xCmp (x:=.int (dM f R C)) (y:=.int 0) ?_ ?_ rfl) ?_) ?_
 ·walk_at "xv"
 ·walk_at "xv"
 ·exact xBlt (ds:=[plL R]) rfl rfl rfl (xCons (x:=plL R) (by walk_at "xv") xNil) (len_pl R)
 ·congr 1
  split<;>rfl
end M15
namespace M15
open PySem DE
theorem ex1_0_0(f:Nat->Nat->Int):sumN 1 (fun j=>f 0 j*cof 1 f 0 j)=det 1 f:=by
 simp only[sumN,cof,sg,det1,det0,sub,skip,Nat.reduceSub,Nat.reduceAdd]
 all_goals try simp[det0,sub,skip]
 all_goals try grind (splits:=0)
theorem ex2_0_0(f:Nat->Nat->Int):sumN 2 (fun j=>f 0 j*cof 2 f 0 j)=det 2 f:=by
 simp only[sumN,cof,sg,det2,det1,sub,skip,Nat.reduceSub,Nat.reduceAdd]
 all_goals try simp[det1,sub,skip]
 all_goals try grind (splits:=0)
theorem ex2_1_1(f:Nat->Nat->Int):sumN 2 (fun j=>f 1 j*cof 2 f 1 j)=det 2 f:=by
 simp only[sumN,cof,sg,det2,det1,sub,skip,Nat.reduceSub,Nat.reduceAdd]
 all_goals try simp[det1,sub,skip]
 all_goals try grind (splits:=0)
theorem ex3_0_0(f:Nat->Nat->Int):sumN 3 (fun j=>f 0 j*cof 3 f 0 j)=det 3 f:=by
 simp only[sumN,cof,sg,det3,det2,sub,skip,Nat.reduceSub,Nat.reduceAdd]
 all_goals try simp[det2,sub,skip]
 all_goals try grind (splits:=0)
theorem ex3_1_1(f:Nat->Nat->Int):sumN 3 (fun j=>f 1 j*cof 3 f 1 j)=det 3 f:=by
 simp only[sumN,cof,sg,det3,det2,sub,skip,Nat.reduceSub,Nat.reduceAdd]
 all_goals try simp[det2,sub,skip]
 all_goals try grind (splits:=0)
theorem ex3_2_2(f:Nat->Nat->Int):sumN 3 (fun j=>f 2 j*cof 3 f 2 j)=det 3 f:=by
 simp only[sumN,cof,sg,det3,det2,sub,skip,Nat.reduceSub,Nat.reduceAdd]
 all_goals try simp[det2,sub,skip]
 all_goals try grind (splits:=0)
theorem ex4_0_0(f:Nat->Nat->Int):sumN 4 (fun j=>f 0 j*cof 4 f 0 j)=det 4 f:=by
 simp only[sumN,cof,sg,det4,det3,det3,sub,skip,Nat.reduceSub,Nat.reduceAdd]
 all_goals try simp[det3,sub,skip]
 all_goals try grind (splits:=0)
theorem ex4_1_1(f:Nat->Nat->Int):sumN 4 (fun j=>f 1 j*cof 4 f 1 j)=det 4 f:=by
 simp only[sumN,cof,sg,det4,det3,det3,sub,skip,Nat.reduceSub,Nat.reduceAdd]
 all_goals try simp[det3,sub,skip]
 all_goals try grind (splits:=0)
theorem ex4_2_2(f:Nat->Nat->Int):sumN 4 (fun j=>f 2 j*cof 4 f 2 j)=det 4 f:=by
 simp only[sumN,cof,sg,det4,det3,det3,sub,skip,Nat.reduceSub,Nat.reduceAdd]
 all_goals try simp[det3,sub,skip]
 all_goals try grind (splits:=0)
theorem ex4_3_3(f:Nat->Nat->Int):sumN 4 (fun j=>f 3 j*cof 4 f 3 j)=det 4 f:=by
 simp only[sumN,cof,sg,det4,det3,det3,sub,skip,Nat.reduceSub,Nat.reduceAdd]
 all_goals try simp[det3,sub,skip]
 all_goals try grind (splits:=0)
theorem exp_row{n r:Nat}(h1:1<=n)(h4:n<=4)(hr:r<n)(f:Nat->Nat->Int):sumN n (fun j=>f r j*cof n f r j)=det n f:=by
 match n,h1,h4,r,hr with
 | 1,_,_,0,_=>exact ex1_0_0 f
 | 2,_,_,0,_=>exact ex2_0_0 f
 | 2,_,_,1,_=>exact ex2_1_1 f
 | 3,_,_,0,_=>exact ex3_0_0 f
 | 3,_,_,1,_=>exact ex3_1_1 f
 | 3,_,_,2,_=>exact ex3_2_2 f
 | 4,_,_,0,_=>exact ex4_0_0 f
 | 4,_,_,1,_=>exact ex4_1_1 f
 | 4,_,_,2,_=>exact ex4_2_2 f
 | 4,_,_,3,_=>exact ex4_3_3 f
def sw(r s i:Nat):Nat:=if i=r then s else if i=s then r else i
theorem sx2_0_1(f:Nat->Nat->Int):det 2 (fun i j=>f (sw 0 1 i) j)=- det 2 f:=by
 simp only[det2,sub,skip,sw]
 all_goals try simp
 all_goals try grind (splits:=0)
theorem sx3_0_1(f:Nat->Nat->Int):det 3 (fun i j=>f (sw 0 1 i) j)=- det 3 f:=by
 simp only[det3,sub,skip,sw]
 all_goals try simp
 all_goals try grind (splits:=0)
theorem sx3_0_2(f:Nat->Nat->Int):det 3 (fun i j=>f (sw 0 2 i) j)=- det 3 f:=by
 simp only[det3,sub,skip,sw]
 all_goals try simp
 all_goals try grind (splits:=0)
theorem sx3_1_2(f:Nat->Nat->Int):det 3 (fun i j=>f (sw 1 2 i) j)=- det 3 f:=by
 simp only[det3,sub,skip,sw]
 all_goals try simp
 all_goals try grind (splits:=0)
theorem sx4_0_1(f:Nat->Nat->Int):det 4 (fun i j=>f (sw 0 1 i) j)=- det 4 f:=by
 simp only[det4,det3,sub,skip,sw]
 all_goals try simp
 all_goals try grind (splits:=0)
theorem sx4_0_2(f:Nat->Nat->Int):det 4 (fun i j=>f (sw 0 2 i) j)=- det 4 f:=by
 simp only[det4,det3,sub,skip,sw]
 all_goals try simp
 all_goals try grind (splits:=0)
theorem sx4_0_3(f:Nat->Nat->Int):det 4 (fun i j=>f (sw 0 3 i) j)=- det 4 f:=by
 simp only[det4,det3,sub,skip,sw]
 all_goals try simp
 all_goals try grind (splits:=0)
theorem sx4_1_2(f:Nat->Nat->Int):det 4 (fun i j=>f (sw 1 2 i) j)=- det 4 f:=by
 simp only[det4,det3,sub,skip,sw]
 all_goals try simp
 all_goals try grind (splits:=0)
theorem sx4_1_3(f:Nat->Nat->Int):det 4 (fun i j=>f (sw 1 3 i) j)=- det 4 f:=by
 simp only[det4,det3,sub,skip,sw]
 all_goals try simp
 all_goals try grind (splits:=0)
theorem sx4_2_3(f:Nat->Nat->Int):det 4 (fun i j=>f (sw 2 3 i) j)=- det 4 f:=by
 simp only[det4,det3,sub,skip,sw]
 all_goals try simp
 all_goals try grind (splits:=0)
theorem sw_comm(r s i:Nat):sw r s i=sw s r i:=by unfold sw;split<;>split<;>simp_all
theorem det_sw{n r s:Nat}(h4:n<=4)(hr:r<n)(hs:s<n)(hn:r≠s)(f:Nat->Nat->Int):det n (fun i j=>f (sw r s i) j)=- det n f:=by
 match n,h4,r,hr,s,hs with
 | 1,_,0,_,0,_=>exact absurd rfl hn
 | 2,_,0,_,0,_=>exact absurd rfl hn
 | 2,_,0,_,1,_=>exact sx2_0_1 f
 | 2,_,1,_,0,_=>exact(congrArg (det 2) (funext fun i=>funext fun j=>congrArg (fun x=>f x j) (sw_comm 1 0 i))).trans (sx2_0_1 f)
 | 2,_,1,_,1,_=>exact absurd rfl hn
 | 3,_,0,_,0,_=>exact absurd rfl hn
 | 3,_,0,_,1,_=>exact sx3_0_1 f
 | 3,_,0,_,2,_=>exact sx3_0_2 f
 | 3,_,1,_,0,_=>exact(congrArg (det 3) (funext fun i=>funext fun j=>congrArg (fun x=>f x j) (sw_comm 1 0 i))).trans (sx3_0_1 f)
 | 3,_,1,_,1,_=>exact absurd rfl hn
 | 3,_,1,_,2,_=>exact sx3_1_2 f
 | 3,_,2,_,0,_=>exact(congrArg (det 3) (funext fun i=>funext fun j=>congrArg (fun x=>f x j) (sw_comm 2 0 i))).trans (sx3_0_2 f)
 | 3,_,2,_,1,_=>exact(congrArg (det 3) (funext fun i=>funext fun j=>congrArg (fun x=>f x j) (sw_comm 2 1 i))).trans (sx3_1_2 f)
 | 3,_,2,_,2,_=>exact absurd rfl hn
 | 4,_,0,_,0,_=>exact absurd rfl hn
 | 4,_,0,_,1,_=>exact sx4_0_1 f
 | 4,_,0,_,2,_=>exact sx4_0_2 f
 | 4,_,0,_,3,_=>exact sx4_0_3 f
 | 4,_,1,_,0,_=>exact(congrArg (det 4) (funext fun i=>funext fun j=>congrArg (fun x=>f x j) (sw_comm 1 0 i))).trans (sx4_0_1 f)
 | 4,_,1,_,1,_=>exact absurd rfl hn
 | 4,_,1,_,2,_=>exact sx4_1_2 f
 | 4,_,1,_,3,_=>exact sx4_1_3 f
 | 4,_,2,_,0,_=>exact(congrArg (det 4) (funext fun i=>funext fun j=>congrArg (fun x=>f x j) (sw_comm 2 0 i))).trans (sx4_0_2 f)
 | 4,_,2,_,1,_=>exact(congrArg (det 4) (funext fun i=>funext fun j=>congrArg (fun x=>f x j) (sw_comm 2 1 i))).trans (sx4_1_2 f)
 | 4,_,2,_,2,_=>exact absurd rfl hn
 | 4,_,2,_,3,_=>exact sx4_2_3 f
 | 4,_,3,_,0,_=>exact(congrArg (det 4) (funext fun i=>funext fun j=>congrArg (fun x=>f x j) (sw_comm 3 0 i))).trans (sx4_0_3 f)
 | 4,_,3,_,1,_=>exact(congrArg (det 4) (funext fun i=>funext fun j=>congrArg (fun x=>f x j) (sw_comm 3 1 i))).trans (sx4_1_3 f)
 | 4,_,3,_,2,_=>exact(congrArg (det 4) (funext fun i=>funext fun j=>congrArg (fun x=>f x j) (sw_comm 3 2 i))).trans (sx4_2_3 f)
 | 4,_,3,_,3,_=>exact absurd rfl hn
end M15
namespace M15
open PySem DE
def setRow(f:Nat->Nat->Int)(r:Nat)(g:Nat->Int):Nat->Nat->Int:=fun i j=>if i=r then g j else f i j
theorem cof_set{n r j:Nat}{f:Nat->Nat->Int}{g:Nat->Int}:cof n (setRow f r g) r j=cof n f r j:=by
 unfold cof
 have:sub (setRow f r g) r j=sub f r j:=by
  funext a b
  unfold sub setRow skip
  split<;>simp<;>omega
 rw[this]
theorem det_set{n r:Nat}{f:Nat->Nat->Int}{g:Nat->Int}(h1:1<=n)(h4:n<=4)(hr:r<n):det n (setRow f r g)=sumN n fun j=>g j*cof n f r j:=by
 rw[<- exp_row h1 h4 hr (setRow f r g)]
 refine sumN_congr fun j _=>?_
 rw[cof_set];simp[setRow]
theorem det_two{n r s:Nat}{f:Nat->Nat->Int}(h1:1<=n)(h4:n<=4)(hr:r<n)(hs:s<n)(hn:r≠s):(sumN n fun j=>f s j*cof n f r j)=0:=by
 rw[<- det_set h1 h4 hr]
 have e:=det_sw h4 hr hs hn (setRow f r (f s))
 have q:(fun i j=>setRow f r (f s) (sw r s i) j)=setRow f r (f s):=by
  funext i j
  unfold setRow sw
  by_cases z1:i=r
  ·rw[if_pos z1,if_pos z1,if_neg (Ne.symm hn)]
  ·rw[if_neg z1,if_neg z1]
   by_cases z2:i=s
   ·rw[if_pos z2,if_pos rfl,z2]
   ·rw[if_neg z2,if_neg z1]
 rw[q] at e
 have e':det n (setRow f r fun j=>f s j)=- det n (setRow f r fun j=>f s j):=e
 omega
theorem det_more{n r s:Nat}{f:Nat->Nat->Int}{m:Int}(h1:1<=n)(h4:n<=4)(hr:r<n)(hs:s<n)(hn:r≠s):det n (setRow f r fun j=>f r j+m*f s j)=det n f:=by
 rw[det_set h1 h4 hr]
 have:(sumN n fun j=>(f r j+m*f s j)*cof n f r j)=(sumN n fun j=>f r j*cof n f r j)+m*sumN n fun j=>f s j*cof n f r j:=by
  rw[<- sumN_mull,<- sumN_add]
  exact sumN_congr fun j _=>by rw[Int.add_mul,Int.mul_assoc]
 rw[this,exp_row h1 h4 hr f,det_two h1 h4 hr hs hn];simp
def d2(f:Nat->Nat->Int)(a b c d:Nat):Int:=f a c*f b d-f a d*f b c
def d3(f:Nat->Nat->Int)(a b c d e g:Nat):Int:=f a d*d2 f b c e g-f a e*d2 f b c d g+f a g*d2 f b c d e
theorem dM1{f:Nat->Nat->Int}{a b:Nat}:dM f [a] [b]=f a b:=by show det 1 _=_;rw[det1];rfl
theorem dM2{f:Nat->Nat->Int}{a b c d:Nat}:dM f [a,b] [c,d]=d2 f a b c d:=by show det 2 _=_;rw[det2];rfl
theorem dM3{f:Nat->Nat->Int}{a b c d e g:Nat}:dM f [a,b,c] [d,e,g]=d3 f a b c d e g:=by show det 3 _=_;rw[det3];rfl
def pls(m n:Nat)(i:Nat):List (List Nat×List Nat):=(List.range i).flatMap fun j=>(subs m (j+1)).flatMap fun R=>(subs n (j+1)).map fun C=>(R,C)
def asl(a:Nat)(f g:Nat->Nat->Int):Nat->Nat->Int:=fun i j=>if i<a then(if j<a then f i j else 0) else(if j<a then 0 else g (i-a) (j-a))
def loR(a:Nat)(R:List Nat):List Nat:=R.filter fun x=>decide (x<a)
def hiR(a:Nat)(R:List Nat):List Nat:=(R.filter fun x => !decide (x<a)).map fun x=>x-a
def bw(a:Nat)(f g:Nat->Nat->Int)(q:List Nat×List Nat):Int:=if(loR a q.1).length=(loR a q.2).length then dM f (loR a q.1) (loR a q.2)*dM g (hiR a q.1) (hiR a q.2) else 0
abbrev pl(n:Nat):List (List Nat×List Nat):=pls n n n
theorem pl_2:pl 2=[([0],[0]),([0],[1]),([1],[0]),([1],[1]),([0,1],[0,1])]:=by decide +kernel
theorem pl_3:pl 3=[([0],[0]),([0],[1]),([0],[2]),([1],[0]),([1],[1]),([1],[2]),([2],[0]),([2],[1]),([2],[2]),([0,1],[0,1]),([0,1],[0,2]),([0,1],[1,2]),([0,2],[0,1]),([0,2],[0,2]),([0,2],[1,2]),([1,2],[0,1]),([1,2],[0,2]),([1,2],[1,2]),([0,1,2],[0,1,2])]:=by decide +kernel
theorem pl_4:pl 4=[([0],[0]),([0],[1]),([0],[2]),([0],[3]),([1],[0]),([1],[1]),([1],[2]),([1],[3]),([2],[0]),([2],[1]),([2],[2]),([2],[3]),([3],[0]),([3],[1]),([3],[2]),([3],[3]),([0,1],[0,1]),([0,1],[0,2]),([0,1],[0,3]),([0,1],[1,2]),([0,1],[1,3]),([0,1],[2,3]),([0,2],[0,1]),([0,2],[0,2]),([0,2],[0,3]),([0,2],[1,2]),([0,2],[1,3]),([0,2],[2,3]),([0,3],[0,1]),([0,3],[0,2]),([0,3],[0,3]),([0,3],[1,2]),([0,3],[1,3]),([0,3],[2,3]),([1,2],[0,1]),([1,2],[0,2]),([1,2],[0,3]),([1,2],[1,2]),([1,2],[1,3]),([1,2],[2,3]),([1,3],[0,1]),([1,3],[0,2]),([1,3],[0,3]),([1,3],[1,2]),([1,3],[1,3]),([1,3],[2,3]),([2,3],[0,1]),([2,3],[0,2]),([2,3],[0,3]),([2,3],[1,2]),([2,3],[1,3]),([2,3],[2,3]),([0,1,2],[0,1,2]),([0,1,2],[0,1,3]),([0,1,2],[0,2,3]),([0,1,2],[1,2,3]),([0,1,3],[0,1,2]),([0,1,3],[0,1,3]),([0,1,3],[0,2,3]),([0,1,3],[1,2,3]),([0,2,3],[0,1,2]),([0,2,3],[0,1,3]),([0,2,3],[0,2,3]),([0,2,3],[1,2,3]),([1,2,3],[0,1,2]),([1,2,3],[0,1,3]),([1,2,3],[0,2,3]),([1,2,3],[1,2,3]),([0,1,2,3],[0,1,2,3])]:=by decide +kernel
theorem dM0x{f:Nat->Nat->Int}:dM f [] []=1:=rfl
theorem dM4{f:Nat->Nat->Int}:dM f [0,1,2,3] [0,1,2,3]=f 0 0*d3 f 1 2 3 1 2 3-f 0 1*d3 f 1 2 3 0 2 3+f 0 2*d3 f 1 2 3 0 1 3-f 0 3*d3 f 1 2 3 0 1 2:=by
 show det 4 _=_
 rw[det4,det3,det3,det3,det3]
 rfl
theorem asl_12(f g:Nat->Nat->Int):∀ q∈pl 2,dM (asl 1 f g) q.1 q.2=bw 1 f g q:=by
 rw[pl_2]
 simp only[List.forall_mem_cons,List.not_mem_nil,false_implies,implies_true,and_true]
 refine⟨?_,?_,?_,?_,?_⟩<;>simp[bw,loR,hiR,dM0x,dM1,dM2,dM3,dM4,d3,d2,asl]<;>grind (splits:=0)
theorem asl_13(f g:Nat->Nat->Int):∀ q∈pl 3,dM (asl 1 f g) q.1 q.2=bw 1 f g q:=by
 rw[pl_3]
 simp only[List.forall_mem_cons,List.not_mem_nil,false_implies,implies_true,and_true]
 refine⟨?_,?_,?_,?_,?_,?_,?_,?_,?_,?_,?_,?_,?_,?_,?_,?_,?_,?_,?_⟩<;>simp[bw,loR,hiR,dM0x,dM1,dM2,dM3,dM4,d3,d2,asl]<;>grind (splits:=0)
theorem asl_23(f g:Nat->Nat->Int):∀ q∈pl 3,dM (asl 2 f g) q.1 q.2=bw 2 f g q:=by
 rw[pl_3]
 simp only[List.forall_mem_cons,List.not_mem_nil,false_implies,implies_true,and_true]
 refine⟨?_,?_,?_,?_,?_,?_,?_,?_,?_,?_,?_,?_,?_,?_,?_,?_,?_,?_,?_⟩<;>simp[bw,loR,hiR,dM0x,dM1,dM2,dM3,dM4,d3,d2,asl]<;>grind (splits:=0)
theorem asl_24(f g:Nat->Nat->Int):∀ q∈pl 4,dM (asl 2 f g) q.1 q.2=bw 2 f g q:=by
 rw[pl_4]
 simp only[List.forall_mem_cons,List.not_mem_nil,false_implies,implies_true,and_true]
 refine⟨?_,?_,?_,?_,?_,?_,?_,?_,?_,?_,?_,?_,?_,?_,?_,?_,?_,?_,?_,?_,?_,?_,?_,?_,?_,?_,?_,?_,?_,?_,?_,?_,?_,?_,?_,?_,?_,?_,?_,?_,?_,?_,?_,?_,?_,?_,?_,?_,?_,?_,?_,?_,?_,?_,?_,?_,?_,?_,?_,?_,?_,?_,?_,?_,?_,?_,?_,?_,?_⟩<;>simp[bw,loR,hiR,dM0x,dM1,dM2,dM3,dM4,d3,d2,asl]<;>grind (splits:=0)
def blw(a:Nat)(f g:Nat->Nat->Int):Nat->Nat->Int:=fun i j=>if i<a then f i j else g (i-a) j
def eA(i l:Nat):Int:=if l=i then 1 else 0
theorem up_blw{a b n r1 r2:Nat}{f g:Nat->Nat->Int}(a1:1<=a)(b1:1<=b)(h:a+b<=4)(n4:n<=4)(u:Up a n f r1)(v:Up b n g r2):Up (a+b) n (blw a f g) (r1+r2):=by
 have u1:Up (a+b) n (mul a eA f) r1:=up_mul_r h a1 (by omega) n4 u
 have v1:Up (a+b) n (mul b (fun i l=>eA (i-a) l*(if i<a then 0 else 1)) g) r2:=up_mul_r h b1 (by omega) n4 v
 refine(up_add h n4 u1 v1).cg h n4 fun i j hi hj=>?_
 have zs:∀ {m:Nat} {x:Nat->Int},(∀ l,l<m->x l=0)->sumN m x=0:=fun h=>sumN_zero h
 show blw a f g i j=sumN a (fun l=>eA i l*f l j)+sumN b (fun l=>eA (i-a) l*(if i<a then 0 else 1)*g l j)
 by_cases q:i<a
 ·rw[zs (m:=b) fun l _=>by rw[if_pos q];simp]
  have:sumN a (fun l=>eA i l*f l j)=f i j:=sumN_pick (a:=fun l=>f l j) q
  rw[this]
  show(if i<a then f i j else g (i-a) j)=f i j+0
  rw[if_pos q];omega
 ·rw[zs (m:=a) fun l hl=>by unfold eA;rw[if_neg (by omega)];simp]
  have e:(fun l=>eA (i-a) l*(if i<a then 0 else 1)*g l j)=fun l=>(if l=i-a then 1 else 0)*g l j:=by
   funext l
   rw[if_neg q];unfold eA;simp
  rw[e,sumN_pick (a:=fun l=>g l j) (by omega:i-a<b)]
  show(if i<a then f i j else g (i-a) j)=0+g (i-a) j
  rw[if_neg q];omega
theorem up_asl{a b r1 r2:Nat}{f g:Nat->Nat->Int}(a1:1<=a)(b1:1<=b)(h:a+b<=4)(u:Up a a f r1)(v:Up b b g r2):Up (a+b) (a+b) (asl a f g) (r1+r2):=by
 let f':Nat->Nat->Int:=fun i j=>if j<a then f i j else 0
 let g':Nat->Nat->Int:=fun i j=>if j<a then 0 else g i (j-a)
 have u1:Up a (a+b) f' r1:=by
  have:Up a (a+b) (mul a f fun l j=>eA j l) r1:=up_mul_l (by omega) a1 (by omega) h u
  refine this.cg (by omega) h fun i j hi hj=>?_
  show(if j<a then f i j else 0)=sumN a fun l=>f i l*eA j l
  by_cases q:j<a
  ·rw[if_pos q]
   have:(fun l=>f i l*eA j l)=fun l=>(if l=j then 1 else 0)*f i l:=by funext l;unfold eA;rw[Int.mul_comm]
   rw[this,sumN_pick (a:=fun l=>f i l) q]
  ·rw[if_neg q,sumN_zero fun l hl=>by unfold eA;rw[if_neg (by omega)];simp]
 have v1:Up b (a+b) g' r2:=by
  have:Up b (a+b) (mul b g fun l j=>eA (j-a) l*(if j<a then 0 else 1)) r2:=up_mul_l (by omega) b1 (by omega) h v
  refine this.cg (by omega) h fun i j hi hj=>?_
  show(if j<a then 0 else g i (j-a))=sumN b fun l=>g i l*(eA (j-a) l*(if j<a then 0 else 1))
  by_cases q:j<a
  ·rw[if_pos q,sumN_zero fun l hl=>by rw[if_pos q];simp]
  ·rw[if_neg q]
   have:(fun l=>g i l*(eA (j-a) l*(if j<a then 0 else 1)))=fun l=>(if l=j-a then 1 else 0)*g i l:=by funext l;rw[if_neg q];unfold eA;rw[Int.mul_one,Int.mul_comm]
   rw[this,sumN_pick (a:=fun l=>g i l) (by omega:j-a<b)]
 refine(up_blw a1 b1 h h u1 v1).cg h h fun i j hi hj=>?_
 show asl a f g i j=blw a f' g' i j
 unfold asl blw
 by_cases q:i<a
 ·rw[if_pos q]
 ·rw[if_neg q]
def shf(a:Nat)(R:List Nat):List Nat:=R.map fun x=>x+a
def chk(a b r s:Nat):Bool:=(subs a r).all fun R=>(subs a r).all fun C=>(subs b s).all fun P=>(subs b s).all fun Q=>(r+s==0)||((pl (a+b)).contains (R++shf a P,C++shf a Q)&&(subs (a+b) (r+s)).contains (R++shf a P)&&(subs (a+b) (r+s)).contains (C++shf a Q)&&(loR a (R++shf a P)==R)&&(loR a (C++shf a Q)==C)&&(hiR a (R++shf a P)==P)&&(hiR a (C++shf a Q)==Q)&&(R.length==C.length))
theorem chk_ok:((List.range 2).all fun a=>(List.range 2).all fun b=>(List.range 3).all fun r=>(List.range 3).all fun s=>chk (a+1) (b+1) r s)=true:=by decide +kernel
theorem asl_all{a b:Nat}(ha:a=1\/a=2)(hb:b=1\/b=2)(f g:Nat->Nat->Int):∀ q∈pl (a+b),dM (asl a f g) q.1 q.2=bw a f g q:=by
 rcases ha with rfl | rfl<;>rcases hb with rfl | rfl
 ·exact asl_12 f g
 ·exact asl_13 f g
 ·exact asl_23 f g
 ·exact asl_24 f g
theorem rk_asl{a b r1 r2 r:Nat}{f g:Nat->Nat->Int}(ha:a=1\/a=2)(hb:b=1\/b=2)(R1:Rk a a f r1)(R2:Rk b b g r2)(R:Rk (a+b) (a+b) (asl a f g) r):r=r1+r2:=by
 have le:=R.le (up_asl (by omega) (by omega) (by omega) R1.up R2.up)
 obtain⟨h4,P1,Q1,hP1,hQ1,e1⟩:=R1.hit
 obtain⟨h4',P2,Q2,hP2,hQ2,e2⟩:=R2.hit
 have l1:=subs_le (by omega) h4 hP1
 have l2:=subs_le (by omega) h4' hP2
 by_cases z:r1+r2=0
 ·omega
 ·have ck:=chk_ok
  simp only[List.all_eq_true,List.mem_range] at ck
  have:=ck (a-1) (by omega) (b-1) (by omega) r1 (by omega) r2 (by omega)
  rw[show a-1+1=a by omega,show b-1+1=b by omega] at this
  unfold chk at this
  simp only[List.all_eq_true,Bool.or_eq_true,Bool.and_eq_true,beq_iff_eq,List.contains_iff_mem] at this
  rcases this P1 hP1 Q1 hQ1 P2 hP2 Q2 hQ2 with q | ⟨⟨⟨⟨⟨⟨⟨m1,m2⟩,m3⟩,m4⟩,m5⟩,m6⟩,m7⟩,m8⟩
  ·omega
  ·have ne:dM (asl a f g) (P1++shf a P2) (Q1++shf a Q2)≠0:=by
    rw[asl_all ha hb f g _ m1]
    unfold bw
    rw[m4,m5,m6,m7,if_pos m8]
    exact Int.mul_ne_zero e1 e2
   have:=R.up (r1+r2) _ _ (by omega) m2 m3 ne
   omega
theorem det_dM{N:Nat}{F:Nat->Nat->Int}:dM F (List.range N) (List.range N)=det N F:=by
 unfold dM
 rw[List.length_range]
 refine det_cg fun i j hi hj=>?_
 have e:∀ {k:Nat},k<N->(List.range N).getD k 0=k:=fun {k} hk=>by
  rw[List.getD_eq_getElem?_getD,List.getElem?_range hk];rfl
 rw[e hi,e hj]
theorem lo_rg{a b:Nat}(ha:a=1\/a=2)(hb:b=1\/b=2):loR a (List.range (a+b))=List.range a/\hiR a (List.range (a+b))=List.range b/\(List.range (a+b),List.range (a+b))∈pl (a+b):=by
 rcases ha with rfl | rfl<;>rcases hb with rfl | rfl<;>decide +kernel
theorem det_asl{a b:Nat}(ha:a=1\/a=2)(hb:b=1\/b=2)(f g:Nat->Nat->Int):det (a+b) (asl a f g)=det a f*det b g:=by
 obtain⟨l1,l2,l3⟩:=lo_rg ha hb
 have h:=asl_all ha hb f g _ l3
 unfold bw at h
 rw[l1,l2,if_pos rfl,det_dM,det_dM,det_dM] at h
 exact h
end M15
namespace M15
open PySem DE
section
variable {f g:Nat->Nat->Int}
theorem as11(k:Nat):callN T 60 (k+5) "set_aslant" [tbl 1 1 f,tbl 1 1 g]=some (tbl 2 2 (asl 1 f g)):=by kernel_rfl
theorem as12(k:Nat):callN T 60 (k+5) "set_aslant" [tbl 1 1 f,tbl 2 2 g]=some (tbl 3 3 (asl 1 f g)):=by kernel_rfl
theorem as21(k:Nat):callN T 60 (k+5) "set_aslant" [tbl 2 2 f,tbl 1 1 g]=some (tbl 3 3 (asl 2 f g)):=by kernel_rfl
theorem as22(k:Nat):callN T 60 (k+5) "set_aslant" [tbl 2 2 f,tbl 2 2 g]=some (tbl 4 4 (asl 2 f g)):=by kernel_rfl
theorem asA(k:Nat){a b:Nat}(ha:a=1\/a=2)(hb:b=1\/b=2):callN T 60 (k+5) "set_aslant" [tbl a a f,tbl b b g]=some (tbl (a+b) (a+b) (asl a f g)):=by
 rcases ha with rfl | rfl<;>rcases hb with rfl | rfl
 ·exact as11 k
 ·exact as12 k
 ·exact as21 k
 ·exact as22 k
theorem below(k:Nat){a b n:Nat}(ha:a=1\/a=2)(hb:b=1\/b=2)(h1:1<=n)(h4:n<=4):callN T 60 (k+5) "set_below" [tbl a n f,tbl b n g]=some (tbl (a+b) n (blw a f g)):=by
 rcases ha with rfl | rfl<;>rcases hb with rfl | rfl
 all_goals
  match n,h1,h4 with
  | 1,_,_=>kernel_rfl
  | 2,_,_=>kernel_rfl
  | 3,_,_=>kernel_rfl
  | 4,_,_=>kernel_rfl
theorem beside(k:Nat){a b n:Nat}(ha:a=1\/a=2)(hb:b=1\/b=2)(h1:1<=n)(h4:n<=4):callN T 60 (k+6) "set_beside" [tbl n a fun i j=>f j i,tbl n b fun i j=>g j i]=some (tbl n (a+b) fun i j=>blw a f g j i):=by
 have t1:=turned k (m:=n) (n:=a) (f:=fun i j=>f j i) h1 h4 (by omega) (by omega)
 have t2:=turned k (m:=n) (n:=b) (f:=fun i j=>g j i) h1 h4 (by omega) (by omega)
 have t3:=turned k (m:=a+b) (n:=n) (f:=blw a f g) (by omega) (by omega) h1 h4
 exact xrun (fd:=mkFd (top 31)) rfl rfl (cRet (ρ:=[("one",.sh (tbl n a fun i j=>f j i)),("other",.sh (tbl n b fun i j=>g j i))]) rfl (xCall rfl (xCons (xCall rfl (xCons (xCall rfl (xCons (xName rfl) xNil) t1) (xCons (xCall rfl (xCons (xName rfl) xNil) t2) xNil)) (below k ha hb h1 h4)) xNil) t3))
theorem law_big(k:Nat){m n:Nat}{c:Int}(hm:m<=4)(hn:n<=4)(hc:small c=true):callN T 60 (k+1) "_law_big" [tbl m n f,.int c]=some (tbl m n fun i j=>c*f i j):=by
 refine xrun (fd:=mkFd (top 56)) rfl rfl (gRet (xBlt rfl rfl rfl (xCons (xComp rfl (wSqT (xs:=Ls m fun i=>row n (f i)) rfl (xName rfl)) (szlLs (by omega)) (compGo_Ls (g:=fun i=>row n fun j=>c*f i j) fun i hi=>cStep rfl ?_)) xNil) bTup))
 refine xBlt rfl rfl rfl (xCons (xComp rfl (wSqT (xs:=Ls n fun j=>.int (f i j)) rfl (xName rfl)) (szlLs (by omega)) (compGo_Ls (g:=fun j=>.int (c*f i j)) fun j hj=>cStep rfl ?_)) xNil) bTup
 exact xBin (x:=.int c) (y:=.int (f i j)) (xName rfl) (xName rfl) (bMul (.inl hc))
theorem Ls_set{α:Type}{n i:Nat}{h:Nat->α}{d:α}:(Ls n h).set i d=Ls n fun k=>if k=i then d else h k:=by
 apply List.ext_getElem?
 intro k
 by_cases hk:k<n
 ·rw[Ls_get hk]
  by_cases q:i=k
  ·subst q
   rw[List.getElem?_set_self (by rw[Ls_len];exact hk),if_pos rfl]
  ·rw[List.getElem?_set_ne q,Ls_get hk,if_neg (fun z=>q z.symm)]
 ·rw[List.getElem?_eq_none (by rw[List.length_set,Ls_len];omega),List.getElem?_eq_none (by rw[Ls_len];omega)]
theorem ixN'{m i:Nat}(hi:i<m):ixD m (i:Int)=some i:=by
 unfold ixD
 rw[if_pos (by omega),if_pos (by omega)]
 congr 1
theorem two_rows(k:Nat){n r s:Nat}(h1:1<=n)(h4:n<=4)(hr:r<n)(hs:s<n):callN T 60 (k+5) "need_two_rows" [tbl n n f,.int (r:Int),.int (s:Int)]=some .non:=by
 have np:∀ i,i<n->callN T 60 (k+4) "need_place" [.int (i:Int),.int (n:Int)]=some .non:=fun i hi=>xrun0 (fd:=mkFd (top 18)) rfl rfl (cIfN (ρ:=[("thing",.sh (.int (i:Int))),("many",.sh (.int (n:Int)))]) rfl (xNotT (xCall rfl (xCons (xName rfl) (xCons (xName rfl) xNil)) (is_place k hi))) gNilS)
 have ln:∀ N,ev (cxN T 60 (k+4)) (N+3) (mkFd (top 33)).sc [("table",.sh (tbl n n f)),("one",.sh (.int (r:Int))),("other",.sh (.int (s:Int)))] (.Call (.Name "len" ⟨0,0,0,0⟩) [.Name "table" ⟨0,0,0,0⟩] [] ⟨0,0,0,0⟩)=some (.int (n:Int)):=fun N=>xBlt (ds:=[tbl n n f]) rfl rfl rfl (xCons (xName rfl) xNil) bLen
 refine xrun0 (fd:=mkFd (top 33)) rfl rfl (gXpr rfl (d:=.non) (xCall rfl (xCons (xName rfl) xNil) (need_table k h1 h4 h1 h4)) (gXpr rfl (d:=.non) (xCall rfl (xCons (xName rfl) (xCons (x:=.int (n:Int)) (xBlt (ds:=[tbl n n f]) rfl rfl rfl (xCons (xName rfl) xNil) bLen) xNil)) (np r hr)) (gXpr rfl (d:=.non) (xCall rfl (xCons (xName rfl) (xCons (x:=.int (n:Int)) (xBlt (ds:=[tbl n n f]) rfl rfl rfl (xCons (xName rfl) xNil) bLen) xNil)) (np s hs)) gNilS)))
theorem exchanged(k:Nat){n r s:Nat}(h1:1<=n)(h4:n<=4)(hr:r<n)(hs:s<n):callN T 60 (k+6) "rows_exchanged" [tbl n n f,.int (r:Int),.int (s:Int)]=some (tbl n n fun i j=>f (sw r s i) j):=by
 let R (ro:Sl):Rho:=[("table",.sh (tbl n n f)),("one",.sh (.int (r:Int))),("other",.sh (.int (s:Int))),("rows",ro)]
 refine xrun (fd:=mkFd (top 34)) rfl rfl (gXpr rfl (d:=.non) (xCall rfl (xCons (xName rfl) (xCons (xName rfl) (xCons (xName rfl) xNil))) (two_rows k h1 h4 hr hs)) ?_)
 refine gSetL (ρ:=R .no) (ρ':=R .no) (ds:=Ls n fun i=>row n (f i)) rfl rfl (xBlt rfl rfl rfl (xCons (x:=tbl n n f) (xName rfl) xNil) rfl) rfl rfl ?_
 refine gSto1 (ρ:=R (.ow (Ls n fun i=>row n (f i)))) (ρ':=R (.ow (Ls n fun i=>row n (f i)))) (d:=row n (f s)) (j:=(r:Int)) (n1:=r) rfl rfl rfl rfl (xIxL (m:=n) (h:=fun i=>row n (f i)) (xName rfl) (xName rfl) hs rfl rfl) (xName rfl) (by rw[Ls_len];exact ixN' hr) ?_
 show blk _ _ _ _ _ (R (.ow ((Ls n fun i=>row n (f i)).set r (row n (f s)))))=_
 rw[Ls_set]
 refine gSto1 (ρ:=R (.ow (Ls n fun i=>if i=r then row n (f s) else row n (f i)))) (ρ':=R (.ow (Ls n fun i=>if i=r then row n (f s) else row n (f i)))) (d:=row n (f r)) (j:=(s:Int)) (n1:=s) rfl rfl rfl rfl (xIxL (m:=n) (h:=fun i=>row n (f i)) (xName rfl) (xName rfl) hr rfl rfl) (xName rfl) (by rw[Ls_len];exact ixN' hs) ?_
 show blk _ _ _ _ _ (R (.ow ((Ls n fun i=>if i=r then row n (f s) else row n (f i)).set s (row n (f r)))))=_
 rw[Ls_set]
 refine gRetE (ρ':=R (.sh (.lst (Ls n fun i=>if i=s then row n (f r) else if i=r then row n (f s) else row n (f i))))) rfl ?_
 refine xEqD (xBlt rfl rfl rfl (xCons (x:=.lst (Ls n fun i=>if i=s then row n (f r) else if i=r then row n (f s) else row n (f i))) (xName rfl) xNil) bTup) ?_
 congr 2
 funext i
 show(if i=s then row n (f r) else if i=r then row n (f s) else row n (f i))=row n (f (sw r s i))
 unfold sw
 by_cases q1:i=s
 ·by_cases q2:i=r
  ·rw[if_pos q1,if_pos q2,show s=r by omega]
  ·rw[if_pos q1,if_neg q2,if_pos q1]
 ·by_cases q2:i=r
  ·rw[if_neg q1,if_pos q2,if_pos q2]
  ·rw[if_neg q1,if_neg q2,if_neg q2,if_neg q1]
theorem wZpTLs{cx:Cxt}{n m:Nat}{sc:Scope}{ρ:Rho}{a b e:Expr}{h g:Nat->D}(hw:wkOf cx sc e=.zp a b)(h1:ev cx n sc ρ a=some (.tup (Ls m h)))(h2:ev cx n sc ρ b=some (.lst (Ls m g))):evI cx true (ev cx n sc ρ) sc e=some (Ls m fun i=>.tup [h i,g i]):=by
 rw[wZpTL hw h1 h2,Ls_zip,Ls_map]
theorem rowPlusL(k:Nat){n:Nat}{p q:Nat->Int}(hn:n<=4):callN T 60 (k+1) "row_plus" [row n p,.lst (Ls n fun j=>.int (q j))]=some (row n fun j=>p j+q j):=by
 refine xrun (fd:=mkFd (top 28)) rfl rfl (gRet (xBlt rfl rfl rfl (xCons (xComp rfl (wZpTLs (m:=n) (h:=fun j=>.int (p j)) (g:=fun j=>.int (q j)) rfl (xName rfl) (xName rfl)) (szlLs (by omega)) (compGo_Ls (g:=fun j=>.int (p j+q j)) fun j hj=>cStep rfl ?_)) xNil) bTup))
 exact xBin (x:=.int (p j)) (y:=.int (q j)) (xName rfl) (xName rfl) rfl
theorem added(k:Nat){n r s:Nat}{c:Int}(h1:1<=n)(h4:n<=4)(hr:r<n)(hs:s<n)(hne:r≠s)(hc:small c=true):callN T 60 (k+6) "row_added" [tbl n n f,.int (r:Int),.int (s:Int),.int c]=some (tbl n n (setRow f s fun j=>f s j+c*f r j)):=by
 let R (ro:Sl):Rho:=[("table",.sh (tbl n n f)),("one",.sh (.int (r:Int))),("other",.sh (.int (s:Int))),("many",.sh (.int c)),("rows",ro)]
 refine xrun (fd:=mkFd (top 35)) rfl rfl (gXpr rfl (d:=.non) (xCall rfl (xCons (xName rfl) (xCons (xName rfl) (xCons (xName rfl) xNil))) (two_rows k h1 h4 hr hs)) (cIfN (ρ:=R .no) rfl (xCmp (x:=.int (r:Int)) (y:=.int (s:Int)) (xName rfl) (xName rfl) (oEqF (by omega))) ?_))
 refine gSetL (ρ:=R .no) (ρ':=R .no) (ds:=Ls n fun i=>row n (f i)) rfl rfl (xBlt rfl rfl rfl (xCons (x:=tbl n n f) (xName rfl) xNil) rfl) rfl rfl ?_
 refine gSto1 (ρ:=R (.ow (Ls n fun i=>row n (f i)))) (ρ':=R (.ow (Ls n fun i=>row n (f i)))) (d:=row n fun j=>f s j+c*f r j) (j:=(s:Int)) (n1:=s) rfl rfl rfl rfl ?_ (xName rfl) (by rw[Ls_len];exact ixN' hs) ?_
 ·refine xCall rfl (xCons (x:=row n (f s)) (xIxL (m:=n) (h:=fun i=>row n (f i)) (xName rfl) (xName rfl) hs rfl rfl) (xCons (x:=.lst (Ls n fun j=>.int (c*f r j))) (xComp rfl (wSqT (xs:=Ls n fun j=>.int (f r j)) rfl (xIxL (m:=n) (h:=fun i=>row n (f i)) (xName rfl) (xName rfl) hr rfl rfl)) (szlLs (by omega)) (compGo_Ls (g:=fun j=>.int (c*f r j)) fun j hj=>cStep rfl ?_)) xNil)) (rowPlusL (k+4) h4)
  exact xBin (x:=.int c) (y:=.int (f r j)) (xName rfl) (xName rfl) (bMul (.inl hc))
 show blk _ _ _ _ _ (R (.ow ((Ls n fun i=>row n (f i)).set s (row n fun j=>f s j+c*f r j))))=_
 rw[Ls_set]
 refine gRetE (ρ':=R (.sh (.lst (Ls n fun i=>if i=s then row n (fun j=>f s j+c*f r j) else row n (f i))))) rfl ?_
 refine xEqD (xBlt rfl rfl rfl (xCons (x:=.lst (Ls n fun i=>if i=s then row n (fun j=>f s j+c*f r j) else row n (f i))) (xName rfl) xNil) bTup) ?_
 congr 2
 funext i
 unfold setRow
 by_cases q:i=s
 ·simp only[q,if_true]
 ·simp only[if_neg q]
end
end M15
namespace M15
open PySem DE
theorem getSw(r s i:Nat):getD2 (dicOf (mrgD [(.inl (r:Int),.int (s:Int)),(.inl (s:Int),.int (r:Int))])) (.int (i:Int)) (.int (i:Int))=some (.int ((sw r s i:Nat):Int)):=by
 by_cases h1:r=s
 ·subst h1
  by_cases h2:i=r
  ·subst h2;simp[getD2,dicOf,mrgD,putD,valD,keyD,sw]
  ·have h3:¬ (r:Int)=(i:Int):=by omega
   simp[getD2,dicOf,mrgD,putD,valD,keyD,sw,h2,h3]
 ·have h1':¬ (r:Int)=(s:Int):=by omega
  have h1s:¬ (s:Int)=(r:Int):=by omega
  by_cases h2:i=r
  ·subst h2;simp[getD2,dicOf,mrgD,putD,valD,keyD,sw,h1,h1',h1s]
  ·have h3:¬ (r:Int)=(i:Int):=by omega
   by_cases h4:i=s
   ·subst h4;simp[getD2,dicOf,mrgD,putD,valD,keyD,sw,h2,h3]
   ·have h5:¬ (s:Int)=(i:Int):=by omega
    simp[getD2,dicOf,mrgD,putD,valD,keyD,sw,h1,h1',h1s,h2,h3,h4,h5]
theorem sw_lt{n r s i:Nat}(hr:r<n)(hs:s<n)(hi:i<n):sw r s i<n:=by unfold sw;split<;>(try split)<;>omega
theorem sw_sw(r s i:Nat):sw r s (sw r s i)=i:=by unfold sw;split<;>split<;>(try split)<;>omega
theorem sw_same(r i:Nat):sw r r i=i:=by unfold sw;split<;>omega
theorem rowS_c(i:Nat):nOw (rowS i)=true:=by cases i<;>rfl
def rwR(ns:List Int)(t:D)(n a b c nw ro:Sl):Rho:=[("_law_script",.sh (scr ns)),("_law_table_here",.sh t),("_law_size",n),("_law_first",a),("_law_last",b),("_law_by",c),("_law_new",nw),("_law_row",ro)]
theorem bd_sm{m n:Nat}{f:Nat->Nat->Int}(hb:∀ i j,-1000000<=f i j/\f i j<=1000000):Sm m n f:=by
 intro i j _ _
 have:=hb i j
 unfold small
 rw[decide_eq_true (by omega),decide_eq_true (by omega)];rfl
theorem sm_c{c:Nat}(hc:c<9):small ((c:Int)-4)=true/\small (0-((c:Int)-4))=true:=by
 unfold small
 constructor<;>rw[decide_eq_true (by omega),decide_eq_true (by omega)]<;>rfl
theorem add_bd{c r s:Nat}{f:Nat->Nat->Int}(hc:c<9)(hb:∀ i j,-10000<=f i j/\f i j<=10000):∀ i j,-1000000<=setRow f s (fun j=>f s j+((c:Int)-4)*f r j) i j/\setRow f s (fun j=>f s j+((c:Int)-4)*f r j) i j<=1000000:=by
 intro i j
 have h1:=hb i j
 have h2:=hb s j
 have h3:=hb r j
 have e:c=0\/c=1\/c=2\/c=3\/c=4\/c=5\/c=6\/c=7\/c=8:=by omega
 unfold setRow
 split
 ·rcases e with rfl | rfl | rfl | rfl | rfl | rfl | rfl | rfl | rfl<;>simp only[]<;>omega
 ·omega
theorem wm_at(k:Nat){n:Nat}{f:Nat->Nat->Int}(h1:1<=n)(h4:n<=4)(hs:Sm n n f):callN T 60 (k+29) "whole_minor" [tbl n n f]=some (.int (det n f)):=by
 have e:k+29=(k+24-4*n)+4*n+5:=by omega
 rw[e];exact whole_minor _ n h1 h4 hs
theorem lw_at(k:Nat){n:Nat}{f:Nat->Nat->Int}(h1:1<=n)(h4:n<=4)(hs:Sm n n f):callN T 60 (k+29) "_law_worth" [tbl n n f]=some (.int (det n f)):=by
 have e:k+29=(k+28-n)+n+1:=by omega
 rw[e,<- ld_eq h1 h4];exact lawWorth n _ h4 hs
theorem oNeRw{n:Nat}{p q:Nat->Int}(h:∀ j,j<n->p j=q j):cmpop .NotEq (row n p) (row n q)=some (.bl false):=by
 have e:row n p=row n q:=by
  show D.tup _=D.tup _
  congr 1
  exact Ls_congr fun j hj=>by rw[h j hj]
 rw[e];exact oNeD (Nat.le_trans dep_row (by decide))
theorem law_rows(k:Nat)(ns:List Int){n:Nat}{f:Nat->Nat->Int}(h2:2<=n)(h4:n<=4)(hb:∀ i j,-10000<=f i j/\f i j<=10000):callN T 60 (k+30) "_law_rows" [scr ns,tbl n n f]=some (.bl true):=by
 have hr:=pickN_lt (ns:=ns) (k:=4) (many:=n) (by omega)
 have hs:=pickN_lt (ns:=ns) (k:=5) (many:=n) (by omega)
 have hc:=pickN_lt (ns:=ns) (k:=6) (many:=9) (by omega)
 have p4:=pick (k+27) ns 4 (many:=n) (by omega)
 have p5:=pick (k+27) ns 5 (many:=n) (by omega)
 have p6:=pick (k+27) ns 6 (many:=9) (by omega)
 generalize pickN ns 4 n=r at hr p4
 generalize pickN ns 5 n=s at hs p5
 generalize pickN ns 6 9=c at hc p6
 have sm:Sm n n f:=bd_sm fun i j=>by have:=hb i j;omega
 have smx:Sm n n fun i j=>f (sw r s i) j:=bd_sm fun i j=>by have:=hb (sw r s i) j;omega
 have hx:=exchanged (k+23) (f:=f) (by omega) h4 hr hs
 have hy:=exchanged (k+23) (f:=fun i j=>f (sw r s i) j) (by omega) h4 hs hr
 have ty:(fun i j=>f (sw r s (sw s r i)) j)=f:=by funext i j;rw[sw_comm s r i,sw_sw]
 rw[ty] at hy
 have wx:=wm_at k (by omega) h4 smx
 have lw:=lw_at k (by omega) h4 sm
 let R (a b c nw ro:Sl):Rho:=rwR ns (tbl n n f) (.sh (.int (n:Int))) a b c nw ro
 let rD:Sl:=.sh (.int (r:Int))
 let sD:Sl:=.sh (.int (s:Int))
 let cD:Sl:=.sh (.int ((c:Int)-4))
 let X:Sl:=.sh (tbl n n fun i j=>f (sw r s i) j)
 refine xrun (fd:=mkFd (top 57)) rfl rfl (cSetN (ρ:=rwR ns (tbl n n f) .no .no .no .no .no .no) (d:=.int (n:Int)) rfl rfl rfl (xBlt (ds:=[tbl n n f]) rfl rfl rfl (xCons (xName rfl) xNil) bLen) ?_)
 refine cTup (ρ:=R .no .no .no .no .no) (ρ':=R rD sD cD .no .no) (d:=.tup [.int (r:Int),.int (s:Int),.int ((c:Int)-4)]) rfl rfl ?_ rfl rfl ?_
 ·exact xTup (xCons (xCall rfl (xCons (x:=scr ns) (xName rfl) (xCons (xConst rfl) (xCons (xName rfl) xNil))) p4) (xCons (xCall rfl (xCons (x:=scr ns) (xName rfl) (xCons (xConst rfl) (xCons (xName rfl) xNil))) p5) (xCons (xBin (x:=.int (c:Int)) (y:=.int 4) (xCall rfl (xCons (x:=scr ns) (xName rfl) (xCons (xConst rfl) (xCons (xConst rfl) xNil))) p6) (xConst rfl) rfl) xNil))) rfl
 refine cSetN (ρ:=R rD sD cD .no .no) (d:=tbl n n fun i j=>f (sw r s i) j) rfl rfl rfl (xCall rfl (xCons (xName rfl) (xCons (xName rfl) (xCons (xName rfl) xNil))) hx) ?_
 refine cIfN (ρ:=R rD sD cD X .no) rfl (xCmp (x:=.lst (Ls n fun i=>row n (f i))) (y:=.lst (Ls n fun i=>row n (f i))) ?_ (xBlt rfl rfl rfl (xCons (x:=tbl n n f) (xName rfl) xNil) rfl) (oNeD ?_)) ?_
 ·refine xEqD (xComp rfl (wR1n rfl (xName rfl) (by omega)) (szlLs (by omega)) (compGo_Ls (g:=fun i=>row n (f (sw r s (sw r s i)))) fun i hi=>cStep rfl ?_)) ?_
  ·exact xIxL (m:=n) (h:=fun i=>row n fun j=>f (sw r s i) j) (j:=sw r s i) (xName rfl) (xGet2 rfl (xDict rfl (pCons (xName rfl) rfl (xName rfl) (pCons (xName rfl) rfl (xName rfl) pNil)) rfl) (xName rfl) (xName rfl) (getSw r s i)) (sw_lt hr hs hi) rfl rfl
  ·congr 2
   funext i
   rw[sw_sw]
 ·have:=dep_tbl (m:=n) (n:=n) (f:=f)
  exact Nat.le_trans (show dep (.lst (Ls n fun i=>row n (f i)))<=2 from this) (by decide)
 refine cIfN (ρ:=R rD sD cD X .no) rfl (xCmp (x:=.int (det n fun i j=>f (sw r s i) j)) (y:=.int (det n f*if r=s then 1 else -1)) (xCall rfl (xCons (xName rfl) xNil) wx) (xBin (x:=.int (det n f)) (y:=.int (if r=s then 1 else -1)) (xCall rfl (xCons (xName rfl) xNil) lw) ?_ (bMul (.inr ?_))) (oNeI ?_)) ?_
 ·by_cases q:r=s
  ·rw[if_pos q];exact xIfT (xCmp (x:=.int (r:Int)) (y:=.int (s:Int)) (xName rfl) (xName rfl) (oEqI (by omega))) (xConst rfl)
  ·rw[if_neg q];exact xIfF (xCmp (x:=.int (r:Int)) (y:=.int (s:Int)) (xName rfl) (xName rfl) (oEqF (by omega))) (xNeg (xConst rfl))
 ·split<;>rfl
 ·by_cases q:r=s
  ·rw[if_pos q,Int.mul_one]
   congr 1
   funext i j
   rw[q,sw_same]
  ·rw[if_neg q,det_sw h4 hr hs q];omega
 by_cases q:r=s
 ·obtain⟨rk,hk,_⟩:=rank (k+7) (f:=f) ⟨by omega,h4,by omega,h4,sm⟩
  have ex:(fun i j=>f (sw r s i) j)=f:=by funext i j;rw[q,sw_same]
  refine cIfT (ρ:=R rD sD cD X .no) (fl1:=.ret (.bl true)) rfl (xBool (xOrF (xCmp (x:=tbl n n f) (y:=tbl n n f) (xCall rfl (xCons (xName rfl) (xCons (xName rfl) (xCons (xName rfl) xNil))) hy) (xName rfl) (oNeT fun _ _ _ _=>rfl)) (xOne (xCmp (x:=.int (r:Int)) (y:=.int (s:Int)) (xName rfl) (xName rfl) (oEqI (by omega)))))) ?_ rfl
  refine cRet (ρ:=R rD sD cD X .no) rfl (xAnd2 (s:=true) (t:=true) (xCmp (x:=.int (rk:Int)) (y:=.int (rk:Int)) (xCall rfl (xCons (x:=tbl n n f) (xEqD (xName rfl) ?_) xNil) hk) (xCall rfl (xCons (xName rfl) xNil) hk) (oEqI rfl)) (xCmp (x:=tbl n n f) (y:=tbl n n f) (xCall rfl (xCons (xName rfl) (xCons (xName rfl) (xCons (xName rfl) xNil))) hy) (xName rfl) (oEqT fun _ _ _ _=>rfl)))
  rw[ex]
 refine cIfN (ρ:=R rD sD cD X .no) rfl (xBool (xOrF (xCmp (x:=tbl n n f) (y:=tbl n n f) (xCall rfl (xCons (xName rfl) (xCons (xName rfl) (xCons (xName rfl) xNil))) hy) (xName rfl) (oNeT fun _ _ _ _=>rfl)) (xOne (xCmp (x:=.int (r:Int)) (y:=.int (s:Int)) (xName rfl) (xName rfl) (oEqF (by omega)))))) ?_
 have ha:=added (k+23) (f:=f) (c:=(c:Int)-4) (by omega) h4 hr hs q (sm_c hc).1
 have hz:=added (k+23) (f:=setRow f s fun j=>f s j+((c:Int)-4)*f r j) (c:=0-((c:Int)-4)) (by omega) h4 hr hs q (sm_c hc).2
 have wa:=wm_at k (by omega) h4 (bd_sm (m:=n) (n:=n) (add_bd (r:=r) (s:=s) hc hb))
 rw[det_more (by omega) h4 hs hr (Ne.symm q)] at wa
 let F:=setRow f s fun j=>f s j+((c:Int)-4)*f r j
 refine cSetN (ρ:=R rD sD cD X .no) (d:=tbl n n F) rfl rfl rfl (xCall rfl (xCons (xName rfl) (xCons (xName rfl) (xCons (xName rfl) (xCons (xName rfl) xNil)))) ha) ?_
 let R' (i:Nat):Rho:=R rD sD cD (.sh (tbl n n F)) (rowS i)
 refine gForN (ρ:=R rD sD cD (.sh (tbl n n F)) .no) (ρ':=R' 0) (ρ2:=R' n) rfl (wR1n rfl (xName rfl) (by omega)) (forGo_Ls (R:=R') fun i hi=>?_) ?_
 ·refine fStep (ρ1:=R' (i+1)) rfl ?_
  refine cIfN (ρ:=R' (i+1)) rfl (xCmp (x:=row n (F i)) (y:=row n fun j=>f i j+((c:Int)-4)*f r j*if i=s then 1 else 0) (xIxL (m:=n) (h:=fun i=>row n (F i)) (xName rfl) (xName rfl) hi rfl rfl) (xBlt rfl rfl rfl (xCons (xComp rfl (wZpL (m:=n) (h:=fun j=>.int (f i j)) (g:=fun j=>.int (f r j)) rfl (xIxL (m:=n) (h:=fun i=>row n (f i)) (xName rfl) (xName rfl) hi rfl rfl) (xIxL (m:=n) (h:=fun i=>row n (f i)) (xName rfl) (xName rfl) hr rfl rfl)) (szlLs (by omega)) (compGo_Ls (g:=fun j=>.int (f i j+((c:Int)-4)*f r j*if i=s then 1 else 0)) fun j hj=>cStep rfl ?_)) xNil) bTup) (oNeRw ?_)) gNilS
  ·refine xBin (x:=.int (f i j)) (y:=.int (((c:Int)-4)*f r j*if i=s then 1 else 0)) (xName rfl) (xBin (x:=.int (((c:Int)-4)*f r j)) (y:=.int (if i=s then 1 else 0)) (xBin (x:=.int ((c:Int)-4)) (y:=.int (f r j)) (xName rfl) (xName rfl) (bMul (.inl (sm_c hc).1))) ?_ (bMul (.inr ?_))) rfl
   ·by_cases z:i=s
    ·rw[if_pos z];exact xBlt (ds:=[.bl true]) rfl rfl rfl (xCons (xCmp (x:=.int (i:Int)) (y:=.int (s:Int)) (xName rfl) (xName rfl) (oEqI (by omega))) xNil) rfl
    ·rw[if_neg z];exact xBlt (ds:=[.bl false]) rfl rfl rfl (xCons (xCmp (x:=.int (i:Int)) (y:=.int (s:Int)) (xName rfl) (xName rfl) (oEqF (by omega))) xNil) rfl
   ·split<;>rfl
  ·intro j hj
   show setRow f s (fun j=>f s j+((c:Int)-4)*f r j) i j=_
   unfold setRow
   by_cases z:i=s
   ·rw[if_pos z,if_pos z,z,Int.mul_one]
   ·rw[if_neg z,if_neg z,Int.mul_zero,Int.add_zero]
 refine cRet (ρ:=R' n) (calm_c rfl (calm_c rfl (calm_c rfl (calm_c rfl (calm_c rfl (calm_c rfl (calm_c rfl (calm_c (rowS_c n) rfl)))))))) (xAnd2 (s:=true) (t:=true) (xCmp (x:=.int (det n f)) (y:=.int (det n f)) (xCall rfl (xCons (x:=tbl n n F) (xName rfl) xNil) wa) (xCall rfl (xCons (x:=tbl n n f) (xName rfl) xNil) lw) (oEqI rfl)) (xCmp (x:=tbl n n (setRow F s fun j=>F s j+(0-((c:Int)-4))*F r j)) (y:=tbl n n f) (xCall rfl (xCons (x:=tbl n n F) (xName rfl) (xCons (x:=.int (r:Int)) (xName rfl) (xCons (x:=.int (s:Int)) (xName rfl) (xCons (x:=.int (0-((c:Int)-4))) (xBin (x:=.int 0) (y:=.int ((c:Int)-4)) (xConst rfl) (xName rfl) rfl) xNil)))) hz) (xName rfl) (oEqT ?_)))
 intro i j hi hj
 show setRow (setRow f s fun j=>f s j+((c:Int)-4)*f r j) s (fun j=>setRow f s (fun j=>f s j+((c:Int)-4)*f r j) s j+(0-((c:Int)-4))*setRow f s (fun j=>f s j+((c:Int)-4)*f r j) r j) i j=f i j
 unfold setRow
 by_cases z:i=s
 ·rw[if_pos z]
  show(if s=s then f s j+((c:Int)-4)*f r j else f s j)+(0-((c:Int)-4))*(if r=s then f s j+((c:Int)-4)*f r j else f r j)=f i j
  rw[if_pos rfl,if_neg q,z,show(0-((c:Int)-4))=-((c:Int)-4) by omega,Int.neg_mul];omega
 ·rw[if_neg z,if_neg z]
end M15
namespace M15
open PySem DE
def lwR(ns:List Int)(s1 s2 s3 s4 s5 s6 s7 s8 s9 s10 s11:Sl):Rho:=[("_law_script",.sh (scr ns)),("_law_rows_here",s1),("_law_columns",s2),("_law_more",s3),("_law_many",s4),("_law_size",s5),("_law_one",s6),("_law_other",s7),("_law_low",s8),("_law_made",s9),("_law_row",s10),("_law_due",s11)]
theorem tabV_bd{ns:List Int}{a:Nat}(i j:Nat):-4<=tabV ns a i j/\tabV ns a i j<=9:=by
 unfold tabV
 have h1:=pickN_lt (ns:=ns) (k:=a+1+8*i+j) (many:=6+lowV (pickN ns a 4)) (by omega)
 have h2:=lowV_le (pickN ns a 4)
 omega
section
variable {a b i:Nat} {F G:Nat->Nat->Int}
theorem cat{n:Nat}(ha:a=1\/a=2)(hb:b=1\/b=2):(Ls a fun i=>row n (F i))++(Ls b fun i=>row n (G i))=Ls (a+b) fun i=>row n (blw a F G i):=by
 rcases ha with rfl | rfl<;>rcases hb with rfl | rfl<;>rfl
theorem rep0(hb:b=1\/b=2):binop .Mult (.tup [.int 0]) (.int (b:Int))=some (.tup (List.replicate b (.int 0))):=by
 rcases hb with rfl | rfl<;>rfl
theorem due_lo(ha:a=1\/a=2)(hb:b=1\/b=2)(hi:i<a):(Ls a fun j=>D.int (F i j))++List.replicate b (.int 0)=Ls (a+b) fun j=>.int (asl a F G i j):=by
 have:i=0\/i=1:=by omega
 rcases ha with rfl | rfl<;>rcases hb with rfl | rfl<;>rcases this with rfl | rfl<;>first | omega | rfl
theorem due_hi(ha:a=1\/a=2)(hb:b=1\/b=2)(hi:¬ i<a)(h2:i<a+b):List.replicate a (.int 0)++(Ls b fun j=>D.int (G (i-a) j))=Ls (a+b) fun j=>.int (asl a F G i j):=by
 have:i=1\/i=2\/i=3:=by omega
 rcases ha with rfl | rfl<;>rcases hb with rfl | rfl<;>rcases this with rfl | rfl | rfl<;>first | omega | rfl
def dueS(N:Nat)(H:Nat->Nat->Int):Nat->Sl
 | 0=>.no
 | i+1=>.sh (row N (H i))
theorem dueS_c(N:Nat)(H:Nat->Nat->Int)(i:Nat):nOw (dueS N H i)=true:=by cases i<;>rfl
end
theorem at2{p:Nat}(hp:p<2):∃ c:Int,atD [.int 1,.int 1000] (p:Int)=some (.int c)/\(c=1\/c=1000):=by
 have:p=0\/p=1:=by omega
 rcases this with rfl | rfl
 ·exact⟨1,rfl,.inl rfl⟩
 ·exact⟨1000,rfl,.inr rfl⟩
theorem mul_bd{c:Int}{f:Nat->Nat->Int}(hc:c=1\/c=1000)(hf:∀ i j,-4<=f i j/\f i j<=9):∀ i j,-10000<=c*f i j/\c*f i j<=10000:=by
 intro i j
 have:=hf i j
 rcases hc with rfl | rfl<;>omega
theorem bd1{f:Nat->Nat->Int}(hf:∀ i j,-10000<=f i j/\f i j<=10000):∀ i j,-1000000<=f i j/\f i j<=1000000:=fun i j=>by
 have:=hf i j;omega
theorem bd2{f:Nat->Nat->Int}(hf:∀ i j,-4<=f i j/\f i j<=9):∀ i j,-1000000<=f i j/\f i j<=1000000:=fun i j=>by
 have:=hf i j;omega
theorem law_true(ns:List Int)(_:ns.length<=63):callN T 60 40 "law" [.lst (ns.map D.int)]=some (.bl true):=by
 have h0:=pickN_lt (ns:=ns) (k:=0) (many:=2) (by omega)
 have h1:=pickN_lt (ns:=ns) (k:=1) (many:=4) (by omega)
 have h2:=pickN_lt (ns:=ns) (k:=2) (many:=2) (by omega)
 have h7:=pickN_lt (ns:=ns) (k:=7) (many:=2) (by omega)
 have h3:=pickN_lt (ns:=ns) (k:=3) (many:=3) (by omega)
 have p0:=pick 37 ns 0 (many:=2) (by omega)
 have p1:=pick 37 ns 1 (many:=4) (by omega)
 have p2:=pick 37 ns 2 (many:=2) (by omega)
 have p7:=pick 37 ns 7 (many:=2) (by omega)
 have p3:=pick 37 ns 3 (many:=3) (by omega)
 obtain⟨c,hc,c1⟩:=at2 h7
 have sc:small c=true:=by rcases c1 with rfl | rfl<;>rfl
 obtain⟨a,ea⟩:∃ a,a=1+pickN ns 0 2:=⟨_,rfl⟩
 obtain⟨n,en⟩:∃ n,n=1+pickN ns 1 4:=⟨_,rfl⟩
 obtain⟨b,eb⟩:∃ b,b=1+pickN ns 2 2:=⟨_,rfl⟩
 obtain⟨z,ez⟩:∃ z,z=2+pickN ns 3 3:=⟨_,rfl⟩
 have a2:a=1\/a=2:=by omega
 have b2:b=1\/b=2:=by omega
 have n1:1<=n:=by omega
 have n4:n<=4:=by omega
 have t1:=table 36 ns 10 (m:=a) (n:=n) (by omega) n4
 have t2:=table 36 ns 60 (m:=b) (n:=n) (by omega) n4
 have t3:=table 36 ns 110 (m:=a) (n:=a) (by omega) (by omega)
 have t4:=table 36 ns 160 (m:=b) (n:=b) (by omega) (by omega)
 have t5:=table 36 ns 210 (m:=z) (n:=z) (by omega) (by omega)
 have v1:=tabV_bd (ns:=ns) (a:=10)
 have v2:=tabV_bd (ns:=ns) (a:=60)
 have v3:=tabV_bd (ns:=ns) (a:=110)
 have v4:=tabV_bd (ns:=ns) (a:=160)
 have v5:=tabV_bd (ns:=ns) (a:=210)
 generalize tabV ns 10=f1 at t1 v1
 generalize tabV ns 60=g1 at t2 v2
 generalize tabV ns 110=f2 at t3 v3
 generalize tabV ns 160=g2 at t4 v4
 generalize tabV ns 210=f3 at t5 v5
 have w1:=mul_bd c1 v1
 have w3:=mul_bd c1 v3
 have w5:=mul_bd c1 v5
 have l1:=law_big 38 (f:=f1) (m:=a) (n:=n) (c:=c) (by omega) n4 sc
 have l3:=law_big 38 (f:=f2) (m:=a) (n:=a) (c:=c) (by omega) (by omega) sc
 have l5:=law_big 38 (f:=f3) (m:=z) (n:=z) (c:=c) (by omega) (by omega) sc
 have lr:=law_rows 9 ns (n:=z) (f:=fun i j=>c*f3 i j) (by omega) (by omega) w5
 obtain⟨F,eF⟩:∃ F:Nat->Nat->Int,F=fun i j=>c*f1 i j:=⟨_,rfl⟩
 obtain⟨H,eH⟩:∃ H:Nat->Nat->Int,H=fun i j=>c*f2 i j:=⟨_,rfl⟩
 rw[<- eF] at l1
 rw[<- eH] at l3
 have wF:∀ i j,-1000000<=F i j/\F i j<=1000000:=by rw[eF];exact bd1 w1
 have wH:∀ i j,-1000000<=H i j/\H i j<=1000000:=by rw[eH];exact bd1 w3
 have wg1:=bd2 v2
 have wg2:=bd2 v4
 have wL:∀ i j,-1000000<=blw a F g1 i j/\blw a F g1 i j<=1000000:=fun i j=>by
  unfold blw;split
  ·exact wF i j
  ·exact wg1 _ j
 have wA:∀ i j,-1000000<=asl a H g2 i j/\asl a H g2 i j<=1000000:=fun i j=>by
  unfold asl;split<;>split
  ·exact wH i j
  ·omega
  ·omega
  ·exact wg2 _ _
 have bl:=below 34 (f:=F) (g:=g1) a2 b2 n1 n4
 have bs:=beside 33 (f:=F) (g:=g1) a2 b2 n1 n4
 have u1:=turned 34 (f:=F) (m:=a) (n:=n) (by omega) (by omega) n1 n4
 have u2:=turned 34 (f:=g1) (m:=b) (n:=n) (by omega) (by omega) n1 n4
 have u3:=turned 34 (f:=blw a F g1) (m:=a+b) (n:=n) (by omega) (by omega) n1 n4
 have pt:=part 33 (f:=blw a F g1) (m:=a+b) (n:=n) (q:=a) (p:=n) (r:=fun i=>i) (c:=fun i=>i) (by omega) (by omega) n1 n4 (by omega) (by omega) n1 n4 (fun j hj=>by omega) (fun j hj=>by omega) (fun j hj=>hj) (fun j hj=>by omega)
 obtain⟨r1,k1,R1⟩:=rank 17 (m:=a) (n:=n) (f:=F) ⟨by omega,by omega,n1,n4,bd_sm wF⟩
 obtain⟨r2,k2,R2⟩:=rank 17 (m:=b) (n:=n) (f:=g1) ⟨by omega,by omega,n1,n4,bd_sm wg1⟩
 obtain⟨r3,k3,R3⟩:=rank 17 (m:=a+b) (n:=n) (f:=blw a F g1) ⟨by omega,by omega,n1,n4,bd_sm wL⟩
 have rle:r3<=r1+r2:=R3.le (up_blw (by omega) (by omega) (by omega) n4 R1.up R2.up)
 have as:=asA 34 (f:=H) (g:=g2) a2 b2
 obtain⟨r4,k4,R4⟩:=rank 17 (m:=a) (n:=a) (f:=H) ⟨by omega,by omega,by omega,by omega,bd_sm wH⟩
 obtain⟨r5,k5,R5⟩:=rank 17 (m:=b) (n:=b) (f:=g2) ⟨by omega,by omega,by omega,by omega,bd_sm wg2⟩
 obtain⟨r6,k6,R6⟩:=rank 17 (m:=a+b) (n:=a+b) (f:=asl a H g2) ⟨by omega,by omega,by omega,by omega,bd_sm wA⟩
 have req:=rk_asl a2 b2 R4 R5 R6
 have wm:=wm_at 10 (n:=a+b) (f:=asl a H g2) (by omega) (by omega) (bd_sm wA)
 rw[det_asl a2 b2] at wm
 have q1:=lw_at 10 (n:=a) (f:=H) (by omega) (by omega) (bd_sm wH)
 have q2:=lw_at 10 (n:=b) (f:=g2) (by omega) (by omega) (bd_sm wg2)
 have ds:small (det b g2)=true:=by
  have e1:=v4 0 0
  have e2:=v4 0 1
  have e3:=v4 1 0
  have e4:=v4 1 1
  rcases b2 with rfl | rfl
  ·rw[det1];unfold small;rw[decide_eq_true (by omega),decide_eq_true (by omega)];rfl
  ·rw[det2]
   have m:∀ x y:Int,-4<=x->x<=9 -> -4<=y->y<=9 -> -36<=x*y/\x*y<=81:=by
    intro x y x1 x2 y1 y2
    have:x=-4\/x=-3\/x=-2\/x=-1\/x=0\/x=1\/x=2\/x=3\/x=4\/x=5\/x=6\/x=7\/x=8\/x=9:=by omega
    rcases this with rfl | rfl | rfl | rfl | rfl | rfl | rfl | rfl | rfl | rfl | rfl | rfl | rfl | rfl<;>omega
   have m1:=m _ _ e1.1 e1.2 e4.1 e4.2
   have m2:=m _ _ e2.1 e2.2 e3.1 e3.2
   unfold small;rw[decide_eq_true (by omega),decide_eq_true (by omega)];rfl
 have pa:((1:Int)+((pickN ns 0 2:Nat):Int))=(a:Int):=by omega
 have pn:((1:Int)+((pickN ns 1 4:Nat):Int))=(n:Int):=by omega
 have pb:((1:Int)+((pickN ns 2 2:Nat):Int))=(b:Int):=by omega
 have pz:((2:Int)+((pickN ns 3 3:Nat):Int))=(z:Int):=by omega
 let aD:Sl:=.sh (.int (a:Int))
 let nD:Sl:=.sh (.int (n:Int))
 let bD:Sl:=.sh (.int (b:Int))
 let cD:Sl:=.sh (.int c)
 let zD:Sl:=.sh (.int (z:Int))
 let R (s6 s7 s8 s9 s10 s11:Sl):Rho:=lwR ns aD nD bD cD zD s6 s7 s8 s9 s10 s11
 refine xrun (fd:=mkFd (top 58)) rfl rfl (gTup3 (ρ:=lwR ns .no .no .no .no .no .no .no .no .no .no .no) (ρ1:=lwR ns .no .no .no .no .no .no .no .no .no .no .no) (ρ':=lwR ns aD nD bD .no .no .no .no .no .no .no .no) (d:=.tup [.int (a:Int),.int (n:Int),.int (b:Int)]) rfl rfl ?_ rfl rfl ?_)
 ·exact xTup (xCons (xEqD (xBin (x:=.int 1) (xConst rfl) (xCall rfl (xCons (x:=scr ns) (xName rfl) (xCons (xConst rfl) (xCons (xConst rfl) xNil))) p0) rfl) (congrArg D.int pa)) (xCons (xEqD (xBin (x:=.int 1) (xConst rfl) (xCall rfl (xCons (x:=scr ns) (xName rfl) (xCons (xConst rfl) (xCons (xConst rfl) xNil))) p1) rfl) (congrArg D.int pn)) (xCons (xEqD (xBin (x:=.int 1) (xConst rfl) (xCall rfl (xCons (x:=scr ns) (xName rfl) (xCons (xConst rfl) (xCons (xConst rfl) xNil))) p2) rfl) (congrArg D.int pb)) xNil))) rfl
 refine cTup (ρ:=lwR ns aD nD bD .no .no .no .no .no .no .no .no) (ρ':=R .no .no .no .no .no .no) (d:=.tup [.int c,.int (z:Int)]) rfl rfl ?_ rfl rfl ?_
 ·refine xTup (xCons (xIx (x:=.lst [.int 1,.int 1000]) (i:=((pickN ns 7 2:Nat):Int)) (by walk_at "xv") (xCall rfl (xCons (x:=scr ns) (xName rfl) (xCons (xConst rfl) (xCons (xConst rfl) xNil))) p7) rfl hc) (xCons (xEqD (xBin (x:=.int 2) (xConst rfl) (xCall rfl (xCons (x:=scr ns) (xName rfl) (xCons (xConst rfl) (xCons (xConst rfl) xNil))) p3) rfl) (congrArg D.int pz)) xNil)) rfl
 refine cTup (ρ:=R .no .no .no .no .no .no) (ρ':=R (.sh (tbl a n f1)) (.sh (tbl b n g1)) .no .no .no .no) (d:=.tup [tbl a n f1,tbl b n g1]) rfl rfl ?_ rfl rfl ?_
 ·exact xTup (xCons (xCall rfl (xCons (x:=scr ns) (xName rfl) (xCons (xConst rfl) (xCons (xName rfl) (xCons (xName rfl) xNil)))) t1) (xCons (xCall rfl (xCons (x:=scr ns) (xName rfl) (xCons (xConst rfl) (xCons (xName rfl) (xCons (xName rfl) xNil)))) t2) xNil)) rfl
 refine cSetN (ρ:=R (.sh (tbl a n f1)) (.sh (tbl b n g1)) .no .no .no .no) (d:=tbl a n F) rfl rfl rfl (xCall rfl (xCons (xName rfl) (xCons (xName rfl) xNil)) l1) ?_
 refine cSetN (ρ:=R (.sh (tbl a n F)) (.sh (tbl b n g1)) .no .no .no .no) (d:=tbl (a+b) n (blw a F g1)) rfl rfl rfl (xCall rfl (xCons (xName rfl) (xCons (xName rfl) xNil)) bl) ?_
 let S1:Rho:=R (.sh (tbl a n F)) (.sh (tbl b n g1)) (.sh (tbl (a+b) n (blw a F g1))) .no .no .no
 refine cIfN (ρ:=S1) rfl (xBool (xOrF (xCmp (x:=tbl (a+b) n (blw a F g1)) (y:=tbl (a+b) n (blw a F g1)) (xName rfl) (xEqD (xBin (x:=tbl a n F) (y:=tbl b n g1) (xName rfl) (xName rfl) (bAddT (by rw[Ls_len,Ls_len];omega))) (congrArg D.tup (cat a2 b2))) (oNeT fun _ _ _ _=>rfl)) (xOne (xCmp (x:=tbl n (a+b) fun i j=>blw a F g1 j i) (y:=tbl n (a+b) fun i j=>blw a F g1 j i) (xCall rfl (xCons (xCall rfl (xCons (xName rfl) xNil) u1) (xCons (xCall rfl (xCons (xName rfl) xNil) u2) xNil)) bs) (xCall rfl (xCons (xName rfl) xNil) u3) (oNeT fun _ _ _ _=>rfl))))) ?_
 have pl:∀ {m:Nat},rangeD 0 (m:Int)=Ls m fun k=>.int (k:Int):=fun {m}=>by
  rw[rangeD_eq,show((m:Int)-0).toNat=m by omega]
  exact Ls_congr fun k _=>by rw[Int.zero_add]
 have rz:∀ {m:Nat},m<=4->(rng62 (m:Int)&&szl ((m:Int).toNat))=true:=fun {m} h=>by
  have e:m=0\/m=1\/m=2\/m=3\/m=4:=by omega
  rcases e with rfl | rfl | rfl | rfl | rfl<;>rfl
 refine cIfN (ρ:=S1) rfl (xBool (xOrF (xCmp (x:=tbl a n fun i j=>blw a F g1 i j) (y:=tbl a n F) (xCall rfl (xCons (xName rfl) (xCons (x:=plc a fun i=>i) (xEqD (xTr1 (j:=(a:Int)) rfl rfl (xName rfl) (rz (by omega))) (congrArg D.tup pl)) (xCons (x:=plc n fun i=>i) (xEqD (xTr1 (j:=(n:Int)) rfl rfl (xName rfl) (rz n4)) (congrArg D.tup pl)) xNil))) pt) (xName rfl) (oNeT fun i j hi _=>by unfold blw;rw[if_pos hi])) (xOne (xCmp (x:=.int (r3:Int)) (y:=.int ((r1:Int)+(r2:Int))) (xCall rfl (xCons (xName rfl) xNil) k3) (xBin (x:=.int (r1:Int)) (y:=.int (r2:Int)) (xCall rfl (xCons (xName rfl) xNil) k1) (xCall rfl (xCons (xName rfl) xNil) k2) rfl) (by rw[oGt,decide_eq_false (by omega)]))))) ?_
 refine cTup (ρ:=S1) (ρ':=R (.sh (tbl a a H)) (.sh (tbl b b g2)) (.sh (tbl (a+b) n (blw a F g1))) .no .no .no) (d:=.tup [tbl a a H,tbl b b g2]) rfl rfl ?_ rfl rfl ?_
 ·exact xTup (xCons (xCall rfl (xCons (xCall rfl (xCons (x:=scr ns) (xName rfl) (xCons (xConst rfl) (xCons (xName rfl) (xCons (xName rfl) xNil)))) t3) (xCons (xName rfl) xNil)) l3) (xCons (xCall rfl (xCons (x:=scr ns) (xName rfl) (xCons (xConst rfl) (xCons (xName rfl) (xCons (xName rfl) xNil)))) t4) xNil)) rfl
 refine cSetN (ρ:=R (.sh (tbl a a H)) (.sh (tbl b b g2)) (.sh (tbl (a+b) n (blw a F g1))) .no .no .no) (d:=tbl (a+b) (a+b) (asl a H g2)) rfl rfl rfl (xCall rfl (xCons (xName rfl) (xCons (xName rfl) xNil)) as) ?_
 let R' (s10 s11:Sl):Rho:=R (.sh (tbl a a H)) (.sh (tbl b b g2)) (.sh (tbl (a+b) n (blw a F g1))) (.sh (tbl (a+b) (a+b) (asl a H g2))) s10 s11
 let Q (i:Nat):Rho:=R' (rowS i) (dueS (a+b) (asl a H g2) i)
 refine gForN (ρ:=R' .no .no) (ρ':=Q 0) (ρ2:=Q (a+b)) rfl (wR1n (j:=a+b) rfl (xEqD (xBin (x:=.int (a:Int)) (y:=.int (b:Int)) (xName rfl) (xName rfl) rfl) (congrArg D.int (by omega))) (by omega)) (forGo_Ls (R:=Q) fun i hi=>?_) ?_
 ·refine fStep (ρ1:=R' (rowS (i+1)) (dueS (a+b) (asl a H g2) i)) rfl ?_
  refine cSetN (ρ:=R' (rowS (i+1)) (dueS (a+b) (asl a H g2) i)) (d:=row (a+b) (asl a H g2 i)) (calm_c rfl (calm_c rfl (calm_c rfl (calm_c rfl (calm_c rfl (calm_c rfl (calm_c rfl (calm_c rfl (calm_c rfl (calm_c rfl (calm_c rfl (calm_c (dueS_c _ _ _) rfl)))))))))))) rfl rfl ?_ ?_
  ·by_cases q:i<a
   ·refine xIfT (xCmp (x:=.int (i:Int)) (y:=.int (a:Int)) (xName rfl) (xName rfl) (oLt (by omega))) ?_
    exact xEqD (xBin (x:=row a (H i)) (y:=.tup (List.replicate b (.int 0))) (xIxL (m:=a) (h:=fun i=>row a (H i)) (xName rfl) (xName rfl) q rfl rfl) (xBin (x:=.tup [.int 0]) (y:=.int (b:Int)) (xTup (xCons (xConst rfl) xNil) rfl) (xName rfl) (rep0 b2)) (bAddT (by rw[Ls_len,List.length_replicate];omega))) (congrArg D.tup (due_lo a2 b2 q))
   ·refine xIfF (xCmp (x:=.int (i:Int)) (y:=.int (a:Int)) (xName rfl) (xName rfl) (oLtF (by omega))) ?_
    exact xEqD (xBin (x:=.tup (List.replicate a (.int 0))) (y:=row b (g2 (i-a))) (xBin (x:=.tup [.int 0]) (y:=.int (a:Int)) (xTup (xCons (xConst rfl) xNil) rfl) (xName rfl) (rep0 a2)) (xIxL (m:=b) (j:=i-a) (h:=fun i=>row b (g2 i)) (xName rfl) (xEqD (xBin (x:=.int (i:Int)) (y:=.int (a:Int)) (xName rfl) (xName rfl) rfl) (congrArg D.int (by omega))) (by omega) rfl rfl) (bAddT (by rw[Ls_len,List.length_replicate];omega))) (congrArg D.tup (due_hi a2 b2 q hi))
  ·exact cIfN (ρ:=R' (rowS (i+1)) (dueS (a+b) (asl a H g2) (i+1))) rfl (xCmp (x:=row (a+b) (asl a H g2 i)) (y:=row (a+b) (asl a H g2 i)) (xIxL (m:=a+b) (h:=fun i=>row (a+b) (asl a H g2 i)) (xName rfl) (xName rfl) hi rfl rfl) (xName rfl) (oNeRw fun _ _=>rfl)) gNilS
 have cQ:calmR (Q (a+b))=true:=calm_c rfl (calm_c rfl (calm_c rfl (calm_c rfl (calm_c rfl (calm_c rfl (calm_c rfl (calm_c rfl (calm_c rfl (calm_c rfl (calm_c (rowS_c _) (calm_c (dueS_c _ _ _) rfl)))))))))))
 refine cIfN (ρ:=Q (a+b)) cQ (xBool (xOrF (xCmp (x:=.int (det a H*det b g2)) (y:=.int (det a H*det b g2)) (xCall rfl (xCons (x:=tbl (a+b) (a+b) (asl a H g2)) (xName rfl) xNil) wm) (xBin (x:=.int (det a H)) (y:=.int (det b g2)) (xCall rfl (xCons (x:=tbl a a H) (xName rfl) xNil) q1) (xCall rfl (xCons (x:=tbl b b g2) (xName rfl) xNil) q2) (bMul (.inr ds))) (oNeI rfl)) (xOne (xCmp (x:=.int (r6:Int)) (y:=.int ((r4:Int)+(r5:Int))) (xCall rfl (xCons (x:=tbl (a+b) (a+b) (asl a H g2)) (xName rfl) xNil) k6) (xBin (x:=.int (r4:Int)) (y:=.int (r5:Int)) (xCall rfl (xCons (x:=tbl a a H) (xName rfl) xNil) k4) (xCall rfl (xCons (x:=tbl b b g2) (xName rfl) xNil) k5) rfl) (oNeI (by omega)))))) ?_
 exact cRet (ρ:=Q (a+b)) cQ (xCall rfl (xCons (x:=scr ns) (xName rfl) (xCons (xCall rfl (xCons (xCall rfl (xCons (x:=scr ns) (xName rfl) (xCons (xConst rfl) (xCons (x:=.int (z:Int)) (xName rfl) (xCons (x:=.int (z:Int)) (xName rfl) xNil)))) t5) (xCons (x:=.int c) (xName rfl) xNil)) l5) xNil)) lr)
end M15
noncomputable section
namespace HS
open PySem PySem.W
theorem goT{p:Program}{w:World}{m:Nat}{a:Option Value}{n:Nat}{x y:Shared}{u:Thread}{c:Code}{o:Pos}{l:List Frame}(h:Fast.tw15667345088766844465 Fast.tw14364793385576792824 p w m a n x u=some (y,⟨Fast.tw11892475500146522536 Fast.tw14364793385576792824 c,c,o,l⟩)):topGo treeTable p w m a n x u=some (y,⟨denote treeTable c,c,o,l⟩):=by
 rw[Fast.te15667345088766844465,Fast.te14364793385576792824,Fast.te11892475500146522536];exact h
theorem segS{p:Program}{w:World}{m:Nat}{a:Option Value}{k n:Nat}{x:Shared}{u:Thread}{y:Option (Flow×Shared×Code×Pos)}(h:Fast.tw14374325043358763698 Fast.tw14364793385576792824 p w m a k n x u=y):segRun treeTable p w m a k n x u=y:=by
 rw[Fast.te14374325043358763698,Fast.te14364793385576792824];exact h
theorem segT{p:Program}{w:World}{m:Nat}{a:Option Value}{k n:Nat}{x:SharedT}{u:Thread}{y:Option (Flow×SharedT×Code×Pos)}(h:Fast.tw10110043849684766642 Fast.tw14364793385576792824 p w m a k n x u=y):segRunT treeTable p w m a k n x u=y:=by
 rw[Fast.te10110043849684766642,Fast.te14364793385576792824];exact h
theorem topT{p:Program}{w:World}{m:Nat}{a:Option Value}{n:Nat}{x:Shared}{u:Thread}{y:Option Shared}(h:Fast.tw14082659384304107361 Fast.tw14364793385576792824 p w m a n x u=y):topRun treeTable p w m a n x u=y:=by
 rw[Fast.te14082659384304107361,Fast.te14364793385576792824];exact h
theorem restE{p:Program}{w:World}{m:Nat}{a:Option Value}{n:Nat}{x:Shared}{b l:List Stmt}{E:Env}{c:Code}{o:Pos}{B:List Frame}{y:Option Shared}(e:b=l)(h:topRun treeTable p w m a n x (restOf l E c o B)=y):topRun treeTable p w m a n x (restOf b E c o B)=y:=by
 rw[e];exact h
end HS
namespace H15
open PySem PySem.W HS
abbrev p:Program:=PySem.Challenge.pw_minortables_k15_whole_joined_minors
abbrev q:Program:=PySem.W.view p [1,2,3,4,6,7,8,9,10,11,12,13,14,15,16,17,18,19,20,22,23,24,25,26,27,28,30,31,32,33,34,35,37,38,39,40,41,42,43,44,45,46,47,48,49,50,52,53,54,55,56,57,58]
abbrev N:Nat:=4672
abbrev lo:List Str:=[]
abbrev z:Value:=.none
abbrev r(a:Nat):Value:=.ref a
abbrev i(a:Int)(n:Nat):Value:=.int a n
abbrev s(x:Str)(n:Nat):Value:=.str x n
abbrev t(x:String):Value:=.type x
abbrev b(x:String):Value:=.builtin x
abbrev e(P:Params)(x:Str)(n:Nat)(v:Value):DictEntry:=⟨PyData.keyHash P x,.str x n,v⟩
def d(j:Nat):Stmt:=p.main.body.getD j (.Pass ⟨0,0,0,0⟩)
def m(j k:Nat):Stmt:=match d j with | .ClassDef _ _ _ l .. =>l.getD k (.Pass ⟨0,0,0,0⟩) | x=>x
def f(x:Stmt)(qn:Str)(g:Nat)(dV kV dc pm cd ct:Value):FuncData:=match x with | .FunctionDef n a l _ _ _ sc .. =>⟨n,qn,a,.stmts l,sc,g,[],dV,kV,dc,pm,none,cd,ct,0⟩ | _=>default
def y:Obj:=⟨.type "tuple",none,.seq #[] 0,#[]⟩
def x:Obj:=⟨.none,none,.fields #[],#[]⟩
def tnV:List Str->Nat->List Value | [],_=>[] | a::l,k=>.str a k::tnV l (k+1)
def tn(l:List Str)(k:Nat):Obj:=⟨.type "tuple",none,.seq (tnV l k).toArray 0,#[]⟩
def g(a:Stmt)(n:Str):Obj:=⟨.none,none,.func (f a n 0 z z z z z z),#[]⟩
def u(a:Stmt)(n:Str)(pm:Value)(c:Nat):Obj:=⟨.type "function",none,.func (f a n 3 z z z pm (r c) z),#[]⟩
def c(n:Str)(k:Nat)(l a fl:Int)(q:Nat)(bb:Bool)(h:Int)(q':Nat)(v w v':Value)(k':Nat):Obj:=⟨.type "code",none,.fields #[s n k,s n (k+1),s "/claim/cut.py" (k+2),i l 0,i a 0,i 0 0,i 0 0,i fl 0,r q,.bool bb,i h 0,r q',z,v,w,v',i k' 0,i l 0,s "/claim/cut.py" (k'+1)],#[]⟩
def I(t:BT):Nat->List Obj->BT | _,[]=>t | n,o::l=>I (t.ins n o) (n+1) l
def es(P:Params):List DictEntry:=[e P "__doc__" 166 z,
  e P "__package__" 167 z,
  e P "__loader__" 168 (b "__main__.__loader__#opaque"),
  e P "__spec__" 169 z,
  e P "__annotations__" 170 (r 6),
  e P "__builtins__" 171 (r 4),
  e P "__file__" 173 (s "/claim/cut.py" 172),
  e P "__cached__" 174 z,
  e P "MinorError" 206 (r 24),
  e P "NoTable" 222 (r 37),
  e P "NoFit" 238 (r 49),
  e P "NoPlace" 254 (r 61),
  e P "MOST_LINES" 258 (i 4 257),
  e P "is_whole" 265 (r 70),
  e P "is_whole_within" 274 (r 77),
  e P "is_short_tuple" 281 (r 84),
  e P "has_lines" 287 (r 89),
  e P "numbers_of" 296 (r 96),
  e P "has_table_form" 302 (r 101),
  e P "is_square" 309 (r 108),
  e P "is_place" 317 (r 115),
  e P "are_rising_places" 323 (r 120),
  e P "need_table" 330 (r 127),
  e P "need_square" 337 (r 134),
  e P "need_place" 345 (r 141),
  e P "need_places" 353 (r 148),
  e P "need_size" 361 (r 155),
  e P "column_of" 369 (r 160),
  e P "columns_of" 375 (r 165),
  e P "turned" 382 (r 172),
  e P "picked" 388 (r 177),
  e P "part_at" 394 (r 182),
  e P "part" 403 (r 189),
  e P "row_plus" 409 (r 194),
  e P "set_below" 419 (r 201),
  e P "set_beside" 427 (r 208),
  e P "set_aslant" 433 (r 213),
  e P "need_two_rows" 442 (r 220),
  e P "rows_exchanged" 452 (r 227),
  e P "row_added" 458 (r 232),
  e P "without" 466 (r 237),
  e P "worth_of" 472 (r 242),
  e P "rest_worth" 481 (r 249),
  e P "signed_rest" 491 (r 256),
  e P "row_with_rests" 497 (r 261),
  e P "with_behind" 503 (r 266),
  e P "rising_tuples" 515 (r 273),
  e P "greatest_size" 522 (r 280),
  e P "minors_of_rows" 532 (r 287),
  e P "minors_of_size" 542 (r 294),
  e P "minors_in" 551 (r 301),
  e P "all_minors" 558 (r 308),
  e P "whole_minor" 565 (r 315),
  e P "rank" 571 (r 320),
  e P "_law_cell" 581 (r 327),
  e P "_law_pick" 591 (r 334),
  e P "_law_table" 597 (r 339),
  e P "_law_worth" 603 (r 344),
  e P "_law_big" 609 (r 349),
  e P "_law_rows" 615 (r 354),
  e P "law" 633 (r 361)]
def og(k n:Nat)(v:Value)(P:Params):Obj:=⟨.type "dict",none,.dict ((e P "__name__" 165 v::es P).take k).toArray n,#[]⟩
def fv:List Value:=[(i 2 0),(i 0 0),(r 20),(i 4 0),(i 0 0),(r 33),(i 6 0),(i 0 0),(r 45),(i 8 0),(i 0 0),(r 57),(i 12 0),(i 0 0),(r 69),(i 14 0),(i 0 0),(r 76),(i 16 0),(i 0 0),(r 83),(i 18 0),(i 0 0),(r 88),(i 22 0),(i 0 0),(r 95),(i 27 0),(i 0 0),(r 100),(i 29 0),(i 0 0),(r 107),(i 31 0),(i 0 0),(r 114),(i 33 0),(i 0 0),(r 119),(i 39 0),(i 0 0),(r 126),(i 42 0),(i 0 0),(r 133),(i 45 0),(i 0 0),(r 140),(i 48 0),(i 0 0),(r 147),(i 51 0),(i 0 0),(r 154),(i 55 0),(i 0 0),(r 159),(i 57 0),(i 0 0),(r 164),(i 59 0),(i 0 0),(r 171),(i 62 0),(i 0 0),(r 176),(i 64 0),(i 0 0),(r 181),(i 66 0),(i 0 0),(r 188),(i 71 0),(i 0 0),(r 193),(i 74 0),(i 0 0),(r 200),(i 81 0),(i 0 0),(r 207),(i 83 0),(i 0 0),(r 212),(i 91 0),(i 0 0),(r 219),(i 95 0),(i 0 0),(r 226),(i 101 0),(i 0 0),(r 231),(i 109 0),(i 0 0),(r 236),(i 112 0),(i 0 0),(r 241),(i 116 0),(i 0 0),(r 248),(i 118 0),(i 0 0),(r 255),(i 121 0),(i 0 0),(r 260),(i 123 0),(i 0 0),(r 265),(i 126 0),(i 0 0),(r 272),(i 134 0),(i 0 0),(r 279),(i 136 0),(i 0 0),(r 286),(i 141 0),(i 0 0),(r 293),(i 146 0),(i 0 0),(r 300),(i 151 0),(i 0 0),(r 307),(i 154 0),(i 0 0),(r 314),(i 158 0),(i 0 0),(r 319),(i 161 0),(i 0 0),(r 326),(i 167 0),(i 0 0),(r 333),(i 170 0),(i 0 0),(r 338),(i 176 0),(i 0 0),(r 343),(i 186 0),(i 0 0),(r 348),(i 188 0),(i 0 0),(r 353),(i 203 0),(i 0 0),(r 360)]
def o12:Obj:=⟨z,none,.fields (fv.take 0).toArray,#[]⟩
def o13:Obj:=c "<module>" 182 1 0 0 11 false 181 12 z z z 185
def o14:Obj:=⟨(t "frame"),none,.plain,#[some (r 13),some (r 3),some (r 3),none,some (s "__main__" 164),none,some (r 0)]⟩
def o3_1(P:Params):Obj:=og 10 10 (s "minortables.errors" 187) P
def o12_1:Obj:=⟨z,none,.fields (fv.take 3).toArray,#[]⟩
def o15:Obj:=⟨(t "tuple"),none,(.seq #[(t "ValueError")] 0),#[]⟩
def o16:Obj:=⟨(t "builtin_function_or_method"),none,(.fields #[(b "type.__prepare__"),(t "type")]),#[]⟩
def o17(P:Params):Obj:=⟨(t "dict"),none,(.dict #[e P "__module__" 196 (s "minortables.errors" 187),e P "__qualname__" 198 (s "MinorError" 197),e P "__firstlineno__" 200 (i 2 199),e P "__static_attributes__" 201 (r 22)] 4),#[]⟩
def o20:Obj:=c "MinorError" 191 2 0 0 18 false 181 19 z z z 194
def o21:Obj:=⟨(t "frame"),none,.plain,#[some (r 20),some (r 3),some (r 17),none,some (s "minortables.errors" 187),none,some (r 0)]⟩
def o23(P:Params):Obj:=⟨(t "dict"),none,(.dict #[e P "__module__" 196 (s "minortables.errors" 187),e P "__firstlineno__" 200 (i 2 199),e P "__static_attributes__" 201 (r 22),e P "__weakref__" 203 (r 25),e P "__doc__" 204 z] 3),#[]⟩
def o24:Obj:=⟨(t "type"),none,(.cls ⟨"MinorError",[(t "ValueError")],[(r 24),(t "ValueError"),(t "Exception"),(t "BaseException"),(t "object")],23,"MinorError",true,[],[],false,none,false⟩),#[some (r 15),none,some (s "MinorError" 189),some (s "MinorError" 197),some (b "ValueError.__new__"),some (.bool true)]⟩
def o25:Obj:=⟨(t "getset_descriptor"),none,(.fields #[(s "__weakref__" 202),(r 24),(b "ExceptionGroup.__weakref__"),z]),#[]⟩
def o26:Obj:=⟨(t "super"),none,(.fields #[(r 24),(r 24),(r 24)]),#[]⟩
def o27:Obj:=⟨(t "builtin_function_or_method"),none,(.fields #[(b "object.__init_subclass__"),(r 24)]),#[]⟩
def o3_2(P:Params):Obj:=og 11 11 (s "minortables.errors" 187) P
def o12_2:Obj:=⟨z,none,.fields (fv.take 6).toArray,#[]⟩
def o24_2:Obj:=⟨(t "type"),none,(.cls ⟨"MinorError",[(t "ValueError")],[(r 24),(t "ValueError"),(t "Exception"),(t "BaseException"),(t "object")],23,"MinorError",true,[],[(r 37)],false,none,false⟩),#[some (r 15),none,some (s "MinorError" 189),some (s "MinorError" 197),some (b "ValueError.__new__"),some (.bool true)]⟩
def o28:Obj:=⟨(t "tuple"),none,(.seq #[(r 24)] 0),#[]⟩
def o29:Obj:=⟨(t "builtin_function_or_method"),none,(.fields #[(b "type.__prepare__"),(t "type")]),#[]⟩
def o30(P:Params):Obj:=⟨(t "dict"),none,(.dict #[e P "__module__" 214 (s "minortables.errors" 187),e P "__qualname__" 216 (s "NoTable" 215),e P "__firstlineno__" 218 (i 4 217),e P "__static_attributes__" 219 (r 35)] 4),#[]⟩
def o33:Obj:=c "NoTable" 209 4 0 0 31 false 181 32 z z z 212
def o34:Obj:=⟨(t "frame"),none,.plain,#[some (r 33),some (r 3),some (r 30),none,some (s "minortables.errors" 187),none,some (r 0)]⟩
def o36(P:Params):Obj:=⟨(t "dict"),none,(.dict #[e P "__module__" 214 (s "minortables.errors" 187),e P "__firstlineno__" 218 (i 4 217),e P "__static_attributes__" 219 (r 35),e P "__doc__" 220 z] 2),#[]⟩
def o37:Obj:=⟨(t "type"),none,(.cls ⟨"NoTable",[(r 24)],[(r 37),(r 24),(t "ValueError"),(t "Exception"),(t "BaseException"),(t "object")],36,"NoTable",true,[],[],false,none,false⟩),#[some (r 28),none,some (s "NoTable" 207),some (s "NoTable" 215),some (b "ValueError.__new__"),some (.bool true)]⟩
def o38:Obj:=⟨(t "super"),none,(.fields #[(r 37),(r 37),(r 37)]),#[]⟩
def o39:Obj:=⟨(t "builtin_function_or_method"),none,(.fields #[(b "object.__init_subclass__"),(r 37)]),#[]⟩
def o3_3(P:Params):Obj:=og 12 12 (s "minortables.errors" 187) P
def o12_3:Obj:=⟨z,none,.fields (fv.take 9).toArray,#[]⟩
def o24_3:Obj:=⟨(t "type"),none,(.cls ⟨"MinorError",[(t "ValueError")],[(r 24),(t "ValueError"),(t "Exception"),(t "BaseException"),(t "object")],23,"MinorError",true,[],[(r 37),(r 49)],false,none,false⟩),#[some (r 15),none,some (s "MinorError" 189),some (s "MinorError" 197),some (b "ValueError.__new__"),some (.bool true)]⟩
def o40:Obj:=⟨(t "tuple"),none,(.seq #[(r 24)] 0),#[]⟩
def o41:Obj:=⟨(t "builtin_function_or_method"),none,(.fields #[(b "type.__prepare__"),(t "type")]),#[]⟩
def o42(P:Params):Obj:=⟨(t "dict"),none,(.dict #[e P "__module__" 230 (s "minortables.errors" 187),e P "__qualname__" 232 (s "NoFit" 231),e P "__firstlineno__" 234 (i 6 233),e P "__static_attributes__" 235 (r 47)] 4),#[]⟩
def o45:Obj:=c "NoFit" 225 6 0 0 43 false 181 44 z z z 228
def o46:Obj:=⟨(t "frame"),none,.plain,#[some (r 45),some (r 3),some (r 42),none,some (s "minortables.errors" 187),none,some (r 0)]⟩
def o48(P:Params):Obj:=⟨(t "dict"),none,(.dict #[e P "__module__" 230 (s "minortables.errors" 187),e P "__firstlineno__" 234 (i 6 233),e P "__static_attributes__" 235 (r 47),e P "__doc__" 236 z] 2),#[]⟩
def o49:Obj:=⟨(t "type"),none,(.cls ⟨"NoFit",[(r 24)],[(r 49),(r 24),(t "ValueError"),(t "Exception"),(t "BaseException"),(t "object")],48,"NoFit",true,[],[],false,none,false⟩),#[some (r 40),none,some (s "NoFit" 223),some (s "NoFit" 231),some (b "ValueError.__new__"),some (.bool true)]⟩
def o50:Obj:=⟨(t "super"),none,(.fields #[(r 49),(r 49),(r 49)]),#[]⟩
def o51:Obj:=⟨(t "builtin_function_or_method"),none,(.fields #[(b "object.__init_subclass__"),(r 49)]),#[]⟩
def o3_4(P:Params):Obj:=og 19 19 (s "minortables.checks" 255) P
def o12_4:Obj:=⟨z,none,.fields (fv.take 27).toArray,#[]⟩
def o24_4:Obj:=⟨(t "type"),none,(.cls ⟨"MinorError",[(t "ValueError")],[(r 24),(t "ValueError"),(t "Exception"),(t "BaseException"),(t "object")],23,"MinorError",true,[],[(r 37),(r 49),(r 61)],false,none,false⟩),#[some (r 15),none,some (s "MinorError" 189),some (s "MinorError" 197),some (b "ValueError.__new__"),some (.bool true)]⟩
def o52:Obj:=⟨(t "tuple"),none,(.seq #[(r 24)] 0),#[]⟩
def o53:Obj:=⟨(t "builtin_function_or_method"),none,(.fields #[(b "type.__prepare__"),(t "type")]),#[]⟩
def o54(P:Params):Obj:=⟨(t "dict"),none,(.dict #[e P "__module__" 246 (s "minortables.errors" 187),e P "__qualname__" 248 (s "NoPlace" 247),e P "__firstlineno__" 250 (i 8 249),e P "__static_attributes__" 251 (r 59)] 4),#[]⟩
def o57:Obj:=c "NoPlace" 241 8 0 0 55 false 181 56 z z z 244
def o58:Obj:=⟨(t "frame"),none,.plain,#[some (r 57),some (r 3),some (r 54),none,some (s "minortables.errors" 187),none,some (r 0)]⟩
def o60(P:Params):Obj:=⟨(t "dict"),none,(.dict #[e P "__module__" 246 (s "minortables.errors" 187),e P "__firstlineno__" 250 (i 8 249),e P "__static_attributes__" 251 (r 59),e P "__doc__" 252 z] 2),#[]⟩
def o61:Obj:=⟨(t "type"),none,(.cls ⟨"NoPlace",[(r 24)],[(r 61),(r 24),(t "ValueError"),(t "Exception"),(t "BaseException"),(t "object")],60,"NoPlace",true,[],[],false,none,false⟩),#[some (r 52),none,some (s "NoPlace" 239),some (s "NoPlace" 247),some (b "ValueError.__new__"),some (.bool true)]⟩
def o62:Obj:=⟨(t "super"),none,(.fields #[(r 61),(r 61),(r 61)]),#[]⟩
def o63:Obj:=⟨(t "builtin_function_or_method"),none,(.fields #[(b "object.__init_subclass__"),(r 61)]),#[]⟩
def o66:Obj:=tn ["thing"] 262
def o68:Obj:=g (d 7) "is_whole"
def o69:Obj:=c "is_whole" 259 12 1 3 64 true 181 65 (r 66) (r 67) (r 68) 263
def o70:Obj:=u (d 7) "is_whole" (s "minortables.checks" 255) 69
def o73:Obj:=tn ["thing","least","most"] 269
def o75:Obj:=g (d 8) "is_whole_within"
def o76:Obj:=c "is_whole_within" 266 14 3 3 71 true 181 72 (r 73) (r 74) (r 75) 272
def o77:Obj:=u (d 8) "is_whole_within" (s "minortables.checks" 255) 76
def o80:Obj:=tn ["thing"] 278
def o82:Obj:=g (d 9) "is_short_tuple"
def o83:Obj:=c "is_short_tuple" 275 16 1 3 78 true 181 79 (r 80) (r 81) (r 82) 279
def o84:Obj:=u (d 9) "is_short_tuple" (s "minortables.checks" 255) 83
def o87:Obj:=g (d 10) "has_lines"
def o88:Obj:=c "has_lines" 282 18 1 3 85 true 181 86 z z (r 87) 285
def o89:Obj:=u (d 10) "has_lines" (s "minortables.checks" 255) 88
def o92:Obj:=tn ["table","told","row"] 291
def o94:Obj:=g (d 11) "numbers_of"
def o95:Obj:=c "numbers_of" 288 22 1 3 90 true 181 91 (r 92) (r 93) (r 94) 294
def o96:Obj:=u (d 11) "numbers_of" (s "minortables.checks" 255) 95
def o3_5(P:Params):Obj:=og 32 32 (s "minortables.tables" 362) P
def o12_5:Obj:=⟨z,none,.fields (fv.take 66).toArray,#[]⟩
def o99:Obj:=g (d 12) "has_table_form"
def o100:Obj:=c "has_table_form" 297 27 1 3 97 true 181 98 z z (r 99) 300
def o101:Obj:=u (d 12) "has_table_form" (s "minortables.checks" 255) 100
def o104:Obj:=tn ["table"] 306
def o106:Obj:=g (d 13) "is_square"
def o107:Obj:=c "is_square" 303 29 1 3 102 true 181 103 (r 104) (r 105) (r 106) 307
def o108:Obj:=u (d 13) "is_square" (s "minortables.checks" 255) 107
def o111:Obj:=tn ["thing","many"] 313
def o113:Obj:=g (d 14) "is_place"
def o114:Obj:=c "is_place" 310 31 2 3 109 true 181 110 (r 111) (r 112) (r 113) 315
def o115:Obj:=u (d 14) "is_place" (s "minortables.checks" 255) 114
def o118:Obj:=g (d 15) "are_rising_places"
def o119:Obj:=c "are_rising_places" 318 33 2 3 116 true 181 117 z z (r 118) 321
def o120:Obj:=u (d 15) "are_rising_places" (s "minortables.checks" 255) 119
def o123:Obj:=tn ["thing"] 327
def o125:Obj:=g (d 16) "need_table"
def o126:Obj:=c "need_table" 324 39 1 3 121 true 181 122 (r 123) (r 124) (r 125) 328
def o127:Obj:=u (d 16) "need_table" (s "minortables.checks" 255) 126
def o130:Obj:=tn ["table"] 334
def o132:Obj:=g (d 17) "need_square"
def o133:Obj:=c "need_square" 331 42 1 3 128 true 181 129 (r 130) (r 131) (r 132) 335
def o134:Obj:=u (d 17) "need_square" (s "minortables.checks" 255) 133
def o137:Obj:=tn ["thing","many"] 341
def o139:Obj:=g (d 18) "need_place"
def o140:Obj:=c "need_place" 338 45 2 3 135 true 181 136 (r 137) (r 138) (r 139) 343
def o141:Obj:=u (d 18) "need_place" (s "minortables.checks" 255) 140
def o144:Obj:=tn ["thing","many"] 349
def o146:Obj:=g (d 19) "need_places"
def o147:Obj:=c "need_places" 346 48 2 3 142 true 181 143 (r 144) (r 145) (r 146) 351
def o148:Obj:=u (d 19) "need_places" (s "minortables.checks" 255) 147
def o151:Obj:=tn ["thing","most"] 357
def o153:Obj:=g (d 20) "need_size"
def o154:Obj:=c "need_size" 354 51 2 3 149 true 181 150 (r 151) (r 152) (r 153) 359
def o155:Obj:=u (d 20) "need_size" (s "minortables.checks" 255) 154
def o158:Obj:=g (d 22) "column_of"
def o159:Obj:=c "column_of" 364 55 2 3 156 true 181 157 z z (r 158) 367
def o160:Obj:=u (d 22) "column_of" (s "minortables.tables" 362) 159
def o163:Obj:=g (d 23) "columns_of"
def o164:Obj:=c "columns_of" 370 57 1 3 161 true 181 162 z z (r 163) 373
def o165:Obj:=u (d 23) "columns_of" (s "minortables.tables" 362) 164
def o168:Obj:=tn ["table"] 379
def o170:Obj:=g (d 24) "turned"
def o171:Obj:=c "turned" 376 59 1 3 166 true 181 167 (r 168) (r 169) (r 170) 380
def o172:Obj:=u (d 24) "turned" (s "minortables.tables" 362) 171
def o175:Obj:=g (d 25) "picked"
def o176:Obj:=c "picked" 383 62 2 3 173 true 181 174 z z (r 175) 386
def o177:Obj:=u (d 25) "picked" (s "minortables.tables" 362) 176
def o3_6(P:Params):Obj:=og 45 45 (s "minortables.minors" 459) P
def o12_6:Obj:=⟨z,none,.fields (fv.take 105).toArray,#[]⟩
def o180:Obj:=g (d 26) "part_at"
def o181:Obj:=c "part_at" 389 64 3 3 178 true 181 179 z z (r 180) 392
def o182:Obj:=u (d 26) "part_at" (s "minortables.tables" 362) 181
def o185:Obj:=tn ["table","rows","columns"] 398
def o187:Obj:=g (d 27) "part"
def o188:Obj:=c "part" 395 66 3 3 183 true 181 184 (r 185) (r 186) (r 187) 401
def o189:Obj:=u (d 27) "part" (s "minortables.tables" 362) 188
def o192:Obj:=g (d 28) "row_plus"
def o193:Obj:=c "row_plus" 404 71 2 3 190 true 181 191 z z (r 192) 407
def o194:Obj:=u (d 28) "row_plus" (s "minortables.tables" 362) 193
def o197:Obj:=tn ["one","other"] 415
def o199:Obj:=g (d 30) "set_below"
def o200:Obj:=c "set_below" 412 74 2 3 195 true 181 196 (r 197) (r 198) (r 199) 417
def o201:Obj:=u (d 30) "set_below" (s "minortables.joining" 410) 200
def o204:Obj:=tn ["one","other"] 423
def o206:Obj:=g (d 31) "set_beside"
def o207:Obj:=c "set_beside" 420 81 2 3 202 true 181 203 (r 204) (r 205) (r 206) 425
def o208:Obj:=u (d 31) "set_beside" (s "minortables.joining" 410) 207
def o211:Obj:=g (d 32) "set_aslant"
def o212:Obj:=c "set_aslant" 428 83 2 3 209 true 181 210 z z (r 211) 431
def o213:Obj:=u (d 32) "set_aslant" (s "minortables.joining" 410) 212
def o216:Obj:=tn ["table","one","other"] 437
def o218:Obj:=g (d 33) "need_two_rows"
def o219:Obj:=c "need_two_rows" 434 91 3 3 214 true 181 215 (r 216) (r 217) (r 218) 440
def o220:Obj:=u (d 33) "need_two_rows" (s "minortables.joining" 410) 219
def o223:Obj:=tn ["table","one","other","rows"] 446
def o225:Obj:=g (d 34) "rows_exchanged"
def o226:Obj:=c "rows_exchanged" 443 95 3 3 221 true 181 222 (r 223) (r 224) (r 225) 450
def o227:Obj:=u (d 34) "rows_exchanged" (s "minortables.joining" 410) 226
def o230:Obj:=g (d 35) "row_added"
def o231:Obj:=c "row_added" 453 101 4 3 228 true 181 229 z z (r 230) 456
def o232:Obj:=u (d 35) "row_added" (s "minortables.joining" 410) 231
def o235:Obj:=g (d 37) "without"
def o236:Obj:=c "without" 461 109 3 3 233 true 181 234 z z (r 235) 464
def o237:Obj:=u (d 37) "without" (s "minortables.minors" 459) 236
def o240:Obj:=g (d 38) "worth_of"
def o241:Obj:=c "worth_of" 467 112 1 3 238 true 181 239 z z (r 240) 470
def o242:Obj:=u (d 38) "worth_of" (s "minortables.minors" 459) 241
def o245:Obj:=tn ["table","row","column"] 476
def o247:Obj:=g (d 39) "rest_worth"
def o248:Obj:=c "rest_worth" 473 116 3 3 243 true 181 244 (r 245) (r 246) (r 247) 479
def o249:Obj:=u (d 39) "rest_worth" (s "minortables.minors" 459) 248
def o252:Obj:=tn ["table","row","column","worth"] 485
def o254:Obj:=g (d 40) "signed_rest"
def o255:Obj:=c "signed_rest" 482 118 3 3 250 true 181 251 (r 252) (r 253) (r 254) 489
def o256:Obj:=u (d 40) "signed_rest" (s "minortables.minors" 459) 255
def o3_7(P:Params):Obj:=og 58 58 (s "law_minortables_k15_whole_joined_minors" 572) P
def o12_7:Obj:=⟨z,none,.fields (fv.take 144).toArray,#[]⟩
def o259:Obj:=g (d 41) "row_with_rests"
def o260:Obj:=c "row_with_rests" 492 121 2 3 257 true 181 258 z z (r 259) 495
def o261:Obj:=u (d 41) "row_with_rests" (s "minortables.minors" 459) 260
def o264:Obj:=g (d 42) "with_behind"
def o265:Obj:=c "with_behind" 498 123 2 3 262 true 181 263 z z (r 264) 501
def o266:Obj:=u (d 42) "with_behind" (s "minortables.minors" 459) 265
def o269:Obj:=tn ["many","size","told","length","longer","places"] 507
def o271:Obj:=g (d 43) "rising_tuples"
def o272:Obj:=c "rising_tuples" 504 126 2 3 267 true 181 268 (r 269) (r 270) (r 271) 513
def o273:Obj:=u (d 43) "rising_tuples" (s "minortables.minors" 459) 272
def o276:Obj:=tn ["table"] 519
def o278:Obj:=g (d 44) "greatest_size"
def o279:Obj:=c "greatest_size" 516 134 1 3 274 true 181 275 (r 276) (r 277) (r 278) 520
def o280:Obj:=u (d 44) "greatest_size" (s "minortables.minors" 459) 279
def o283:Obj:=tn ["table","rows","told","columns"] 526
def o285:Obj:=g (d 45) "minors_of_rows"
def o286:Obj:=c "minors_of_rows" 523 136 2 3 281 true 181 282 (r 283) (r 284) (r 285) 530
def o287:Obj:=u (d 45) "minors_of_rows" (s "minortables.minors" 459) 286
def o290:Obj:=tn ["table","size","told","rows"] 536
def o292:Obj:=g (d 46) "minors_of_size"
def o293:Obj:=c "minors_of_size" 533 141 2 3 288 true 181 289 (r 290) (r 291) (r 292) 540
def o294:Obj:=u (d 46) "minors_of_size" (s "minortables.minors" 459) 293
def o297:Obj:=tn ["table","told","size"] 546
def o299:Obj:=g (d 47) "minors_in"
def o300:Obj:=c "minors_in" 543 146 1 3 295 true 181 296 (r 297) (r 298) (r 299) 549
def o301:Obj:=u (d 47) "minors_in" (s "minortables.minors" 459) 300
def o304:Obj:=tn ["table"] 555
def o306:Obj:=g (d 48) "all_minors"
def o307:Obj:=c "all_minors" 552 151 1 3 302 true 181 303 (r 304) (r 305) (r 306) 556
def o308:Obj:=u (d 48) "all_minors" (s "minortables.minors" 459) 307
def o311:Obj:=tn ["table"] 562
def o313:Obj:=g (d 49) "whole_minor"
def o314:Obj:=c "whole_minor" 559 154 1 3 309 true 181 310 (r 311) (r 312) (r 313) 563
def o315:Obj:=u (d 49) "whole_minor" (s "minortables.minors" 459) 314
def o318:Obj:=g (d 50) "rank"
def o319:Obj:=c "rank" 566 158 1 3 316 true 181 317 z z (r 318) 569
def o320:Obj:=u (d 50) "rank" (s "minortables.minors" 459) 319
def o323:Obj:=tn ["_law_script","_law_k"] 577
def o325:Obj:=g (d 52) "_law_cell"
def o326:Obj:=c "_law_cell" 574 161 2 3 321 true 181 322 (r 323) (r 324) (r 325) 579
def o327:Obj:=u (d 52) "_law_cell" (s "law_minortables_k15_whole_joined_minors" 572) 326
def o330:Obj:=tn ["_law_script","_law_k","_law_many","_law_drawn"] 585
def o332:Obj:=g (d 53) "_law_pick"
def o333:Obj:=c "_law_pick" 582 167 3 3 328 true 181 329 (r 330) (r 331) (r 332) 589
def o334:Obj:=u (d 53) "_law_pick" (s "law_minortables_k15_whole_joined_minors" 572) 333
def o337:Obj:=g (d 54) "_law_table"
def o338:Obj:=c "_law_table" 592 170 4 3 335 true 181 336 z z (r 337) 595
def o339:Obj:=u (d 54) "_law_table" (s "law_minortables_k15_whole_joined_minors" 572) 338
def o3_8(P:Params):Obj:=og 62 62 (s "law_minortables_k15_whole_joined_minors" 572) P
def o12_8:Obj:=⟨z,none,.fields (fv.take 156).toArray,#[]⟩
def o342:Obj:=g (d 55) "_law_worth"
def o343:Obj:=c "_law_worth" 598 176 1 3 340 true 181 341 z z (r 342) 601
def o344:Obj:=u (d 55) "_law_worth" (s "law_minortables_k15_whole_joined_minors" 572) 343
def o347:Obj:=g (d 56) "_law_big"
def o348:Obj:=c "_law_big" 604 186 2 3 345 true 181 346 z z (r 347) 607
def o349:Obj:=u (d 56) "_law_big" (s "law_minortables_k15_whole_joined_minors" 572) 348
def o352:Obj:=g (d 57) "_law_rows"
def o353:Obj:=c "_law_rows" 610 188 2 3 350 true 181 351 z z (r 352) 613
def o354:Obj:=u (d 57) "_law_rows" (s "law_minortables_k15_whole_joined_minors" 572) 353
def o357:Obj:=tn ["_law_script","_law_rows_here","_law_columns","_law_more","_law_many","_law_size","_law_one","_law_other","_law_low","_law_made","_law_row","_law_due"] 619
def o359:Obj:=g (d 58) "law"
def o360:Obj:=c "law" 616 203 1 3 355 true 181 356 (r 357) (r 358) (r 359) 631
def o361:Obj:=u (d 58) "law" (s "law_minortables_k15_whole_joined_minors" 572) 360
def Ha(P:Params):Heap:=⟨⟨[boot_o_0 P,boot_o_1 P,boot_o_2 P,boot_o_3 P,boot_o_4 P,boot_o_5 P,boot_o_6 P,boot_o_7 P,boot_o_8 P,boot_o_9 P,boot_o_10 P,y,o12,o13,o14]⟩,{}⟩
def T0(P:Params):BT:=I .nil 0 [boot_o_0 P,boot_o_1 P,boot_o_2 P,boot_o_3 P,boot_o_4 P,boot_o_5 P,boot_o_6 P,boot_o_7 P,boot_o_8 P,boot_o_9 P,boot_o_10 P,y,o12,o13,o14]
def T1(P:Params):BT:=I (T0 P) 15 [o15,o16,o17 P,y,x,o20,o21,y,o23 P,o24,o25,o26,o27] |>.set 3 (fun _=>o3_1 P) |>.set 12 (fun _=>o12_1)
def T2(P:Params):BT:=I (T1 P) 28 [o28,o29,o30 P,y,x,o33,o34,y,o36 P,o37,o38,o39] |>.set 3 (fun _=>o3_2 P) |>.set 12 (fun _=>o12_2) |>.set 24 (fun _=>o24_2)
def T3(P:Params):BT:=I (T2 P) 40 [o40,o41,o42 P,y,x,o45,o46,y,o48 P,o49,o50,o51] |>.set 3 (fun _=>o3_3 P) |>.set 12 (fun _=>o12_3) |>.set 24 (fun _=>o24_3)
def T4(P:Params):BT:=I (T3 P) 52 [o52,o53,o54 P,y,x,o57,o58,y,o60 P,o61,o62,o63,y,x,o66,y,o68,o69,o70,y,x,o73,y,o75,o76,o77,y,x,o80,y,o82,o83,o84,y,x,o87,o88,o89,y,x,o92,y,o94,o95,o96] |>.set 3 (fun _=>o3_4 P) |>.set 12 (fun _=>o12_4) |>.set 24 (fun _=>o24_4)
def T5(P:Params):BT:=I (T4 P) 97 [y,x,o99,o100,o101,y,x,o104,y,o106,o107,o108,y,x,o111,y,o113,o114,o115,y,x,o118,o119,o120,y,x,o123,y,o125,o126,o127,y,x,o130,y,o132,o133,o134,y,x,o137,y,o139,o140,o141,y,x,o144,y,o146,o147,o148,y,x,o151,y,o153,o154,o155,y,x,o158,o159,o160,y,x,o163,o164,o165,y,x,o168,y,o170,o171,o172,y,x,o175,o176,o177] |>.set 3 (fun _=>o3_5 P) |>.set 12 (fun _=>o12_5)
def T6(P:Params):BT:=I (T5 P) 178 [y,x,o180,o181,o182,y,x,o185,y,o187,o188,o189,y,x,o192,o193,o194,y,x,o197,y,o199,o200,o201,y,x,o204,y,o206,o207,o208,y,x,o211,o212,o213,y,x,o216,y,o218,o219,o220,y,x,o223,y,o225,o226,o227,y,x,o230,o231,o232,y,x,o235,o236,o237,y,x,o240,o241,o242,y,x,o245,y,o247,o248,o249,y,x,o252,y,o254,o255,o256] |>.set 3 (fun _=>o3_6 P) |>.set 12 (fun _=>o12_6)
def T7(P:Params):BT:=I (T6 P) 257 [y,x,o259,o260,o261,y,x,o264,o265,o266,y,x,o269,y,o271,o272,o273,y,x,o276,y,o278,o279,o280,y,x,o283,y,o285,o286,o287,y,x,o290,y,o292,o293,o294,y,x,o297,y,o299,o300,o301,y,x,o304,y,o306,o307,o308,y,x,o311,y,o313,o314,o315,y,x,o318,o319,o320,y,x,o323,y,o325,o326,o327,y,x,o330,y,o332,o333,o334,y,x,o337,o338,o339] |>.set 3 (fun _=>o3_7 P) |>.set 12 (fun _=>o12_7)
def T8(P:Params):BT:=I (T7 P) 340 [y,x,o342,o343,o344,y,x,o347,o348,o349,y,x,o352,o353,o354,y,x,o357,y,o359,o360,o361] |>.set 3 (fun _=>o3_8 P) |>.set 12 (fun _=>o12_8)
def H1(P:Params):Heap:=⟨⟨[boot_o_0 P,boot_o_1 P,boot_o_2 P,o3_8 P,boot_o_4 P,boot_o_5 P,boot_o_6 P,boot_o_7 P,boot_o_8 P,boot_o_9 P,boot_o_10 P,y,o12_8,o13,o14,o15,o16,o17 P,y,x,o20,o21,y,o23 P,o24_4,o25,o26,o27,o28,o29,o30 P,y,x,o33,o34,y,o36 P,o37,o38,o39,o40,o41,o42 P,y,x,o45,o46,y,o48 P,o49,o50,o51,o52,o53,o54 P,y,x,o57,o58,y,o60 P,o61,o62,o63,y,x,o66,y,o68,o69,o70,y,x,o73,y,o75,o76,o77,y,x,o80,y,o82,o83,o84,y,x,o87,o88,o89,y,x,o92,y,o94,o95,o96,y,x,o99,o100,o101,y,x,o104,y,o106,o107,o108,y,x,o111,y,o113,o114,o115,y,x,o118,o119,o120,y,x,o123,y,o125,o126,o127,y,x,o130,y,o132,o133,o134,y,x,o137,y,o139,o140,o141,y,x,o144,y,o146,o147,o148,y,x,o151,y,o153,o154,o155,y,x,o158,o159,o160,y,x,o163,o164,o165,y,x,o168,y,o170,o171,o172,y,x,o175,o176,o177,y,x,o180,o181,o182,y,x,o185,y,o187,o188,o189,y,x,o192,o193,o194,y,x,o197,y,o199,o200,o201,y,x,o204,y,o206,o207,o208,y,x,o211,o212,o213,y,x,o216,y,o218,o219,o220,y,x,o223,y,o225,o226,o227,y,x,o230,o231,o232,y,x,o235,o236,o237,y,x,o240,o241,o242,y,x,o245,y,o247,o248,o249,y,x,o252,y,o254,o255,o256,y,x,o259,o260,o261,y,x,o264,o265,o266,y,x,o269,y,o271,o272,o273,y,x,o276,y,o278,o279,o280,y,x,o283,y,o285,o286,o287,y,x,o290,y,o292,o293,o294,y,x,o297,y,o299,o300,o301,y,x,o304,y,o306,o307,o308,y,x,o311,y,o313,o314,o315,y,x,o318,o319,o320,y,x,o323,y,o325,o326,o327,y,x,o330,y,o332,o333,o334,y,x,o337,o338,o339,y,x,o342,o343,o344,y,x,o347,o348,o349,y,x,o352,o353,o354,y,x,o357,y,o359,o360,o361]⟩,{}⟩
def S0(w:World)(os:OsState):SharedT:=⟨T0 w.params,15,{},⟨[]⟩,{},187,os⟩
def S1(w:World)(os:OsState):SharedT:=⟨T1 w.params,28,{},⟨[]⟩,{},207,os⟩
def S2(w:World)(os:OsState):SharedT:=⟨T2 w.params,40,{},⟨[]⟩,{},223,os⟩
def S3(w:World)(os:OsState):SharedT:=⟨T3 w.params,52,{},⟨[]⟩,{},239,os⟩
def S4(w:World)(os:OsState):SharedT:=⟨T4 w.params,97,{},⟨[]⟩,{},297,os⟩
def S5(w:World)(os:OsState):SharedT:=⟨T5 w.params,178,{},⟨[]⟩,{},389,os⟩
def S6(w:World)(os:OsState):SharedT:=⟨T6 w.params,257,{},⟨[]⟩,{},492,os⟩
def S7(w:World)(os:OsState):SharedT:=⟨T7 w.params,340,{},⟨[]⟩,{},598,os⟩
def S8(w:World)(os:OsState):SharedT:=⟨T8 w.params,362,{},⟨[]⟩,{},634,os⟩
def S(w:World)(os:OsState):Shared:=⟨H1 w.params,⟨[]⟩,{},634,os⟩
def E:Env:={ scope:=p.main.scope,locals:=mainNs,globals:=mainNs,cells:=[],code:=(r 13),frame:=some 14 }
abbrev C:Code:=.body (behindTheImports p) E
abbrev B:List Frame:=[topFrame ⟨0,0,0,0⟩]
def l1:List Stmt:=((behindTheImports p).drop 0).take 2
def l2:List Stmt:=((behindTheImports p).drop 2).take 1
def l3:List Stmt:=((behindTheImports p).drop 3).take 1
def l4:List Stmt:=((behindTheImports p).drop 4).take 8
def l5:List Stmt:=((behindTheImports p).drop 12).take 14
def l6:List Stmt:=((behindTheImports p).drop 26).take 15
def l7:List Stmt:=((behindTheImports p).drop 41).take 14
def l8:List Stmt:=((behindTheImports p).drop 55).take 4
theorem pre(w:World)(os:OsState):topGo treeTable p w 11 (some (r 6)) 12 ⟨boot_heap w.params,Array.mk [],boot_drawn,boot_toks,os⟩ (topStub p)=some (⟨Ha w.params,⟨[]⟩,{},187,os⟩,⟨denote treeTable C,C,⟨0,0,0,0⟩,B⟩):=goT (by kernel_rfl)
theorem blk(w:World)(os:OsState):segRun treeTable p w 11 (some (r 6)) 1 1 ⟨Ha w.params,⟨[]⟩,{},187,os⟩ (blockOf (behindTheImports p) E C ⟨0,0,0,0⟩ B)=some (.next,(S0 w os).abs,C,⟨0,0,0,0⟩):=segS (by kernel_rfl)
theorem p1(w:World)(os:OsState):segRun treeTable p w 11 (some (r 6)) 1 196 (S0 w os).abs (piecesOf l1 E C ⟨0,0,0,0⟩ B)=some (.next,(S1 w os).abs,C,⟨2,0,3,8⟩):=segRun_of (segT (by kernel_rfl))
theorem p2(w:World)(os:OsState):segRun treeTable p w 11 (some (r 6)) 1 214 (S1 w os).abs (piecesOf l2 E C ⟨2,0,3,8⟩ B)=some (.next,(S2 w os).abs,C,⟨4,0,5,8⟩):=segRun_of (segT (by kernel_rfl))
theorem p3(w:World)(os:OsState):segRun treeTable p w 11 (some (r 6)) 1 214 (S2 w os).abs (piecesOf l3 E C ⟨4,0,5,8⟩ B)=some (.next,(S3 w os).abs,C,⟨6,0,7,8⟩):=segRun_of (segT (by kernel_rfl))
theorem p4(w:World)(os:OsState):segRun treeTable p w 11 (some (r 6)) 1 378 (S3 w os).abs (piecesOf l4 E C ⟨6,0,7,8⟩ B)=some (.next,(S4 w os).abs,C,⟨22,0,26,15⟩):=segRun_of (segT (by kernel_rfl))
theorem p5(w:World)(os:OsState):segRun treeTable p w 11 (some (r 6)) 1 376 (S4 w os).abs (piecesOf l5 E C ⟨22,0,26,15⟩ B)=some (.next,(S5 w os).abs,C,⟨62,0,63,53⟩):=segRun_of (segT (by kernel_rfl))
theorem p6(w:World)(os:OsState):segRun treeTable p w 11 (some (r 6)) 1 392 (S5 w os).abs (piecesOf l6 E C ⟨62,0,63,53⟩ B)=some (.next,(S6 w os).abs,C,⟨118,0,120,55⟩):=segRun_of (segT (by kernel_rfl))
theorem p7(w:World)(os:OsState):segRun treeTable p w 11 (some (r 6)) 1 392 (S6 w os).abs (piecesOf l7 E C ⟨118,0,120,55⟩ B)=some (.next,(S7 w os).abs,C,⟨170,0,175,27⟩):=segRun_of (segT (by kernel_rfl))
theorem p8(w:World)(os:OsState):segRun treeTable p w 11 (some (r 6)) 1 119 (S7 w os).abs (piecesOf l8 E C ⟨170,0,175,27⟩ B)=some (.next,(S8 w os).abs,C,⟨203,0,221,106⟩):=segRun_of (segT (by kernel_rfl))
theorem fin(w:World)(os:OsState):topRun treeTable p w 11 (some (r 6)) 2 (S8 w os).abs ⟨doneF .next,C,⟨203,0,221,106⟩,B⟩=some (S w os):=topT (by kernel_rfl)
abbrev M:Nat:=(12+(1+(196+(214+(214+(378+(376+(392+(392+(119+2))))))))))
theorem lst:behindTheImports p=(l1++(l2++(l3++(l4++(l5++(l6++(l7++(l8++[])))))))):=by kernel_rfl
theorem r8(w:World)(os:OsState):topRun treeTable p w 11 (some (r 6)) 2 (S8 w os).abs (restOf [] E C ⟨203,0,221,106⟩ B)=some (S w os):=fin w os
theorem r7(w:World)(os:OsState):topRun treeTable p w 11 (some (r 6)) (119+2) (S7 w os).abs (restOf (l8++[]) E C ⟨170,0,175,27⟩ B)=some (S w os):=piece_app (p8 w os) (r8 w os)
theorem r6(w:World)(os:OsState):topRun treeTable p w 11 (some (r 6)) (392+(119+2)) (S6 w os).abs (restOf (l7++(l8++[])) E C ⟨118,0,120,55⟩ B)=some (S w os):=piece_app (p7 w os) (r7 w os)
theorem r5(w:World)(os:OsState):topRun treeTable p w 11 (some (r 6)) (392+(392+(119+2))) (S5 w os).abs (restOf (l6++(l7++(l8++[]))) E C ⟨62,0,63,53⟩ B)=some (S w os):=piece_app (p6 w os) (r6 w os)
theorem r4(w:World)(os:OsState):topRun treeTable p w 11 (some (r 6)) (376+(392+(392+(119+2)))) (S4 w os).abs (restOf (l5++(l6++(l7++(l8++[])))) E C ⟨22,0,26,15⟩ B)=some (S w os):=piece_app (p5 w os) (r5 w os)
theorem r3(w:World)(os:OsState):topRun treeTable p w 11 (some (r 6)) (378+(376+(392+(392+(119+2))))) (S3 w os).abs (restOf (l4++(l5++(l6++(l7++(l8++[]))))) E C ⟨6,0,7,8⟩ B)=some (S w os):=piece_app (p4 w os) (r4 w os)
theorem r2(w:World)(os:OsState):topRun treeTable p w 11 (some (r 6)) (214+(378+(376+(392+(392+(119+2)))))) (S2 w os).abs (restOf (l3++(l4++(l5++(l6++(l7++(l8++[])))))) E C ⟨4,0,5,8⟩ B)=some (S w os):=piece_app (p3 w os) (r3 w os)
theorem r1(w:World)(os:OsState):topRun treeTable p w 11 (some (r 6)) (214+(214+(378+(376+(392+(392+(119+2))))))) (S1 w os).abs (restOf (l2++(l3++(l4++(l5++(l6++(l7++(l8++[]))))))) E C ⟨2,0,3,8⟩ B)=some (S w os):=piece_app (p2 w os) (r2 w os)
theorem r0(w:World)(os:OsState):topRun treeTable p w 11 (some (r 6)) (196+(214+(214+(378+(376+(392+(392+(119+2)))))))) (S0 w os).abs (restOf (l1++(l2++(l3++(l4++(l5++(l6++(l7++(l8++[])))))))) E C ⟨0,0,0,0⟩ B)=some (S w os):=piece_app (p1 w os) (r1 w os)
theorem run(w:World)(os:OsState):topRun treeTable p w 11 (some (r 6)) M ⟨boot_heap w.params,Array.mk [],boot_drawn,boot_toks,os⟩ (topStub p)=some (S w os):=go_top (pre w os) (piece_block (blk w os) (restE lst (r0 w os)))
def K(P:Params):Frag:=[(2,boot_o_2 P),(3,o3_8 P),(15,o15),(22,y),(23,o23 P),(24,o24_4),(25,o25),(28,o28),(35,y),(36,o36 P),(37,o37),(40,o40),(47,y),(48,o48 P),(49,o49),(52,o52),(59,y),(60,o60 P),(61,o61),(64,y),(66,o66),(67,y),(69,o69),(70,o70),(71,y),(73,o73),(74,y),(76,o76),(77,o77),(78,y),(80,o80),(81,y),(83,o83),(84,o84),(85,y),(88,o88),(89,o89),(90,y),(92,o92),(93,y),(95,o95),(96,o96),(97,y),(100,o100),(101,o101),(102,y),(104,o104),(105,y),(107,o107),(108,o108),(109,y),(111,o111),(112,y),(114,o114),(115,o115),(116,y),(119,o119),(120,o120),(121,y),(123,o123),(124,y),(126,o126),(127,o127),(128,y),(130,o130),(131,y),(133,o133),(134,o134),(135,y),(137,o137),(138,y),(140,o140),(141,o141),(142,y),(144,o144),(145,y),(147,o147),(148,o148),(149,y),(151,o151),(152,y),(154,o154),(155,o155),(156,y),(159,o159),(160,o160),(161,y),(164,o164),(165,o165),(166,y),(168,o168),(169,y),(171,o171),(172,o172),(173,y),(176,o176),(177,o177),(178,y),(181,o181),(182,o182),(183,y),(185,o185),(186,y),(188,o188),(189,o189),(190,y),(193,o193),(194,o194),(195,y),(197,o197),(198,y),(200,o200),(201,o201),(202,y),(204,o204),(205,y),(207,o207),(208,o208),(209,y),(212,o212),(213,o213),(214,y),(216,o216),(217,y),(219,o219),(220,o220),(221,y),(223,o223),(224,y),(226,o226),(227,o227),(228,y),(231,o231),(232,o232),(233,y),(236,o236),(237,o237),(238,y),(241,o241),(242,o242),(243,y),(245,o245),(246,y),(248,o248),(249,o249),(250,y),(252,o252),(253,y),(255,o255),(256,o256),(257,y),(260,o260),(261,o261),(262,y),(265,o265),(266,o266),(267,y),(269,o269),(270,y),(272,o272),(273,o273),(274,y),(276,o276),(277,y),(279,o279),(280,o280),(281,y),(283,o283),(284,y),(286,o286),(287,o287),(288,y),(290,o290),(291,y),(293,o293),(294,o294),(295,y),(297,o297),(298,y),(300,o300),(301,o301),(302,y),(304,o304),(305,y),(307,o307),(308,o308),(309,y),(311,o311),(312,y),(314,o314),(315,o315),(316,y),(319,o319),(320,o320),(321,y),(323,o323),(324,y),(326,o326),(327,o327),(328,y),(330,o330),(331,y),(333,o333),(334,o334),(335,y),(338,o338),(339,o339),(340,y),(343,o343),(344,o344),(345,y),(348,o348),(349,o349),(350,y),(353,o353),(354,o354),(355,y),(357,o357),(358,y),(360,o360),(361,o361)]
abbrev as:List Addr:=[2,3,15,22,23,24,25,28,35,36,37,40,47,48,49,52,59,60,61,64,66,67,69,70,71,73,74,76,77,78,80,81,83,84,85,88,89,90,92,93,95,96,97,100,101,102,104,105,107,108,109,111,112,114,115,116,119,120,121,123,124,126,127,128,130,131,133,134,135,137,138,140,141,142,144,145,147,148,149,151,152,154,155,156,159,160,161,164,165,166,168,169,171,172,173,176,177,178,181,182,183,185,186,188,189,190,193,194,195,197,198,200,201,202,204,205,207,208,209,212,213,214,216,217,219,220,221,223,224,226,227,228,231,232,233,236,237,238,241,242,243,245,246,248,249,250,252,253,255,256,257,260,261,262,265,266,267,269,270,272,273,274,276,277,279,280,281,283,284,286,287,288,290,291,293,294,295,297,298,300,301,302,304,305,307,308,309,311,312,314,315,316,319,320,321,323,324,326,327,328,330,331,333,334,335,338,339,340,343,344,345,348,349,350,353,354,355,357,358,360,361]
abbrev m0:Nat:=11
abbrev tk:Nat:=634
abbrev ann:Option Value:=(some (r 6))
def Xt(s:Shared):Bool:=xlAt q [] s&&recOk PySem.Challenge.rw_minortables_k15_whole_joined_minors.row.toRowW.records s
theorem lk0(w:World)(os:OsState):(staticsOk (importedModules p.main.body) (boot_heap w.params) (H1 w.params)&&namesBound p (H1 w.params)&&gensDone (S w os)&&laidKept (boot_heap w.params) (H1 w.params))=true:=by
 rw[Fast.te5923862056798008813];kernel_rfl
theorem lk1(w:World)(os:OsState):PyProof.Rows.seen ((PyProof.Rows.recsOf q).map (·.name)) (PyProof.Rows.ownsOf q) [] { S w os with gens := #[] }=PyProof.Rows.expectedOf q:=by
 rw[Fast.te5160383126252970620,Fast.te3399658132070893891,Fast.te5991557255702980513];kernel_rfl
theorem lk2(w:World)(os:OsState):(S w os).heap.bltView=bltViewBooted:=by kernel_rfl
theorem lk3(w:World)(os:OsState):((S w os).heap.keysOk (looseW q lo) ((PyProof.Rows.recsOf q).map (·.name)) ((PyProof.Rows.litsOf q).map (·.1)) ((PyProof.Rows.clssOf q (looseW q lo)).map (·.name))&&(S w os).heap.accountedOkI (importedModules p.main.body)&&(S w os).heap.isNs mainGlobals&&(S w os).heap.isNs builtinsNs&&PyProof.Rows.tablesOk q (S w os).heap&&Xt (S w os)&&(if true then(S w os).gens.size==0 else !leftWithCleanup (S w os).gens))=true:=by
 rw[Fast.te10880121769531294198,Fast.te821141287760084731,Fast.te3399658132070893891,Fast.te7409074990110511671,Fast.te13664370479719496447,Fast.te14722251495701143533,Fast.te5923862056798008813];kernel_rfl
theorem lk4(w:World)(os:OsState):PyProof.Rows.tabsOk q (S w os)=true:=by rw[Fast.te479339242167458305];kernel_rfl
theorem lk5(w:World)(os:OsState):pinSeenD q (PyProof.Rows.drecsOf q) (S w os)=pinGoodD (PyProof.Rows.drecsOf q):=by rw[Fast.te16090120013241838585,Fast.te3247288618530077131];kernel_rfl
theorem lk6(w:World)(os:OsState):PyProof.Rows.plainSeenE q (looseW q lo) (S w os)=PyProof.Rows.plainGoodE q (looseW q lo):=by rw[Fast.te2386780881361962483,Fast.te821141287760084731];kernel_rfl
theorem lk7(w:World)(os:OsState):PyProof.Rows.plainSeenD q lo (S w os)=PyProof.Rows.plainGoodD q lo:=by rw[Fast.te11698064438423848299];kernel_rfl
theorem lk8(w:World)(os:OsState):wideSeen q (S w os)=wideGood q:=by rw[Fast.te7317090234206586261];kernel_rfl
theorem lk9(w:World)(os:OsState):clsSeenW q lo (S w os)=clsGoodW q lo:=by rw[Fast.te7369524293546568484];kernel_rfl
theorem asK(P:Params):as=(K P).map (·.1):=by kernel_rfl
abbrev H:Hook:=kHook K as asK
theorem lkY(w:World)(os:OsState):H.obs (S w os)=H.val w:=by kernel_rfl
theorem looks(w:World):(fun os=>((staticsOk (importedModules p.main.body) (boot_heap w.params) (H1 w.params)&&namesBound p (H1 w.params)&&gensDone (S w os)&&laidKept (boot_heap w.params) (H1 w.params)),openSeen q lo (importedModules p.main.body) Xt true (S w os),H.obs (S w os)))=fun _=>(true,openGood q lo,H.val w) :=
 funext fun os=>looks_pair (lk0 w os) (looks_pair (looks_pair (lk1 w os) (looks_pair (lk2 w os) (looks_pair (lk3 w os) (looks_pair (lk4 w os) (looks_pair (lk5 w os) (looks_pair (lk6 w os) (looks_pair (lk7 w os) (looks_pair (lk8 w os) (lk9 w os))))))))) (lkY w os))
theorem size(w:World):((boot_heap w.params).isNs mainGlobals&&(Array.mk ([]:List GenState)).size==0,(boot_heap w.params).objs.size,(boot_heap w.params).nsMap mainGlobals "__annotations__")=(true,m0,ann):=by
 rw[Fast.te8920871248978507458];kernel_rfl
theorem bt(w:World):(fencedOpening treeTable p w N).map (fun s=>(s.heap,s.gens,s.drawn,s.toks))=some (boot_heap w.params,Array.mk [],boot_drawn,boot_toks) :=
 boot_open (p:=p) (N:=N) (by kernel_rfl) (by kernel_rfl) (fun _=>rfl) w
theorem left:LeftO p q lo Xt H.obs H.val N :=
 LeftO.of_pieces (H₀:=boot_heap) (H₁:=H1) (m₀:=m0) (ann:=ann) (M:=M) (gs₀:=Array.mk []) (gs₁:=⟨[]⟩) (d₀:=boot_drawn) (d₁:={}) (k₀:=boot_toks) (k₁:=tk) bt size run (by kernel_rfl) looks
abbrev R:OpenLaw:=PySem.Challenge.rw_minortables_k15_whole_joined_minors
theorem said:R.wellSaid=true:=by rw[Fast.te9446332074065402090];kernel_rfl
def dr:DefRec:=match d 58 with | .FunctionDef n a l _ _ _ sc _ _ o=>⟨n,a,l,sc,o⟩ | _=>⟨"",default,[],default,⟨0,0,0,0⟩⟩
theorem hdef:defOf q R.row.name=some (dr,[]):=by kernel_rfl
theorem hthe:R.row.prog.theDef R.row.name=some (dr.params,dr.body,dr.scope):=by kernel_rfl
theorem hkw:kwWritten? dr.params.kwonlyargs dr.params.kw_defaults=some []:=by kernel_rfl
theorem hok:(chainsOk q&&opensWell R.row.prog&&(frees R.row.toRowW&&R.row.within.isEmpty))=true:=by kernel_rfl
theorem hbare:R.row.prog.bare:=⟨rfl,rfl,rfl,rfl,rfl,by kernel_rfl⟩
theorem hpro:R.row.toRowW.promised:=⟨[.list []],by kernel_rfl,by kernel_rfl⟩
theorem holds(call:WalkO q lo (XL q []) H.says R.row.toRowW dr [] fun f vs=>PySem.call f vs):R.Holds :=
 holds_law said fun k1=>holds_open (r:=R.row) (q:=q) (loose:=lo) (Xt:=Xt) (XP:=XL q []) (Yf:=H.obs) (Ya:=H.val) (YP:=H.says) (N:=N) left H.of H.keeps (fun s e=>xl_of s (Bool.and_eq_true_iff.mp e).1) XL.keeps hdef hthe hkw (fun s e=>recFacts_of (Bool.and_eq_true_iff.mp e).2) rfl k1 hok hbare hpro call
end H15
end
namespace M15
open PySem PySem.W L2 DE
set_option maxHeartbeats 0 in
theorem txt(w:World){mg:Str->Option Value}{h:Heap}(X:(H15.K w.params).In h)(G:h.Ns mainGlobals mg):Text (H15.K w.params) mg T :=
  ⟨in_of (l:=cs) (Q:=fun(x:Str) (d:D)=>∃ v u,(∀ H',Rep (H15.K w.params) H' d v)/\mg x=some u/\RelV v u) (aC (cA X G 257 (by kernel_rfl)) (aN)),
    in_of (l:=bl) (Q:=fun x b=>mg x=none/\x=Str.ofString b) (aC (bA X G (by kernel_rfl) rfl) (aC (bA X G (by kernel_rfl) rfl) (aC (bA X G (by kernel_rfl) rfl) (aC (bA X G (by kernel_rfl) rfl) (aC (bA X G (by kernel_rfl) rfl) (aC (bA X G (by kernel_rfl) rfl) (aC (bA X G (by kernel_rfl) rfl) (aC (bA X G (by kernel_rfl) rfl) (aC (bA X G (by kernel_rfl) rfl) (aC (bA X G (by kernel_rfl) rfl) (aC (bA X G (by kernel_rfl) rfl) (aC (bA X G (by kernel_rfl) rfl) (aC (bA X G (by kernel_rfl) rfl) (aN)))))))))))))),
    in_of (l:=df) (Q:=fun x fd=>FunAt (H15.K w.params) mg x fd) (
     aC (fun_at X G 70 .none (.str "minortables.checks" 255) (.ref 69) b7 (by kernel_rfl) (by kernel_rfl) (by kernel_rfl)) (
     aC (fun_at X G 77 .none (.str "minortables.checks" 255) (.ref 76) b8 (by kernel_rfl) (by kernel_rfl) (by kernel_rfl)) (
     aC (fun_at X G 84 .none (.str "minortables.checks" 255) (.ref 83) b9 (by kernel_rfl) (by kernel_rfl) (by kernel_rfl)) (
     aC (fun_at X G 89 .none (.str "minortables.checks" 255) (.ref 88) b10 (by kernel_rfl) (by kernel_rfl) (by kernel_rfl)) (
     aC (fun_at X G 96 .none (.str "minortables.checks" 255) (.ref 95) b11 (by kernel_rfl) (by kernel_rfl) (by kernel_rfl)) (
     aC (fun_at X G 101 .none (.str "minortables.checks" 255) (.ref 100) b12 (by kernel_rfl) (by kernel_rfl) (by kernel_rfl)) (
     aC (fun_at X G 108 .none (.str "minortables.checks" 255) (.ref 107) b13 (by kernel_rfl) (by kernel_rfl) (by kernel_rfl)) (
     aC (fun_at X G 115 .none (.str "minortables.checks" 255) (.ref 114) b14 (by kernel_rfl) (by kernel_rfl) (by kernel_rfl)) (
     aC (fun_at X G 120 .none (.str "minortables.checks" 255) (.ref 119) b15 (by kernel_rfl) (by kernel_rfl) (by kernel_rfl)) (
     aC (fun_at X G 127 .none (.str "minortables.checks" 255) (.ref 126) b16 (by kernel_rfl) (by kernel_rfl) (by kernel_rfl)) (
     aC (fun_at X G 134 .none (.str "minortables.checks" 255) (.ref 133) b17 (by kernel_rfl) (by kernel_rfl) (by kernel_rfl)) (
     aC (fun_at X G 141 .none (.str "minortables.checks" 255) (.ref 140) b18 (by kernel_rfl) (by kernel_rfl) (by kernel_rfl)) (
     aC (fun_at X G 148 .none (.str "minortables.checks" 255) (.ref 147) b19 (by kernel_rfl) (by kernel_rfl) (by kernel_rfl)) (
     aC (fun_at X G 155 .none (.str "minortables.checks" 255) (.ref 154) b20 (by kernel_rfl) (by kernel_rfl) (by kernel_rfl)) (
     aC (fun_at X G 160 .none (.str "minortables.tables" 362) (.ref 159) b22 (by kernel_rfl) (by kernel_rfl) (by kernel_rfl)) (
     aC (fun_at X G 165 .none (.str "minortables.tables" 362) (.ref 164) b23 (by kernel_rfl) (by kernel_rfl) (by kernel_rfl)) (
     aC (fun_at X G 172 .none (.str "minortables.tables" 362) (.ref 171) b24 (by kernel_rfl) (by kernel_rfl) (by kernel_rfl)) (
     aC (fun_at X G 177 .none (.str "minortables.tables" 362) (.ref 176) b25 (by kernel_rfl) (by kernel_rfl) (by kernel_rfl)) (
     aC (fun_at X G 182 .none (.str "minortables.tables" 362) (.ref 181) b26 (by kernel_rfl) (by kernel_rfl) (by kernel_rfl)) (
     aC (fun_at X G 189 .none (.str "minortables.tables" 362) (.ref 188) b27 (by kernel_rfl) (by kernel_rfl) (by kernel_rfl)) (
     aC (fun_at X G 194 .none (.str "minortables.tables" 362) (.ref 193) b28 (by kernel_rfl) (by kernel_rfl) (by kernel_rfl)) (
     aC (fun_at X G 201 .none (.str "minortables.joining" 410) (.ref 200) b30 (by kernel_rfl) (by kernel_rfl) (by kernel_rfl)) (
     aC (fun_at X G 208 .none (.str "minortables.joining" 410) (.ref 207) b31 (by kernel_rfl) (by kernel_rfl) (by kernel_rfl)) (
     aC (fun_at X G 213 .none (.str "minortables.joining" 410) (.ref 212) b32 (by kernel_rfl) (by kernel_rfl) (by kernel_rfl)) (
     aC (fun_at X G 220 .none (.str "minortables.joining" 410) (.ref 219) b33 (by kernel_rfl) (by kernel_rfl) (by kernel_rfl)) (
     aC (fun_at X G 227 .none (.str "minortables.joining" 410) (.ref 226) b34 (by kernel_rfl) (by kernel_rfl) (by kernel_rfl)) (
     aC (fun_at X G 232 .none (.str "minortables.joining" 410) (.ref 231) b35 (by kernel_rfl) (by kernel_rfl) (by kernel_rfl)) (
     aC (fun_at X G 237 .none (.str "minortables.minors" 459) (.ref 236) b37 (by kernel_rfl) (by kernel_rfl) (by kernel_rfl)) (
     aC (fun_at X G 242 .none (.str "minortables.minors" 459) (.ref 241) b38 (by kernel_rfl) (by kernel_rfl) (by kernel_rfl)) (
     aC (fun_at X G 249 .none (.str "minortables.minors" 459) (.ref 248) b39 (by kernel_rfl) (by kernel_rfl) (by kernel_rfl)) (
     aC (fun_at X G 256 .none (.str "minortables.minors" 459) (.ref 255) b40 (by kernel_rfl) (by kernel_rfl) (by kernel_rfl)) (
     aC (fun_at X G 261 .none (.str "minortables.minors" 459) (.ref 260) b41 (by kernel_rfl) (by kernel_rfl) (by kernel_rfl)) (
     aC (fun_at X G 266 .none (.str "minortables.minors" 459) (.ref 265) b42 (by kernel_rfl) (by kernel_rfl) (by kernel_rfl)) (
     aC (fun_at X G 273 .none (.str "minortables.minors" 459) (.ref 272) b43 (by kernel_rfl) (by kernel_rfl) (by kernel_rfl)) (
     aC (fun_at X G 280 .none (.str "minortables.minors" 459) (.ref 279) b44 (by kernel_rfl) (by kernel_rfl) (by kernel_rfl)) (
     aC (fun_at X G 287 .none (.str "minortables.minors" 459) (.ref 286) b45 (by kernel_rfl) (by kernel_rfl) (by kernel_rfl)) (
     aC (fun_at X G 294 .none (.str "minortables.minors" 459) (.ref 293) b46 (by kernel_rfl) (by kernel_rfl) (by kernel_rfl)) (
     aC (fun_at X G 301 .none (.str "minortables.minors" 459) (.ref 300) b47 (by kernel_rfl) (by kernel_rfl) (by kernel_rfl)) (
     aC (fun_at X G 308 .none (.str "minortables.minors" 459) (.ref 307) b48 (by kernel_rfl) (by kernel_rfl) (by kernel_rfl)) (
     aC (fun_at X G 315 .none (.str "minortables.minors" 459) (.ref 314) b49 (by kernel_rfl) (by kernel_rfl) (by kernel_rfl)) (
     aC (fun_at X G 320 .none (.str "minortables.minors" 459) (.ref 319) b50 (by kernel_rfl) (by kernel_rfl) (by kernel_rfl)) (
     aC (fun_at X G 327 .none (.str "law_minortables_k15_whole_joined_minors" 572) (.ref 326) b52 (by kernel_rfl) (by kernel_rfl) (by kernel_rfl)) (
     aC (fun_at X G 334 .none (.str "law_minortables_k15_whole_joined_minors" 572) (.ref 333) b53 (by kernel_rfl) (by kernel_rfl) (by kernel_rfl)) (
     aC (fun_at X G 339 .none (.str "law_minortables_k15_whole_joined_minors" 572) (.ref 338) b54 (by kernel_rfl) (by kernel_rfl) (by kernel_rfl)) (
     aC (fun_at X G 344 .none (.str "law_minortables_k15_whole_joined_minors" 572) (.ref 343) b55 (by kernel_rfl) (by kernel_rfl) (by kernel_rfl)) (
     aC (fun_at X G 349 .none (.str "law_minortables_k15_whole_joined_minors" 572) (.ref 348) b56 (by kernel_rfl) (by kernel_rfl) (by kernel_rfl)) (
     aC (fun_at X G 354 .none (.str "law_minortables_k15_whole_joined_minors" 572) (.ref 353) b57 (by kernel_rfl) (by kernel_rfl) (by kernel_rfl)) (
     aC (fun_at X G 361 .none (.str "law_minortables_k15_whole_joined_minors" 572) (.ref 360) b58 (by kernel_rfl) (by kernel_rfl) (by kernel_rfl)) (
     aN))))))))))))))))))))))))))))))))))))))))))))))))),XText.of (fun x v h=>PySem.W.mg_of X G h) (by kernel_rfl)⟩
end M15
open PySem PySem.W PyProof.Rows
set_option maxRecDepth 100000 in
set_option maxHeartbeats 0 in
theorem PySem.Challenge.cw_minortables_k15_whole_joined_minors_holds : PySem.Challenge.rw_minortables_k15_whole_joined_minors.Holds :=
 H15.holds (M15.walk (l := PySem.Challenge.rw_minortables_k15_whole_joined_minors) (K := H15.K) rfl (by kernel_rfl) (fun w h Y => PySem.W.kIn_of (e := H15.asK) Y) fun w mg fa h KX G hmg => M15.fin M15.law_true (M15.txt w KX G) KX G hmg 361 .none (.str "law_minortables_k15_whole_joined_minors" 572) (.ref 360) (by kernel_rfl) (by kernel_rfl) (by kernel_rfl) (by kernel_rfl))
#print axioms PySem.Challenge.cw_minortables_k15_whole_joined_minors_holds
