import PyProof.Rows.All
import Wide.All
import OpenK.AllK
import Wide.FinOn
import Lean
import PyProof.EqAt
import PyProof.EqKinds
import PyProof.TupleCall
import PySem.Names
import PyProof.NeKinds
import PySem.Challenge.RW_minortables_k91_whole_told_lists
set_option Elab.async false
set_option linter.all false
set_option maxRecDepth 100000
/-! THE HAND LAYER, for ints, bools, texts, own classes, LISTS and tuples (index, slices, in, append, pop ..), calls, loops. Paste it whole ahead of your own text; what your proof does not reach may be deleted. -/
namespace L2
open PySem PySem.Spec PyProof.Rows

noncomputable abbrev Key := Sum Int Str
noncomputable def keyIs : Key → Value → Bool
  | .inl k, v => Value.isInt k v
  | .inr x, v => Value.isStrOf x v
noncomputable def keyH (w : World) : Key → Int
  | .inl k => hashInt k
  | .inr x => hashStr w x
theorem keyIs_shape : ∀ {k : Key} {v : Value}, keyIs k v = true → (∃ i t, k = Sum.inl i ∧ v = Value.int i t) ∨ (∃ x t, k = Sum.inr x ∧ v = Value.str x t)
  | .inl i, v, h => by
    obtain ⟨t, e⟩ := Value.isInt_shape (k := i) (v := v) h
    exact .inl ⟨i, t, rfl, e⟩
  | .inr x, v, h => by
    obtain ⟨t, e⟩ := Value.isStrOf_shape (x := x) (v := v) h
    exact .inr ⟨x, t, rfl, e⟩
theorem keyIs_int (i : Int) (t : Tok) : keyIs (.inl i) (.int i t) = true := by simp [keyIs, Value.isInt]
theorem keyIs_str (x : Str) (t : Tok) : keyIs (.inr x) (.str x t) = true := by simp [keyIs, Value.isStrOf]
theorem key_ll (a b : Int) : decide ((Sum.inl a : Key) = Sum.inl b) = (a == b) := by
  by_cases e : a = b
  · subst e; simp
  · have h : ¬ (Sum.inl a : Key) = Sum.inl b := fun q => e (Sum.inl.inj q)
    rw [decide_eq_false h]
    exact (beq_eq_false_iff_ne.mpr e).symm
theorem key_rr (a b : Str) : decide ((Sum.inr a : Key) = Sum.inr b) = decide (a = b) := by
  by_cases e : a = b
  · subst e; simp
  · have h : ¬ (Sum.inr a : Key) = Sum.inr b := fun q => e (Sum.inr.inj q)
    rw [decide_eq_false h, decide_eq_false e]
theorem key_lr (a : Int) (b : Str) : decide ((Sum.inl a : Key) = Sum.inr b) = false := decide_eq_false (fun q => nomatch q)
theorem key_rl (a : Str) (b : Int) : decide ((Sum.inr a : Key) = Sum.inl b) = false := decide_eq_false (fun q => nomatch q)

noncomputable def mixKind (prog : Program) (w : World) : PySem.KeyKind prog w Key where
  is := keyIs
  hash := keyH w
  inj := fun v a b ha hb => by
    rcases keyIs_shape ha with ⟨i, t, rfl, rfl⟩ | ⟨x, t, rfl, rfl⟩
    · rcases keyIs_shape hb with ⟨j, u, rfl, e⟩ | ⟨y, u, rfl, e⟩
      · injection e with e1 _; rw [e1]
      · exact nomatch e
    · rcases keyIs_shape hb with ⟨j, u, rfl, e⟩ | ⟨y, u, rfl, e⟩
      · exact nomatch e
      · injection e with e1 _; rw [e1]
  byValue := fun k v h => by
    rcases keyIs_shape h with ⟨i, t, rfl, rfl⟩ | ⟨x, t, rfl, rfl⟩ <;> rfl
  pyHash := fun hv h => by
    rcases keyIs_shape hv with ⟨i, t, rfl, rfl⟩ | ⟨x, t, rfl, rfl⟩
    · exact wpAny_pyHash_int h
    · exact wpAny_pyHash_str h
  eqBool := fun hu hv h => by
    rcases keyIs_shape hu with ⟨i, t, rfl, rfl⟩ | ⟨x, t, rfl, rfl⟩
    · rcases keyIs_shape hv with ⟨j, u, rfl, rfl⟩ | ⟨y, u, rfl, rfl⟩
      · rw [key_ll] at h; exact wpAny_eqBool_int h
      · rw [key_lr] at h; exact SeqAt.EqAt.int_str i t y u _ _ _ _ h
    · rcases keyIs_shape hv with ⟨j, u, rfl, rfl⟩ | ⟨y, u, rfl, rfl⟩
      · rw [key_rl] at h; exact SeqAt.EqAt.str_int x t j u _ _ _ _ h
      · rw [key_rr] at h; exact wpAny_eqBool_str h
  «strs» := fun k x t v h => by
    rcases keyIs_shape h with ⟨i, u, rfl, e⟩ | ⟨y, u, rfl, e⟩
    · exact nomatch e
    · injection e with e1 _
      subst e1
      cases v <;> rfl

theorem mixKind_is (prog : Program) (w : World) (k : Key) (v : Value) : (mixKind prog w).is k v = keyIs k v := rfl
theorem mixKind_int (prog : Program) (w : World) (i : Int) (t : Tok) : (mixKind prog w).is (.inl i) (.int i t) = true := keyIs_int i t
theorem mixKind_str (prog : Program) (w : World) (x : Str) (t : Tok) : (mixKind prog w).is (.inr x) (.str x t) = true := keyIs_str x t
end L2

namespace L2
open PySem PySem.Spec PyProof.Rows

inductive V where
  | non | bl (b : Bool) | int (i : Int) | str (x : Str) | byt (b : Array UInt8) | flt (b : UInt64) | ref (a : Addr) | ty (n : String)
  deriving DecidableEq

noncomputable def RelV : V → Value → Prop
  | .non, u => u = Value.none
  | .bl b, u => u = Value.bool b
  | .int i, u => ∃ t, u = Value.int i t
  | .str x, u => ∃ t, u = Value.str x t
  | .byt b, u => ∃ t, u = Value.bytes b t
  | .flt b, u => ∃ t, u = Value.float b t
  | .ref a, u => u = Value.ref a
  | .ty n, u => u = Value.type n

noncomputable abbrev Vals : List V → List Value → Prop := Paired RelV
theorem Vals.length {xs : List V} {us : List Value} (r : Vals xs us) : xs.length = us.length := Paired.length r
theorem Vals.get : ∀ {xs : List V} {us : List Value} {i : Nat} {x : V}, Vals xs us → xs[i]? = some x → ∃ u, us[i]? = some u ∧ RelV x u
  | _, _, _, _, .nil, e => by simp at e
  | _, _, 0, _, .cons r _, e => by simp at e; subst e; exact ⟨_, rfl, r⟩
  | _, _, i + 1, x, .cons _ t, e => by
    obtain ⟨u, h1, h2⟩ := Vals.get (i := i) (x := x) t (by simpa using e)
    exact ⟨u, by simpa using h1, h2⟩
theorem Vals.set {x : V} {u : Value} (r : RelV x u) : ∀ {xs : List V} {us : List Value} (i : Nat), Vals xs us → Vals (xs.set i x) (us.set i u)
  | _, _, _, .nil => .nil
  | _, _, 0, .cons _ t => .cons r t
  | _, _, i + 1, .cons q t => .cons q (Vals.set r i t)
theorem Vals.append : ∀ {xs ys : List V} {us ws : List Value}, Vals xs us → Vals ys ws → Vals (xs ++ ys) (us ++ ws)
  | _, _, _, _, .nil, s => s
  | _, _, _, _, .cons r t, s => .cons r (Vals.append t s)
theorem Vals.take : ∀ {xs : List V} {us : List Value} (n : Nat), Vals xs us → Vals (xs.take n) (us.take n)
  | _, _, 0, _ => .nil
  | _, _, _ + 1, .nil => .nil
  | _, _, n + 1, .cons r t => .cons r (Vals.take n t)
theorem Vals.drop : ∀ {xs : List V} {us : List Value} (n : Nat), Vals xs us → Vals (xs.drop n) (us.drop n)
  | _, _, 0, r => r
  | _, _, _ + 1, .nil => .nil
  | _, _, n + 1, .cons _ t => Vals.drop n t

noncomputable def RelO : Option V → Option Value → Prop
  | some v, some u => RelV v u
  | none, none => True
  | _, _ => False
noncomputable def KV {κ : Type} : List (κ × V) → List (κ × Value) → Prop := Paired fun (p : κ × V) (q : κ × Value) => p.1 = q.1 ∧ RelV p.2 q.2

noncomputable def kV : Key → V
  | .inl i => .int i
  | .inr x => .str x

inductive HO where
  /-- a list -/
  | lst (xs : List V)
  /-- a tuple (never changes) -/
  | tup (xs : List V)
  /-- a dict whose keys are ints and texts; one whose keys are tuples of ints and texts (the empty one is both) -/
  | dK (kvs : List (Key × V)) | dT (kvs : List (List Key × V))
  /-- a set of ints: its members, its size -/
  | set (S : Int → Bool) (n : Nat)
  /-- an instance of the class at C, its dict at dx, its attributes -/
  | ins (C dx : Addr) (fs : List (Str × V))
  /-- the dict of the instance at x -/
  | own (x : Addr)
  /-- the dict of an exception -/
  | xd (fs : List (Str × V))
  /-- a bound method, f of x -/
  | met (f x : Addr)
  /-- a range object lo, lo + 1, .. below hi -/
  | rng (lo hi : Int)
  /-- a thing that is known to the object (the script; a dict while a loop walks it): read, never written while it is so -/
  | frz (o : Obj) (u : HO)
  /-- a code object's table -/
  | tbl (ps : Array Value)
  /-- any other thing, by what is true of its one object (a def of one's own: SetO a S n := HO.ext fun h => ..) -/
  | ext (φ : Heap → Prop)

noncomputable abbrev Hp := Addr → Option HO
noncomputable def upd (H : Hp) (a : Addr) (o : HO) : Hp := fun b => if b = a then some o else H b
theorem upd_same {H : Hp} {a : Addr} {o : HO} : upd H a o a = some o := by unfold upd; rw [if_pos rfl]
theorem upd_ne {H : Hp} {a b : Addr} {o : HO} (h : b ≠ a) : upd H a o b = H b := by unfold upd; rw [if_neg h]
theorem ne_of {H : Hp} {a b : Addr} {o u : HO} (h : H a = some o) (h' : H b = some u) (d : o ≠ u) : a ≠ b := by
  intro e; subst e; rw [h] at h'; exact d (Option.some.inj h')
theorem ne_of_none {H : Hp} {a b : Addr} {o : HO} (h : H a = some o) (h' : H b = none) : a ≠ b := by
  intro e; subst e; rw [h] at h'; cases h'

section
variable (P : Program) (w : World)
noncomputable def ObjOk (H : Hp) (h : Heap) (a : Addr) : HO → Prop
  | .lst xs => xs.length ≤ sizeLine ∧ ∃ (its : List Value) (n : Nat), Vals xs its ∧ h.get? a = some { cls := .type "list", data := .seq its.toArray n }
  | .tup xs => xs.length ≤ sizeLine ∧ ∃ its : List Value, Vals xs its ∧ IsTup h a its.toArray
  | .dK kvs => kvs.length ≤ sizeLine ∧ (a == sysModules) = false ∧ ∃ vs, KV kvs vs ∧ h.DictOf (mixKind P w) a vs
  | .dT kvs => kvs.length ≤ sizeLine ∧ (a == sysModules) = false ∧ ∃ xs : List (List Key × Addr × Value),
      Paired (fun (p : List Key × V) (q : List Key × Addr × Value) => p.1 = q.1 ∧ H q.2.1 = some (.tup (p.1.map kV)) ∧ RelV p.2 q.2.2) kvs xs ∧
      ∃ o es ep, h.get? a = some o ∧ o.ExactDict ∧ o.data = .dict es ep ∧ es.toList = xs.map (entryOfKey (tupleKind (mixKind P w))) ∧ (xs.map (·.1)).Nodup
  | .set S n => h.SetOf (intKind P w) a S n
  | .ins C dx fs => H dx = some (.own a) ∧ fs.length ≤ 1000 ∧ dx ≠ a ∧ h.get? a = some (PySem.W.instObj C dx) ∧
      ∃ mA, h.Ns1 dx mA ∧ (∀ f, RelO (fs.lookup f) (mA f)) ∧ PySem.Within mA (fs.map (·.1))
  | .own _ => ∃ o, h.get? a = some o
  | .xd fs => ∃ mA, h.Ns1 a mA ∧ ∀ f, RelO (fs.lookup f) (mA f)
  | .rng lo hi => ∃ t u v, h.get? a = some { cls := .type "range", data := .fields #[.int lo t, .int hi u, .int 1 v] }
  | .frz o u => h.get? a = some o ∧ ObjOk H h a u
  | .tbl ps => h.get? a = some { cls := .none, data := .fields ps }
  | .met f x => h.get? a = some (PySem.W.methodObj (.ref f) (.ref x))
  | .ext φ => φ h ∧ (∃ o, h.get? a = some o) ∧ ∀ h1 h2 : Heap, φ h1 → (∀ o, h1.get? a = some o → h2.get? a = some o) → φ h2
noncomputable def HOk (H : Hp) (h : Heap) : Prop := ∀ a o, H a = some o → ObjOk P w H h a o
end

section
variable {P : Program} {w : World} {H H' : Hp} {h h' : Heap} {a : Addr} {o : HO}
theorem ObjOk.lt (x : ObjOk P w H h a o) : a < h.objs.size := by
  cases o with
  | lst xs => obtain ⟨_, _, _, _, e⟩ := x; exact Heap.lt_size e
  | tup xs => obtain ⟨_, _, _, p⟩ := x; exact p.lt
  | dK kvs => obtain ⟨_, _, _, _, o, _, _, e, _⟩ := x; exact Heap.lt_size e
  | dT kvs => obtain ⟨_, _, _, _, o, _, _, e, _⟩ := x; exact Heap.lt_size e
  | set S n => obtain ⟨o, _, _, _, e, _⟩ := x; exact Heap.lt_size e
  | ins C dx fs => obtain ⟨_, _, _, e, _⟩ := x; exact Heap.lt_size e
  | own y => obtain ⟨_, e⟩ := x; exact Heap.lt_size e
  | xd fs => obtain ⟨_, ⟨_, _, _, e, _⟩, _⟩ := x; exact Heap.lt_size e
  | rng lo hi => obtain ⟨_, _, _, e⟩ := x; exact Heap.lt_size e
  | frz ob u => obtain ⟨e, _⟩ := x; exact Heap.lt_size e
  | tbl ps => exact Heap.lt_size (show h.get? a = some _ from x)
  | met f y => exact Heap.lt_size (show h.get? a = some _ from x)
  | ext φ => obtain ⟨_, ⟨_, e⟩, _⟩ := x; exact Heap.lt_size e
theorem Paired.mapP {α β : Type} {F G : α → β → Prop} : ∀ {l₁ : List α} {l₂ : List β}, Paired F l₁ l₂ → (∀ a b, F a b → G a b) → Paired G l₁ l₂
  | _, _, .nil, _ => .nil
  | _, _, .cons r t, f => .cons (f _ _ r) (Paired.mapP t f)
theorem ObjOk.stay (x : ObjOk P w H h a o) (k : ∀ b u, (b = a ∨ H b = some (.own a)) → h.get? b = some u → h'.get? b = some u)
    (ho : ∀ b, H b = some (.own a) → H' b = some (.own a)) (ht : ∀ b xs, H b = some (.tup xs) → H' b = some (.tup xs)) : ObjOk P w H' h' a o := by
  induction o with
  | lst xs => obtain ⟨z, its, n, r, e⟩ := x; exact ⟨z, its, n, r, k _ _ (.inl rfl) e⟩
  | tup xs => obtain ⟨z, its, r, ob, e, c⟩ := x; exact ⟨z, its, r, ob, k _ _ (.inl rfl) e, c⟩
  | dK kvs => obtain ⟨z, y, vs, r, ob, es, ep, e, c⟩ := x; exact ⟨z, y, vs, r, ob, es, ep, k _ _ (.inl rfl) e, c⟩
  | dT kvs =>
    obtain ⟨z, y, xs, r, ob, es, ep, e, c⟩ := x
    exact ⟨z, y, xs, Paired.mapP r fun p q z => ⟨z.1, ht _ _ z.2.1, z.2.2⟩, ob, es, ep, k _ _ (.inl rfl) e, c⟩
  | set S n => obtain ⟨ob, es, ep, t, e, c⟩ := x; exact ⟨ob, es, ep, t, k _ _ (.inl rfl) e, c⟩
  | ins C dx fs =>
    obtain ⟨d, z, ne, e, mA, ⟨od, es, ep, e2, c⟩, r⟩ := x
    exact ⟨ho _ d, z, ne, k _ _ (.inl rfl) e, mA, ⟨od, es, ep, k _ _ (.inr d) e2, c⟩, r⟩
  | own y => obtain ⟨ob, e⟩ := x; exact ⟨ob, k _ _ (.inl rfl) e⟩
  | xd fs => obtain ⟨mA, ⟨od, es, ep, e, c⟩, r⟩ := x; exact ⟨mA, ⟨od, es, ep, k _ _ (.inl rfl) e, c⟩, r⟩
  | rng lo hi => obtain ⟨t, u, v, e⟩ := x; exact ⟨t, u, v, k _ _ (.inl rfl) e⟩
  | frz ob u ih => obtain ⟨e, q⟩ := x; exact ⟨k _ _ (.inl rfl) e, ih q⟩
  | tbl ps =>
    have e : h.get? a = some { cls := .none, data := .fields ps } := x
    show h'.get? a = some { cls := .none, data := .fields ps }
    exact k a _ (.inl rfl) e
  | met f y =>
    have e : h.get? a = some (PySem.W.methodObj (.ref f) (.ref y)) := x
    show h'.get? a = some (PySem.W.methodObj (.ref f) (.ref y))
    exact k a _ (.inl rfl) e
  | ext φ => obtain ⟨p, ⟨o, e⟩, st⟩ := x; exact ⟨st _ _ p fun o q => k _ _ (.inl rfl) q, ⟨o, k _ _ (.inl rfl) e⟩, st⟩
theorem HOk.lt (x : HOk P w H h) (e : H a = some o) : a < h.objs.size := (x a o e).lt
theorem HOk.fresh (x : HOk P w H h) (e : h.objs.size ≤ a) : H a = none := by
  cases q : H a with
  | none => rfl
  | some u => exact absurd (Nat.lt_of_lt_of_le (x.lt q) e) (Nat.lt_irrefl _)
theorem HOk.kept (x : HOk P w H h) (k : ∀ b u, h.get? b = some u → h'.get? b = some u) : HOk P w H h' := fun a o e =>
  (x a o e).stay (fun b u _ q => k b u q) (fun _ q => q) fun _ _ q => q
theorem HOk.laid (x : HOk P w H h) (k : ∀ b u, h.get? b = some u → h'.get? b = some u) (hp : h.objs.size ≤ a) (new : ObjOk P w (upd H a o) h' a o) : HOk P w (upd H a o) h' := fun b u e => by
  have hn := x.fresh hp
  by_cases hb : b = a
  · subst hb; rw [upd_same] at e; cases e; exact new
  · rw [upd_ne hb] at e
    exact (x b u e).stay (fun c v _ q => k c v q) (fun c q => by rw [upd_ne (ne_of_none q hn)]; exact q) fun c xs q => by rw [upd_ne (ne_of_none q hn)]; exact q
end

noncomputable def Rd (H : Hp) (a : Addr) (u : HO) : Prop := H a = some u ∨ ∃ o, H a = some (.frz o u)
theorem Rd.ok {P : Program} {w : World} {H : Hp} {h : Heap} {a : Addr} {u : HO} (r : Rd H a u) (x : HOk P w H h) : ObjOk P w H h a u := by
  rcases r with r | ⟨o, r⟩
  · exact x a u r
  · obtain ⟨_, q⟩ := x a _ r
    exact q
noncomputable def Mut : Option HO → Prop
  | some (.lst _) => True
  | some (.dK _) => True
  | some (.dT _) => True
  | some (.set _ _) => True
  | some (.ins _ _ _) => True
  | some (.ext _) => True
  | _ => False
section
variable {P : Program} {w : World} {H : Hp} {h h' : Heap} {x e : Addr} {o' : HO}
theorem HOk.write (ok : HOk P w H h) (mu : Mut (H x)) (he : e = x ∨ H e = some (.own x)) (k : ∀ b u, b ≠ e → h.get? b = some u → h'.get? b = some u) (heo : ∃ u, h'.get? e = some u)
    (new : ObjOk P w (upd H x o') h' x o') : HOk P w (upd H x o') h' := fun b u q => by
  have nown : ∀ c y, H c = some (.own y) → c ≠ x := fun c y r z => by subst z; rw [r] at mu; exact mu
  have ntup : ∀ c xs, H c = some (.tup xs) → c ≠ x := fun c xs r z => by subst z; rw [r] at mu; exact mu
  by_cases hb : b = x
  · subst hb; rw [upd_same] at q; cases q; exact new
  · rw [upd_ne hb] at q
    by_cases hbe : b = e
    · have q' : H b = some (.own x) := by
        rcases he with z | z
        · exact absurd (hbe.trans z) hb
        · rw [hbe]; exact z
      rw [q] at q'; cases q'
      obtain ⟨v, hv⟩ := heo
      exact ⟨v, by rw [hbe]; exact hv⟩
    · refine (ok b u q).stay (fun c v hc r => k c v ?_ r) (fun c r => by rw [upd_ne (nown c b r)]; exact r) fun c xs r => by rw [upd_ne (ntup c xs r)]; exact r
      rcases hc with rfl | hc
      · exact hbe
      · rintro rfl
        rcases he with z | z
        · exact nown c b hc z
        · rw [hc] at z; cases z; exact hb rfl
end

/-! ### kept unless tracked; of the frames at fs (the callers') the slots may change (an exception that passes writes there); of the records at ex (iterators) nothing is said -/
structure Un (fs ex : List Addr) (H H' : Hp) (h h' : Heap) : Prop where
  keep : ∀ b o, h.get? b = some o → H b = none → b ∉ fs → b ∉ ex → h'.get? b = some o
  slot : ∀ b o, h.get? b = some o → H b = none → b ∈ fs → b ∉ ex → ∃ sl, h'.get? b = some { o with slots := sl }
  free : ∀ b o, h.get? b = some o → H b = none → b ∉ ex → H' b = none
  there : ∀ b o, h.get? b = some o → b ∉ ex → ∃ o', h'.get? b = some o'
  tups : ∀ b xs, H b = some (.tup xs) → H' b = some (.tup xs)
  frzs : ∀ b o u, H b = some (.frz o u) → H' b = some (.frz o u)
  tbls : ∀ b ps, H b = some (.tbl ps) → ∃ more, H' b = some (.tbl (ps ++ more))
section
variable {fs fs' ex ex' : List Addr} {H H1 H2 : Hp} {h h1 h2 h' : Heap} {a x e : Addr} {o : HO}
theorem Un.any (u : Un fs ex H H1 h h1) {b : Addr} {ob : Obj} (q : h.get? b = some ob) (n : H b = none) (hx : b ∉ ex) : ∃ sl, h1.get? b = some { ob with slots := sl } := by
  by_cases hb : b ∈ fs
  · exact u.slot b ob q n hb hx
  · exact ⟨ob.slots, u.keep b ob q n hb hx⟩
theorem Un.kept (k : ∀ b u, h.get? b = some u → h'.get? b = some u) : Un fs ex H H h h' :=
  ⟨fun b ob q _ _ _ => k b ob q, fun b ob q _ _ _ => ⟨ob.slots, k b ob q⟩, fun _ _ _ n _ => n, fun b ob q _ => ⟨ob, k b ob q⟩, fun _ _ q => q, fun _ _ _ q => q, fun _ ps q => ⟨#[], by rw [q]; simp⟩⟩
theorem Un.refl : Un fs ex H H h h := Un.kept fun _ _ q => q
theorem Un.laid (k : ∀ b u, h.get? b = some u → h'.get? b = some u) (hp : h.objs.size ≤ a) (hn : H a = none) : Un fs ex H (upd H a o) h h' where
  keep := fun b u q _ _ _ => k b u q
  slot := fun b u q _ _ _ => ⟨u.slots, k b u q⟩
  free := fun b u q n _ => by rw [upd_ne (Nat.ne_of_lt (Nat.lt_of_lt_of_le (Heap.lt_size q) hp))]; exact n
  there := fun b u q _ => ⟨u, k b u q⟩
  tups := fun b xs q => by rw [upd_ne (ne_of_none q hn)]; exact q
  frzs := fun b u xs q => by rw [upd_ne (ne_of_none q hn)]; exact q
  tbls := fun b ps q => ⟨#[], by rw [upd_ne (ne_of_none q hn), q]; simp⟩
theorem Un.write (mu : Mut (H x)) (he : e = x ∨ H e = some (.own x)) (k : ∀ b u, b ≠ e → h.get? b = some u → h'.get? b = some u) (heo : ∃ u, h'.get? e = some u) : Un fs ex H (upd H x o) h h' := by
  have hx : ∀ b, H b = none → b ≠ x := fun b n z => by subst z; rw [n] at mu; exact mu
  have hb : ∀ b, H b = none → b ≠ e := fun b n z => by
    subst z
    rcases he with r | r
    · exact hx b n r
    · rw [n] at r; cases r
  have hm : ∀ b u, H b = some u → ¬ Mut (some u) → b ≠ x := fun b u q nm z => by subst z; rw [q] at mu; exact nm mu
  refine ⟨fun b u q n _ _ => k b u (hb b n) q, fun b u q n _ _ => ⟨u.slots, k b u (hb b n) q⟩, fun b u q n _ => by rw [upd_ne (hx b n)]; exact n, fun b u q _ => ?_,
    fun b xs q => by rw [upd_ne (hm b _ q fun z => z)]; exact q, fun b u xs q => by rw [upd_ne (hm b _ q fun z => z)]; exact q, fun b ps q => ⟨#[], by rw [upd_ne (hm b _ q fun z => z), q]; simp⟩⟩
  by_cases hbe : b = e
  · subst hbe; exact heo
  · exact ⟨u, k b u hbe q⟩
end

/-! ### the heap without what is tracked -/
noncomputable def trk (h : Heap) (H : Hp) : List Addr := (List.range h.objs.size).filter fun a => (H a).isSome
noncomputable def hidT (h : Heap) (H : Hp) : Heap := PySem.W.hideAll h (trk h H)
theorem hidT_size (h : Heap) (H : Hp) : (hidT h H).objs.size = h.objs.size := PySem.W.hideAll_size _ _
theorem hidT_get {h : Heap} {H : Hp} {b : Addr} {o : Obj} (e : h.get? b = some o) (n : H b = none) : (hidT h H).get? b = some o :=
  PySem.W.hideAll_get _ e fun hm => by
    have q : (H b).isSome = true := (List.mem_filter.mp hm).2
    rw [n] at q; simp at q
theorem of_hidT {h : Heap} {H : Hp} {b : Addr} {o : Obj} (e : (hidT h H).get? b = some o) : h.get? b = some o ∧ H b = none := by
  have e' : h.get? b = some o := PySem.W.of_hideAll (trk h H) e
  refine ⟨e', ?_⟩
  cases q : H b with
  | none => rfl
  | some x =>
    have hm : b ∈ trk h H := List.mem_filter.mpr ⟨List.mem_range.mpr (Heap.lt_size e'), by simp [q]⟩
    have z : (hidT h H).get? b = none := PySem.W.hideAll_none (trk h H) hm
    rw [z] at e; cases e

/-! ### OpenK's ledger, filled with every new object but one -/
noncomputable def allNews (g h : Heap) (L : Addr) : List (Addr × Obj) := (List.range h.objs.size).filterMap fun a => if a = L ∨ (g.get? a).isSome = true then none else (h.get? a).map fun o => (a, o)
noncomputable def rest (g h : Heap) (L d : Addr) : List (Addr × Obj) := (allNews g h L).filter fun p => decide (p.1 ≠ d)
end L2

namespace L2
open PySem PySem.Spec PyProof.Rows

structure Mod (K : PySem.W.Frag) (mg : Str → Option Value) (base : Heap) : Prop where
  kin : K.In base
  glob : base.Ns mainGlobals mg
  blt : ∃ mb, base.Ns builtinsNs mb ∧ ∀ x : Str, x ≠ "__name__" → mb x = bootBuiltins x
  nolimit : base.NoLimit

/-- the context: a def's body (or a comprehension's block) running. base: fixed through the whole law; s₀, H₀: the entry; outer: the frames whose slots others may change (a def's callers); stack: all frames that run;
   ex: iterators that were made ahead of the entry and are walked here (a comprehension's); fn: the names whose cells were made at the entry (a def: all; a comprehension's block: its own); calm: not within an except suite; pn: pins that every state bears; xe: what is wanted of an exception that leaves the code -/
structure Cx where
  prog : Program
  w : World
  K : PySem.W.Frag
  mg : Str → Option Value
  base : Heap
  A : Around
  N : List Str
  s₀ : Shared
  H₀ : Hp
  env : Env
  outer : List Env
  stack : List Env
  ex : List Addr
  fn : Str → Bool
  calm : Bool
  pn : List (Addr × Obj)
  xe : Value → Shared → Prop
noncomputable def frs (l : List Env) : List Addr := l.filterMap (·.frame)
noncomputable abbrev Cx.fs (X : Cx) : List Addr := frs X.outer

noncomputable def Vis (sc : Scope) (x : Str) : Prop := sc.names.lookup x = some .local ∨ sc.names.lookup x = some .cell ∨ sc.names.lookup x = some .free
noncomputable def Loc (sc : Scope) (x : Str) : Prop := sc.names.lookup x = some .local ∨ sc.names.lookup x = some .cell
noncomputable def Look (env : Env) (h : Heap) (m : Str → Option Value) (x : Str) (u : Value) : Prop :=
  (env.kindOf x = some .local ∧ m x = some u) ∨ ((env.kindOf x = some .cell ∨ env.kindOf x = some .free) ∧ ∃ c, env.cells.lookup x = some c ∧ h.IsCell c (some u))

structure Cx.Ok (X : Cx) : Prop where
  mod : Mod X.K X.mg X.base
  kind : X.env.scope.kind = .function
  glob : X.env.globals = mainGlobals
  blt : X.env.builtins = builtinsNs
  above : X.s₀.heap.objs.size ≤ X.env.locals
  inj : ∀ x y c, X.env.cells.lookup x = some c → X.env.cells.lookup y = some c → x = y
  has : ∀ x, (X.env.kindOf x = some .cell ∨ X.env.kindOf x = some .free) → ∃ c, X.env.cells.lookup x = some c
  cab : ∀ x c, X.fn x = true → X.env.cells.lookup x = some c → X.s₀.heap.objs.size ≤ c
  hd : X.calm = true → X.A.handled = none
  frames : X.A.frames = some X.stack
  stk : X.stack = X.outer ∨ (X.stack = X.env :: X.outer ∧ X.env.frame = some X.env.locals)
  exf : ∀ b ∈ X.ex, b ≠ X.env.locals ∧ ∀ x c, X.env.cells.lookup x = some c → c ≠ b
  bs : ∀ b o, X.base.get? b = some o → X.s₀.heap.get? b = some o ∧ X.H₀ b = none
  bsz : X.base.objs.size ≤ X.s₀.heap.objs.size
  noex : ∀ b o, X.base.get? b = some o → b ∉ X.ex
  exfs : ∀ b ∈ X.ex, b ∉ X.fs
  funs : X.s₀.heap.FunFrames X.base X.outer
  frf : ∀ b ∈ X.fs, X.H₀ b = none

structure Inv (X : Cx) (pins : List (Addr × Obj)) (σ : List (Option V)) (H : Hp) (s : Shared) : Prop where
  ok : X.Ok
  os : s.os = X.s₀.os
  bare : AllBare s.gens
  base : Un X.fs X.ex X.H₀ H X.s₀.heap s.heap
  loc : ∃ m, s.heap.Ns X.env.locals m ∧ ∀ (i : Nat) (x : Str) (v : V), X.N[i]? = some x → σ[i]? = some (some v) → Vis X.env.scope x → ∃ u, RelV v u ∧ Look X.env s.heap m x u
  cell : ∀ x c, X.env.cells.lookup x = some c → ∃ v, s.heap.IsCell c v
  free : H X.env.locals = none
  freeC : ∀ x c, X.env.cells.lookup x = some c → H c = none
  pin : ∀ p ∈ X.pn ++ pins, s.heap.get? p.1 = some p.2 ∧ H p.1 = none ∧ p.1 ≠ X.env.locals ∧ p.1 ∉ X.fs ∧ ∀ v, p.2.data ≠ .cell v
  hok : HOk X.prog X.w H s.heap
  len : σ.length = X.N.length

section
variable {X : Cx} {pins : List (Addr × Obj)} {σ : List (Option V)} {H H' : Hp} {s : Shared} {h' : Heap}

theorem Cx.Ok.nofr (ok : X.Ok) {b : Addr} {o : Obj} (e : X.base.get? b = some o) : b ∉ X.fs := fun hb => by
  have := (ok.funs.mem hb).1
  rw [e] at this; cases this
theorem Inv.bs (I : Inv X pins σ H s) : ∀ b o, X.base.get? b = some o → s.heap.get? b = some o ∧ H b = none := fun b o e =>
  ⟨I.base.keep b o (I.ok.bs b o e).1 (I.ok.bs b o e).2 (I.ok.nofr e) (I.ok.noex b o e), I.base.free b o (I.ok.bs b o e).1 (I.ok.bs b o e).2 (I.ok.noex b o e)⟩
theorem Inv.bk (I : Inv X pins σ H s) : ∀ b o, X.base.get? b = some o → s.heap.get? b = some o := fun b o e => (I.bs b o e).1
theorem Inv.mod (I : Inv X pins σ H s) : Mod X.K X.mg X.base := I.ok.mod
theorem Inv.kIn (I : Inv X pins σ H s) : X.K.In s.heap := I.ok.mod.kin.keeps I.bk
theorem Inv.lt (I : Inv X pins σ H s) : X.env.locals < s.heap.objs.size := let ⟨_, hn, _⟩ := I.loc; hn.lt
theorem Inv.sz (I : Inv X pins σ H s) : X.s₀.heap.objs.size ≤ s.heap.objs.size := Nat.le_trans I.ok.above (Nat.le_of_lt I.lt)
theorem Inv.nofs (I : Inv X pins σ H s) {a : Addr} (h : s.heap.objs.size ≤ a) : a ∉ X.fs := fun hb => by
  obtain ⟨_, o, ho, _⟩ := I.ok.funs.mem hb
  exact absurd (Nat.lt_of_lt_of_le (Heap.lt_size ho) (Nat.le_trans I.sz h)) (Nat.lt_irrefl _)
theorem Inv.cne (I : Inv X pins σ H s) : ∀ x c, X.env.cells.lookup x = some c → c ≠ X.env.locals := fun x c e z => by
  obtain ⟨v, o, ho, hd⟩ := I.cell x c e
  obtain ⟨m, ⟨o', es, ep, ho', hd', _⟩, _⟩ := I.loc
  rw [z, ho'] at ho; cases ho; rw [hd'] at hd; cases hd
theorem Inv.funs (I : Inv X pins σ H s) : s.heap.FunFrames X.base X.outer := by
  have all : ∀ (l : List Env), (∀ b ∈ frs l, b ∈ X.fs) → X.s₀.heap.FunFrames X.base l → s.heap.FunFrames X.base l := by
    intro l
    induction l with
    | nil => intro _ _; trivial
    | cons env r ih =>
      intro hs hl
      obtain ⟨hk, ⟨L, o, hf, hn, ho, hd⟩, hr⟩ := hl
      have hL : L ∈ X.fs := hs L (by unfold frs; rw [List.filterMap_cons, hf]; exact List.mem_cons_self)
      obtain ⟨sl, e⟩ := I.base.slot L o ho (I.ok.frf L hL) hL fun z => I.ok.exfs L z hL
      exact ⟨hk, ⟨L, _, hf, hn, e, hd⟩, ih (fun b hb => hs b (by unfold frs; rw [List.filterMap_cons, hf]; exact List.mem_cons_of_mem _ hb)) hr⟩
  exact all X.outer (fun _ hb => hb) I.ok.funs

theorem Inv.stack (I : Inv X pins σ H s) : s.heap.FunFrames X.base X.stack := by
  rcases I.ok.stk with e | ⟨e, hf⟩
  · rw [e]; exact I.funs
  · rw [e]
    obtain ⟨m, hn, _⟩ := I.loc
    refine .cons (by rw [I.ok.kind]; decide) hf hn ?_ I.funs
    exact Heap.get?_none_of_le (Nat.le_trans I.ok.bsz I.ok.above)
theorem Inv.stkSub (I : Inv X pins σ H s) : ∀ b ∈ frs X.stack, b ∈ X.env.locals :: X.fs := fun b hb => by
  rcases I.ok.stk with e | ⟨e, hf⟩
  · rw [e] at hb; exact List.mem_cons_of_mem _ hb
  · rw [e] at hb
    unfold frs at hb
    rw [List.filterMap_cons, hf] at hb
    exact hb
theorem Inv.stkFree (I : Inv X pins σ H s) : ∀ b ∈ frs X.stack, H b = none := fun b hb => by
  rcases List.mem_cons.mp (I.stkSub b hb) with e | hb
  · rw [e]; exact I.free
  · obtain ⟨_, o, ho, _⟩ := I.ok.funs.mem hb
    exact I.base.free b o ho (I.ok.frf b hb) fun z => I.ok.exfs b z hb

theorem Inv.step {g' : Array GenState} {t' : Nat} {d' : Drawn} {ch : List Addr} (I : Inv X pins σ H s)
    (hch : ∀ b ∈ ch, (b ∈ X.ex ∨ X.s₀.heap.objs.size ≤ b) ∧ b ≠ X.env.locals ∧ (∀ x c, X.env.cells.lookup x = some c → c ≠ b) ∧ ∀ p ∈ X.pn ++ pins, p.1 ≠ b)
    (keep : ∀ b o, b ≠ X.env.locals → b ∉ X.fs → b ∉ ch → s.heap.get? b = some o → H b = none → h'.get? b = some o)
    (slot : ∀ b o, b ≠ X.env.locals → b ∈ X.fs → b ∉ ch → s.heap.get? b = some o → H b = none → ∃ sl, h'.get? b = some { o with slots := sl }) (free : ∀ b o, b ∉ ch → s.heap.get? b = some o → H b = none → H' b = none)
    (there : ∀ b o, b ∉ ch → s.heap.get? b = some o → ∃ o', h'.get? b = some o')
    (tups : ∀ b xs, H b = some (.tup xs) → H' b = some (.tup xs)) (frzs : ∀ b o u, H b = some (.frz o u) → H' b = some (.frz o u)) (tbls : ∀ b ps, H b = some (.tbl ps) → ∃ more, H' b = some (.tbl (ps ++ more)))
    (ns : ∀ m, s.heap.Ns X.env.locals m → h'.Ns X.env.locals m) (hok : HOk X.prog X.w H' h') (hg : AllBare g') :
    Inv X pins σ H' { s with heap := h', gens := g', drawn := d', toks := t' } := by
  have neL : ∀ b o, X.s₀.heap.get? b = some o → b ≠ X.env.locals := fun b o e => Nat.ne_of_lt (Nat.lt_of_lt_of_le (Heap.lt_size e) I.ok.above)
  have neC : ∀ b o, X.s₀.heap.get? b = some o → b ∉ X.ex → b ∉ ch := fun b o e hx hb => by
    rcases (hch b hb).1 with z | z
    · exact hx z
    · exact absurd (Nat.lt_of_lt_of_le (Heap.lt_size e) z) (Nat.lt_irrefl _)
  have cellK : ∀ x c, X.env.cells.lookup x = some c → ∀ v, s.heap.IsCell c v → h'.IsCell c v := fun x c e v ⟨o, ho, hd⟩ => by
    have nch : c ∉ ch := fun z => (hch c z).2.2.1 x c e rfl
    by_cases hc : c ∈ X.fs
    · obtain ⟨sl, q⟩ := slot c o (I.cne x c e) hc nch ho (I.freeC x c e)
      exact ⟨_, q, hd⟩
    · exact ⟨o, keep c o (I.cne x c e) hc nch ho (I.freeC x c e), hd⟩
  refine ⟨I.ok, I.os, hg, ⟨fun b o e n hb hx => ?_, fun b o e n hb hx => ?_, fun b o e n hx => ?_, fun b o e hx => ?_, fun b xs e => tups b xs (I.base.tups b xs e), fun b o xs e => frzs b o xs (I.base.frzs b o xs e), fun b ps e => ?_⟩, ?_, fun x c e => ?_, ?_, fun x c e => ?_, fun p hp => ?_, hok, I.len⟩
  · exact keep b o (neL b o e) hb (neC b o e hx) (I.base.keep b o e n hb hx) (I.base.free b o e n hx)
  · obtain ⟨sl, e1⟩ := I.base.slot b o e n hb hx
    obtain ⟨sl', e2⟩ := slot b _ (neL b o e) hb (neC b o e hx) e1 (I.base.free b o e n hx)
    exact ⟨sl', e2⟩
  · obtain ⟨o', e1⟩ := I.base.there b o e hx
    exact free b o' (neC b o e hx) e1 (I.base.free b o e n hx)
  · obtain ⟨o', e1⟩ := I.base.there b o e hx
    exact there b o' (neC b o e hx) e1
  · obtain ⟨m1, e1⟩ := I.base.tbls b ps e
    obtain ⟨m2, e2⟩ := tbls b _ e1
    exact ⟨m1 ++ m2, by rw [e2, Array.append_assoc]⟩
  · obtain ⟨m, hn, hl⟩ := I.loc
    refine ⟨m, ns m hn, fun i x v e1 e2 e3 => ?_⟩
    obtain ⟨u, r, l⟩ := hl i x v e1 e2 e3
    refine ⟨u, r, ?_⟩
    rcases l with l | ⟨k, c, e, z⟩
    · exact .inl l
    · exact .inr ⟨k, c, e, cellK x c e _ z⟩
  · obtain ⟨v, z⟩ := I.cell x c e
    exact ⟨v, cellK x c e v z⟩
  · obtain ⟨m, ⟨o, _, _, ho, _⟩, _⟩ := I.loc
    exact free _ o (fun z => (hch _ z).2.1 rfl) ho I.free
  · obtain ⟨v, o, ho, hd⟩ := I.cell x c e
    exact free c o (fun z => (hch c z).2.2.1 x c e rfl) ho (I.freeC x c e)
  · obtain ⟨e, n, ne, nf, d⟩ := I.pin p hp
    have nch : p.1 ∉ ch := fun z => (hch p.1 z).2.2.2 p hp rfl
    exact ⟨keep p.1 p.2 ne nf nch e n, free p.1 p.2 nch e n, ne, nf, d⟩
theorem Inv.un {t' : Nat} (I : Inv X pins σ H s) (u : Un X.fs [] H H' s.heap h') (hok : HOk X.prog X.w H' h') : Inv X pins σ H' { s with heap := h', toks := t' } := by
  obtain ⟨m, ⟨o, es, ep, ho, r⟩, _⟩ := id I.loc
  obtain ⟨sl, hL⟩ := u.any ho I.free (by simp)
  exact I.step (g' := s.gens) (d' := s.drawn) (ch := []) (fun _ z => nomatch z) (fun b o _ hb _ e n => u.keep b o e n hb (by simp)) (fun b o _ hb _ e n => u.slot b o e n hb (by simp)) (fun b o _ e n => u.free b o e n (by simp)) (fun b o _ e => u.there b o e (by simp)) u.tups u.frzs u.tbls (fun m' hm => by
    obtain ⟨o', es', ep', ho', r'⟩ := hm
    rw [ho] at ho'; cases ho'
    exact ⟨_, es', ep', hL, r'⟩) hok I.bare
theorem Inv.call {g' : Array GenState} {t' : Nat} {d' : Drawn} {ch : List Addr} (I : Inv X pins σ H s) (u : Un (frs X.stack) ch H H' s.heap h') (hok : HOk X.prog X.w H' h') (hg : AllBare g')
    (hch : ∀ b ∈ ch, (b ∈ X.ex ∨ X.s₀.heap.objs.size ≤ b) ∧ b ≠ X.env.locals ∧ (∀ x c, X.env.cells.lookup x = some c → c ≠ b) ∧ ∀ p ∈ X.pn ++ pins, p.1 ≠ b) :
    Inv X pins σ H' { s with heap := h', gens := g', drawn := d', toks := t' } := by
  obtain ⟨m, ⟨o, es, ep, ho, r⟩, _⟩ := id I.loc
  obtain ⟨sl, hL⟩ := u.any ho I.free fun z => (hch _ z).2.1 rfl
  exact I.step (ch := ch) hch (fun b o hL hb hc e n => u.keep b o e n (fun z => (List.mem_cons.mp (I.stkSub b z)).elim hL hb) hc) (fun b o _ _ hc e n => u.any e n hc) (fun b o hc e n => u.free b o e n hc) (fun b o hc e => u.there b o e hc) u.tups u.frzs u.tbls (fun m' hm => by
    obtain ⟨o', es', ep', ho', r'⟩ := hm
    rw [ho] at ho'; cases ho'
    exact ⟨_, es', ep', hL, r'⟩) hok hg
theorem Inv.turned {t' : Nat} {it : Addr} (I : Inv X pins σ H s) (k : ∀ b o, b ≠ it → s.heap.get? b = some o → h'.get? b = some o) (hn : H it = none) (hL : it ≠ X.env.locals)
    (h1 : it ∈ X.ex ∨ X.s₀.heap.objs.size ≤ it) (h2 : ∀ x c, X.env.cells.lookup x = some c → c ≠ it) (h3 : ∀ p ∈ X.pn ++ pins, p.1 ≠ it) : Inv X pins σ H { s with heap := h', toks := t' } := by
  have nit : ∀ b u, H b = some u → b ≠ it := fun b u e z => by rw [z, hn] at e; cases e
  refine I.step (g' := s.gens) (d' := s.drawn) (ch := [it]) (fun b hb => ?_) (fun b o _ _ hc e _ => k b o (fun z => hc (by simp [z])) e) (fun b o _ _ hc e _ => ⟨o.slots, k b o (fun z => hc (by simp [z])) e⟩) (fun _ _ _ _ n => n)
    (fun b o hc e => ⟨o, k b o (fun z => hc (by simp [z])) e⟩) (fun _ _ e => e) (fun _ _ _ e => e) (fun b ps e => ⟨#[], by rw [e]; simp⟩) (fun m hm => ?_) (fun b u e => ?_) I.bare
  · have e : b = it := by simpa using hb
    subst e
    exact ⟨h1, hL, h2, h3⟩
  · obtain ⟨o, es, ep, ho, r⟩ := hm
    exact ⟨o, es, ep, k _ o (Ne.symm hL) ho, r⟩
  · refine (I.hok b u e).stay (fun c v hc q => k c v ?_ q) (fun _ q => q) fun _ _ q => q
    rcases hc with z | z
    · rw [z]; exact nit b u e
    · exact nit c _ z
theorem Inv.tok (I : Inv X pins σ H s) (t : Nat) : Inv X pins σ H { s with toks := t } := I.un (h' := s.heap) (t' := t) Un.refl I.hok
theorem Inv.kept {t' : Nat} (I : Inv X pins σ H s) (k : ∀ b u, s.heap.get? b = some u → h'.get? b = some u) : Inv X pins σ H { s with heap := h', toks := t' } := I.un (Un.kept k) (I.hok.kept k)
theorem Inv.laid {a : Addr} {o : HO} {t' : Nat} (I : Inv X pins σ H s) (k : ∀ b u, s.heap.get? b = some u → h'.get? b = some u) (hp : s.heap.objs.size ≤ a) (new : ObjOk X.prog X.w (upd H a o) h' a o) :
    Inv X pins σ (upd H a o) { s with heap := h', toks := t' } := I.un (Un.laid k hp (I.hok.fresh hp)) (I.hok.laid k hp new)
theorem Inv.write {x e : Addr} {o : HO} {t' : Nat} (I : Inv X pins σ H s) (mu : Mut (H x)) (he : e = x ∨ H e = some (.own x)) (k : ∀ b u, b ≠ e → s.heap.get? b = some u → h'.get? b = some u) (heo : ∃ u, h'.get? e = some u)
    (new : ObjOk X.prog X.w (upd H x o) h' x o) : Inv X pins σ (upd H x o) { s with heap := h', toks := t' } := I.un (Un.write mu he k heo) (I.hok.write mu he k heo new)
theorem Inv.pins_of {pins' : List (Addr × Obj)} (I : Inv X pins σ H s) (h : ∀ p ∈ pins', s.heap.get? p.1 = some p.2 ∧ H p.1 = none ∧ p.1 ≠ X.env.locals ∧ p.1 ∉ X.fs ∧ ∀ v, p.2.data ≠ .cell v) : Inv X pins' σ H s :=
  ⟨I.ok, I.os, I.bare, I.base, I.loc, I.cell, I.free, I.freeC, fun p hp => (List.mem_append.mp hp).elim (fun z => I.pin p (List.mem_append_left _ z)) (h p), I.hok, I.len⟩

theorem nodup_ix {N : List Str} (hN : N.Nodup) {i j : Nat} {x : Str} (a : N[i]? = some x) (b : N[j]? = some x) : i = j := by
  obtain ⟨h1, e1⟩ := List.getElem?_eq_some_iff.mp a
  obtain ⟨h2, e2⟩ := List.getElem?_eq_some_iff.mp b
  exact (List.getElem_inj hN).mp (e1.trans e2.symm)

theorem store_ok2 {M : Model} {A : Around} {E : Value → Shared → Prop} {i : Nat} {x : Str} {v : V} {u : Value} {Q : Unit → Shared → Prop} (I : Inv X pins σ H s) (hN : X.N.Nodup) (hi : X.N[i]? = some x) (hx : Loc X.env.scope x) (r : RelV v u)
    (h : ∀ s', Inv X pins (σ.set i (some v)) H s' → (∃ a, Heap.SameBut a s.heap s'.heap ∧ (a = X.env.locals ∨ X.env.cells.lookup x = some a)) → Q () s') (hf : X.fn x = true ∨ X.env.scope.names.lookup x = some .local := by first | exact .inl rfl | exact .inr rfl | assumption) : wpAny M A (storeName X.env x u) Q E s := by
  obtain ⟨m, hn, hl⟩ := id I.loc
  have hcls : (X.env.scope.kind == .class || (X.env.scope.kind == .module && X.env.locals != X.env.globals)) = false := by rw [I.ok.kind]; rfl
  have hiσ : i < σ.length := by rw [I.len]; exact (List.getElem?_eq_some_iff.mp hi).1
  have cne := I.cne
  have tracked : ∀ {a : Addr} {h' : Heap}, (∃ o, s.heap.get? a = some o ∧ H a = none) → Heap.SameBut a s.heap h' → HOk X.prog X.w H h' := fun {a h'} ha hs b ob e => by
    obtain ⟨_, _, hfree⟩ := ha
    refine (I.hok b ob e).stay (fun c w' hc q => (hs.2 c ?_).trans q) (fun _ q => q) fun _ _ q => q
    rintro rfl
    rcases hc with rfl | hc
    · rw [hfree] at e; cases e
    · rw [hfree] at hc; cases hc
  rcases hx with hk | hk
  · refine wpAny_storeName_local hk hn (fun h' hn' hs => ?_) hcls
    obtain ⟨oL, _, _, hoL, _⟩ := id hn
    refine h _ ⟨I.ok, I.os, I.bare, ⟨fun b o e n hb hx => ?_, fun b o e n hb hx => ?_, I.base.free, fun b o e hx => ?_, I.base.tups, I.base.frzs, I.base.tbls⟩, ⟨_, hn', fun j y v' e1 e2 e3 => ?_⟩, fun y c e => ?_, I.free, I.freeC, fun p hp => ?_, tracked ⟨oL, hoL, I.free⟩ hs, by simpa using I.len⟩ ⟨_, hs, .inl rfl⟩
    · exact (hs.2 b (Nat.ne_of_lt (Nat.lt_of_lt_of_le (Heap.lt_size e) I.ok.above))).trans (I.base.keep b o e n hb hx)
    · obtain ⟨sl, e1⟩ := I.base.slot b o e n hb hx
      exact ⟨sl, (hs.2 b (Nat.ne_of_lt (Nat.lt_of_lt_of_le (Heap.lt_size e) I.ok.above))).trans e1⟩
    · obtain ⟨o', e1⟩ := I.base.there b o e hx
      exact ⟨o', (hs.2 b (Nat.ne_of_lt (Nat.lt_of_lt_of_le (Heap.lt_size e) I.ok.above))).trans e1⟩
    · by_cases hj : j = i
      · subst hj
        rw [hi] at e1; cases e1
        rw [List.getElem?_set_self hiσ] at e2
        cases e2
        exact ⟨u, r, .inl ⟨hk, by simp⟩⟩
      · rw [List.getElem?_set_ne (Ne.symm hj)] at e2
        obtain ⟨u', r', q⟩ := hl j y v' e1 e2 e3
        refine ⟨u', r', ?_⟩
        rcases q with ⟨k, e⟩ | ⟨k, c, e, z⟩
        · refine .inl ⟨k, ?_⟩
          have : y ≠ x := fun e => hj (nodup_ix hN e1 (e ▸ hi))
          simp [this, e]
        · exact .inr ⟨k, c, e, z.sameBut hs (cne y c e)⟩
    · obtain ⟨w', z⟩ := I.cell y c e
      exact ⟨w', z.sameBut hs (cne y c e)⟩
    · obtain ⟨e, n, ne, nf, d⟩ := I.pin p hp
      exact ⟨(hs.2 p.1 ne).trans e, n, ne, nf, d⟩
  · have hfn : X.fn x = true := by
      rcases hf with z | z
      · exact z
      · rw [z] at hk; cases hk
    obtain ⟨c, hc⟩ := I.ok.has x (.inl hk)
    obtain ⟨w', z⟩ := I.cell x c hc
    refine wpAny_storeName_cell I.ok.kind hk hc z (fun h' hc' hs => ?_)
    obtain ⟨oc, hoc, hocd⟩ := id z
    refine h { s with heap := h' } ⟨I.ok, I.os, I.bare, ⟨fun b o e n hb hx => ?_, fun b o e n hb hx => ?_, I.base.free, fun b o e hx => ?_, I.base.tups, I.base.frzs, I.base.tbls⟩, ⟨m, hn.sameBut hs (Ne.symm (cne x c hc)), fun j y v' e1 e2 e3 => ?_⟩, fun y c' e => ?_, I.free, I.freeC, fun p hp => ?_, tracked ⟨oc, hoc, I.freeC x c hc⟩ hs, by simpa using I.len⟩ ⟨c, hs, .inr hc⟩
    · exact (hs.2 b (Nat.ne_of_lt (Nat.lt_of_lt_of_le (Heap.lt_size e) (I.ok.cab x c hfn hc)))).trans (I.base.keep b o e n hb hx)
    · obtain ⟨sl, e1⟩ := I.base.slot b o e n hb hx
      exact ⟨sl, (hs.2 b (Nat.ne_of_lt (Nat.lt_of_lt_of_le (Heap.lt_size e) (I.ok.cab x c hfn hc)))).trans e1⟩
    · obtain ⟨o', e1⟩ := I.base.there b o e hx
      exact ⟨o', (hs.2 b (Nat.ne_of_lt (Nat.lt_of_lt_of_le (Heap.lt_size e) (I.ok.cab x c hfn hc)))).trans e1⟩
    · by_cases hj : j = i
      · subst hj
        rw [hi] at e1; cases e1
        rw [List.getElem?_set_self hiσ] at e2
        cases e2
        exact ⟨u, r, .inr ⟨.inl hk, c, hc, hc'⟩⟩
      · rw [List.getElem?_set_ne (Ne.symm hj)] at e2
        obtain ⟨u', r', q⟩ := hl j y v' e1 e2 e3
        refine ⟨u', r', ?_⟩
        rcases q with q | ⟨k, c', e, z'⟩
        · exact .inl q
        · refine .inr ⟨k, c', e, z'.sameBut hs ?_⟩
          rintro rfl
          exact hj (nodup_ix hN e1 (I.ok.inj _ _ _ e hc ▸ hi))
    · by_cases hcc : c' = c
      · subst hcc; exact ⟨_, hc'⟩
      · obtain ⟨w2, z2⟩ := I.cell y c' e
        exact ⟨w2, z2.sameBut hs hcc⟩
    · obtain ⟨e, n, ne, nf, d⟩ := I.pin p hp
      refine ⟨(hs.2 p.1 ?_).trans e, n, ne, nf, d⟩
      intro q
      rw [q, hoc] at e
      have q' : oc = p.2 := Option.some.inj e
      exact d w' (by rw [← q']; exact hocd)
theorem store_ok {M : Model} {A : Around} {E : Value → Shared → Prop} {i : Nat} {x : Str} {v : V} {u : Value} {Q : Unit → Shared → Prop} (I : Inv X pins σ H s) (hN : X.N.Nodup) (hi : X.N[i]? = some x) (hx : Loc X.env.scope x) (r : RelV v u)
    (h : ∀ s', Inv X pins (σ.set i (some v)) H s' → Q () s') (hf : X.fn x = true ∨ X.env.scope.names.lookup x = some .local := by first | exact .inl rfl | exact .inr rfl | assumption) : wpAny M A (storeName X.env x u) Q E s :=
  store_ok2 I hN hi hx r (fun s' I' _ => h s' I') hf
theorem Inv.call' {s' : Shared} {ch : List Addr} (I : Inv X pins σ H s) (ho : s'.os = s.os) (u : Un (frs X.stack) ch H H' s.heap s'.heap) (hok : HOk X.prog X.w H' s'.heap) (hg : AllBare s'.gens)
    (hch : ∀ b ∈ ch, (b ∈ X.ex ∨ X.s₀.heap.objs.size ≤ b) ∧ b ≠ X.env.locals ∧ (∀ x c, X.env.cells.lookup x = some c → c ≠ b) ∧ ∀ p ∈ X.pn ++ pins, p.1 ≠ b) : Inv X pins σ H' s' := by
  obtain ⟨h', g', d', t', o'⟩ := s'
  have e : o' = s.os := ho
  subst e
  exact I.call (g' := g') (t' := t') (d' := d') u hok hg hch
end

/-! ### the judgements -/
noncomputable abbrev XK := Value → Option Addr → Hp → Prop
noncomputable abbrev St := List (Option V)
noncomputable abbrev VK := V → Hp → Prop
noncomputable abbrev TE := St → Hp → VK → Prop
noncomputable abbrev TT := St → Hp → (Bool → Hp → Prop) → Prop
noncomputable abbrev TA := St → Hp → (List V → Hp → Prop) → Prop
structure Ends where
  nx : St → Hp → Prop
  rt : VK
  bk : St → Hp → Prop := fun _ _ => False
  ct : St → Hp → Prop := fun _ _ => False
noncomputable abbrev TS := Ends → St → Hp → Prop

noncomputable def EP (X : Cx) (pins : List (Addr × Obj)) (σ : St) (Q : VK) (u : Value) (s' : Shared) : Prop := ∃ v H', Inv X pins σ H' s' ∧ RelV v u ∧ Q v H'
noncomputable def TP (X : Cx) (pins : List (Addr × Obj)) (σ : St) (Q : Bool → Hp → Prop) (b : Bool) (s' : Shared) : Prop := ∃ H', Inv X pins σ H' s' ∧ Q b H'
noncomputable def AP (X : Cx) (pins : List (Addr × Obj)) (σ : St) (Q : List V → Hp → Prop) (us : List Value) (s' : Shared) : Prop := ∃ vs H', Inv X pins σ H' s' ∧ Vals vs us ∧ Q vs H'
noncomputable def SP (X : Cx) (pins : List (Addr × Obj)) (D : Ends) (f : Flow) (s' : Shared) : Prop :=
  match f with
  | .next => ∃ σ' H', Inv X pins σ' H' s' ∧ D.nx σ' H'
  | .brk => ∃ σ' H', Inv X pins σ' H' s' ∧ D.bk σ' H'
  | .cont => ∃ σ' H', Inv X pins σ' H' s' ∧ D.ct σ' H'
  | .ret u => ∃ v σ' H', Inv X pins σ' H' s' ∧ RelV v u ∧ D.rt v H'

noncomputable def PE (X : Cx) (e : Expr) (t : TE) : Prop :=
  ∀ (pins : List (Addr × Obj)) (s : Shared) (σ : St) (H : Hp) (Q : VK), Inv X pins σ H s → t σ H Q → wpAny (model X.prog X.w) X.A (eval e X.env) (EP X pins σ Q) X.xe s
noncomputable def PT (X : Cx) (e : Expr) (t : TT) : Prop :=
  ∀ (pins : List (Addr × Obj)) (s : Shared) (σ : St) (H : Hp) (Q : Bool → Hp → Prop), Inv X pins σ H s → t σ H Q → wpAny (model X.prog X.w) X.A (isTrue e X.env (eval e X.env)) (TP X pins σ Q) X.xe s
noncomputable def PW (X : Cx) (e : Expr) (t : TT) : Prop :=
  ∀ (whole : Sem Value) (pins : List (Addr × Obj)) (s : Shared) (σ : St) (H : Hp) (Q : Bool → Hp → Prop), Inv X pins σ H s → t σ H Q → wpAny (model X.prog X.w) X.A (isTrue e X.env whole) (TP X pins σ Q) X.xe s
theorem PW.pt {X : Cx} {e : Expr} {t : TT} (h : PW X e t) : PT X e t := h _
noncomputable def PA (X : Cx) (es : List Expr) (t : TA) : Prop :=
  ∀ (pos : Pos) (pins : List (Addr × Obj)) (s : Shared) (σ : St) (H : Hp) (Q : List V → Hp → Prop), Inv X pins σ H s → t σ H Q → wpAny (model X.prog X.w) X.A (spliced (backTo pos (starEach es X.env))) (AP X pins σ Q) X.xe s
noncomputable def PS (X : Cx) (st : Stmt) (t : TS) : Prop :=
  ∀ (pins : List (Addr × Obj)) (s : Shared) (σ : St) (H : Hp) (D : Ends), Inv X pins σ H s → t D σ H → wpAny (model X.prog X.w) X.A (exec st X.env) (SP X pins D) X.xe s
noncomputable def PSs (X : Cx) (st : List Stmt) (t : TS) : Prop :=
  ∀ (pins : List (Addr × Obj)) (s : Shared) (σ : St) (H : Hp) (D : Ends), Inv X pins σ H s → t D σ H → wpAny (model X.prog X.w) X.A (execs st X.env) (SP X pins D) X.xe s
theorem thn {α : Type} {t : Sem α} {Q Q' : α → Shared → Prop} {M : Model} {A : Around} {E : Value → Shared → Prop} {s : Shared} (h : wpAny M A t Q E s) (hQ : ∀ a s, Q a s → Q' a s) : wpAny M A t Q' E s := wpAny_mono h hQ fun _ _ x => x
end L2

namespace L2
open PySem PySem.Spec PyProof.Rows
section
variable {X : Cx}


/-! ### names and constants -/
noncomputable def tVar (i : Nat) : TE := fun σ H Q => ∃ v, σ[i]? = some (some v) ∧ Q v H
noncomputable def tC (v : V) : TE := fun _ H Q => Q v H
theorem pe_var {i : Nat} {x : Str} {pos : Pos} (hN : X.N[i]? = some x) (hv : Vis X.env.scope x) (hd : (x == ("__debug__" : Str)) = false := by decide) (hcd : (x == ("__classdict__" : Str)) = false := by decide) : PE X (.Name x pos) (tVar i) := by
  intro pins s σ H Q I h
  obtain ⟨v, e, h⟩ := h
  obtain ⟨m, hn, hl⟩ := I.loc
  obtain ⟨u, r, l⟩ := hl i x v hN e hv
  have fin : EP X pins σ Q u s := ⟨v, H, I, r, h⟩
  rcases l with ⟨hk, hm⟩ | ⟨hk, c, hc, hcell⟩
  · exact wpAny_Name (wpAny_loadName_local I.ok.kind hk hn hm fin) hd
  · rcases hk with hk | hk
    · exact wpAny_Name (wpAny_loadName_cell I.ok.kind hk hc hcell fin) hd
    · exact wpAny_Name (wpAny_loadName_free I.ok.kind hk hc hcell fin hcd) hd
theorem pe_int {i j pos} : PE X (.Constant (.int i) j pos) (tC (.int i)) := fun _ _ _ H _ I h => wpAny_Constant_int ⟨.int i, H, I.tok _, ⟨_, rfl⟩, h⟩
theorem pe_bl {b j pos} : PE X (.Constant (.bool b) j pos) (tC (.bl b)) := fun _ _ _ H _ I h => Constant_bool ⟨.bl b, H, I, rfl, h⟩
theorem pe_non {j pos} : PE X (.Constant .none j pos) (tC .non) := fun _ _ _ H _ I h => Constant_none ⟨.non, H, I, rfl, h⟩
theorem pe_str {x j pos} : PE X (.Constant (.str x) j pos) (tC (.str x)) := fun _ _ _ H _ I h => Calls.Constant_str ⟨.str x, H, I.tok _, ⟨_, rfl⟩, h⟩

noncomputable def Gl (X : Cx) (x : Str) : Prop := X.env.kindOf x = some .globalImplicit
theorem ld_glob {E : Value → Shared → Prop} {pins : List (Addr × Obj)} {s : Shared} {σ : St} {H : Hp} {x : Str} {u : Value} {pos : Pos} {Q : Value → Shared → Prop} (I : Inv X pins σ H s) (hg : Gl X x) (hm : X.mg x = some u) (h : Q u s)
    (hd : (x == ("__debug__" : Str)) = false := by decide) : wpAny (model X.prog X.w) X.A (eval (.Name x pos) X.env) Q E s :=
  Calls.Name_function_global I.ok.kind hg (Calls.loadGlobal_global (by rw [I.ok.glob]; exact I.mod.glob.keeps I.bk) hm h) hd
theorem ld_blt {E : Value → Shared → Prop} {pins : List (Addr × Obj)} {s : Shared} {σ : St} {H : Hp} {x : Str} {u : Value} {pos : Pos} {Q : Value → Shared → Prop} (I : Inv X pins σ H s) (hg : Gl X x) (hm : X.mg x = none) (hv : bootBuiltins x = some u) (h : Q u s)
    (hn : x ≠ "__name__" := by decide) (hd : (x == ("__debug__" : Str)) = false := by decide) : wpAny (model X.prog X.w) X.A (eval (.Name x pos) X.env) Q E s := by
  obtain ⟨mb, h1, h2⟩ := I.mod.blt
  exact Calls.Name_function_global I.ok.kind hg (Calls.loadGlobal_builtin (by rw [I.ok.glob]; exact I.mod.glob.keeps I.bk) hm (by rw [I.ok.blt]; exact h1.keeps I.bk) ((h2 x hn).trans hv) h) hd
theorem pe_glob {x : Str} {v : V} {u : Value} {pos : Pos} (hg : Gl X x) (hm : X.mg x = some u) (r : RelV v u) (hd : (x == ("__debug__" : Str)) = false := by decide) : PE X (.Name x pos) (tC v) :=
  fun _ _ _ H _ I h => ld_glob I hg hm ⟨v, H, I, r, h⟩ hd
theorem pe_bltn {x : Str} {v : V} {u : Value} {pos : Pos} (hg : Gl X x) (hm : X.mg x = none) (hv : bootBuiltins x = some u) (r : RelV v u) (hn : x ≠ "__name__" := by decide) (hd : (x == ("__debug__" : Str)) = false := by decide) : PE X (.Name x pos) (tC v) :=
  fun _ _ _ H _ I h => ld_blt I hg hm hv ⟨v, H, I, r, h⟩ hn hd

/-! ### arithmetic -/
noncomputable def t2I (ta tb : TE) (k : Int → Int → Hp → Prop) : St → Hp → Prop := fun σ H => ta σ H fun x H1 => tb σ H1 fun y H2 => ∃ i j, x = .int i ∧ y = .int j ∧ k i j H2
noncomputable def tAdd (ta tb : TE) : TE := fun σ H Q => t2I ta tb (fun i j H2 => Q (.int (i + j)) H2) σ H
noncomputable def tSub (ta tb : TE) : TE := fun σ H Q => t2I ta tb (fun i j H2 => Q (.int (i - j)) H2) σ H
noncomputable def tMul (ta tb : TE) : TE := fun σ H Q => t2I ta tb (fun i j H2 => (-(2 ^ 64) < i ∧ i < 2 ^ 64) ∧ Q (.int (i * j)) H2) σ H
variable {a b : Expr} {ta tb : TE} {pos : Pos}

/-! ### comparisons -/
noncomputable def PC (X : Cx) (op : CmpOp) (a b : Expr) (t : TE) : Prop :=
  ∀ (pins : List (Addr × Obj)) (s : Shared) (σ : St) (H : Hp) (Q : VK), Inv X pins σ H s → t σ H Q →
    wpAny (model X.prog X.w) X.A (eval a X.env) (fun v s₁ => wpAny (model X.prog X.w) X.A (eval b X.env) (fun u s₂ => wpAny (model X.prog X.w) X.A (compareOp op v u) (EP X pins σ Q) X.xe s₂) X.xe s₁) X.xe s
theorem nobehind (b : Expr) {op : CmpOp} (h : op ≠ .In) (h2 : op ≠ .NotIn) : behindInMarks op b = false := by
  have e1 : (op == CmpOp.In) = false := by cases op <;> first | rfl | exact absurd rfl h
  have e2 : (op == CmpOp.NotIn) = false := by cases op <;> first | rfl | exact absurd rfl h2
  cases b <;> simp [behindInMarks, e1, e2]
noncomputable def tCmp (p : Int → Int → Bool) (ta tb : TE) : TE := fun σ H Q => t2I ta tb (fun i j H2 => Q (.bl (p i j)) H2) σ H
noncomputable abbrev tLt : TE → TE → TE := tCmp fun i j => decide (i < j)
noncomputable abbrev tLe : TE → TE → TE := tCmp fun i j => decide (i ≤ j)
noncomputable abbrev tGt : TE → TE → TE := tCmp fun i j => decide (j < i)
noncomputable abbrev tGe : TE → TE → TE := tCmp fun i j => decide (j ≤ i)
noncomputable abbrev tEqI : TE → TE → TE := tCmp fun i j => decide (i = j)
noncomputable abbrev tNeI : TE → TE → TE := tCmp fun i j => !decide (i = j)
noncomputable def tIsN (ta : TE) : TE := fun σ H Q => ta σ H fun x H1 => Q (.bl (decide (x = .non))) H1
noncomputable def tNotN (ta : TE) : TE := fun σ H Q => ta σ H fun x H1 => Q (.bl (!decide (x = .non))) H1
theorem RelV.none_iff {x : V} {v : Value} (r : RelV x v) : (v == Value.none) = decide (x = .non) := by
  cases x with
  | non => cases r; rfl
  | bl _ => cases r; rfl
  | int _ => obtain ⟨t, rfl⟩ := r; rfl
  | str _ => obtain ⟨t, rfl⟩ := r; rfl
  | byt _ => obtain ⟨t, rfl⟩ := r; rfl
  | flt _ => obtain ⟨t, rfl⟩ := r; rfl
  | ref _ => cases r; rfl
  | ty _ => cases r; rfl
theorem pc_isN {j pos'} (ha : PE X a ta) : PC X .Is a (.Constant .none j pos') (tIsN ta) := by
  intro pins s σ H Q I h
  refine thn (ha pins s σ H _ I h) fun v s1 ⟨x, H1, I1, r1, q1⟩ => ?_
  exact Constant_none (is_none_gen ⟨.bl _, H1, I1, by rw [r1.none_iff]; rfl, q1⟩)
noncomputable def tB (t : TE) : TT := fun σ H Q => t σ H fun x H1 => ∃ c, x = .bl c ∧ Q c H1
theorem pe_cmp {op : CmpOp} {t : TE} (h : PC X op a b t) (h1 : behindInMarks op b = false := by first | exact nobehind _ (by decide) (by decide) | rfl) : PE X (.Compare a [op] [b] pos) t := fun pins s σ H Q I hw => wpAny_Compare1 (h pins s σ H Q I hw) h1
theorem pt_cmp {op : CmpOp} {t : TE} (h : PC X op a b t) (h1 : behindInMarks op b = false := by first | exact nobehind _ (by decide) (by decide) | rfl) : PT X (.Compare a [op] [b] pos) (tB t) := by
  intro pins s σ H Q I hw
  refine wpAny_isTrue_Compare1 (thn (h pins s σ H _ I hw) fun v s1 h1 => thn h1 fun u s2 h2 => thn h2 fun c s3 ⟨x, H1, I1, r1, q1⟩ => ?_) h1
  obtain ⟨d, rfl, q⟩ := q1
  cases r1
  exact wpAny_truthy_bool ⟨H1, I1, q⟩
theorem pt_val {e : Expr} {t : TE} (h : PE X e t) (he : ∀ whole, isTrue e X.env whole = (do let v ← whole; standAt e.pos; holding [v] (truthy v)) := by intro _; rfl) : PT X e (tB t) := by
  intro pins s σ H Q I hw
  refine isTrue_plain (thn (h pins s σ H _ I hw) fun v s1 ⟨x, H1, I1, r1, q1⟩ => ?_) (he _)
  obtain ⟨d, rfl, q⟩ := q1
  cases r1
  exact wpAny_truthy_bool ⟨H1, I1, q⟩

/-! ### and, or, not -/
variable {tA tB' : TT} {rest : List Expr}
noncomputable def tAnd (t u : TT) : TT := fun σ H Q => t σ H fun c H1 => if c = true then u σ H1 Q else Q false H1
noncomputable def tOr (t u : TT) : TT := fun σ H Q => t σ H fun c H1 => if c = true then Q true H1 else u σ H1 Q
noncomputable def tNot (t : TT) : TT := fun σ H Q => t σ H fun c H1 => Q (!c) H1
theorem pw_and1 (ha : PT X a tA) : PW X (.BoolOp .And [a] pos) tA := by
  intro wh pins s σ H Q I h
  refine isTrue_and (thn (ha pins s σ H Q I h) fun c s1 e => ?_)
  cases c with
  | true => exact isTrue_and_nil e
  | false => exact e
theorem pw_or1 (ha : PT X a tA) : PW X (.BoolOp .Or [a] pos) tA := by
  intro wh pins s σ H Q I h
  refine isTrue_or (thn (ha pins s σ H Q I h) fun c s1 e => ?_)
  cases c with
  | false => exact isTrue_or_nil e
  | true => exact e
theorem pw_and (ha : PT X a tA) (hb : PW X (.BoolOp .And (b :: rest) pos) tB') : PW X (.BoolOp .And (a :: b :: rest) pos) (tAnd tA tB') := by
  intro wh pins s σ H Q I h
  refine isTrue_and (thn (ha pins s σ H _ I h) fun c s1 ⟨H1, I1, q1⟩ => ?_)
  cases c with
  | true => exact hb wh pins s1 σ H1 Q I1 q1
  | false => exact ⟨H1, I1, q1⟩
theorem pw_or (ha : PT X a tA) (hb : PW X (.BoolOp .Or (b :: rest) pos) tB') : PW X (.BoolOp .Or (a :: b :: rest) pos) (tOr tA tB') := by
  intro wh pins s σ H Q I h
  refine isTrue_or (thn (ha pins s σ H _ I h) fun c s1 ⟨H1, I1, q1⟩ => ?_)
  cases c with
  | true => exact ⟨H1, I1, q1⟩
  | false => exact hb wh pins s1 σ H1 Q I1 q1
theorem pt_not (ha : PT X a tA) : PT X (.UnaryOp .Not a pos) (tNot tA) := by
  intro pins s σ H Q I h
  exact isTrue_not (ha pins s σ H (fun c H1 => Q (!c) H1) I h)
noncomputable def tAndV (ta tb : TE) : TE := fun σ H Q => ta σ H fun x H1 => ∃ c, x = .bl c ∧ if c = true then tb σ H1 Q else Q (.bl false) H1
noncomputable def tOrV (ta tb : TE) : TE := fun σ H Q => ta σ H fun x H1 => ∃ c, x = .bl c ∧ if c = true then Q (.bl true) H1 else tb σ H1 Q
noncomputable def tNotV (ta : TE) : TE := fun σ H Q => ta σ H fun x H1 => ∃ c, x = .bl c ∧ Q (.bl (!c)) H1
theorem pe_one {op} {t : TE} (h : PE X a t) : PE X (.BoolOp op [a] pos) t := fun pins s σ H Q I hw => BoolOp_one (h pins s σ H Q I hw)
theorem pe_and (ha : PE X a ta) (hb : PE X (.BoolOp .And (b :: rest) pos) tb) : PE X (.BoolOp .And (a :: b :: rest) pos) (tAndV ta tb) := by
  intro pins s σ H Q I h
  refine BoolOp_and (thn (ha pins s σ H _ I h) fun v s1 ⟨x, H1, I1, r1, q1⟩ => ?_)
  obtain ⟨c, rfl, q1⟩ := q1
  cases r1
  refine wpAny_truthy_bool ?_
  cases c with
  | true => exact hb pins s1 σ H1 Q I1 q1
  | false => exact ⟨.bl false, H1, I1, rfl, q1⟩
theorem pe_or (ha : PE X a ta) (hb : PE X (.BoolOp .Or (b :: rest) pos) tb) : PE X (.BoolOp .Or (a :: b :: rest) pos) (tOrV ta tb) := by
  intro pins s σ H Q I h
  refine BoolOp_or (thn (ha pins s σ H _ I h) fun v s1 ⟨x, H1, I1, r1, q1⟩ => ?_)
  obtain ⟨c, rfl, q1⟩ := q1
  cases r1
  refine wpAny_truthy_bool ?_
  cases c with
  | false => exact hb pins s1 σ H1 Q I1 q1
  | true => exact ⟨.bl true, H1, I1, rfl, q1⟩
theorem pe_not (ha : PE X a ta) : PE X (.UnaryOp .Not a pos) (tNotV ta) := by
  intro pins s σ H Q I h
  refine UnaryOp_ (thn (ha pins s σ H _ I h) fun v s1 ⟨x, H1, I1, r1, q1⟩ => ?_)
  obtain ⟨c, rfl, q1⟩ := q1
  cases r1
  exact not_of (wpAny_truthy_bool ⟨.bl (!c), H1, I1, rfl, q1⟩)
noncomputable def tIf (t : TT) (ta tb : TE) : TE := fun σ H Q => t σ H fun c H1 => if c = true then ta σ H1 Q else tb σ H1 Q
theorem pe_ifExp {c : Expr} (hc : PT X c tA) (ha : PE X a ta) (hb : PE X b tb) : PE X (.IfExp c a b pos) (tIf tA ta tb) := by
  intro pins s σ H Q I h
  refine wpAny_IfExp (thn (hc pins s σ H _ I h) fun d s1 ⟨H1, I1, q1⟩ => ?_)
  cases d with
  | true => exact ha pins s1 σ H1 Q I1 q1
  | false => exact hb pins s1 σ H1 Q I1 q1
end
end L2

namespace L2
open PySem PySem.Spec PyProof.Rows

/-! ### a list, a tuple that is read: tracked, frozen, or an object of the module -/
noncomputable def SqL (K : PySem.W.Frag) (H : Hp) (a : Addr) (xs : List V) : Prop :=
  Rd H a (.lst xs) ∨
    ∃ (o : Obj) (its : Array Value) (n : Nat), K.lookup a = some o ∧ o.cls = .type "list" ∧ o.dict = none ∧ o.data = .seq its n ∧ its.size ≤ sizeLine ∧ Vals xs its.toList
noncomputable def SqT (K : PySem.W.Frag) (H : Hp) (a : Addr) (xs : List V) : Prop :=
  Rd H a (.tup xs) ∨
    ∃ (o : Obj) (its : Array Value) (n : Nat), K.lookup a = some o ∧ o.cls = .type "tuple" ∧ o.data = .seq its n ∧ its.size ≤ sizeLine ∧ Vals xs its.toList
noncomputable def absV : Value → Option V
  | .none => some .non
  | .bool b => some (.bl b)
  | .int i _ => some (.int i)
  | .str x _ => some (.str x)
  | .bytes b _ => some (.byt b)
  | .float b _ => some (.flt b)
  | .ref a => some (.ref a)
  | .type n => some (.ty n)
  | _ => none
theorem RelV.abs {x : V} {u : Value} (r : RelV x u) : absV u = some x := by
  cases x with
  | non => cases r; rfl
  | bl _ => cases r; rfl
  | int _ => obtain ⟨t, rfl⟩ := r; rfl
  | str _ => obtain ⟨t, rfl⟩ := r; rfl
  | byt _ => obtain ⟨t, rfl⟩ := r; rfl
  | flt _ => obtain ⟨t, rfl⟩ := r; rfl
  | ref _ => cases r; rfl
  | ty _ => cases r; rfl
theorem RelV.inj {x y : V} {u : Value} (r : RelV x u) (q : RelV y u) : x = y := Option.some.inj (r.abs.symm.trans q.abs)
theorem Vals.inj : ∀ {xs ys : List V} {us : List Value}, Vals xs us → Vals ys us → xs = ys
  | _, _, _, .nil, .nil => rfl
  | _, _, _, .cons r t, .cons r' t' => by rw [r.inj r', Vals.inj t t']
section
variable {X : Cx} {pins : List (Addr × Obj)} {σ : St} {H : Hp} {s : Shared} {a : Addr} {xs ys : List V}
theorem SqL.of {K : PySem.W.Frag} (h : H a = some (.lst xs)) : SqL K H a xs := .inl (.inl h)
theorem SqT.of {K : PySem.W.Frag} (h : H a = some (.tup xs)) : SqT K H a xs := .inl (.inl h)
theorem Inv.list (I : Inv X pins σ H s) (h : SqL X.K H a xs) : ∃ its : List Value, Vals xs its ∧ PlainL s.heap a its.toArray ∧ xs.length ≤ sizeLine := by
  rcases h with h | ⟨o, its, n, hk, hc, hd, hs, hz, r⟩
  · obtain ⟨z, its, n, r, e⟩ := h.ok I.hok
    exact ⟨its, r, ⟨_, n, e, rfl, rfl, rfl⟩, z⟩
  · refine ⟨its.toList, r, ⟨o, n, I.kIn a o hk, hc, hd, by simpa using hs⟩, ?_⟩
    have e := r.length
    simp only [Array.length_toList] at e
    omega
theorem Inv.tuple (I : Inv X pins σ H s) (h : SqT X.K H a xs) : ∃ its : List Value, Vals xs its ∧ IsTup s.heap a its.toArray ∧ xs.length ≤ sizeLine := by
  rcases h with h | ⟨o, its, n, hk, hc, hs, hz, r⟩
  · obtain ⟨z, its, r, p⟩ := h.ok I.hok
    exact ⟨its, r, p, z⟩
  · refine ⟨its.toList, r, ⟨o, I.kIn a o hk, hc, n, by simpa using hs⟩, ?_⟩
    have e := r.length
    simp only [Array.length_toList] at e
    omega
theorem Inv.list_inj (I : Inv X pins σ H s) (h : SqL X.K H a xs) (h' : SqL X.K H a ys) : xs = ys := by
  obtain ⟨its, r, ⟨o, n, e, _, _, d⟩, _⟩ := I.list h
  obtain ⟨its', r', ⟨o', n', e', _, _, d'⟩, _⟩ := I.list h'
  rw [e] at e'; cases e'
  rw [d] at d'
  injection d' with d1 _
  have : its = its' := by simpa using congrArg Array.toList d1
  subst this
  exact r.inj r'
theorem Inv.tuple_inj (I : Inv X pins σ H s) (h : SqT X.K H a xs) (h' : SqT X.K H a ys) : xs = ys := by
  obtain ⟨its, r, ⟨o, e, _, n, d⟩, _⟩ := I.tuple h
  obtain ⟨its', r', ⟨o', e', _, n', d'⟩, _⟩ := I.tuple h'
  rw [e] at e'; cases e'
  rw [d] at d'
  injection d' with d1 _
  have : its = its' := by simpa using congrArg Array.toList d1
  subst this
  exact r.inj r'
end

/-! ### another wish about exceptions -/
noncomputable abbrev Cx.wish (X : Cx) (E : Value → Shared → Prop) : Cx := { X with xe := E }
noncomputable abbrev Cx.nox (X : Cx) : Cx := X.wish fun _ _ => False
theorem Cx.Ok.wish {X : Cx} (ok : X.Ok) (E : Value → Shared → Prop) : (X.wish E).Ok :=
  ⟨ok.mod, ok.kind, ok.glob, ok.blt, ok.above, ok.inj, ok.has, ok.cab, ok.hd, ok.frames, ok.stk, ok.exf, ok.bs, ok.bsz, ok.noex, ok.exfs, ok.funs, ok.frf⟩
theorem Cx.Ok.unwish {X : Cx} {E : Value → Shared → Prop} (ok : (X.wish E).Ok) : X.Ok :=
  ⟨ok.mod, ok.kind, ok.glob, ok.blt, ok.above, ok.inj, ok.has, ok.cab, ok.hd, ok.frames, ok.stk, ok.exf, ok.bs, ok.bsz, ok.noex, ok.exfs, ok.funs, ok.frf⟩
section
variable {X : Cx} {pins : List (Addr × Obj)} {σ : St} {H : Hp} {s : Shared} {E : Value → Shared → Prop}
theorem Inv.wish (I : Inv X pins σ H s) (E : Value → Shared → Prop) : Inv (X.wish E) pins σ H s := ⟨I.ok.wish E, I.os, I.bare, I.base, I.loc, I.cell, I.free, I.freeC, I.pin, I.hok, I.len⟩
theorem Inv.unwish (I : Inv (X.wish E) pins σ H s) : Inv X pins σ H s := ⟨I.ok.unwish, I.os, I.bare, I.base, I.loc, I.cell, I.free, I.freeC, I.pin, I.hok, I.len⟩
theorem SP.unwish {D : Ends} {f : Flow} {s' : Shared} (h : SP (X.wish E) pins D f s') : SP X pins D f s' := by
  cases f with
  | next => obtain ⟨σ', H', I, q⟩ := h; exact ⟨σ', H', I.unwish, q⟩
  | brk => obtain ⟨σ', H', I, q⟩ := h; exact ⟨σ', H', I.unwish, q⟩
  | cont => obtain ⟨σ', H', I, q⟩ := h; exact ⟨σ', H', I.unwish, q⟩
  | ret u => obtain ⟨v, σ', H', I, r, q⟩ := h; exact ⟨v, σ', H', I.unwish, r, q⟩
theorem PSs.nox {st : List Stmt} {t : TS} (h : PSs X.nox st t) : PSs X st t := fun pins s σ H D I hw =>
  wpAny_mono (h pins s σ H D (I.wish _) hw) (fun _ _ q => q.unwish) fun _ _ z => False.elim z
end

/-! ### blocks and small statements -/
section
variable {X : Cx} {st : Stmt} {rest : List Stmt} {t u : TS} {e : Expr} {te : TE} {pos : Pos}
noncomputable def tNext : TS := fun D σ H => D.nx σ H
noncomputable def tSeq (t u : TS) : TS := fun D σ H => t { D with nx := u D } σ H
theorem pss_nil : PSs X [] tNext := fun _ _ σ H _ I h => wpAny_execs_nil ⟨σ, H, I, h⟩
theorem pss_cons (h1 : PS X st t) (h2 : PSs X rest u) : PSs X (st :: rest) (tSeq t u) := by
  intro pins s σ H D I h
  refine wpAny_execs_cons (thn (h1 pins s σ H { D with nx := u D } I h) fun f s1 q => ?_)
  cases f with
  | next =>
    obtain ⟨σ', H', I', q⟩ := q
    exact h2 pins s1 σ' H' D I' q
  | ret v => exact q
  | brk => exact q
  | cont => exact q
theorem pss_one (h1 : PS X st t) : PSs X [st] t := by
  intro pins s σ H D I h
  refine wpAny_execs_cons (thn (h1 pins s σ H D I h) fun f s1 q => ?_)
  cases f with
  | next => exact wpAny_execs_nil q
  | ret v => exact q
  | brk => exact q
  | cont => exact q
noncomputable def tBreak : TS := fun D σ H => D.bk σ H
noncomputable def tCont : TS := fun D σ H => D.ct σ H
theorem ps_pass : PS X (.Pass pos) tNext := fun _ _ σ H _ I h => wpAny_Pass ⟨σ, H, I, h⟩
theorem Inv.quiet {pins : List (Addr × Obj)} {σ : St} {H : Hp} {s : Shared} (I : Inv X pins σ H s) : interactive X.env = false := by simp [interactive, I.ok.kind]
noncomputable def tDrop (te : TE) : TS := fun D σ H => te σ H fun _ H1 => D.nx σ H1
theorem ps_expr (he : PE X e te) (hs : swapsWith e none pos.line X.env = pure false := by rfl) : PS X (.Expr e pos) (tDrop te) := by
  intro pins s σ H D I h
  exact wpAny_Expr_any (thn (he pins s σ H _ I h) fun v s1 ⟨x, H1, I1, r1, q1⟩ => ⟨σ, H1, I1, q1⟩) I.quiet hs
noncomputable def tRet (te : TE) : TS := fun D σ H => te σ H D.rt
theorem ps_ret (he : PE X e te) : PS X (.Return (some e) pos) (tRet te) := by
  intro pins s σ H D I h
  exact wpAny_Return_some (thn (he pins s σ H _ I h) fun v s1 ⟨x, H1, I1, r1, q1⟩ => ⟨x, σ, H1, I1, r1, q1⟩)
noncomputable def tRetN : TS := fun D _ H => D.rt .non H
theorem ps_retN : PS X (.Return none pos) tRetN := fun _ _ σ H _ I h => wpAny_Return_none ⟨.non, σ, H, I, rfl, h⟩
noncomputable def tIfS (c : TT) (t u : TS) : TS := fun D σ H => c σ H fun b H1 => if b = true then t D σ H1 else u D σ H1
theorem ps_if {c : Expr} {a b : List Stmt} {tc : TT} (hc : PT X c tc) (ha : PSs X a t) (hb : PSs X b u) : PS X (.If c a b pos) (tIfS tc t u) := by
  intro pins s σ H D I h
  refine wpAny_If (thn (hc pins s σ H _ I h) fun d s1 ⟨H1, I1, q1⟩ => ?_)
  cases d with
  | true => exact ha pins s1 σ H1 D I1 q1
  | false => exact hb pins s1 σ H1 D I1 q1
noncomputable def tNever : TS := fun _ _ _ => False
end

/-! ### targets -/
noncomputable abbrev TG := V → St → Hp → (St → Hp → Prop) → Prop
noncomputable abbrev TGs := List V → St → Hp → (St → Hp → Prop) → Prop
noncomputable def PG (X : Cx) (target : Expr) (t : TG) : Prop :=
  ∀ (pins : List (Addr × Obj)) (s : Shared) (σ : St) (H : Hp) (v : V) (u : Value) (Q : St → Hp → Prop), Inv X pins σ H s → RelV v u → t v σ H Q →
    wpAny (model X.prog X.w) X.A (assign target X.env u) (fun _ s' => ∃ σ' H', Inv X pins σ' H' s' ∧ Q σ' H') X.xe s
noncomputable def PGs (X : Cx) (ts : List Expr) (t : TGs) : Prop :=
  ∀ (pins : List (Addr × Obj)) (s : Shared) (σ : St) (H : Hp) (vs : List V) (us : List Value) (Q : St → Hp → Prop), Inv X pins σ H s → Vals vs us → t vs σ H Q →
    wpAny (model X.prog X.w) X.A (assignInOrder ((assignEach ts X.env).map (·.2)) us) (fun _ s' => ∃ σ' H', Inv X pins σ' H' s' ∧ Q σ' H') X.xe s
noncomputable abbrev TSet := V → V → V → Hp → (Hp → Prop) → Prop
noncomputable def PSet (X : Cx) (t : TSet) : Prop :=
  ∀ (pins : List (Addr × Obj)) (s : Shared) (σ : St) (H : Hp) (o i v : V) (ov iv u : Value) (Q : Hp → Prop), Inv X pins σ H s → RelV o ov → RelV i iv → RelV v u → t o i v H Q →
    wpAny (model X.prog X.w) X.A (setItem ov iv u) (fun _ s' => ∃ H', Inv X pins σ H' s' ∧ Q H') X.xe s
noncomputable abbrev TIp := V → V → Hp → VK → Prop
noncomputable def PIp (X : Cx) (op : Operator) (t : TIp) : Prop :=
  ∀ (pins : List (Addr × Obj)) (s : Shared) (σ : St) (H : Hp) (x y : V) (v u : Value) (Q : VK), Inv X pins σ H s → RelV x v → RelV y u → t x y H Q →
    wpAny (model X.prog X.w) X.A (inplaceOp op v u) (EP X pins σ Q) X.xe s
section
variable {X : Cx} {pos : Pos}
noncomputable def gName (i : Nat) : TG := fun v σ H Q => Q (σ.set i (some v)) H
theorem pg_name {i : Nat} {x : Str} (hN : X.N.Nodup) (hi : X.N[i]? = some x) (hx : Loc X.env.scope x) (hf : X.fn x = true ∨ X.env.scope.names.lookup x = some .local := by first | exact .inl rfl | exact .inr rfl | assumption) : PG X (.Name x pos) (gName i) := by
  intro pins s σ H v u Q I r h
  exact wpAny_assign_Name (store_ok I hN hi hx r (fun s' I' => ⟨_, H, I', h⟩) hf)
noncomputable def gNil : TGs := fun vs σ H Q => vs = [] ∧ Q σ H
noncomputable def gCons (t : TG) (u : TGs) : TGs := fun vs σ H Q => ∃ v r, vs = v :: r ∧ t v σ H fun σ' H' => u r σ' H' Q
theorem pgs_nil : PGs X [] gNil := by
  intro pins s σ H vs us Q I r h
  obtain ⟨e, h⟩ := h
  subst e
  cases r
  exact assignInOrder_nil ⟨σ, H, I, h⟩
theorem pgs_cons {e : Expr} {es : List Expr} {t : TG} {u : TGs} (h1 : PG X e t) (h2 : PGs X es u)
    (hs : (assignEach (e :: es) X.env).map (·.2) = assign e X.env :: (assignEach es X.env).map (·.2) := by rfl) : PGs X (e :: es) (gCons t u) := by
  intro pins s σ H vs us Q I r h
  obtain ⟨v, vr, e1, h⟩ := h
  subst e1
  cases r with
  | cons r rr =>
    rw [hs]
    refine assignInOrder_cons (thn (h1 pins s σ H _ _ _ I r h) fun _ s1 ⟨σ1, H1, I1, q1⟩ => ?_)
    exact h2 pins s1 σ1 H1 _ _ Q I1 rr q1
noncomputable def gTup (K : PySem.W.Frag) (n : Nat) (t : TGs) : TG := fun v σ H Q => ∃ a xs, v = .ref a ∧ SqT K H a xs ∧ xs.length = n ∧ t xs σ H Q
theorem pg_tup {es : List Expr} {k : Nat} {t : TGs} {n : Nat} (hc : X.calm = true) (h : PGs X es t)
    (hn : (assignEach es X.env).length = n := by rfl) (hst : (assignEach es X.env).findIdx? (·.1) = none := by rfl) : PG X (.Tuple es k pos) (gTup X.K n t) := by
  intro pins s σ H v u Q I r hw
  obtain ⟨a, xs, e1, hq, hl, hw⟩ := hw
  subst e1
  cases r
  obtain ⟨its, rv, ht, hz⟩ := I.tuple hq
  refine assign_Tuple_tuple (I.ok.hd hc) ht (by simp [hn, ← hl, rv.length]) hst fun h' hx => ?_
  have I1 : Inv X pins σ H { s with heap := h' } := I.kept (t' := s.toks) fun b o e => hx b o (Nat.ne_of_lt (Heap.lt_size e)) e
  exact h pins _ σ H xs _ Q I1 (by simpa using rv) hw
noncomputable def gSub (to ti : TE) (t : TSet) : TG := fun v σ H Q => to σ H fun o H1 => ti σ H1 fun i H2 => t o i v H2 fun H3 => Q σ H3
theorem pg_sub {o i : Expr} {to ti : TE} {t : TSet} (ho : PE X o to) (hi : PE X i ti) (hs : PSet X t)
    (ha : ∀ v, assign (.Subscript o i pos) X.env v = (do
      let ov ← holding [v] (eval o X.env)
      let iv ← holding [v, ov] (eval i X.env)
      standAt pos
      holding [v, ov, iv] (setItem ov iv v)
      release [v, ov, iv] []) := by intro _; rfl) : PG X (.Subscript o i pos) (gSub to ti t) := by
  intro pins s σ H v u Q I r h
  rw [ha]
  refine wpAny_bind (wpAny_holding (thn (ho pins s σ H _ I h) fun ov s1 ⟨x, H1, I1, r1, q1⟩ => ?_))
  refine wpAny_bind (wpAny_holding (thn (hi pins s1 σ H1 _ I1 q1) fun iv s2 ⟨y, H2, I2, r2, q2⟩ => ?_))
  refine wpAny_bind (wpAny_standAt (wpAny_bind (wpAny_holding (thn (hs pins s2 σ H2 x y v ov iv u _ I2 r1 r2 r q2) fun _ s3 ⟨H3, I3, q3⟩ => ?_))))
  exact wpAny_release ⟨σ, H3, I3, q3⟩
noncomputable def tAsg (te : TE) (g : TG) : TS := fun D σ H => te σ H fun x H1 => g x σ H1 D.nx
theorem ps_asg {tg e : Expr} {te : TE} {g : TG} (he : PE X e te) (hg : PG X tg g) (hs : swapsWithSole [tg] e pos.line X.env = pure false := by rfl) (hw : swappedStores [tg] e X.env = pure none := by rfl)
    (h1 : (assignEach [tg] X.env).map (·.2) = [assign tg X.env] := by rfl) : PS X (.Assign [tg] e pos) (tAsg te g) := by
  intro pins s σ H D I h
  refine wpAny_Assign_stores (thn (he pins s σ H _ I h) fun v s1 ⟨x, H1, I1, r1, q1⟩ => ?_) hs hw
  rw [h1]
  exact thn (hg pins s1 σ H1 x v _ I1 r1 q1) fun _ s2 q => q
theorem ps_set {i : Nat} {x : Str} {e : Expr} {te : TE} {pos' : Pos} (hN : X.N.Nodup) (hi : X.N[i]? = some x) (hx : Loc X.env.scope x) (he : PE X e te) (hs : swapsWith e (some (.Name x pos')) pos.line X.env = pure false := by rfl) (hf : X.fn x = true ∨ X.env.scope.names.lookup x = some .local := by first | exact .inl rfl | exact .inr rfl | assumption) :
    PS X (.Assign [.Name x pos'] e pos) (tAsg te (gName i)) := by
  intro pins s σ H D I h
  refine wpAny_Assign_Name (thn (he pins s σ H _ I h) fun v s1 ⟨y, H1, I1, r1, q1⟩ => ?_) hs
  exact store_ok I1 hN hi hx r1 (fun s2 I2 => ⟨_, H1, I2, q1⟩) hf
noncomputable def tPar (i j : Nat) (ta : TA) : TS := fun D σ H => ta σ H fun vs H1 => ∃ v w, vs = [v, w] ∧ D.nx ((σ.set i (some v)).set j (some w)) H1
theorem ps_par {i j : Nat} {x y : Str} {a b : Expr} {ta : TA} {px py pt : Pos} {kt k2 pt2} (hc : X.calm = true) (hN : X.N.Nodup) (hi : X.N[i]? = some x) (hj : X.N[j]? = some y) (hij : i ≠ j)
    (hx : X.env.scope.names.lookup x = some .local) (hy : X.env.scope.names.lookup y = some .local) (ha : PA X [a, b] ta)
    (hw : swappedStores [.Tuple [.Name x px, .Name y py] kt pt] (.Tuple [a, b] k2 pt2) X.env = pure (some [x, y]))
    (hs : swapsWithSole [.Tuple [.Name x px, .Name y py] kt pt] (.Tuple [a, b] k2 pt2) pos.line X.env = pure false := by rfl) :
    PS X (.Assign [.Tuple [.Name x px, .Name y py] kt pt] (.Tuple [a, b] k2 pt2) pos) (tPar i j ta) := by
  intro pins s σ H D I h
  rw [exec_Assign_arm]
  refine wpAny_bind (wpAny_standAt ?_)
  rw [hs]
  refine wpAny_bind (wpAny_pure ?_)
  rw [if_neg (by decide)]
  refine wpAny_bind (Tuple_ (thn (ha _ pins s σ H _ I h) fun us s1 ⟨vs, H1, I1, r1, q1⟩ => ?_))
  obtain ⟨v, w, e1, q1⟩ := q1
  subst e1
  obtain ⟨u1, u2, rfl, rv, rw'⟩ : ∃ u1 u2, us = [u1, u2] ∧ RelV v u1 ∧ RelV w u2 := by
    cases r1 with
    | cons p q =>
      cases q with
      | cons p' q' =>
        cases q'
        exact ⟨_, _, rfl, p, p'⟩
  refine wpAny_newObj_type ?_ (by show 2 ≤ sizeLine; decide)
  have I2 : Inv X pins σ H1 { s1 with heap := s1.heap.push { cls := .type "tuple", data := .seq [u1, u2].toArray } } := I1.kept (t' := s1.toks) fun b o e => Heap.get?_push_of_some _ e
  rw [hw]
  refine wpAny_bind (wpAny_pure ?_)
  show wpAny (model X.prog X.w) X.A (do rule "assign.swapped-stores"; let items ← unpackItems (.ref s1.heap.objs.size) 2 none; assignInOrder [fun v => bindName X.env y v, fun v => bindName X.env x v] items.reverse; pure Flow.next) _ _ _
  refine wpAny_bind (wpAny_rule (wpAny_bind (unpackItems_tuple (items := #[u1, u2]) (I.ok.hd hc) (IsTup.new s1.heap _) fun h' hx' => ?_)))
  have I3 := I2.kept (h' := h') (t' := s1.toks) fun b o e => hx' b o (Nat.ne_of_lt (Heap.lt_size e)) e
  show wpAny _ _ (assignInOrder [fun v => bindName X.env y v, fun v => bindName X.env x v] [u2, u1] >>= fun _ => pure Flow.next) _ _ _
  refine wpAny_bind (assignInOrder_cons (wpAny_bindName (store_ok I3 hN hj (.inl hy) rw' (fun s2 I4 => ?_) (.inr hy))))
  refine assignInOrder_cons (wpAny_bindName (store_ok I4 hN hi (.inl hx) rv (fun s3 I5 => assignInOrder_nil (wpAny_pure ?_)) (.inr hx)))
  rw [List.set_comm _ _ (Ne.symm hij)] at I5
  exact ⟨_, H1, I5, q1⟩
noncomputable def tAug (i : Nat) (te : TE) (ti : TIp) : TS := fun D σ H => ∃ x, σ[i]? = some (some x) ∧ te σ H fun y H1 => ti x y H1 fun z H2 => D.nx (σ.set i (some z)) H2
noncomputable def tAugS (to ti te : TE) (tget : V → V → Hp → VK → Prop) (tip : TIp) (tset : TSet) : TS := fun D σ H => to σ H fun o H1 => ti σ H1 fun i H2 => tget o i H2 fun x H3 => te σ H3 fun y H4 => tip x y H4 fun z H5 => tset o i z H5 fun H6 => D.nx σ H6
noncomputable def PGet (X : Cx) (t : V → V → Hp → VK → Prop) : Prop :=
  ∀ (pins : List (Addr × Obj)) (s : Shared) (σ : St) (H : Hp) (o i : V) (ov iv : Value) (Q : VK), Inv X pins σ H s → RelV o ov → RelV i iv → t o i H Q →
    wpAny (model X.prog X.w) X.A (getItem ov iv) (EP X pins σ Q) X.xe s
noncomputable def ipI (f : Int → Int → Int) : TIp := fun x y H Q => ∃ i j, x = .int i ∧ y = .int j ∧ Q (.int (f i j)) H
end

/-! ### while -/
section
variable {X : Cx} {pos : Pos}
noncomputable def tWhile (c : TT) (tb : TS) : TS := fun D σ H => ∃ W : Nat → St → Hp → Prop, (∃ m, W m σ H) ∧ ∀ m σ H, W m σ H →
  c σ H fun b H1 => if b = true then ∃ N : St → Hp → Prop, (∀ σ' H', N σ' H' → ∃ m', m' < m ∧ W m' σ' H') ∧ tb { D with nx := N, ct := N, bk := D.nx } σ H1 else D.nx σ H1
end

/-! ### what a loop or a comprehension walks -/
structure It where
  go : Nat → Hp → Prop
  yld : Nat → Hp → V → Hp → Prop
  stop : Nat → Hp → Prop
noncomputable def FpOk (X : Cx) (pins : List (Addr × Obj)) (H : Hp) (b : Addr) : Prop :=
  H b = none ∧ b ≠ X.env.locals ∧ b ∉ X.fs ∧ (b ∈ X.ex ∨ X.s₀.heap.objs.size ≤ b) ∧ (∀ x c, X.env.cells.lookup x = some c → c ≠ b) ∧ ∀ p ∈ X.pn ++ pins, p.1 ≠ b
theorem Inv.fpOk {X : Cx} {pins : List (Addr × Obj)} {σ : St} {H H' : Hp} {s : Shared} {b : Addr} (I : Inv X pins σ H s) (hb : s.heap.objs.size ≤ b) (hn : H' b = none) : FpOk X pins H' b := by
  refine ⟨hn, Nat.ne_of_gt (Nat.lt_of_lt_of_le I.lt hb), I.nofs hb, .inr (Nat.le_trans I.sz hb), fun x c e z => ?_, fun p hp z => ?_⟩
  · obtain ⟨v, q⟩ := I.cell x c e
    exact absurd (Nat.lt_of_lt_of_le q.lt (by rw [z]; exact hb)) (Nat.lt_irrefl _)
  · exact absurd (Nat.lt_of_lt_of_le (Heap.lt_size (I.pin p hp).1) (by rw [z]; exact hb)) (Nat.lt_irrefl _)
structure Turn (P : Program) (w : World) (K : PySem.W.Frag) (tg : Expr) (J : It) (fp : List Addr) (it : Addr) (tn : Nat → Heap → Prop) : Prop where
  mem : it ∈ fp
  obj : ∀ i h, tn i h → ∀ b ∈ fp, ∃ o, h.get? b = some o ∧ ∀ v, o.data ≠ .cell v
  keep : ∀ i h h', tn i h → (∀ b ∈ fp, ∀ o, h.get? b = some o → h'.get? b = some o) → tn i h'
  item : ∀ (X : Cx), X.prog = P → X.w = w → X.K = K → X.calm = true → ∀ (i : Nat) (pins : List (Addr × Obj)) (s : Shared) (σ : St) (H : Hp) (E : Value → Shared → Prop), Inv X pins σ H s → (∀ b ∈ fp, FpOk X pins H b) → tn i s.heap → J.go i H →
    wpAny (model P w) X.A (pyNext (.ref it)) (fun r s1 => ∃ u, r = some u ∧
      wpAny (model P w) X.A (letOwnedTupleGo tg (.ref it) u) (fun _ s2 => ∃ x H', Inv X pins σ H' s2 ∧ RelV x u ∧ J.yld i H x H' ∧ tn (i + 1) s2.heap ∧ ∀ b ∈ fp, H' b = none) E s1) E s
  done : ∀ (X : Cx), X.prog = P → X.w = w → X.K = K → X.calm = true → ∀ (i : Nat) (pins : List (Addr × Obj)) (s : Shared) (σ : St) (H : Hp) (E : Value → Shared → Prop), Inv X pins σ H s → (∀ b ∈ fp, FpOk X pins H b) → tn i s.heap → J.stop i H →
    wpAny (model P w) X.A (pyNext (.ref it)) (fun r s1 => r = none ∧ Inv X pins σ H s1) E s
  self : ∀ (A : Around) (i : Nat) (s : Shared) (Q : Value → Shared → Prop) (E : Value → Shared → Prop), tn i s.heap → Q (.ref it) s → wpAny (model P w) A (pyIter (.ref it)) Q E s
noncomputable abbrev TI := St → Hp → (It → Hp → Prop) → Prop
noncomputable def PIE (X : Cx) (pins : List (Addr × Obj)) (σ : St) (tg : Expr) (R : It → Hp → Prop) (itv : Value) (s2 : Shared) : Prop :=
  ∃ (it : Addr) (fp : List Addr) (tn : Nat → Heap → Prop) (J : It) (H' : Hp), itv = .ref it ∧ Inv X pins σ H' s2 ∧ Turn X.prog X.w X.K tg J fp it tn ∧ tn 0 s2.heap ∧ (∀ b ∈ fp, FpOk X pins H' b) ∧ R J H'
noncomputable def PI (X : Cx) (tg iter : Expr) (wi : TI) : Prop :=
  ∀ (pins : List (Addr × Obj)) (s : Shared) (σ : St) (H : Hp) (R : It → Hp → Prop), Inv X pins σ H s → wi σ H R →
    wpAny (model X.prog X.w) X.A (eval iter X.env) (fun v s1 => wpAny (model X.prog X.w) X.A (pyIter v) (PIE X pins σ tg R) X.xe s1) X.xe s

theorem go_of {M : Model} {A : Around} {E : Value → Shared → Prop} {s : Shared} {tg : Expr} {it : Addr} {u : Value} {o : Obj} {n : String} {vs : Array Value} {Q : Unit → Shared → Prop} (ho : s.heap.get? it = some o) (hc : o.cls = .type n) (hd : o.data = .fields vs)
    (hn : ["enumerate", "zip", "dict_itemiterator", "dict_reverseitemiterator", "odict_iterator", "itertools.zip_longest", "itertools.pairwise"].contains n = false) (hQ : Q () s) : wpAny M A (letOwnedTupleGo tg (.ref it) u) Q E s := by
  unfold letOwnedTupleGo
  cases tg <;> first
    | exact wpAny_pure hQ
    | (cases u <;> first
        | exact wpAny_pure hQ
        | (refine wpAny_bind (wpAny_load ho ?_)
           rw [hc, hd]
           show wpAny M A (if (["enumerate", "zip", "dict_itemiterator", "dict_reverseitemiterator", "odict_iterator", "itertools.zip_longest", "itertools.pairwise"].contains n && vs[0]? == some (rawInt _)) = true then _ else _) Q E s
           rw [if_neg (by intro h; rw [hn, Bool.false_and] at h; cases h)]
           exact wpAny_pure hQ))

noncomputable def Itl (K : PySem.W.Frag) (a : Addr) : It :=
  ⟨fun i H => ∃ xs x, SqL K H a xs ∧ xs[i]? = some x, fun i H x H' => H' = H ∧ ∀ xs, SqL K H a xs → xs[i]? = some x, fun i H => ∃ xs, SqL K H a xs ∧ xs.length ≤ i⟩
noncomputable def Itt (K : PySem.W.Frag) (a : Addr) : It :=
  ⟨fun i H => ∃ xs x, SqT K H a xs ∧ xs[i]? = some x, fun i H x H' => H' = H ∧ ∀ xs, SqT K H a xs → xs[i]? = some x, fun i H => ∃ xs, SqT K H a xs ∧ xs.length ≤ i⟩
noncomputable def Itr (lo : Int) (n : Nat) : It := ⟨fun i _ => i < n, fun i H x H' => H' = H ∧ x = .int (lo + i), fun i _ => n ≤ i⟩
theorem turn_list {P : Program} {w : World} {K : PySem.W.Frag} {tg : Expr} (a it : Addr) : Turn P w K tg (Itl K a) [it] it (fun i h => h.IsListIter it a i) where
  mem := by simp
  obj := fun i h st b hb => by
    have e : b = it := by simpa using hb
    subst e
    obtain ⟨o, e, c, d⟩ := st
    exact ⟨o, e, fun v z => by rw [d] at z; cases z⟩
  keep := fun i h h' st k => st.at fun o e => k it (by simp) o e
  item := by
    intro X hP hw hK hc i pins s σ H E I hf st hg
    subst hP hw hK
    obtain ⟨xs, x, hq, hx⟩ := hg
    obtain ⟨its, rv, p, hz⟩ := I.list hq
    obtain ⟨u, hu, ru⟩ := rv.get hx
    obtain ⟨f0, f1, f2, f3, f4, f5⟩ := hf it (by simp)
    refine wpAny_pyNext_list_item st p.isList (x := u) (by simpa using hu) fun h' st' sb => ?_
    have I1 : Inv X pins σ H { s with heap := h' } := I.turned (t' := s.toks) (fun b o hb e => (sb.2 b hb).trans e) f0 f1 f3 f4 f5
    obtain ⟨o, e, c, d⟩ := id st'
    exact ⟨u, rfl, go_of (s := { s with heap := h' }) e c d (by decide) ⟨x, H, I1, ru, ⟨rfl, fun ys hy => by rw [I.list_inj hy hq]; exact hx⟩, st', fun b hb => (hf b hb).1⟩⟩
  done := by
    intro X hP hw hK hc i pins s σ H E I hf st hg
    subst hP hw hK
    obtain ⟨xs, hq, hx⟩ := hg
    obtain ⟨its, rv, p, hz⟩ := I.list hq
    obtain ⟨f0, f1, f2, f3, f4, f5⟩ := hf it (by simp)
    have hl := rv.length
    exact wpAny_pyNext_list_end (I.ok.hd hc) st p.isList (by simp; omega) fun h' eb => ⟨rfl, I.turned (t' := s.toks) (fun b o hb e => eb b o hb e) f0 f1 f3 f4 f5⟩
  self := fun _ _ _ _ _ st h => wpAny_pyIter_listiter st h
theorem turn_tuple {P : Program} {w : World} {K : PySem.W.Frag} {tg : Expr} (a it : Addr) : Turn P w K tg (Itt K a) [it] it (fun i h => h.IsTupleIter it a i) where
  mem := by simp
  obj := fun i h st b hb => by
    have e : b = it := by simpa using hb
    subst e
    obtain ⟨o, e, c, d⟩ := st
    exact ⟨o, e, fun v z => by rw [d] at z; cases z⟩
  keep := fun i h h' st k => st.at fun o e => k it (by simp) o e
  item := by
    intro X hP hw hK hc i pins s σ H E I hf st hg
    subst hP hw hK
    obtain ⟨xs, x, hq, hx⟩ := hg
    obtain ⟨its, rv, p, hz⟩ := I.tuple hq
    obtain ⟨u, hu, ru⟩ := rv.get hx
    obtain ⟨f0, f1, f2, f3, f4, f5⟩ := hf it (by simp)
    refine wpAny_pyNext_tuple_item st (show s.heap.IsTuple a its.toArray from p) (x := u) (by simpa using hu) fun h' st' sb => ?_
    have I1 : Inv X pins σ H { s with heap := h' } := I.turned (t' := s.toks) (fun b o hb e => (sb.2 b hb).trans e) f0 f1 f3 f4 f5
    obtain ⟨o, e, c, d⟩ := id st'
    exact ⟨u, rfl, go_of (s := { s with heap := h' }) e c d (by decide) ⟨x, H, I1, ru, ⟨rfl, fun ys hy => by rw [I.tuple_inj hy hq]; exact hx⟩, st', fun b hb => (hf b hb).1⟩⟩
  done := by
    intro X hP hw hK hc i pins s σ H E I hf st hg
    subst hP hw hK
    obtain ⟨xs, hq, hx⟩ := hg
    obtain ⟨its, rv, p, hz⟩ := I.tuple hq
    obtain ⟨f0, f1, f2, f3, f4, f5⟩ := hf it (by simp)
    have hl := rv.length
    exact wpAny_pyNext_tuple_end (I.ok.hd hc) st (show s.heap.IsTuple a its.toArray from p) (by simp; omega) fun h' eb => ⟨rfl, I.turned (t' := s.toks) (fun b o hb e => eb b o hb e) f0 f1 f3 f4 f5⟩
  self := fun _ _ _ _ _ st h => wpAny_pyIter_tupleiter st h
theorem turn_range {P : Program} {w : World} {K : PySem.W.Frag} {tg : Expr} (it : Addr) (lo : Int) (n : Nat) : Turn P w K tg (Itr lo n) [it] it (fun i h => IsRangeIter h it (lo + (i : Nat) * 1) ((n : Int) - (i : Nat)) 1) where
  mem := by simp
  obj := fun i h st b hb => by
    have e : b = it := by simpa using hb
    subst e
    exact ⟨_, st, fun v z => by
      have z' : Data.fields _ = Data.cell v := z
      cases z'⟩
  keep := fun i h h' st k => k it (by simp) _ st
  item := by
    intro X hP hw hK hc i pins s σ H E I hf st hg
    subst hP hw hK
    obtain ⟨f0, f1, f2, f3, f4, f5⟩ := hf it (by simp)
    have W := Walks.range (prog := X.prog) (w := X.w) (I.ok.hd hc) it lo 1 n
    refine W.item i s _ _ hg st fun v h' tk hv st' kk => ?_
    obtain ⟨t, rfl⟩ := hv
    have I1 : Inv X pins σ H { s with heap := h', toks := tk } := I.turned (fun b o hb e => kk b o (by simpa using hb) e) f0 f1 f3 f4 f5
    refine ⟨_, rfl, go_of (s := { s with heap := h', toks := tk }) (n := "range_iterator") st' rfl rfl (by decide) ⟨.int (lo + i), H, I1, ⟨t, ?_⟩, ⟨rfl, rfl⟩, st', fun b hb => (hf b hb).1⟩⟩
    rw [Int.mul_one]
  done := by
    intro X hP hw hK hc i pins s σ H E I hf st hg
    subst hP hw hK
    obtain ⟨f0, f1, f2, f3, f4, f5⟩ := hf it (by simp)
    exact wpAny_pyNext_range_end (I.ok.hd hc) st (by have : n ≤ i := hg; omega) fun h' eb => ⟨rfl, I.turned (t' := s.toks) (fun b o hb e => eb b o hb e) f0 f1 f3 f4 f5⟩
  self := fun _ _ _ _ _ st h => wpAny_pyIter_rangeiter st h
end L2

namespace L2
open PySem PySem.Spec PyProof.Rows
section
variable {X : Cx} {tg : Expr}
noncomputable def iList (K : PySem.W.Frag) (tl : TE) : TI := fun σ H R => tl σ H fun x H1 => ∃ a, x = .ref a ∧ (∃ xs, SqL K H1 a xs) ∧ R (Itl K a) H1
noncomputable def iTup (K : PySem.W.Frag) (tl : TE) : TI := fun σ H R => tl σ H fun x H1 => ∃ a, x = .ref a ∧ (∃ xs, SqT K H1 a xs) ∧ R (Itt K a) H1
theorem pi_list {l : Expr} {tl : TE} (hl : PE X l tl) : PI X tg l (iList X.K tl) := by
  intro pins s σ H R I h
  refine thn (hl pins s σ H _ I h) fun v s1 ⟨x, H1, I1, r1, q1⟩ => ?_
  obtain ⟨a, e, ⟨xs, hq⟩, q⟩ := q1
  subst e
  cases r1
  obtain ⟨its, rv, p, hz⟩ := I1.list hq
  refine wpAny_pyIter_list p.isList ?_
  refine ⟨s1.heap.objs.size, [s1.heap.objs.size], _, _, H1, rfl, I1.kept (t' := s1.toks) fun b o e => Heap.get?_push_of_some _ e, turn_list a _, ⟨_, Heap.get?_push_size _ rfl, rfl, rfl⟩, fun b hb => ?_, q⟩
  have e : b = s1.heap.objs.size := by simpa using hb
  subst e
  exact I1.fpOk (Nat.le_refl _) (I1.hok.fresh (Nat.le_refl _))
theorem pi_tup {l : Expr} {tl : TE} (hl : PE X l tl) : PI X tg l (iTup X.K tl) := by
  intro pins s σ H R I h
  refine thn (hl pins s σ H _ I h) fun v s1 ⟨x, H1, I1, r1, q1⟩ => ?_
  obtain ⟨a, e, ⟨xs, hq⟩, q⟩ := q1
  subst e
  cases r1
  obtain ⟨its, rv, p, hz⟩ := I1.tuple hq
  refine wpAny_pyIter_tuple (show s1.heap.IsTuple a its.toArray from p) ?_
  refine ⟨s1.heap.objs.size, [s1.heap.objs.size], _, _, H1, rfl, I1.kept (t' := s1.toks) fun b o e => Heap.get?_push_of_some _ e, turn_tuple a _, ⟨_, Heap.get?_push_size _ rfl, rfl, rfl⟩, fun b hb => ?_, q⟩
  have e : b = s1.heap.objs.size := by simpa using hb
  subst e
  exact I1.fpOk (Nat.le_refl _) (I1.hok.fresh (Nat.le_refl _))
theorem range_it {pins : List (Addr × Obj)} {σ : St} {H : Hp} {s : Shared} {R : It → Hp → Prop} {E : Value → Shared → Prop} {lo hi : Int} {t u v : Tok} {tk : Nat} (I : Inv X pins σ H s) (h1 : -(2 ^ 62) ≤ lo) (h2 : lo < 2 ^ 62) (h3 : -(2 ^ 62) ≤ hi) (h4 : hi < 2 ^ 62)
    (q : R (Itr lo (hi - lo).toNat) H) : wpAny (model X.prog X.w) X.A (pyIter (.ref s.heap.objs.size)) (PIE X pins σ tg R) E { s with heap := s.heap.push { cls := .type "range", data := .fields #[.int lo t, .int hi u, .int 1 v] }, toks := tk } := by
  refine wpAny_pyIter_range (IsRange.new ..) (small_one h1 h2 h3 h4) ?_
  have I1 : Inv X pins σ H { s with heap := s.heap.push { cls := .type "range", data := .fields #[.int lo t, .int hi u, .int 1 v] }, toks := tk } := I.kept fun b o e => Heap.get?_push_of_some _ e
  refine ⟨(s.heap.push { cls := .type "range", data := .fields #[.int lo t, .int hi u, .int 1 v] }).objs.size, [(s.heap.push { cls := .type "range", data := .fields #[.int lo t, .int hi u, .int 1 v] }).objs.size], _, _, H, rfl,
    I1.kept (t' := tk) fun b o e => Heap.get?_push_of_some _ e, turn_range _ lo (hi - lo).toNat, ?_, fun b hb => ?_, q⟩
  · have e1 : lo + ((0 : Nat) : Int) * 1 = lo := by simp
    have e2 : (((hi - lo).toNat : Nat) : Int) - ((0 : Nat) : Int) = Builtin.Range.rangeSize lo hi 1 := by rw [rangeSize_one]; split <;> omega
    show IsRangeIter _ _ (lo + ((0 : Nat) : Int) * 1) ((((hi - lo).toNat : Nat) : Int) - ((0 : Nat) : Int)) 1
    rw [e1, e2]
    exact Heap.get?_push_size _ rfl
  · have e : b = (s.heap.push { cls := .type "range", data := .fields #[.int lo t, .int hi u, .int 1 v] }).objs.size := by simpa using hb
    subst e
    exact I1.fpOk (Nat.le_refl _) (I1.hok.fresh (Nat.le_refl _))
noncomputable def iRng1 (ta : TA) : TI := fun σ H R => ta σ H fun vs H1 => ∃ j : Int, vs = [.int j] ∧ -(2 ^ 62) ≤ j ∧ j < 2 ^ 62 ∧ R (Itr 0 j.toNat) H1
noncomputable def iRng2 (ta : TA) : TI := fun σ H R => ta σ H fun vs H1 => ∃ i j : Int, vs = [.int i, .int j] ∧ (-(2 ^ 62) ≤ i ∧ i < 2 ^ 62 ∧ -(2 ^ 62) ≤ j ∧ j < 2 ^ 62) ∧ R (Itr i (j - i).toNat) H1
theorem pi_range1 {a : Expr} {ta : TA} {p pos : Pos} (hg : Gl X "range") (hm : X.mg "range" = none) (ha : PA X [a] ta) (hs : starEach [a] X.env = [(false, eval a X.env)] := by rfl) : PI X tg (.Call (.Name "range" p) [a] [] pos) (iRng1 ta) := by
  intro pins s σ H R I h
  refine Call_ (ld_blt I hg hm boot_range (PyProof.Rows.callWith_type1 (thn (ha pos pins s σ H _ I h) fun us s1 ⟨vs, H1, I1, r1, q1⟩ => ?_) hs rfl))
  obtain ⟨j, e, q1, q2, q⟩ := q1
  subst e
  cases r1 with
  | cons r rr =>
    cases rr
    obtain ⟨t, rfl⟩ := r
    exact call_range_1 (range_it I1 (by omega) (by omega) q1 q2 (by simpa using q))
theorem pi_range2 {a b : Expr} {ta : TA} {p pos : Pos} (hg : Gl X "range") (hm : X.mg "range" = none) (ha : PA X [a, b] ta) (hs : starEach [a, b] X.env = [(false, eval a X.env), (false, eval b X.env)] := by rfl) (hs2 : starEach [b] X.env = [(false, eval b X.env)] := by rfl) :
    PI X tg (.Call (.Name "range" p) [a, b] [] pos) (iRng2 ta) := by
  intro pins s σ H R I h
  refine Call_ (ld_blt I hg hm boot_range (PyProof.Rows.callWith_type1 (thn (ha pos pins s σ H _ I h) fun us s1 ⟨vs, H1, I1, r1, q1⟩ => ?_) (by rw [hs, hs2]) (by rw [hs2]; rfl)))
  obtain ⟨i, j, e, ⟨q1, q2, q3, q4⟩, q⟩ := q1
  subst e
  cases r1 with
  | cons r rr =>
    cases rr with
    | cons r' rr =>
      cases rr
      obtain ⟨t, rfl⟩ := r
      obtain ⟨t', rfl⟩ := r'
      exact call_range_2 (range_it I1 q1 q2 q3 q4 q)

/-! ### for -/
noncomputable def tFor (wi : TI) (g : TG) (tb : TS) : TS := fun D σ H => wi σ H fun J H1 => ∃ W : Nat → Nat → St → Hp → Prop, (∃ m, W 0 m σ H1) ∧ ∀ i m σ H, W i m σ H →
  (J.stop i H ∧ D.nx σ H) ∨ (J.go i H ∧ ∃ N : St → Hp → Prop, (∀ σ' H', N σ' H' → ∃ m', m' < m ∧ W (i + 1) m' σ' H') ∧ ∀ x H', J.yld i H x H' → g x σ H' fun σ2 H2 => tb { D with nx := N, ct := N, bk := D.nx } σ2 H2)
noncomputable def pinsAt (fp : List Addr) (h : Heap) : List (Addr × Obj) := fp.filterMap fun b => (h.get? b).map fun o => (b, o)
theorem mem_pinsAt {fp : List Addr} {h : Heap} {b : Addr} {o : Obj} (hb : b ∈ fp) (e : h.get? b = some o) : (b, o) ∈ pinsAt fp h := List.mem_filterMap.mpr ⟨b, hb, by rw [e]; rfl⟩
theorem of_pinsAt {fp : List Addr} {h : Heap} {p : Addr × Obj} (hp : p ∈ pinsAt fp h) : p.1 ∈ fp ∧ h.get? p.1 = some p.2 := by
  obtain ⟨b, hb, e⟩ := List.mem_filterMap.mp hp
  cases q : h.get? b with
  | none => rw [q] at e; cases e
  | some o =>
    rw [q] at e
    have e' : (b, o) = p := Option.some.inj e
    subst e'
    exact ⟨hb, q⟩
theorem Inv.pinned {pins : List (Addr × Obj)} {σ : St} {H : Hp} {s : Shared} {fp : List Addr} (I : Inv X pins σ H s) (hf : ∀ b ∈ fp, FpOk X pins H b) (ho : ∀ b ∈ fp, ∃ o, s.heap.get? b = some o ∧ ∀ v, o.data ≠ .cell v) : Inv X (pins ++ pinsAt fp s.heap) σ H s :=
  I.pins_of fun p hp => (List.mem_append.mp hp).elim (fun z => I.pin p (List.mem_append_right _ z)) fun z => by
    obtain ⟨hb, e⟩ := of_pinsAt z
    obtain ⟨f0, f1, f2, _⟩ := hf p.1 hb
    obtain ⟨o, e', d⟩ := ho p.1 hb
    rw [e] at e'; cases e'
    exact ⟨e, f0, f1, f2, d⟩
theorem Inv.unpinned {pins pl : List (Addr × Obj)} {σ : St} {H : Hp} {s : Shared} (I : Inv X (pins ++ pl) σ H s) : Inv X pins σ H s := I.pins_of fun p hp => I.pin p (List.mem_append_right _ (List.mem_append_left _ hp))
theorem ps_for {iter : Expr} {body : List Stmt} {wi : TI} {g : TG} {tb : TS} {pos : Pos} (hp : PassesOwn (model X.prog X.w) X.A X.env X.xe) (hc : X.calm = true) (hi : PI X tg iter wi) (hg : PG X tg g) (hb : PSs X body tb)
    (hs : ∀ x, foldedSetIterable iter X.env x = pure x := by intro _; rfl) : PS X (.For tg iter body [] pos) (tFor wi g tb) := by
  intro pins s σ H D I h
  refine wpAny_For (thn (hi pins s σ H _ I h) fun v s1 h1 => thn h1 fun itv s2 h2 => ?_) hs
  obtain ⟨it, fp, tn, J, H2, e, I2, T, st2, f2, W, ⟨m0, w0⟩, turn⟩ := h2
  subst e
  -- what stays true of the iterator's objects through the loop
  have stat : ∀ {H' : Hp}, (∀ b ∈ fp, H' b = none) → ∀ b ∈ fp, FpOk X pins H' b := fun hn b hb => ⟨hn b hb, (f2 b hb).2⟩
  refine codeAny_forLoop_any (fun n s' => ∃ i σ' H', Inv X pins σ' H' s' ∧ tn i s'.heap ∧ (∀ b ∈ fp, H' b = none) ∧ W i n σ' H') ?_ m0 ⟨0, σ, H2, I2, st2, fun b hb => (f2 b hb).1, w0⟩
  rintro n s3 ⟨i, σ3, H3, I3, st3, fr3, w3⟩
  rcases turn i n σ3 H3 w3 with ⟨stop, qn⟩ | ⟨go, N, hN, step⟩
  · refine wpAny_passesOwn hp (thn (T.done X rfl rfl rfl hc i pins s3 σ3 H3 X.xe I3 (stat fr3) st3 stop) fun r s4 ⟨hr, I4⟩ => ?_)
    subst hr
    exact wpAny_execs_nil ⟨σ3, H3, I4, qn⟩
  · refine wpAny_passesOwn hp (thn (T.item X rfl rfl rfl hc i pins s3 σ3 H3 X.xe I3 (stat fr3) st3 go) fun r s4 ⟨u, hr, h4⟩ => ?_)
    subst hr
    refine wpAny_passesOwn hp (thn h4 fun _ s5 ⟨x, H5, I5, r5, y5, st5, fr5⟩ => ?_)
    have I5' := I5.pinned (stat fr5) (T.obj _ _ st5)
    refine wpAny_passesOwn hp (thn (hg _ s5 σ3 H5 x u _ I5' r5 (step x H5 y5)) fun _ s6 ⟨σ6, H6, I6, q6⟩ => ?_)
    refine wpAny_passesOwn hp (thn (hb _ s6 σ6 H6 _ I6 q6) fun f s7 q7 => ?_)
    have again : ∀ {σ7 : St} {H7 : Hp}, Inv X (pins ++ pinsAt fp s5.heap) σ7 H7 s7 → N σ7 H7 → ∃ m, m < n ∧ ∃ i σ' H', Inv X pins σ' H' s7 ∧ tn i s7.heap ∧ (∀ b ∈ fp, H' b = none) ∧ W i m σ' H' := fun {σ7 H7} I7 n7 => by
      obtain ⟨m', hm, w7⟩ := hN σ7 H7 n7
      refine ⟨m', hm, i + 1, σ7, H7, I7.unpinned, T.keep _ _ _ st5 fun b hb o e => (I7.pin (b, o) (List.mem_append_right _ (List.mem_append_right _ (mem_pinsAt hb e)))).1, fun b hb => ?_, w7⟩
      obtain ⟨o, e, d⟩ := T.obj _ _ st5 b hb
      exact (I7.pin (b, o) (List.mem_append_right _ (List.mem_append_right _ (mem_pinsAt hb e)))).2.1
    cases f with
    | next => obtain ⟨σ7, H7, I7, n7⟩ := q7; exact again I7 n7
    | cont => obtain ⟨σ7, H7, I7, n7⟩ := q7; exact again I7 n7
    | brk => obtain ⟨σ7, H7, I7, q7⟩ := q7; exact ⟨σ7, H7, I7.unpinned, q7⟩
    | ret v => obtain ⟨x7, σ7, H7, I7, r7, q7⟩ := q7; exact ⟨x7, σ7, H7, I7.unpinned, r7, q7⟩
end

/-! ### the forms one uses -/
end L2

namespace L2
open PySem PySem.Spec PyProof.Rows

noncomputable abbrev R2 := V → V → Hp → VK → Prop
noncomputable def OpR (X : Cx) (f : Value → Value → Sem Value) (r : R2) : Prop :=
  ∀ (pins : List (Addr × Obj)) (s : Shared) (σ : St) (H : Hp) (x y : V) (v u : Value) (Q : VK), Inv X pins σ H s → RelV x v → RelV y u → r x y H Q →
    wpAny (model X.prog X.w) X.A (f v u) (EP X pins σ Q) X.xe s
noncomputable def UnR (X : Cx) (f : Value → Sem Value) (r : V → Hp → VK → Prop) : Prop :=
  ∀ (pins : List (Addr × Obj)) (s : Shared) (σ : St) (H : Hp) (x : V) (v : Value) (Q : VK), Inv X pins σ H s → RelV x v → r x H Q →
    wpAny (model X.prog X.w) X.A (f v) (EP X pins σ Q) X.xe s
noncomputable def CallR (X : Cx) (f : Value) (r : List V → Hp → VK → Prop) : Prop :=
  ∀ (pins : List (Addr × Obj)) (s : Shared) (σ : St) (H : Hp) (xs : List V) (us : List Value) (Q : VK), Inv X pins σ H s → Vals xs us → r xs H Q →
    wpAny (model X.prog X.w) X.A (call f us) (EP X pins σ Q) X.xe s
noncomputable def TruR (X : Cx) (r : V → Hp → (Bool → Hp → Prop) → Prop) : Prop :=
  ∀ (pins : List (Addr × Obj)) (s : Shared) (σ : St) (H : Hp) (x : V) (v : Value) (Q : Bool → Hp → Prop), Inv X pins σ H s → RelV x v → r x H Q →
    wpAny (model X.prog X.w) X.A (truthy v) (TP X pins σ Q) X.xe s

noncomputable def tOp (r : R2) (ta tb : TE) : TE := fun σ H Q => ta σ H fun x H1 => tb σ H1 fun y H2 => r x y H2 Q
noncomputable def tUn (r : V → Hp → VK → Prop) (ta : TE) : TE := fun σ H Q => ta σ H fun x H1 => r x H1 Q
noncomputable def rI (C : Int → Int → Prop) (g : Int → Int → V) : R2 := fun x y H Q => ∃ i j, x = .int i ∧ y = .int j ∧ C i j ∧ Q (g i j) H
noncomputable def rI0 (g : Int → Int → V) : R2 := fun x y H Q => ∃ i j, x = .int i ∧ y = .int j ∧ Q (g i j) H
noncomputable def rU (g : Int → V) : V → Hp → VK → Prop := fun x H Q => ∃ i, x = .int i ∧ Q (g i) H

section
variable {X : Cx} {a b c : Expr} {ta tb tc : TE} {pos : Pos}

theorem binT (ha : PE X a ta) (hb : PE X b tb) {pins : List (Addr × Obj)} {s : Shared} {σ : St} {H : Hp} {R : V → V → Hp → Prop} (I : Inv X pins σ H s)
    (h : ta σ H fun x H1 => tb σ H1 fun y H2 => R x y H2) {Q : Value → Shared → Prop} {f : Value → Value → Sem Value}
    (hf : ∀ v u s2 x y H2, Inv X pins σ H2 s2 → RelV x v → RelV y u → R x y H2 → wpAny (model X.prog X.w) X.A (f v u) Q X.xe s2) :
    wpAny (model X.prog X.w) X.A (eval a X.env) (fun v s₁ => wpAny (model X.prog X.w) X.A (eval b X.env) (fun u s₂ => wpAny (model X.prog X.w) X.A (f v u) Q X.xe s₂) X.xe s₁) X.xe s := by
  refine thn (ha pins s σ H _ I h) fun v s1 ⟨x, H1, I1, r1, q1⟩ => ?_
  refine thn (hb pins s1 σ H1 _ I1 q1) fun u s2 ⟨y, H2, I2, r2, q2⟩ => ?_
  exact hf v u s2 x y H2 I2 r1 r2 q2

theorem pe_op {op : Operator} {r : R2} (ho : OpR X (binaryOp op) r) (ha : PE X a ta) (hb : PE X b tb) : PE X (.BinOp a op b pos) (tOp r ta tb) := by
  intro pins s σ H Q I h
  exact wpAny_BinOp (binT ha hb I h fun v u s2 x y H2 I2 rx ry q => ho pins s2 σ H2 x y v u Q I2 rx ry q)
theorem pe_un {op : UnaryOp} {r : V → Hp → VK → Prop} (ho : UnR X (unaryOp op) r) (ha : PE X a ta) : PE X (.UnaryOp op a pos) (tUn r ta) := by
  intro pins s σ H Q I h
  exact UnaryOp_ (thn (ha pins s σ H _ I h) fun v s1 ⟨x, H1, I1, r1, q1⟩ => ho pins s1 σ H1 x v Q I1 r1 q1)

/-! ### ints -/
theorem opI {f : Value → Value → Sem Value} {C : Int → Int → Prop} {g : Int → Int → Int}
    (rule : ∀ (i j : Int) (t u : Tok) (s : Shared) (Q : Value → Shared → Prop) (E : Value → Shared → Prop), C i j → Q (.int (g i j) s.toks) { s with toks := s.toks + 1 } → wpAny (model X.prog X.w) X.A (f (.int i t) (.int j u)) Q E s) :
    OpR X f (rI C fun i j => .int (g i j)) := by
  intro pins s σ H x y v u Q I rx ry h
  obtain ⟨i, j, rfl, rfl, hc, q⟩ := h
  obtain ⟨t, rfl⟩ := rx
  obtain ⟨t', rfl⟩ := ry
  exact rule i j t t' s _ _ hc ⟨.int (g i j), H, I.tok _, ⟨_, rfl⟩, q⟩
theorem opI0 {f : Value → Value → Sem Value} {g : Int → Int → Int}
    (rule : ∀ (i j : Int) (t u : Tok) (s : Shared) (Q : Value → Shared → Prop) (E : Value → Shared → Prop), Q (.int (g i j) s.toks) { s with toks := s.toks + 1 } → wpAny (model X.prog X.w) X.A (f (.int i t) (.int j u)) Q E s) :
    OpR X f (rI0 fun i j => .int (g i j)) := by
  intro pins s σ H x y v u Q I rx ry h
  obtain ⟨i, j, rfl, rfl, q⟩ := h
  obtain ⟨t, rfl⟩ := rx
  obtain ⟨t', rfl⟩ := ry
  exact rule i j t t' s _ _ ⟨.int (g i j), H, I.tok _, ⟨_, rfl⟩, q⟩
theorem opB0 {f : Value → Value → Sem Value} {g : Int → Int → Bool}
    (rule : ∀ (i j : Int) (t u : Tok) (s : Shared) (Q : Value → Shared → Prop) (E : Value → Shared → Prop), Q (.bool (g i j)) s → wpAny (model X.prog X.w) X.A (f (.int i t) (.int j u)) Q E s) :
    OpR X f (rI0 fun i j => .bl (g i j)) := by
  intro pins s σ H x y v u Q I rx ry h
  obtain ⟨i, j, rfl, rfl, q⟩ := h
  obtain ⟨t, rfl⟩ := rx
  obtain ⟨t', rfl⟩ := ry
  exact rule i j t t' s _ _ ⟨.bl (g i j), H, I, rfl, q⟩

noncomputable def CDiv (i j : Int) : Prop := 0 < j ∧ j < 1073741824
noncomputable def CDivN (i j : Int) : Prop := j ≠ 0 ∧ j.natAbs < 1073741824
noncomputable def CPow (i j : Int) : Prop := 0 ≤ j ∧ j ≤ 1000000 ∧ i.natAbs < 2 ^ 64
noncomputable def CMul (i j : Int) : Prop := (-(2 ^ 64) < i ∧ i < 2 ^ 64) ∨ (-(2 ^ 64) < j ∧ j < 2 ^ 64)
theorem CMul.ok {i j : Int} (h : CMul i j) : IntMulOk i j := by
  rcases h with ⟨h1, h2⟩ | ⟨h1, h2⟩
  · exact .of_left (intBits_le_64 h1 h2)
  · exact .of_right (intBits_le_64 h1 h2)

theorem op_add : OpR X (binaryOp .Add) (rI0 fun i j => .int (i + j)) := opI0 fun _ _ _ _ _ _ _ q => add_int q
theorem op_sub : OpR X (binaryOp .Sub) (rI0 fun i j => .int (i - j)) := opI0 fun _ _ _ _ _ _ _ q => sub_int q
theorem op_mul : OpR X (binaryOp .Mult) (rI CMul fun i j => .int (i * j)) := opI fun _ _ _ _ _ _ _ hc q => mul_int q hc.ok
theorem op_fdiv : OpR X (binaryOp .FloorDiv) (rI CDiv fun i j => .int (i / j)) := opI fun i j _ _ _ _ _ hc q => by
  have h1 : (0 : Int) < j := hc.1
  have h2 : j < 1073741824 := hc.2
  exact floordiv_int (by omega) (by rw [Int.fdiv_eq_ediv_of_nonneg i (by omega)]; exact q) (.inl (PyProof.noPylong_small (by omega)))
theorem op_mod : OpR X (binaryOp .Mod) (rI (fun _ j => 0 < j) fun i j => .int (i % j)) := opI fun i j _ _ _ _ _ hc q => by
  have h1 : (0 : Int) < j := hc
  exact mod_int' (by omega) (by rw [Int.fmod_eq_emod_of_nonneg i (by omega)]; exact q)


theorem unI {f : Value → Sem Value} {g : Int → Int}
    (rule : ∀ (i : Int) (t : Tok) (s : Shared) (Q : Value → Shared → Prop) (E : Value → Shared → Prop), Q (.int (g i) s.toks) { s with toks := s.toks + 1 } → wpAny (model X.prog X.w) X.A (f (.int i t)) Q E s) :
    UnR X f (rU fun i => .int (g i)) := by
  intro pins s σ H x v Q I rx h
  obtain ⟨i, rfl, q⟩ := h
  obtain ⟨t, rfl⟩ := rx
  exact rule i t s _ _ ⟨.int (g i), H, I.tok _, ⟨_, rfl⟩, q⟩
theorem un_neg : UnR X (unaryOp .USub) (rU fun i => .int (-i)) := unI fun _ _ _ _ _ q => neg_int q

/-! ### bools among ints: n += (a < b) -/
end

/-! ### comparisons -/
noncomputable def scal : V → V → Bool
  | .non, .non => true | .non, .int _ => true | .int _, .non => true | .non, .bl _ => true | .bl _, .non => true | .non, .str _ => true | .str _, .non => true
  | .int _, .int _ => true | .bl _, .bl _ => true | .str _, .str _ => true | .byt _, .byt _ => true
  | .int _, .str _ => true | .str _, .int _ => true | .bl _, .str _ => true | .str _, .bl _ => true
  | _, _ => false
noncomputable def rEq : R2 := fun x y H Q => scal x y = true ∧ Q (.bl (decide (x = y))) H
noncomputable def rNe : R2 := fun x y H Q => scal x y = true ∧ Q (.bl (!decide (x = y))) H


section
variable {X : Cx} {a b c : Expr} {ta tb tc : TE} {pos : Pos}
theorem fin_bl {pins : List (Addr × Obj)} {σ : St} {H : Hp} {s : Shared} {Q : VK} {k k' : Bool} (I : Inv X pins σ H s) (q : Q (.bl k) H) (e : k = k') : EP X pins σ Q (.bool k') s := by
  subst e
  exact ⟨.bl k, H, I, rfl, q⟩

theorem op_lt : OpR X (compareOp .Lt) (rI0 fun i j => .bl (decide (i < j))) := opB0 fun _ _ _ _ _ _ _ q => lt_int q
theorem op_le : OpR X (compareOp .LtE) (rI0 fun i j => .bl (decide (i ≤ j))) := opB0 fun _ _ _ _ _ _ _ q => le_int q
theorem op_gt : OpR X (compareOp .Gt) (rI0 fun i j => .bl (decide (j < i))) := opB0 fun _ _ _ _ _ _ _ q => gt_int q
theorem op_ge : OpR X (compareOp .GtE) (rI0 fun i j => .bl (decide (j ≤ i))) := opB0 fun _ _ _ _ _ _ _ q => ge_int q
theorem op_in_str : OpR X (compareOp .In) (fun x y H Q => ∃ i j, x = .str i ∧ y = .str j ∧ Q (.bl (!(Builtin.Str.occurrences j i 0 j.length 1).isEmpty)) H) := by
  intro pins s σ H x y v u Q I rx ry h
  obtain ⟨i, j, rfl, rfl, q⟩ := h
  obtain ⟨t, rfl⟩ := rx
  obtain ⟨t', rfl⟩ := ry
  exact in_str (fin_bl I q rfl)


noncomputable def isObj : HO → Bool
  | .lst _ => true
  | .ins _ _ _ => true
  | _ => false


theorem pe_cmpR {op : CmpOp} {r : R2} (ho : OpR X (compareOp op) r) (ha : PE X a ta) (hb : PE X b tb) (hm : behindInMarks op b = false) : PE X (.Compare a [op] [b] pos) (tOp r ta tb) := by
  intro pins s σ H Q I h
  exact wpAny_Compare1 (binT ha hb I h fun v u s2 x y H2 I2 rx ry q => ho pins s2 σ H2 x y v u Q I2 rx ry q) hm
noncomputable def tTest (t : TE) : TT := fun σ H Q => t σ H fun x H' => ∃ k, x = .bl k ∧ Q k H'
theorem pt_cmpR {op : CmpOp} {r : R2} (ho : OpR X (compareOp op) r) (ha : PE X a ta) (hb : PE X b tb) (hm : behindInMarks op b = false) : PT X (.Compare a [op] [b] pos) (tTest (tOp r ta tb)) := by
  intro pins s σ H Q I h
  refine wpAny_isTrue_Compare1 (thn (ha pins s σ H _ I h) fun v s1 ⟨x, H1, I1, r1, q1⟩ => thn (hb pins s1 σ H1 _ I1 q1) fun u s2 ⟨y, H2, I2, r2, q2⟩ =>
    thn (ho pins s2 σ H2 x y v u _ I2 r1 r2 q2) fun c s3 ⟨z, H3, I3, r3, k, e, q3⟩ => ?_) hm
  subst e
  cases r3
  exact wpAny_truthy_bool ⟨H3, I3, q3⟩
noncomputable def tChain (r r' : R2) (ta tb tc : TE) : TE := fun σ H Q => ta σ H fun x H1 => tb σ H1 fun y H2 => r x y H2 fun z H3 => ∃ k, z = .bl k ∧
  (if k = true then tc σ H3 fun w' H4 => r' y w' H4 Q else Q (.bl false) H3)
theorem pe_chain {op op' : CmpOp} {r r' : R2} (ho : OpR X (compareOp op) r) (ho' : OpR X (compareOp op') r') (ha : PE X a ta) (hb : PE X b tb) (hc : PE X c tc)
    (hm : lastMarks [op, op'] [b, c] = false := by with_unfolding_all rfl) : PE X (.Compare a [op, op'] [b, c] pos) (tChain r r' ta tb tc) := by
  intro pins s σ H Q I h
  refine Compare_chain (thn (ha pins s σ H _ I h) fun v s1 ⟨x, H1, I1, r1, q1⟩ => chain_link (thn (hb pins s1 σ H1 _ I1 q1) fun u s2 ⟨y, H2, I2, r2, q2⟩ =>
    thn (ho pins s2 σ H2 x y v u _ I2 r1 r2 q2) fun d s3 ⟨z, H3, I3, r3, k, e, q3⟩ => ?_)) hm
  subst e
  cases r3
  refine wpAny_truthy_bool ?_
  cases k with
  | false => exact ite_ff ⟨.bl false, H3, I3, rfl, q3⟩
  | true => exact ite_tt (chain_last (thn (hc pins s3 σ H3 _ I3 q3) fun w' s4 ⟨z', H4, I4, r4, q4⟩ => ho' pins s4 σ H4 y z' u w' Q I4 r2 r4 q4))
theorem pt_chain {op op' : CmpOp} {r r' : R2} (ho : OpR X (compareOp op) r) (ho' : OpR X (compareOp op') r') (ha : PE X a ta) (hb : PE X b tb) (hc : PE X c tc)
    (hm : lastMarks [op, op'] [b, c] = false := by with_unfolding_all rfl) : PT X (.Compare a [op, op'] [b, c] pos) (tTest (tChain r r' ta tb tc)) := by
  intro pins s σ H Q I h
  refine isTrue_chain (thn (ha pins s σ H _ I h) fun v s1 ⟨x, H1, I1, r1, q1⟩ => test_link (thn (hb pins s1 σ H1 _ I1 q1) fun u s2 ⟨y, H2, I2, r2, q2⟩ =>
    thn (ho pins s2 σ H2 x y v u _ I2 r1 r2 q2) fun d s3 ⟨z, H3, I3, r3, k, e, q3⟩ => ?_)) hm
  subst e
  cases r3
  refine wpAny_truthy_bool ?_
  cases k with
  | false =>
    obtain ⟨k', e', q'⟩ := q3
    cases e'
    exact ite_ff ⟨H3, I3, q'⟩
  | true =>
    refine ite_tt (test_last (thn (hc pins s3 σ H3 _ I3 q3) fun w' s4 ⟨z', H4, I4, r4, q4⟩ => thn (ho' pins s4 σ H4 y z' u w' _ I4 r2 r4 q4) fun d' s5 ⟨z2, H5, I5, r5, k2, e2, q5⟩ => ?_))
    subst e2
    cases r5
    exact wpAny_truthy_bool ⟨H5, I5, q5⟩

/-! ### truth -/
noncomputable def TruV (K : PySem.W.Frag) (x : V) (H : Hp) (k : Bool) : Prop :=
  match x with
  | .non => k = false
  | .bl b => k = b
  | .int i => k = (i != 0)
  | .str y => y.length ≤ sizeLine ∧ k = ((y.length : Int) != 0)
  | .byt y => y.size ≤ sizeLine ∧ k = ((y.size : Int) != 0)
  | .ref p => (∃ xs, SqL K H p xs ∧ k = !xs.isEmpty) ∨ (∃ xs, SqT K H p xs ∧ k = !xs.isEmpty) ∨ ∃ kvs, H p = some (.dK kvs) ∧ k = !kvs.isEmpty
  | _ => False
theorem line63 : (sizeLine : Nat) < 2 ^ 63 := by rw [sizeLine_eq]; decide

/-! ### strs and bytes -/

noncomputable def PlainIxT (b : Expr) : Prop := ∀ o i, subscripted b false o i = operate [o, i] (getItem o i)

/-! ### scalar builtins, by CallR -/
theorem vals1 {x : V} {us : List Value} (r : Vals [x] us) : ∃ u, us = [u] ∧ RelV x u := by
  cases r with
  | cons r1 r2 => cases r2; exact ⟨_, rfl, r1⟩
theorem call_int1 : CallR X (.type "int") (fun xs H Q => (∃ i, xs = [.int i] ∧ Q (.int i) H) ∨ ∃ k, xs = [.bl k] ∧ Q (.int (if k then 1 else 0)) H) := by
  intro pins s σ H xs us Q I r h
  rcases h with ⟨i, rfl, q⟩ | ⟨k, rfl, q⟩
  · obtain ⟨u, rfl, t, rfl⟩ := vals1 r
    exact call_int_int ⟨.int i, H, I, ⟨_, rfl⟩, q⟩
  · obtain ⟨u, rfl, r1⟩ := vals1 r
    cases r1
    exact call_int_bool ⟨.int (if k then 1 else 0), H, I.tok _, ⟨_, rfl⟩, q⟩
noncomputable def LenV (K : PySem.W.Frag) (x : V) (H : Hp) (n : Nat) : Prop :=
  match x with
  | .str y => y.length ≤ sizeLine ∧ n = y.length
  | .byt y => y.size ≤ sizeLine ∧ n = y.size
  | .ref p => (∃ xs, SqL K H p xs ∧ n = xs.length) ∨ ∃ xs, SqT K H p xs ∧ n = xs.length
  | _ => False
end
end L2

namespace L2
open PySem PySem.Spec PyProof.Rows

/-! ### an instance, its attributes a map -/
structure ObjM (h : Heap) (x dx C : Addr) (mA : Str → Option Value) : Prop where
  obj : h.get? x = some (PySem.W.instObj C dx)
  ns : h.Ns1 dx mA
  ne : dx ≠ x

theorem lookIn_ns {h : Heap} {dx : Addr} {mA : Str → Option Value} (n : h.Ns1 dx mA) : ∃ od, h.get? dx = some od ∧ ∀ name, PySem.W.lookIn name od = some (mA name) := by
  obtain ⟨o, es, ep, ho, hd, hk, _, hm⟩ := n
  refine ⟨o, ho, fun name => ?_⟩
  have e := hm name
  unfold nsFind findBy at e
  rw [← Array.find?_toList] at e
  unfold PySem.W.lookIn
  rw [hd]
  dsimp only
  split
  · rename_i y q
    rw [q] at e
    exact congrArg some e
  · rename_i q
    rw [q] at e
    have a : es.toList.any (·.refKey) = false := by
      rw [List.any_eq_false]
      intro y hy
      obtain ⟨z, t, hkey⟩ := hk y (Array.mem_toList_iff.mp hy)
      simp [DictEntry.refKey, hkey]
    have a' : ¬ es.toList.any (·.refKey) = true := by rw [a]; exact Bool.false_ne_true
    rw [if_neg a']
    exact congrArg some e

theorem ObjM.look {h : Heap} {x dx C : Addr} {mA : Str → Option Value} (I : ObjM h x dx C mA) : ∃ od, PySem.W.InstAt h x (PySem.W.instObj C dx) C (some od) ∧ ∀ name, PySem.W.lookIn name od = some (mA name) :=
  let ⟨od, ho, hl⟩ := lookIn_ns I.ns
  ⟨od, ⟨I.obj, rfl, rfl, ho⟩, hl⟩

section
variable {prog : Program} {w : World} {A : Around} {E : Value → Shared → Prop} {s : Shared} {K : PySem.W.Frag} {x dx C f : Addr} {mA : Str → Option Value} {name : Str} {v : Value}

theorem get_map {expr : Bool} {Q : Value → Shared → Prop} (X : K.In s.heap) (I : ObjM s.heap x dx C mA) (hg : PySem.W.plainGet K C name = true) (hh : PySem.W.hasDictIn K C = true)
    (ha : PySem.W.findIn K (.ref C) name = some none) (hv : mA name = some v) (hv' : PySem.W.handedIn v = true) (h : Q v { s with toks := s.toks + 1 }) :
    wpAny (model prog w) A (getAttr (.ref x) name expr) Q E s := by
  obtain ⟨od, J, hl⟩ := I.look
  exact PySem.W.get_value X J (PySem.W.plainGet_of hg).1 (PySem.W.findObj_own hh ha rfl (by rw [hl, hv])) hv' h


theorem get_meth {pl : Sem Bool} {Q : Value × List Value → Shared → Prop} (X : K.In s.heap) (I : ObjM s.heap x dx C mA) (hg : PySem.W.plainGet K C name = true)
    (hf : PySem.W.findIn K (.ref C) name = some (some (.ref f))) (ht : PySem.W.isFn K (.ref f) = true) (hv : mA name = none) (h : Q (.ref f, [.ref x]) s) :
    wpAny (model prog w) A (getMethod (.ref x) name pl) Q E s := by
  obtain ⟨od, J, hl⟩ := I.look
  exact PySem.W.method_fn X J (PySem.W.plainGet_of hg).1 (PySem.W.plainGet_of hg).2 hf (beq_iff_eq.mp ht) (by show (PySem.W.lookIn name od).map (·.isSome) = some false; rw [hl, hv]; rfl) h

theorem set_map {ns : List Str} {Q : Unit → Shared → Prop} (X : K.In s.heap) (I : ObjM s.heap x dx C mA)
    (hs : PySem.W.findIn K (.ref C) "__setattr__" = some (some (.builtin "object.__setattr__"))) (hp : PySem.W.plainOver K C = true) (ht : PySem.W.takerIn K C name = some none) (hh : PySem.W.hasDictIn K C = true)
    (hw : PySem.Within mA ns) (hsz : ns.length ≤ sizeLine)
    (h : ∀ h', ObjM h' x dx C (fun y => if y = name then some v else mA y) → Heap.SameBut dx s.heap h' → Q () { s with heap := h', toks := s.toks + 2 }) :
    wpAny (model prog w) A (setAttr (.ref x) name v) Q E s := by
  obtain ⟨od, J, hl⟩ := I.look
  refine PySem.W.set_plain X J hs (PySem.W.osa_open (s := { s with toks := s.toks + 1 }) (r := none) X J hp ht fun b => ?_)
  obtain ⟨cd, hc, hd'⟩ := PySem.W.any_some hh
  have hx : s.heap.get? x = some ⟨.ref C, some dx, .plain, #[]⟩ := I.obj
  refine wpAny_bind (wpAny_pure (wpAny_bind (wpAny_bind (wpAny_loadPart hx (wpAny_bind (PySem.W.Looks.here (s := { s with toks := s.toks + 1 }) (PySem.W.looks_clsIn X hc) ?_))))))
  rw [hd']
  refine wpAny_pure (a := some dx) (wpAny_bind (wpAny_pure (wpAny_bind ?_)))
  refine wpAny_nsSet1 (s := { s with toks := s.toks + 1 }) I.ns fun h' hn2 hs2 => ?_
  obtain ⟨oD, esD, epD, hoD, hdD, hcD⟩ := hn2.count (PySem.Within.cons name v hw)
  refine wpAny_bind (wpAny_lookBehind hoD (by rw [hdD]; exact pastItsLine_dict (Nat.le_trans hcD (by rw [List.length_cons]; omega))) ?_)
  exact wpAny_pure (h _ ⟨(hs2.2 _ (Ne.symm I.ne)).trans I.obj, hn2, I.ne⟩ hs2)

theorem make_map {R : Result → Shared → Prop} {vs : List Value} {kw : List (Str × Value)} (X : K.In s.heap) (hm : PySem.W.makesIn K C = true)
    (hi : PySem.W.findIn K (.ref C) "__init__" = some (some (.ref f))) (hf : PySem.W.typeIn K (.ref f) = some (.type "function"))
    (h : codeAny (model prog w) (A.under (.builtin "type.__call__" ⟨.ref C :: vs, kw⟩)) (.call (.ref f) ⟨.ref (s.heap.objs.size + 1) :: vs, kw⟩) (PySem.W.InitBack (s.heap.objs.size + 1) R)
      { s with heap := (s.heap.push PySem.W.emptyDict).push (PySem.W.instObj C s.heap.objs.size) }) :
    codeAny (model prog w) A (.call (.ref C) ⟨vs, kw⟩) R s := by
  obtain ⟨hh, g, d, t, os⟩ := s
  exact PySem.W.make_core (PySem.W.makes_of X hm) (PySem.W.looks_findIn X hi) (fun self => PySem.W.bind_fn X self hf) (.inl rfl) h
end

/-! ### the attributes as a list of pairs -/
noncomputable def putF (f : Str) (v : V) : List (Str × V) → List (Str × V)
  | [] => [(f, v)]
  | (g, x) :: r => if g = f then (g, v) :: r else (g, x) :: putF f v r
theorem lookup_putF (f g : Str) (v : V) : ∀ fs : List (Str × V), (putF f v fs).lookup g = if g = f then some v else fs.lookup g
  | [] => by
    show List.lookup g [(f, v)] = _
    by_cases h : g = f
    · have hb : (g == f) = true := beq_iff_eq.mpr h
      simp only [List.lookup, hb, if_pos h]
    · have hb : (g == f) = false := beq_eq_false_iff_ne.mpr h
      simp only [List.lookup, hb, if_neg h]
  | (k, x) :: r => by
    have ih := lookup_putF f g v r
    rw [show putF f v ((k, x) :: r) = (if k = f then (k, v) :: r else (k, x) :: putF f v r) from rfl]
    by_cases hk : k = f
    · rw [if_pos hk]
      by_cases h : g = k
      · have hb : (g == k) = true := beq_iff_eq.mpr h
        simp only [List.lookup, hb, if_pos (h.trans hk)]
      · have hb : (g == k) = false := beq_eq_false_iff_ne.mpr h
        simp only [List.lookup, hb, if_neg (fun e : g = f => h (e.trans hk.symm))]
    · rw [if_neg hk]
      by_cases h : g = k
      · have hb : (g == k) = true := beq_iff_eq.mpr h
        simp only [List.lookup, hb, if_neg (fun e : g = f => hk (h.symm.trans e))]
      · have hb : (g == k) = false := beq_eq_false_iff_ne.mpr h
        simp only [List.lookup, hb]
        exact ih
theorem keys_putF (f : Str) (v : V) : ∀ fs : List (Str × V), f ∈ (putF f v fs).map (·.1) ∧ ∀ g, g ∈ fs.map (·.1) → g ∈ (putF f v fs).map (·.1)
  | [] => ⟨by simp [putF], fun g h => by simp at h⟩
  | (k, x) :: r => by
    obtain ⟨i1, i2⟩ := keys_putF f v r
    rw [show putF f v ((k, x) :: r) = (if k = f then (k, v) :: r else (k, x) :: putF f v r) from rfl]
    by_cases hk : k = f
    · rw [if_pos hk]
      subst hk
      exact ⟨by simp, fun g h => by simpa using h⟩
    · rw [if_neg hk]
      refine ⟨?_, fun g h => ?_⟩
      · rw [List.map_cons]
        exact List.mem_cons_of_mem _ i1
      · rw [List.map_cons] at h ⊢
        rcases List.mem_cons.mp h with e | e
        · exact List.mem_cons.mpr (.inl e)
        · exact List.mem_cons_of_mem _ (i2 g e)
theorem length_putF (f : Str) (v : V) : ∀ fs : List (Str × V), (putF f v fs).length ≤ fs.length + 1
  | [] => by simp [putF]
  | (k, x) :: r => by
    have ih := length_putF f v r
    rw [show putF f v ((k, x) :: r) = (if k = f then (k, v) :: r else (k, x) :: putF f v r) from rfl]
    by_cases hk : k = f
    · rw [if_pos hk, List.length_cons, List.length_cons]; omega
    · rw [if_neg hk, List.length_cons, List.length_cons]; omega

theorem RelO.some_of {v : V} {o : Option Value} (r : RelO (some v) o) : ∃ u, o = some u ∧ RelV v u := by
  cases o with
  | none => exact (show False from r).elim
  | some u => exact ⟨u, rfl, r⟩
theorem RelO.none_of {o : Option Value} (r : RelO none o) : o = none := by
  cases o with
  | none => rfl
  | some u => exact (show False from r).elim
theorem handed_of {v : V} {u : Value} (r : RelV v u) : PySem.W.handedIn u = true := by
  cases v with
  | non => cases (show u = Value.none from r); rfl
  | bl b => cases (show u = Value.bool b from r); rfl
  | int i => obtain ⟨t, e⟩ := (show ∃ t, u = Value.int i t from r); cases e; rfl
  | str x => obtain ⟨t, e⟩ := (show ∃ t, u = Value.str x t from r); cases e; rfl
  | byt b => obtain ⟨t, e⟩ := (show ∃ t, u = Value.bytes b t from r); cases e; rfl
  | flt b => obtain ⟨t, e⟩ := (show ∃ t, u = Value.float b t from r); cases e; rfl
  | ref a => cases (show u = Value.ref a from r); rfl
  | ty n => cases (show u = Value.type n from r); rfl

section
variable {P : Program} {w : World} {H H' : Hp} {h h' : Heap} {a C dx : Addr} {fs fs' : List (Str × V)}
theorem ins_get (hok : HOk P w H h) (e : H a = some (.ins C dx fs)) : ∃ mA, ObjM h a dx C mA ∧ (∀ f, RelO (fs.lookup f) (mA f)) ∧ PySem.Within mA (fs.map (·.1)) ∧ fs.length ≤ 1000 ∧ H dx = some (.own a) := by
  obtain ⟨d, z, ne, ob, mA, n, r, q⟩ := (show ObjOk P w H h a (.ins C dx fs) from hok a _ e)
  exact ⟨mA, ⟨ob, n, ne⟩, r, q, z, d⟩
end

/-! ### what of the text a class must have -/
structure Cls (K : PySem.W.Frag) (C : Addr) : Prop where
  pg : PySem.W.plainGet K C Str.empty = true
  hd : PySem.W.hasDictIn K C = true
  po : PySem.W.plainOver K C = true
  sa : PySem.W.findIn K (.ref C) "__setattr__" = some (some (.builtin "object.__setattr__"))
theorem Cls.get {K : PySem.W.Frag} {C : Addr} (c : Cls K C) (f : Str) : PySem.W.plainGet K C f = true := c.pg
noncomputable def NoAttr (K : PySem.W.Frag) (C : Addr) (f : Str) : Prop := PySem.W.findIn K (.ref C) f = some none
theorem NoAttr.taker {K : PySem.W.Frag} {C : Addr} {f : Str} (n : NoAttr K C f) : PySem.W.takerIn K C f = some none := by
  unfold PySem.W.takerIn
  rw [show PySem.W.findIn K (.ref C) f = some none from n]
  rfl
structure Con (K : PySem.W.Frag) (C : Addr) (f : Str) (v : V) (u : Value) : Prop where
  at_ : PySem.W.findIn K (.ref C) f = some (some u)
  rel : RelV v u
  get : PySem.W.specialIn K u "__get__" = some none
  cp : PySem.W.copiedNames.contains f = false
structure Meth (K : PySem.W.Frag) (C : Addr) (m : Str) (f : Addr) : Prop where
  at_ : PySem.W.findIn K (.ref C) m = some (some (.ref f))
  fn : PySem.W.isFn K (.ref f) = true
  kp : PySem.W.keepIn K (.ref f) = true

section
variable {X : Cx} {pins : List (Addr × Obj)} {σ : St} {H : Hp} {s : Shared} {a C dx : Addr} {fs : List (Str × V)} {f : Str} {v : V} {A : Around} {E : Value → Shared → Prop}

theorem getattr_ok {b : Bool} {Q : Value → Shared → Prop} (I : Inv X pins σ H s) (e : H a = some (.ins C dx fs)) (c : Cls X.K C) (n : NoAttr X.K C f) (l : fs.lookup f = some v)
    (h : ∀ u s', Inv X pins σ H s' → RelV v u → Q u s') : wpAny (model X.prog X.w) A (getAttr (.ref a) f b) Q E s := by
  obtain ⟨mA, O, r, _, _, _⟩ := ins_get I.hok e
  obtain ⟨u, hu, ru⟩ := RelO.some_of (v := v) (o := mA f) (by rw [← l]; exact r f)
  exact get_map I.kIn O (c.get f) c.hd n hu (handed_of ru) (h u _ (I.tok _) ru)


theorem getmeth_ok {m : Str} {g : Addr} {pl : Sem Bool} {Q : Value × List Value → Shared → Prop} (I : Inv X pins σ H s) (e : H a = some (.ins C dx fs)) (c : Cls X.K C) (k : Meth X.K C m g) (l : fs.lookup m = none)
    (h : Q (.ref g, [.ref a]) s) : wpAny (model X.prog X.w) A (getMethod (.ref a) m pl) Q E s := by
  obtain ⟨mA, O, r, _, _, _⟩ := ins_get I.hok e
  have hn : mA m = none := RelO.none_of (by rw [← l]; exact r m)
  exact get_meth I.kIn O (c.get m) k.at_ k.fn hn h

theorem setattr_ok {y : V} {u : Value} {Q : Unit → Shared → Prop} (I : Inv X pins σ H s) (e : H a = some (.ins C dx fs)) (c : Cls X.K C) (n : NoAttr X.K C f) (hl : fs.length < 1000) (ry : RelV y u)
    (h : ∀ s', Inv X pins σ (upd H a (.ins C dx (putF f y fs))) s' → Q () s') : wpAny (model X.prog X.w) A (setAttr (.ref a) f u) Q E s := by
  obtain ⟨mA, O, r, wi, _, ho⟩ := ins_get I.hok e
  have hz : (fs.map (·.1)).length ≤ sizeLine := by rw [List.length_map, sizeLine_eq]; omega
  refine set_map I.kIn O c.sa c.po n.taker c.hd wi hz fun h' O' sb => h _ ?_
  have hd : ∃ o, h'.get? dx = some o := let ⟨o, _, _, e', _⟩ := O'.ns; ⟨o, e'⟩
  refine I.write (x := a) (e := dx) (by rw [e]; exact True.intro) (.inr ho) (fun b q hb z => (sb.2 b hb).trans z) hd ?_
  refine ⟨by rw [upd_ne O.ne]; exact ho, ?_, O.ne, O'.obj, _, O'.ns, fun g => ?_, fun g hg => ?_⟩
  · have := length_putF f y fs; omega
  · show RelO ((putF f y fs).lookup g) (if g = f then some u else mA g)
    rw [lookup_putF]
    by_cases q : g = f
    · rw [if_pos q, if_pos q]; exact ry
    · rw [if_neg q, if_neg q]; exact r g
  · by_cases q : g = f
    · rw [q]; exact (keys_putF f y fs).1
    · refine (keys_putF f y fs).2 g (wi g fun z => hg ?_)
      show (if g = f then some u else mA g) = none
      rw [if_neg q]; exact z

theorem Inv.made (I : Inv X pins σ H s) : Inv X pins σ (upd (upd H s.heap.objs.size (.own (s.heap.objs.size + 1))) (s.heap.objs.size + 1) (.ins C s.heap.objs.size []))
    { s with heap := (s.heap.push PySem.W.emptyDict).push (PySem.W.instObj C s.heap.objs.size) } := by
  have e1 : (s.heap.push PySem.W.emptyDict).get? s.heap.objs.size = some PySem.W.emptyDict := Heap.get?_push_size s.heap rfl
  have e2 : ((s.heap.push PySem.W.emptyDict).push (PySem.W.instObj C s.heap.objs.size)).get? (s.heap.objs.size + 1) = some (PySem.W.instObj C s.heap.objs.size) := by
    have := Heap.get?_push_size (s.heap.push PySem.W.emptyDict) (o := PySem.W.instObj C s.heap.objs.size) rfl
    rwa [Heap.size_push] at this
  have e3 : (s.heap.push PySem.W.emptyDict).Ns s.heap.objs.size (fun _ => none) := ⟨PySem.W.emptyDict, #[], _, e1, rfl, (fun e he => absurd he (by simp)), fun _ => rfl⟩
  have I1 := I.laid (a := s.heap.objs.size) (o := .own (s.heap.objs.size + 1)) (h' := s.heap.push PySem.W.emptyDict) (t' := s.toks) (fun b u q => Heap.get?_push_of_some _ q) (Nat.le_refl _) ⟨_, e1⟩
  refine I1.laid (a := s.heap.objs.size + 1) (o := .ins C s.heap.objs.size []) (t' := s.toks) (fun b u q => Heap.get?_push_of_some _ q) (Nat.le_of_eq (Heap.size_push _ _)) ?_
  have ne : s.heap.objs.size ≠ s.heap.objs.size + 1 := Nat.ne_of_lt (Nat.lt_succ_self _)
  refine ⟨by rw [upd_ne ne, upd_same], Nat.zero_le _, ne, e2, fun _ => none, (Heap.Ns1.of_empty e3).at fun o q => Heap.get?_push_of_some _ q, fun _ => True.intro, fun y hy => absurd rfl hy⟩

theorem attr_of {prog : Program} {w : World} {env : Env} {e : Expr} {f : Str} {pos : Pos} {s : Shared} {Q : Value → Shared → Prop} (hb : attributeBase e f env (eval e env) = eval e env)
    (h : wpAny (model prog w) A (eval e env) (fun o s₁ => wpAny (model prog w) A (getAttr o f true) Q E s₁) E s) : wpAny (model prog w) A (eval (.Attribute e f pos) env) Q E s :=
  Attribute_any_ h (by rw [arm_eval_Attribute, hb])
end

/-! ### readings and rules -/
noncomputable def tFld (K : PySem.W.Frag) (ta : TE) (f : Str) : TE := fun σ H Q => ta σ H fun x H1 => ∃ a C dx fs v, x = .ref a ∧ H1 a = some (.ins C dx fs) ∧ Cls K C ∧ NoAttr K C f ∧ fs.lookup f = some v ∧ Q v H1
noncomputable def tCon (K : PySem.W.Frag) (ta : TE) (f : Str) : TE := fun σ H Q => ta σ H fun x H1 => ∃ a C dx fs v u, x = .ref a ∧ H1 a = some (.ins C dx fs) ∧ Cls K C ∧ Con K C f v u ∧ fs.lookup f = none ∧ Q v H1
noncomputable def sFld (K : PySem.W.Frag) (ta tv : TE) (f : Str) : TS := fun D σ H => tv σ H fun y H1 => ta σ H1 fun x H2 => ∃ a C dx fs, x = .ref a ∧ H2 a = some (.ins C dx fs) ∧ Cls K C ∧ NoAttr K C f ∧ fs.length < 1000 ∧
  D.nx σ (upd H2 a (.ins C dx (putF f y fs)))
noncomputable def InOp (X : Cx) (op : Operator) (rd : V → V → Hp → VK → Prop) : Prop :=
  ∀ (pins : List (Addr × Obj)) (s : Shared) (σ : St) (H : Hp) (x y : V) (u v : Value) (Q : VK), Inv X pins σ H s → RelV x u → RelV y v → rd x y H Q → wpAny (model X.prog X.w) X.A (inplaceOp op u v) (EP X pins σ Q) X.xe s
noncomputable def sFldAug (K : PySem.W.Frag) (ta tv : TE) (rd : V → V → Hp → VK → Prop) (f : Str) : TS := fun D σ H => ta σ H fun x H1 => ∃ a C dx fs v, x = .ref a ∧ H1 a = some (.ins C dx fs) ∧ Cls K C ∧ NoAttr K C f ∧ fs.lookup f = some v ∧
  tv σ H1 fun y H2 => rd v y H2 fun z H3 => ∃ dx' fs', H3 a = some (.ins C dx' fs') ∧ fs'.length < 1000 ∧ D.nx σ (upd H3 a (.ins C dx' (putF f z fs')))

section
variable {X : Cx} {o e value : Expr} {f : Str} {pos pos' tpos : Pos} {ta tv : TE}
theorem pe_fld (he : PE X e ta) (hb : attributeBase e f X.env (eval e X.env) = eval e X.env) : PE X (.Attribute e f pos) (tFld X.K ta f) := by
  intro pins s σ H Q I h
  refine attr_of hb (thn (he pins s σ H _ I h) fun u s1 ⟨x, H1, I1, rx, a, C, dx, fs, v, ex, ea, c, n, l, q⟩ => ?_)
  subst ex
  obtain rfl : u = Value.ref a := rx
  exact getattr_ok I1 ea c n l fun u' s2 I2 ru => ⟨v, H1, I2, ru, q⟩
theorem ps_fld (ha : PE X o ta) (hv : PE X value tv) (hs : swapsWith value (some (.Attribute o f pos')) pos.line X.env = pure false) : PS X (.Assign [.Attribute o f pos'] value pos) (sFld X.K ta tv f) := by
  intro pins s σ H D I h
  refine plainObj_wpAny_Assign_Attribute (thn (hv pins s σ H _ I h) fun u s1 ⟨y, H1, I1, ry, q⟩ => thn (ha pins s1 σ H1 _ I1 q) fun ov s2 ⟨x, H2, I2, rx, a, C, dx, fs, ex, ea, c, n, l, q2⟩ => ?_) hs
  subst ex
  obtain rfl : ov = Value.ref a := rx
  exact setattr_ok I2 ea c n l ry fun s3 I3 => ⟨σ, _, I3, q2⟩
noncomputable def rAdd : V → V → Hp → VK → Prop := fun x y H Q => ∃ i j, x = .int i ∧ y = .int j ∧ Q (.int (i + j)) H
noncomputable def rSub : V → V → Hp → VK → Prop := fun x y H Q => ∃ i j, x = .int i ∧ y = .int j ∧ Q (.int (i - j)) H

end

/-! ### isinstance -/
section
variable {X : Cx} {pins : List (Addr × Obj)} {σ : St} {H : Hp} {s : Shared} {A : Around} {E : Value → Shared → Prop} {Q : Value → Shared → Prop} {c : Value} {b : Bool}
inductive TyOf (K : PySem.W.Frag) (H : Hp) : V → Value → Prop where
  | non : TyOf K H .non (.type "NoneType")
  | bl (x : Bool) : TyOf K H (.bl x) (.type "bool")
  | int (i : Int) : TyOf K H (.int i) (.type "int")
  | str (x : Str) : TyOf K H (.str x) (.type "str")
  | flt (x : UInt64) : TyOf K H (.flt x) (.type "float")
  | lst {a : Addr} {xs : List V} (e : H a = some (.lst xs)) : TyOf K H (.ref a) (.type "list")
  | frz {a : Addr} {o : Obj} {xs : List V} (e : H a = some (.frz o (.lst xs))) : TyOf K H (.ref a) (.type "list")
  | tup {a : Addr} {xs : List V} (e : H a = some (.tup xs)) : TyOf K H (.ref a) (.type "tuple")
  | dK {a : Addr} {kvs : List (Key × V)} (e : H a = some (.dK kvs)) : TyOf K H (.ref a) (.type "dict")
  | dT {a : Addr} {kvs : List (List Key × V)} (e : H a = some (.dT kvs)) : TyOf K H (.ref a) (.type "dict")
  | ins {a C dx : Addr} {fs : List (Str × V)} (e : H a = some (.ins C dx fs)) (cl : Cls K C) (ha : PySem.W.findIn K (.ref C) "__class__" = some (some (.builtin "object.__class__")))
      (hn : PySem.W.specialIn K (.builtin "object.__class__") "__get__" = some (some (.builtin "getset_descriptor.__get__"))) (htk : PySem.W.takesIn K (.builtin "object.__class__") = some true)
      (hm : PySem.W.mroIn K C (.type "object") = some true) : TyOf K H (.ref a) (.ref C)
theorem isinst_ok {x : V} {u t : Value} (I : Inv X pins σ H s) (rx : RelV x u) (ty : TyOf X.K H x t) (e : PySem.W.kitOne X.K t c = some b) (h : ∀ tk, Q (.bool b) { s with toks := tk }) :
    wpAny (model X.prog X.w) A (call (.builtin "isinstance") [u, c]) Q E s := by
  cases ty with
  | non => cases (show u = Value.none from rx); exact PySem.W.kia_one PySem.W.kitx_none I.kIn True.intro e (fun z => nomatch z) h
  | bl y => cases (show u = Value.bool y from rx); exact PySem.W.kia_one PySem.W.kitx_bool I.kIn True.intro e (fun z => nomatch z) h
  | int i => obtain ⟨t, q⟩ := (show ∃ t, u = Value.int i t from rx); cases q; exact PySem.W.kia_one PySem.W.kitx_int I.kIn True.intro e (fun z => nomatch z) h
  | str y => obtain ⟨t, q⟩ := (show ∃ t, u = Value.str y t from rx); cases q; exact PySem.W.kia_one PySem.W.kitx_str I.kIn True.intro e (fun z => nomatch z) h
  | flt y => obtain ⟨t, q⟩ := (show ∃ t, u = Value.float y t from rx); cases q; exact PySem.W.kia_one PySem.W.kitx_float I.kIn True.intro e (fun z => nomatch z) h
  | @lst a xs ea =>
    cases (show u = Value.ref a from rx)
    obtain ⟨_, _, n, _, h1⟩ := (show ObjOk X.prog X.w H s.heap a (.lst xs) from I.hok a _ ea)
    exact PySem.W.kia_one PySem.W.kitx_list I.kIn ⟨_, h1, rfl⟩ e (fun z => nomatch z) h
  | @frz a ob xs ea =>
    cases (show u = Value.ref a from rx)
    obtain ⟨_, _, _, n, _, h1⟩ := (show ObjOk X.prog X.w H s.heap a (.frz ob (.lst xs)) from I.hok a _ ea)
    exact PySem.W.kia_one PySem.W.kitx_list I.kIn ⟨_, h1, rfl⟩ e (fun z => nomatch z) h
  | @tup a xs ea =>
    cases (show u = Value.ref a from rx)
    obtain ⟨_, _, _, p⟩ := (show ObjOk X.prog X.w H s.heap a (.tup xs) from I.hok a _ ea)
    obtain ⟨o, h1, h2, _⟩ := p
    exact PySem.W.kia_one PySem.W.kitx_tuple I.kIn ⟨o, h1, h2⟩ e (fun z => nomatch z) h
  | @dK a kvs ea =>
    cases (show u = Value.ref a from rx)
    obtain ⟨_, _, vs, _, p⟩ := (show ObjOk X.prog X.w H s.heap a (.dK kvs) from I.hok a _ ea)
    obtain ⟨o, es, ep, h1, h2, _⟩ := p
    exact PySem.W.kia_one PySem.W.kitx_dict I.kIn ⟨o, h1, h2.1⟩ e (fun z => nomatch z) h
  | @dT a kvs ea =>
    cases (show u = Value.ref a from rx)
    obtain ⟨_, _, xs, _, o, es, ep, h1, h2, _⟩ := (show ObjOk X.prog X.w H s.heap a (.dT kvs) from I.hok a _ ea)
    exact PySem.W.kia_one PySem.W.kitx_dict I.kIn ⟨o, h1, h2.1⟩ e (fun z => nomatch z) h
  | @ins a C dx fs ea cl ha hn htk hm =>
    cases (show u = Value.ref a from rx)
    obtain ⟨mA, O, _⟩ := ins_get I.hok ea
    obtain ⟨od, J, _⟩ := O.look
    exact PySem.W.kia_one (PySem.W.kitx_own (cl.get _) cl.hd ha hn htk hm) I.kIn J e (fun z => nomatch z) h
end
end L2

namespace L2
open PySem PySem.Spec PyProof.Rows

/-! ### room -/
structure Room (k : Nat) (A : Around) : Prop where
  hd : A.handled = none
  dp : A.depth + 3 * k + 5 < recursionLimit
  un : A.units + 16 * k + 200 < cLine
theorem Room.mono {j k : Nat} {A : Around} (r : Room k A) (h : j ≤ k) : Room j A := ⟨r.hd, by have := r.dp; omega, by have := r.un; omega⟩
theorem Room.deeper {k : Nat} {A : Around} (r : Room (k + 1) A) (env : Env) : Room k (A.deeper env) :=
  ⟨r.hd, by have := r.dp; show A.depth + 1 + 3 * k + 5 < _; omega, by have := r.un; show A.units + 3 + 16 * k + 200 < _; omega⟩
theorem make_depth {A : Around} {C : Addr} {us : List Value} {kw : List (Str × Value)} : (A.under (.builtin "type.__call__" ⟨.ref C :: us, kw⟩)).depth = A.depth + 1 := by
  first | rfl | simp [Around.under, Code.weight, Code.isCreation, Code.isGuard, Code.isCaller, Code.frames, Code.isFrame, guardIds]
theorem make_units {A : Around} {C : Addr} {us : List Value} {kw : List (Str × Value)} : (A.under (.builtin "type.__call__" ⟨.ref C :: us, kw⟩)).units = A.units + 1 := by
  first | rfl | simp [Around.under, Code.cUnits, Code.frames, Code.isFrame]
theorem Room.make {k : Nat} {A : Around} (r : Room (k + 1) A) (C : Addr) (us : List Value) (kw : List (Str × Value)) : Room k (A.under (.builtin "type.__call__" ⟨.ref C :: us, kw⟩)) :=
  ⟨r.hd, by have := r.dp; rw [make_depth]; omega, by have := r.un; rw [make_units]; omega⟩
theorem Room.depth {k : Nat} {A : Around} (r : Room k A) : A.depth < recursionLimit := by have := r.dp; omega
theorem Room.units {k : Nat} {A : Around} (r : Room k A) : A.units + 64 < cLine := by have := r.un; omega

/-! ### argument lists and displays -/
noncomputable def tNil : TA := fun _ H Q => Q [] H
noncomputable def tCons (ta : TE) (tr : TA) : TA := fun σ H Q => ta σ H fun x H1 => tr σ H1 fun xs H2 => Q (x :: xs) H2
section
variable {X : Cx} {e : Expr} {es : List Expr} {te : TE} {t : TA} {pos : Pos}
theorem pa_nil : PA X [] tNil := fun _ _ _ _ H Q I h => Calls.spliced_nil ⟨[], H, I, .nil, h⟩
theorem pa_cons (ha : PE X e te) (hr : PA X es t) (hs : starEach (e :: es) X.env = (false, eval e X.env) :: starEach es X.env := by rfl) : PA X (e :: es) (tCons te t) := by
  intro pos pins s σ H Q I h
  rw [hs]
  show wpAny _ _ (spliced ((false, eval e X.env) :: backTo pos (starEach es X.env))) _ _ s
  refine Calls.spliced_cons (thn (ha pins s σ H _ I h) fun u s1 ⟨x, H1, I1, r1, q1⟩ => ?_)
  exact thn (hr pos pins s1 σ H1 _ I1 q1) fun us s2 ⟨xs, H2, I2, r2, q2⟩ => ⟨x :: xs, H2, I2, .cons r1 r2, q2⟩

noncomputable def tTup (t : TA) : TE := fun σ H Q => t σ H fun xs H1 => xs.length ≤ sizeLine ∧ ∀ p, H1 p = none → Q (.ref p) (upd H1 p (.tup xs))
noncomputable def tLst (t : TA) : TE := fun σ H Q => t σ H fun xs H1 => xs.length ≤ sizeLine ∧ ∀ p, H1 p = none → Q (.ref p) (upd H1 p (.lst xs))
theorem pe_tup {x1} (h : PA X es t) : PE X (.Tuple es x1 pos) (tTup t) := by
  intro pins s σ H Q I hq
  refine wpAny_Tuple_spliced (thn (h pos pins s σ H _ I hq) fun us s1 ⟨xs, H1, I1, r, z, q⟩ => ⟨by rw [← r.length]; exact z, ?_⟩)
  have hf : H1 s1.heap.objs.size = none := I1.hok.fresh (Nat.le_refl _)
  refine ⟨.ref s1.heap.objs.size, upd H1 s1.heap.objs.size (.tup xs), I1.laid (t' := s1.toks) (fun b u e => Heap.get?_push_of_some _ e) (Nat.le_refl _) ?_, rfl, q _ hf⟩
  exact ⟨z, us, r, ⟨_, Heap.get?_push_size _ rfl, rfl, _, rfl⟩⟩
theorem pe_lst (h : PA X es t) : PE X (.List es pos) (tLst t) := by
  intro pins s σ H Q I hq
  refine wpAny_List_spliced (thn (h pos pins s σ H _ I hq) fun us s1 ⟨xs, H1, I1, r, z, q⟩ => ⟨by rw [← r.length]; exact z, ?_⟩)
  have hf : H1 s1.heap.objs.size = none := I1.hok.fresh (Nat.le_refl _)
  refine ⟨.ref s1.heap.objs.size, upd H1 s1.heap.objs.size (.lst xs), I1.laid (t' := s1.toks) (fun b u e => Heap.get?_push_of_some _ e) (Nat.le_refl _) ?_, rfl, q _ hf⟩
  exact ⟨z, us, 0, r, Heap.get?_push_size _ rfl⟩
end

/-! ### what a def promises -/
noncomputable abbrev Sp := List V → Hp → VK → XK → Prop
noncomputable abbrev CXT := List Env → Hp → Shared → XK → Value → Shared → Prop

structure Env0 (P : Program) (w : World) (K : PySem.W.Frag) (mg : Str → Option Value) (base : Heap) (A : Around) (outer : List Env) (s : Shared) (H : Hp) : Prop where
  frames : A.frames = some outer
  mod : Mod K mg base
  bs : ∀ b o, base.get? b = some o → s.heap.get? b = some o ∧ H b = none
  bsz : base.objs.size ≤ s.heap.objs.size
  funs : s.heap.FunFrames base outer
  frf : ∀ b ∈ frs outer, H b = none
  hok : HOk P w H s.heap
  bare : AllBare s.gens
noncomputable def CE (outer : List Env) (P : Program) (w : World) (H : Hp) (s : Shared) (Q : VK) (u : Value) (s' : Shared) : Prop :=
  ∃ v H', s'.os = s.os ∧ AllBare s'.gens ∧ Un (frs outer) [] H H' s.heap s'.heap ∧ HOk P w H' s'.heap ∧ RelV v u ∧ Q v H'
noncomputable def CR (CX : CXT) (outer : List Env) (P : Program) (w : World) (H : Hp) (s : Shared) (Q : VK) (E : XK) (r : Result) (s' : Shared) : Prop :=
  match r with
  | .ok (.ret u) => CE outer P w H s Q u s'
  | .ok _ => False
  | .error e => CX outer H s E e s'
structure FnOk (P : Program) (w : World) (K : PySem.W.Frag) (mg : Str → Option Value) (base : Heap) (CX : CXT) (k : Nat) (f : Addr) (fd : FuncData) (ps : List Str) (sp : Sp) : Prop where
  len : ∀ vs H Q E, sp vs H Q E → vs.length = ps.length
  run : ∀ (A : Around) (outer : List Env) (s : Shared) (H : Hp) (args : Args) (us : List Value) (vs : List V) (Q : VK) (E : XK), Room k A → Env0 P w K mg base A outer s H → BindsTo s fd args (ps.zip us) → Vals vs us → sp vs H Q E →
    codeAny (model P w) A (.call (.ref f) args) (CR CX outer P w H s Q E) s

theorem Env0.make {P : Program} {w : World} {K : PySem.W.Frag} {mg : Str → Option Value} {base : Heap} {A : Around} {outer : List Env} {s : Shared} {H : Hp} (e : Env0 P w K mg base A outer s H) (C : Addr) (us : List Value) (kw : List (Str × Value)) :
    Env0 P w K mg base (A.under (.builtin "type.__call__" ⟨.ref C :: us, kw⟩)) outer s H := ⟨by first | exact e.frames | (simpa [Around.under, Code.envs, Code.isFrame, pushEnvs] using e.frames), e.mod, e.bs, e.bsz, e.funs, e.frf, e.hok, e.bare⟩

section
variable {X : Cx} {pins : List (Addr × Obj)} {σ : St} {H : Hp} {s s' : Shared}
theorem Inv.env0 (I : Inv X pins σ H s) : Env0 X.prog X.w X.K X.mg X.base X.A X.stack s H :=
  ⟨I.ok.frames, I.ok.mod, I.bs, Nat.le_trans I.ok.bsz I.sz, I.stack, I.stkFree, I.hok, I.bare⟩
theorem Inv.after {Q : VK} {u : Value} (I : Inv X pins σ H s) (h : CE X.stack X.prog X.w H s Q u s') : EP X pins σ Q u s' := by
  obtain ⟨v, H', os, bare, un, hok, r, q⟩ := h
  obtain ⟨hh, g, d, t, os'⟩ := s'
  obtain rfl : os' = s.os := os
  exact ⟨v, H', I.call (h' := hh) (g' := g) (d' := d) (t' := t) (ch := []) un hok bare (fun b z => absurd z (by simp)), r, q⟩
end

/-! ### calls -/
noncomputable def tCall (sp : Sp) (dvs : List V) (E : XK) (t : TA) : TE := fun σ H Q => t σ H fun vs H1 => sp (vs ++ dvs) H1 Q E
noncomputable def tMeth (C : Addr) (m : Str) (sp : Sp) (dvs : List V) (E : XK) (ta : TE) (t : TA) : TE := fun σ H Q => ta σ H fun x H1 => ∃ a dx fs, x = .ref a ∧ H1 a = some (.ins C dx fs) ∧ fs.lookup m = none ∧
  t σ H1 fun vs H2 => sp (x :: (vs ++ dvs)) H2 Q E
noncomputable def tMake (C : Addr) (sp : Sp) (dvs : List V) (E : XK) (t : TA) : TE := fun σ H Q => t σ H fun vs H1 => ∀ x dx, H1 x = none → H1 dx = none → dx ≠ x →
  sp (.ref x :: (vs ++ dvs)) (upd (upd H1 dx (.own x)) x (.ins C dx [])) (fun v H2 => v = .non ∧ Q (.ref x) H2) E

noncomputable def Binds (K : PySem.W.Frag) (fd : FuncData) (ps : List Str) (ds : List Value) : Prop :=
  ∀ (s : Shared) (us : List Value), K.In s.heap → (us ++ ds).length = ps.length → BindsTo s fd ⟨us, []⟩ (ps.zip (us ++ ds))
theorem Binds.all {K : PySem.W.Frag} {fd : FuncData} {ps : List Str} (h : ∀ us : List Value, us.length = ps.length → bindArgs fd ⟨us, []⟩ = pure (ps.zip us)) : Binds K fd ps [] := fun s us _ hl => by
  rw [List.append_nil] at hl ⊢
  exact .of_eq (h us hl)

noncomputable def Passes (CX : CXT) (X : Cx) (E : XK) : Prop := ∀ (pins : List (Addr × Obj)) (σ : St) (H : Hp) (s : Shared) (e : Value) (s' : Shared), Inv X pins σ H s → CX X.stack H s E e s' → X.xe e s'

section
variable {X : Cx} {CX : CXT} {k : Nat} {f C : Addr} {fd : FuncData} {ps : List Str} {sp : Sp} {dvs : List V} {ds : List Value} {E : XK} {x m : Str} {p pos apos : Pos} {e o : Expr} {es : List Expr} {ta : TE} {t : TA}

theorem run_fn {pins : List (Addr × Obj)} {σ : St} {H : Hp} {s : Shared} {Q : VK} {us : List Value} {vs : List V} (F : FnOk X.prog X.w X.K X.mg X.base CX k f fd ps sp) (hr : Room k X.A) (hb : Binds X.K fd ps ds) (hd : Vals dvs ds) (hx : Passes CX X E)
    (I : Inv X pins σ H s) (r : Vals vs us) (h : sp (vs ++ dvs) H Q E) : wpAny (model X.prog X.w) X.A (call (.ref f) us) (EP X pins σ Q) X.xe s := by
  have r2 : Vals (vs ++ dvs) (us ++ ds) := r.append hd
  have hl : (us ++ ds).length = ps.length := by rw [← r2.length]; exact F.len _ _ _ _ h
  refine wpAny_call (codeAny_mono (F.run X.A X.stack s H ⟨us, []⟩ (us ++ ds) (vs ++ dvs) Q E hr I.env0 (hb s us I.kIn hl) r2 h) fun r s' hq => ?_)
  cases r with
  | error e => exact hx pins σ H s e s' I hq
  | ok fl =>
    cases fl with
    | ret u => exact I.after hq
    | next => exact False.elim hq
    | brk => exact False.elim hq
    | cont => exact False.elim hq

theorem pe_call (F : FnOk X.prog X.w X.K X.mg X.base CX k f fd ps sp) (hr : Room k X.A) (hg : Gl X x) (hm : X.mg x = some (.ref f)) (hk : PySem.W.keepIn X.K (.ref f) = true) (hb : Binds X.K fd ps ds) (hd : Vals dvs ds) (hx : Passes CX X E)
    (ha : PA X (e :: es) t) (hdb : (x == ("__debug__" : Str)) = false := by decide) (he : starEach (e :: es) X.env = (false, eval e X.env) :: starEach es X.env := by rfl) (hpl : (backTo pos (starEach es X.env)).any (·.1) = false := by rfl) :
    PE X (.Call (.Name x p) (e :: es) [] pos) (tCall sp dvs E t) := by
  intro pins s σ H Q I h
  refine wpAny_Call_Name_kw (ld_glob I hg hm ?_ hdb)
  refine PySem.W.callWith_K (h₀ := X.base) I.ok.mod.kin hk (thn (ha pos pins s σ H _ I h) fun us s1 ⟨vs, H1, I1, r, q⟩ => ⟨I1.kIn, ?_⟩) he hpl
  exact run_fn F hr hb hd hx I1 r q

theorem pe_meth {pl : Sem Bool} (he : PE X o ta) (c : Cls X.K C) (hm : Meth X.K C m f) (F : FnOk X.prog X.w X.K X.mg X.base CX k f fd ps sp) (hr : Room k X.A) (hb : Binds X.K fd ps ds) (hd : Vals dvs ds) (hx : Passes CX X E) (ha : PA X (e :: es) t)
    (hst : starEach (e :: es) X.env = (false, eval e X.env) :: starEach es X.env := by rfl) (hpl : (backTo pos (starEach es X.env)).any (·.1) = false := by rfl)
    (ht : eval (.Call (.Attribute o m apos) (e :: es) [] pos) X.env = (do
      let ov ← eval o X.env
      standAt apos.atName
      let (f, first) ← holding [ov] (getMethod ov m pl)
      callWith pos f first (backTo pos (starEach (e :: es) X.env)) (backToKw pos (keywordEach [] X.env))) := by rfl) :
    PE X (.Call (.Attribute o m apos) (e :: es) [] pos) (tMeth C m sp dvs E ta t) := by
  intro pins s σ H Q I h
  refine PySem.W.methodCall_KW (pl := pl) (thn (he pins s σ H _ I h) fun u s1 ⟨x, H1, I1, rx, a, dx, fs, ex, ea, l, q⟩ => ?_) ht
  subst ex
  obtain rfl : u = Value.ref a := rx
  refine getmeth_ok I1 ea c hm l ?_
  refine PySem.W.callWith_K (first := [.ref a]) (h₀ := X.base) I.ok.mod.kin hm.kp (thn (ha pos pins s1 σ H1 _ I1 q) fun us s2 ⟨vs, H2, I2, r, q2⟩ => ⟨I2.kIn, ?_⟩) hst hpl
  exact run_fn (us := .ref a :: us) (vs := .ref a :: vs) F hr hb hd hx I2 (.cons rfl r) q2
theorem pe_meth0 {pl : Sem Bool} (he : PE X o ta) (c : Cls X.K C) (hm : Meth X.K C m f) (F : FnOk X.prog X.w X.K X.mg X.base CX k f fd ps sp) (hr : Room k X.A) (hb : Binds X.K fd ps ds) (hd : Vals dvs ds) (hx : Passes CX X E)
    (ht : eval (.Call (.Attribute o m apos) [] [] pos) X.env = (do
      let ov ← eval o X.env
      standAt apos.atName
      let (f, first) ← holding [ov] (getMethod ov m pl)
      callWith pos f first (backTo pos (starEach [] X.env)) (backToKw pos (keywordEach [] X.env))) := by rfl) :
    PE X (.Call (.Attribute o m apos) [] [] pos) (tMeth C m sp dvs E ta tNil) := by
  intro pins s σ H Q I h
  refine PySem.W.methodCall_KW (pl := pl) (thn (he pins s σ H _ I h) fun u s1 ⟨x, H1, I1, rx, a, dx, fs, ex, ea, l, q⟩ => ?_) ht
  subst ex
  obtain rfl : u = Value.ref a := rx
  refine getmeth_ok I1 ea c hm l ?_
  exact PySem.W.callWith_K0 (first := [.ref a]) I1.kIn hm.kp (run_fn (us := [.ref a]) (vs := [.ref a]) F hr hb hd hx I1 (.cons rfl .nil) q)

structure Mk (K : PySem.W.Frag) (C f : Addr) : Prop where
  makes : PySem.W.makesIn K C = true
  init : PySem.W.findIn K (.ref C) "__init__" = some (some (.ref f))
  fn : PySem.W.isFn K (.ref f) = true
  kp : PySem.W.keepIn K (.ref C) = true

theorem run_make {pins : List (Addr × Obj)} {σ : St} {H : Hp} {s : Shared} {Q : VK} {us : List Value} {vs : List V} (M : Mk X.K C f) (F : FnOk X.prog X.w X.K X.mg X.base CX k f fd ps sp) (hr : Room (k + 1) X.A) (hb : Binds X.K fd ps ds) (hd : Vals dvs ds)
    (hx : Passes CX X E) (I : Inv X pins σ H s) (r : Vals vs us)
    (h : ∀ x dx, H x = none → H dx = none → dx ≠ x → sp (.ref x :: (vs ++ dvs)) (upd (upd H dx (.own x)) x (.ins C dx [])) (fun v H2 => v = .non ∧ Q (.ref x) H2) E) :
    wpAny (model X.prog X.w) X.A (call (.ref C) us) (EP X pins σ Q) X.xe s := by
  have hq := h (s.heap.objs.size + 1) s.heap.objs.size (I.hok.fresh (Nat.le_succ _)) (I.hok.fresh (Nat.le_refl _)) (Nat.ne_of_lt (Nat.lt_succ_self _))
  have I2 := Inv.made (C := C) I
  have r2 : Vals (V.ref (s.heap.objs.size + 1) :: (vs ++ dvs)) (Value.ref (s.heap.objs.size + 1) :: (us ++ ds)) := .cons rfl (r.append hd)
  have hl : (Value.ref (s.heap.objs.size + 1) :: us ++ ds).length = ps.length := by
    have e := r2.length
    rw [F.len _ _ _ _ hq] at e
    exact e.symm
  refine wpAny_call (make_map (f := f) I.kIn M.makes M.init (beq_iff_eq.mp M.fn) (codeAny_mono (F.run _ X.stack _ _ ⟨Value.ref (s.heap.objs.size + 1) :: us, []⟩ (Value.ref (s.heap.objs.size + 1) :: (us ++ ds)) _ _ E (hr.make C us [])
    (I2.env0.make C us []) (hb _ (Value.ref (s.heap.objs.size + 1) :: us) I2.kIn hl) r2 hq) fun r s' hq' => ?_))
  cases r with
  | error e => exact hx pins σ _ _ e s' I2 hq'
  | ok fl =>
    cases fl with
    | ret u =>
      obtain ⟨v, H', I3, rv, ev, q3⟩ := I2.after hq'
      subst ev
      exact ⟨rv, ⟨V.ref (s.heap.objs.size + 1), H', I3, rfl, q3⟩⟩
    | next => exact False.elim hq'
    | brk => exact False.elim hq'
    | cont => exact False.elim hq'
theorem pe_make0 (M : Mk X.K C f) (F : FnOk X.prog X.w X.K X.mg X.base CX k f fd ps sp) (hr : Room (k + 1) X.A) (hg : Gl X x) (hm : X.mg x = some (.ref C)) (hb : Binds X.K fd ps ds) (hd : Vals dvs ds) (hx : Passes CX X E)
    (hdb : (x == ("__debug__" : Str)) = false := by decide) : PE X (.Call (.Name x p) [] [] pos) (tMake C sp dvs E tNil) := by
  intro pins s σ H Q I h
  refine wpAny_Call_Name_kw (ld_glob I hg hm ?_ hdb)
  exact PySem.W.callWith_K0 I.kIn M.kp (run_make (us := []) M F hr hb hd hx I .nil h)
end

/-! ### keywords -/
noncomputable def PK (X : Cx) (kws : List Keyword) (t : TA) : Prop :=
  ∀ (pos : Pos) (pins : List (Addr × Obj)) (s : Shared) (σ : St) (H : Hp) (Q : List V → Hp → Prop), Inv X pins σ H s → t σ H Q → wpAny (model X.prog X.w) X.A (evalAll ((backToKw pos (keywordEach kws X.env)).map (·.2))) (AP X pins σ Q) X.xe s
section
variable {X : Cx} {CX : CXT} {k : Nat} {f C : Addr} {fd : FuncData} {ps ks : List Str} {sp : Sp} {E : XK} {x m : Str} {p pos apos kpos : Pos} {e o : Expr} {es : List Expr} {kws : List Keyword} {te ta : TE} {t tk : TA} {nm : Option Str}

structure KBinds (K : PySem.W.Frag) (fd : FuncData) (ps ks : List Str) (g : List Value → List Value → List Value) (gV : List V → List V → List V) : Prop where
  to : ∀ (s : Shared) (us ws : List Value), K.In s.heap → (g us ws).length = ps.length → BindsTo s fd ⟨us, ks.zip ws⟩ (ps.zip (g us ws))
  rel : ∀ {vs : List V} {us : List Value} {zs : List V} {ws : List Value}, Vals vs us → Vals zs ws → Vals (gV vs zs) (g us ws)
noncomputable def tCallK (sp : Sp) (gV : List V → List V → List V) (E : XK) (t tk : TA) : TE := fun σ H Q => t σ H fun vs H1 => tk σ H1 fun zs H2 => sp (gV vs zs) H2 Q E
variable {g : List Value → List Value → List Value} {gV : List V → List V → List V}
end

/-! ### a def's body keeps its promise -/
structure FnScope (N P : List Str) (sc : Scope) : Prop where
  kind : sc.kind = .function
  co : sc.isCoroutine = false
  gen : sc.isGenerator = false
  nd : N.Nodup
  pre : N.take P.length = P
  par : ∀ x ∈ P, sc.names.lookup x = some .local ∨ sc.names.lookup x = some .cell
  nofree : ∀ y ∈ sc.names, y.2 ≠ .free

theorem bindL_out {kindOf : Str → Option NameKind} {x : Str} : ∀ {binds : List (Str × Value)} {m : Str → Option Value}, (∀ v, (x, v) ∉ binds) → bindL kindOf binds m x = m x
  | [], _, _ => rfl
  | (n, v) :: r, m, h => by
    unfold bindL
    rw [bindL_out fun w hw => h w (List.mem_cons_of_mem _ hw)]
    split
    · have : x ≠ n := by rintro rfl; exact h v List.mem_cons_self
      simp [this]
    · rfl
theorem bindC_out {kindOf : Str → Option NameKind} {x : Str} : ∀ {binds : List (Str × Value)} {m : Str → Option Value}, (∀ v, (x, v) ∉ binds) → bindC kindOf binds m x = m x
  | [], _, _ => rfl
  | (n, v) :: r, m, h => by
    unfold bindC
    rw [bindC_out fun w hw => h w (List.mem_cons_of_mem _ hw)]
    split
    · rfl
    · have : x ≠ n := by rintro rfl; exact h v List.mem_cons_self
      simp [this]
theorem bindL_get {kindOf : Str → Option NameKind} {x : Str} {v : Value} : ∀ {P : List Str} {vs : List Value} {i : Nat} {m : Str → Option Value}, P.Nodup → P[i]? = some x → vs[i]? = some v → kindOf x = some .local →
    bindL kindOf (P.zip vs) m x = some v
  | [], _, _, _, _, h, _, _ => by simp at h
  | _ :: _, [], _, _, _, _, h, _ => by simp at h
  | p :: P, w :: vs, 0, m, nd, h1, h2, hk => by
    simp at h1 h2; subst h1; subst h2
    show bindL kindOf ((p, w) :: P.zip vs) m p = _
    unfold bindL
    rw [bindL_out fun v hv => (List.nodup_cons.mp nd).1 (List.of_mem_zip hv).1, if_pos hk]
    simp
  | p :: P, w :: vs, i + 1, m, nd, h1, h2, hk => by
    show bindL kindOf ((p, w) :: P.zip vs) m x = _
    unfold bindL
    exact bindL_get (i := i) (List.nodup_cons.mp nd).2 (by simpa using h1) (by simpa using h2) hk
theorem bindC_get {kindOf : Str → Option NameKind} {x : Str} {v : Value} : ∀ {P : List Str} {vs : List Value} {i : Nat} {m : Str → Option Value}, P.Nodup → P[i]? = some x → vs[i]? = some v → kindOf x ≠ some .local →
    bindC kindOf (P.zip vs) m x = some v
  | [], _, _, _, _, h, _, _ => by simp at h
  | _ :: _, [], _, _, _, _, h, _ => by simp at h
  | p :: P, w :: vs, 0, m, nd, h1, h2, hk => by
    simp at h1 h2; subst h1; subst h2
    show bindC kindOf ((p, w) :: P.zip vs) m p = _
    unfold bindC
    rw [bindC_out fun v hv => (List.nodup_cons.mp nd).1 (List.of_mem_zip hv).1, if_neg hk]
    simp
  | p :: P, w :: vs, i + 1, m, nd, h1, h2, hk => by
    show bindC kindOf ((p, w) :: P.zip vs) m x = _
    unfold bindC
    exact bindC_get (i := i) (List.nodup_cons.mp nd).2 (by simpa using h1) (by simpa using h2) hk

noncomputable def start (N : List Str) (vs : List V) : St := vs.map some ++ List.replicate (N.length - vs.length) none

noncomputable def cxOf (CX : CXT) (P : Program) (w : World) (K : PySem.W.Frag) (mg : Str → Option Value) (base : Heap) (N : List Str) (qual : Str) (scope : Scope) (f : Addr) (cd : Value) (A : Around) (outer : List Env) (s : Shared) (H : Hp) (E : XK) : Cx where
  prog := P
  w := w
  K := K
  mg := mg
  base := base
  A := A.deeper (envOfC qual scope s.heap.objs.size f cd)
  N := N
  s₀ := s
  H₀ := H
  env := envOfC qual scope s.heap.objs.size f cd
  outer := outer
  stack := envOfC qual scope s.heap.objs.size f cd :: outer
  ex := []
  calm := true
  fn := fun _ => true
  pn := []
  xe := fun e s' => wpAny (model P w) (A.deeper (envOfC qual scope s.heap.objs.size f cd)) (leaving (envOfC qual scope s.heap.objs.size f cd) e) (fun _ s'' => CX outer H s E e s'') (fun e' s'' => CX outer H s E e' s'') s'

theorem cell_has {sc : Scope} {n : Nat} {x : Str} (h : sc.names.lookup x = some .cell) : ∃ c, (cellsFrom n sc.names []).lookup x = some c := by
  have q := PySem.W.cellsFrom_some sc.names n [] (.inl h)
  exact Option.isSome_iff_exists.mp q

theorem inv_start {CX : CXT} {P : Program} {w : World} {K : PySem.W.Frag} {mg : Str → Option Value} {base : Heap} {N ps : List Str} {qual : Str} {scope : Scope} {f : Addr} {cd : Value} {A : Around} {outer : List Env} {s s1 : Shared} {H : Hp} {E : XK} {us : List Value} {vs : List V}
    (S : FnScope N ps scope) (hd : A.handled = none) (e0 : Env0 P w K mg base A outer s H) (hl : vs.length = ps.length) (r : Vals vs us)
    (x : InCallC s s.heap.objs.size (bindL (envOfC qual scope s.heap.objs.size f cd).kindOf (ps.zip us) fun _ => none) (cellsFrom (s.heap.objs.size + 1) scope.names []) (bindC (envOfC qual scope s.heap.objs.size f cd).kindOf (ps.zip us) fun _ => none) s1) :
    Inv (cxOf CX P w K mg base N qual scope f cd A outer s H E) [] (start N vs) H s1 := by
  have hpl : ps.length ≤ N.length := by have := congrArg List.length S.pre; rw [List.length_take] at this; omega
  obtain ⟨h1, tk, rfl, hk⟩ := x.done
  have noA : ∀ b : Addr, b ∉ (cxOf CX P w K mg base N qual scope f cd A outer s H E).ex := fun b z => absurd (show b ∈ ([] : List Addr) from z) (by simp)
  refine ⟨⟨e0.mod, S.kind, rfl, rfl, Nat.le_refl _, fun y z c h1 h2 => ?_, fun y hy => ?_, fun y c _ h => ?_, fun _ => hd, Around.frames_deeper e0.frames, .inr ⟨rfl, rfl⟩, fun b z => absurd z (noA b), e0.bs, e0.bsz, fun b _ _ => noA b, fun b z => absurd z (noA b), e0.funs, e0.frf⟩,
    rfl, e0.bare, Un.kept hk, ⟨_, x.toInCall.ns, fun i y v h1 h2 h3 => ?_⟩, fun y c h => ⟨_, x.cell y c h⟩, e0.hok.fresh (Nat.le_refl _), fun y c h => ?_, fun p hp => absurd (show p ∈ ([] : List (Addr × Obj)) from hp) (by simp), e0.hok.kept hk, ?_⟩
  · exact name_of_addr x.apart (PySem.mem_of_lookup h1) (PySem.mem_of_lookup h2)
  · have hy : scope.names.lookup y = some .cell ∨ scope.names.lookup y = some .free := hy
    rcases hy with hy | hy
    · exact cell_has hy
    · exact absurd rfl (S.nofree _ (PySem.mem_of_lookup hy))
  · exact Nat.le_of_lt (x.above y c (PySem.mem_of_lookup h))
  · have hi : i < vs.length := by
      unfold start at h2
      by_cases hi : i < vs.length
      · exact hi
      · rw [List.getElem?_append_right (by simpa using hi)] at h2
        rw [List.getElem?_replicate] at h2
        split at h2 <;> cases h2
    have ha : vs[i]? = some v := by
      unfold start at h2
      rw [List.getElem?_append_left (by simpa using hi), List.getElem?_map] at h2
      cases e : vs[i]? with
      | none => rw [e] at h2; cases h2
      | some a => rw [e] at h2; cases h2; rfl
    obtain ⟨u, hu, rv⟩ := r.get ha
    have hp : ps[i]? = some y := by
      rw [← S.pre, List.getElem?_take_of_lt (by omega)]; exact h1
    have ndP : ps.Nodup := by rw [← S.pre]; exact S.nd.sublist (List.take_sublist _ _)
    refine ⟨u, rv, ?_⟩
    rcases S.par y (List.mem_of_getElem? hp) with k | k
    · exact .inl ⟨k, bindL_get ndP hp hu k⟩
    · obtain ⟨c, e⟩ := cell_has (n := s.heap.objs.size + 1) k
      refine .inr ⟨.inl k, c, e, ?_⟩
      have q := x.cell y c e
      rw [bindC_get ndP hp hu (by show scope.names.lookup y ≠ _; rw [k]; decide)] at q
      exact q
  · exact e0.hok.fresh (Nat.le_of_lt (x.above y c (PySem.mem_of_lookup h)))
  · unfold start
    show _ = N.length
    rw [List.length_append, List.length_map, List.length_replicate]
    omega

theorem fn_of {CX : CXT} {P : Program} {w : World} {K : PySem.W.Frag} {mg : Str → Option Value} {base : Heap} {k : Nat} {f : Addr} {name qual : Str} {params : Arguments} {body : List Stmt} {scope : Scope} {dV kV doc pm cdv ct oc : Value} {an od : Option Addr}
    {osl : Array (Option Value)} {N ps : List Str} {sp : Sp} (lk : K.lookup f = some ⟨oc, od, .func (PySem.W.fnOf name qual params body scope dV kV doc pm an cdv ct), osl⟩) (hcd : PySem.W.codeIn K cdv qual = true) (S : FnScope N ps scope)
    (len : ∀ vs H Q E, sp vs H Q E → vs.length = ps.length)
    (hbody : ∀ (A : Around) (outer : List Env) (s : Shared) (H : Hp) (vs : List V) (Q : VK) (E : XK), Room k (A.deeper (envOfC qual scope s.heap.objs.size f cdv)) → sp vs H Q E →
      ∃ t, PSs (cxOf CX P w K mg base N qual scope f cdv A outer s H E) body t ∧ t { nx := fun _ H' => Q .non H', rt := Q } (start N vs) H) :
    FnOk P w K mg base CX (k + 1) f (PySem.W.fnOf name qual params body scope dV kV doc pm an cdv ct) ps sp := by
  refine ⟨len, fun A outer s H args us vs Q E hr e0 hb r hsp => ?_⟩
  have hl := len _ _ _ _ hsp
  have KX : K.In s.heap := e0.mod.kin.keeps fun b o e => (e0.bs b o e).1
  have lim : s.heap.NoLimit := e0.mod.nolimit.keeps fun b o e => (e0.bs b o e).1
  have hkind : ∀ y ∈ ps.zip us, scope.names.lookup y.1 = some .local ∨ (scope.names.lookup y.1 = some .cell ∧ ((cellsFrom (s.heap.objs.size + 1) scope.names []).lookup y.1).isSome = true) := fun ⟨n, v⟩ hy => by
    rcases S.par n (List.of_mem_zip hy).1 with q | q
    · exact .inl q
    · exact .inr ⟨q, PySem.W.cellsFrom_some _ _ _ (.inl q)⟩
  refine codeAny_call_function hr.depth (KX _ _ lk) rfl S.co S.gen rfl (PySem.W.codeRec_of KX hcd) (hb _ _ _ _ ?_)
  refine wpAny_newFunctionEnv_cells S.kind hkind fun env he s1 x => ?_
  subst he
  refine ⟨lim.keeps x.toInCall.keep, codeAny_func ?_⟩
  obtain ⟨t, ht, hq⟩ := hbody A outer s H vs Q E (hr.deeper _) hsp
  have I : Inv (cxOf CX P w K mg base N qual scope f cdv A outer s H E) [] (start N vs) H s1 := inv_start S hr.hd e0 hl r x
  refine wpAny_mono (ht [] s1 (start N vs) H _ I hq) (fun fl s' hs => ?_) fun e s' hs => hs
  have fin : ∀ {σ' : St} {H' : Hp} {v : V} {u : Value}, Inv (cxOf CX P w K mg base N qual scope f cdv A outer s H E) [] σ' H' s' → RelV v u → Q v H' → CE outer P w H s Q u s' :=
    fun {σ' H' v u} J rv q => ⟨v, H', J.os, J.bare, J.base, J.hok, rv, q⟩
  cases fl with
  | ret u =>
    obtain ⟨v, σ', H', J, rv, q⟩ := hs
    exact fin J rv q
  | next =>
    obtain ⟨σ', H', J, q⟩ := hs
    exact fin (v := V.non) (u := Value.none) J rfl q
  | brk =>
    obtain ⟨_, _, _, q⟩ := hs
    exact False.elim q
  | cont =>
    obtain ⟨_, _, _, q⟩ := hs
    exact False.elim q
end L2

namespace L2
open PySem PySem.Spec PyProof.Rows
section
variable {X : Cx} {x : Str} {p pos : Pos} {e : Expr} {es : List Expr} {t : TA} {id T : String} {r : List V → Hp → VK → Prop}

noncomputable def tCB (r : List V → Hp → VK → Prop) (t : TA) : TE := fun σ H Q => t σ H fun vs H1 => r vs H1 Q
theorem pe_callB (hc : CallR X (.builtin id) r) (hg : Gl X x) (hm : X.mg x = none) (hv : bootBuiltins x = some (.builtin id)) (ha : PA X (e :: es) t) (hn : x ≠ "__name__" := by decide) (hdb : (x == ("__debug__" : Str)) = false := by decide)
    (he : starEach (e :: es) X.env = (false, eval e X.env) :: starEach es X.env := by rfl) (hpl : (backTo pos (starEach es X.env)).any (·.1) = false := by rfl) : PE X (.Call (.Name x p) (e :: es) [] pos) (tCB r t) := by
  intro pins s σ H Q I h
  refine wpAny_Call_Name_kw (ld_blt I hg hm hv ?_ hn hdb)
  exact PyProof.Rows.callWith_builtin1 (thn (ha pos pins s σ H _ I h) fun us s1 ⟨vs, H1, I1, r1, q1⟩ => hc pins s1 σ H1 vs us Q I1 r1 q1) he hpl
theorem pe_callTy (hc : CallR X (.type T) r) (hg : Gl X x) (hm : X.mg x = none) (hv : bootBuiltins x = some (.type T)) (ha : PA X (e :: es) t) (hn : x ≠ "__name__" := by decide) (hdb : (x == ("__debug__" : Str)) = false := by decide)
    (he : starEach (e :: es) X.env = (false, eval e X.env) :: starEach es X.env := by rfl) (hpl : (backTo pos (starEach es X.env)).any (·.1) = false := by rfl) : PE X (.Call (.Name x p) (e :: es) [] pos) (tCB r t) := by
  intro pins s σ H Q I h
  refine wpAny_Call_Name_kw (ld_blt I hg hm hv ?_ hn hdb)
  exact PyProof.Rows.callWith_type1 (thn (ha pos pins s σ H _ I h) fun us s1 ⟨vs, H1, I1, r1, q1⟩ => hc pins s1 σ H1 vs us Q I1 r1 q1) he hpl
end
end L2

namespace HT
open PySem PyProof.Rows

noncomputable def lexLt : List Int → List Int → Bool
  | [], [] => false
  | [], _ :: _ => true
  | _ :: _, [] => false
  | x :: xs, y :: ys => if x = y then lexLt xs ys else decide (x < y)


section
open PySem.SeqAt
open PySem.AutoSeq1 (wpAny_loadPart')
open PySem.MeetsSeq PySem.MeetsSeq2 PySem.MeetsSeq3

end

section
variable {prog : Program} {w : World} {A : Around} {E : Value → Shared → Prop} {s : Shared}


theorem cat_tup {t b : Addr} {vs ws : List Value} {Q : Value → Shared → Prop} (ht : IsTup s.heap t vs.toArray) (hb : IsTup s.heap b ws.toArray) (hv : vs ≠ [])
    (h1 : ws = [] → Q (.ref t) s) (h2 : ws ≠ [] → Q (.ref s.heap.objs.size) { s with heap := s.heap.push { cls := .type "tuple", data := .seq (vs ++ ws).toArray } })
    (hsz : vs.length + ws.length ≤ sizeLine) : wpAny (model prog w) A (binaryOp .Add (.ref t) (.ref b)) Q E s := by
  obtain ⟨⟨cls, dd, data, sl⟩, ho, hc, n, hd⟩ := id ht
  obtain ⟨⟨cls2, dd2, data2, sl2⟩, ho2, hc2, n2, hd2⟩ := id hb
  simp only at hc hd hc2 hd2
  subst hc hd hc2 hd2
  have e : vs.toArray ++ ws.toArray = (vs ++ ws).toArray := by simp
  by_cases hw : ws = []
  · exact concat_meets ⟨_, ho, rfl⟩ ⟨_, ho2, rfl⟩ noFill_tuple_add seq_tuple_add PySem.F.slot_tuple_add PySem.F.entry_tuple_add (PySem.F.args_tuple_add_2 _ _)
      (tuple_addW1 t b vs.toArray ws.toArray n n2 dd dd2 sl sl2 (by simpa using hv) (by simp [hw])) ⟨ho, ho2, h1 hw⟩
  · refine concat_meets ⟨_, ho, rfl⟩ ⟨_, ho2, rfl⟩ noFill_tuple_add seq_tuple_add PySem.F.slot_tuple_add PySem.F.entry_tuple_add (PySem.F.args_tuple_add_2 _ _)
      (tuple_addW2 t b vs.toArray ws.toArray n n2 dd dd2 sl sl2 (by simpa using hv) (by simpa using hw) (by rw [List.size_toArray, List.size_toArray]; exact hsz)) ⟨ho, ho2, ?_⟩
    rw [e]
    exact h2 hw

/-! ### t[a:b], not the whole -/
noncomputable def sIx (n d : Nat) : Option Int → Nat
  | none => d
  | some v => if v < 0 then (v + (n : Int)).toNat else min v.toNat n
theorem sIx_le (n d : Nat) (hd : d ≤ n) (o : Option Int) : sIx n d o ≤ n := by
  cases o with
  | none => exact hd
  | some v =>
    show (if v < 0 then (v + (n : Int)).toNat else min v.toNat n) ≤ n
    by_cases hv : v < 0
    · rw [if_pos hv]; omega
    · rw [if_neg hv]; exact Nat.min_le_right _ _
theorem clip_eq (v : Int) (n d : Nat) : (if v < 0 then max (v + (n : Int)) 0 else min v (n : Int)) = ((sIx n d (some v) : Nat) : Int) := by
  show (if v < 0 then max (v + (n : Int)) 0 else min v (n : Int)) = (((if v < 0 then (v + (n : Int)).toNat else min v.toNat n) : Nat) : Int)
  by_cases hv : v < 0
  · simp only [if_pos hv]; omega
  · simp only [if_neg hv]; omega
theorem adjust_gen (lo hi : Option Int) (n : Nat) : Builtin.Slice.sliceAdjust lo hi 1 (n : Int) = (((sIx n 0 lo : Nat) : Int), ((sIx n n hi : Nat) : Int)) := by
  have h1 : ¬ ((1 : Int) < 0) := by omega
  unfold Builtin.Slice.sliceAdjust
  simp only [h1, if_false]
  refine Prod.ext ?_ ?_
  · cases lo with
    | none => rfl
    | some v => exact clip_eq v n 0
  · cases hi with
    | none => rfl
    | some v => exact clip_eq v n n
theorem places_gen (i j : Nat) : Builtin.Slice.slicePlaces (i : Int) (j : Int) 1 = j - i := by
  unfold Builtin.Slice.slicePlaces
  have h1 : (1 : Int) > 0 := by omega
  simp only [h1, if_true, Int.ediv_one]
  split <;> omega
theorem slicePart_ {v : Value} {o : Option Int} {Q : Option Int → Shared → Prop} (p : IsPart v o) (h : Q o s) : wpAny (model prog w) A (Builtin.Slice.slicePartIndex v) Q E s := by
  cases p with
  | none => exact slicePart_none h
  | int i t => exact slicePart_int h
theorem sliceApplied_gen {sl : Addr} {vl vu : Value} {lo hi : Option Int} {n : Nat} {Q : Int × Int × Nat → Shared → Prop} (hs : s.heap.IsSliceOf sl vl vu .none) (pl : IsPart vl lo) (pu : IsPart vu hi)
    (h : Q (((sIx n 0 lo : Nat) : Int), 1, sIx n n hi - sIx n 0 lo) s) : wpAny (model prog w) A (Builtin.Slice.sliceApplied (.ref sl) (pure (n : Int))) Q E s := by
  obtain ⟨os, hos, hcs, hds⟩ := id hs
  unfold Builtin.Slice.sliceApplied Builtin.Slice.sliceFields
  refine wpAny_bind (wpAny_bind (wpAny_field hos hds (x := vl) rfl (wpAny_bind (wpAny_field hos hds (x := vu) rfl (wpAny_bind (wpAny_field hos hds (x := .none) rfl (wpAny_pure ?_)))))))
  refine wpAny_bind (slicePart_none ?_)
  show wpAny _ _ (if ((1 : Int) == 0) = true then _ else _) _ _ s
  rw [if_neg (by decide)]
  refine wpAny_bind (slicePart_ pl (wpAny_bind (slicePart_ pu (wpAny_bind (wpAny_pure ?_)))))
  show wpAny _ _ (match Builtin.Slice.sliceAdjust lo hi 1 (n : Int) with | (lo, hi) => pure (lo, (1 : Int), Builtin.Slice.slicePlaces lo hi 1)) _ _ s
  rw [adjust_gen lo hi n]
  show wpAny _ _ (pure (((sIx n 0 lo : Nat) : Int), (1 : Int), Builtin.Slice.slicePlaces ((sIx n 0 lo : Nat) : Int) ((sIx n n hi : Nat) : Int) 1)) _ _ s
  rw [places_gen]
  exact wpAny_pure h
theorem pick_gen (xs : Array Value) (i k : Nat) : ((List.range k).filterMap fun (m : Nat) => xs[((i : Int) + (m : Int) * 1).toNat]?).toArray = ((xs.toList.drop i).take k).toArray := by
  have e : (fun (m : Nat) => xs[((i : Int) + (m : Int) * 1).toNat]?) = fun m => xs[i + m]? := by
    funext m
    have : ((i : Int) + (m : Int) * 1).toNat = i + m := by omega
    rw [this]
  rw [e]
  have := pick_run xs i k
  rw [List.filterMap_map] at this
  have e2 : ((fun x => xs[x]?) ∘ fun x => i + x) = fun m => xs[i + m]? := rfl
  rw [e2] at this
  rw [this]

theorem getItem_tuple_cut {t sl : Addr} {items : Array Value} {vl vu : Value} {lo hi : Option Int} {Q : Value → Shared → Prop} (ht : IsTup s.heap t items) (hs : s.heap.IsSliceOf sl vl vu .none) (pl : IsPart vl lo) (pu : IsPart vu hi)
    (hw : ¬ (sIx items.size 0 lo = 0 ∧ sIx items.size items.size hi = items.size))
    (h : Q (.ref s.heap.objs.size) { s with heap := s.heap.push { cls := .type "tuple", data := .seq ((items.toList.drop (sIx items.size 0 lo)).take (sIx items.size items.size hi - sIx items.size 0 lo)).toArray } })
    (hsz : items.size ≤ sizeLine) : wpAny (model prog w) A (getItem (.ref t) (.ref sl)) Q E s := by
  have htake : sizeOk (.seq ((items.toList.drop (sIx items.size 0 lo)).take (sIx items.size items.size hi - sIx items.size 0 lo)).toArray) := by
    show ((items.toList.drop (sIx items.size 0 lo)).take (sIx items.size items.size hi - sIx items.size 0 lo)).toArray.size ≤ sizeLine
    rw [List.size_toArray, List.length_take, List.length_drop, Array.length_toList]
    omega
  have hj : sIx items.size items.size hi ≤ items.size := sIx_le _ _ (Nat.le_refl _) hi
  obtain ⟨os, hos, hcs, hds⟩ := id hs
  have hTs : s.TypeIs (.ref sl) "slice" := ⟨os, hos, hcs⟩
  unfold getItem
  try with_reducible refine wpAny_holding ?_
  first | refine wpAny_bind (wpAny_pure ?_) | skip
  refine wpAny_bind (wpAny_sequenceKey ht.typeIs (by decide) ?_)
  refine wpAny_bind (wpAny_callSpecial?_slot (name := Str.ofString "__getitem__") ht.typeIs PyProof.Rows.slot_tuple_getitem
    (wpAny_call_entry PyProof.Rows.slot_tuple_getitem ht.typeIs entry_tuple_getitem ?_ (args_tuple_getitem _ _)))
  show wpAny _ _ (Builtin.Tuple.tupleItemsOf (.ref t) >>= _) _ _ s
  refine wpAny_bind (tupleItemsOf_ ht ?_)
  refine wpAny_bind (wpAny_typeOf hTs ?_)
  rw [if_pos (by decide)]
  refine wpAny_bind (sliceApplied_gen hs pl pu ?_)
  have hno : ¬ ((((sIx items.size 0 lo : Nat) : Int) == 0 && (1 : Int) == 1 && (sIx items.size items.size hi - sIx items.size 0 lo) == items.size) = true) := by
    intro q
    rw [Bool.and_eq_true, Bool.and_eq_true] at q
    have q1 : ((sIx items.size 0 lo : Nat) : Int) = 0 := eq_of_beq q.1.1
    have q2 : sIx items.size items.size hi - sIx items.size 0 lo = items.size := eq_of_beq q.2
    exact hw ⟨by omega, by omega⟩
  show wpAny _ _ (if (((sIx items.size 0 lo : Nat) : Int) == 0 && (1 : Int) == 1 && (sIx items.size items.size hi - sIx items.size 0 lo) == items.size) = true then _ else _) _ _ s
  rw [if_neg hno, pick_gen]
  first
    | exact wpAny_bind (m := Builtin.Tuple.tupleExact _) (wpAny_newObj_type (wpAny_pure ⟨_, rfl, wpAny_pure h⟩) htake)
    | exact wpAny_bind (m := Builtin.Tuple.tupleExact _) (wpAny_newObj_type (wpAny_bind (wpAny_pure (wpAny_pure ⟨_, rfl, wpAny_pure h⟩))) htake)
    | exact wpAny_bind (wpAny_bind (m := Builtin.Tuple.tupleExact _) (wpAny_newObj_type (wpAny_pure (wpAny_pure ⟨_, rfl, wpAny_pure h⟩)) htake))
    | exact wpAny_bind (wpAny_bind (m := Builtin.Tuple.tupleExact _) (wpAny_newObj_type (wpAny_pure ⟨_, rfl, wpAny_pure h⟩) htake))
end
end HT

namespace L2
open PySem PySem.Spec PyProof.Rows

/-! ### the parts of a slice -/
noncomputable abbrev TO := St → Hp → (Option Int → Hp → Prop) → Prop
noncomputable def PO (X : Cx) (e : Option Expr) (t : TO) : Prop :=
  ∀ (pins : List (Addr × Obj)) (s : Shared) (σ : St) (H : Hp) (Q : Option Int → Hp → Prop), Inv X pins σ H s → t σ H Q →
    wpAny (model X.prog X.w) X.A (evalPart e X.env) (fun u s' => ∃ o H', Inv X pins σ H' s' ∧ IsPart u o ∧ Q o H') X.xe s
noncomputable def tNoPart : TO := fun _ H Q => Q none H
noncomputable def tPart (t : TE) : TO := fun σ H Q => t σ H fun x H1 => ∃ i, x = .int i ∧ Q (some i) H1

theorem intsAre_of {ns : List Int} : ∀ {us : List Value}, Vals (ns.map V.int) us → IntsAre us ns := by
  induction ns with
  | nil => intro us r; rw [List.map_nil] at r; cases r; exact .nil
  | cons n ns ih =>
    intro us r
    rw [List.map_cons] at r
    cases r with
    | cons r1 r2 =>
      obtain ⟨t, e⟩ := r1
      subst e
      exact .cons n t (ih r2)

section
variable {X : Cx} {e : Expr} {te : TE} {lo hi : Option Expr} {tl th : TO} {pos p2 : Pos}

theorem po_none : PO X none tNoPart := by
  intro pins s σ H Q I h
  rw [evalPart_none]
  exact wpAny_pure ⟨none, H, I, .none, h⟩
theorem po_some (h : PE X e te) : PO X (some e) (tPart te) := by
  intro pins s σ H Q I hw
  rw [evalPart_some]
  refine thn (h pins s σ H _ I hw) fun u s1 ⟨x, H1, I1, r1, q1⟩ => ?_
  obtain ⟨i, rfl, q⟩ := q1
  obtain ⟨t, rfl⟩ := r1
  exact ⟨some i, H1, I1, .int i t, q⟩

noncomputable def SlR (X : Cx) (r : V → Option Int → Option Int → Hp → VK → Prop) : Prop :=
  ∀ (pins : List (Addr × Obj)) (s : Shared) (σ : St) (H : Hp) (x : V) (v vl vu : Value) (lo hi : Option Int) (sl : Addr) (Q : VK), Inv X pins σ H s → RelV x v → s.heap.IsSliceOf sl vl vu .none → IsPart vl lo → IsPart vu hi → r x lo hi H Q →
    ∃ T id, typeLookup (.type T) "__getitem__" = pure (some (.builtin id)) ∧ s.TypeIs v T ∧ wpAny (model X.prog X.w) X.A (getItem v (.ref sl)) (EP X pins σ Q) X.xe s
noncomputable def tSl (r : V → Option Int → Option Int → Hp → VK → Prop) (te : TE) (tl th : TO) : TE := fun σ H Q => te σ H fun x H1 => tl σ H1 fun l H2 => th σ H2 fun u H3 => r x l u H3 Q
theorem pe_slice {r : V → Option Int → Option Int → Hp → VK → Prop} (hr : SlR X r) (he : PE X e te) (hl : PO X lo tl) (hu : PO X hi th) : PE X (.Subscript e (.Slice lo hi none p2) pos) (tSl r te tl th) := by
  intro pins s σ H Q I h
  refine Subscript_ (thn (he pins s σ H _ I h) fun v s1 ⟨x, H1, I1, r1, q1⟩ => ?_)
  refine wpAny_Slice (thn (hl pins s1 σ H1 _ I1 q1) fun vl s2 ⟨l, H2, I2, pl, q2⟩ => thn (hu pins s2 σ H2 _ I2 q2) fun vu s3 ⟨u, H3, I3, pu, q3⟩ => ?_)
  rw [evalPart_none]
  refine wpAny_pure ?_
  have I4 : Inv X pins σ H3 { s3 with heap := s3.heap.push { cls := .type "slice", data := .fields #[vl, vu, .none] } } := I3.kept (t' := s3.toks) fun b ob q => Heap.get?_push_of_some _ q
  obtain ⟨T, id, hT, ht, hg⟩ := hr pins { s3 with heap := s3.heap.push { cls := .type "slice", data := .fields #[vl, vu, .none] } } σ H3 x v vl vu l u s3.heap.objs.size Q I4 r1 (Heap.IsSliceOf.new ..) pl pu q3
  show wpAny (model X.prog X.w) X.A (subscriptTail e (.Slice lo hi none p2) v (.ref s3.heap.objs.size)) (EP X pins σ Q) X.xe { s3 with heap := s3.heap.push { cls := .type "slice", data := .fields #[vl, vu, .none] } }
  exact tail_any (ops := [.ref s3.heap.objs.size, v]) ht hT hg (by with_unfolding_all rfl)

noncomputable def cutV (xs : List V) (lo hi : Option Int) : List V := (xs.drop (HT.sIx xs.length 0 lo)).take (HT.sIx xs.length xs.length hi - HT.sIx xs.length 0 lo)
theorem cutV_length (xs : List V) (lo hi : Option Int) : (cutV xs lo hi).length ≤ xs.length := by
  unfold cutV
  rw [List.length_take, List.length_drop]
  omega
noncomputable def rSlT (K : PySem.W.Frag) : V → Option Int → Option Int → Hp → VK → Prop := fun x lo hi H Q => ∃ a xs, x = .ref a ∧ SqT K H a xs ∧
  ¬ (HT.sIx xs.length 0 lo = 0 ∧ HT.sIx xs.length xs.length hi = xs.length) ∧ ∀ p, H p = none → Q (.ref p) (upd H p (.tup (cutV xs lo hi)))
theorem sl_tup : SlR X (rSlT X.K) := by
  intro pins s σ H x v vl vu lo hi sl Q I rx hs pl pu h
  obtain ⟨a, xs, rfl, hx, hw, q⟩ := h
  cases rx
  obtain ⟨its, r, ht, hz⟩ := I.tuple hx
  have hlen : its.toArray.size = xs.length := by rw [List.size_toArray]; exact r.length.symm
  refine ⟨"tuple", _, PyProof.Rows.slot_tuple_getitem.lookup, ht.typeIs, ?_⟩
  refine HT.getItem_tuple_cut ht hs pl pu (by rw [hlen]; exact hw) ?_ (by rw [hlen]; exact hz)
  rw [hlen]
  refine ⟨.ref s.heap.objs.size, _, I.laid (t' := s.toks) (o := .tup (cutV xs lo hi)) (fun b ob q => Heap.get?_push_of_some _ q) (Nat.le_refl _) ?_, rfl, q _ (I.hok.fresh (Nat.le_refl _))⟩
  exact ⟨Nat.le_trans (cutV_length xs lo hi) hz, _, (r.drop (HT.sIx xs.length 0 lo)).take (HT.sIx xs.length xs.length hi - HT.sIx xs.length 0 lo), IsTup.new _ _⟩

/-! ### t < u, t + u -/
noncomputable def rLtT (K : PySem.W.Frag) : R2 := fun x y H Q => ∃ a b ns ms, x = .ref a ∧ y = .ref b ∧ SqT K H a (ns.map V.int) ∧ SqT K H b (ms.map V.int) ∧ Q (.bl (HT.lexLt ns ms)) H
noncomputable def rCatT (K : PySem.W.Frag) : R2 := fun x y H Q => ∃ a b xs ys, x = .ref a ∧ y = .ref b ∧ SqT K H a xs ∧ SqT K H b ys ∧ xs ≠ [] ∧ xs.length + ys.length ≤ sizeLine ∧
  (ys = [] → Q (.ref a) H) ∧ (ys ≠ [] → ∀ p, H p = none → Q (.ref p) (upd H p (.tup (xs ++ ys))))
theorem Vals.nil_iff {xs : List V} {us : List Value} (r : Vals xs us) : us = [] ↔ xs = [] := by
  cases r with
  | nil => simp
  | cons _ _ => simp
theorem op_catT : OpR X (binaryOp .Add) (rCatT X.K) := by
  intro pins s σ H x y v u Q I rx ry h
  obtain ⟨a, b, xs, ys, rfl, rfl, ha, hb, hx, hz, q1, q2⟩ := h
  cases rx
  cases ry
  obtain ⟨its, r1, p1, _⟩ := I.tuple ha
  obtain ⟨its2, r2, p2, _⟩ := I.tuple hb
  refine HT.cat_tup p1 p2 (fun z => hx (r1.nil_iff.mp z)) (fun z => ⟨.ref a, H, I, rfl, q1 (r2.nil_iff.mp z)⟩) (fun z => ?_) (by rw [← r1.length, ← r2.length]; exact hz)
  refine ⟨.ref s.heap.objs.size, _, I.laid (t' := s.toks) (o := .tup (xs ++ ys)) (fun b ob q => Heap.get?_push_of_some _ q) (Nat.le_refl _) ?_, rfl, q2 (fun w => z (r2.nil_iff.mpr w)) _ (I.hok.fresh (Nat.le_refl _))⟩
  exact ⟨by rw [List.length_append]; exact hz, _, r1.append r2, IsTup.new _ _⟩
end
end L2

namespace L2
open PySem PySem.Spec PyProof.Rows

/-! ### places -/
noncomputable def ixN (n : Nat) (i : Int) : Option Nat := if 0 ≤ i then (if i < n then some i.toNat else none) else if -(n : Int) ≤ i then some (i + n).toNat else none
noncomputable def atI {α : Type} (xs : List α) (i : Int) : Option α := (ixN xs.length i).bind fun j => xs[j]?
theorem ixN_seq {n : Nat} {i : Int} {j : Nat} (h : ixN n i = some j) : seqIndex? i n = some j ∧ j < n ∧ -(n : Int) ≤ i ∧ i < n := by
  unfold ixN at h
  by_cases h0 : 0 ≤ i
  · rw [if_pos h0] at h
    by_cases h1 : i < n
    · rw [if_pos h1] at h
      have e : i.toNat = j := Option.some.inj h
      exact ⟨by rw [seqIndex_of h0 h1, e], by omega, by omega, h1⟩
    · rw [if_neg h1] at h; cases h
  · rw [if_neg h0] at h
    by_cases h1 : -(n : Int) ≤ i
    · rw [if_pos h1] at h
      have e : (i + n).toNat = j := Option.some.inj h
      exact ⟨by rw [seqIndex_neg (by omega) h1, e], by omega, h1, by omega⟩
    · rw [if_neg h1] at h; cases h
theorem atI_get {α : Type} {xs : List α} {i : Int} {v : α} (h : atI xs i = some v) : ∃ j, seqIndex? i xs.length = some j ∧ xs[j]? = some v ∧ j < xs.length ∧ -(xs.length : Int) ≤ i ∧ i < xs.length := by
  unfold atI at h
  cases e : ixN xs.length i with
  | none => rw [e] at h; cases h
  | some j =>
    rw [e] at h
    obtain ⟨h1, h2, h3, h4⟩ := ixN_seq e
    exact ⟨j, h1, h, h2, h3, h4⟩

/-! ### what may be subscripted -/
noncomputable def PlainIx (b : Expr) : Prop := ∀ o i, subscripted b false o i = operate [o, i] (getItem o i)
noncomputable def IxR (X : Cx) (r : R2) : Prop :=
  ∀ (value slice : Expr) (pins : List (Addr × Obj)) (s : Shared) (σ : St) (H : Hp) (x y : V) (v u : Value) (Q : VK), Inv X pins σ H s → RelV x v → RelV y u → r x y H Q →
    subscripted slice false v u = operate [v, u] (getItem v u) → wpAny (model X.prog X.w) X.A (subscriptTail value slice v u) (EP X pins σ Q) X.xe s
noncomputable def MtR (X : Cx) (id : String) (r : V → List V → Hp → VK → Prop) : Prop :=
  ∀ (pins : List (Addr × Obj)) (s : Shared) (σ : St) (H : Hp) (x : V) (xs : List V) (v : Value) (us : List Value) (Q : VK), Inv X pins σ H s → RelV x v → Vals xs us → r x xs H Q →
    wpAny (model X.prog X.w) X.A (call (.builtin id) (v :: us)) (EP X pins σ Q) X.xe s
section
variable {X : Cx} {a b : Expr} {ta tb : TE} {pos : Pos}
theorem pe_ix {r : R2} (hr : IxR X r) (ha : PE X a ta) (hb : PE X b tb) (hs : PlainIx b) : PE X (.Subscript a b pos) (tOp r ta tb) := by
  intro pins s σ H Q I h
  exact Subscript_ (binT ha hb I h fun v u s2 x y H2 I2 rx ry q => hr a b pins s2 σ H2 x y v u Q I2 rx ry q (hs _ _))

noncomputable def rIxL (K : PySem.W.Frag) : R2 := fun x y H Q => ∃ p xs i v, x = .ref p ∧ y = .int i ∧ SqL K H p xs ∧ atI xs i = some v ∧ Q v H
noncomputable def rIxT (K : PySem.W.Frag) : R2 := fun x y H Q => ∃ p xs i v, x = .ref p ∧ y = .int i ∧ SqT K H p xs ∧ atI xs i = some v ∧ Q v H
noncomputable def rIxS : R2 := fun x y H Q => ∃ z i c, x = .str z ∧ y = .int i ∧ z.length ≤ sizeLine ∧ atI z.cps.toList i = some c ∧ Q (.str ⟨#[c]⟩) H
theorem ix_list : IxR X (rIxL X.K) := by
  intro value slice pins s σ H x y v u Q I rx ry h hs
  obtain ⟨p, xs, i, z, rfl, rfl, hq, he, q⟩ := h
  cases rx
  obtain ⟨t, rfl⟩ := ry
  obtain ⟨its, r, pl, hz⟩ := I.list hq
  obtain ⟨j, h1, h2, h3, h4, h5⟩ := atI_get he
  obtain ⟨w, ew, rw'⟩ := r.get h2
  have hl := r.length
  have hn := line63
  have fin : EP X pins σ Q w s := ⟨z, H, I, rw', q⟩
  by_cases h0 : 0 ≤ i
  · have hj : i.toNat = j := by
      rw [seqIndex_of h0 h5] at h1
      exact Option.some.inj h1
    exact item_listR pl.isList h0 (by omega) (by rw [hj]; simpa using ew) fin hs
  · have hj : (i + (its.toArray.size : Int)).toNat = j := by
      rw [seqIndex_neg (by omega) h4] at h1
      rw [List.size_toArray, ← hl]
      exact Option.some.inj h1
    exact subscriptTail_builtinR (x := w) pl.isList.typeIs slot_list_getitem.lookup
      (wpAny_getItem_list_neg (Q := fun r s' => r = w ∧ EP X pins σ Q r s') pl.isList (by omega) (by rw [List.size_toArray] <;> omega) (by omega) (by rw [hj]; simpa using ew) ⟨rfl, fin⟩) hs
theorem ix_tup : IxR X (rIxT X.K) := by
  intro value slice pins s σ H x y v u Q I rx ry h hs
  obtain ⟨p, xs, i, z, rfl, rfl, hq, he, q⟩ := h
  cases rx
  obtain ⟨t, rfl⟩ := ry
  obtain ⟨its, r, pl, hz⟩ := I.tuple hq
  obtain ⟨j, h1, h2, h3, h4, h5⟩ := atI_get he
  obtain ⟨w, ew, rw'⟩ := r.get h2
  have hl := r.length
  have hn := line63
  have fin : EP X pins σ Q w s := ⟨z, H, I, rw', q⟩
  exact subscriptTail_builtinR (x := w) pl.typeIs slot_tuple_getitem.lookup
    (getItem_tuple (j := j) (Q := fun r s' => r = w ∧ EP X pins σ Q r s') pl (by omega) (by omega) (by rw [List.size_toArray, ← hl]; exact h1) (by simpa using ew) ⟨rfl, fin⟩) hs
noncomputable def rIx (K : PySem.W.Frag) : R2 := fun x y H Q => rIxL K x y H Q ∨ rIxT K x y H Q ∨ rIxS x y H Q

/-! ### xs[i] = v, any sign -/
theorem mapSeq_set (its : List Value) (n j : Nat) (u : Value) : Obj.mapSeq (·.setIfInBounds j u) { cls := .type "list", data := .seq its.toArray n } = { cls := .type "list", data := .seq (its.set j u).toArray n } := by
  simp [Obj.mapSeq]
theorem Inv.lst {pins : List (Addr × Obj)} {σ : St} {H : Hp} {s : Shared} {p : Addr} {xs : List V} (I : Inv X pins σ H s) (h : H p = some (.lst xs)) :
    ∃ (its : List Value) (n : Nat), Vals xs its ∧ s.heap.get? p = some { cls := .type "list", data := .seq its.toArray n } ∧ xs.length ≤ sizeLine := by
  obtain ⟨z, its, n, r, e⟩ := I.hok p _ h
  exact ⟨its, n, r, e, z⟩
theorem Inv.lstUpd {pins : List (Addr × Obj)} {σ : St} {H : Hp} {s : Shared} {p : Addr} {xs ys : List V} {its its' : List Value} {n n' : Nat} {f : Obj → Obj} (I : Inv X pins σ H s) (h : H p = some (.lst xs))
    (ho : s.heap.get? p = some { cls := .type "list", data := .seq its.toArray n }) (hf : f { cls := .type "list", data := .seq its.toArray n } = { cls := .type "list", data := .seq its'.toArray n' }) (r : Vals ys its') (hz : ys.length ≤ sizeLine) (t : Nat) :
    Inv X pins σ (upd H p (.lst ys)) { s with heap := s.heap.update p f, toks := t } := by
  have e : (s.heap.update p f).get? p = some { cls := .type "list", data := .seq its'.toArray n' } := by
    rw [Heap.get?_update_self f ho (by rw [hf] <;> rfl), hf]
  refine I.write (x := p) (e := p) (by rw [h]; trivial) (.inl rfl) (fun b u hb q => (Heap.get?_update_other _ _ (Ne.symm hb)).trans q) ⟨_, e⟩ ?_
  exact ⟨hz, its', n', r, e⟩
noncomputable def rSetL : V → V → V → Hp → (Hp → Prop) → Prop := fun o i v H Q => ∃ p xs k j, o = .ref p ∧ i = .int k ∧ H p = some (.lst xs) ∧ ixN xs.length k = some j ∧ Q (upd H p (.lst (xs.set j v)))
theorem set_list : PSet X rSetL := by
  intro pins s σ H o i v ov iv u Q I ro ri rv h
  obtain ⟨p, xs, k, j, rfl, rfl, hp, hj, q⟩ := h
  cases ro
  obtain ⟨t, rfl⟩ := ri
  obtain ⟨its, n, r, ho, hz⟩ := I.lst hp
  obtain ⟨h1, h2, h3, h4⟩ := ixN_seq hj
  have hl := r.length
  have hn := line63
  have I' : Inv X pins σ (upd H p (.lst (xs.set j v))) { s with heap := s.heap.update p (Obj.mapSeq (·.setIfInBounds j u)) } :=
    I.lstUpd hp ho (mapSeq_set its n j u) (r.set rv j) (by rw [List.length_set]; exact hz) s.toks
  by_cases h0 : 0 ≤ k
  · have hk : k.toNat = j := by
      rw [seqIndex_of h0 h4] at h1
      exact Option.some.inj h1
    exact PySem.W.ki_setAt ho h0 (by omega) (by rw [List.size_toArray, ← hl]; exact h4) (by rw [hk]; exact ⟨_, I', q⟩)
  · have hk : (k + (its.toArray.size : Int)).toNat = j := by
      rw [seqIndex_neg (by omega) h3] at h1
      rw [List.size_toArray, ← hl]
      exact Option.some.inj h1
    exact PySem.W.ki_setBack ho (by omega) (by rw [List.size_toArray, ← hl]; exact h3) (by omega) (by rw [hk]; exact ⟨_, I', q⟩)

/-! ### slices -/
noncomputable def rSlL (K : PySem.W.Frag) : V → Option Int → Option Int → Hp → VK → Prop := fun x lo hi H Q => ∃ a xs, x = .ref a ∧ SqL K H a xs ∧ ∀ p, H p = none → Q (.ref p) (upd H p (.lst (cutV xs lo hi)))

/-! ### in, not in: flat items -/
noncomputable def flatV : V → Bool
  | .non => true
  | .bl _ => true
  | .int _ => true
  | .str _ => true
  | _ => false
noncomputable def eqV : V → V → Bool
  | .non, .non => true
  | .bl a, .bl b => a == b
  | .bl a, .int b => (if a then 1 else 0) == b
  | .int a, .bl b => a == (if b then 1 else 0)
  | .int a, .int b => a == b
  | .str a, .str b => a == b
  | _, _ => false
noncomputable def eqU (x : V) (u : Value) : Bool := match u with
  | .none => eqV .non x
  | .bool b => eqV (.bl b) x
  | .int i _ => eqV (.int i) x
  | .str z _ => eqV (.str z) x
  | _ => false
noncomputable def inV (x : V) (xs : List V) : Bool := xs.any fun y => eqV y x
noncomputable def rIn (K : PySem.W.Frag) (neg : Bool) : R2 := fun x y H Q => ∃ p xs, y = .ref p ∧ (SqL K H p xs ∨ SqT K H p xs) ∧ flatV x = true ∧ xs.all flatV = true ∧ Q (.bl (if neg then !inV x xs else inV x xs)) H

/-! ### len, list(x), tuple(x) of any list or tuple that is read -/
theorem call_len_seq : CallR X (.builtin "len") (fun xs H Q => ∃ p ys, xs = [.ref p] ∧ (SqL X.K H p ys ∨ SqT X.K H p ys) ∧ Q (.int ys.length) H) := by
  intro pins s σ H xs us Q I r h
  obtain ⟨p, ys, rfl, hq, q⟩ := h
  obtain ⟨u, rfl, rx⟩ := vals1 r
  cases rx
  have hn := line63
  rcases hq with hq | hq
  · obtain ⟨its, r', pl, hz⟩ := I.list hq
    have hlen := r'.length
    exact Calls.call_len_list pl.isList (by simp only [List.size_toArray] <;> omega) ⟨.int ys.length, H, I.tok _, ⟨s.toks + 1, by rw [List.size_toArray, hlen]⟩, q⟩
  · obtain ⟨its, r', pl, hz⟩ := I.tuple hq
    have hlen := r'.length
    exact len_tuple pl (by simp only [List.size_toArray] <;> omega) ⟨.int ys.length, H, I.tok _, ⟨s.toks + 1, by rw [List.size_toArray, hlen]⟩, q⟩
theorem call_len_str : CallR X (.builtin "len") (fun xs H Q => ∃ z, xs = [.str z] ∧ z.length ≤ sizeLine ∧ Q (.int z.length) H) := by
  intro pins s σ H xs us Q I r h
  obtain ⟨z, rfl, hz, q⟩ := h
  obtain ⟨u, rfl, t, rfl⟩ := vals1 r
  have hn := line63
  exact len_str (by omega) ⟨.int z.length, H, I.tok _, ⟨_, rfl⟩, q⟩
theorem call_list_of : CallR X (.type "list") (fun xs H Q => ∃ p ys, xs = [.ref p] ∧ (SqL X.K H p ys ∨ SqT X.K H p ys) ∧ ∀ l, H l = none → Q (.ref l) (upd H l (.lst ys))) := by
  intro pins s σ H xs us Q I r h
  obtain ⟨p, ys, rfl, hq, q⟩ := h
  obtain ⟨u, rfl, rx⟩ := vals1 r
  cases rx
  have fin : ∀ (its : List Value), Vals ys its → ys.length ≤ sizeLine → ∀ (h' : Heap) (c' : Nat), (∀ b o', s.heap.get? b = some o' → h'.get? b = some o') →
      h'.get? s.heap.objs.size = some { cls := .type "list", dict := none, data := .seq its.toArray c', slots := #[] } → EP X pins σ Q (.ref s.heap.objs.size) { s with heap := h' } := fun its r' hz h' c' kp e =>
    ⟨.ref s.heap.objs.size, _, I.laid (t' := s.toks) kp (Nat.le_refl _) (show ObjOk X.prog X.w _ h' _ (.lst ys) from ⟨hz, its, c', r', e⟩), rfl, q _ (I.hok.fresh (Nat.le_refl _))⟩
  rcases hq with hq | hq
  · obtain ⟨its, r', pl, hz⟩ := I.list hq
    have hlen := r'.length
    obtain ⟨o, ho, hc, n, hd⟩ := pl.isList
    exact call_list_seq p (.inl rfl) ho hc hd (fun h' c' kp e => fin its r' hz h' c' kp e) (by simp only [List.size_toArray] <;> omega)
  · obtain ⟨its, r', pl, hz⟩ := I.tuple hq
    have hlen := r'.length
    obtain ⟨o, ho, hc, n, hd⟩ := pl
    exact call_list_seq p (.inr rfl) ho hc hd (fun h' c' kp e => fin its r' hz h' c' kp e) (by simp only [List.size_toArray] <;> omega)
theorem call_tuple_of : CallR X (.type "tuple") (fun xs H Q => ∃ p ys, xs = [.ref p] ∧ ((SqL X.K H p ys ∧ ∀ l, H l = none → Q (.ref l) (upd H l (.tup ys))) ∨ (SqT X.K H p ys ∧ Q (.ref p) H))) := by
  intro pins s σ H xs us Q I r h
  obtain ⟨p, ys, rfl, h⟩ := h
  obtain ⟨u, rfl, rx⟩ := vals1 r
  cases rx
  rcases h with ⟨hq, q⟩ | ⟨hq, q⟩
  · obtain ⟨its, r', pl, hz⟩ := I.list hq
    have hlen := r'.length
    refine call_tuple_list pl.isList (fun h' kp => ?_) (by simp only [List.size_toArray] <;> omega)
    have I1 : Inv X pins σ H { s with heap := h' } := I.kept (t' := s.toks) kp
    have I2 : Inv X pins σ (upd H h'.objs.size (.tup ys)) { s with heap := h'.push { cls := .type "tuple", data := .seq its.toArray } } :=
      I1.laid (t' := s.toks) (fun b o e => Heap.get?_push_of_some _ e) (Nat.le_refl _) (show ObjOk X.prog X.w _ _ _ (.tup ys) from ⟨hz, its, r', IsTup.new _ _⟩)
    exact ⟨.ref h'.objs.size, _, I2, rfl, q _ (I1.hok.fresh (Nat.le_refl _))⟩
  · obtain ⟨its, r', pl, hz⟩ := I.tuple hq
    exact call_tuple_same pl ⟨.ref p, H, I, rfl, q⟩

/-! ### the call of a builtin's method: o.m(..) -/
noncomputable def tyV (K : PySem.W.Frag) (T : String) (x : V) (H : Hp) : Prop := match x with
  | .str _ => T = "str"
  | .int _ => T = "int"
  | .ref p => (T = "list" ∧ ∃ xs, SqL K H p xs) ∨ (T = "tuple" ∧ ∃ o, K.lookup p = some o ∧ o.cls = .type "tuple" ∧ o.dict = none) ∨
      (T = "dict" ∧ ((∃ kvs, H p = some (.dK kvs)) ∨ ∃ kvs, H p = some (.dT kvs))) ∨ (T = "set" ∧ ∃ S n, H p = some (.set S n))
  | _ => False
theorem tyV_is {pins : List (Addr × Obj)} {σ : St} {H : Hp} {s : Shared} {T : String} {x : V} {v : Value} (I : Inv X pins σ H s) (r : RelV x v) (ty : tyV X.K T x H) :
    s.TypeIs v T ∧ ∀ a, v = .ref a → ∃ ob, s.heap.get? a = some ob ∧ ob.dict = none := by
  cases x with
  | str z =>
    obtain ⟨t, rfl⟩ := r
    cases (show T = "str" from ty)
    exact ⟨typeIs_str s z t, fun _ e => nomatch e⟩
  | int i =>
    obtain ⟨t, rfl⟩ := r
    cases (show T = "int" from ty)
    exact ⟨typeIs_int s i t, fun _ e => nomatch e⟩
  | ref p =>
    cases r
    rcases ty with ⟨rfl, xs, hq⟩ | ⟨rfl, o, hk, hc, hd⟩ | ⟨rfl, hk⟩ | ⟨rfl, S, n, hk⟩
    · obtain ⟨its, _, pl, _⟩ := I.list hq
      refine ⟨pl.isList.typeIs, fun a e => ?_⟩
      cases e
      obtain ⟨o, n, e, c, hd, _⟩ := pl
      exact ⟨o, e, hd⟩
    · refine ⟨⟨o, I.kIn p o hk, hc⟩, fun a e => ?_⟩
      cases e
      exact ⟨o, I.kIn _ o hk, hd⟩
    · have z : ∃ o, s.heap.get? p = some o ∧ o.ExactDict := by
        rcases hk with ⟨kvs, hk⟩ | ⟨kvs, hk⟩
        · obtain ⟨_, _, _, _, o, _, _, e, ex, _⟩ := I.hok p _ hk
          exact ⟨o, e, ex⟩
        · obtain ⟨_, _, _, _, o, _, _, e, ex, _⟩ := I.hok p _ hk
          exact ⟨o, e, ex⟩
      obtain ⟨o, e, ex⟩ := z
      refine ⟨⟨o, e, ex.1⟩, fun a e2 => ?_⟩
      cases e2
      exact ⟨o, e, ex.2.1⟩
    · obtain ⟨o, _, _, _, e, ex, _⟩ := I.hok p _ hk
      refine ⟨⟨o, e, ex.1⟩, fun a e2 => ?_⟩
      cases e2
      exact ⟨o, e, ex.2.1⟩
  | _ => exact False.elim ty
noncomputable def tBM0 (K : PySem.W.Frag) (T : String) (r : V → List V → Hp → VK → Prop) (to : TE) : TE := fun σ H Q => to σ H fun x H1 => tyV K T x H1 ∧ r x [] H1 Q
noncomputable def tBM (K : PySem.W.Frag) (T : String) (r : V → List V → Hp → VK → Prop) (to : TE) (t : TA) : TE := fun σ H Q => to σ H fun x H1 => tyV K T x H1 ∧ t σ H1 fun xs H2 => r x xs H2 Q
variable {o e : Expr} {es : List Expr} {to : TE} {t : TA} {name : Str} {apos cpos : Pos} {T id : String} {r : V → List V → Hp → VK → Prop}
theorem pe_bm (pa : PlainAttrs T) (slot : Slot T name id) (hty : typeOf (.builtin id) = pure (.type "method_descriptor")) (hm : MtR X id r) (ho : PE X o to) (ha : PA X (e :: es) t)
    (hbase : attributeBase o name X.env (eval o X.env) = eval o X.env := by rfl)
    (hfew : ((backTo cpos (starEach (e :: es) X.env)).all (fun x => !x.1) && (backToKw cpos (keywordEach [] X.env)).all (fun x => x.1.isSome)
      && decide ((e :: es).length + ([] : List Keyword).length + (if ([] : List Keyword).isEmpty then 0 else 1) < 30)) = true := by rfl)
    (hline : (apos.endLine == cpos.line) = true := by rfl) (hs : starEach (e :: es) X.env = (false, eval e X.env) :: starEach es X.env := by rfl) (hplain : (backTo cpos (starEach es X.env)).any (·.1) = false := by rfl) :
    PE X (.Call (.Attribute o name apos) (e :: es) [] cpos) (tBM X.K T r to t) := by
  intro pins s σ H Q I h
  refine wpAny_Call_method_late hbase hfew hline rfl (thn (ho pins s σ H _ I h) fun v s1 ⟨x, H1, I1, r1, ty, q1⟩ => ?_)
  obtain ⟨h1, h2⟩ := tyV_is I1 r1 ty
  refine ⟨T, id, pa, slot, hty, h1, h2, ?_⟩
  have hA := ha cpos pins s1 σ H1 _ I1 q1
  rw [hs] at hA ⊢
  refine Calls.callWith_builtin (by show (false || (backTo cpos (starEach es X.env)).any (·.1)) = false; rw [hplain] <;> rfl) (Calls.evalArgs_plain ?_)
  exact thn hA fun us s2 ⟨vs, H2, I2, r2, q2⟩ => hm pins s2 σ H2 x vs v us Q I2 r1 r2 q2
/- xs.append(e), list.index on a module's tuple .. are MtR facts of 06m -/
end
end L2

namespace L2
open PySem PySem.Spec PyProof.Rows

noncomputable def MtM (X : Cx) (id : String) (r : V → List V → Hp → VK → Prop) : Prop :=
  ∀ (pins : List (Addr × Obj)) (s : Shared) (σ : St) (H : Hp) (x : V) (xs : List V) (v : Value) (us : List Value) (Q : VK), Inv X pins σ H s → RelV x v → Vals xs us → r x xs H Q →
    wpAny (model X.prog X.w) X.A (call (.builtin id) (v :: us)) (EP X pins σ Q) X.xe s

/-! ### lists of values -/
theorem Vals.one : ∀ {x : V} {us : List Value}, Vals [x] us → ∃ u, us = [u] ∧ RelV x u
  | _, _, .cons r .nil => ⟨_, rfl, r⟩
theorem Vals.rep {xs : List V} {us : List Value} (h : Vals xs us) : ∀ k : Nat, Vals (List.replicate k xs).flatten (List.replicate k us).flatten
  | 0 => .nil
  | k + 1 => by
    rw [List.replicate_succ, List.replicate_succ, List.flatten_cons, List.flatten_cons]
    exact Vals.append h (Vals.rep h k)
theorem foldl_rep (its : List Value) : ∀ (k : Nat) (acc : List Value),
    List.foldl (fun x1 x2 => x1 ++ x2) acc.toArray (List.replicate k its.toArray) = (acc ++ (List.replicate k its).flatten).toArray
  | 0, acc => by simp
  | k + 1, acc => by
    have e : acc.toArray ++ its.toArray = (acc ++ its).toArray := by simp
    have e2 : (acc ++ its) ++ (List.replicate k its).flatten = acc ++ (List.replicate (k + 1) its).flatten := by
      rw [List.replicate_succ, List.flatten_cons, List.append_assoc]
    rw [← e2, ← foldl_rep its k (acc ++ its), ← e, List.replicate_succ, List.foldl_cons]

section
variable {X : Cx} {pins : List (Addr × Obj)} {σ : St} {H : Hp} {s : Shared} {l b : Addr} {xs ys zs : List V}

/-! ### the two steps: a tracked list is rewritten, a new list is laid -/
theorem Inv.lset {its its' : List Value} {n : Nat} {f : Array Value → Array Value} {t' : Nat} (I : Inv X pins σ H s) (hH : H l = some (.lst xs))
    (e : s.heap.get? l = some { cls := .type "list", data := .seq its.toArray n }) (hf : f its.toArray = its'.toArray) (hv : Vals ys its') (hz : ys.length ≤ sizeLine) :
    Inv X pins σ (upd H l (.lst ys)) { s with heap := s.heap.update l (Obj.mapSeq f), toks := t' } := by
  have q := PySem.IsL.update e f
  rw [hf] at q
  refine I.write (x := l) (e := l) (by rw [hH]; exact trivial) (.inl rfl) (fun b' u hb hu => (Heap.get?_update_other s.heap (Obj.mapSeq f) (Ne.symm hb)).trans hu) ⟨_, q⟩ ?_
  exact ⟨hz, its', _, hv, q⟩
theorem Inv.lnew {its : List Value} {t' : Nat} (I : Inv X pins σ H s) (hv : Vals ys its) (hz : ys.length ≤ sizeLine) :
    Inv X pins σ (upd H s.heap.objs.size (.lst ys)) { s with heap := s.heap.push { cls := .type "list", data := .seq its.toArray }, toks := t' } :=
  I.laid (fun _ _ q => Heap.get?_push_of_some _ q) (Nat.le_refl _) ⟨hz, its, 0, hv, Heap.get?_push_size _ rfl⟩
theorem Inv.fresh (I : Inv X pins σ H s) : H s.heap.objs.size = none := I.hok.fresh (Nat.le_refl _)
theorem Inv.lstM (I : Inv X pins σ H s) (hH : H l = some (.lst xs)) : xs.length ≤ sizeLine ∧ ∃ (its : List Value) (n : Nat), Vals xs its ∧ xs.length = its.length ∧ s.heap.get? l = some { cls := .type "list", data := .seq its.toArray n } := by
  obtain ⟨z, its, n, r, e⟩ := I.hok l _ hH
  exact ⟨z, its, n, r, r.length, e⟩

theorem notLongL {n : Nat} (h : n ≤ sizeLine) : Builtin.List.listTooLong n = false := by
  unfold Builtin.List.listTooLong
  exact decide_eq_false (by omega)
end

section
variable {X : Cx}

/-! ### methods -/
noncomputable def rAppend : V → List V → Hp → VK → Prop := fun x vs H Q => ∃ l xs y, x = .ref l ∧ vs = [y] ∧ H l = some (.lst xs) ∧ xs.length < sizeLine ∧ Q .non (upd H l (.lst (xs ++ [y])))
theorem mt_append : MtM X "list.append" rAppend := by
  intro pins s σ H x vs v us Q I rx rv h
  obtain ⟨l, xs, y, rfl, rfl, hH, hz, q⟩ := h
  cases rx
  obtain ⟨u, rfl, ru⟩ := rv.one
  obtain ⟨z, its, n, r, hl, e⟩ := I.lstM hH
  refine call_meets F.slot_list_append ⟨_, e, rfl⟩ F.entry_list_append (F.args_list_append_2 _ _) (PySem.list_append l its.toArray n u (by rw [List.size_toArray]; omega)) ⟨e, ?_⟩
  refine ⟨.non, _, I.lset (its' := its ++ [u]) hH e (by simp) (r.append (.cons ru .nil)) ?_, rfl, q⟩
  rw [List.length_append, List.length_singleton]
  omega

noncomputable def rExtend : V → List V → Hp → VK → Prop := fun x vs H Q => ∃ l b xs zs, x = .ref l ∧ vs = [.ref b] ∧ H l = some (.lst xs) ∧ H b = some (.lst zs) ∧ xs.length + zs.length ≤ sizeLine ∧ Q .non (upd H l (.lst (xs ++ zs)))

noncomputable def rPop : V → List V → Hp → VK → Prop := fun x vs H Q => ∃ l xs y, x = .ref l ∧ vs = [] ∧ H l = some (.lst xs) ∧ xs[xs.length - 1]? = some y ∧ Q y (upd H l (.lst xs.dropLast))

noncomputable def rPopAt : V → List V → Hp → VK → Prop := fun x vs H Q => ∃ l xs i k y, x = .ref l ∧ vs = [.int i] ∧ H l = some (.lst xs) ∧ -(2 ^ 63) ≤ i ∧ i < 2 ^ 63 ∧ seqIndex? i xs.length = some k ∧ xs[k]? = some y ∧ Q y (upd H l (.lst (xs.eraseIdx k)))

noncomputable def rReverse : V → List V → Hp → VK → Prop := fun x vs H Q => ∃ l xs, x = .ref l ∧ vs = [] ∧ H l = some (.lst xs) ∧ Q .non (upd H l (.lst xs.reverse))

noncomputable def rClear : V → List V → Hp → VK → Prop := fun x vs H Q => ∃ l xs, x = .ref l ∧ vs = [] ∧ H l = some (.lst xs) ∧ Q .non (upd H l (.lst []))

/-! ### list + list, list += list, list * int -/
noncomputable def rCat : R2 := fun x y H Q => ∃ l b xs zs, x = .ref l ∧ y = .ref b ∧ H l = some (.lst xs) ∧ H b = some (.lst zs) ∧ xs.length + zs.length ≤ sizeLine ∧ ∀ p, H p = none → Q (.ref p) (upd H p (.lst (xs ++ zs)))
noncomputable def rRep : R2 := fun x y H Q => ∃ l k xs, x = .ref l ∧ y = .int k ∧ H l = some (.lst xs) ∧ -(2 ^ 63) ≤ k ∧ k < 2 ^ 63 ∧ xs.length * k.toNat ≤ sizeLine ∧
  ∀ p, H p = none → Q (.ref p) (upd H p (.lst (List.replicate k.toNat xs).flatten))
theorem len_rep {α : Type} (xs : List α) (k : Nat) : (List.replicate k xs).flatten.length = k * xs.length := by
  induction k with
  | zero => simp
  | succ k ih => rw [List.replicate_succ, List.flatten_cons, List.length_append, ih, Nat.succ_mul, Nat.add_comm]

/-! ### del xs[i] -/
end

/-! ### xs[a:b] = ys -/
section
variable {prog : Program} {w : World} {A : Around} {E : Value → Shared → Prop} {s : Shared}
set_option maxRecDepth 100000 in
end

section
variable {X : Cx}
end
end L2

namespace Att
open PySem PySem.W PySem.Calls PyProof.Rows

/-! ### the script -/
theorem ints_of_wellAll {P : Params} {h : Heap} : ∀ (ns : List Int) (vs : List Value), WellAll P h vs (ns.map WData.int) → IntsAre vs ns := by
  intro ns
  induction ns with
  | nil =>
    intro vs w
    rw [List.map_nil] at w
    cases w
    exact .nil
  | cons n ns ih =>
    intro vs w
    rw [List.map_cons] at w
    cases w with
    | cons a b =>
      cases a
      exact .cons _ _ (ih _ b)

theorem script_of {l : OpenLaw} {n : Nat} (hn : l.most = some n) {P : Params} {h : Heap} {args : List WData} {vals : List Value}
    (hpre : l.row.toRowW.claim.pre args = true) (hwl : WellAll P h vals args) :
    ∃ a vs ns, vals = [Value.ref a] ∧ args = [WData.list (ns.map WData.int)] ∧ h.get? a = some { cls := .type "list", data := .seq vs.toArray } ∧ IntsAre vs ns ∧ ns.length ≤ n := by
  have hsh : WShape.hasAll [] args [.list .int] = true := (pre_splitW hpre).1
  have hc : l.pre.holds [] { args := args } = true := (pre_splitW hpre).2
  obtain ⟨d, r, rfl, h1, h2⟩ := hasAllW_cons hsh
  obtain rfl := hasAllW_nil h2
  obtain ⟨xs, rfl, h3⟩ := hasW_list h1
  obtain ⟨ns, rfl⟩ := items_int h3
  have hlen : ns.length ≤ n := by
    unfold OpenLaw.pre at hc
    have h4 : (WTm.not (.lt (.lit (.int (n : Int))) (.len (.arg 0)))).holds [] { args := [.list (ns.map .int)] } = true := by
      have h4 := (holds_andW hc).1
      rw [hn] at h4
      exact h4
    have h5 := condW_of h4 (w_not (w_lt w_lit (w_len_list (w_arg rfl))))
    rw [List.length_map] at h5
    refine Nat.le_of_not_lt fun q => ?_
    have q' : (n : Int) < ((ns.length : Nat) : Int) := by omega
    first
      | (rw [decide_eq_true q'] at h5; exact absurd h5 (by decide))
      | (simp at h5; omega)
  cases hwl with
  | cons w1 w2 =>
    cases w2
    cases w1 with
    | list ho hall => exact ⟨_, _, ns, rfl, rfl, ho, ints_of_wellAll ns _ hall, hlen⟩

theorem post_true (l : OpenLaw) (args : List WData) : l.row.toRowW.claim.post args (.bool true) args = true :=
  postW_of (r := l.row.toRowW) (X := (true == true))
    (show WShape.has [] (.bool true) .bool = true by first | rfl | decide | simp [WShape.has, WShape.arms, WShape.armsAll])
    (show (WTm.eq .res (.lit (.bool true))).value [] { args := args, res := some (.bool true), after := args } = some (.bool (true == true)) from w_eq_bool (w_res rfl) w_lit) rfl

/-! ### the attachment: holds_open's last premise (the goal 'hc' behind k_head) from a wpAny of the law's body -/

theorem attach_call {l : OpenLaw} {n : Nat} {q : Program} {loose : List Str} {XP : (Str → Option Value) → Heap → Prop} {YP : World → Heap → Prop} {d : DefRec}
    (hn : l.most = some n) (hdf : d.params.defaults = [])
    (call : ∀ (w : World) (s₀ s₁ : Shared) (mg mb : Str → Option Value) (fa : Addr) (o : Obj) (pm cd doc : Value) (a : Addr) (vs : List Value) (ns : List Int),
      Ground q loose [] XP w s₀ mg mb s₁.heap → YP w s₁.heap →
      s₁.heap.get? fa = some o → o.data = .func (docDef d.name d.params d.body d.scope pm cd doc) → s₁.heap.CodeRec cd d.name → mg d.name = some (.ref fa) →
      s₁.heap.get? a = some { cls := .type "list", data := .seq vs.toArray } → IntsAre vs ns → ns.length ≤ n → s₁.gens = #[] →
      codeAny (model l.prog w) callerA (.call (.ref fa) ⟨[.ref a], []⟩) (fun r s' => r = .ok (.ret (.bool true)) ∧ OldK s₁.heap s'.heap ∧ s'.os = s₁.os ∧ AllBare s'.gens) s₁) :
    WalkO q loose XP YP l.row.toRowW d [] (fun f vs => PySem.call f vs) := by
  intro w s₀ s₁ mg mb G Y fa o pm cd doc dV kV ho hd hcd hD hmg hg args vals as hpre hlay hrd hwl hlo
  obtain rfl : dV = .none := Dflts.none hD hdf
  obtain rfl : kV = .none := Dflts.noKw hD
  obtain ⟨a, vs, ns, rfl, rfl, hobj, hints, hlen⟩ := script_of hn hpre hwl
  refine enter_call (codeAny_mono (call w s₀ s₁ mg mb fa o pm cd doc a vs ns G Y ho (fd_plain hd) hcd hmg hobj hints hlen hg) fun r s' hq => ?_)
  obtain ⟨rfl, h2, h3, h4⟩ := hq
  exact ⟨.inl ⟨.bool true, .bool true, [], rfl, fun _ => rfl, .bool true, post_true l _, fun _ => ⟨List.Pairwise.nil, fun _ hm => (nomatch hm)⟩⟩, h2, h3, h4⟩


/-! ### rules over ANY heap (no ledger) from facts about the written part K: the library's own take a ledger (News) for what they write -/
section
variable {prog : Program} {w : World} {A : Around} {E : Value → Shared → Prop} {s : Shared} {K : Frag}





/-! the whole heap as the ledger: makes every rule that writes through a ledger a rule over any heap -/
noncomputable def noObjs (h : Heap) : Heap := { h with objs := #[] }
noncomputable def ledger (h : Heap) (L d : Addr) : List (Addr × Obj) := (List.range h.objs.size).filterMap fun a => if a = L ∨ a = d then none else (h.get? a).map fun o => (a, o)

end
end Att

namespace L2
open PySem PySem.Spec PyProof.Rows

theorem vals_ints : ∀ {vs : List Value} {ns : List Int}, IntsAre vs ns → Vals (ns.map V.int) vs
  | _, _, .nil => .nil
  | _, _, .cons n t h => .cons ⟨t, rfl⟩ (vals_ints h)

noncomputable def Only (H : Hp) : Prop := ∀ b, H b = none ∨ ∃ o xs, H b = some (.frz o (.lst xs))

end L2

namespace L2
open PySem PySem.Spec PyProof.Rows

noncomputable abbrev KOf {K : PySem.W.Frag} {h : Heap} (_ : K.In h) : PySem.W.Frag := K

end L2

/- THE LAST THEOREM (shape; LID, My.* are yours):
   My.Adr: a structure of the addresses that your layer names (classes, functions); My.Txt K t: a structure (Prop) of the equations over K;
   My.txt_mk : {K} {implicit addresses ..} (e1 : nsIn K mainGlobals "law" = some (some (.ref f))) (e2 : K.lookup f = some ⟨oc, od, .func (fnOf "law" "law" params body scope dV kV doc pm an cdv ct), sl⟩) (e3 : codeIn K cdv "law" = true) .. : ∃ t, My.Txt K t

set_option maxRecDepth 100000 in
(the tactic k_is has no namespace: write k_is) -/

/-! SHORT WORDS over the layer: a def of the text, its body, what a loop and a test want. -/
namespace L2
open PySem PySem.Spec PyProof.Rows

/-! ### the text by places -/
noncomputable def inClass (s : Stmt) (j : Nat) : Stmt := match s with
  | .ClassDef _ _ _ body _ _ _ _ _ _ _ => body.getD j (.Pass ⟨0, 0, 0, 0⟩)
  | _ => .Pass ⟨0, 0, 0, 0⟩
noncomputable def defArgs (s : Stmt) : Arguments := match s with
  | .FunctionDef _ a _ _ _ _ _ _ _ _ => a
  | _ => { posonlyargs := [], args := [], vararg := none, kwonlyargs := [], kw_defaults := [], kwarg := none, defaults := [] }
noncomputable def defBody (s : Stmt) : List Stmt := match s with
  | .FunctionDef _ _ b _ _ _ _ _ _ _ => b
  | _ => []
noncomputable def defScope (s : Stmt) : Scope := match s with
  | .FunctionDef _ _ _ _ _ _ sc _ _ _ => sc
  | _ => { kind := .function, names := [], isGenerator := false, isCoroutine := false }

/-! ### no exception leaves a def -/
noncomputable abbrev CX0 : CXT := fun _ _ _ _ _ _ => False
noncomputable abbrev E0 : XK := fun _ _ _ => False
theorem pass0 {X : Cx} : Passes CX0 X E0 := fun _ _ _ _ _ _ _ h => h.elim

/-! ### a def (or method) of the text as it stands behind the top -/
structure Fun (K : PySem.W.Frag) (x qual : Str) (st : Stmt) (f : Addr) (fd : FuncData) : Prop where
  ex : ∃ (oc : Value) (od : Option Addr) (kV doc pm : Value) (an : Option Addr) (cdv ct : Value) (osl : Array (Option Value)),
    fd = PySem.W.fnOf x qual (defArgs st) (defBody st) (defScope st) .none kV doc pm an cdv ct ∧ K.lookup f = some ⟨oc, od, .func fd, osl⟩ ∧ PySem.W.codeIn K cdv qual = true
  kp : PySem.W.keepIn K (.ref f) = true
section
variable {P : Program} {w : World} {K : PySem.W.Frag} {mg : Str → Option Value} {base : Heap}
theorem Fun.ok {x qual : Str} {st : Stmt} {f : Addr} {fd : FuncData} {N ps : List Str} {k : Nat} {sp : Sp} (F : Fun K x qual st f fd) (S : FnScope N ps (defScope st)) (len : ∀ vs H Q E, sp vs H Q E → vs.length = ps.length)
    (hbody : ∀ (cdv : Value) (A : Around) (outer : List Env) (s : Shared) (H : Hp) (vs : List V) (Q : VK) (E : XK), Room k (A.deeper (envOfC qual (defScope st) s.heap.objs.size f cdv)) → sp vs H Q E →
      ∃ t, PSs (cxOf CX0 P w K mg base N qual (defScope st) f cdv A outer s H E).nox (defBody st) t ∧ t { nx := fun _ H' => Q .non H', rt := Q } (start N vs) H) : FnOk P w K mg base CX0 (k + 1) f fd ps sp := by
  obtain ⟨oc, od, kV, doc, pm, an, cdv, ct, osl, rfl, lk, hcd⟩ := F.ex
  refine fn_of lk hcd S len fun A outer s H vs Q E hr hsp => ?_
  obtain ⟨t, h, q⟩ := hbody cdv A outer s H vs Q E hr hsp
  exact ⟨t, h.nox, q⟩
theorem Fun.binds {x qual : Str} {st : Stmt} {f : Addr} {fd : FuncData} {ps : List Str} (F : Fun K x qual st f fd)
    (h : ∀ (kV doc pm : Value) (an : Option Addr) (cdv ct : Value) (us : List Value), us.length = ps.length → bindArgs (PySem.W.fnOf x qual (defArgs st) (defBody st) (defScope st) .none kV doc pm an cdv ct) ⟨us, []⟩ = pure (ps.zip us)) : Binds K fd ps [] := by
  obtain ⟨oc, od, kV, doc, pm, an, cdv, ct, osl, rfl, lk, hcd⟩ := F.ex
  exact .all (h kV doc pm an cdv ct)
theorem fun_mk {x qual : Str} {st : Stmt} {f : Addr} {oc : Value} {od an : Option Addr} {osl : Array (Option Value)} {kV doc pm cdv ct : Value} (l : K.lookup f = some ⟨oc, od, .func (PySem.W.fnOf x qual (defArgs st) (defBody st) (defScope st) .none kV doc pm an cdv ct), osl⟩)
    (c : PySem.W.codeIn K cdv qual = true) (k : PySem.W.keepIn K (.ref f) = true) : Fun K x qual st f (PySem.W.fnOf x qual (defArgs st) (defBody st) (defScope st) .none kV doc pm an cdv ct) := ⟨⟨oc, od, kV, doc, pm, an, cdv, ct, osl, rfl, l, c⟩, k⟩
end
theorem hu_of {A : Around} {k : Nat} (hr : Room k A) : A.units + 1 < cLine := Nat.lt_of_le_of_lt (Nat.add_le_add_left (by decide : 1 ≤ 64) _) hr.units

/-! ### expressions in short: the name that stands in the i-th slot -/
section
variable {X : Cx}
theorem pv (i : Nat) {x : Str} {pos : Pos} (hN : X.N[i]? = some x := by rfl) (hv : Vis X.env.scope x := by first | exact Or.inl rfl | exact Or.inr (Or.inl rfl) | exact Or.inr (Or.inr rfl)) (hd : (x == ("__debug__" : Str)) = false := by decide)
    (hcd : (x == ("__classdict__" : Str)) = false := by decide) : PE X (.Name x pos) (tVar i) := pe_var hN hv hd hcd
end

/-! ### tests -/
theorem iteF {A B : Prop} (h : B) : if false = true then A else B := by
  rw [if_neg Bool.false_ne_true]
  exact h
theorem iteT {A B : Prop} (h : A) : if true = true then A else B := by
  rw [if_pos rfl]
  exact h

/-! ### heaps -/
noncomputable def Same (H H' : Hp) : Prop := ∀ b o, H b = some o → H' b = some o
theorem Same.refl (H : Hp) : Same H H := fun _ _ h => h
theorem Same.trans {H H1 H2 : Hp} (a : Same H H1) (b : Same H1 H2) : Same H H2 := fun c o h => b c o (a c o h)
theorem Same.free {H H' : Hp} (e : Same H H') {l : Addr} (h : H' l = Option.none) : H l = Option.none := by
  cases q : H l with
  | none => rfl
  | some o =>
    rw [e l o q] at h
    cases h
theorem Same.seq {K : PySem.W.Frag} {H H' : Hp} {a : Addr} {xs : List V} (e : Same H H') (h : SqL K H a xs) : SqL K H' a xs := by
  rcases h with (h | ⟨o, h⟩) | h
  · exact .inl (.inl (e _ _ h))
  · exact .inl (.inr ⟨o, e _ _ h⟩)
  · exact .inr h

end L2

set_option Elab.async false
set_option linter.all false
set_option maxRecDepth 100000
namespace L2
open PySem PySem.Spec PyProof.Rows

/-! ### a comprehension -/
noncomputable def clOf (cells : List (Str × Addr)) : List (Str × NameKind) → List (Str × Addr) → List (Str × Addr)
  | [], acc => acc
  | (x, k) :: r, acc => if k == .free then clOf cells r ((x, (cells.lookup x).getD 0) :: acc) else clOf cells r acc
theorem forIn_cl {env : Env} (f : Str × NameKind → List (Str × Addr) → Sem (ForInStep (List (Str × Addr))))
    (hf : ∀ name kind cs, f (name, kind) cs = if kind == .free then (do let a ← cellOf env name; pure (.yield ((name, a) :: cs))) else pure (.yield cs)) :
    ∀ (l : List (Str × NameKind)) (acc : List (Str × Addr)), (∀ x, (x, NameKind.free) ∈ l → ∃ c, env.cells.lookup x = some c) → (forIn l acc f : Sem (List (Str × Addr))) = pure (clOf env.cells l acc)
  | [], acc, _ => by rw [List.forIn_nil]; rfl
  | (x, k) :: r, acc, h => by
    rw [List.forIn_cons, hf]
    unfold clOf
    cases hk : k == NameKind.free with
    | false =>
      simp only [Bool.false_eq_true, if_false]
      show (forIn r acc f : Sem _) = _
      exact forIn_cl f hf r acc fun y hy => h y (List.mem_cons_of_mem _ hy)
    | true =>
      simp only [if_true]
      have ek : k = .free := by simpa using hk
      obtain ⟨c, hc⟩ := h x (by rw [ek]; exact List.mem_cons_self)
      have e1 : cellOf env x = pure c := by unfold cellOf; rw [hc]
      rw [e1, hc]
      show (forIn r ((x, c) :: acc) f : Sem _) = _
      exact forIn_cl f hf r _ fun y hy => h y (List.mem_cons_of_mem _ hy)
theorem closureFor_clOf {env : Env} {scope : Scope} (h : ∀ x, (x, NameKind.free) ∈ scope.names → ∃ c, env.cells.lookup x = some c) : closureFor scope env = pure (clOf env.cells scope.names []) := by
  simp only [closureFor]
  rw [forIn_cl (env := env) _ (fun name kind cs => by cases hk : kind == NameKind.free <;> simp [hk]) scope.names [] h]
  rfl
theorem newEnv_comp {M : Model} {A : Around} {E : Value → Shared → Prop} {s : Shared} {scope : Scope} {globals : Addr} {closure : List (Str × Addr)} {qual : Str} {outer : Env} {Q : Env → Shared → Prop}
    (hQ : Q (newEnv scope s.heap.objs.size globals (cellsFrom (s.heap.objs.size + 1) scope.names closure) qual none .none (some outer) builtinsNs) { s with heap := pushCells (s.heap.push { cls := .type "dict", data := .dict #[] }) scope.names }) :
    wpAny M A (newFunctionEnv scope globals closure [] qual none .none (some outer)) Q E s := by
  simp only [newFunctionEnv, Option.isSome_some, if_true]
  refine wpAny_bind (wpAny_alloc ?_)
  refine wpAny_bind (wpAny_layCells _ (fun name kind cells => by cases hkc : kind == NameKind.cell <;> simp [hkc]) _ _ _ _ ?_)
  rw [show ({ s with heap := s.heap.push { cls := .type "dict", data := .dict #[] } } : Shared).heap.objs.size = s.heap.objs.size + 1 from Heap.size_push ..]
  rw [List.forIn_nil]
  exact wpAny_bind (wpAny_pure (wpAny_pure hQ))

theorem lookup_of_mem {α : Type} : ∀ {l : List (Str × α)} {x : Str} {c : α}, (x, c) ∈ l → ∃ d, l.lookup x = some d
  | (y, d) :: r, x, c, h => by
    rw [List.lookup_cons]
    cases hb : x == y with
    | true => exact ⟨d, rfl⟩
    | false =>
      rcases List.mem_cons.mp h with e | h
      · cases e; simp at hb
      · exact lookup_of_mem h
theorem lookup_nodup {α : Type} : ∀ {l : List (Str × α)} {x : Str} {c : α}, (l.map (·.1)).Nodup → (x, c) ∈ l → l.lookup x = some c
  | (y, d) :: r, x, c, hn, h => by
    rw [List.map_cons, List.nodup_cons] at hn
    rw [List.lookup_cons]
    rcases List.mem_cons.mp h with e | h'
    · cases e; simp
    · have hne : (x == y) = false := by
        rw [beq_eq_false_iff_ne]
        intro exy
        exact hn.1 (List.mem_map.mpr ⟨(x, c), h', exy⟩)
      rw [hne]
      exact lookup_nodup hn.2 h'
theorem cellsFrom_or {x : Str} {c : Addr} : ∀ (names : List (Str × NameKind)) (n : Nat) (acc : List (Str × Addr)), (cellsFrom n names acc).lookup x = some c →
    ((x, NameKind.cell) ∈ names ∧ n ≤ c) ∨ ((x, NameKind.cell) ∉ names ∧ acc.lookup x = some c)
  | [], _, _, h => .inr ⟨by simp, h⟩
  | (y, k) :: r, n, acc, h => by
    unfold cellsFrom at h
    cases hk : k == NameKind.cell with
    | true =>
      have ek : k = .cell := by simpa using hk
      subst ek
      rw [if_pos (show (NameKind.cell == NameKind.cell) = true from rfl)] at h
      rcases cellsFrom_or r _ _ h with ⟨h1, h2⟩ | ⟨h1, h2⟩
      · exact .inl ⟨List.mem_cons_of_mem _ h1, by omega⟩
      · rw [List.lookup_cons] at h2
        cases hb : x == y with
        | true =>
          rw [hb] at h2
          cases h2
          have : x = y := by simpa using hb
          subst this
          exact .inl ⟨List.mem_cons_self, Nat.le_refl _⟩
        | false =>
          rw [hb] at h2
          refine .inr ⟨fun hm => ?_, h2⟩
          rcases List.mem_cons.mp hm with e | hm
          · cases e; simp at hb
          · exact h1 hm
    | false =>
      rw [hk] at h
      simp only [Bool.false_eq_true, if_false] at h
      rcases cellsFrom_or r _ _ h with ⟨h1, h2⟩ | ⟨h1, h2⟩
      · exact .inl ⟨List.mem_cons_of_mem _ h1, h2⟩
      · refine .inr ⟨fun hm => ?_, h2⟩
        rcases List.mem_cons.mp hm with e | hm
        · cases e; simp at hk
        · exact h1 hm
theorem cellsFrom_apart : ∀ (names : List (Str × NameKind)) (n : Nat) (acc : List (Str × Addr)), (acc.Pairwise fun x y => x.2 ≠ y.2) → (∀ p ∈ acc, p.2 < n) → (cellsFrom n names acc).Pairwise fun x y => x.2 ≠ y.2
  | [], _, _, h, _ => h
  | (y, k) :: r, n, acc, h, hl => by
    unfold cellsFrom
    split
    · refine cellsFrom_apart r _ _ (List.pairwise_cons.mpr ⟨fun p hp e => ?_, h⟩) fun p hp => ?_
      · have e' : n = p.2 := e
        have q := hl p hp
        rw [← e'] at q
        exact Nat.lt_irrefl _ q
      · rcases List.mem_cons.mp hp with e | hp
        · subst e; exact Nat.lt_succ_self _
        · exact Nat.lt_succ_of_lt (hl p hp)
    · exact cellsFrom_apart r _ _ h hl
theorem clOf_ok {cells : List (Str × Addr)} (inj : ∀ x y c, cells.lookup x = some c → cells.lookup y = some c → x = y) : ∀ (names : List (Str × NameKind)) (acc : List (Str × Addr)), (names.map (·.1)).Nodup → (∀ x, (x, NameKind.free) ∈ names → ∃ c, cells.lookup x = some c) →
    (acc.Pairwise fun x y => x.2 ≠ y.2) → (∀ p ∈ acc, cells.lookup p.1 = some p.2 ∧ p.1 ∉ names.map (·.1)) → ((clOf cells names acc).Pairwise fun x y => x.2 ≠ y.2) ∧ ∀ p ∈ clOf cells names acc, cells.lookup p.1 = some p.2
  | [], acc, _, _, h1, h2 => ⟨h1, fun p hp => (h2 p hp).1⟩
  | (y, k) :: r, acc, hn, hf, h1, h2 => by
    rw [List.map_cons, List.nodup_cons] at hn
    have hf' : ∀ x, (x, NameKind.free) ∈ r → ∃ c, cells.lookup x = some c := fun x hx => hf x (List.mem_cons_of_mem _ hx)
    unfold clOf
    split
    · rename_i hk
      have ek : k = .free := by simpa using hk
      subst ek
      obtain ⟨c, hc⟩ := hf y List.mem_cons_self
      rw [hc]
      refine clOf_ok inj r _ hn.2 hf' (List.pairwise_cons.mpr ⟨fun p hp e => ?_, h1⟩) fun p hp => ?_
      · have e' : c = p.2 := e
        obtain ⟨a1, a2⟩ := h2 p hp
        rw [← e'] at a1
        have := inj _ _ _ a1 hc
        exact a2 (by rw [this]; simp)
      · rcases List.mem_cons.mp hp with e | hp
        · subst e; exact ⟨hc, hn.1⟩
        · exact ⟨(h2 p hp).1, fun z => (h2 p hp).2 (List.mem_cons_of_mem _ z)⟩
    · exact clOf_ok inj r _ hn.2 hf' h1 fun p hp => ⟨(h2 p hp).1, fun z => (h2 p hp).2 (List.mem_cons_of_mem _ z)⟩
theorem clOf_acc {cells : List (Str × Addr)} {p : Str × Addr} : ∀ (names : List (Str × NameKind)) (acc : List (Str × Addr)), p ∈ acc → p ∈ clOf cells names acc
  | [], _, h => h
  | (y, k) :: r, acc, h => by
    unfold clOf
    split
    · exact clOf_acc r _ (List.mem_cons_of_mem _ h)
    · exact clOf_acc r _ h
theorem clOf_has {cells : List (Str × Addr)} {x : Str} : ∀ (names : List (Str × NameKind)) (acc : List (Str × Addr)), (x, NameKind.free) ∈ names → ∃ c, (x, c) ∈ clOf cells names acc
  | (y, k) :: r, acc, h => by
    unfold clOf
    rcases List.mem_cons.mp h with e | h
    · cases e
      rw [if_pos (show (NameKind.free == NameKind.free) = true from rfl)]
      exact ⟨_, clOf_acc r _ List.mem_cons_self⟩
    · split
      · exact clOf_has r _ h
      · exact clOf_has r _ h
theorem relabel_lookup {env : Env} {x : Str} : ∀ (names : List (Str × NameKind)),
    (names.map fun (n, k) => if (k == NameKind.free && env.scope.kind == .function && env.kindOf n == some .cell) then (n, NameKind.cell) else (n, k)).lookup x =
      (names.lookup x).map fun k => if (k == NameKind.free && env.scope.kind == .function && env.kindOf x == some .cell) then NameKind.cell else k
  | [] => rfl
  | (y, k) :: r => by
    have ih := relabel_lookup (x := x) (env := env) r
    by_cases hx : x = y
    · subst hx
      cases hc : (k == NameKind.free && env.scope.kind == .function && env.kindOf x == some .cell) <;> simp only [List.map_cons, hc, List.lookup_cons, beq_self_eq_true, Option.map_some, if_true, if_false, Bool.false_eq_true]
    · have hb : (x == y) = false := by simpa using hx
      cases hc : (k == NameKind.free && env.scope.kind == .function && env.kindOf y == some .cell) <;> simp only [List.map_cons, hc, List.lookup_cons, hb, if_true, if_false, Bool.false_eq_true] <;> exact ih

noncomputable def slotOf (N : List Str) (σ : St) (x : Str) : Option V := match N.idxOf? x with
  | some j => (σ[j]?).getD none
  | none => none
noncomputable def mkSt (N : List Str) (names : List (Str × NameKind)) (σ : St) : St := names.map fun p => if p.2 == .free then slotOf N σ p.1 else none
noncomputable def compEnvX (scope : Scope) (cells : List (Str × Addr)) (C : Addr) (env : Env) : Env :=
  { scope := relabel scope env, locals := C, globals := env.globals, cells := cells, qual := env.qual, func := none, code := env.code, frame := env.frame, builtins := env.builtins }
structure CompOf (X : Cx) (scope : Scope) (Xc : Cx) : Prop where
  prog : Xc.prog = X.prog
  w : Xc.w = X.w
  K : Xc.K = X.K
  mg : Xc.mg = X.mg
  base : Xc.base = X.base
  A : Xc.A = X.A
  N : Xc.N = scope.names.map (·.1)
  sc : Xc.env.scope = relabel scope X.env
  calm : Xc.calm = true
  fn : Xc.fn = fun x => scope.names.lookup x == some .cell
  xe : Xc.xe = fun _ _ => False
noncomputable def cxComp (X : Cx) (scope : Scope) (cells : List (Str × Addr)) (C : Addr) (s : Shared) (H : Hp) (fp : List Addr) : Cx where
  prog := X.prog
  w := X.w
  K := X.K
  mg := X.mg
  base := X.base
  A := X.A
  N := scope.names.map (·.1)
  s₀ := s
  H₀ := H
  env := compEnvX scope cells C X.env
  outer := X.stack
  stack := X.stack
  ex := fp
  fn := fun x => scope.names.lookup x == some .cell
  calm := true
  pn := []
  xe := fun _ _ => False
noncomputable def PIfs (X : Cx) (ifs : List Expr) (t : TT) : Prop :=
  ∀ (pins : List (Addr × Obj)) (s : Shared) (σ : St) (H : Hp) (Q : Bool → Hp → Prop), Inv X pins σ H s → t σ H Q →
    wpAny (model X.prog X.w) X.A (forIn ifs true fun c r => if r = true then do let ok ← isTrue c X.env (eval c X.env); pure (ForInStep.yield ok) else pure (ForInStep.yield r)) (TP X pins σ Q) X.xe s
theorem pifs_nil {X : Cx} : PIfs X [] (fun _ H Q => Q true H) := fun _ _ _ H _ I h => wpAny_tests_nil ⟨H, I, h⟩
theorem pifs_one {X : Cx} {c : Expr} {t : TT} (h : PT X c t) : PIfs X [c] t := fun pins s σ H Q I hw => wpAny_tests_one (h pins s σ H Q I hw)
noncomputable def tComp (X : Cx) (scope : Scope) (wi : TI) (mk : St → St) (g : Cx → TG) (tc : Cx → TT) (te : Cx → TE) : TE := fun σ H Q => wi σ H fun J H1 => ∀ acc, H1 acc = none → ∀ Xc, CompOf X scope Xc →
  ∃ W : Nat → Nat → St → Hp → Prop, (∃ m, W 0 m (mk σ) (upd H1 acc (.lst []))) ∧ ∀ i m σc H, W i m σc H →
    (J.stop i H ∧ Q (.ref acc) H) ∨ (J.go i H ∧ ∃ N : St → Hp → Prop, (∀ σ' H', N σ' H' → ∃ m', m' < m ∧ W (i + 1) m' σ' H') ∧ ∀ x H', J.yld i H x H' →
      g Xc x σc H' fun σ2 H2 => tc Xc σ2 H2 fun b H3 => if b = true then te Xc σ2 H3 fun v H4 => ∃ ys, H4 acc = some (.lst ys) ∧ ys.length < sizeLine ∧ N σ2 (upd H4 acc (.lst (ys ++ [v]))) else N σ2 H3)

theorem codeAny_compLoop_gen {prog : Program} {w : World} {A : Around} {R : Result → Shared → Prop} {s : Shared} {elt target iter : Expr} {ifs : List Expr} {scope : Scope} {pos : Pos} {it acc : Value} {env : Env} (I : Nat → Shared → Prop)
    (turn : ∀ n s, I n s → wpAny (model prog w) A (pyNext it) (fun r s₁ => match r with
      | none => R (.ok .next) s₁
      | some v => wpAny (model prog w) A (letOwnedTupleGo target it v) (fun _ s₁' => wpAny (model prog w) A (assign target env v) (fun _ s₂ =>
          wpAny (model prog w) A (forIn ifs true fun c r => if r = true then do let ok ← isTrue c env (eval c env); pure (ForInStep.yield ok) else pure (ForInStep.yield r)) (fun ok s₃ =>
            if ok = true then wpAny (model prog w) A (eval elt env) (fun x s₄ =>
              wpAny (model prog w) A (call (.builtin "list.append") [acc, x]) (fun _ s₅ => ∃ m, m < n ∧ I m s₅) (fun _ _ => False) s₄) (fun _ _ => False) s₃
            else ∃ m, m < n ∧ I m s₃) (fun _ _ => False) s₂) (fun _ _ => False) s₁') (fun _ _ => False) s₁) (fun _ _ => False) s)
    (n : Nat) (h : I n s) :
    codeAny (model prog w) A (.compLoop (.ListComp elt [⟨target, iter, ifs, 0⟩] scope pos) 0 it acc env) R s := by
  refine codeAny_loop rfl I (fun n s hI => ?_) n h
  show wpAny _ A ((compTurn (.ListComp elt [⟨target, iter, ifs, 0⟩] scope pos) 0 it acc env).onRaise (fun x => do noteFrame x env; theTreesLotGoes x)) _ _ s
  refine wpAny_noted ?_
  rw [compTurn_list]
  refine wpAny_bind (wpAny_standAt (wpAny_bind (wpAny_mono (turn n s hI) (fun r s₁ h₁ => ?_) fun _ _ h' => h'.elim)))
  cases r with
  | none => exact wpAny_pure h₁
  | some v =>
    refine wpAny_bind (wpAny_mono h₁ (fun _ s₁' h₁' => ?_) fun _ _ h' => h'.elim)
    refine wpAny_bind (wpAny_mono h₁' (fun _ s₂ h₂ => wpAny_bind (wpAny_mono h₂ (fun ok s₃ h₃ => ?_) fun _ _ h' => h'.elim)) fun _ _ h' => h'.elim)
    cases ok with
    | false => exact wpAny_pure ⟨rfl, h₃⟩
    | true =>
      exact wpAny_bind (wpAny_bind (wpAny_mono h₃ (fun x s₄ h₄ => wpAny_bind (wpAny_mono h₄ (fun _ s₅ h₅ => wpAny_pure (wpAny_pure ⟨rfl, h₅⟩)) fun _ _ h' => h'.elim)) fun _ _ h' => h'.elim))

section
variable {X : Cx}
theorem comp_cells {pins : List (Addr × Obj)} {σ : St} {H : Hp} {s : Shared} {scope : Scope} (I : Inv X pins σ H s) (hnd : (scope.names.map (·.1)).Nodup)
    (hcap : ∀ x, (x, NameKind.free) ∈ scope.names → X.env.kindOf x = some .cell ∨ X.env.kindOf x = some .free) :
    (∀ x, (x, NameKind.free) ∈ scope.names → ∃ c, X.env.cells.lookup x = some c) ∧
    ((cellsFrom (s.heap.objs.size + 1) scope.names (clOf X.env.cells scope.names [])).Pairwise fun x y => x.2 ≠ y.2) ∧
    (∀ x c, (cellsFrom (s.heap.objs.size + 1) scope.names (clOf X.env.cells scope.names [])).lookup x = some c → ((x, NameKind.cell) ∈ scope.names ∧ s.heap.objs.size + 1 ≤ c) ∨ ((x, NameKind.cell) ∉ scope.names ∧ X.env.cells.lookup x = some c ∧ c < s.heap.objs.size)) ∧
    (∀ x, (x, NameKind.free) ∈ scope.names → (cellsFrom (s.heap.objs.size + 1) scope.names (clOf X.env.cells scope.names [])).lookup x = X.env.cells.lookup x) := by
  have hf : ∀ x, (x, NameKind.free) ∈ scope.names → ∃ c, X.env.cells.lookup x = some c := fun x hx => I.ok.has x (hcap x hx)
  have ok := clOf_ok I.ok.inj scope.names [] hnd hf List.Pairwise.nil (fun p hp => absurd hp (by simp))
  have small : ∀ x c, X.env.cells.lookup x = some c → c < s.heap.objs.size := fun x c e => by
    obtain ⟨v, z⟩ := I.cell x c e
    exact z.lt
  refine ⟨hf, cellsFrom_apart _ _ _ ok.1 fun p hp => Nat.lt_succ_of_lt (small p.1 p.2 (ok.2 p hp)), fun x c e => ?_, fun x hx => ?_⟩
  · rcases cellsFrom_or _ _ _ e with h | ⟨h1, h2⟩
    · exact .inl h
    · have h3 := ok.2 _ (PySem.mem_of_lookup h2)
      exact .inr ⟨h1, h3, small _ _ h3⟩
  · obtain ⟨c, hc⟩ := hf x hx
    have nc : (x, NameKind.cell) ∉ scope.names := fun z => by
      have e1 := lookup_nodup hnd z
      rw [lookup_nodup hnd hx] at e1
      cases e1
    obtain ⟨d, hd⟩ := clOf_has (cells := X.env.cells) scope.names [] hx
    obtain ⟨d', hd'⟩ := lookup_of_mem hd
    have hs : ((cellsFrom (s.heap.objs.size + 1) scope.names (clOf X.env.cells scope.names [])).lookup x).isSome = true := PySem.W.cellsFrom_some _ _ _ (.inr (by rw [hd']; rfl))
    obtain ⟨c', hc'⟩ := Option.isSome_iff_exists.mp hs
    rcases cellsFrom_or _ _ _ hc' with ⟨h, _⟩ | ⟨_, h2⟩
    · exact absurd h nc
    · rw [hc', ok.2 _ (PySem.mem_of_lookup h2)]

theorem ownCell : ∀ (names : List (Str × NameKind)) (h : Heap) (acc : List (Str × Addr)) {x : Str} {c : Addr}, (cellsFrom h.objs.size names acc).lookup x = some c → (x, NameKind.cell) ∈ names → (pushCells h names).IsCell c none := by
  intro names
  induction names with
  | nil => intro h acc x c e hx; cases hx
  | cons p r ih =>
    obtain ⟨y, k⟩ := p
    intro h acc x c e hx
    unfold cellsFrom at e
    unfold pushCells
    by_cases hin : (x, NameKind.cell) ∈ r
    · split at e
      · rename_i hk
        rw [if_pos hk]
        refine ih (h.push { cls := .type "cell", data := .cell none }) ((y, h.objs.size) :: acc) ?_ hin
        rw [Heap.size_push]; exact e
      · rename_i hk
        rw [if_neg hk]
        exact ih h acc e hin
    · rcases List.mem_cons.mp hx with ex | hx
      · cases ex
        rw [if_pos (show (NameKind.cell == NameKind.cell) = true from rfl)] at e ⊢
        rcases cellsFrom_or _ _ _ e with ⟨h1, _⟩ | ⟨_, h2⟩
        · exact absurd h1 hin
        · rw [List.lookup_cons] at h2
          simp at h2
          subst h2
          exact ⟨_, pushCells_keeps _ _ _ _ (Heap.get?_push_size _ rfl), rfl⟩
      · exact absurd hx hin

theorem comp_inv {pins : List (Addr × Obj)} {σ : St} {H : Hp} {s : Shared} {scope : Scope} {fp : List Addr} (I : Inv X pins σ H s) (hc : X.calm = true) (hk : scope.kind = .function) (hnd : (scope.names.map (·.1)).Nodup)
    (hcap : ∀ x, (x, NameKind.free) ∈ scope.names → X.env.kindOf x = some .cell ∨ X.env.kindOf x = some .free) (hfp : ∀ b ∈ fp, FpOk X pins H b) (hlt : ∀ b ∈ fp, b < s.heap.objs.size) :
    Inv (cxComp X scope (cellsFrom (s.heap.objs.size + 1) scope.names (clOf X.env.cells scope.names [])) s.heap.objs.size s H fp) [] (mkSt X.N scope.names σ) H { s with heap := pushCells (s.heap.push { cls := .type "dict", data := .dict #[] }) scope.names } := by
  obtain ⟨hf, apart, look, same⟩ := comp_cells I hnd hcap
  have keep : ∀ b o, s.heap.get? b = some o → (pushCells (s.heap.push { cls := .type "dict", data := .dict #[] }) scope.names).get? b = some o := fun b o e => pushCells_keeps _ _ b o (Heap.get?_push_of_some _ e)
  have ckd := cellsFrom_ok scope.names (s.heap.push { cls := .type "dict", data := .dict #[] }) (s.heap.objs.size + 1) [] ⟨fun _ _ hm => (nomatch hm), List.Pairwise.nil⟩ (by rw [Heap.size_push]; exact Nat.le_refl _)
  rw [Heap.size_push] at ckd
  have own : ∀ x c, (cellsFrom (s.heap.objs.size + 1) scope.names (clOf X.env.cells scope.names [])).lookup x = some c → (x, NameKind.cell) ∈ scope.names → (pushCells (s.heap.push { cls := .type "dict", data := .dict #[] }) scope.names).IsCell c none := fun x c e hx => ownCell scope.names (s.heap.push { cls := .type "dict", data := .dict #[] }) _ (by rw [Heap.size_push]; exact e) hx
  have kinds : ∀ x, (cxComp X scope (cellsFrom (s.heap.objs.size + 1) scope.names (clOf X.env.cells scope.names [])) s.heap.objs.size s H fp).env.kindOf x = (scope.names.lookup x).map fun k => if (k == NameKind.free && X.env.scope.kind == .function && X.env.kindOf x == some .cell) then NameKind.cell else k := fun x => relabel_lookup scope.names
  have fresh : ∀ {b : Addr}, s.heap.objs.size ≤ b → H b = none := fun hb => I.hok.fresh hb
  refine ⟨⟨I.ok.mod, hk, I.ok.glob, I.ok.blt, Nat.le_refl _, fun x y c e1 e2 => name_of_addr apart (PySem.mem_of_lookup e1) (PySem.mem_of_lookup e2), fun x hx => ?_, fun x c hx e => ?_, fun _ => I.ok.hd hc, I.ok.frames, .inl rfl, fun b hb => ⟨Nat.ne_of_lt (hlt b hb), fun x c e => ?_⟩, I.bs, Nat.le_trans I.ok.bsz I.sz, fun b o e hb => ?_, fun b hb z => ?_, I.stack, I.stkFree⟩,
    rfl, I.bare, Un.kept keep, ⟨fun _ => none, ?_, fun i x v e1 e2 e3 => ?_⟩, fun x c e => ?_, fresh (Nat.le_refl _), fun x c e => ?_, fun p hp => absurd (show p ∈ ([] : List (Addr × Obj)) from hp) (by simp), I.hok.kept keep, ?_⟩
  · -- every cell or free name has its cell
    rw [kinds x] at hx
    cases hl : scope.names.lookup x with
    | none => rw [hl] at hx; rcases hx with h | h <;> cases h
    | some k =>
      rw [hl] at hx
      have hm := PySem.mem_of_lookup hl
      cases k with
      | cell => exact Option.isSome_iff_exists.mp (PySem.W.cellsFrom_some _ _ _ (.inl hl))
      | free =>
        obtain ⟨c, h⟩ := hf x hm
        exact ⟨c, (same x hm).trans h⟩
      | _ => simp at hx
  · have hm : (x, NameKind.cell) ∈ scope.names := PySem.mem_of_lookup (by simpa [cxComp] using hx)
    rcases look x c e with ⟨_, h⟩ | ⟨h, _⟩
    · exact Nat.le_of_succ_le h
    · exact absurd hm h
  · rcases look x c e with ⟨_, h⟩ | ⟨_, h, _⟩
    · exact Nat.ne_of_gt (Nat.lt_of_lt_of_le (hlt b hb) (Nat.le_of_succ_le h))
    · exact (hfp b hb).2.2.2.2.1 x c h
  · rcases (hfp b hb).2.2.2.1 with z | z
    · exact I.ok.noex b o e z
    · exact absurd (Nat.lt_of_lt_of_le (Heap.lt_size e) (Nat.le_trans I.ok.bsz z)) (Nat.lt_irrefl _)
  · rcases List.mem_cons.mp (I.stkSub b z) with h | h
    · exact (hfp b hb).2.1 h
    · exact (hfp b hb).2.2.1 h
  · exact (Heap.Ns.new s.heap (.type "dict")).keeps (pushCells_keeps _ _)
  · -- the captured names
    have e1' : (scope.names.map (·.1))[i]? = some x := e1
    rw [List.getElem?_map] at e1'
    unfold mkSt at e2
    rw [List.getElem?_map] at e2
    cases hp : scope.names[i]? with
    | none => rw [hp] at e2; cases e2
    | some p =>
      rw [hp] at e1' e2
      have ex : p.1 = x := Option.some.inj e1'
      have e2' : (if p.2 == .free then slotOf X.N σ p.1 else none) = some v := Option.some.inj e2
      cases hk2 : p.2 == NameKind.free with
      | false => rw [hk2] at e2'; simp at e2'
      | true =>
        rw [hk2] at e2'
        simp only [if_true] at e2'
        have ek : p.2 = .free := by simpa using hk2
        have hm : (x, NameKind.free) ∈ scope.names := by
          have := List.mem_of_getElem? hp
          rw [← ex, ← ek]; exact this
        unfold slotOf at e2'
        rw [ex] at e2'
        cases hj : X.N.idxOf? x with
        | none => rw [hj] at e2'; cases e2'
        | some j =>
          rw [hj] at e2'
          have e3 : (σ[j]?).getD none = some v := e2'
          have hσ : σ[j]? = some (some v) := by
            cases q : σ[j]? with
            | none => rw [q] at e3; simp at e3
            | some o => rw [q] at e3; simp at e3; rw [e3]
          have hN : X.N[j]? = some x := by
            rw [List.idxOf?, List.findIdx?_eq_some_iff_getElem] at hj
            obtain ⟨h1, h2, _⟩ := hj
            rw [List.getElem?_eq_getElem h1]
            simpa using h2
          obtain ⟨m, hn, hl⟩ := I.loc
          have kx := hcap x hm
          obtain ⟨u, r, l⟩ := hl j x v hN hσ (by rcases kx with k | k; exact .inr (.inl k); exact .inr (.inr k))
          refine ⟨u, r, .inr ⟨?_, ?_⟩⟩
          · rw [kinds x, lookup_nodup hnd hm]
            simp only [Option.map_some]
            split
            · exact .inl rfl
            · exact .inr rfl
          · rcases l with ⟨k, _⟩ | ⟨_, c, hc', z⟩
            · rcases kx with k' | k' <;> (rw [k'] at k; cases k)
            · exact ⟨c, (same x hm).trans hc', z.keeps keep⟩
  · rcases look x c e with ⟨h, _⟩ | ⟨_, h, _⟩
    · exact ⟨_, own x c e h⟩
    · obtain ⟨v, z⟩ := I.cell x c h
      exact ⟨v, z.keeps keep⟩
  · rcases look x c e with ⟨_, h⟩ | ⟨_, h, _⟩
    · exact fresh (Nat.le_of_succ_le h)
    · exact I.freeC x c h
  · show (mkSt X.N scope.names σ).length = (scope.names.map (·.1)).length
    unfold mkSt
    rw [List.length_map, List.length_map]

structure Blk (X : Cx) (pins : List (Addr × Obj)) (H : Hp) (s : Shared) (C : Addr) : Prop where
  ns : ∃ m, s.heap.Ns C m
  free : H C = none
  loc : C ≠ X.env.locals
  abv : X.s₀.heap.objs.size ≤ C
  cel : ∀ x c, X.env.cells.lookup x = some c → c ≠ C
  pin : ∀ p ∈ X.pn ++ pins, p.1 ≠ C
theorem comp_core {elt tg iter : Expr} {ifs : List Expr} {scope : Scope} {pos : Pos} {wi : TI} {g : Cx → TG} {tc : Cx → TT} {te : Cx → TE} (hc : X.calm = true) (hk : scope.kind = .function) (hnd : (scope.names.map (·.1)).Nodup)
    (hcap : ∀ x, (x, NameKind.free) ∈ scope.names → X.env.kindOf x = some .cell ∨ X.env.kindOf x = some .free) (hi : PI X tg iter wi)
    (hin : ∀ Xc : Cx, CompOf X scope Xc → PG Xc tg (g Xc) ∧ PIfs Xc ifs (tc Xc) ∧ PE Xc elt (te Xc)) {pins : List (Addr × Obj)} {s : Shared} {σ : St} {H : Hp} {Q : VK} (I : Inv X pins σ H s) (h : tComp X scope wi (mkSt X.N scope.names) g tc te σ H Q) {R : Value → Addr → Result → Shared → Prop}
    (fin : ∀ acc C H' s', Inv X pins σ H' s' → Blk X pins H' s' C → Q (.ref acc) H' → R (.ref acc) C (.ok .next) s') :
    wpAny (model X.prog X.w) X.A (eval iter X.env) (fun x s₁ => wpAny (model X.prog X.w) X.A (pyIter x) (fun it s₂ => wpAny (model X.prog X.w) X.A (newList []) (fun acc s₃ =>
      wpAny (model X.prog X.w) X.A (newFunctionEnv scope X.env.globals (clOf X.env.cells scope.names []) [] X.env.qual none .none (some X.env)) (fun cenv s₄ =>
        codeAny (model X.prog X.w) X.A (.compStart (.ListComp elt [⟨tg, iter, ifs, 0⟩] scope pos) 0 it acc { cenv with scope := relabel scope X.env }) (R acc cenv.locals) s₄) X.xe s₃) X.xe s₂) X.xe s₁) X.xe s := by
  refine thn (hi pins s σ H _ I h) fun v s1 h1 => thn h1 fun itv s2 h2 => ?_
  obtain ⟨it, fp, tn, J, H2, rfl, I2, T, st2, f2, q2⟩ := h2
  refine wpAny_newObj_type ?_
  have hf : H2 s2.heap.objs.size = none := I2.hok.fresh (Nat.le_refl _)
  have I3 := I2.lnew (ys := []) (its := []) (t' := s2.toks) .nil (Nat.zero_le _)
  generalize hs3 : ({ s2 with heap := s2.heap.push { cls := .type "list", data := .seq ([] : List Value).toArray }, toks := s2.toks } : Shared) = s3 at I3
  have lt2 : ∀ b ∈ fp, b < s2.heap.objs.size := fun b hb => by
    obtain ⟨o, e, _⟩ := T.obj _ _ st2 b hb
    exact Heap.lt_size e
  have f3 : ∀ b ∈ fp, FpOk X pins (upd H2 s2.heap.objs.size (.lst [])) b := fun b hb => ⟨by rw [upd_ne (Nat.ne_of_lt (lt2 b hb))]; exact (f2 b hb).1, (f2 b hb).2⟩
  have sz3 : s3.heap.objs.size = s2.heap.objs.size + 1 := by rw [← hs3]; exact Heap.size_push ..
  have lt3 : ∀ b ∈ fp, b < s3.heap.objs.size := fun b hb => by rw [sz3]; exact Nat.lt_succ_of_lt (lt2 b hb)
  have st3 : tn 0 s3.heap := T.keep _ _ _ st2 fun b hb o e => by rw [← hs3]; exact Heap.get?_push_of_some _ e
  have J0 := comp_inv I3 hc hk hnd hcap f3 lt3
  have cO : CompOf X scope (cxComp X scope (cellsFrom (s3.heap.objs.size + 1) scope.names (clOf X.env.cells scope.names [])) s3.heap.objs.size s3 (upd H2 s2.heap.objs.size (.lst [])) fp) := ⟨rfl, rfl, rfl, rfl, rfl, rfl, rfl, rfl, rfl, rfl, rfl⟩
  obtain ⟨hg, hif, he⟩ := hin _ cO
  obtain ⟨W, ⟨m0, w0⟩, turn⟩ := q2 s2.heap.objs.size hf _ cO
  refine newEnv_comp ?_
  have st4 : tn 0 (pushCells (s3.heap.push { cls := .type "dict", data := .dict #[] }) scope.names) := T.keep _ _ _ st3 fun b _ o e => pushCells_keeps _ _ b o (Heap.get?_push_of_some _ e)
  generalize hXc : cxComp X scope (cellsFrom (s3.heap.objs.size + 1) scope.names (clOf X.env.cells scope.names [])) s3.heap.objs.size s3 (upd H2 s2.heap.objs.size (.lst [])) fp = Xc at J0 hg hif he turn
  have hprog : Xc.prog = X.prog := by rw [← hXc]; rfl
  have hw : Xc.w = X.w := by rw [← hXc]; rfl
  have hK : Xc.K = X.K := by rw [← hXc]; rfl
  have hA : Xc.A = X.A := by rw [← hXc]; rfl
  have hcm : Xc.calm = true := by rw [← hXc]; rfl
  have hxe : Xc.xe = fun _ _ => False := by rw [← hXc]; rfl
  have hen : Xc.env = compEnvX scope (cellsFrom (s3.heap.objs.size + 1) scope.names (clOf X.env.cells scope.names [])) s3.heap.objs.size X.env := by rw [← hXc]; rfl
  have hex : Xc.ex = fp := by rw [← hXc]; rfl
  have hfs : Xc.fs = frs X.stack := by rw [← hXc]; rfl
  have hs0 : Xc.s₀ = s3 := by rw [← hXc]; rfl
  have hH0 : Xc.H₀ = upd H2 s2.heap.objs.size (.lst []) := by rw [← hXc]; rfl
  have hpn : Xc.pn = [] := by rw [← hXc]; rfl
  have stat : ∀ {H' : Hp}, (∀ b ∈ fp, H' b = none) → ∀ b ∈ fp, FpOk Xc [] H' b := fun {H'} hn b hb => by
    refine ⟨hn b hb, (J0.ok.exf b (by rw [hex]; exact hb)).1, fun z => J0.ok.exfs b (by rw [hex]; exact hb) z, .inl (by rw [hex]; exact hb), (J0.ok.exf b (by rw [hex]; exact hb)).2, fun p hp => ?_⟩
    rw [hpn] at hp
    exact absurd hp (by simp)
  have loop : codeAny (model X.prog X.w) X.A (.compLoop (.ListComp elt [⟨tg, iter, ifs, 0⟩] scope pos) 0 (.ref it) (.ref s2.heap.objs.size) Xc.env)
      (R (.ref s2.heap.objs.size) s3.heap.objs.size) { s3 with heap := pushCells (s3.heap.push { cls := .type "dict", data := .dict #[] }) scope.names } := by
    refine codeAny_compLoop_gen (fun n s' => ∃ i σ' H', Inv Xc [] σ' H' s' ∧ tn i s'.heap ∧ (∀ b ∈ fp, H' b = none) ∧ W i n σ' H') ?_ m0 ⟨0, _, _, J0, st4, fun b hb => (f3 b hb).1, w0⟩
    rintro n s5 ⟨i, σ5, H5, I5, st5, fr5, w5⟩
    rcases turn i n σ5 H5 w5 with ⟨stop, qn⟩ | ⟨go, N, hN, step⟩
    · have q := T.done Xc hprog hw hK hcm i [] s5 σ5 H5 (fun _ _ => False) I5 (stat fr5) st5 stop
      rw [hA] at q
      refine thn q fun r s6 ⟨hr, I6⟩ => ?_
      subst hr
      -- the end
      have hL : Xc.env.locals = s3.heap.objs.size := by rw [hen]; rfl
      have ub := I6.base
      rw [hfs, hex, hH0, hs0] at ub
      have IX : Inv X pins σ H5 s6 := by
        refine I3.call' (ch := fp) ?_ ub ?_ I6.bare fun b hb => ⟨(f3 b hb).2.2.2.1, (f3 b hb).2.1, (f3 b hb).2.2.2.2.1, (f3 b hb).2.2.2.2.2⟩
        · have := I6.os
          rw [hs0] at this
          exact this
        · have hok := I6.hok
          rw [hprog, hw] at hok
          exact hok
      refine fin _ _ _ _ IX ⟨?_, ?_, Nat.ne_of_gt I3.lt, I3.sz, fun x c e => ?_, fun p hp => ?_⟩ qn
      · obtain ⟨m, hn, _⟩ := I6.loc
        rw [hL] at hn
        exact ⟨m, hn⟩
      · have := I6.free
        rw [hL] at this
        exact this
      · obtain ⟨v, z⟩ := I3.cell x c e
        exact Nat.ne_of_lt z.lt
      · exact Nat.ne_of_lt (Heap.lt_size (I3.pin p hp).1)
    · have q := T.item Xc hprog hw hK hcm i [] s5 σ5 H5 (fun _ _ => False) I5 (stat fr5) st5 go
      rw [hA] at q
      refine thn q fun r s6 ⟨u, hr, h6⟩ => ?_
      subst hr
      refine thn h6 fun _ s7 ⟨x, H7, I7, r7, y7, st7, fr7⟩ => ?_
      have I7' := I7.pinned (stat fr7) (T.obj _ _ st7)
      have q8 := hg _ s7 σ5 H7 x u _ I7' r7 (step x H7 y7)
      rw [hprog, hw, hA, hxe] at q8
      refine thn q8 fun _ s8 ⟨σ8, H8, I8, z8⟩ => ?_
      have q9 := hif _ s8 σ8 H8 _ I8 z8
      rw [hprog, hw, hA, hxe] at q9
      refine thn q9 fun ok s9 ⟨H9, I9, z9⟩ => ?_
      have again : ∀ {s' : Shared} {σ' : St} {H' : Hp}, Inv Xc ([] ++ pinsAt fp s7.heap) σ' H' s' → N σ' H' → ∃ m, m < n ∧ ∃ i σ' H', Inv Xc [] σ' H' s' ∧ tn i s'.heap ∧ (∀ b ∈ fp, H' b = none) ∧ W i m σ' H' := fun {s' σ' H'} I' n' => by
        obtain ⟨m', hm, w'⟩ := hN σ' H' n'
        refine ⟨m', hm, i + 1, σ', H', I'.unpinned, T.keep _ _ _ st7 fun b hb o e => (I'.pin (b, o) (List.mem_append_right _ (List.mem_append_right _ (mem_pinsAt hb e)))).1, fun b hb => ?_, w'⟩
        obtain ⟨o, e, d⟩ := T.obj _ _ st7 b hb
        exact (I'.pin (b, o) (List.mem_append_right _ (List.mem_append_right _ (mem_pinsAt hb e)))).2.1
      cases ok with
      | false =>
        rw [if_neg Bool.false_ne_true] at z9 ⊢
        exact again I9 z9
      | true =>
        rw [if_pos rfl] at z9 ⊢
        have q10 := he _ s9 σ8 H9 _ I9 z9
        rw [hprog, hw, hA, hxe] at q10
        refine thn q10 fun uv s10 ⟨v, H10, I10, r10, ys, hy, hz, z10⟩ => ?_
        have q11 := mt_append (X := Xc) _ s10 σ8 H10 (.ref s2.heap.objs.size) [v] (.ref s2.heap.objs.size) [uv] (fun _ H' => N σ8 H') I10 rfl (.cons r10 .nil) ⟨_, ys, v, rfl, rfl, hy, hz, z10⟩
        rw [hprog, hw, hA, hxe] at q11
        exact thn q11 fun _ s11 ⟨_, H11, I11, _, z11⟩ => again I11 z11
  have eenv : ({ (newEnv scope s3.heap.objs.size X.env.globals (cellsFrom (s3.heap.objs.size + 1) scope.names (clOf X.env.cells scope.names [])) X.env.qual none .none (some X.env) builtinsNs) with scope := relabel scope X.env } : Env) = Xc.env := by rw [hen]; rfl
  rw [eenv]
  exact codeAny_compStart_list loop (T.self X.A 0 _ _ _ st4 loop)
theorem Blk.gone {pins : List (Addr × Obj)} {σ : St} {H : Hp} {s : Shared} {C : Addr} {h' : Heap} (b : Blk X pins H s C) (I : Inv X pins σ H s) (hs : Heap.SameBut C s.heap h') : Inv X pins σ H { s with heap := h' } :=
  I.turned (t' := s.toks) (fun c o hc e => (hs.2 c hc).trans e) b.free b.loc (.inr b.abv) b.cel b.pin
theorem pe_comp {elt tg iter : Expr} {ifs : List Expr} {scope : Scope} {pos : Pos} {wi : TI} {g : Cx → TG} {tc : Cx → TT} {te : Cx → TE} (hc : X.calm = true) (hk : scope.kind = .function) (hnd : (scope.names.map (·.1)).Nodup)
    (hcap : ∀ x, (x, NameKind.free) ∈ scope.names → X.env.kindOf x = some .cell ∨ X.env.kindOf x = some .free) (hi : PI X tg iter wi)
    (hin : ∀ Xc : Cx, CompOf X scope Xc → PG Xc tg (g Xc) ∧ PIfs Xc ifs (tc Xc) ∧ PE Xc elt (te Xc)) (hs : ∀ x, foldedSetIterable iter X.env x = pure x) :
    PE X (.ListComp elt [⟨tg, iter, ifs, 0⟩] scope pos) (tComp X scope wi (mkSt X.N scope.names) g tc te) := by
  intro pins s σ H Q I h
  rw [eval_ListComp]
  refine wpAny_comprehension_free (use := none) (cl := clOf X.env.cells scope.names []) rfl hs (closureFor_clOf (comp_cells I hnd hcap).1) hk (fun x hx hl => lookup_nodup hnd (by rw [← hl]; exact hx)) ?_
  refine comp_core hc hk hnd hcap hi hin I h fun acc C H' s' I' b q => ?_
  obtain ⟨m, hn⟩ := b.ns
  exact ⟨m, hn, fun h' hsb => ⟨.ref acc, H', b.gone I' hsb, rfl, q⟩⟩
theorem ps_setC {i : Nat} {x : Str} {elt tg iter : Expr} {ifs : List Expr} {scope : Scope} {pos pos' spos : Pos} {wi : TI} {g : Cx → TG} {tc : Cx → TT} {te : Cx → TE} (hN : X.N.Nodup) (hix : X.N[i]? = some x) (hx : X.env.scope.names.lookup x = some .local)
    (hc : X.calm = true) (hk : scope.kind = .function) (hnd : (scope.names.map (·.1)).Nodup)
    (hcap : ∀ x, (x, NameKind.free) ∈ scope.names → X.env.kindOf x = some .cell ∨ X.env.kindOf x = some .free) (hi : PI X tg iter wi)
    (hin : ∀ Xc : Cx, CompOf X scope Xc → PG Xc tg (g Xc) ∧ PIfs Xc ifs (tc Xc) ∧ PE Xc elt (te Xc)) (hs : ∀ x, foldedSetIterable iter X.env x = pure x)
    (hsw : swapsWith (.ListComp elt [⟨tg, iter, ifs, 0⟩] scope pos) (some (.Name x pos')) spos.line X.env = pure true) :
    PS X (.Assign [.Name x pos'] (.ListComp elt [⟨tg, iter, ifs, 0⟩] scope pos) spos) (tAsg (tComp X scope wi (mkSt X.N scope.names) g tc te) (gName i)) := by
  intro pins s σ H D I h
  rw [exec_Assign_Name_used _ _ _ _ hsw]
  refine wpAny_bind (wpAny_standAt (wpAny_bind ?_))
  show wpAny _ X.A (do let _ ← comprehension (.ListComp elt [⟨tg, iter, ifs, 0⟩] scope pos) scope X.env _ (newList []) false (eval iter X.env) (some (assign (.Name x pos') X.env))) _ _ s
  refine wpAny_bind (thn (wpAny_comprehension_free (use := some (assign (.Name x pos') X.env)) (Q := fun _ s' => SP X pins D .next s') (cl := clOf X.env.cells scope.names []) rfl hs (closureFor_clOf (comp_cells I hnd hcap).1) hk (fun x hx hl => lookup_nodup hnd (by rw [← hl]; exact hx))
    (comp_core hc hk hnd hcap hi hin I h fun acc C H' s' I' b q => ?_)) fun _ s' hq => wpAny_pure (wpAny_pure hq))
  show wpAny _ X.A (assign (.Name x pos') X.env (.ref acc)) _ _ s'
  refine wpAny_assign_Name (store_ok2 I' hN hix (.inl hx) (v := .ref acc) rfl (fun s'' I'' ⟨a, hsb, ha⟩ => ?_) (.inr hx))
  obtain ⟨m, hn⟩ := b.ns
  have hCa : C ≠ a := by
    rcases ha with ha | ha
    · rw [ha]; exact b.loc
    · exact (b.cel x a ha).symm
  have b2 : Blk X pins H' s'' C := ⟨⟨m, hn.sameBut hsb hCa⟩, b.free, b.loc, b.abv, b.cel, b.pin⟩
  exact ⟨m, hn.sameBut hsb hCa, fun h' hsb' => ⟨_, H', b2.gone I'' hsb', q⟩⟩
end
end L2

set_option Elab.async false
set_option linter.all false
set_option maxRecDepth 100000
namespace L2
open PySem PySem.Spec PyProof.Rows

/-! ### zip and enumerate over tuples -/
section
variable {prog : Program} {w : World} {A : Around} {E : Value → Shared → Prop} {s : Shared}

structure ZT (h : Heap) (z ti to i1 i2 t1 t2 : Addr) (k : Nat) (f : Value) : Prop where
  hz : IsZip h z ti to f
  hi : IsPair h ti (.ref i1) (.ref i2)
  ho : ∃ a b, IsPair h to a b
  h1 : h.IsTupleIter i1 t1 k
  h2 : h.IsTupleIter i2 t2 k



noncomputable abbrev itT (t : Addr) : Obj := { cls := .type "tuple_iterator", data := .fields #[.ref t, .int 0 0] }
end
end L2

set_option Elab.async false
set_option linter.all false
set_option maxRecDepth 100000
namespace L2
open PySem PySem.Spec PyProof.Rows

noncomputable def Itz (K : PySem.W.Frag) (t1 t2 : Addr) : It :=
  ⟨fun i H => ∃ xs ys x y, SqT K H t1 xs ∧ SqT K H t2 ys ∧ xs[i]? = some x ∧ ys[i]? = some y,
   fun i H v H' => ∃ p, H p = none ∧ v = .ref p ∧ ∀ xs ys x y, SqT K H t1 xs → SqT K H t2 ys → xs[i]? = some x → ys[i]? = some y → H' = upd H p (.tup [x, y]),
   fun i H => ∃ xs ys, SqT K H t1 xs ∧ SqT K H t2 ys ∧ (xs.length ≤ i ∨ ys.length ≤ i)⟩
section
variable {X : Cx}
noncomputable def iZip (K : PySem.W.Frag) (ta : TA) : TI := fun σ H R => ta σ H fun vs H1 => ∃ a b, vs = [.ref a, .ref b] ∧ (∃ xs, SqT K H1 a xs) ∧ (∃ ys, SqT K H1 b ys) ∧ R (Itz K a b) H1
end
end L2

set_option Elab.async false
set_option linter.all false
set_option maxRecDepth 100000
namespace L2
open PySem PySem.Spec PyProof.Rows

/-! ### enumerate over a tuple -/
section
variable {prog : Program} {w : World} {A : Around} {E : Value → Shared → Prop} {s : Shared}
end
noncomputable def Ite (K : PySem.W.Frag) (t : Addr) : It :=
  ⟨fun i H => ∃ xs x, SqT K H t xs ∧ xs[i]? = some x, fun i H v H' => ∃ p, H p = none ∧ v = .ref p ∧ ∀ xs x, SqT K H t xs → xs[i]? = some x → H' = upd H p (.tup [.int (i : Int), x]), fun i H => ∃ xs, SqT K H t xs ∧ xs.length = i⟩
section
variable {X : Cx}
noncomputable def iEnum (K : PySem.W.Frag) (ta : TA) : TI := fun σ H R => ta σ H fun vs H1 => ∃ a, vs = [.ref a] ∧ (∃ xs, SqT K H1 a xs) ∧ R (Ite K a) H1
end
end L2

set_option Elab.async false
set_option linter.all false
set_option maxRecDepth 100000
/-! list + list, list * int, of lists that are read -/
namespace L2
open PySem PySem.Spec PyProof.Rows PySem.SeqAt
section
variable {X : Cx}
noncomputable def rCatL (K : PySem.W.Frag) : R2 := fun x y H Q => ∃ l b us zs, x = .ref l ∧ y = .ref b ∧ SqL K H l us ∧ SqL K H b zs ∧ us.length + zs.length ≤ sizeLine ∧ ∀ p, H p = none → Q (.ref p) (upd H p (.lst (us ++ zs)))
theorem op_catL : OpR X (binaryOp .Add) (rCatL X.K) := by
  intro pins s σ H x y v u Q I rx ry h
  obtain ⟨l, b, us, zs, rfl, rfl, hH, hB, hz, q⟩ := h
  cases (show v = Value.ref l from rx)
  cases (show u = Value.ref b from ry)
  obtain ⟨its, r, pl, z1⟩ := I.list hH
  obtain ⟨its2, r2, pl2, z2⟩ := I.list hB
  have e1 := r.length
  have e2 := r2.length
  obtain ⟨⟨c1, d1, w1, t1⟩, n1, o1, hc1, hd1, hs1⟩ := pl
  obtain ⟨⟨c2, d2, w2, t2⟩, n2, o2, hc2, hd2, hs2⟩ := pl2
  simp only at hc1 hs1 hc2 hs2
  subst hc1 hs1 hc2 hs2
  refine concat_meets ⟨_, o1, rfl⟩ ⟨_, o2, rfl⟩ noFill_list_add seq_list_add PySem.F.slot_list_add PySem.F.entry_list_add (PySem.F.args_list_add_2 _ _) (list_addW l b its.toArray its2.toArray n1 n2 d1 d2 t1 t2 (by rw [List.size_toArray, List.size_toArray]; omega)) ⟨o1, o2, ?_⟩
  rw [show its.toArray ++ its2.toArray = (its ++ its2).toArray by simp]
  exact ⟨.ref _, _, I.lnew (t' := s.toks) (r.append r2) (by rw [List.length_append]; omega), rfl, q _ I.fresh⟩
noncomputable def rRepL (K : PySem.W.Frag) : R2 := fun x y H Q => ∃ l k us, x = .ref l ∧ y = .int k ∧ SqL K H l us ∧ -(2 ^ 63) ≤ k ∧ k < 2 ^ 63 ∧ us.length * k.toNat ≤ sizeLine ∧
  ∀ p, H p = none → Q (.ref p) (upd H p (.lst (List.replicate k.toNat us).flatten))
theorem op_repL : OpR X (binaryOp .Mult) (rRepL X.K) := by
  intro pins s σ H x y v u Q I rx ry h
  obtain ⟨l, k, us, rfl, rfl, hH, h1, h2, hz, q⟩ := h
  cases (show v = Value.ref l from rx)
  obtain ⟨t, rfl⟩ := ry
  obtain ⟨its, r, pl, z1⟩ := I.list hH
  have hl := r.length
  obtain ⟨⟨c1, d1, w1, t1⟩, n1, e, hc1, hd1, hs1⟩ := pl
  simp only at hc1 hs1
  subst hc1 hs1
  have a1 : its.toArray.size * k.toNat ≤ sizeLine := by rw [List.size_toArray, ← hl]; exact hz
  have a2 : ¬ its.toArray.size * k.toNat > (2 ^ 63 - 1) / 8 := by
    have : (sizeLine : Nat) ≤ (2 ^ 63 - 1) / 8 := by decide
    omega
  have a3 : ¬ (!Builtin.List.listFitsIndex k) = true := by rw [fitsIndex_both h1 h2]; exact Bool.false_ne_true
  have a4 : ¬ Builtin.List.listTooLong (its.toArray.size * k.toNat) = true := by rw [notLongL a1]; exact Bool.false_ne_true
  have a5 : List.foldl (fun x1 x2 => x1 ++ x2) #[] (List.replicate (if its.toArray.isEmpty = true then 0 else k.toNat) its.toArray) = (List.replicate k.toNat its).flatten.toArray := by
    have f0 : ∀ m : Nat, List.foldl (fun x1 x2 => x1 ++ x2) #[] (List.replicate m its.toArray) = (List.replicate m its).flatten.toArray := fun m => (foldl_rep its m []).trans (by rw [List.nil_append])
    rw [f0]
    cases its with
    | nil => simp
    | cons a r' => rw [if_neg (by simp)]
  refine wpAny_binaryOp_repeat_ref (T := "list") (U := "int") (by decide) ⟨_, e, rfl⟩ (fun s' => typeIs_int s' k t) noFill_list_mul F.fills_int_mul F.slot_int_rmul repeat_list F.slot_int_index.lookup ?_
  refine call_meets F.slot_int_rmul (typeIs_int s k t) F.entry_int_rmul (F.args_int_rmul_2 _ _) (lm_int_rmul_list_any k t l its.toArray n1 d1 t1) ⟨e, rfl, ⟨_, e, rfl⟩, ?_⟩
  refine call_meets F.slot_list_mul ⟨_, e, rfl⟩ F.entry_list_mul (F.args_list_mul_2 _ _) (lm_list_mul_any l its.toArray n1 d1 t1 k t a3 a2 a4) ⟨e, ?_⟩
  rw [a5]
  exact ⟨.ref _, _, I.lnew (t' := s.toks) (r.rep k.toNat) (by rw [len_rep, Nat.mul_comm]; exact hz), rfl, q _ I.fresh⟩
end
end L2

set_option Elab.async false
set_option linter.all false
set_option maxRecDepth 100000
/-! the deep evaluator: pure data, the text's own trees -/
namespace DE
open PySem
inductive D where
  | non | bl (b : Bool) | int (i : Int) | str (x : Str) | tup (xs : List D) | lst (xs : List D)
  deriving Inhabited
inductive Sl where
  | no | sh (d : D) | ow (ds : List D)
  /-- a list of one's own that holds lists of one's own -/
  | oo (dss : List (List D))
  deriving Inhabited
noncomputable abbrev Rho := List (Str × Sl)
inductive Fl where
  | nxt (ρ : Rho) | ret (d : D)
  deriving Inhabited

noncomputable def b2i (b : Bool) : Int := if b then 1 else 0
mutual
noncomputable def deq : D → D → Bool
  | .non, .non => true
  | .bl a, .bl b => a == b
  | .bl a, .int j => b2i a == j
  | .int i, .bl b => i == b2i b
  | .int i, .int j => i == j
  | .str x, .str y => x == y
  | .tup xs, .tup ys => deqs xs ys
  | .lst xs, .lst ys => deqs xs ys
  | _, _ => false
noncomputable def deqs : List D → List D → Bool
  | [], [] => true
  | x :: xs, y :: ys => deq x y && deqs xs ys
  | _, _ => false
end
mutual
noncomputable def dep : D → Nat
  | .tup xs => deps xs + 1
  | .lst xs => deps xs + 1
  | _ => 0
noncomputable def deps : List D → Nat
  | [] => 0
  | x :: xs => max (dep x) (deps xs)
end
noncomputable def asB : D → Option Bool
  | .bl b => some b
  | _ => none
noncomputable def asI : D → Option Int
  | .int i => some i
  | _ => none
noncomputable def items : D → Option (List D)
  | .tup xs => some xs
  | .lst xs => some xs
  | _ => none
noncomputable def tupI : D → Option (List D)
  | .tup xs => some xs
  | _ => none
noncomputable def asIs : List D → Option (List Int)
  | [] => some []
  | .int i :: r => (asIs r).map (i :: ·)
  | _ => none
noncomputable def asBs : List D → Option (List Bool)
  | [] => some []
  | .bl i :: r => (asBs r).map (i :: ·)
  | _ => none
noncomputable def small (i : Int) : Bool := decide (-(2 ^ 64) < i) && decide (i < 2 ^ 64)
noncomputable def szl (n : Nat) : Bool := decide (n ≤ 100000)
noncomputable def binop : Operator → D → D → Option D
  | .Add, .int i, .int j => some (.int (i + j))
  | .Add, .tup xs, .tup ys => if szl (xs.length + ys.length) then some (.tup (xs ++ ys)) else none
  | .Add, .lst xs, .lst ys => if szl (xs.length + ys.length) then some (.lst (xs ++ ys)) else none
  | .Sub, .int i, .int j => some (.int (i - j))
  | .Mult, .int i, .int j => if small i || small j then some (.int (i * j)) else none
  | .Mult, .lst xs, .int j => if decide (j ≤ 1000) && decide (-1000 ≤ j) && szl (xs.length * j.toNat) then some (.lst (List.replicate j.toNat xs).flatten) else none
  | .FloorDiv, .int i, .int j => if decide (0 < j) && decide (j < 1073741824) then some (.int (i / j)) else none
  | .Mod, .int i, .int j => if decide (0 < j) then some (.int (i % j)) else none
  | _, _, _ => none
noncomputable def isNon : D → Bool
  | .non => true
  | _ => false
noncomputable def cmpop : CmpOp → D → D → Option D
  | .Eq, x, y => if decide (dep x ≤ 50) then some (.bl (deq x y)) else none
  | .NotEq, x, y => if decide (dep x ≤ 50) then some (.bl (!deq x y)) else none
  | .Lt, .int i, .int j => some (.bl (decide (i < j)))
  | .LtE, .int i, .int j => some (.bl (decide (i ≤ j)))
  | .Gt, .int i, .int j => some (.bl (decide (j < i)))
  | .GtE, .int i, .int j => some (.bl (decide (j ≤ i)))
  | _, _, _ => none
noncomputable def ixD (n : Nat) (i : Int) : Option Nat := if 0 ≤ i then (if i < n then some i.toNat else none) else if -(n : Int) ≤ i then some (i + n).toNat else none
noncomputable def atD (xs : List D) (i : Int) : Option D := (ixD xs.length i).bind fun j => xs[j]?
noncomputable def sIxD (n d : Nat) : Option Int → Nat
  | none => d
  | some v => if v < 0 then (v + (n : Int)).toNat else min v.toNat n
noncomputable def cutT (xs : List D) (lo hi : Option Int) : List D := (xs.drop (sIxD xs.length 0 lo)).take (sIxD xs.length xs.length hi - sIxD xs.length 0 lo)
noncomputable def isTy : String → D → Bool
  | "int", .int _ => true
  | "int", .bl _ => true
  | "bool", .bl _ => true
  | "tuple", .tup _ => true
  | _, _ => false
noncomputable def blt : String → List D → Option D
  | "len", [d] => do let l ← items d; some (.int l.length)
  | "all", [.lst xs] => do let bs ← asBs xs; some (.bl (bs.all id))
  | "sum", [.lst xs] => do let is ← asIs xs; some (.int is.sum)
  | "sum", [.tup xs] => do let is ← asIs xs; some (.int is.sum)
  | "tuple", [d] => do let l ← items d; some (.tup l)
  | "list", [d] => do let l ← items d; some (.lst l)
  | "int", [.bl b] => some (.int (b2i b))
  | _, _ => none
structure Cxt where
  cst : List (Str × D)
  blt : List (Str × String)
  fns : List Str
  call : Str → List D → Option D

noncomputable def relS (scope sc : Scope) : Scope :=
  { scope with names := scope.names.map fun (n, k) => if (k == .free && sc.kind == .function && sc.names.lookup n == some .cell) then (n, .cell) else (n, k) }
noncomputable def shOf : Option Sl → Sl
  | some (.sh d) => .sh d
  | _ => .no
noncomputable def compRho (scope : Scope) (ρ : Rho) : Rho := scope.names.map fun p => (p.1, if p.2 == .free then shOf (ρ.lookup p.1) else .no)
noncomputable def nodupB : List Str → Bool
  | [] => true
  | x :: r => !r.contains x && nodupB r
noncomputable def compOk (sc scope : Scope) : Bool :=
  scope.kind == .function && nodupB (scope.names.map (·.1)) && scope.names.all fun p => p.2 != .free || sc.names.lookup p.1 == some .cell || sc.names.lookup p.1 == some .free
noncomputable def setR : Rho → Str → Sl → Rho
  | [], _, _ => []
  | (y, s) :: r, x, v => if x == y then (y, v) :: r else (y, s) :: setR r x v
noncomputable def plainName (x : Str) : Bool := x != "__debug__" && x != "__classdict__"
noncomputable def ownIn (scope : Scope) (x : Str) : Bool := scope.names.lookup x == some .local || scope.names.lookup x == some .cell
noncomputable def nameOf : Expr → Option Str
  | .Name x _ => some x
  | _ => none
noncomputable def bindNames (scope : Scope) : List Expr → List D → Rho → Option Rho
  | [], [], ρ => some ρ
  | .Name x _ :: es, d :: ds, ρ => if ownIn scope x && (ρ.map (·.1)).contains x then bindNames scope es ds (setR ρ x (.sh d)) else none
  | _, _, _ => none
noncomputable def bindT (scope : Scope) : Expr → D → Rho → Option Rho
  | .Name x _, d, ρ => if ownIn scope x && (ρ.map (·.1)).contains x then some (setR ρ x (.sh d)) else none
  | .Tuple es _ _, .tup ds, ρ => bindNames scope es ds ρ
  | _, _, _ => none
noncomputable def isGl (cx : Cxt) (sc : Scope) (x : Str) : Bool := sc.names.lookup x == some .globalImplicit
noncomputable def bltOf (cx : Cxt) (sc : Scope) (x : Str) : Option String := if isGl cx sc x then cx.blt.lookup x else none
noncomputable def compGo (f : D → Option (Option D)) : List D → Option (List D)
  | [] => some []
  | x :: r => do
    match ← f x with
    | some v => (compGo f r).map (v :: ·)
    | none => compGo f r
noncomputable def rangeD (lo hi : Int) : List D := (List.range (hi - lo).toNat).map fun (k : Nat) => .int (lo + (k : Int))
noncomputable def mapO (f : Expr → Option D) : List Expr → Option (List D)
  | [] => some []
  | e :: r => do let d ← f e; let ds ← mapO f r; some (d :: ds)
noncomputable def boolGo (op : BoolOp) (f : Expr → Option D) : List Expr → Option D
  | [] => none
  | [e] => f e
  | e :: e' :: r => do
    let d ← f e
    let b ← asB d
    match op with
    | .And => if b then boolGo op f (e' :: r) else some (.bl false)
    | .Or => if b then some (.bl true) else boolGo op f (e' :: r)
noncomputable def rng62 (i : Int) : Bool := decide (-(2 ^ 62) ≤ i) && decide (i < 2 ^ 62)
noncomputable def isTupE : Expr → Bool
  | .Tuple .. => true
  | _ => false
inductive Wk where
  | r1 (a : Expr) | r2 (a b : Expr) | sq
noncomputable def wkOf (cx : Cxt) (sc : Scope) : Expr → Wk
  | .Call (.Name x _) args [] _ => (match bltOf cx sc x with
    | some "range" => (match args with | [a] => .r1 a | [a, b] => .r2 a b | _ => .sq)
    | _ => .sq)
  | _ => .sq
noncomputable def enD (xs : List D) : List D := xs.zipIdx.map fun q => .tup [.int (q.2 : Int), q.1]
noncomputable def evI (cx : Cxt) (tup : Bool) (f : Expr → Option D) (sc : Scope) (e : Expr) : Option (List D) := match wkOf cx sc e with
  | .r1 a => do let j ← (f a).bind asI; if rng62 j then some (rangeD 0 j) else none
  | .r2 a b => do let i ← (f a).bind asI; let j ← (f b).bind asI; if rng62 i && rng62 j then some (rangeD i j) else none
  | .sq => (f e).bind items
inductive Wc where
  | lr1 (a : Expr) | lr2 (a b : Expr) | al
noncomputable def wcOf (cx : Cxt) (sc : Scope) (b : String) (args : List Expr) : Wc := match args with
  | [e] => (match b, wkOf cx sc e with
    | "list", .r1 a => .lr1 a
    | "list", .r2 a b => .lr2 a b
    | _, _ => .al)
  | _ => .al
noncomputable def tyKnown : String → Bool
  | "int" => true
  | "bool" => true
  | "tuple" => true
  | _ => false
noncomputable def tyOf (cx : Cxt) (sc : Scope) : Expr → Option String
  | .Name x _ => bltOf cx sc x
  | _ => none
noncomputable def ifsGo (f : Expr → Option D) : List Expr → Option Bool
  | [] => some true
  | [c] => (f c).bind asB
  | _ => none
noncomputable def plainE : Expr → Bool
  | .Starred .. => false
  | .Set .. => false
  | .Slice .. => false
  | _ => true
noncomputable def ev (cx : Cxt) : Nat → Scope → Rho → Expr → Option D
  | 0, _, _, _ => none
  | n + 1, sc, ρ, e => match e with
    | .Name x _ => if plainName x then (match sc.names.lookup x with
        | some .local => (match ρ.lookup x with | some (.sh d) => some d | _ => none)
        | some .cell => (match ρ.lookup x with | some (.sh d) => some d | _ => none)
        | some .free => (match ρ.lookup x with | some (.sh d) => some d | _ => none)
        | some .globalImplicit => cx.cst.lookup x
        | _ => none) else none
    | .Constant c _ _ => (match c with
        | .none => some .non
        | .bool b => some (.bl b)
        | .int i => some (.int i)
        | .str x => some (.str x)
        | _ => none)
    | .BinOp a op b _ => do let x ← ev cx n sc ρ a; let y ← ev cx n sc ρ b; binop op x y
    | .UnaryOp op a _ => do
        let x ← ev cx n sc ρ a
        match op with
        | .USub => (asI x).map fun i => .int (-i)
        | .Not => (asB x).map fun b => .bl (!b)
        | _ => none
    | .BoolOp op es _ => boolGo op (ev cx n sc ρ) es
    | .Compare a ops bs _ => (match ops, bs with
        | [op], [b] => do let x ← ev cx n sc ρ a; let y ← ev cx n sc ρ b; cmpop op x y
        | [op, op'], [b, c] => if !plainE c then none else do
          let x ← ev cx n sc ρ a
          let y ← ev cx n sc ρ b
          let k ← (cmpop op x y).bind asB
          if k then do let z ← ev cx n sc ρ c; cmpop op' y z else some (.bl false)
        | _, _ => none)
    | .IfExp c a b _ => do
        let k ← (ev cx n sc ρ c).bind asB
        if k then ev cx n sc ρ a else ev cx n sc ρ b
    | .Tuple es _ _ => do let ds ← mapO (ev cx n sc ρ) es; if szl ds.length then some (.tup ds) else none
    | .List es _ => do let ds ← mapO (ev cx n sc ρ) es; if szl ds.length then some (.lst ds) else none
    | .Subscript a b _ => do
        let x ← ev cx n sc ρ a
        match b with
        | .Slice lo hi st _ => (match st with
          | none => do
            let l ← (match lo with | none => some none | some e => (ev cx n sc ρ e).bind fun d => (asI d).map some)
            let h ← (match hi with | none => some none | some e => (ev cx n sc ρ e).bind fun d => (asI d).map some)
            match x with
            | .tup xs => if sIxD xs.length 0 l == 0 && sIxD xs.length xs.length h == xs.length then none else some (.tup (cutT xs l h))
            | _ => none
          | some _ => none)
        | b => do
          let i ← (ev cx n sc ρ b).bind asI
          let xs ← items x
          atD xs i
    | .Call f args kws _ => (match f, kws with
        | .Name x _, [] =>
          if isGl cx sc x then
            match cx.blt.lookup x with
            | some "isinstance" => (match args with
              | [a, t] => do let d ← ev cx n sc ρ a; let ty ← tyOf cx sc t; if tyKnown ty then some (.bl (isTy ty d)) else none
              | _ => none)
            | some b => (match wcOf cx sc b args with
              | .lr1 a => do let j ← (ev cx n sc ρ a).bind asI; if rng62 j && szl j.toNat then some (.lst (rangeD 0 j)) else none
              | .lr2 a a' => do let i ← (ev cx n sc ρ a).bind asI; let j ← (ev cx n sc ρ a').bind asI; if rng62 i && rng62 j && szl (j - i).toNat then some (.lst (rangeD i j)) else none
              | .al => if args.isEmpty then none else do let ds ← mapO (ev cx n sc ρ) args; blt b ds)
            | none => if cx.fns.contains x && !args.isEmpty then do let ds ← mapO (ev cx n sc ρ) args; cx.call x ds else none
          else none
        | _, _ => none)
    | .ListComp elt gens scope _ => (match gens with
        | [⟨tg, iter, ifs, a⟩] => if a == 0 && compOk sc scope then do
            let l ← evI cx (isTupE tg) (ev cx n sc ρ) sc iter
            if szl l.length then do
              let out ← compGo (fun d => do
                let ρ1 ← bindT scope tg d (compRho scope ρ)
                let b ← ifsGo (ev cx n (relS scope sc) ρ1) ifs
                if b then (ev cx n (relS scope sc) ρ1 elt).map some else some none) l
              some (.lst out)
            else none
          else none
        | _ => none)
    | _ => none

noncomputable def ment : Nat → Str → Expr → Bool
  | 0, _, _ => true
  | n + 1, x, e => match e with
    | .Name y _ => x == y
    | .Constant .. => false
    | .BinOp a _ b _ => ment n x a || ment n x b
    | .UnaryOp _ a _ => ment n x a
    | .BoolOp _ es _ => es.any (ment n x)
    | .Compare a _ bs _ => ment n x a || bs.any (ment n x)
    | .IfExp c a b _ => ment n x c || ment n x a || ment n x b
    | .Tuple es _ _ => es.any (ment n x)
    | .List es _ => es.any (ment n x)
    | .Subscript a b _ => ment n x a || ment n x b
    | .Slice lo hi st _ => (lo.map (ment n x)).getD false || (hi.map (ment n x)).getD false || (st.map (ment n x)).getD false
    | .Call f args kws _ => ment n x f || args.any (ment n x) || !kws.isEmpty
    | .ListComp elt gens _ _ => ment n x elt || gens.any fun g => ment n x g.iter || g.ifs.any (ment n x)
    | _ => true
noncomputable def frz (n : Nat) (e : Expr) (ρ : Rho) : Rho := ρ.map fun p => match p.2 with
  | .ow ds => if ment n p.1 e then (p.1, .sh (.lst ds)) else p
  | .oo dss => if ment n p.1 e then (p.1, .sh (.lst (dss.map .lst))) else p
  | _ => p
noncomputable def isFresh : Expr → Bool
  | .List .. => true
  | .ListComp .. => true
  | _ => false
noncomputable def calmS : Sl → Bool
  | .no => true
  | .sh _ => true
  | _ => false
noncomputable def isOo : Sl → Bool
  | .oo _ => true
  | _ => false
noncomputable def onlyC (ρ : Rho) (x : Str) : Bool := ρ.all fun p => p.1 == x || calmS p.2
noncomputable def noOo (ρ : Rho) (x : Str) : Bool := ρ.all fun p => p.1 == x || !isOo p.2
noncomputable def ooE (cx : Cxt) (sc : Scope) : Expr → Bool
  | .ListComp (.Call (.Name l _) [.Name y _] [] _) [⟨.Name y' _, _, [], _⟩] scope _ => y == y' && bltOf cx (relS scope sc) l == some "list" && plainName y && ownIn scope y && (relS scope sc).names.lookup y == some .local
  | _ => false
noncomputable def lsts : List D → Option (List (List D))
  | [] => some []
  | .lst ds :: r => (lsts r).map (ds :: ·)
  | _ => none
noncomputable def lstsD : D → Option (List (List D))
  | .lst ds => lsts ds
  | _ => none
noncomputable def isCat : Expr → Bool
  | .BinOp _ .Add _ _ => true
  | _ => false
noncomputable def slFor (e : Expr) (d : D) : Sl := match d with
  | .lst ds => if isFresh e then .ow ds else .sh (.lst ds)
  | d => .sh d
noncomputable def nc0 : Expr → Bool
  | .Call .. => true
  | .Name x _ => x != "__debug__"
  | .IfExp .. => true
  | .ListComp .. => true
  | .Compare .. => true
  | _ => false
noncomputable def nc : Expr → Bool
  | .Subscript v _ _ => nc0 v
  | .BinOp l _ r _ => nc0 l || nc0 r
  | e => nc0 e
noncomputable def swp (sc : Scope) (ts : List Expr) (value : Expr) : Option Bool := match value with
  | .Tuple vs _ _ => (match ts, vs with
    | [.Name x px, .Name y py], [a, b] =>
      if sc.names.lookup x == some .local && sc.names.lookup y == some .local then
        (if px.line == py.line && x != y && (nc a || nc b) && plainE a && plainE b then some true else none)
      else some false
    | _, _ => none)
  | _ => some false
noncomputable def forGo (f : D → Rho → Option Fl) : List D → Rho → Option Fl
  | [], ρ => some (.nxt ρ)
  | x :: r, ρ => do
    match ← f x ρ with
    | .ret d => some (.ret d)
    | .nxt ρ' => forGo f r ρ'
noncomputable def stGo (f : Rho → Stmt → Option Fl) : List Stmt → Rho → Option Fl
  | [], ρ => some (.nxt ρ)
  | s :: r, ρ => do
    match ← f ρ s with
    | .ret d => some (.ret d)
    | .nxt ρ' => stGo f r ρ'
noncomputable def st (cx : Cxt) (F : Nat) : Nat → Scope → Rho → Stmt → Option Fl
  | 0, _, _, _ => none
  | n + 1, sc, ρ, s => match s with
    | .Pass _ => some (.nxt ρ)
    | .Return v _ => (match v with
        | none => some (.ret .non)
        | some e => (ev cx F sc (frz F e ρ) e).map .ret)
    | .Assign tgs e _ => (match tgs with
        | [.Name x _] => if ownIn sc x && (ρ.map (·.1)).contains x then
            (if ooE cx sc e then (if onlyC (frz F e ρ) x then (ev cx F sc (frz F e ρ) e).bind fun d => (lstsD d).map fun dss => .nxt (setR (frz F e ρ) x (.oo dss)) else none)
            else if isFresh e && !noOo (frz F e ρ) x then none
            else (ev cx F sc (frz F e ρ) e).map fun d => .nxt (setR (frz F e ρ) x (slFor e d))) else none
        | [.Tuple es _ _] => if (swp sc es e).isSome then do
            let d ← ev cx F sc (frz F e ρ) e
            let l ← items d
            (bindNames sc es l (frz F e ρ)).map .nxt
          else none
        | [.Subscript (.Name x _) ie _] => (match (frz F ie (frz F e ρ)).lookup x with
          | some (.oo dss) => if ownIn sc x && plainName x && isCat e then do
              let d ← ev cx F sc (frz F ie (frz F e ρ)) e
              let j ← (ev cx F sc (frz F ie (frz F e ρ)) ie).bind asI
              let n ← ixD dss.length j
              (match d with
              | .lst ds => some (.nxt (setR (frz F ie (frz F e ρ)) x (.oo (dss.set n ds))))
              | _ => none)
            else none
          | _ => none)
        | [.Subscript (.Subscript (.Name x _) i1 _) i2 _] => (match (frz F i2 (frz F i1 (frz F e ρ))).lookup x with
          | some (.oo dss) => if ownIn sc x && plainName x && !isFresh e then do
              let d ← ev cx F sc (frz F i2 (frz F i1 (frz F e ρ))) e
              let j1 ← (ev cx F sc (frz F i2 (frz F i1 (frz F e ρ))) i1).bind asI
              let n1 ← ixD dss.length j1
              let ds ← dss[n1]?
              let j2 ← (ev cx F sc (frz F i2 (frz F i1 (frz F e ρ))) i2).bind asI
              let n2 ← ixD ds.length j2
              some (.nxt (setR (frz F i2 (frz F i1 (frz F e ρ))) x (.oo (dss.set n1 (ds.set n2 d)))))
            else none
          | _ => none)
        | _ => none)
    | .Expr v _ => (match v with
        | .Call (.Attribute (.Name x _) m ap) [e] [] cp => (match (frz F e ρ).lookup x with
            | some (.ow ds) => if ownIn sc x && plainName x && ap.endLine == cp.line then
                if m == "append" && szl (ds.length + 1) then (ev cx F sc (frz F e ρ) e).map fun d => .nxt (setR (frz F e ρ) x (.ow (ds ++ [d])))
                else if m == "extend" then do
                  let d ← ev cx F sc (frz F e ρ) e
                  (match d with
                  | .lst zs => if szl (ds.length + zs.length) then some (.nxt (setR (frz F e ρ) x (.ow (ds ++ zs)))) else none
                  | .tup zs => if szl (ds.length + zs.length) then some (.nxt (setR (frz F e ρ) x (.ow (ds ++ zs)))) else none
                  | _ => none)
                else none
              else none
            | _ => none)
        | .ListComp .. => none
        | .Constant .. => none
        | e => (ev cx F sc (frz F e ρ) e).map fun _ => .nxt (frz F e ρ))
    | .If c a b _ => do
        let k ← (ev cx F sc (frz F c ρ) c).bind asB
        if k then stGo (fun ρ s => st cx F n sc ρ s) a (frz F c ρ) else stGo (fun ρ s => st cx F n sc ρ s) b (frz F c ρ)
    | .For tg iter body orelse _ => (match orelse with
        | [] => do
          let l ← evI cx (isTupE tg) (ev cx F sc (frz F iter ρ)) sc iter
          forGo (fun d ρ => do let ρ1 ← bindT sc tg d ρ; stGo (fun ρ s => st cx F n sc ρ s) body ρ1) l (frz F iter ρ)
        | _ => none)
    | _ => none
structure Fd where
  ps : List Str
  N : List Str
  sc : Scope
  body : List Stmt
noncomputable def startR (fd : Fd) (ds : List D) : Rho := (fd.ps.zip (ds.map Sl.sh)) ++ (fd.N.drop fd.ps.length).map fun x => (x, .no)
structure Pg where
  cst : List (Str × D)
  blt : List (Str × String)
  defs : List (Str × Fd)
noncomputable def Pg.cx (P : Pg) (c : Str → List D → Option D) : Cxt := ⟨P.cst, P.blt, P.defs.map (·.1), c⟩
@[irreducible] noncomputable def callN (P : Pg) (F : Nat) : Nat → Str → List D → Option D
  | 0, _, _ => none
  | k + 1, f, ds => match P.defs.lookup f with
    | none => none
    | some fd => if ds.length == fd.ps.length then
        (match stGo (fun ρ s => st (P.cx (callN P F k)) F F fd.sc ρ s) fd.body (startR fd ds) with
        | some (.ret d) => some d
        | some (.nxt _) => some .non
        | none => none)
      else none
theorem callN_0 {P : Pg} {F : Nat} {f : Str} {ds : List D} : callN P F 0 f ds = none := by with_unfolding_all rfl
theorem callN_s {P : Pg} {F k : Nat} {f : Str} {ds : List D} : callN P F (k + 1) f ds = (match P.defs.lookup f with
    | none => none
    | some fd => if ds.length == fd.ps.length then
        (match stGo (fun ρ s => st (P.cx (callN P F k)) F F fd.sc ρ s) fd.body (startR fd ds) with
        | some (.ret d) => some d
        | some (.nxt _) => some .non
        | none => none)
      else none) := by with_unfolding_all rfl
end DE

set_option Elab.async false
set_option linter.all false
set_option maxRecDepth 100000
namespace L2
open PySem PySem.Spec PyProof.Rows DE PySem.SeqAt

/-! ### data and the abstract heap -/
theorem Same.tup {K : PySem.W.Frag} {H H' : Hp} {a : Addr} {xs : List V} (e : Same H H') (h : SqT K H a xs) : SqT K H' a xs := by
  rcases h with (h | ⟨o, h⟩) | h
  · exact .inl (.inl (e _ _ h))
  · exact .inl (.inr ⟨o, e _ _ h⟩)
  · exact .inr h
mutual
noncomputable def Rep (K : PySem.W.Frag) (H : Hp) : D → V → Prop
  | .non, v => v = .non
  | .bl b, v => v = .bl b
  | .int i, v => v = .int i
  | .str x, v => v = .str x
  | .tup ds, v => ∃ a vs, v = .ref a ∧ SqT K H a vs ∧ RepL K H ds vs
  | .lst ds, v => ∃ a vs, v = .ref a ∧ SqL K H a vs ∧ RepL K H ds vs
noncomputable def RepL (K : PySem.W.Frag) (H : Hp) : List D → List V → Prop
  | [], vs => vs = []
  | d :: ds, vs => ∃ v r, vs = v :: r ∧ Rep K H d v ∧ RepL K H ds r
end
mutual
theorem Rep.same {K : PySem.W.Frag} {H H' : Hp} (e : Same H H') : ∀ (d : D) (v : V), Rep K H d v → Rep K H' d v
  | .non, v, h => by simpa [Rep] using h
  | .bl b, v, h => by simpa [Rep] using h
  | .int i, v, h => by simpa [Rep] using h
  | .str x, v, h => by simpa [Rep] using h
  | .tup ds, v, h => by
    simp only [Rep] at h ⊢
    obtain ⟨a, vs, h1, h2, h3⟩ := h
    exact ⟨a, vs, h1, e.tup h2, RepL.same e ds vs h3⟩
  | .lst ds, v, h => by
    simp only [Rep] at h ⊢
    obtain ⟨a, vs, h1, h2, h3⟩ := h
    exact ⟨a, vs, h1, e.seq h2, RepL.same e ds vs h3⟩
theorem RepL.same {K : PySem.W.Frag} {H H' : Hp} (e : Same H H') : ∀ (ds : List D) (vs : List V), RepL K H ds vs → RepL K H' ds vs
  | [], vs, h => by simpa [RepL] using h
  | d :: ds, vs, h => by
    simp only [RepL] at h ⊢
    obtain ⟨v, r, h1, h2, h3⟩ := h
    exact ⟨v, r, h1, Rep.same e d v h2, RepL.same e ds r h3⟩
end
theorem RepL.length {K : PySem.W.Frag} {H : Hp} : ∀ {ds : List D} {vs : List V}, RepL K H ds vs → ds.length = vs.length
  | [], vs, h => by simp only [RepL] at h; subst h; rfl
  | d :: ds, vs, h => by
    simp only [RepL] at h
    obtain ⟨v, r, rfl, _, h3⟩ := h
    simp [h3.length]
theorem RepL.nil {K : PySem.W.Frag} {H : Hp} : RepL K H [] [] := by simp [RepL]
theorem RepL.cons {K : PySem.W.Frag} {H : Hp} {d : D} {ds : List D} {v : V} {vs : List V} (h : Rep K H d v) (r : RepL K H ds vs) : RepL K H (d :: ds) (v :: vs) := by
  simp only [RepL]; exact ⟨v, vs, rfl, h, r⟩
theorem RepL.append {K : PySem.W.Frag} {H : Hp} : ∀ {ds es : List D} {vs us : List V}, RepL K H ds vs → RepL K H es us → RepL K H (ds ++ es) (vs ++ us)
  | [], es, vs, us, h, h' => by simp only [RepL] at h; subst h; exact h'
  | d :: ds, es, vs, us, h, h' => by
    simp only [RepL] at h
    obtain ⟨v, r, rfl, h2, h3⟩ := h
    exact .cons h2 (h3.append h')
theorem RepL.get {K : PySem.W.Frag} {H : Hp} : ∀ {ds : List D} {vs : List V} {i : Nat} {d : D}, RepL K H ds vs → ds[i]? = some d → ∃ v, vs[i]? = some v ∧ Rep K H d v
  | [], vs, i, d, _, e => by simp at e
  | d' :: ds, vs, 0, d, h, e => by
    simp only [RepL] at h
    obtain ⟨v, r, rfl, h2, h3⟩ := h
    simp at e; subst e
    exact ⟨v, rfl, h2⟩
  | d' :: ds, vs, i + 1, d, h, e => by
    simp only [RepL] at h
    obtain ⟨v, r, rfl, h2, h3⟩ := h
    obtain ⟨u, e1, e2⟩ := h3.get (i := i) (d := d) (by simpa using e)
    exact ⟨u, by simpa using e1, e2⟩
theorem RepL.get' {K : PySem.W.Frag} {H : Hp} {ds : List D} {vs : List V} {i : Nat} {v : V} (h : RepL K H ds vs) (e : vs[i]? = some v) : ∃ d, ds[i]? = some d ∧ Rep K H d v := by
  have hi := (List.getElem?_eq_some_iff.mp e).1
  have hl := h.length
  obtain ⟨u, e1, e2⟩ := h.get (i := i) (d := ds[i]) (by simp)
  rw [e] at e1; cases e1
  exact ⟨_, by simp, e2⟩
theorem RepL.take {K : PySem.W.Frag} {H : Hp} : ∀ (n : Nat) {ds : List D} {vs : List V}, RepL K H ds vs → RepL K H (ds.take n) (vs.take n)
  | 0, _, _, _ => by simpa using RepL.nil
  | n + 1, [], vs, h => by simp only [RepL] at h; subst h; simpa using RepL.nil
  | n + 1, d :: ds, vs, h => by
    simp only [RepL] at h
    obtain ⟨v, r, rfl, h2, h3⟩ := h
    simpa using RepL.cons h2 (h3.take n)
theorem RepL.drop {K : PySem.W.Frag} {H : Hp} : ∀ (n : Nat) {ds : List D} {vs : List V}, RepL K H ds vs → RepL K H (ds.drop n) (vs.drop n)
  | 0, _, _, h => by simpa using h
  | n + 1, [], vs, h => by simp only [RepL] at h; subst h; simpa using RepL.nil
  | n + 1, d :: ds, vs, h => by
    simp only [RepL] at h
    obtain ⟨v, r, rfl, h2, h3⟩ := h
    simpa using h3.drop n
theorem RepL.reverse {K : PySem.W.Frag} {H : Hp} : ∀ {ds : List D} {vs : List V}, RepL K H ds vs → RepL K H ds.reverse vs.reverse
  | [], vs, h => by simp only [RepL] at h; subst h; simpa using RepL.nil
  | d :: ds, vs, h => by
    simp only [RepL] at h
    obtain ⟨v, r, rfl, h2, h3⟩ := h
    simpa using h3.reverse.append (.cons h2 .nil)

structure Ext (Hs H Hs' H' : Hp) : Prop where
  vis : Same Hs Hs'
  all : Same H H'
  sub : Same Hs' H'
  hid : ∀ b o, H b = some o → Hs b = none → Hs' b = none
theorem Ext.refl {Hs H : Hp} (h : Same Hs H) : Ext Hs H Hs H := ⟨.refl _, .refl _, h, fun _ _ _ h => h⟩
theorem Ext.trans {Hs H Hs1 H1 Hs2 H2 : Hp} (a : Ext Hs H Hs1 H1) (b : Ext Hs1 H1 Hs2 H2) : Ext Hs H Hs2 H2 :=
  ⟨a.vis.trans b.vis, a.all.trans b.all, b.sub, fun c o h1 h2 => b.hid c o (a.all c o h1) (a.hid c o h1 h2)⟩
theorem Ext.new {Hs H : Hp} (h : Same Hs H) {p : Addr} (o : HO) (hp : H p = none) : Ext Hs H (upd Hs p o) (upd H p o) where
  vis := fun b u e => by rw [upd_ne (ne_of_none (h b u e) hp)]; exact e
  all := fun b u e => by rw [upd_ne (ne_of_none e hp)]; exact e
  sub := fun b u e => by
    by_cases hb : b = p
    · subst hb; rw [upd_same] at e ⊢; exact e
    · rw [upd_ne hb] at e ⊢; exact h b u e
  hid := fun b u e n => by rw [upd_ne (ne_of_none e hp)]; exact n

/-! ### equality -/
theorem isT {X : Cx} {pins : List (Addr × Obj)} {σ : St} {H : Hp} {s : Shared} {a : Addr} {vs : List V} (I : Inv X pins σ H s) (h : SqT X.K H a vs) : ∃ its : List Value, Vals vs its ∧ s.heap.IsTuple a its.toArray := by
  obtain ⟨its, r, p, _⟩ := I.tuple h
  exact ⟨its, r, p⟩
theorem isL {X : Cx} {pins : List (Addr × Obj)} {σ : St} {H : Hp} {s : Shared} {a : Addr} {vs : List V} (I : Inv X pins σ H s) (h : SqL X.K H a vs) : ∃ its : List Value, Vals vs its ∧ s.heap.IsList a its.toArray := by
  obtain ⟨its, r, p, _⟩ := I.list h
  exact ⟨its, r, p.isList⟩
mutual
theorem deq_refl : ∀ d : D, deq d d = true
  | .non => rfl
  | .bl b => by simp [deq]
  | .int i => by simp [deq]
  | .str x => by simp [deq]
  | .tup xs => by simp only [deq]; exact deqs_refl xs
  | .lst xs => by simp only [deq]; exact deqs_refl xs
theorem deqs_refl : ∀ ds : List D, deqs ds ds = true
  | [] => rfl
  | d :: ds => by simp only [deqs, deq_refl d, deqs_refl ds, Bool.and_self]
end
theorem deqs_all : ∀ {xs ys : List D} {e : Nat → Bool}, (∀ (j : Nat) (x y : D), xs[j]? = some x → ys[j]? = some y → e j = deq x y) → ((List.range (min xs.length ys.length)).all e && xs.length == ys.length) = deqs xs ys
  | [], [], _, _ => rfl
  | [], y :: ys, _, _ => by simp [deqs]
  | x :: xs, [], _, _ => by simp [deqs]
  | x :: xs, y :: ys, e, h => by
    have ih := deqs_all (xs := xs) (ys := ys) (e := fun j => e (j + 1)) fun j a b e1 e2 => h (j + 1) a b (by simpa using e1) (by simpa using e2)
    have h0 := h 0 x y rfl rfl
    simp only [deqs, ← ih, ← h0, List.length_cons]
    rw [show min (xs.length + 1) (ys.length + 1) = min xs.length ys.length + 1 by omega, List.range_succ_eq_map, List.all_cons, List.all_map]
    rw [Bool.and_assoc]
    congr 1
    congr 1
    simp
section
variable {X : Cx} {pins : List (Addr × Obj)} {σ : St} {H : Hp} {s : Shared}
mutual
theorem Rep.inj (I : Inv X pins σ H s) : ∀ (d d' : D) (v : V), Rep X.K H d v → Rep X.K H d' v → d = d'
  | .non, d', v, h, h' => by simp only [Rep] at h; subst h; cases d' <;> simp [Rep] at h' ⊢
  | .bl b, d', v, h, h' => by simp only [Rep] at h; subst h; cases d' <;> simp [Rep] at h' ⊢; exact h'
  | .int b, d', v, h, h' => by simp only [Rep] at h; subst h; cases d' <;> simp [Rep] at h' ⊢; exact h'
  | .str b, d', v, h, h' => by simp only [Rep] at h; subst h; cases d' <;> simp [Rep] at h' ⊢; exact h'
  | .tup ds, d', v, h, h' => by
    simp only [Rep] at h
    obtain ⟨a, vs, rfl, h2, h3⟩ := h
    cases d' with
    | tup es =>
      simp only [Rep] at h'
      obtain ⟨a', vs', e, h2', h3'⟩ := h'
      cases e
      have := I.tuple_inj h2 h2'
      subst this
      rw [RepL.inj I ds es vs h3 h3']
    | lst es =>
      simp only [Rep] at h'
      obtain ⟨a', vs', e, h2', h3'⟩ := h'
      cases e
      obtain ⟨i1, _, p1⟩ := isT I h2
      obtain ⟨i2, _, p2⟩ := isL I h2'
      exact absurd rfl (ne_of_list_tuple p2 p1)
    | non => simp [Rep] at h'
    | bl _ => simp [Rep] at h'
    | int _ => simp [Rep] at h'
    | str _ => simp [Rep] at h'
  | .lst ds, d', v, h, h' => by
    simp only [Rep] at h
    obtain ⟨a, vs, rfl, h2, h3⟩ := h
    cases d' with
    | lst es =>
      simp only [Rep] at h'
      obtain ⟨a', vs', e, h2', h3'⟩ := h'
      cases e
      have := I.list_inj h2 h2'
      subst this
      rw [RepL.inj I ds es vs h3 h3']
    | tup es =>
      simp only [Rep] at h'
      obtain ⟨a', vs', e, h2', h3'⟩ := h'
      cases e
      obtain ⟨i1, _, p1⟩ := isL I h2
      obtain ⟨i2, _, p2⟩ := isT I h2'
      exact absurd rfl (ne_of_list_tuple p1 p2)
    | non => simp [Rep] at h'
    | bl _ => simp [Rep] at h'
    | int _ => simp [Rep] at h'
    | str _ => simp [Rep] at h'
theorem RepL.inj (I : Inv X pins σ H s) : ∀ (ds es : List D) (vs : List V), RepL X.K H ds vs → RepL X.K H es vs → ds = es
  | [], es, vs, h, h' => by
    simp only [RepL] at h; subst h
    cases es with
    | nil => rfl
    | cons e es => simp [RepL] at h'
  | d :: ds, es, vs, h, h' => by
    simp only [RepL] at h
    obtain ⟨v, r, rfl, h2, h3⟩ := h
    cases es with
    | nil => simp [RepL] at h'
    | cons e es =>
      simp only [RepL] at h'
      obtain ⟨v', r', e', h2', h3'⟩ := h'
      cases e'
      rw [Rep.inj I d e v h2 h2', RepL.inj I ds es r h3 h3']
end

noncomputable def eJ (ds es : List D) (j : Nat) : Bool := match ds[j]?, es[j]? with
  | some x, some y => deq x y
  | _, _ => true
theorem eJ_all (ds es : List D) : ((List.range (min ds.length es.length)).all (eJ ds es) && ds.length == es.length) = deqs ds es :=
  deqs_all fun j x y e1 e2 => by unfold eJ; rw [e1, e2]
theorem eJ_all' (ds es : List D) (h : ds.length = es.length) : (List.range ds.length).all (eJ ds es) = deqs ds es := by
  rw [← eJ_all ds es, ← h]; simp
theorem deqs_len : ∀ {xs ys : List D}, xs.length ≠ ys.length → deqs xs ys = false
  | [], [], h => absurd rfl h
  | [], _ :: _, _ => rfl
  | _ :: _, [], _ => rfl
  | x :: xs, y :: ys, h => by
    simp only [deqs, deqs_len (xs := xs) (ys := ys) (by intro e; exact h (by simp [e])), Bool.and_false]
theorem unit_in1 {A : Around} : A.in1.units = A.units + 1 := rfl
mutual
theorem eqAt_of (I : Inv X pins σ H s) : ∀ (d d' : D) (v v' : V) (u u' : Value) (A : Around), Rep X.K H d v → Rep X.K H d' v' → RelV v u → RelV v' u' → A.units + dep d < cLine → EqAt A s u u' (deq d d')
  | .non, d', v, v', u, u', A, h, h', r, r', hu => by
    simp only [Rep] at h; subst h; cases (show u = Value.none from r)
    have hu0 : A.units < cLine := Nat.lt_of_le_of_lt (Nat.le_add_right _ _) hu
    cases d' with
    | non => simp only [Rep] at h'; subst h'; cases (show u' = Value.none from r'); exact EqAt.same _
    | bl b => simp only [Rep] at h'; subst h'; cases (show u' = Value.bool b from r'); exact EqAt.none_bool b
    | int i => simp only [Rep] at h'; subst h'; obtain ⟨t, rfl⟩ := r'; exact EqAt.none_int i t
    | str x => simp only [Rep] at h'; subst h'; obtain ⟨t, rfl⟩ := r'; exact EqAt.none_str x t
    | tup es => simp only [Rep] at h'; obtain ⟨a, vs, rfl, h2, h3⟩ := h'; cases (show u' = Value.ref a from r'); obtain ⟨its, _, p⟩ := isT I h2; exact EqAt.none_tuple p hu0
    | lst es => simp only [Rep] at h'; obtain ⟨a, vs, rfl, h2, h3⟩ := h'; cases (show u' = Value.ref a from r'); obtain ⟨its, _, p⟩ := isL I h2; exact EqAt.none_list p hu0
  | .bl c, d', v, v', u, u', A, h, h', r, r', hu => by
    simp only [Rep] at h; subst h; cases (show u = Value.bool c from r)
    have hu0 : A.units < cLine := Nat.lt_of_le_of_lt (Nat.le_add_right _ _) hu
    cases d' with
    | non => simp only [Rep] at h'; subst h'; cases (show u' = Value.none from r'); exact EqAt.bool_none c
    | bl b => simp only [Rep] at h'; subst h'; cases (show u' = Value.bool b from r'); exact EqAt.bool_bool c b
    | int i => simp only [Rep] at h'; subst h'; obtain ⟨t, rfl⟩ := r'; exact EqAt.bool_int c i t
    | str x => simp only [Rep] at h'; subst h'; obtain ⟨t, rfl⟩ := r'; exact EqAt.bool_str c x t
    | tup es => simp only [Rep] at h'; obtain ⟨a, vs, rfl, h2, h3⟩ := h'; cases (show u' = Value.ref a from r'); obtain ⟨its, _, p⟩ := isT I h2; exact EqAt.bool_tuple c p hu0
    | lst es => simp only [Rep] at h'; obtain ⟨a, vs, rfl, h2, h3⟩ := h'; cases (show u' = Value.ref a from r'); obtain ⟨its, _, p⟩ := isL I h2; exact EqAt.bool_list c p hu0
  | .int c, d', v, v', u, u', A, h, h', r, r', hu => by
    simp only [Rep] at h; subst h; obtain ⟨t0, rfl⟩ := r
    have hu0 : A.units < cLine := Nat.lt_of_le_of_lt (Nat.le_add_right _ _) hu
    cases d' with
    | non => simp only [Rep] at h'; subst h'; cases (show u' = Value.none from r'); exact EqAt.int_none c t0
    | bl b => simp only [Rep] at h'; subst h'; cases (show u' = Value.bool b from r'); exact EqAt.int_bool c t0 b
    | int i => simp only [Rep] at h'; subst h'; obtain ⟨t, rfl⟩ := r'; exact EqAt.int_int c t0 i t
    | str x => simp only [Rep] at h'; subst h'; obtain ⟨t, rfl⟩ := r'; exact EqAt.int_str c t0 x t
    | tup es => simp only [Rep] at h'; obtain ⟨a, vs, rfl, h2, h3⟩ := h'; cases (show u' = Value.ref a from r'); obtain ⟨its, _, p⟩ := isT I h2; exact EqAt.int_tuple c t0 p hu0
    | lst es => simp only [Rep] at h'; obtain ⟨a, vs, rfl, h2, h3⟩ := h'; cases (show u' = Value.ref a from r'); obtain ⟨its, _, p⟩ := isL I h2; exact EqAt.int_list c t0 p hu0
  | .str c, d', v, v', u, u', A, h, h', r, r', hu => by
    simp only [Rep] at h; subst h; obtain ⟨t0, rfl⟩ := r
    have hu0 : A.units < cLine := Nat.lt_of_le_of_lt (Nat.le_add_right _ _) hu
    cases d' with
    | non => simp only [Rep] at h'; subst h'; cases (show u' = Value.none from r'); exact EqAt.str_none c t0
    | bl b => simp only [Rep] at h'; subst h'; cases (show u' = Value.bool b from r'); exact EqAt.str_bool c t0 b
    | int i => simp only [Rep] at h'; subst h'; obtain ⟨t, rfl⟩ := r'; exact EqAt.str_int c t0 i t
    | str x => simp only [Rep] at h'; subst h'; obtain ⟨t, rfl⟩ := r'; exact EqAt.str_str c t0 x t
    | tup es => simp only [Rep] at h'; obtain ⟨a, vs, rfl, h2, h3⟩ := h'; cases (show u' = Value.ref a from r'); obtain ⟨its, _, p⟩ := isT I h2; exact EqAt.str_tuple c t0 p hu0
    | lst es => simp only [Rep] at h'; obtain ⟨a, vs, rfl, h2, h3⟩ := h'; cases (show u' = Value.ref a from r'); obtain ⟨its, _, p⟩ := isL I h2; exact EqAt.str_list c t0 p hu0
  | .tup ds, d', v, v', u, u', A, h, h', r, r', hu => by
    have hh := h
    simp only [Rep] at h; obtain ⟨a, vs, rfl, h2, h3⟩ := h; cases (show u = Value.ref a from r); obtain ⟨its, rv, p⟩ := isT I h2
    have hu0 : A.units < cLine := Nat.lt_of_le_of_lt (Nat.le_add_right _ _) hu
    have hu1 : A.in1.units + deps ds < cLine := by have : dep (.tup ds) = deps ds + 1 := rfl; rw [unit_in1]; omega
    cases d' with
    | non => simp only [Rep] at h'; subst h'; cases (show u' = Value.none from r'); exact EqAt.tuple_none p hu0
    | bl b => simp only [Rep] at h'; subst h'; cases (show u' = Value.bool b from r'); exact EqAt.tuple_bool b p hu0
    | int i => simp only [Rep] at h'; subst h'; obtain ⟨t, rfl⟩ := r'; exact EqAt.tuple_int i t p hu0
    | str x => simp only [Rep] at h'; subst h'; obtain ⟨t, rfl⟩ := r'; exact EqAt.tuple_str x t p hu0
    | tup es =>
      have hh' := h'
      simp only [Rep] at h'; obtain ⟨b, us, rfl, h2', h3'⟩ := h'; cases (show u' = Value.ref b from r'); obtain ⟨its', rv', p'⟩ := isT I h2'
      by_cases hab : a = b
      · subst hab
        have := Rep.inj I _ _ _ hh hh'
        rw [← this, deq_refl]
        exact EqAt.same _
      · have q := RcAt.tuples p p' hu0 (e := eJ ds es) fun j g1 g2 => eqsAt_of I ds es vs us its its' A.in1 h3 h3' rv rv' hu1 j _ _ (by simp at g1 ⊢) (by simp at g2 ⊢)
        have l1 := h3.length; have l2 := rv.length; have l3 := h3'.length; have l4 := rv'.length
        rw [List.size_toArray, List.size_toArray, ← l2, ← l1, ← l4, ← l3, eJ_all] at q
        exact .of_refs hab q
    | lst es => simp only [Rep] at h'; obtain ⟨a, vs, rfl, h2, h3⟩ := h'; cases (show u' = Value.ref a from r'); obtain ⟨its, _, p'⟩ := isL I h2; exact EqAt.tuple_list p p' hu0
  | .lst ds, d', v, v', u, u', A, h, h', r, r', hu => by
    have hh := h
    simp only [Rep] at h; obtain ⟨a, vs, rfl, h2, h3⟩ := h; cases (show u = Value.ref a from r); obtain ⟨its, rv, p⟩ := isL I h2
    have hu0 : A.units < cLine := Nat.lt_of_le_of_lt (Nat.le_add_right _ _) hu
    have hu1 : A.in1.units + deps ds < cLine := by have : dep (.lst ds) = deps ds + 1 := rfl; rw [unit_in1]; omega
    cases d' with
    | non => simp only [Rep] at h'; subst h'; cases (show u' = Value.none from r'); exact EqAt.list_none p hu0
    | bl b => simp only [Rep] at h'; subst h'; cases (show u' = Value.bool b from r'); exact EqAt.list_bool b p hu0
    | int i => simp only [Rep] at h'; subst h'; obtain ⟨t, rfl⟩ := r'; exact EqAt.list_int i t p hu0
    | str x => simp only [Rep] at h'; subst h'; obtain ⟨t, rfl⟩ := r'; exact EqAt.list_str x t p hu0
    | lst es =>
      have hh' := h'
      simp only [Rep] at h'; obtain ⟨b, us, rfl, h2', h3'⟩ := h'; cases (show u' = Value.ref b from r'); obtain ⟨its', rv', p'⟩ := isL I h2'
      have l1 := h3.length; have l2 := rv.length; have l3 := h3'.length; have l4 := rv'.length
      by_cases hab : a = b
      · subst hab
        have := Rep.inj I _ _ _ hh hh'
        rw [← this, deq_refl]
        exact EqAt.same _
      · by_cases hl : ds.length = es.length
        · have q := RcAt.lists p p' (by simp; omega) hu0 (e := eJ ds es) fun j g1 g2 => eqsAt_of I ds es vs us its its' A.in1 h3 h3' rv rv' hu1 j _ _ (by simp at g1 ⊢) (by simp at g2 ⊢)
          rw [List.size_toArray, ← l2, ← l1, eJ_all' _ _ hl] at q
          exact .of_refs hab q
        · have q := RcAt.lists_lengths p p' (by simp; omega) hu0
          rw [show deq (.lst ds) (.lst es) = deqs ds es from rfl, deqs_len hl]
          exact .of_refs hab q
    | tup es => simp only [Rep] at h'; obtain ⟨a, vs, rfl, h2, h3⟩ := h'; cases (show u' = Value.ref a from r'); obtain ⟨its, _, p'⟩ := isT I h2; exact EqAt.list_tuple p p' hu0
theorem eqsAt_of (I : Inv X pins σ H s) : ∀ (ds es : List D) (vs us : List V) (its its' : List Value) (A : Around), RepL X.K H ds vs → RepL X.K H es us → Vals vs its → Vals us its' → A.units + deps ds < cLine →
    ∀ (j : Nat) (u u' : Value), its[j]? = some u → its'[j]? = some u' → EqAt A s u u' (eJ ds es j)
  | [], es, vs, us, its, its', A, h, h', r, r', hu, j, u, u', e1, e2 => by
    simp only [RepL] at h; subst h; cases r; simp at e1
  | d :: ds, es, vs, us, its, its', A, h, h', r, r', hu, j, u, u', e1, e2 => by
    simp only [RepL] at h
    obtain ⟨v, vr, rfl, h2, h3⟩ := h
    cases r with
    | cons r rr =>
      cases es with
      | nil => simp only [RepL] at h'; subst h'; cases r'; simp at e2
      | cons e es =>
        simp only [RepL] at h'
        obtain ⟨v', vr', rfl, h2', h3'⟩ := h'
        cases r' with
        | cons r' rr' =>
          have hd : dep d ≤ deps (d :: ds) := Nat.le_max_left _ _
          have hds : deps ds ≤ deps (d :: ds) := Nat.le_max_right _ _
          cases j with
          | zero =>
            simp at e1 e2; subst e1 e2
            exact eqAt_of I d e v v' _ _ A h2 h2' r r' (by omega)
          | succ j =>
            have q := eqsAt_of I ds es vr vr' _ _ A h3 h3' rr rr' (by omega) j u u' (by simpa using e1) (by simpa using e2)
            simpa [eJ] using q
end
theorem cmpEq_of (I : Inv X pins σ H s) {d d' : D} {v v' : V} {u u' : Value} (A : Around) (h : Rep X.K H d v) (h' : Rep X.K H d' v') (r : RelV v u) (r' : RelV v' u') (hu : A.units + dep d < cLine) : RcAt A s u u' (deq d d') ∧ RcNeAt A s u u' (!deq d d') := by
  have hu0 : A.units < cLine := Nat.lt_of_le_of_lt (Nat.le_add_right _ _) hu
  cases d with
  | non =>
    simp only [Rep] at h; subst h; cases (show u = Value.none from r)
    cases d' with
    | non => simp only [Rep] at h'; subst h'; cases (show u' = Value.none from r'); exact ⟨RcAt.none_none, RcNeAt.none_none⟩
    | bl b => simp only [Rep] at h'; subst h'; cases (show u' = Value.bool b from r'); exact ⟨RcAt.none_bool b, RcNeAt.none_bool b⟩
    | int i => simp only [Rep] at h'; subst h'; obtain ⟨t, rfl⟩ := r'; exact ⟨RcAt.none_int i t, RcNeAt.none_int i t⟩
    | str x => simp only [Rep] at h'; subst h'; obtain ⟨t, rfl⟩ := r'; exact ⟨RcAt.none_str x t, RcNeAt.none_str x t⟩
    | tup es => simp only [Rep] at h'; obtain ⟨a, vs, rfl, h2, h3⟩ := h'; cases (show u' = Value.ref a from r'); obtain ⟨its, _, p⟩ := isT I h2; exact ⟨RcAt.none_tuple p hu0, RcNeAt.none_tuple p hu0⟩
    | lst es => simp only [Rep] at h'; obtain ⟨a, vs, rfl, h2, h3⟩ := h'; cases (show u' = Value.ref a from r'); obtain ⟨its, _, p⟩ := isL I h2; exact ⟨RcAt.none_list p hu0, RcNeAt.none_list p hu0⟩
  | bl c =>
    simp only [Rep] at h; subst h; cases (show u = Value.bool c from r)
    cases d' with
    | non => simp only [Rep] at h'; subst h'; cases (show u' = Value.none from r'); exact ⟨RcAt.bool_none c, RcNeAt.bool_none c⟩
    | bl b => simp only [Rep] at h'; subst h'; cases (show u' = Value.bool b from r'); exact ⟨RcAt.bool_bool c b, RcNeAt.bool_bool c b⟩
    | int i => simp only [Rep] at h'; subst h'; obtain ⟨t, rfl⟩ := r'; exact ⟨RcAt.bool_int c i t, RcNeAt.bool_int c i t⟩
    | str x => simp only [Rep] at h'; subst h'; obtain ⟨t, rfl⟩ := r'; exact ⟨RcAt.bool_str c x t, RcNeAt.bool_str c x t⟩
    | tup es => simp only [Rep] at h'; obtain ⟨a, vs, rfl, h2, h3⟩ := h'; cases (show u' = Value.ref a from r'); obtain ⟨its, _, p⟩ := isT I h2; exact ⟨RcAt.bool_tuple c p hu0, RcNeAt.bool_tuple c p hu0⟩
    | lst es => simp only [Rep] at h'; obtain ⟨a, vs, rfl, h2, h3⟩ := h'; cases (show u' = Value.ref a from r'); obtain ⟨its, _, p⟩ := isL I h2; exact ⟨RcAt.bool_list c p hu0, RcNeAt.bool_list c p hu0⟩
  | int c =>
    simp only [Rep] at h; subst h; obtain ⟨t0, rfl⟩ := r
    cases d' with
    | non => simp only [Rep] at h'; subst h'; cases (show u' = Value.none from r'); exact ⟨RcAt.int_none c t0, RcNeAt.int_none c t0⟩
    | bl b => simp only [Rep] at h'; subst h'; cases (show u' = Value.bool b from r'); exact ⟨RcAt.int_bool c t0 b, RcNeAt.int_bool c t0 b⟩
    | int i => simp only [Rep] at h'; subst h'; obtain ⟨t, rfl⟩ := r'; exact ⟨RcAt.int_int c t0 i t, RcNeAt.int_int c t0 i t⟩
    | str x => simp only [Rep] at h'; subst h'; obtain ⟨t, rfl⟩ := r'; exact ⟨RcAt.int_str c t0 x t, RcNeAt.int_str c t0 x t⟩
    | tup es => simp only [Rep] at h'; obtain ⟨a, vs, rfl, h2, h3⟩ := h'; cases (show u' = Value.ref a from r'); obtain ⟨its, _, p⟩ := isT I h2; exact ⟨RcAt.int_tuple c t0 p hu0, RcNeAt.int_tuple c t0 p hu0⟩
    | lst es => simp only [Rep] at h'; obtain ⟨a, vs, rfl, h2, h3⟩ := h'; cases (show u' = Value.ref a from r'); obtain ⟨its, _, p⟩ := isL I h2; exact ⟨RcAt.int_list c t0 p hu0, RcNeAt.int_list c t0 p hu0⟩
  | str c =>
    simp only [Rep] at h; subst h; obtain ⟨t0, rfl⟩ := r
    cases d' with
    | non => simp only [Rep] at h'; subst h'; cases (show u' = Value.none from r'); exact ⟨RcAt.str_none c t0, RcNeAt.str_none c t0⟩
    | bl b => simp only [Rep] at h'; subst h'; cases (show u' = Value.bool b from r'); exact ⟨RcAt.str_bool c t0 b, RcNeAt.str_bool c t0 b⟩
    | int i => simp only [Rep] at h'; subst h'; obtain ⟨t, rfl⟩ := r'; exact ⟨RcAt.str_int c t0 i t, RcNeAt.str_int c t0 i t⟩
    | str x => simp only [Rep] at h'; subst h'; obtain ⟨t, rfl⟩ := r'; exact ⟨RcAt.str_str c t0 x t, RcNeAt.str_str c t0 x t⟩
    | tup es => simp only [Rep] at h'; obtain ⟨a, vs, rfl, h2, h3⟩ := h'; cases (show u' = Value.ref a from r'); obtain ⟨its, _, p⟩ := isT I h2; exact ⟨RcAt.str_tuple c t0 p hu0, RcNeAt.str_tuple c t0 p hu0⟩
    | lst es => simp only [Rep] at h'; obtain ⟨a, vs, rfl, h2, h3⟩ := h'; cases (show u' = Value.ref a from r'); obtain ⟨its, _, p⟩ := isL I h2; exact ⟨RcAt.str_list c t0 p hu0, RcNeAt.str_list c t0 p hu0⟩
  | tup ds =>
    simp only [Rep] at h; obtain ⟨a, vs, rfl, h2, h3⟩ := h; cases (show u = Value.ref a from r); obtain ⟨its, rv, p⟩ := isT I h2
    have hu1 : A.in1.units + deps ds < cLine := by have : dep (.tup ds) = deps ds + 1 := rfl; rw [unit_in1]; omega
    cases d' with
    | non => simp only [Rep] at h'; subst h'; cases (show u' = Value.none from r'); exact ⟨RcAt.tuple_none p hu0, RcNeAt.tuple_none p hu0⟩
    | bl b => simp only [Rep] at h'; subst h'; cases (show u' = Value.bool b from r'); exact ⟨RcAt.tuple_bool b p hu0, RcNeAt.tuple_bool b p hu0⟩
    | int i => simp only [Rep] at h'; subst h'; obtain ⟨t, rfl⟩ := r'; exact ⟨RcAt.tuple_int i t p hu0, RcNeAt.tuple_int i t p hu0⟩
    | str x => simp only [Rep] at h'; subst h'; obtain ⟨t, rfl⟩ := r'; exact ⟨RcAt.tuple_str x t p hu0, RcNeAt.tuple_str x t p hu0⟩
    | tup es =>
      simp only [Rep] at h'; obtain ⟨b, us, rfl, h2', h3'⟩ := h'; cases (show u' = Value.ref b from r'); obtain ⟨its', rv', p'⟩ := isT I h2'
      have l1 := h3.length; have l2 := rv.length; have l3 := h3'.length; have l4 := rv'.length
      have he : ∀ j (g1 : j < its.toArray.size) (g2 : j < its'.toArray.size), EqAt A.in1 s its.toArray[j] its'.toArray[j] (eJ ds es j) := fun j g1 g2 => eqsAt_of I ds es vs us its its' A.in1 h3 h3' rv rv' hu1 j _ _ (by simp at g1 ⊢) (by simp at g2 ⊢)
      have q := RcAt.tuples p p' hu0 he
      have q' := RcNeAt.tuples p p' hu0 he
      rw [List.size_toArray, List.size_toArray, ← l2, ← l1, ← l4, ← l3, eJ_all] at q q'
      exact ⟨q, q'⟩
    | lst es => simp only [Rep] at h'; obtain ⟨a, vs, rfl, h2, h3⟩ := h'; cases (show u' = Value.ref a from r'); obtain ⟨its, _, p'⟩ := isL I h2; exact ⟨RcAt.tuple_list p p' hu0, RcNeAt.tuple_list p p' hu0⟩
  | lst ds =>
    simp only [Rep] at h; obtain ⟨a, vs, rfl, h2, h3⟩ := h; cases (show u = Value.ref a from r); obtain ⟨its, rv, p⟩ := isL I h2
    have hu1 : A.in1.units + deps ds < cLine := by have : dep (.lst ds) = deps ds + 1 := rfl; rw [unit_in1]; omega
    cases d' with
    | non => simp only [Rep] at h'; subst h'; cases (show u' = Value.none from r'); exact ⟨RcAt.list_none p hu0, RcNeAt.list_none p hu0⟩
    | bl b => simp only [Rep] at h'; subst h'; cases (show u' = Value.bool b from r'); exact ⟨RcAt.list_bool b p hu0, RcNeAt.list_bool b p hu0⟩
    | int i => simp only [Rep] at h'; subst h'; obtain ⟨t, rfl⟩ := r'; exact ⟨RcAt.list_int i t p hu0, RcNeAt.list_int i t p hu0⟩
    | str x => simp only [Rep] at h'; subst h'; obtain ⟨t, rfl⟩ := r'; exact ⟨RcAt.list_str x t p hu0, RcNeAt.list_str x t p hu0⟩
    | lst es =>
      simp only [Rep] at h'; obtain ⟨b, us, rfl, h2', h3'⟩ := h'; cases (show u' = Value.ref b from r'); obtain ⟨its', rv', p'⟩ := isL I h2'
      have l1 := h3.length; have l2 := rv.length; have l3 := h3'.length; have l4 := rv'.length
      by_cases hl : ds.length = es.length
      · have he : ∀ j (g1 : j < its.toArray.size) (g2 : j < its'.toArray.size), EqAt A.in1 s its.toArray[j] its'.toArray[j] (eJ ds es j) := fun j g1 g2 => eqsAt_of I ds es vs us its its' A.in1 h3 h3' rv rv' hu1 j _ _ (by simp at g1 ⊢) (by simp at g2 ⊢)
        have q := RcAt.lists p p' (by simp; omega) hu0 he
        have q' := RcNeAt.lists p p' (by simp; omega) hu0 he
        rw [List.size_toArray, ← l2, ← l1, eJ_all' _ _ hl] at q q'
        exact ⟨q, q'⟩
      · rw [show deq (.lst ds) (.lst es) = deqs ds es from rfl, deqs_len hl]
        exact ⟨RcAt.lists_lengths p p' (by simp; omega) hu0, RcNeAt.lists_lengths p p' (by simp; omega) hu0⟩
    | tup es => simp only [Rep] at h'; obtain ⟨a, vs, rfl, h2, h3⟩ := h'; cases (show u' = Value.ref a from r'); obtain ⟨its, _, p'⟩ := isT I h2; exact ⟨RcAt.list_tuple p p' hu0, RcNeAt.list_tuple p p' hu0⟩
end
end L2

set_option Elab.async false
set_option linter.all false
set_option maxRecDepth 100000
namespace L2
open PySem PySem.Spec PyProof.Rows DE PySem.SeqAt

/-! ### the meaning of an expression's run -/
noncomputable def tSem (X : Cx) (e : Expr) : TE := fun σ H Q => ∀ pins s, Inv X pins σ H s → wpAny (model X.prog X.w) X.A (eval e X.env) (EP X pins σ Q) X.xe s
noncomputable def tSemT (X : Cx) (e : Expr) : TT := fun σ H Q => ∀ pins s, Inv X pins σ H s → wpAny (model X.prog X.w) X.A (isTrue e X.env (eval e X.env)) (TP X pins σ Q) X.xe s
noncomputable def tSemA (X : Cx) (es : List Expr) : TA := fun σ H Q => ∀ pos pins s, Inv X pins σ H s → wpAny (model X.prog X.w) X.A (spliced (backTo pos (starEach es X.env))) (AP X pins σ Q) X.xe s
noncomputable def tSemI (X : Cx) (tg iter : Expr) : TI := fun σ H R => ∀ pins s, Inv X pins σ H s → wpAny (model X.prog X.w) X.A (eval iter X.env) (fun v s1 => wpAny (model X.prog X.w) X.A (pyIter v) (PIE X pins σ tg R) X.xe s1) X.xe s
section
variable {X : Cx} {e : Expr}
theorem pe_sem : PE X e (tSem X e) := fun pins s σ H Q I h => h pins s I
theorem pt_sem : PT X e (tSemT X e) := fun pins s σ H Q I h => h pins s I
theorem pa_sem {es : List Expr} : PA X es (tSemA X es) := fun pos pins s σ H Q I h => h pos pins s I
theorem pi_sem {tg iter : Expr} : PI X tg iter (tSemI X tg iter) := fun pins s σ H R I h => h pins s I
theorem PE.sem {t : TE} {σ : St} {H : Hp} {Q : VK} (h : PE X e t) (q : t σ H Q) : tSem X e σ H Q := fun pins s I => h pins s σ H Q I q
theorem PT.sem {t : TT} {σ : St} {H : Hp} {Q : Bool → Hp → Prop} (h : PT X e t) (q : t σ H Q) : tSemT X e σ H Q := fun pins s I => h pins s σ H Q I q
theorem PA.sem {es : List Expr} {t : TA} {σ : St} {H : Hp} {Q : List V → Hp → Prop} (h : PA X es t) (q : t σ H Q) : tSemA X es σ H Q := fun pos pins s I => h pos pins s σ H Q I q
theorem PI.sem {tg iter : Expr} {t : TI} {σ : St} {H : Hp} {R : It → Hp → Prop} (h : PI X tg iter t) (q : t σ H R) : tSemI X tg iter σ H R := fun pins s I => h pins s σ H R I q
end
noncomputable def RepSt (K : PySem.W.Frag) (Hs : Hp) (ρ : Rho) (σ : St) : Prop := ∀ (i : Nat) (x : Str) (d : D), ρ[i]? = some (x, .sh d) → ∃ v, σ[i]? = some (some v) ∧ Rep K Hs d v
theorem RepSt.same {K : PySem.W.Frag} {Hs Hs' : Hp} {ρ : Rho} {σ : St} (h : RepSt K Hs ρ σ) (e : Same Hs Hs') : RepSt K Hs' ρ σ := fun i x d q => by
  obtain ⟨v, e1, e2⟩ := h i x d q
  exact ⟨v, e1, Rep.same e d v e2⟩
noncomputable def ItRep (K : PySem.W.Frag) (J : It) (Hs0 : Hp) (ds : List D) : Prop := ∀ Hs H, Same Hs0 Hs → Same Hs H → J.stop ds.length H ∧ ∀ (i : Nat) (d : D), ds[i]? = some d → J.go i H ∧ ∀ x H', J.yld i H x H' → ∃ Hs', Ext Hs H Hs' H' ∧ Rep K Hs' d x
noncomputable def Ev (X : Cx) (ρ : Rho) (e : Expr) (d : D) : Prop := ∀ σ H Hs Q, Same Hs H → RepSt X.K Hs ρ σ → (∀ v H' Hs', Ext Hs H Hs' H' → Rep X.K Hs' d v → Q v H') → tSem X e σ H Q
noncomputable def EvT (X : Cx) (ρ : Rho) (e : Expr) (b : Bool) : Prop := ∀ σ H Hs Q, Same Hs H → RepSt X.K Hs ρ σ → (∀ H' Hs', Ext Hs H Hs' H' → Q b H') → tSemT X e σ H Q
noncomputable def EvA (X : Cx) (ρ : Rho) (es : List Expr) (ds : List D) : Prop := ∀ σ H Hs Q, Same Hs H → RepSt X.K Hs ρ σ → (∀ vs H' Hs', Ext Hs H Hs' H' → RepL X.K Hs' ds vs → Q vs H') → tSemA X es σ H Q
noncomputable def EvI (X : Cx) (ρ : Rho) (tg iter : Expr) (ds : List D) : Prop := ∀ σ H Hs R, Same Hs H → RepSt X.K Hs ρ σ → (∀ J H' Hs', Ext Hs H Hs' H' → ItRep X.K J Hs' ds → R J H') → tSemI X tg iter σ H R

noncomputable def spD (K : PySem.W.Frag) (call : Str → List D → Option D) (f : Str) (ps : List Str) : Sp := fun vs H Q _ => vs.length = ps.length ∧ ∃ Hs ds d, Same Hs H ∧ RepL K Hs ds vs ∧ call f ds = some d ∧ ∀ v H' Hs', Ext Hs H Hs' H' → Rep K Hs' d v → Q v H'
structure Good (cx : Cxt) (k : Nat) (X : Cx) (sc : Scope) : Prop where
  calm : X.calm = true
  room : Room k X.A
  sce : X.env.scope = sc
  kind : sc.kind = .function
  nd : X.N.Nodup
  cst : ∀ x d, cx.cst.lookup x = some d → ∃ i u, d = .int i ∧ X.mg x = some u ∧ RelV (.int i) u
  blt : ∀ x b, cx.blt.lookup x = some b → X.mg x = none ∧ x = Str.ofString b
  fns : ∀ f, cx.fns.contains f = true → (f == ("__debug__" : Str)) = false ∧ ∃ a fd ps, (∀ ds d, cx.call f ds = some d → ds.length = ps.length) ∧ X.mg f = some (.ref a) ∧ PySem.W.keepIn X.K (.ref a) = true ∧ Binds X.K fd ps [] ∧ FnOk X.prog X.w X.K X.mg X.base CX0 k a fd ps (spD X.K cx.call f ps)

section
variable {X : Cx} {ρ : Rho} {cx : Cxt} {k : Nat} {sc : Scope}
theorem lookup_ix : ∀ {ρ : Rho} {x : Str} {s : Sl}, ρ.lookup x = some s → ∃ i : Nat, ρ[i]? = some (x, s) ∧ (ρ.map (·.1)).idxOf? x = some i
  | (y, t) :: r, x, s, h => by
    rw [List.lookup_cons] at h
    cases hb : x == y with
    | true =>
      rw [hb] at h
      cases h
      have : x = y := by simpa using hb
      subst this
      exact ⟨0, rfl, by simp [List.idxOf?, List.findIdx?_cons]⟩
    | false =>
      rw [hb] at h
      obtain ⟨i, h1, h2⟩ := lookup_ix h
      refine ⟨i + 1, by simpa using h1, ?_⟩
      have hy : (y == x) = false := by
        rw [beq_eq_false_iff_ne] at hb ⊢
        exact fun e => hb e.symm
      simp only [List.map_cons, List.idxOf?, List.findIdx?_cons, hy, Bool.false_eq_true, if_false]
      simp only [List.idxOf?] at h2
      rw [h2]; rfl
theorem ev_name {x : Str} {d : D} {pos : Pos} (hN : X.N = ρ.map (·.1)) (hv : Vis X.env.scope x) (hp : plainName x = true) (h : ρ.lookup x = some (.sh d)) : Ev X ρ (.Name x pos) d := by
  intro σ H Hs Q hs hr hq
  obtain ⟨i, h1, _⟩ := lookup_ix h
  obtain ⟨v, e1, e2⟩ := hr i x d h1
  unfold plainName at hp
  rw [Bool.and_eq_true, bne_iff_ne, bne_iff_ne] at hp
  refine PE.sem (pe_var (i := i) (by rw [hN, List.getElem?_map, h1]; rfl) hv (by simpa using hp.1) (by simpa using hp.2)) ⟨v, e1, hq v H Hs (.refl hs) e2⟩
theorem ev_cst {x : Str} {i : Int} {u : Value} {pos : Pos} (hg : Gl X x) (hm : X.mg x = some u) (r : RelV (.int i) u) (hp : plainName x = true) : Ev X ρ (.Name x pos) (.int i) := by
  intro σ H Hs Q hs hr hq
  unfold plainName at hp
  rw [Bool.and_eq_true, bne_iff_ne, bne_iff_ne] at hp
  exact PE.sem (pe_glob hg hm r (by simpa using hp.1)) (hq _ H Hs (.refl hs) (by simp [Rep]))
theorem ev_const {c : Const} {d : D} {j : Nat} {pos : Pos} (h : (match c with | .none => some D.non | .bool b => some (.bl b) | .int i => some (.int i) | .str x => some (.str x) | _ => none) = some d) : Ev X ρ (.Constant c j pos) d := by
  intro σ H Hs Q hs hr hq
  cases c <;> simp at h <;> subst h
  · exact PE.sem pe_non (hq _ H Hs (.refl hs) (by simp [Rep]))
  · exact PE.sem pe_bl (hq _ H Hs (.refl hs) (by simp [Rep]))
  · exact PE.sem pe_int (hq _ H Hs (.refl hs) (by simp [Rep]))
  · exact PE.sem pe_str (hq _ H Hs (.refl hs) (by simp [Rep]))
theorem ev_two {a b : Expr} {x y d : D} {r : R2} {e : Expr} (ha : Ev X ρ a x) (hb : Ev X ρ b y) (hp : PE X e (tOp r (tSem X a) (tSem X b)))
    (hr : ∀ u v H Hs Q, Same Hs H → Rep X.K Hs x u → Rep X.K Hs y v → (∀ w H' Hs', Ext Hs H Hs' H' → Rep X.K Hs' d w → Q w H') → r u v H Q) : Ev X ρ e d := by
  intro σ H Hs Q hs hst hq
  refine hp.sem (ha σ H Hs _ hs hst fun u H1 Hs1 E1 r1 => hb σ H1 Hs1 _ E1.sub (hst.same E1.vis) fun v H2 Hs2 E2 r2 => ?_)
  exact hr u v H2 Hs2 Q E2.sub (Rep.same E2.vis x u r1) r2 fun w H' Hs' E3 r3 => hq w H' Hs' (E1.trans (E2.trans E3)) r3
theorem small_ok {i : Int} (h : small i = true) : -(2 ^ 64) < i ∧ i < 2 ^ 64 := by
  unfold small at h
  rw [Bool.and_eq_true, decide_eq_true_eq, decide_eq_true_eq] at h
  exact h
theorem szl_ok {n : Nat} (h : szl n = true) : n ≤ sizeLine := by
  unfold szl at h
  rw [decide_eq_true_eq] at h
  exact Nat.le_trans h (by rw [sizeLine_eq]; decide)
theorem szl_lt {n : Nat} (h : szl n = true) : n < sizeLine := by
  unfold szl at h
  rw [decide_eq_true_eq] at h
  exact Nat.lt_of_le_of_lt h (by rw [sizeLine_eq]; decide)
theorem rep_int {K : PySem.W.Frag} {H : Hp} {i : Int} {v : V} (h : Rep K H (.int i) v) : v = .int i := by simpa [Rep] using h
theorem rep_bl {K : PySem.W.Frag} {H : Hp} {i : Bool} {v : V} (h : Rep K H (.bl i) v) : v = .bl i := by simpa [Rep] using h
theorem rep_tup {K : PySem.W.Frag} {H : Hp} {ds : List D} {v : V} (h : Rep K H (.tup ds) v) : ∃ a vs, v = .ref a ∧ SqT K H a vs ∧ RepL K H ds vs := by simpa [Rep] using h
theorem rep_lst {K : PySem.W.Frag} {H : Hp} {ds : List D} {v : V} (h : Rep K H (.lst ds) v) : ∃ a vs, v = .ref a ∧ SqL K H a vs ∧ RepL K H ds vs := by simpa [Rep] using h
theorem new_tup {Hs H : Hp} {ds : List D} {vs : List V} {p : Addr} {Q : VK} (hs : Same Hs H) (hr : RepL X.K Hs ds vs) (hp : H p = none) (hq : ∀ w H' Hs', Ext Hs H Hs' H' → Rep X.K Hs' (.tup ds) w → Q w H') : Q (.ref p) (upd H p (.tup vs)) :=
  hq _ _ _ (Ext.new hs (.tup vs) hp) (by simp only [Rep]; exact ⟨p, vs, rfl, .of upd_same, RepL.same (Ext.new hs (.tup vs) hp).vis ds vs hr⟩)
theorem new_lst {Hs H : Hp} {ds : List D} {vs : List V} {p : Addr} {Q : VK} (hs : Same Hs H) (hr : RepL X.K Hs ds vs) (hp : H p = none) (hq : ∀ w H' Hs', Ext Hs H Hs' H' → Rep X.K Hs' (.lst ds) w → Q w H') : Q (.ref p) (upd H p (.lst vs)) :=
  hq _ _ _ (Ext.new hs (.lst vs) hp) (by simp only [Rep]; exact ⟨p, vs, rfl, .of upd_same, RepL.same (Ext.new hs (.lst vs) hp).vis ds vs hr⟩)
noncomputable def rCat2 (K : PySem.W.Frag) : R2 := fun x y H Q => ∃ a b xs ys, x = .ref a ∧ y = .ref b ∧ SqT K H a xs ∧ SqT K H b ys ∧ xs.length + ys.length ≤ sizeLine ∧
  (xs = [] → Q (.ref b) H) ∧ (xs ≠ [] → ys = [] → Q (.ref a) H) ∧ (xs ≠ [] → ys ≠ [] → ∀ p, H p = none → Q (.ref p) (upd H p (.tup (xs ++ ys))))
theorem op_cat2 : OpR X (binaryOp .Add) (rCat2 X.K) := by
  intro pins s σ H x y v u Q I rx ry h
  obtain ⟨a, b, xs, ys, rfl, rfl, ha, hb, hz, q0, q1, q2⟩ := h
  by_cases hx : xs = []
  · subst hx
    cases (show v = Value.ref a from rx)
    cases (show u = Value.ref b from ry)
    obtain ⟨its, r1, p1, _⟩ := I.tuple ha
    obtain ⟨its2, r2, p2, _⟩ := I.tuple hb
    have e0 : its = [] := r1.nil_iff.mpr rfl
    subst e0
    obtain ⟨⟨c, dd, data, sl⟩, ho, hc, n, hd⟩ := id p1
    obtain ⟨⟨c2, dd2, data2, sl2⟩, ho2, hc2, n2, hd2⟩ := id p2
    simp only at hc hd hc2 hd2
    subst hc hd hc2 hd2
    exact concat_meets ⟨_, ho, rfl⟩ ⟨_, ho2, rfl⟩ noFill_tuple_add seq_tuple_add PySem.F.slot_tuple_add PySem.F.entry_tuple_add (PySem.F.args_tuple_add_2 _ _) (tuple_addW0 a b _ its2.toArray n n2 dd dd2 sl sl2 rfl) ⟨ho, ho2, .ref b, H, I, rfl, q0 rfl⟩
  · exact op_catT pins s σ H (.ref a) (.ref b) v u Q I rx ry ⟨a, b, xs, ys, rfl, rfl, ha, hb, hx, hz, q1 hx, q2 hx⟩
theorem RepL.rep {K : PySem.W.Frag} {H : Hp} {ds : List D} {vs : List V} (h : RepL K H ds vs) : ∀ n : Nat, RepL K H (List.replicate n ds).flatten (List.replicate n vs).flatten
  | 0 => by simp [RepL]
  | n + 1 => by
    simp only [List.replicate_succ, List.flatten_cons]
    exact h.append (h.rep n)
theorem ev_binop {a b : Expr} {op : Operator} {x y d : D} {pos : Pos} (ha : Ev X ρ a x) (hb : Ev X ρ b y) (h : binop op x y = some d) : Ev X ρ (.BinOp a op b pos) d := by
  unfold binop at h
  split at h
  · cases h
    exact ev_two ha hb (pe_op op_add pe_sem pe_sem) fun u v H Hs Q hs r1 r2 hq => ⟨_, _, rep_int r1, rep_int r2, hq _ H Hs (.refl hs) (by simp [Rep])⟩
  · split at h
    · rename_i hz
      cases h
      refine ev_two ha hb (pe_op op_cat2 pe_sem pe_sem) fun u v H Hs Q hs r1 r2 hq => ?_
      obtain ⟨p, us, rfl, h1, h2⟩ := rep_tup r1
      obtain ⟨q, ws, rfl, h3, h4⟩ := rep_tup r2
      have l1 := h2.length
      have l2 := h4.length
      have nil : ∀ (l : List D), l.length = 0 → l = [] := fun l hl => by cases l <;> simp at hl ⊢
      refine ⟨p, q, us, ws, rfl, rfl, hs.tup h1, hs.tup h3, by have := szl_ok hz; omega, fun e => ?_, fun _ e => ?_, fun _ _ l hl => new_tup hs (h2.append h4) hl hq⟩
      · subst e
        have e2 := nil _ l1
        subst e2
        exact hq _ H Hs (.refl hs) r2
      · subst e
        have e2 := nil _ l2
        subst e2
        refine hq _ H Hs (.refl hs) ?_
        rw [List.append_nil]
        exact r1
    · cases h
  · split at h
    · rename_i hz
      cases h
      refine ev_two ha hb (pe_op op_catL pe_sem pe_sem) fun u v H Hs Q hs r1 r2 hq => ?_
      obtain ⟨p, us, rfl, h1, h2⟩ := rep_lst r1
      obtain ⟨q, ws, rfl, h3, h4⟩ := rep_lst r2
      have l1 := h2.length
      have l2 := h4.length
      exact ⟨p, q, us, ws, rfl, rfl, hs.seq h1, hs.seq h3, by have := szl_ok hz; omega, fun l hl => new_lst hs (h2.append h4) hl hq⟩
    · cases h
  · cases h
    exact ev_two ha hb (pe_op op_sub pe_sem pe_sem) fun u v H Hs Q hs r1 r2 hq => ⟨_, _, rep_int r1, rep_int r2, hq _ H Hs (.refl hs) (by simp [Rep])⟩
  · split at h
    · rename_i hz
      cases h
      rw [Bool.or_eq_true] at hz
      exact ev_two ha hb (pe_op op_mul pe_sem pe_sem) fun u v H Hs Q hs r1 r2 hq => ⟨_, _, rep_int r1, rep_int r2, hz.elim (fun z => .inl (small_ok z)) (fun z => .inr (small_ok z)), hq _ H Hs (.refl hs) (by simp [Rep])⟩
    · cases h
  · split at h
    · rename_i hz
      cases h
      rw [Bool.and_eq_true, Bool.and_eq_true, decide_eq_true_eq, decide_eq_true_eq] at hz
      refine ev_two ha hb (pe_op op_repL pe_sem pe_sem) fun u v H Hs Q hs r1 r2 hq => ?_
      obtain ⟨p, us, rfl, h1, h2⟩ := rep_lst r1
      have l1 := h2.length
      exact ⟨p, _, us, rfl, rep_int r2, hs.seq h1, by omega, by omega, by have := szl_ok hz.2; rw [← l1]; exact this, fun l hl => new_lst hs (h2.rep _) hl hq⟩
    · cases h
  · split at h
    · rename_i hz
      cases h
      rw [Bool.and_eq_true, decide_eq_true_eq, decide_eq_true_eq] at hz
      exact ev_two ha hb (pe_op op_fdiv pe_sem pe_sem) fun u v H Hs Q hs r1 r2 hq => ⟨_, _, rep_int r1, rep_int r2, hz, hq _ H Hs (.refl hs) (by simp [Rep])⟩
    · cases h
  · split at h
    · rename_i hz
      cases h
      rw [decide_eq_true_eq] at hz
      exact ev_two ha hb (pe_op op_mod pe_sem pe_sem) fun u v H Hs Q hs r1 r2 hq => ⟨_, _, rep_int r1, rep_int r2, hz, hq _ H Hs (.refl hs) (by simp [Rep])⟩
    · cases h
  · cases h
end
end L2

set_option Elab.async false
set_option linter.all false
set_option maxRecDepth 100000
namespace L2
open PySem PySem.Spec PyProof.Rows DE PySem.SeqAt

section
variable {X : Cx} {ρ : Rho} {cx : Cxt} {k : Nat} {sc : Scope}
theorem plain_star {e : Expr} {es : List Expr} {env : Env} (h : plainE e = true) : starEach (e :: es) env = (false, eval e env) :: starEach es env := by
  cases e <;> first | rfl | (simp [plainE] at h)
theorem plain_ix {e : Expr} (h : plainE e = true) : PlainIx e := by
  intro o i
  cases e <;> first | rfl | (simp [plainE] at h)
theorem plain_set {e : Expr} {env : Env} (h : plainE e = true) (x : Value) : foldedSetIterable e env x = pure x := by
  cases e <;> first | rfl | (simp [plainE] at h)
theorem plain_mark {e : Expr} {op : CmpOp} (h : plainE e = true) : behindInMarks op e = false := by
  cases e <;> first | rfl | (simp [plainE] at h)
theorem stars_any {env : Env} {pos : Pos} : ∀ {es : List Expr}, (∀ e ∈ es, plainE e = true) → (backTo pos (starEach es env)).any (·.1) = false
  | [], _ => rfl
  | e :: es, h => by
    rw [plain_star (h e List.mem_cons_self)]
    have ih := stars_any (env := env) (pos := pos) fun e' he => h e' (List.mem_cons_of_mem _ he)
    show ((false : Bool) || (backTo pos (starEach es env)).any (·.1)) = false
    rw [ih]; rfl
theorem ev_plain : ∀ {n : Nat} {ρ : Rho} {e : Expr} {d : D}, ev cx n sc ρ e = some d → plainE e = true
  | 0, _, _, _, h => by simp [ev] at h
  | n + 1, ρ, e, d, h => by
    cases e <;> first | rfl | (simp [ev] at h)

/-! ### tests -/
noncomputable def tSemW (X : Cx) (e : Expr) : TT := fun σ H Q => ∀ whole pins s, Inv X pins σ H s → wpAny (model X.prog X.w) X.A (isTrue e X.env whole) (TP X pins σ Q) X.xe s
noncomputable def EvW (X : Cx) (ρ : Rho) (e : Expr) (b : Bool) : Prop := ∀ σ H Hs Q, Same Hs H → RepSt X.K Hs ρ σ → (∀ H' Hs', Ext Hs H Hs' H' → Q b H') → tSemW X e σ H Q
theorem pw_sem {e : Expr} : PW X e (tSemW X e) := fun whole pins s σ H Q I h => h whole pins s I
theorem PW.sem {e : Expr} {t : TT} {σ : St} {H : Hp} {Q : Bool → Hp → Prop} (h : PW X e t) (q : t σ H Q) : tSemW X e σ H Q := fun whole pins s I => h whole pins s σ H Q I q
theorem EvW.t {e : Expr} {b : Bool} (h : EvW X ρ e b) : EvT X ρ e b := fun σ H Hs Q hs hr hq pins s I => h σ H Hs Q hs hr hq _ pins s I
theorem evT_val {e : Expr} {b : Bool} (h : Ev X ρ e (.bl b)) (he : ∀ whole, isTrue e X.env whole = (do let v ← whole; standAt e.pos; holding [v] (truthy v))) : EvT X ρ e b := fun σ H Hs Q hs hr hq =>
  (pt_val pe_sem he).sem (h σ H Hs _ hs hr fun v H' Hs' E1 r1 => ⟨b, rep_bl r1, hq H' Hs' E1⟩)
theorem ev_not {a : Expr} {b : Bool} {pos : Pos} (h : Ev X ρ a (.bl b)) : Ev X ρ (.UnaryOp .Not a pos) (.bl (!b)) := fun σ H Hs Q hs hr hq =>
  (pe_not pe_sem).sem (h σ H Hs _ hs hr fun v H' Hs' E1 r1 => ⟨b, rep_bl r1, hq _ H' Hs' E1 (by simp [Rep])⟩)
theorem evT_not {a : Expr} {b : Bool} {pos : Pos} (h : EvT X ρ a b) : EvT X ρ (.UnaryOp .Not a pos) (!b) := fun σ H Hs Q hs hr hq =>
  (pt_not pt_sem).sem (h σ H Hs _ hs hr fun H' Hs' E1 => hq H' Hs' E1)
theorem ev_neg {a : Expr} {i : Int} {pos : Pos} (h : Ev X ρ a (.int i)) : Ev X ρ (.UnaryOp .USub a pos) (.int (-i)) := fun σ H Hs Q hs hr hq =>
  (pe_un un_neg pe_sem).sem (h σ H Hs _ hs hr fun v H' Hs' E1 r1 => ⟨i, rep_int r1, hq _ H' Hs' E1 (by simp [Rep])⟩)
theorem ev_boolop {op : BoolOp} {f : Expr → Option D} {pos : Pos} : ∀ {es : List Expr} {d : D}, (∀ e ∈ es, ∀ d, f e = some d → Ev X ρ e d ∧ ∀ b, d = .bl b → EvT X ρ e b) → boolGo op f es = some d →
    Ev X ρ (.BoolOp op es pos) d ∧ ∀ b, d = .bl b → EvW X ρ (.BoolOp op es pos) b
  | [], d, _, h => by simp [boolGo] at h
  | [e], d, hf, h => by
    obtain ⟨h1, h2⟩ := hf e (by simp) d (by simpa [boolGo] using h)
    refine ⟨fun σ H Hs Q hs hr hq => (pe_one pe_sem).sem (h1 σ H Hs Q hs hr hq), fun b hb σ H Hs Q hs hr hq => ?_⟩
    cases op with
    | And => exact (pw_and1 pt_sem).sem (h2 b hb σ H Hs Q hs hr hq)
    | Or => exact (pw_or1 pt_sem).sem (h2 b hb σ H Hs Q hs hr hq)
  | e :: e' :: r, d, hf, h => by
    simp only [boolGo] at h
    cases he : f e with
    | none => rw [he] at h; simp at h
    | some x =>
      rw [he] at h
      cases x with
      | bl c =>
        obtain ⟨h1, h2⟩ := hf e (by simp) _ he
        have h2' := h2 c rfl
        simp only [asB, Option.bind_some, Option.bind_eq_bind, bind, Option.bind] at h
        have ih := fun d' (q : boolGo op f (e' :: r) = some d') => ev_boolop (pos := pos) (es := e' :: r) (fun a ha => hf a (List.mem_cons_of_mem _ ha)) q
        cases op with
        | And =>
          cases c with
          | true =>
            simp only [if_true] at h
            obtain ⟨i1, i2⟩ := ih d h
            refine ⟨fun σ H Hs Q hs hr hq => (pe_and pe_sem pe_sem).sem (h1 σ H Hs _ hs hr fun v H' Hs' E1 r1 => ⟨true, rep_bl r1, iteT (i1 σ H' Hs' Q E1.sub (hr.same E1.vis) fun w H2 Hs2 E2 r2 => hq w H2 Hs2 (E1.trans E2) r2)⟩), fun b hb σ H Hs Q hs hr hq => ?_⟩
            exact (pw_and pt_sem pw_sem).sem (h2' σ H Hs _ hs hr fun H' Hs' E1 => iteT (i2 b hb σ H' Hs' Q E1.sub (hr.same E1.vis) fun H2 Hs2 E2 => hq H2 Hs2 (E1.trans E2)))
          | false =>
            simp only [Bool.false_eq_true, if_false, Option.some.injEq] at h
            subst h
            refine ⟨fun σ H Hs Q hs hr hq => (pe_and pe_sem pe_sem).sem (h1 σ H Hs _ hs hr fun v H' Hs' E1 r1 => ⟨false, rep_bl r1, iteF (hq _ H' Hs' E1 (by simp [Rep]))⟩), fun b hb σ H Hs Q hs hr hq => ?_⟩
            cases hb
            exact (pw_and pt_sem pw_sem).sem (h2' σ H Hs _ hs hr fun H' Hs' E1 => iteF (hq H' Hs' E1))
        | Or =>
          cases c with
          | true =>
            simp only [if_true, Option.some.injEq] at h
            subst h
            refine ⟨fun σ H Hs Q hs hr hq => (pe_or pe_sem pe_sem).sem (h1 σ H Hs _ hs hr fun v H' Hs' E1 r1 => ⟨true, rep_bl r1, iteT (hq _ H' Hs' E1 (by simp [Rep]))⟩), fun b hb σ H Hs Q hs hr hq => ?_⟩
            cases hb
            exact (pw_or pt_sem pw_sem).sem (h2' σ H Hs _ hs hr fun H' Hs' E1 => iteT (hq H' Hs' E1))
          | false =>
            simp only [Bool.false_eq_true, if_false] at h
            obtain ⟨i1, i2⟩ := ih d h
            refine ⟨fun σ H Hs Q hs hr hq => (pe_or pe_sem pe_sem).sem (h1 σ H Hs _ hs hr fun v H' Hs' E1 r1 => ⟨false, rep_bl r1, iteF (i1 σ H' Hs' Q E1.sub (hr.same E1.vis) fun w H2 Hs2 E2 r2 => hq w H2 Hs2 (E1.trans E2) r2)⟩), fun b hb σ H Hs Q hs hr hq => ?_⟩
            exact (pw_or pt_sem pw_sem).sem (h2' σ H Hs _ hs hr fun H' Hs' E1 => iteF (i2 b hb σ H' Hs' Q E1.sub (hr.same E1.vis) fun H2 Hs2 E2 => hq H2 Hs2 (E1.trans E2)))
      | _ => simp [asB] at h

/-! ### comparisons -/
noncomputable def rCmp (X : Cx) (op : CmpOp) : R2 := fun u v H Q => ∃ Hs x y d, Same Hs H ∧ Rep X.K Hs x u ∧ Rep X.K Hs y v ∧ cmpop op x y = some d ∧ ∃ b, d = .bl b ∧ Q (.bl b) H
theorem rep_non {K : PySem.W.Frag} {H : Hp} {v : V} (h : Rep K H .non v) : v = .non := by simpa [Rep] using h
theorem asIs_rep {K : PySem.W.Frag} {H : Hp} : ∀ {ds : List D} {ns : List Int} {vs : List V}, asIs ds = some ns → RepL K H ds vs → vs = ns.map V.int
  | [], ns, vs, h, r => by
    simp only [asIs, Option.some.injEq] at h; subst h
    simpa [RepL] using r
  | .int i :: ds, ns, vs, h, r => by
    simp only [asIs, Option.map_eq_some_iff] at h
    obtain ⟨ms, h1, rfl⟩ := h
    simp only [RepL] at r
    obtain ⟨v, r', rfl, h2, h3⟩ := r
    rw [rep_int h2, asIs_rep h1 h3]
    rfl
  | .non :: ds, ns, vs, h, r => by simp [asIs] at h
  | .bl _ :: ds, ns, vs, h, r => by simp [asIs] at h
  | .str _ :: ds, ns, vs, h, r => by simp [asIs] at h
  | .tup _ :: ds, ns, vs, h, r => by simp [asIs] at h
  | .lst _ :: ds, ns, vs, h, r => by simp [asIs] at h
theorem op_cmp (hr : Room k X.A) (op : CmpOp) : OpR X (compareOp op) (rCmp X op) := by
  intro pins s σ H u v w z Q I ru rv h
  obtain ⟨Hs, x, y, d, hs, rx, ry, hc, b, rfl, q⟩ := h
  have rx' := Rep.same hs x u rx
  have ry' := Rep.same hs y v ry
  unfold cmpop at hc
  split at hc
  · split at hc
    · rename_i hd
      rw [decide_eq_true_eq] at hd
      cases hc
      exact (cmpEq_of I X.A rx' ry' ru rv (by have := hr.un; omega)).1 _ _ _ _ ⟨.bl _, H, I, rfl, q⟩
    · cases hc
  · split at hc
    · rename_i hd
      rw [decide_eq_true_eq] at hd
      cases hc
      exact (cmpEq_of I X.A rx' ry' ru rv (by have := hr.un; omega)).2 _ _ _ _ ⟨.bl _, H, I, rfl, q⟩
    · cases hc
  · cases hc; exact op_lt pins s σ H u v w z Q I ru rv ⟨_, _, rep_int rx, rep_int ry, q⟩
  · cases hc; exact op_le pins s σ H u v w z Q I ru rv ⟨_, _, rep_int rx, rep_int ry, q⟩
  · cases hc; exact op_gt pins s σ H u v w z Q I ru rv ⟨_, _, rep_int rx, rep_int ry, q⟩
  · cases hc; exact op_ge pins s σ H u v w z Q I ru rv ⟨_, _, rep_int rx, rep_int ry, q⟩
  · cases hc
theorem cmp_bl {op : CmpOp} {x y d : D} (h : cmpop op x y = some d) : ∃ b, d = .bl b := by
  unfold cmpop at h
  split at h <;> first | (cases h; exact ⟨_, rfl⟩) | (obtain ⟨_, _, rfl⟩ := Option.map_eq_some_iff.mp h; exact ⟨_, rfl⟩) | (split at h <;> first | (cases h; exact ⟨_, rfl⟩) | cases h) | cases h
theorem ev_cmp1 {a b : Expr} {op : CmpOp} {x y d : D} {pos : Pos} (hr : Room k X.A) (ha : Ev X ρ a x) (hb : Ev X ρ b y) (hm : plainE b = true) (h : cmpop op x y = some d) : Ev X ρ (.Compare a [op] [b] pos) d ∧ ∀ c, d = .bl c → EvT X ρ (.Compare a [op] [b] pos) c := by
  obtain ⟨c, rfl⟩ := cmp_bl h
  refine ⟨ev_two ha hb (pe_cmpR (op_cmp hr op) pe_sem pe_sem (plain_mark hm)) fun u v H Hs Q hs r1 r2 hq => ⟨Hs, x, y, _, hs, r1, r2, h, c, rfl, hq _ H Hs (.refl hs) (by simp [Rep])⟩, fun c' hc' σ H Hs Q hs hst hq => ?_⟩
  cases hc'
  refine (pt_cmpR (op_cmp hr op) pe_sem pe_sem (plain_mark hm)).sem (ha σ H Hs _ hs hst fun u H1 Hs1 E1 r1 => hb σ H1 Hs1 _ E1.sub (hst.same E1.vis) fun v H2 Hs2 E2 r2 => ?_)
  exact ⟨Hs2, x, y, _, E2.sub, Rep.same E2.vis x u r1, r2, h, c, rfl, c, rfl, hq H2 Hs2 (E1.trans E2)⟩
theorem last_ok {op op' : CmpOp} {b c : Expr} (h : plainE c = true) : lastMarks [op, op'] [b, c] = false := plain_mark h
theorem ev_cmp2 {a b e : Expr} {op op' : CmpOp} {x y d : D} {c : Bool} {pos : Pos} (hr : Room k X.A) (ha : Ev X ρ a x) (hb : Ev X ρ b y) (hm : plainE e = true) (h : cmpop op x y = some (.bl c)) (hd : (c = true → ∃ z, Ev X ρ e z ∧ cmpop op' y z = some d) ∧ (c = false → d = .bl false)) :
    Ev X ρ (.Compare a [op, op'] [b, e] pos) d ∧ ∀ c, d = .bl c → EvT X ρ (.Compare a [op, op'] [b, e] pos) c := by
  have core : ∀ σ H Hs Q, Same Hs H → RepSt X.K Hs ρ σ → (∀ v H' Hs', Ext Hs H Hs' H' → Rep X.K Hs' d v → Q v H') → tChain (rCmp X op) (rCmp X op') (tSem X a) (tSem X b) (tSem X e) σ H Q := by
    intro σ H Hs Q hs hst hq
    refine ha σ H Hs _ hs hst fun u H1 Hs1 E1 r1 => hb σ H1 Hs1 _ E1.sub (hst.same E1.vis) fun v H2 Hs2 E2 r2 => ?_
    refine ⟨Hs2, x, y, _, E2.sub, Rep.same E2.vis x u r1, r2, h, c, rfl, c, rfl, ?_⟩
    cases c with
    | false => rw [hd.2 rfl] at hq; exact iteF (hq _ H2 Hs2 (E1.trans E2) (by simp [Rep]))
    | true =>
      obtain ⟨z, hz, hc⟩ := hd.1 rfl
      obtain ⟨c', rfl⟩ := cmp_bl hc
      refine iteT (hz σ H2 Hs2 _ E2.sub ((hst.same E1.vis).same E2.vis) fun w H3 Hs3 E3 r3 => ?_)
      exact ⟨Hs3, y, z, _, E3.sub, Rep.same E3.vis y v r2, r3, hc, c', rfl, hq _ H3 Hs3 (E1.trans (E2.trans E3)) (by simp [Rep])⟩
  refine ⟨fun σ H Hs Q hs hst hq => (pe_chain (op_cmp hr op) (op_cmp hr op') pe_sem pe_sem pe_sem (last_ok hm)).sem (core σ H Hs Q hs hst hq), fun c' hc' σ H Hs Q hs hst hq => ?_⟩
  subst hc'
  exact (pt_chain (op_cmp hr op) (op_cmp hr op') pe_sem pe_sem pe_sem (last_ok hm)).sem (core σ H Hs _ hs hst fun v H' Hs' E1 r1 => ⟨c', rep_bl r1, hq H' Hs' E1⟩)
/-! ### a if c else b -/
theorem ev_if {c a b : Expr} {t : Bool} {d : D} {pos : Pos} (hc : EvT X ρ c t) (ha : t = true → Ev X ρ a d) (hb : t = false → Ev X ρ b d) : Ev X ρ (.IfExp c a b pos) d := fun σ H Hs Q hs hst hq =>
  (pe_ifExp pt_sem pe_sem pe_sem).sem (hc σ H Hs _ hs hst fun H1 Hs1 E1 => by
    cases t with
    | true => exact iteT (ha rfl σ H1 Hs1 Q E1.sub (hst.same E1.vis) fun v H' Hs' E2 r => hq v H' Hs' (E1.trans E2) r)
    | false => exact iteF (hb rfl σ H1 Hs1 Q E1.sub (hst.same E1.vis) fun v H' Hs' E2 r => hq v H' Hs' (E1.trans E2) r))
theorem evT_if {c a b : Expr} {t r : Bool} {pos : Pos} (hc : EvT X ρ c t) (ha : t = true → EvT X ρ a r) (hb : t = false → EvT X ρ b r) : EvT X ρ (.IfExp c a b pos) r := by
  intro σ H Hs Q hs hst hq pins s I
  refine isTrue_IfExp (thn (hc σ H Hs (fun b' H' => b' = t ∧ ∃ Hs', Ext Hs H Hs' H') hs hst (fun H1 Hs1 E1 => ⟨rfl, Hs1, E1⟩) pins s I) fun b' s2 ⟨H2, I2, e2, Hs2, E2⟩ => ?_)
  subst e2
  cases b' with
  | true => exact iteT (ha rfl σ H2 Hs2 Q E2.sub (hst.same E2.vis) (fun H' Hs' E3 => hq H' Hs' (E2.trans E3)) pins s2 I2)
  | false => exact iteF (hb rfl σ H2 Hs2 Q E2.sub (hst.same E2.vis) (fun H' Hs' E3 => hq H' Hs' (E2.trans E3)) pins s2 I2)
/-! ### argument lists, displays, places -/
theorem ev_args {f : Expr → Option D} : ∀ {es : List Expr} {ds : List D}, (∀ e ∈ es, ∀ d, f e = some d → Ev X ρ e d ∧ plainE e = true) → mapO f es = some ds → EvA X ρ es ds ∧ (∀ e ∈ es, plainE e = true)
  | [], ds, _, h => by
    simp only [mapO, Option.some.injEq] at h
    subst h
    exact ⟨fun σ H Hs Q hs hst hq => pa_nil.sem (hq [] H Hs (.refl hs) .nil), fun e he => absurd he (by simp)⟩
  | e :: es, ds, hf, h => by
    simp only [mapO, bind, Option.bind] at h
    cases he : f e with
    | none => rw [he] at h; cases h
    | some d =>
      rw [he] at h
      simp only at h
      cases hr : mapO f es with
      | none => rw [hr] at h; cases h
      | some dr =>
        rw [hr] at h
        simp only [Option.some.injEq] at h
        subst h
        obtain ⟨h1, hp⟩ := hf e (by simp) d he
        obtain ⟨h2, hps⟩ := ev_args (fun a ha => hf a (List.mem_cons_of_mem _ ha)) hr
        refine ⟨fun σ H Hs Q hs hst hq => (pa_cons pe_sem pa_sem (plain_star hp)).sem (h1 σ H Hs _ hs hst fun v H1 Hs1 E1 r1 => h2 σ H1 Hs1 _ E1.sub (hst.same E1.vis) fun vs H2 Hs2 E2 r2 => ?_), fun a ha => ?_⟩
        · exact hq _ H2 Hs2 (E1.trans E2) (.cons (Rep.same E2.vis d v r1) r2)
        · rcases List.mem_cons.mp ha with rfl | ha
          · exact hp
          · exact hps a ha
theorem ev_tuple {es : List Expr} {ds : List D} {j : Nat} {pos : Pos} (h : EvA X ρ es ds) (hz : szl ds.length = true) : Ev X ρ (.Tuple es j pos) (.tup ds) := fun σ H Hs Q hs hst hq =>
  (pe_tup pa_sem).sem (h σ H Hs _ hs hst fun vs H1 Hs1 E1 r1 => ⟨by rw [← r1.length]; exact szl_ok hz, fun p hp => new_tup E1.sub r1 hp fun w H' Hs' E2 r2 => hq w H' Hs' (E1.trans E2) r2⟩)
theorem ev_list {es : List Expr} {ds : List D} {pos : Pos} (h : EvA X ρ es ds) (hz : szl ds.length = true) : Ev X ρ (.List es pos) (.lst ds) := fun σ H Hs Q hs hst hq =>
  (pe_lst pa_sem).sem (h σ H Hs _ hs hst fun vs H1 Hs1 E1 r1 => ⟨by rw [← r1.length]; exact szl_ok hz, fun p hp => new_lst E1.sub r1 hp fun w H' Hs' E2 r2 => hq w H' Hs' (E1.trans E2) r2⟩)
theorem ixD_eq (n : Nat) (i : Int) : ixD n i = ixN n i := rfl
theorem atD_rep {K : PySem.W.Frag} {H : Hp} {ds : List D} {vs : List V} {i : Int} {d : D} (h : RepL K H ds vs) (e : atD ds i = some d) : ∃ v, atI vs i = some v ∧ Rep K H d v := by
  unfold atD at e
  rw [ixD_eq, h.length] at e
  cases q : ixN vs.length i with
  | none => rw [q] at e; cases e
  | some j =>
    rw [q] at e
    obtain ⟨v, h1, h2⟩ := h.get (i := j) (d := d) e
    exact ⟨v, by unfold atI; rw [q]; exact h1, h2⟩
theorem ev_index {a b : Expr} {x d : D} {i : Int} {xs : List D} {pos : Pos} (ha : Ev X ρ a x) (hb : Ev X ρ b (.int i)) (hp : plainE b = true) (hx : items x = some xs) (hd : atD xs i = some d) : Ev X ρ (.Subscript a b pos) d := by
  cases x with
  | tup ys =>
    simp only [items, Option.some.injEq] at hx
    subst hx
    refine ev_two ha hb (pe_ix ix_tup pe_sem pe_sem (plain_ix hp)) fun u v H Hs Q hs r1 r2 hq => ?_
    obtain ⟨p, vs, rfl, h1, h2⟩ := rep_tup r1
    obtain ⟨w, h3, h4⟩ := atD_rep h2 hd
    exact ⟨p, vs, i, w, rfl, rep_int r2, hs.tup h1, h3, hq w H Hs (.refl hs) h4⟩
  | lst ys =>
    simp only [items, Option.some.injEq] at hx
    subst hx
    refine ev_two ha hb (pe_ix ix_list pe_sem pe_sem (plain_ix hp)) fun u v H Hs Q hs r1 r2 hq => ?_
    obtain ⟨p, vs, rfl, h1, h2⟩ := rep_lst r1
    obtain ⟨w, h3, h4⟩ := atD_rep h2 hd
    exact ⟨p, vs, i, w, rfl, rep_int r2, hs.seq h1, h3, hq w H Hs (.refl hs) h4⟩
  | _ => simp [items] at hx
theorem sIxD_eq (n d : Nat) (o : Option Int) : sIxD n d o = HT.sIx n d o := by cases o <;> rfl
theorem cut_rep {K : PySem.W.Frag} {H : Hp} {ds : List D} {vs : List V} (lo hi : Option Int) (h : RepL K H ds vs) : RepL K H (cutT ds lo hi) (cutV vs lo hi) := by
  unfold cutT cutV
  rw [sIxD_eq, sIxD_eq, h.length]
  exact (h.drop _).take _
noncomputable def EvO (X : Cx) (ρ : Rho) (e : Option Expr) (o : Option Int) : Prop := ∃ t : TO, PO X e t ∧ ∀ σ H Hs Q, Same Hs H → RepSt X.K Hs ρ σ → (∀ H' Hs', Ext Hs H Hs' H' → Q o H') → t σ H Q
theorem evO_none : EvO X ρ none none := ⟨_, po_none, fun σ H Hs Q hs hst hq => hq H Hs (.refl hs)⟩
theorem evO_some {e : Expr} {i : Int} (h : Ev X ρ e (.int i)) : EvO X ρ (some e) (some i) := ⟨_, po_some pe_sem, fun σ H Hs Q hs hst hq => h σ H Hs _ hs hst fun v H' Hs' E1 r1 => ⟨i, rep_int r1, hq H' Hs' E1⟩⟩
theorem ev_slice {a : Expr} {lo hi : Option Expr} {l u : Option Int} {xs : List D} {p2 pos : Pos} (ha : Ev X ρ a (.tup xs)) (hl : EvO X ρ lo l) (hu : EvO X ρ hi u) (hw : ¬ (sIxD xs.length 0 l = 0 ∧ sIxD xs.length xs.length u = xs.length)) :
    Ev X ρ (.Subscript a (.Slice lo hi none p2) pos) (.tup (cutT xs l u)) := by
  obtain ⟨tl, pl, ql⟩ := hl
  obtain ⟨tu, pu, qu⟩ := hu
  intro σ H Hs Q hs hst hq
  refine (pe_slice sl_tup pe_sem pl pu).sem (ha σ H Hs _ hs hst fun v H1 Hs1 E1 r1 => ql σ H1 Hs1 _ E1.sub (hst.same E1.vis) fun H2 Hs2 E2 => qu σ H2 Hs2 _ E2.sub ((hst.same E1.vis).same E2.vis) fun H3 Hs3 E3 => ?_)
  obtain ⟨p, vs, rfl, h1, h2⟩ := rep_tup (Rep.same (E2.trans E3).vis _ _ r1)
  refine ⟨p, vs, rfl, E3.sub.tup h1, ?_, fun q hq' => new_tup E3.sub (cut_rep l u h2) hq' fun w H' Hs' E4 r4 => hq w H' Hs' (E1.trans (E2.trans (E3.trans E4))) r4⟩
  rw [sIxD_eq, sIxD_eq, h2.length] at hw
  exact hw
/-! ### calls of defs -/
theorem ev_call {f : Str} {es : List Expr} {ds : List D} {d : D} {p pos : Pos} (G : Good cx k X sc) (hg : Gl X f) (hf : cx.fns.contains f = true) (hne : es ≠ []) (h : EvA X ρ es ds) (hp : ∀ e ∈ es, plainE e = true) (hc : cx.call f ds = some d) :
    Ev X ρ (.Call (.Name f p) es [] pos) d := by
  obtain ⟨hdb, a, fd, ps, har, hm, hk, hb, F⟩ := G.fns f hf
  cases es with
  | nil => exact absurd rfl hne
  | cons e es =>
    intro σ H Hs Q hs hst hq
    refine (pe_call F G.room hg hm hk hb .nil pass0 pa_sem hdb (plain_star (hp e (by simp))) (stars_any fun e' he => hp e' (List.mem_cons_of_mem _ he))).sem (h σ H Hs _ hs hst fun vs H1 Hs1 E1 r1 => ?_)
    refine ⟨?_, Hs1, ds, d, E1.sub, ?_, hc, fun v H' Hs' E2 r2 => hq v H' Hs' (E1.trans E2) r2⟩
    · rw [List.append_nil, ← r1.length, har ds d hc]
    · rw [List.append_nil]; exact r1

/-! ### calls of built-ins -/
noncomputable def rSem (X : Cx) (f : Value) : List V → Hp → VK → Prop := fun vs H Q => ∀ pins s σ us, Inv X pins σ H s → Vals vs us → wpAny (model X.prog X.w) X.A (call f us) (EP X pins σ Q) X.xe s
theorem call_sem {f : Value} : CallR X f (rSem X f) := fun pins s σ H xs us Q I r h => h pins s σ us I r
theorem CallR.sem {f : Value} {r : List V → Hp → VK → Prop} {vs : List V} {H : Hp} {Q : VK} (h : CallR X f r) (q : r vs H Q) : rSem X f vs H Q := fun pins s σ us I rv => h pins s σ H vs us Q I rv q
noncomputable def EvC (X : Cx) (f : Value) (ds : List D) (d : D) : Prop := ∀ vs H Hs Q, Same Hs H → RepL X.K Hs ds vs → (∀ v H' Hs', Ext Hs H Hs' H' → Rep X.K Hs' d v → Q v H') → rSem X f vs H Q
theorem repL1 {K : PySem.W.Frag} {H : Hp} {d : D} {vs : List V} (h : RepL K H [d] vs) : ∃ v, vs = [v] ∧ Rep K H d v := by
  simp only [RepL] at h
  obtain ⟨v, r, rfl, h1, h2⟩ := h
  subst h2
  exact ⟨v, rfl, h1⟩
theorem repL2 {K : PySem.W.Frag} {H : Hp} {d e : D} {vs : List V} (h : RepL K H [d, e] vs) : ∃ v w, vs = [v, w] ∧ Rep K H d v ∧ Rep K H e w := by
  simp only [RepL] at h
  obtain ⟨v, r, rfl, h1, w, r2, rfl, h2, h3⟩ := h
  subst h3
  exact ⟨v, w, rfl, h1, h2⟩
theorem rep_items {K : PySem.W.Frag} {H : Hp} {d : D} {l : List D} {v : V} (h : Rep K H d v) (e : items d = some l) : ∃ a vs, v = .ref a ∧ (SqL K H a vs ∨ SqT K H a vs) ∧ RepL K H l vs := by
  cases d with
  | tup xs => simp only [items, Option.some.injEq] at e; subst e; obtain ⟨a, vs, e1, e2, e3⟩ := rep_tup h; exact ⟨a, vs, e1, .inr e2, e3⟩
  | lst xs => simp only [items, Option.some.injEq] at e; subst e; obtain ⟨a, vs, e1, e2, e3⟩ := rep_lst h; exact ⟨a, vs, e1, .inl e2, e3⟩
  | _ => simp [items] at e
theorem asBs_rep {K : PySem.W.Frag} {H : Hp} : ∀ {ds : List D} {bs : List Bool} {vs : List V}, asBs ds = some bs → RepL K H ds vs → vs = bs.map V.bl
  | [], ns, vs, h, r => by
    simp only [asBs, Option.some.injEq] at h; subst h
    simpa [RepL] using r
  | .bl i :: ds, ns, vs, h, r => by
    simp only [asBs, Option.map_eq_some_iff] at h
    obtain ⟨ms, h1, rfl⟩ := h
    simp only [RepL] at r
    obtain ⟨v, r', rfl, h2, h3⟩ := r
    rw [rep_bl h2, asBs_rep h1 h3]
    rfl
  | .non :: ds, ns, vs, h, r => by simp [asBs] at h
  | .int _ :: ds, ns, vs, h, r => by simp [asBs] at h
  | .str _ :: ds, ns, vs, h, r => by simp [asBs] at h
  | .tup _ :: ds, ns, vs, h, r => by simp [asBs] at h
  | .lst _ :: ds, ns, vs, h, r => by simp [asBs] at h
theorem boolsAre_of : ∀ {bs : List Bool} {us : List Value}, Vals (bs.map V.bl) us → LSm.BoolsAre us bs
  | [], us, r => by rw [List.map_nil] at r; cases r; exact .nil
  | b :: bs, us, r => by
    rw [List.map_cons] at r
    cases r with
    | cons r1 r2 =>
      cases (show _ = Value.bool b from r1)
      exact .cons b (boolsAre_of r2)
theorem call_sumL (hc : X.calm = true) : CallR X (.builtin "sum") (fun xs H Q => ∃ (p : Addr) (ns : List Int), xs = [.ref p] ∧ SqL X.K H p (ns.map V.int) ∧ Q (.int ns.sum) H) := by
  intro pins s σ H xs us Q I r h
  obtain ⟨p, ns, rfl, hq, q⟩ := h
  obtain ⟨u, rfl, rx⟩ := vals1 r
  cases (show u = Value.ref p from rx)
  obtain ⟨its, r', pl, hz⟩ := I.list hq
  have hi := intsAre_of r'
  obtain ⟨zs, hx⟩ := hi.allInts.items
  have hl' : s.heap.IsList p (intItems zs) := hx ▸ pl.isList
  refine sum_intListG (I.ok.hd hc) hl' fun h' tk t' hk => ⟨.int ns.sum, H, I.kept hk, ⟨t', ?_⟩, q⟩
  have e1 : ns = zs.toList.map (·.1) := by
    rw [← nums_intItems, ← hx]
    exact (show numsOf its.toArray.toList = ns from hi.numsOf).symm
  rw [preSum_eq, List.take_of_length_le (by simp), e1]
theorem call_allL (hc : X.calm = true) : CallR X (.builtin "all") (fun xs H Q => ∃ (p : Addr) (bs : List Bool), xs = [.ref p] ∧ SqL X.K H p (bs.map V.bl) ∧ Q (.bl (bs.all id)) H) := by
  intro pins s σ H xs us Q I r h
  obtain ⟨p, bs, rfl, hq, q⟩ := h
  obtain ⟨u, rfl, rx⟩ := vals1 r
  cases (show u = Value.ref p from rx)
  obtain ⟨its, r', pl, hz⟩ := I.list hq
  have hb := boolsAre_of r'
  have hl := pl.isList
  have hlt : p < s.heap.objs.size := by obtain ⟨_, e, _⟩ := hl; exact Heap.lt_size e
  refine call_all_walk (wpAny_pyIter_list hl ⟨s.heap.objs.size, [s.heap.objs.size, p], [s.heap.objs.size], its.toArray.size, _, _, fun i => (bs[i]?).getD true, rfl, Walks.list (A := X.A.in1) (I.ok.hd hc) _ p (Nat.ne_of_lt hlt) its.toArray, ⟨⟨_, Heap.get?_push_size _ rfl, rfl, rfl⟩, hl.push _⟩, fun i v s' Q' E' hP hQ => ?_, fun h' tk hk => ?_⟩)
  · obtain ⟨b, e, rfl⟩ := hb.get i v (by simpa using hP)
    simp only [e, Option.getD_some] at hQ
    exact wpAny_truthy_bool hQ
  · have e : ((List.range its.toArray.size).all fun i => (bs[i]?).getD true) = bs.all id := by rw [List.size_toArray, hb.length]; exact LSm.range_all bs
    rw [e]
    exact ⟨.bl _, H, I.kept (LSm.kept_iter hk), rfl, q⟩
theorem ev_tupC {d0 : D} {l : List D} (hl : items d0 = some l) : EvC X (.type "tuple") [d0] (.tup l) := by
  intro vs H Hs Q hs hr hq
  obtain ⟨v, rfl, r1⟩ := repL1 hr
  refine CallR.sem call_tuple_of ?_
  cases d0 with
  | tup xs =>
    simp only [items, Option.some.injEq] at hl; subst hl
    obtain ⟨a, us, rfl, h1, h2⟩ := rep_tup r1
    exact ⟨a, us, rfl, .inr ⟨hs.tup h1, hq _ H Hs (.refl hs) r1⟩⟩
  | lst xs =>
    simp only [items, Option.some.injEq] at hl; subst hl
    obtain ⟨a, us, rfl, h1, h2⟩ := rep_lst r1
    exact ⟨a, us, rfl, .inl ⟨hs.seq h1, fun p hp => new_tup hs h2 hp hq⟩⟩
  | _ => simp [items] at hl
noncomputable def bltV : String → Value
  | "tuple" => .type "tuple"
  | "list" => .type "list"
  | "int" => .type "int"
  | b => .builtin b
theorem call_sumT (hc : X.calm = true) : CallR X (.builtin "sum") (fun xs H Q => ∃ (p : Addr) (ns : List Int), xs = [.ref p] ∧ SqT X.K H p (ns.map V.int) ∧ Q (.int ns.sum) H) := by
  intro pins s σ H xs us Q I r h
  obtain ⟨p, ns, rfl, hq, q⟩ := h
  obtain ⟨u, rfl, rx⟩ := vals1 r
  cases (show u = Value.ref p from rx)
  obtain ⟨its, r', pl, hz⟩ := I.tuple hq
  have hi := intsAre_of r'
  obtain ⟨zs, hx⟩ := hi.allInts.items
  have hl' : s.heap.IsTuple p (intItems zs) := hx ▸ pl
  have lt : p < s.heap.objs.size := pl.lt
  refine call_sum_walkG (wpAny_pyIter_tuple hl' ⟨_, _, _, _, _, _, numAt zs, rfl, Walks.tuple (A := X.A.in1) (I.ok.hd hc) _ p (Nat.ne_of_lt lt) (intItems zs), ⟨⟨_, Heap.get?_push_size _ rfl, rfl, rfl⟩, by obtain ⟨o, e, rr⟩ := hl'; exact ⟨o, Heap.get?_push_of_some _ e, rr⟩⟩, ?_, (fun _ _ => intItems_at), fun h' tk t' hk => ?_⟩)
  · intro b hb
    show b < (s.heap.push _).objs.size
    rw [Heap.size_push]
    simp at hb
    rcases hb with rfl | rfl
    · exact Nat.lt_succ_self _
    · exact Nat.lt_succ_of_lt lt
  · have kp : ∀ b o, s.heap.get? b = some o → h'.get? b = some o := fun b o e => hk b o (by simp; exact Nat.ne_of_lt (Heap.lt_size e)) (Heap.get?_push_of_some _ e)
    refine ⟨.int ns.sum, H, I.kept kp, ⟨t', ?_⟩, q⟩
    have e1 : ns = zs.toList.map (·.1) := by
      rw [← nums_intItems, ← hx]
      exact (show numsOf its.toArray.toList = ns from hi.numsOf).symm
    have e2 : (intItems zs).size = zs.size := by simp [intItems]
    rw [e2, preSum_eq, List.take_of_length_le (by simp), e1]
theorem ev_blt {b : String} {ds : List D} {d : D} (hc : X.calm = true) (h : DE.blt b ds = some d) : EvC X (bltV b) ds d := by
  intro vs H Hs Q hs hr hq
  unfold DE.blt at h
  split at h
  · simp only [bind, Option.bind] at h
    split at h
    · cases h
    · rename_i l hl
      cases h
      obtain ⟨v, rfl, r1⟩ := repL1 hr
      obtain ⟨a, us, rfl, h1, h2⟩ := rep_items r1 hl
      refine CallR.sem call_len_seq ⟨a, us, rfl, h1.imp hs.seq hs.tup, ?_⟩
      rw [← h2.length]
      exact hq _ H Hs (.refl hs) (by simp [Rep])
  · simp only [bind, Option.bind] at h
    split at h
    · cases h
    · rename_i l hl
      cases h
      obtain ⟨v, rfl, r1⟩ := repL1 hr
      obtain ⟨a, us, rfl, h1, h2⟩ := rep_lst r1
      have e := asBs_rep hl h2
      subst e
      exact CallR.sem (call_allL hc) ⟨a, _, rfl, hs.seq h1, hq _ H Hs (.refl hs) (by simp [Rep])⟩
  · simp only [bind, Option.bind] at h
    split at h
    · cases h
    · rename_i l hl
      cases h
      obtain ⟨v, rfl, r1⟩ := repL1 hr
      obtain ⟨a, us, rfl, h1, h2⟩ := rep_lst r1
      have e := asIs_rep hl h2
      subst e
      exact CallR.sem (call_sumL hc) ⟨a, _, rfl, hs.seq h1, hq _ H Hs (.refl hs) (by simp [Rep])⟩
  · simp only [bind, Option.bind] at h
    split at h
    · cases h
    · rename_i l hl
      cases h
      obtain ⟨v, rfl, r1⟩ := repL1 hr
      obtain ⟨a, us, rfl, h1, h2⟩ := rep_tup r1
      have e := asIs_rep hl h2
      subst e
      exact CallR.sem (call_sumT hc) ⟨a, _, rfl, hs.tup h1, hq _ H Hs (.refl hs) (by simp [Rep])⟩
  · simp only [bind, Option.bind] at h
    split at h
    · cases h
    · rename_i l hl
      cases h
      exact ev_tupC hl vs H Hs Q hs hr hq
  · simp only [bind, Option.bind] at h
    split at h
    · cases h
    · rename_i l hl
      cases h
      obtain ⟨v, rfl, r1⟩ := repL1 hr
      obtain ⟨a, us, rfl, h1, h2⟩ := rep_items r1 hl
      exact CallR.sem call_list_of ⟨a, us, rfl, h1.imp hs.seq hs.tup, fun p hp => new_lst hs h2 hp hq⟩
  · cases h
    obtain ⟨v, rfl, r1⟩ := repL1 hr
    exact CallR.sem call_int1 (.inr ⟨_, by rw [rep_bl r1], hq _ H Hs (.refl hs) (by simp [Rep, DE.b2i])⟩)
  · cases h
end
end L2

set_option Elab.async false
set_option linter.all false
set_option maxRecDepth 100000
namespace L2
open PySem PySem.Spec PyProof.Rows DE PySem.SeqAt
section
variable {X : Cx} {ρ : Rho} {cx : Cxt} {k : Nat} {sc : Scope}
theorem bltOf_ok {x : Str} {b : String} (G : Good cx k X sc) (h : bltOf cx sc x = some b) : Gl X x ∧ X.mg x = none ∧ x = Str.ofString b := by
  unfold bltOf isGl at h
  split at h
  · rename_i hg
    have e : sc.names.lookup x = some .globalImplicit := by simpa using hg
    refine ⟨?_, G.blt x b h⟩
    show X.env.scope.names.lookup x = _
    rw [G.sce, e]
  · cases h
theorem blt_names {b : String} {ds : List D} {d : D} (h : DE.blt b ds = some d) : b = "len" ∨ b = "all" ∨ b = "sum" ∨ b = "tuple" ∨ b = "list" ∨ b = "int" := by
  unfold DE.blt at h
  split at h <;> first | (simp; done) | cases h
theorem ev_bcall {x : Str} {b : String} {e : Expr} {es : List Expr} {ds : List D} {d : D} {p pos : Pos} (G : Good cx k X sc) (hx : bltOf cx sc x = some b) (h : EvA X ρ (e :: es) ds) (hp : ∀ a ∈ e :: es, plainE a = true) (hd : DE.blt b ds = some d) :
    Ev X ρ (.Call (.Name x p) (e :: es) [] pos) d := by
  obtain ⟨hg, hm, rfl⟩ := bltOf_ok G hx
  have c := ev_blt (X := X) G.calm hd
  have s1 := plain_star (env := X.env) (es := es) (hp e (by simp))
  have s2 := stars_any (env := X.env) (pos := pos) fun a ha => hp a (List.mem_cons_of_mem _ ha)
  have fin : ∀ f : Value, bltV b = f → PE X (.Call (.Name (Str.ofString b) p) (e :: es) [] pos) (tCB (rSem X f) (tSemA X (e :: es))) → Ev X ρ (.Call (.Name (Str.ofString b) p) (e :: es) [] pos) d := by
    intro f hf hpe σ H Hs Q hs hst hq
    rw [hf] at c
    refine hpe.sem (h σ H Hs _ hs hst fun vs H1 Hs1 E1 r1 => ?_)
    exact c vs H1 Hs1 Q E1.sub r1 fun v H' Hs' E2 r2 => hq v H' Hs' (E1.trans E2) r2
  rcases blt_names hd with rfl | rfl | rfl | rfl | rfl | rfl
  · exact fin (.builtin "len") rfl (pe_callB call_sem hg hm (by decide +kernel) pa_sem (by decide) (by decide) s1 s2)
  · exact fin (.builtin "all") rfl (pe_callB call_sem hg hm (by decide +kernel) pa_sem (by decide) (by decide) s1 s2)
  · exact fin (.builtin "sum") rfl (pe_callB call_sem hg hm (by decide +kernel) pa_sem (by decide) (by decide) s1 s2)
  · exact fin (.type "tuple") rfl (pe_callTy call_sem hg hm (by decide +kernel) pa_sem (by decide) (by decide) s1 s2)
  · exact fin (.type "list") rfl (pe_callTy call_sem hg hm (by decide +kernel) pa_sem (by decide) (by decide) s1 s2)
  · exact fin (.type "int") rfl (pe_callTy call_sem hg hm (by decide +kernel) pa_sem (by decide) (by decide) s1 s2)

/-! ### max(ints, default=c) -/
/-! ### isinstance -/
noncomputable def rIsi (K : PySem.W.Frag) (T : String) : List V → Hp → VK → Prop := fun xs H Q => ∃ x d, xs = [x, .ty T] ∧ Rep K H d x ∧ Q (.bl (isTy T d)) H
theorem ty_names {T : String} (h : tyKnown T = true) : T = "int" ∨ T = "bool" ∨ T = "tuple" := by
  unfold tyKnown at h
  split at h <;> first | (simp; done) | cases h
theorem valsC {x : V} {vs : List V} {us : List Value} (r : Vals (x :: vs) us) : ∃ u w, us = u :: w ∧ RelV x u ∧ Vals vs w := by
  cases r with
  | cons r rr => exact ⟨_, _, rfl, r, rr⟩
theorem call_isi {T : String} (hk : tyKnown T = true) : CallR X (.builtin "isinstance") (rIsi X.K T) := by
  intro pins s σ H xs us Q I r h
  obtain ⟨x, d, rfl, rd, q⟩ := h
  obtain ⟨u, w1, rfl, rx, rr⟩ := valsC r
  obtain ⟨c, w2, rfl, rc, rr2⟩ := valsC rr
  cases rr2
  cases (show c = Value.type T from rc)
  have fin : ∀ b, b = isTy T d → ∀ tk, EP X pins σ Q (.bool b) { s with toks := tk } := fun b hb tk => ⟨.bl _, H, I.tok _, by rw [hb]; rfl, q⟩
  have ks := ty_names hk
  cases d with
  | non =>
    cases rep_non rd; cases (show u = Value.none from rx)
    rcases ks with rfl | rfl | rfl <;> exact PySem.W.kia_one (b := false) PySem.W.kitx_none I.kIn True.intro rfl (fun z => nomatch z) (fin _ rfl)
  | bl y =>
    cases rep_bl rd; cases (show u = Value.bool y from rx)
    rcases ks with rfl | rfl | rfl
    · exact PySem.W.kia_one (b := true) PySem.W.kitx_bool I.kIn True.intro rfl (fun z => nomatch z) (fin _ rfl)
    · exact PySem.W.kia_one (b := true) PySem.W.kitx_bool I.kIn True.intro rfl (fun z => nomatch z) (fin _ rfl)
    · exact PySem.W.kia_one (b := false) PySem.W.kitx_bool I.kIn True.intro rfl (fun z => nomatch z) (fin _ rfl)
  | int y =>
    cases rep_int rd
    obtain ⟨t, e⟩ := (show ∃ t, u = Value.int y t from rx)
    cases e
    rcases ks with rfl | rfl | rfl
    · exact PySem.W.kia_one (b := true) PySem.W.kitx_int I.kIn True.intro rfl (fun z => nomatch z) (fin _ rfl)
    · exact PySem.W.kia_one (b := false) PySem.W.kitx_int I.kIn True.intro rfl (fun z => nomatch z) (fin _ rfl)
    · exact PySem.W.kia_one (b := false) PySem.W.kitx_int I.kIn True.intro rfl (fun z => nomatch z) (fin _ rfl)
  | str y =>
    have ev : x = .str y := by simpa [Rep] using rd
    subst ev
    obtain ⟨t, e⟩ := (show ∃ t, u = Value.str y t from rx)
    cases e
    rcases ks with rfl | rfl | rfl
    · exact PySem.W.kia_one (b := false) PySem.W.kitx_str I.kIn True.intro rfl (fun z => nomatch z) (fin _ rfl)
    · exact PySem.W.kia_one (b := false) PySem.W.kitx_str I.kIn True.intro rfl (fun z => nomatch z) (fin _ rfl)
    · exact PySem.W.kia_one (b := false) PySem.W.kitx_str I.kIn True.intro rfl (fun z => nomatch z) (fin _ rfl)
  | tup ds =>
    obtain ⟨a, vs, rfl, h1, h2⟩ := rep_tup rd
    cases (show u = Value.ref a from rx)
    obtain ⟨its, _, o, g1, g2, _⟩ := isT I h1
    rcases ks with rfl | rfl | rfl
    · exact PySem.W.kia_one (b := false) PySem.W.kitx_tuple I.kIn ⟨o, g1, g2⟩ rfl (fun z => nomatch z) (fin _ rfl)
    · exact PySem.W.kia_one (b := false) PySem.W.kitx_tuple I.kIn ⟨o, g1, g2⟩ rfl (fun z => nomatch z) (fin _ rfl)
    · exact PySem.W.kia_one (b := true) PySem.W.kitx_tuple I.kIn ⟨o, g1, g2⟩ rfl (fun z => nomatch z) (fin _ rfl)
  | lst ds =>
    obtain ⟨a, vs, rfl, h1, h2⟩ := rep_lst rd
    cases (show u = Value.ref a from rx)
    obtain ⟨its, _, o, g1, g2, _⟩ := isL I h1
    rcases ks with rfl | rfl | rfl
    · exact PySem.W.kia_one (b := false) PySem.W.kitx_list I.kIn ⟨o, g1, g2⟩ rfl (fun z => nomatch z) (fin _ rfl)
    · exact PySem.W.kia_one (b := false) PySem.W.kitx_list I.kIn ⟨o, g1, g2⟩ rfl (fun z => nomatch z) (fin _ rfl)
    · exact PySem.W.kia_one (b := false) PySem.W.kitx_list I.kIn ⟨o, g1, g2⟩ rfl (fun z => nomatch z) (fin _ rfl)
theorem ev_isi {x t : Str} {T : String} {a : Expr} {d : D} {p pt pos : Pos} (G : Good cx k X sc) (hx : bltOf cx sc x = some "isinstance") (ht : bltOf cx sc t = some T) (hk : tyKnown T = true) (ha : Ev X ρ a d) (hp : plainE a = true) :
    Ev X ρ (.Call (.Name x p) [a, .Name t pt] [] pos) (.bl (isTy T d)) := by
  obtain ⟨hg, hm, rfl⟩ := bltOf_ok G hx
  obtain ⟨hg2, hm2, rfl⟩ := bltOf_ok G ht
  have htv : PE X (.Name (Str.ofString T) pt) (tC (.ty T)) := by
    rcases ty_names hk with rfl | rfl | rfl <;> exact pe_bltn hg2 hm2 (by decide +kernel) rfl
  intro σ H Hs Q hs hst hq
  refine (pe_callB (call_isi (X := X) hk) hg hm (by decide +kernel) (pa_cons pe_sem (pa_cons htv pa_nil (plain_star rfl)) (plain_star hp)) (by decide) (by decide) (plain_star hp) rfl).sem ?_
  exact ha σ H Hs _ hs hst fun v H1 Hs1 E1 r1 => ⟨v, d, rfl, Rep.same E1.sub d v r1, hq _ H1 Hs1 E1 (by simp [Rep])⟩
end
end L2

set_option Elab.async false
set_option linter.all false
set_option maxRecDepth 100000
namespace L2
open PySem PySem.Spec PyProof.Rows DE PySem.SeqAt
section
variable {X : Cx} {ρ : Rho} {cx : Cxt} {k : Nat} {sc : Scope}
noncomputable def rangeV (lo hi : Int) : List V := (List.range (hi - lo).toNat).map fun (k : Nat) => V.int (lo + (k : Int))
theorem repL_map {α : Type} {K : PySem.W.Frag} {H : Hp} {f : α → D} {g : α → V} (h : ∀ x, Rep K H (f x) (g x)) : ∀ l : List α, RepL K H (l.map f) (l.map g)
  | [] => .nil
  | x :: r => .cons (h x) (repL_map h r)
theorem range_rep {K : PySem.W.Frag} {H : Hp} {lo hi : Int} : RepL K H (rangeD lo hi) (rangeV lo hi) := repL_map (fun x => by simp [Rep]) _
theorem rng_ok {i : Int} (h : rng62 i = true) : -(2 ^ 62) ≤ i ∧ i < 2 ^ 62 := by
  unfold rng62 at h
  rw [Bool.and_eq_true, decide_eq_true_eq, decide_eq_true_eq] at h
  exact h
theorem vals_of : ∀ {vs : List V} {us : List Value}, vs.length = us.length → (∀ (i : Nat) (v : V) (u : Value), vs[i]? = some v → us[i]? = some u → RelV v u) → Vals vs us
  | [], [], _, _ => .nil
  | [], u :: us, h, _ => by simp at h
  | v :: vs, [], h, _ => by simp at h
  | v :: vs, u :: us, h, hr => .cons (hr 0 v u rfl rfl) (vals_of (by simpa using h) fun i a b e1 e2 => hr (i + 1) a b (by simpa using e1) (by simpa using e2))
theorem list_of_range {pins : List (Addr × Obj)} {σ : St} {H : Hp} {s : Shared} {Q : VK} {E : Value → Shared → Prop} {lo hi : Int} {t u v : Tok} {tk : Nat} (hc : X.calm = true) (I : Inv X pins σ H s) (h1 : -(2 ^ 62) ≤ lo ∧ lo < 2 ^ 62) (h3 : -(2 ^ 62) ≤ hi ∧ hi < 2 ^ 62)
    (hz : szl (hi - lo).toNat = true) (q : ∀ p, H p = none → Q (.ref p) (upd H p (.lst (rangeV lo hi)))) :
    wpAny (model X.prog X.w) X.A (call (.type "list") [.ref s.heap.objs.size]) (EP X pins σ Q) E { s with heap := s.heap.push { cls := .type "range", data := .fields #[.int lo t, .int hi u, .int 1 v] }, toks := tk } := by
  have hz' : (hi - lo).toNat ≤ 100000 := by unfold szl at hz; simpa using hz
  refine call_list_range (n := (hi - lo).toNat) (I.ok.hd hc) (IsRange.new ..) (small_one h1.1 h1.2 h3.1 h3.2) (by rw [rangeSize_one]; split <;> omega) (by omega) fun h' tk' acc' c' kp e its => ?_
  have I1 : Inv X pins σ H { s with heap := s.heap.push { cls := .type "range", data := .fields #[.int lo t, .int hi u, .int 1 v] }, toks := tk } := I.kept fun b o e => Heap.get?_push_of_some _ e
  have hl : (rangeV lo hi).length = (hi - lo).toNat := by simp [rangeV]
  have hv : Vals (rangeV lo hi) acc'.toList := by
    refine vals_of (by rw [hl, Array.length_toList, its.1]) fun i v u e1 e2 => ?_
    obtain ⟨t, rfl⟩ := its.2 i u (by simpa using e2)
    unfold rangeV at e1
    rw [List.getElem?_map] at e1
    obtain ⟨j, e3, rfl⟩ := Option.map_eq_some_iff.mp e1
    rw [List.getElem?_eq_some_iff] at e3
    obtain ⟨_, e3⟩ := e3
    rw [List.getElem_range] at e3
    subst e3
    exact ⟨t, by rw [Int.mul_one]⟩
  refine ⟨.ref _, _, I1.laid (t' := tk') kp (Nat.le_refl _) (show ObjOk X.prog X.w _ h' _ (.lst (rangeV lo hi)) from ⟨by rw [hl]; exact szl_ok hz, acc'.toList, c', hv, e⟩), rfl, q _ (I1.hok.fresh (Nat.le_refl _))⟩
theorem ev_lrange1 {x y : Str} {a : Expr} {j : Int} {p q q' pos : Pos} (G : Good cx k X sc) (hx : bltOf cx sc x = some "list") (hy : bltOf cx sc y = some "range") (ha : Ev X ρ a (.int j)) (hp : plainE a = true) (hj : rng62 j = true) (hz : szl j.toNat = true) :
    Ev X ρ (.Call (.Name x p) [.Call (.Name y q) [a] [] q'] [] pos) (.lst (rangeD 0 j)) := by
  obtain ⟨hg, hm, rfl⟩ := bltOf_ok G hx
  obtain ⟨hg2, hm2, rfl⟩ := bltOf_ok G hy
  intro σ H Hs Q hs hst hq pins s I
  refine Call_ (ld_blt I hg hm (show bootBuiltins "list" = some (.type "list") by decide +kernel) (PyProof.Rows.callWith_type1 ?_ rfl rfl))
  show wpAny _ _ (spliced [(false, eval (.Call (.Name _ q) [a] [] q') X.env)]) _ _ _
  refine Calls.spliced_cons ?_
  refine Call_ (ld_blt I hg2 hm2 boot_range (PyProof.Rows.callWith_type1 ?_ (plain_star hp) rfl))
  refine thn ((pa_cons pe_sem pa_nil (plain_star hp)) q' pins s σ H (fun vs H1 => ∃ Hs1, vs = [.int j] ∧ Ext Hs H Hs1 H1) I (ha σ H Hs _ hs hst fun v H1 Hs1 E1 r1 => ⟨Hs1, by rw [rep_int r1], E1⟩)) fun us s1 ⟨vs, H1, I1, r1, Hs1, e1, E1⟩ => ?_
  subst e1
  obtain ⟨u, w1, rfl, rx, rr⟩ := valsC r1
  cases rr
  obtain ⟨t, rfl⟩ := (show ∃ t, u = Value.int j t from rx)
  refine call_range_1 (Calls.spliced_nil ?_)
  exact list_of_range G.calm I1 (by decide) (rng_ok hj) (by simpa using hz) fun p hp => new_lst E1.sub range_rep hp fun w H' Hs' E2 r2 => hq w H' Hs' (E1.trans E2) r2
theorem ev_lrange2 {x y : Str} {a b : Expr} {i j : Int} {p q q' pos : Pos} (G : Good cx k X sc) (hx : bltOf cx sc x = some "list") (hy : bltOf cx sc y = some "range") (ha : Ev X ρ a (.int i)) (hp : plainE a = true) (hb : Ev X ρ b (.int j)) (hpb : plainE b = true) (hi : rng62 i = true) (hj : rng62 j = true) (hz : szl (j - i).toNat = true) :
    Ev X ρ (.Call (.Name x p) [.Call (.Name y q) [a, b] [] q'] [] pos) (.lst (rangeD i j)) := by
  obtain ⟨hg, hm, rfl⟩ := bltOf_ok G hx
  obtain ⟨hg2, hm2, rfl⟩ := bltOf_ok G hy
  intro σ H Hs Q hs hst hq pins s I
  refine Call_ (ld_blt I hg hm (show bootBuiltins "list" = some (.type "list") by decide +kernel) (PyProof.Rows.callWith_type1 ?_ rfl rfl))
  show wpAny _ _ (spliced [(false, eval (.Call (.Name _ q) [a, b] [] q') X.env)]) _ _ _
  refine Calls.spliced_cons ?_
  refine Call_ (ld_blt I hg2 hm2 boot_range (PyProof.Rows.callWith_type1 ?_ (plain_star hp) (stars_any fun e he => by rw [List.mem_singleton.mp he]; exact hpb)))
  refine thn ((pa_cons pe_sem (pa_cons pe_sem pa_nil (plain_star hpb)) (plain_star hp)) q' pins s σ H (fun vs H1 => ∃ Hs1, vs = [.int i, .int j] ∧ Ext Hs H Hs1 H1) I (ha σ H Hs _ hs hst fun v H1 Hs1 E1 r1 => hb σ H1 Hs1 _ E1.sub (hst.same E1.vis) fun v' H2 Hs2 E2 r2 => ⟨Hs2, by rw [rep_int r1, rep_int r2], E1.trans E2⟩)) fun us s1 ⟨vs, H1, I1, r1, Hs1, e1, E1⟩ => ?_
  subst e1
  obtain ⟨u, w1, rfl, rx, rr⟩ := valsC r1
  obtain ⟨u2, w2, rfl, rx2, rr2⟩ := valsC rr
  cases rr2
  obtain ⟨t, rfl⟩ := (show ∃ t, u = Value.int i t from rx)
  obtain ⟨t2, rfl⟩ := (show ∃ t, u2 = Value.int j t from rx2)
  refine call_range_2 (Calls.spliced_nil ?_)
  exact list_of_range G.calm I1 (rng_ok hi) (rng_ok hj) hz fun p hp => new_lst E1.sub range_rep hp fun w H' Hs' E2 r2 => hq w H' Hs' (E1.trans E2) r2
/-! ### what is walked -/
variable {tg iter a b : Expr}
theorem evI_seq {d : D} {l : List D} (h : Ev X ρ iter d) (hl : items d = some l) : EvI X ρ tg iter l := by
  intro σ H Hs R hs hst hq
  cases d with
  | lst xs =>
    simp only [items, Option.some.injEq] at hl; subst hl
    refine (pi_list (tg := tg) pe_sem).sem (h σ H Hs _ hs hst fun v H1 Hs1 E1 r1 => ?_)
    obtain ⟨p, vs, rfl, h1, h2⟩ := rep_lst r1
    refine ⟨p, rfl, ⟨vs, E1.sub.seq h1⟩, hq _ H1 Hs1 E1 fun Hs' H' e1 e2 => ⟨⟨vs, e2.seq (e1.seq h1), by rw [h2.length]; exact Nat.le_refl _⟩, fun i d hd => ?_⟩⟩
    obtain ⟨v, g1, g2⟩ := h2.get hd
    refine ⟨⟨vs, v, e2.seq (e1.seq h1), g1⟩, fun x H2 y => ?_⟩
    obtain ⟨rfl, y⟩ := y
    have := y vs (e2.seq (e1.seq h1))
    rw [g1] at this; cases this
    exact ⟨Hs', .refl e2, Rep.same e1 d v g2⟩
  | tup xs =>
    simp only [items, Option.some.injEq] at hl; subst hl
    refine (pi_tup (tg := tg) pe_sem).sem (h σ H Hs _ hs hst fun v H1 Hs1 E1 r1 => ?_)
    obtain ⟨p, vs, rfl, h1, h2⟩ := rep_tup r1
    refine ⟨p, rfl, ⟨vs, E1.sub.tup h1⟩, hq _ H1 Hs1 E1 fun Hs' H' e1 e2 => ⟨⟨vs, e2.tup (e1.tup h1), by rw [h2.length]; exact Nat.le_refl _⟩, fun i d hd => ?_⟩⟩
    obtain ⟨v, g1, g2⟩ := h2.get hd
    refine ⟨⟨vs, v, e2.tup (e1.tup h1), g1⟩, fun x H2 y => ?_⟩
    obtain ⟨rfl, y⟩ := y
    have := y vs (e2.tup (e1.tup h1))
    rw [g1] at this; cases this
    exact ⟨Hs', .refl e2, Rep.same e1 d v g2⟩
  | _ => simp [items] at hl
theorem itrep_range {K : PySem.W.Frag} {Hs0 : Hp} {lo hi : Int} {n : Nat} (hn : n = (hi - lo).toNat) : ItRep K (Itr lo n) Hs0 (rangeD lo hi) := by
  have hl : (rangeD lo hi).length = n := by rw [hn]; simp [rangeD]
  intro Hs H e1 e2
  refine ⟨by show n ≤ _; rw [hl]; exact Nat.le_refl _, fun i d hd => ?_⟩
  have hi : i < n := by have := (List.getElem?_eq_some_iff.mp hd).1; rw [hl] at this; exact this
  refine ⟨hi, fun x H' y => ?_⟩
  obtain ⟨rfl, rfl⟩ := y
  refine ⟨Hs, .refl e2, ?_⟩
  unfold rangeD at hd
  rw [List.getElem?_map] at hd
  obtain ⟨j, e3, rfl⟩ := Option.map_eq_some_iff.mp hd
  rw [List.getElem?_eq_some_iff] at e3
  obtain ⟨_, e3⟩ := e3
  rw [List.getElem_range] at e3
  subst e3
  simp [Rep]
theorem evI_range1 {x : Str} {j : Int} {p pos : Pos} (G : Good cx k X sc) (hx : bltOf cx sc x = some "range") (ha : Ev X ρ a (.int j)) (hp : plainE a = true) (hj : rng62 j = true) : EvI X ρ tg (.Call (.Name x p) [a] [] pos) (rangeD 0 j) := by
  obtain ⟨hg, hm, rfl⟩ := bltOf_ok G hx
  intro σ H Hs R hs hst hq
  have q := pi_range1 (tg := tg) (p := p) (pos := pos) hg hm (pa_cons (pe_sem (X := X) (e := a)) pa_nil (plain_star hp)) (plain_star hp)
  refine PI.sem q (ha σ H Hs _ hs hst fun v H1 Hs1 E1 r1 => ?_)
  exact ⟨j, by rw [rep_int r1], (rng_ok hj).1, (rng_ok hj).2, hq _ H1 Hs1 E1 (itrep_range (by simp))⟩
theorem evI_range2 {x : Str} {i j : Int} {p pos : Pos} (G : Good cx k X sc) (hx : bltOf cx sc x = some "range") (ha : Ev X ρ a (.int i)) (hp : plainE a = true) (hb : Ev X ρ b (.int j)) (hpb : plainE b = true) (hi : rng62 i = true) (hj : rng62 j = true) : EvI X ρ tg (.Call (.Name x p) [a, b] [] pos) (rangeD i j) := by
  obtain ⟨hg, hm, rfl⟩ := bltOf_ok G hx
  intro σ H Hs R hs hst hq
  have q := pi_range2 (tg := tg) (p := p) (pos := pos) hg hm (pa_cons (pe_sem (X := X) (e := a)) (pa_cons (pe_sem (X := X) (e := b)) pa_nil (plain_star hpb)) (plain_star hp)) (by rw [plain_star hp, plain_star hpb]; rfl) (plain_star hpb)
  refine PI.sem q (ha σ H Hs _ hs hst fun v H1 Hs1 E1 r1 => hb σ H1 Hs1 _ E1.sub (hst.same E1.vis) fun v' H2 Hs2 E2 r2 => ?_)
  exact ⟨i, j, by rw [rep_int r1, rep_int r2], ⟨(rng_ok hi).1, (rng_ok hi).2, (rng_ok hj).1, (rng_ok hj).2⟩, hq _ H2 Hs2 (E1.trans E2) (itrep_range rfl)⟩
end
end L2

set_option Elab.async false
set_option linter.all false
set_option maxRecDepth 100000
namespace L2
open PySem PySem.Spec PyProof.Rows DE PySem.SeqAt

theorem obind {α β : Type} {x : Option α} {f : α → Option β} {y : β} (h : (x >>= f) = some y) : ∃ a, x = some a ∧ f a = some y := by
  cases x with
  | none => cases h
  | some a => exact ⟨a, rfl, h⟩
/-! ### targets -/
noncomputable def gSem (X : Cx) (tg : Expr) : TG := fun v σ H Q => ∀ pins s u, Inv X pins σ H s → RelV v u → wpAny (model X.prog X.w) X.A (assign tg X.env u) (fun _ s' => ∃ σ' H', Inv X pins σ' H' s' ∧ Q σ' H') X.xe s
noncomputable def gsSem (X : Cx) (es : List Expr) : TGs := fun vs σ H Q => ∀ pins s us, Inv X pins σ H s → Vals vs us → wpAny (model X.prog X.w) X.A (assignInOrder ((assignEach es X.env).map (·.2)) us) (fun _ s' => ∃ σ' H', Inv X pins σ' H' s' ∧ Q σ' H') X.xe s
section
variable {X : Cx} {tg : Expr} {es : List Expr}
theorem pg_sem : PG X tg (gSem X tg) := fun pins s σ H v u Q I r h => h pins s u I r
theorem PG.sem {t : TG} {v : V} {σ : St} {H : Hp} {Q : St → Hp → Prop} (h : PG X tg t) (q : t v σ H Q) : gSem X tg v σ H Q := fun pins s u I r => h pins s σ H v u Q I r q
theorem pgs_sem : PGs X es (gsSem X es) := fun pins s σ H v u Q I r h => h pins s u I r
theorem PGs.sem {t : TGs} {v : List V} {σ : St} {H : Hp} {Q : St → Hp → Prop} (h : PGs X es t) (q : t v σ H Q) : gsSem X es v σ H Q := fun pins s u I r => h pins s σ H v u Q I r q
end
theorem setR_names : ∀ (ρ : Rho) (x : Str) (v : Sl), (setR ρ x v).map (·.1) = ρ.map (·.1)
  | [], _, _ => rfl
  | (y, s) :: r, x, v => by
    unfold setR
    split
    · rfl
    · simp [setR_names r x v]
theorem setR_get : ∀ {ρ : Rho} {x : Str} {v : Sl} {i : Nat}, (ρ.map (·.1)).Nodup → (ρ.map (·.1))[i]? = some x → ∀ j : Nat, (setR ρ x v)[j]? = if j = i then some (x, v) else ρ[j]?
  | [], x, v, i, _, h, _ => by simp at h
  | (y, s) :: r, x, v, 0, hn, h, j => by
    simp at h; subst h
    cases j with
    | zero => simp [setR]
    | succ j => simp [setR]
  | (y, s) :: r, x, v, i + 1, hn, h, j => by
    rw [List.map_cons, List.nodup_cons] at hn
    have h' : (r.map (·.1))[i]? = some x := by simpa using h
    have hne : (x == y) = false := by
      rw [beq_eq_false_iff_ne]
      intro e
      subst e
      exact hn.1 (List.mem_of_getElem? h')
    simp only [setR, hne, Bool.false_eq_true, if_false]
    cases j with
    | zero => simp
    | succ j =>
      have := setR_get (v := v) hn.2 h' j
      simp only [List.getElem?_cons_succ, this, Nat.add_right_cancel_iff]
theorem contains_ix {l : List Str} {x : Str} (h : l.contains x = true) : ∃ i : Nat, l[i]? = some x := by
  have := List.mem_of_elem_eq_true h
  exact List.mem_iff_getElem?.mp this
structure Owns (X : Cx) (scope : Scope) : Prop where
  own : ∀ x, ownIn scope x = true → Loc X.env.scope x ∧ (X.fn x = true ∨ X.env.scope.names.lookup x = some .local)
noncomputable def Keeps1 (K : PySem.W.Frag) (Hs : Hp) (scope : Scope) (P : Rho → St → Prop) : Prop := ∀ ρ σ (i : Nat) x d v, (ρ.map (·.1)).Nodup → (ρ.map (·.1))[i]? = some x → ownIn scope x = true → P ρ σ → Rep K Hs d v → P (setR ρ x (.sh d)) (σ.set i (some v))
section
variable {X : Cx} {scope : Scope} {Hs H : Hp} {P : Rho → St → Prop} {Q : St → Hp → Prop}
theorem bind_name {x : Str} {pos : Pos} {ρ ρ' : Rho} {σ : St} {d : D} {v : V} (hO : Owns X scope) (hnd : X.N.Nodup) (hN : X.N = ρ.map (·.1)) (KE : Keeps1 X.K Hs scope P) (hb : (if ownIn scope x && (ρ.map (·.1)).contains x then some (setR ρ x (.sh d)) else none) = some ρ') (hp : P ρ σ) (rd : Rep X.K Hs d v)
    (hq : ∀ σ', X.N = ρ'.map (·.1) → P ρ' σ' → Q σ' H) : gSem X (.Name x pos) v σ H Q := by
  split at hb
  · rename_i hc
    cases hb
    rw [Bool.and_eq_true] at hc
    obtain ⟨i, hi⟩ := contains_ix hc.2
    obtain ⟨h1, h2⟩ := hO.own x hc.1
    exact PG.sem (pg_name (i := i) hnd (by rw [hN]; exact hi) h1 h2) (hq _ (by rw [setR_names]; exact hN) (KE ρ σ i x d v (by rw [← hN]; exact hnd) hi hc.1 hp rd))
  · cases hb
theorem names_each {env : Env} : ∀ {es : List Expr} {ds : List D} {ρ ρ' : Rho}, bindNames scope es ds ρ = some ρ' → (assignEach es env).length = es.length ∧ (assignEach es env).findIdx? (·.1) = none ∧ es.length = ds.length
  | [], [], _, _, _ => ⟨rfl, rfl, rfl⟩
  | [], d :: ds, ρ, ρ', h => by simp [bindNames] at h
  | e :: es, [], ρ, ρ', h => by cases e <;> simp [bindNames] at h
  | e :: es, d :: ds, ρ, ρ', h => by
    cases e <;> try (simp [bindNames] at h; done)
    rename_i x pos
    simp only [bindNames] at h
    split at h
    · obtain ⟨h1, h2, h3⟩ := names_each (env := env) h
      refine ⟨by show (assignEach es env).length + 1 = _; rw [h1]; rfl, ?_, by simp [h3]⟩
      show ((false, assign (.Name x pos) env) :: assignEach es env).findIdx? (·.1) = none
      rw [List.findIdx?_cons]
      simp only [Bool.false_eq_true, if_false, h2]
      rfl
    · cases h
theorem bind_names (hO : Owns X scope) (hnd : X.N.Nodup) (KE : Keeps1 X.K Hs scope P) : ∀ {es : List Expr} {ds : List D} {vs : List V} {ρ ρ' : Rho} {σ : St}, X.N = ρ.map (·.1) → bindNames scope es ds ρ = some ρ' → P ρ σ → RepL X.K Hs ds vs → (∀ σ', X.N = ρ'.map (·.1) → P ρ' σ' → Q σ' H) → gsSem X es vs σ H Q
  | [], [], vs, ρ, ρ', σ, hN, h, hp, rd, hq => by
    simp only [bindNames, Option.some.injEq] at h
    subst h
    simp only [RepL] at rd
    exact PGs.sem pgs_nil ⟨rd, hq _ hN hp⟩
  | [], d :: ds, vs, ρ, ρ', σ, hN, h, hp, rd, hq => by simp [bindNames] at h
  | e :: es, [], vs, ρ, ρ', σ, hN, h, hp, rd, hq => by cases e <;> simp [bindNames] at h
  | e :: es, d :: ds, vs, ρ, ρ', σ, hN, h, hp, rd, hq => by
    cases e <;> try (simp [bindNames] at h; done)
    rename_i x pos
    simp only [bindNames] at h
    split at h
    · rename_i hc
      simp only [RepL] at rd
      obtain ⟨v, r, rfl, r1, r2⟩ := rd
      refine PGs.sem (pgs_cons pg_sem pgs_sem) ⟨v, r, rfl, ?_⟩
      exact bind_name hO hnd hN KE (ρ' := setR ρ x (.sh d)) (by rw [if_pos hc]) hp r1 fun σ' hN' hp' => bind_names hO hnd KE hN' h hp' r2 hq
    · cases h
theorem bind_ok {tg : Expr} {ρ ρ' : Rho} {σ : St} {d : D} {v : V} (hc : X.calm = true) (hO : Owns X scope) (hnd : X.N.Nodup) (hs : Same Hs H) (hN : X.N = ρ.map (·.1)) (KE : Keeps1 X.K Hs scope P) (hb : bindT scope tg d ρ = some ρ') (hp : P ρ σ) (rd : Rep X.K Hs d v)
    (hq : ∀ σ', X.N = ρ'.map (·.1) → P ρ' σ' → Q σ' H) : gSem X tg v σ H Q := by
  unfold bindT at hb
  split at hb
  · exact bind_name hO hnd hN KE hb hp rd hq
  · rename_i es k pos ds
    obtain ⟨a, vs, rfl, h1, h2⟩ := rep_tup rd
    obtain ⟨e1, e2, e3⟩ := names_each (env := X.env) hb
    exact PG.sem (pg_tup hc pgs_sem e1 e2) ⟨a, vs, rfl, hs.tup h1, by rw [← h2.length, e3], bind_names hO hnd KE hN hb hp h2 hq⟩
  · cases hb
end
/-! ### a comprehension's block -/
section
variable {X Xc : Cx} {scope sc : Scope} {cx : Cxt} {k : Nat} {ρ : Rho}
theorem nodupB_ok : ∀ {l : List Str}, nodupB l = true → l.Nodup
  | [], _ => .nil
  | x :: r, h => by
    unfold nodupB at h
    rw [Bool.and_eq_true] at h
    refine List.nodup_cons.mpr ⟨fun hm => ?_, nodupB_ok h.2⟩
    have : r.contains x = true := by simpa using hm
    rw [this] at h
    exact absurd h.1 (by decide)
theorem compOk_ok (G : Good cx k X sc) (h : compOk sc scope = true) : scope.kind = .function ∧ (scope.names.map (·.1)).Nodup ∧ ∀ x, (x, NameKind.free) ∈ scope.names → X.env.kindOf x = some .cell ∨ X.env.kindOf x = some .free := by
  unfold compOk at h
  rw [Bool.and_eq_true, Bool.and_eq_true] at h
  refine ⟨by simpa using h.1.1, nodupB_ok h.1.2, fun x hx => ?_⟩
  have := List.all_eq_true.mp h.2 _ hx
  show X.env.scope.names.lookup x = _ ∨ X.env.scope.names.lookup x = _
  rw [G.sce]
  simpa using this
theorem rel_eq (G : Good cx k X sc) : relabel scope X.env = relS scope sc := by
  unfold relabel relS Env.kindOf
  rw [G.sce]
theorem Good.comp (G : Good cx k X sc) (C : CompOf X scope Xc) (h : compOk sc scope = true) : Good cx k Xc (relS scope sc) where
  calm := C.calm
  room := by rw [C.A]; exact G.room
  sce := by rw [C.sc, rel_eq G]
  kind := (compOk_ok G h).1
  nd := by rw [C.N]; exact (compOk_ok G h).2.1
  cst := by rw [C.mg]; exact G.cst
  blt := by rw [C.mg]; exact G.blt
  fns := by rw [C.mg, C.prog, C.w, C.K, C.base]; exact G.fns
theorem Owns.comp (G : Good cx k X sc) (C : CompOf X scope Xc) : Owns Xc scope where
  own := fun x hx => by
    unfold ownIn at hx
    rw [Bool.or_eq_true] at hx
    have look : ∀ kd, scope.names.lookup x = some kd → kd ≠ .free → Xc.env.scope.names.lookup x = some kd := fun kd e hne => by
      rw [C.sc]
      show (scope.names.map _).lookup x = _
      rw [relabel_lookup, e]
      simp [hne]
    rcases hx with hx | hx
    · have e : scope.names.lookup x = some .local := by simpa using hx
      have e2 := look _ e (by decide)
      exact ⟨.inl e2, .inr e2⟩
    · have e : scope.names.lookup x = some .cell := by simpa using hx
      have e2 := look _ e (by decide)
      refine ⟨.inr e2, .inl ?_⟩
      rw [C.fn]
      show (scope.names.lookup x == some .cell) = true
      rw [e]; rfl
theorem compRho_names : (compRho scope ρ).map (·.1) = scope.names.map (·.1) := by
  unfold compRho
  rw [List.map_map]
  rfl
theorem compRho_rep {K : PySem.W.Frag} {Hs : Hp} {σ : St} {N : List Str} (hN : N = ρ.map (·.1)) (h : RepSt K Hs ρ σ) : RepSt K Hs (compRho scope ρ) (mkSt N scope.names σ) := by
  intro i x d e
  unfold compRho at e
  rw [List.getElem?_map] at e
  obtain ⟨p, e1, e2⟩ := Option.map_eq_some_iff.mp e
  cases hk : p.2 == NameKind.free with
  | false => rw [hk] at e2; simp at e2
  | true =>
    rw [hk] at e2
    simp only [if_true, Prod.mk.injEq] at e2
    obtain ⟨rfl, e2⟩ := e2
    have e3 : ρ.lookup p.1 = some (.sh d) := by
      cases q : ρ.lookup p.1 with
      | none => rw [q] at e2; simp [shOf] at e2
      | some sl =>
        rw [q] at e2
        cases sl <;> simp [shOf] at e2
        rw [e2]
    obtain ⟨j, g1, g2⟩ := lookup_ix e3
    obtain ⟨v, g3, g4⟩ := h j _ d g1
    refine ⟨v, ?_, g4⟩
    unfold mkSt
    rw [List.getElem?_map, e1]
    simp only [Option.map_some, hk, if_true]
    unfold slotOf
    rw [hN, g2]
    simp [g3]
noncomputable def CSt (K : PySem.W.Frag) (Hs : Hp) (n : Nat) (ρ0 : Rho) : Rho → St → Prop := fun ρ σ => σ.length = n ∧ RepSt K Hs ρ σ ∧ RepSt K Hs ρ0 σ
theorem repSt_set {K : PySem.W.Frag} {Hs : Hp} {ρ : Rho} {σ : St} {i : Nat} {x : Str} {d : D} {v : V} (hn : (ρ.map (·.1)).Nodup) (hi : (ρ.map (·.1))[i]? = some x) (hl : i < σ.length) (h : RepSt K Hs ρ σ) (r : Rep K Hs d v) : RepSt K Hs (setR ρ x (.sh d)) (σ.set i (some v)) := by
  intro j y d' e
  rw [setR_get hn hi j] at e
  split at e
  · rename_i hj
    subst hj
    cases e
    exact ⟨v, by rw [List.getElem?_set_self hl], r⟩
  · rename_i hj
    obtain ⟨w, h1, h2⟩ := h j y d' e
    exact ⟨w, by rw [List.getElem?_set_ne (fun z => hj z.symm)]; exact h1, h2⟩
theorem keeps_comp {K : PySem.W.Frag} {Hs : Hp} {n : Nat} (hnd : (scope.names.map (·.1)).Nodup) (hn : n = scope.names.length) : Keeps1 K Hs scope (fun ρ1 σ => ρ1.map (·.1) = scope.names.map (·.1) ∧ CSt K Hs n (compRho scope ρ) ρ1 σ) := by
  intro ρ1 σ i x d v h1 h2 h3 ⟨h4, h5, h6, h7⟩ r
  refine ⟨by rw [setR_names]; exact h4, by rw [List.length_set]; exact h5, ?_, ?_⟩
  · have hi : i < σ.length := by
      rw [h5, hn]
      have := (List.getElem?_eq_some_iff.mp h2).1
      rw [h4] at this
      simpa using this
    exact repSt_set h1 h2 hi h6 r
  · intro j y d' e
    obtain ⟨w, g1, g2⟩ := h7 j y d' e
    refine ⟨w, ?_, g2⟩
    have hj : i ≠ j := by
      intro z
      subst z
      rw [h4] at h2
      unfold compRho at e
      rw [List.getElem?_map] at e
      rw [List.getElem?_map] at h2
      obtain ⟨p, e1, e2⟩ := Option.map_eq_some_iff.mp e
      rw [e1] at h2
      have ex : p.1 = x := by simpa using h2
      cases hk : p.2 == NameKind.free with
      | false => rw [hk] at e2; simp at e2
      | true =>
        have ek : p.2 = .free := by simpa using hk
        have hm := List.mem_of_getElem? e1
        have := lookup_nodup (c := p.2) hnd (by rw [show p = (x, p.2) from by rw [← ex]] at hm; exact hm)
        unfold ownIn at h3
        rw [this, ek] at h3
        exact absurd h3 (by decide)
    rw [List.getElem?_set_ne hj]
    exact g1
/-! ### its tests -/
noncomputable def ifSem (X : Cx) (ifs : List Expr) : TT := fun σ H Q => ∀ pins s, Inv X pins σ H s → wpAny (model X.prog X.w) X.A (forIn ifs true fun c r => if r = true then do let ok ← isTrue c X.env (eval c X.env); pure (ForInStep.yield ok) else pure (ForInStep.yield r)) (TP X pins σ Q) X.xe s
theorem pifs_sem {ifs : List Expr} : PIfs X ifs (ifSem X ifs) := fun pins s σ H Q I h => h pins s I
theorem PIfs.sem {ifs : List Expr} {t : TT} {σ : St} {H : Hp} {Q : Bool → Hp → Prop} (h : PIfs X ifs t) (q : t σ H Q) : ifSem X ifs σ H Q := fun pins s I => h pins s σ H Q I q
theorem ev_ifs {f : Expr → Option D} {ifs : List Expr} {b : Bool} (hf : ∀ e d, f e = some d → Ev X ρ e d ∧ ∀ b, d = .bl b → EvT X ρ e b) (h : ifsGo f ifs = some b) {σ : St} {H Hs : Hp} {Q : Bool → Hp → Prop} (hs : Same Hs H) (hst : RepSt X.K Hs ρ σ) (hq : ∀ H' Hs', Ext Hs H Hs' H' → Q b H') : ifSem X ifs σ H Q := by
  unfold ifsGo at h
  split at h
  · cases h
    exact PIfs.sem pifs_nil (hq H Hs (.refl hs))
  · rename_i c
    cases hc : f c with
    | none => rw [hc] at h; cases h
    | some d =>
      rw [hc] at h
      cases d <;> simp [asB] at h
      subst h
      exact PIfs.sem (pifs_one pt_sem) ((hf c _ hc).2 _ rfl σ H Hs Q hs hst hq)
  · cases h
theorem Ext.acc {Hs H Hs' H' : Hp} {acc : Addr} {o : HO} (E : Ext Hs H Hs' H') (h : H acc = none) (h' : Hs' acc = none) : Ext Hs H Hs' (upd H' acc o) where
  vis := E.vis
  all := fun b u e => by rw [upd_ne (ne_of_none e h)]; exact E.all b u e
  sub := fun b u e => by rw [upd_ne (ne_of_none e h')]; exact E.sub b u e
  hid := E.hid
theorem compGo_cons {f : D → Option (Option D)} {d : D} {r out : List D} (h : compGo f (d :: r) = some out) : (∃ v o', f d = some (some v) ∧ compGo f r = some o' ∧ out = v :: o') ∨ (f d = some none ∧ compGo f r = some out) := by
  simp only [compGo, bind, Option.bind] at h
  cases hf : f d with
  | none => rw [hf] at h; cases h
  | some o =>
    rw [hf] at h
    cases o with
    | none => exact .inr ⟨rfl, h⟩
    | some v =>
      simp only [Option.map_eq_some_iff] at h
      obtain ⟨o', h1, rfl⟩ := h
      exact .inl ⟨v, o', rfl, h1, rfl⟩
noncomputable def compF (cx : Cxt) (n : Nat) (sc scope : Scope) (ρ : Rho) (tg elt : Expr) (ifs : List Expr) : D → Option (Option D) := fun d => do
  let ρ1 ← bindT scope tg d (compRho scope ρ)
  let b ← ifsGo (ev cx n (relS scope sc) ρ1) ifs
  if b then (ev cx n (relS scope sc) ρ1 elt).map some else some none
theorem comp_read {tg iter elt : Expr} {ifs : List Expr} {l out : List D} {n : Nat} (G : Good cx k X sc) (hN : X.N = ρ.map (·.1)) (hok : compOk sc scope = true) (hI : EvI X ρ tg iter l) (hz : szl l.length = true) (hgo : compGo (compF cx n sc scope ρ tg elt ifs) l = some out)
    (hE : ∀ Xc, CompOf X scope Xc → ∀ ρ1 : Rho, Xc.N = ρ1.map (·.1) → ∀ e d, ev cx n (relS scope sc) ρ1 e = some d → Ev Xc ρ1 e d ∧ ∀ b, d = .bl b → EvT Xc ρ1 e b)
    {σ : St} {H Hs : Hp} {Q : VK} (hs : Same Hs H) (hst : RepSt X.K Hs ρ σ) (hq : ∀ acc vs Hs' H', Ext Hs H Hs' H' → H acc = none → Hs' acc = none → H' acc = some (.lst vs) → RepL X.K Hs' out vs → Q (.ref acc) H') :
    tComp X scope (tSemI X tg iter) (mkSt X.N scope.names) (fun Xc => gSem Xc tg) (fun Xc => ifSem Xc ifs) (fun Xc => tSem Xc elt) σ H Q := by
  obtain ⟨ok1, ok2, ok3⟩ := compOk_ok G hok
  refine hI σ H Hs _ hs hst fun J H1 Hs1 E1 hJ acc hacc Xc C => ?_
  have GC := G.comp C hok
  have OC := Owns.comp (scope := scope) G C
  have hNc : ∀ ρ1 : Rho, ρ1.map (·.1) = scope.names.map (·.1) → Xc.N = ρ1.map (·.1) := fun ρ1 h => by rw [C.N, h]
  have a1 : Hs1 acc = none := E1.sub.free hacc
  have a0 : H acc = none := E1.all.free hacc
  let W : Nat → Nat → St → Hp → Prop := fun i m σc H => m = l.length - i ∧ i ≤ l.length ∧ ∃ Hs3 ys pre rest, Ext Hs1 H1 Hs3 H ∧ Hs3 acc = none ∧ H acc = some (.lst ys) ∧ RepL X.K Hs3 pre ys ∧ compGo (compF cx n sc scope ρ tg elt ifs) (l.drop i) = some rest ∧ pre ++ rest = out ∧ pre.length ≤ i ∧ σc.length = scope.names.length ∧ RepSt X.K Hs3 (compRho scope ρ) σc
  refine ⟨W, ⟨l.length, rfl, Nat.zero_le _, Hs1, [], [], out, Ext.acc (.refl E1.sub) hacc a1, a1, upd_same, .nil, by simpa using hgo, rfl, Nat.le_refl _, by simp [mkSt], compRho_rep hN (hst.same E1.vis)⟩, ?_⟩
  rintro i m σc H3 ⟨rfl, hi, Hs3, ys, pre, rest, E3, b3, c3, r3, g3, p3, q3, l3, s3⟩
  obtain ⟨st3, go3⟩ := hJ Hs3 H3 E3.vis E3.sub
  by_cases hlt : i < l.length
  · have hd : l[i]? = some l[i] := List.getElem?_eq_getElem hlt
    obtain ⟨gi, yi⟩ := go3 i l[i] hd
    refine .inr ⟨gi, fun σ' H' => W (i + 1) (l.length - (i + 1)) σ' H', fun σ' H' w => ⟨_, by omega, w⟩, fun x H4 y4 => ?_⟩
    obtain ⟨Hs4, E4, rx⟩ := yi x H4 y4
    have b4 : Hs4 acc = none := E4.hid acc _ c3 b3
    have c4 : H4 acc = some (.lst ys) := E4.all _ _ c3
    rw [List.drop_eq_getElem_cons hlt] at g3
    have key : ∃ ρ1, bindT scope tg l[i] (compRho scope ρ) = some ρ1 ∧ ∃ b, ifsGo (ev cx n (relS scope sc) ρ1) ifs = some b ∧ ((b = true ∧ ∃ v o', ev cx n (relS scope sc) ρ1 elt = some v ∧ compGo (compF cx n sc scope ρ tg elt ifs) (l.drop (i + 1)) = some o' ∧ rest = v :: o') ∨ (b = false ∧ compGo (compF cx n sc scope ρ tg elt ifs) (l.drop (i + 1)) = some rest)) := by
      have inv : ∀ o, compF cx n sc scope ρ tg elt ifs l[i] = some o → ∃ ρ1, bindT scope tg l[i] (compRho scope ρ) = some ρ1 ∧ ∃ b, ifsGo (ev cx n (relS scope sc) ρ1) ifs = some b ∧ (if b then (ev cx n (relS scope sc) ρ1 elt).map some else some none) = some o := by
        intro o h
        obtain ⟨ρ1, h1, h⟩ := obind h
        obtain ⟨b, h2, h⟩ := obind h
        exact ⟨ρ1, h1, b, h2, h⟩
      rcases compGo_cons g3 with ⟨v, o', f1, f2, f3⟩ | ⟨f1, f2⟩
      · obtain ⟨ρ1, h1, b, h2, h3⟩ := inv _ f1
        refine ⟨ρ1, h1, b, h2, ?_⟩
        cases b with
        | false => simp at h3
        | true =>
          simp only [if_true, Option.map_eq_some_iff] at h3
          obtain ⟨w, h3, h4⟩ := h3
          have h5 : w = v := Option.some.inj h4
          subst h5
          exact .inl ⟨rfl, w, o', h3, f2, f3⟩
      · obtain ⟨ρ1, h1, b, h2, h3⟩ := inv _ f1
        refine ⟨ρ1, h1, b, h2, ?_⟩
        cases b with
        | true => simp at h3
        | false => exact .inr ⟨rfl, f2⟩
    obtain ⟨ρ1, k1, b, k2, k3⟩ := key
    have s4 : RepSt X.K Hs4 (compRho scope ρ) σc := s3.same E4.vis
    have KE := keeps_comp (K := Xc.K) (Hs := Hs4) (ρ := ρ) (n := scope.names.length) ok2 rfl
    refine bind_ok (X := Xc) (scope := scope) (Hs := Hs4) GC.calm OC GC.nd E4.sub (hNc _ compRho_names) KE k1 ⟨compRho_names, l3, by rw [C.K]; exact s4, by rw [C.K]; exact s4⟩ (by rw [C.K]; exact rx) fun σ5 hN5 p5 => ?_
    obtain ⟨_, l5, s5, s5'⟩ := p5
    have hev := hE Xc C ρ1 hN5
    refine ev_ifs hev k2 E4.sub s5 fun H6 Hs6 E6 => ?_
    have b6 : Hs6 acc = none := E6.hid acc _ c4 b4
    have c6 : H6 acc = some (.lst ys) := E6.all _ _ c4
    have s6 : RepSt X.K Hs6 (compRho scope ρ) σ5 := by rw [← C.K]; exact s5'.same E6.vis
    rcases k3 with ⟨rfl, v, o', k3, k4, k5⟩ | ⟨rfl, k3⟩
    · refine iteT ((hev elt v k3).1 σ5 H6 Hs6 _ E6.sub (s5.same E6.vis) fun w H7 Hs7 E7 r7 => ?_)
      have b7 : Hs7 acc = none := E7.hid acc _ c6 b6
      have c7 : H7 acc = some (.lst ys) := E7.all _ _ c6
      refine ⟨ys, c7, ?_, rfl, hlt, Hs7, ys ++ [w], pre ++ [v], o', Ext.acc (E3.trans (E4.trans (E6.trans E7))) hacc b7, b7, upd_same, ?_, k4, ?_, by simp; omega, l5, s6.same E7.vis⟩
      · have := r3.length
        have := szl_lt hz
        omega
      · rw [← C.K]
        refine RepL.append ?_ (.cons r7 .nil)
        rw [C.K]
        exact RepL.same (E4.trans (E6.trans E7)).vis pre ys r3
      · rw [← p3, k5]; simp
    · refine iteF ?_
      exact ⟨rfl, hlt, Hs6, ys, pre, rest, E3.trans (E4.trans E6), b6, c6, RepL.same (E4.trans E6).vis pre ys r3, k3, p3, by omega, l5, s6⟩
  · have hi' : i = l.length := by omega
    subst hi'
    refine .inl ⟨st3, ?_⟩
    rw [List.drop_length] at g3
    simp only [compGo, Option.some.injEq] at g3
    subst g3
    rw [List.append_nil] at p3
    subst p3
    exact hq acc ys Hs3 H3 (E1.trans E3) a0 b3 c3 r3
end
end L2

set_option Elab.async false
set_option linter.all false
set_option maxRecDepth 100000
namespace L2
open PySem PySem.Spec PyProof.Rows DE PySem.SeqAt
theorem Ext.shown {Hs H Hs' H' : Hp} {acc : Addr} {o : HO} (E : Ext Hs H Hs' H') (h : H acc = none) (h1 : Hs' acc = none) (h2 : H' acc = some o) : Ext Hs H (upd Hs' acc o) H' where
  vis := fun b u e => by rw [upd_ne (ne_of_none (E.vis b u e) h1)]; exact E.vis b u e
  all := E.all
  sub := fun b u e => by
    by_cases hb : b = acc
    · subst hb; rw [upd_same] at e; rw [h2]; exact e
    · rw [upd_ne hb] at e; exact E.sub b u e
  hid := fun b u e n => by rw [upd_ne (ne_of_none e h)]; exact E.hid b u e n
section
variable {X : Cx} {ρ : Rho} {cx : Cxt} {k : Nat} {sc scope : Scope}
theorem ev_comp {tg iter elt : Expr} {ifs : List Expr} {l out : List D} {n : Nat} {pos : Pos} (G : Good cx k X sc) (hN : X.N = ρ.map (·.1)) (hok : compOk sc scope = true) (hI : EvI X ρ tg iter l) (hp : plainE iter = true) (hz : szl l.length = true) (hgo : compGo (compF cx n sc scope ρ tg elt ifs) l = some out)
    (hE : ∀ Xc, CompOf X scope Xc → ∀ ρ1 : Rho, Xc.N = ρ1.map (·.1) → ∀ e d, ev cx n (relS scope sc) ρ1 e = some d → Ev Xc ρ1 e d ∧ ∀ b, d = .bl b → EvT Xc ρ1 e b) :
    Ev X ρ (.ListComp elt [⟨tg, iter, ifs, 0⟩] scope pos) (.lst out) := by
  obtain ⟨ok1, ok2, ok3⟩ := compOk_ok G hok
  intro σ H Hs Q hs hst hq
  refine PE.sem (pe_comp G.calm ok1 ok2 ok3 pi_sem (fun Xc C => ⟨pg_sem, pifs_sem, pe_sem⟩) (plain_set hp)) (comp_read G hN hok hI hz hgo hE hs hst fun acc vs Hs' H' E1 h1 h2 h3 r => ?_)
  have E2 := E1.shown h1 h2 h3
  refine hq _ H' _ E2 ?_
  simp only [Rep]
  refine ⟨acc, vs, rfl, .of upd_same, RepL.same (fun b u e => ?_) out vs r⟩
  rw [upd_ne (ne_of_none e h2)]; exact e
/-! ### what is walked -/
noncomputable def WkP (cx : Cxt) (sc : Scope) (e : Expr) : Wk → Prop
    | .r1 a => ∃ x p pos, e = .Call (.Name x p) [a] [] pos ∧ bltOf cx sc x = some "range"
    | .r2 a b => ∃ x p pos, e = .Call (.Name x p) [a, b] [] pos ∧ bltOf cx sc x = some "range"
    | .sq => True
theorem wk_ok {e : Expr} : WkP cx sc e (wkOf cx sc e) := by
  unfold wkOf
  split
  · rename_i x p args pos
    split
    · rename_i h
      split
      · exact ⟨x, p, pos, rfl, h⟩
      · exact ⟨x, p, pos, rfl, h⟩
      · trivial
    · trivial
  · trivial
theorem asI_some {x : Option D} {i : Int} (h : x.bind asI = some i) : x = some (.int i) := by
  obtain ⟨d, h1, h2⟩ := obind (show (x >>= asI) = some i from h)
  cases d <;> simp [asI] at h2
  subst h2; exact h1
theorem asB_some {x : Option D} {i : Bool} (h : x.bind asB = some i) : x = some (.bl i) := by
  obtain ⟨d, h1, h2⟩ := obind (show (x >>= asB) = some i from h)
  cases d <;> simp [asB] at h2
  subst h2; exact h1
theorem evI_ok {f : Expr → Option D} {tg e : Expr} {l : List D} (G : Good cx k X sc) (hf : ∀ e d, f e = some d → Ev X ρ e d ∧ plainE e = true) (h : evI cx (isTupE tg) f sc e = some l) : EvI X ρ tg e l ∧ plainE e = true := by
  unfold evI at h
  have w := wk_ok (cx := cx) (sc := sc) (e := e)
  split at h
  · rename_i a hw
    rw [hw] at w
    obtain ⟨x, p, pos, rfl, hx⟩ := w
    obtain ⟨j, h1, h⟩ := obind h
    split at h
    · rename_i hj
      cases h
      obtain ⟨ha, hp⟩ := hf _ _ (asI_some h1)
      exact ⟨evI_range1 G hx ha hp hj, rfl⟩
    · cases h
  · rename_i a b hw
    rw [hw] at w
    obtain ⟨x, p, pos, rfl, hx⟩ := w
    obtain ⟨i, h1, h⟩ := obind h
    obtain ⟨j, h2, h⟩ := obind h
    split at h
    · rename_i hj
      cases h
      rw [Bool.and_eq_true] at hj
      obtain ⟨ha, hp⟩ := hf _ _ (asI_some h1)
      obtain ⟨hb, hpb⟩ := hf _ _ (asI_some h2)
      exact ⟨evI_range2 G hx ha hp hb hpb hj.1 hj.2, rfl⟩
    · cases h
  · obtain ⟨d, h1, h2⟩ := obind (show (f e >>= items) = some l from h)
    obtain ⟨ha, hp⟩ := hf _ _ h1
    exact ⟨evI_seq ha h2, hp⟩
theorem tyOf_ok {t : Expr} {T : String} (h : tyOf cx sc t = some T) : ∃ x p, t = .Name x p ∧ bltOf cx sc x = some T := by
  unfold tyOf at h
  split at h
  · exact ⟨_, _, rfl, h⟩
  · cases h
noncomputable def WcP (cx : Cxt) (sc : Scope) (b : String) (args : List Expr) : Wc → Prop
    | .lr1 a => ∃ x p pos, args = [.Call (.Name x p) [a] [] pos] ∧ bltOf cx sc x = some "range" ∧ b = "list"
    | .lr2 a a' => ∃ x p pos, args = [.Call (.Name x p) [a, a'] [] pos] ∧ bltOf cx sc x = some "range" ∧ b = "list"
    | .al => True
theorem wc_ok {b : String} {args : List Expr} : WcP cx sc b args (wcOf cx sc b args) := by
  unfold wcOf
  split
  · rename_i e
    have w := wk_ok (cx := cx) (sc := sc) (e := e)
    split
    · rename_i hw
      rw [hw] at w
      obtain ⟨x, p, pos, rfl, hx⟩ := w
      exact ⟨x, p, pos, rfl, hx, rfl⟩
    · rename_i hw
      rw [hw] at w
      obtain ⟨x, p, pos, rfl, hx⟩ := w
      exact ⟨x, p, pos, rfl, hx, rfl⟩
    · trivial
  · trivial
end
theorem ev_ok (cx : Cxt) : ∀ (n : Nat) {k : Nat} {X : Cx} {sc : Scope} {ρ : Rho} {e : Expr} {d : D}, Good cx k X sc → X.N = ρ.map (·.1) → ev cx n sc ρ e = some d → Ev X ρ e d ∧ ∀ b, d = .bl b → EvT X ρ e b
  | 0, k, X, sc, ρ, e, d, _, _, h => by simp [ev] at h
  | n + 1, k, X, sc, ρ, e, d, G, hN, h => by
    have ih : ∀ e d, ev cx n sc ρ e = some d → Ev X ρ e d ∧ ∀ b, d = .bl b → EvT X ρ e b := fun e d h => ev_ok cx n G hN h
    have ihp : ∀ e d, ev cx n sc ρ e = some d → Ev X ρ e d ∧ plainE e = true := fun e d h => ⟨(ih e d h).1, ev_plain h⟩
    have val : ∀ {e d}, (∀ whole, isTrue e X.env whole = (do let v ← whole; standAt e.pos; holding [v] (truthy v))) → Ev X ρ e d → Ev X ρ e d ∧ ∀ b, d = .bl b → EvT X ρ e b := fun he h1 => ⟨h1, fun b hb => by subst hb; exact evT_val h1 he⟩
    cases e with
    | Name x pos =>
      simp only [ev] at h
      split at h
      · rename_i hp
        refine val (fun _ => rfl) ?_
        have fin : ∀ kd, sc.names.lookup x = some kd → (kd = .local ∨ kd = .cell ∨ kd = .free) → (match ρ.lookup x with | some (.sh d) => some d | _ => none) = some d → Ev X ρ (.Name x pos) d := by
          intro kd hk hkd hm
          split at hm
          · rename_i d' hl
            cases hm
            refine ev_name hN ?_ hp hl
            unfold Vis
            rw [G.sce, hk]
            rcases hkd with rfl | rfl | rfl
            · exact .inl rfl
            · exact .inr (.inl rfl)
            · exact .inr (.inr rfl)
          · cases hm
        split at h
        · rename_i hk; exact fin _ hk (.inl rfl) h
        · rename_i hk; exact fin _ hk (.inr (.inl rfl)) h
        · rename_i hk; exact fin _ hk (.inr (.inr rfl)) h
        · rename_i hk
          obtain ⟨i, u, rfl, h1, h2⟩ := G.cst x d h
          exact ev_cst (show X.env.scope.names.lookup x = _ by rw [G.sce]; exact hk) h1 h2 hp
        · cases h
      · cases h
    | Constant c j pos =>
      simp only [ev] at h
      exact val (fun _ => rfl) (ev_const h)
    | BinOp a op b pos =>
      simp only [ev] at h
      obtain ⟨x, h1, h⟩ := obind h
      obtain ⟨y, h2, h⟩ := obind h
      exact val (fun _ => rfl) (ev_binop (ih _ _ h1).1 (ih _ _ h2).1 h)
    | UnaryOp op a pos =>
      simp only [ev] at h
      obtain ⟨x, h1, h⟩ := obind h
      cases op <;> simp only [Option.map_eq_some_iff] at h <;> try (cases h; done)
      · obtain ⟨b, h2, rfl⟩ := h
        cases x <;> simp [asB] at h2
        subst h2
        refine ⟨ev_not (ih _ _ h1).1, fun c hc => ?_⟩
        cases hc
        exact evT_not ((ih _ _ h1).2 _ rfl)
      · obtain ⟨i, h2, rfl⟩ := h
        cases x <;> simp [asI] at h2
        subst h2
        exact val (fun _ => rfl) (ev_neg (ih _ _ h1).1)
    | BoolOp op es pos =>
      simp only [ev] at h
      obtain ⟨h1, h2⟩ := ev_boolop (pos := pos) (fun e _ d hd => ih e d hd) h
      exact ⟨h1, fun b hb => (h2 b hb).t⟩
    | Compare a ops bs pos =>
      simp only [ev] at h
      split at h
      · obtain ⟨x, h1, h⟩ := obind h
        obtain ⟨y, h2, h⟩ := obind h
        exact ev_cmp1 G.room (ih _ _ h1).1 (ih _ _ h2).1 (ev_plain h2) h
      · split at h
        · cases h
        rename_i e3 hpl
        have hpl' : plainE e3 = true := by simpa using hpl
        obtain ⟨x, h1, h⟩ := obind h
        obtain ⟨y, h2, h⟩ := obind h
        obtain ⟨c, h3, h⟩ := obind h
        have h3' := asB_some h3
        cases c with
        | false =>
          simp only [Bool.false_eq_true, if_false, Option.some.injEq] at h
          subst h
          exact ev_cmp2 G.room (ih _ _ h1).1 (ih _ _ h2).1 hpl' h3' ⟨fun q => (nomatch q), fun _ => rfl⟩
        | true =>
          simp only [if_true] at h
          obtain ⟨z, h4, h⟩ := obind h
          exact ev_cmp2 G.room (ih _ _ h1).1 (ih _ _ h2).1 (ev_plain h4) h3' ⟨fun _ => ⟨z, (ih _ _ h4).1, h⟩, fun q => nomatch q⟩
      · cases h
    | IfExp c a b pos =>
      simp only [ev] at h
      obtain ⟨t, h1, h⟩ := obind h
      have h1' := (ih _ _ (asB_some h1)).2 _ rfl
      cases t with
      | true =>
        simp only [if_true] at h
        refine ⟨ev_if h1' (fun _ => (ih _ _ h).1) (fun q => nomatch q), fun r hr => evT_if h1' (fun _ => (ih _ _ h).2 r hr) (fun q => nomatch q)⟩
      | false =>
        simp only [Bool.false_eq_true, if_false] at h
        refine ⟨ev_if h1' (fun q => nomatch q) (fun _ => (ih _ _ h).1), fun r hr => evT_if h1' (fun q => nomatch q) (fun _ => (ih _ _ h).2 r hr)⟩
    | Tuple es j pos =>
      simp only [ev] at h
      obtain ⟨ds, h1, h⟩ := obind h
      split at h
      · rename_i hz
        cases h
        exact val (fun _ => rfl) (ev_tuple (ev_args (fun e _ d hd => ihp e d hd) h1).1 hz)
      · cases h
    | List es pos =>
      simp only [ev] at h
      obtain ⟨ds, h1, h⟩ := obind h
      split at h
      · rename_i hz
        cases h
        exact val (fun _ => rfl) (ev_list (ev_args (fun e _ d hd => ihp e d hd) h1).1 hz)
      · cases h
    | Subscript a b pos =>
      simp only [ev] at h
      obtain ⟨x, h1, h⟩ := obind h
      split at h
      · split at h
        · obtain ⟨l, h2, h⟩ := obind h
          obtain ⟨u, h3, h⟩ := obind h
          have hl : ∀ {o : Option Expr} {l : Option Int}, (match o with | none => some none | some e => (ev cx n sc ρ e).bind fun d => (asI d).map some) = some l → EvO X ρ o l := by
            intro o l h2
            cases o with
            | none => cases h2; exact evO_none
            | some e =>
              simp only at h2
              obtain ⟨d', g1, g2⟩ := Option.bind_eq_some_iff.mp h2
              obtain ⟨i, g3, rfl⟩ := Option.map_eq_some_iff.mp g2
              cases d' <;> simp [asI] at g3
              subst g3
              exact evO_some (ih _ _ g1).1
          split at h
          · rename_i xs
            split at h
            · cases h
            · rename_i hw
              cases h
              refine val (fun _ => rfl) (ev_slice (ih _ _ h1).1 (hl h2) (hl h3) fun q => hw ?_)
              rw [q.1, q.2]
              simp
          · cases h
        · cases h
      · obtain ⟨i, h2, h⟩ := obind h
        obtain ⟨xs, h3, h⟩ := obind h
        have h2' := asI_some h2
        exact val (fun _ => rfl) (ev_index (ih _ _ h1).1 (ih _ _ h2').1 (ev_plain h2') h3 h)
    | Call f args kws pos =>
      refine val (fun _ => rfl) ?_
      simp only [ev] at h
      split at h
      · rename_i x p
        split at h
        · rename_i hg
          have hb : ∀ {b}, cx.blt.lookup x = some b → bltOf cx sc x = some b := fun q => by unfold bltOf; rw [if_pos hg]; exact q
          split at h
          · rename_i hx
            split at h
            · obtain ⟨d', h1, h⟩ := obind h
              obtain ⟨T, h2, h⟩ := obind h
              split at h
              · rename_i hk
                cases h
                obtain ⟨t, pt, rfl, ht⟩ := tyOf_ok h2
                exact ev_isi G (hb hx) ht hk (ih _ _ h1).1 (ev_plain h1)
              · cases h
            · cases h
          · rename_i b _ hx
            have wc := wc_ok (cx := cx) (sc := sc) (b := b) (args := args)
            split at h
            · rename_i a hw
              rw [hw] at wc
              obtain ⟨y, q, q', rfl, hy, rfl⟩ := wc
              obtain ⟨j, h1, h⟩ := obind h
              split at h
              · rename_i hz
                rw [Bool.and_eq_true] at hz
                cases h
                have h1' := asI_some h1
                exact ev_lrange1 G (hb hx) hy (ih _ _ h1').1 (ev_plain h1') hz.1 hz.2
              · cases h
            · rename_i a a' hw
              rw [hw] at wc
              obtain ⟨y, q, q', rfl, hy, rfl⟩ := wc
              obtain ⟨i, h1, h⟩ := obind h
              obtain ⟨j, h2, h⟩ := obind h
              split at h
              · rename_i hz
                rw [Bool.and_eq_true, Bool.and_eq_true] at hz
                cases h
                have h1' := asI_some h1
                have h2' := asI_some h2
                exact ev_lrange2 G (hb hx) hy (ih _ _ h1').1 (ev_plain h1') (ih _ _ h2').1 (ev_plain h2') hz.1.1 hz.1.2 hz.2
              · cases h
            · split at h
              · cases h
              · rename_i hne
                obtain ⟨ds, h1, h2⟩ := obind h
                obtain ⟨ha, hp⟩ := ev_args (fun e _ d hd => ihp e d hd) h1
                cases args with
                | nil => exact absurd rfl hne
                | cons e es => exact ev_bcall G (hb hx) ha hp h2
          · split at h
            · rename_i hf
              rw [Bool.and_eq_true] at hf
              obtain ⟨ds, h1, h⟩ := obind h
              obtain ⟨ha, hp⟩ := ev_args (fun e _ d hd => ihp e d hd) h1
              have hgl : Gl X x := by
                have e : sc.names.lookup x = some .globalImplicit := by unfold isGl at hg; simpa using hg
                show X.env.scope.names.lookup x = _
                rw [G.sce, e]
              refine ev_call G hgl hf.1 (fun q => ?_) ha hp h
              rw [q] at hf
              exact absurd hf.2 (by decide)
            · cases h
        · cases h
      · cases h
    | ListComp elt gens scope pos =>
      refine val (fun _ => rfl) ?_
      simp only [ev] at h
      split at h
      · rename_i tg iter ifs a
        split at h
        · rename_i hok
          rw [Bool.and_eq_true] at hok
          have ea : a = 0 := by simpa using hok.1
          subst ea
          obtain ⟨l, h1, h⟩ := obind h
          split at h
          · rename_i hz
            obtain ⟨out, h2, h⟩ := obind h
            cases h
            obtain ⟨hI, hp⟩ := evI_ok (tg := tg) G ihp h1
            exact ev_comp G hN hok.2 hI hp hz h2 fun Xc C ρ1 hN1 e d he => ev_ok cx n (G.comp C hok.2) hN1 he
          · cases h
        · cases h
      · cases h
    | _ => simp [ev] at h
end L2

set_option Elab.async false
set_option linter.all false
set_option maxRecDepth 100000
namespace L2
open PySem PySem.Spec PyProof.Rows DE PySem.SeqAt
/-! ### a list unpacked -/
section
variable {prog : Program} {w : World} {A : Around} {E : Value → Shared → Prop}
theorem drawn_list {it t : Addr} {xs : List Value} (apart : t ≠ it) : ∀ (more i : Nat) (s : Shared) (Q : List Value → Shared → Prop), s.heap.IsListIter it t i → s.heap.IsList t xs.toArray → i + more ≤ xs.length →
    (∀ h', h'.IsListIter it t (i + more) → Heap.SameBut it s.heap h' → Q ((xs.drop i).take more) { s with heap := h' }) → wpAny (model prog w) A (draw (.ref it) more) Q E s
  | 0, i, s, Q, it0, _, _, q => by
    show wpAny _ _ (pure []) _ _ _
    exact wpAny_pure (by simpa using q s.heap it0 (Heap.SameBut.refl ..))
  | more + 1, i, s, Q, it0, hl, hle, q => by
    have lt : i < xs.length := by omega
    show wpAny _ _ (pyNext (.ref it) >>= _) _ _ _
    refine wpAny_bind (wpAny_pyNext_list_item it0 hl (x := xs[i]) (by simp [lt]) fun h1 st1 sb1 => ?_)
    have hl1 : h1.IsList t xs.toArray := by
      obtain ⟨o, e, r⟩ := hl
      exact ⟨o, (sb1.2 t apart).trans e, r⟩
    refine wpAny_bind (wpAny_holding (drawn_list apart more (i + 1) _ _ st1 hl1 (by omega) fun h2 st2 sb2 => wpAny_pure ?_))
    have z := q h2 (by rw [show i + (more + 1) = i + 1 + more by omega]; exact st2) (sb1.trans sb2)
    rw [List.drop_eq_getElem_cons lt, List.take_succ_cons] at z
    exact z
theorem unpacked_list {s : Shared} {t : Addr} {xs : List Value} {Q : List Value → Shared → Prop} (hh : A.handled = none) (hl : s.heap.IsList t xs.toArray) (q : ∀ h', (∀ b o, s.heap.get? b = some o → h'.get? b = some o) → Q xs { s with heap := h' }) :
    wpAny (model prog w) A (unpackItems (.ref t) xs.length none) Q E s := by
  have apart : t ≠ s.heap.objs.size := by obtain ⟨o, e, _⟩ := hl; exact Nat.ne_of_lt (Heap.lt_size e)
  have keep : ∀ {h' : Heap}, (∀ b o, b ≠ s.heap.objs.size → s.heap.get? b = some o → h'.get? b = some o) → ∀ b o, s.heap.get? b = some o → h'.get? b = some o := fun k b o e => k b o (Nat.ne_of_lt (Heap.lt_size e)) e
  have pushed : ∀ (n : Obj), (s.heap.push n).IsList t xs.toArray := fun n => by
    obtain ⟨o, e, r⟩ := hl
    exact ⟨o, Heap.get?_push_of_some _ e, r⟩
  simp only [unpackItems, notIterableAtAll]
  refine wpAny_bind (wpAny_bind (wpAny_specialOf hl.typeIs PySem.slot_list_iter.lookup (wpAny_pure ?_)))
  simp only [Bool.false_eq_true, if_false, Option.isNone_some, Bool.not_true, Bool.false_and]
  refine wpAny_bind (wpAny_holding (wpAny_pyIter_list hl ?_))
  refine wpAny_bind (wpAny_holding (drawn_list apart xs.length 0 _ _ ⟨_, Heap.get?_push_size _ rfl, rfl, rfl⟩ (pushed _) (by omega) fun h1 st1 sb1 => ?_))
  have all : List.take xs.length (List.drop 0 xs) = xs := by simp
  rw [all, if_neg (by simp)]
  have hl1 : h1.IsList t xs.toArray := by
    obtain ⟨o, e, r⟩ := pushed { cls := .type "list_iterator", data := .fields #[.ref t, .int 0 0] }
    exact ⟨o, (sb1.2 t apart).trans e, r⟩
  refine wpAny_bind (wpAny_holding (wpAny_pyNext_list_end hh st1 hl1 (by simp) fun h2 eb => ?_))
  simp only [Option.isSome_none, Bool.false_eq_true, if_false]
  exact wpAny_pure (q h2 (keep fun b o hb e => eb b o hb ((sb1.2 b hb).trans (Heap.get?_push_of_some _ e))))
end
section
variable {X : Cx} {es : List Expr} {k : Nat} {t : TGs} {n : Nat} {pos : Pos}
noncomputable def gLst (K : PySem.W.Frag) (n : Nat) (t : TGs) : TG := fun v σ H Q => ∃ a xs, v = .ref a ∧ SqL K H a xs ∧ xs.length = n ∧ t xs σ H Q
theorem pg_lst (hc : X.calm = true) (h : PGs X es t) (hn : (assignEach es X.env).length = n) (hst : (assignEach es X.env).findIdx? (·.1) = none) : PG X (.Tuple es k pos) (gLst X.K n t) := by
  intro pins s σ H v u Q I r hw
  obtain ⟨a, xs, rfl, hq, hl, hw⟩ := hw
  cases (show u = Value.ref a from r)
  obtain ⟨its, rv, pl, hz⟩ := I.list hq
  have e : (assignEach es X.env).length = its.length := by rw [hn, ← hl, rv.length]
  rw [assign_Tuple]
  refine wpAny_bind (wpAny_standAt ?_)
  unfold unpack
  rw [hst, e]
  refine wpAny_bind (wpAny_holding (unpacked_list (I.ok.hd hc) pl.isList fun h' kp => ?_))
  exact h pins _ σ H xs _ Q (I.kept (t' := s.toks) kp) rv hw
end
/-! ### the state of a def's body -/
noncomputable def OO (K : PySem.W.Frag) (H0 Hs H : Hp) (a : Addr) (bs : List Addr) (dss : List (List D)) : Prop :=
  H a = some (.lst (bs.map V.ref)) ∧ Hs a = none ∧ H0 a = none ∧ bs.Nodup ∧ a ∉ bs ∧ bs.length = dss.length ∧
    ∀ (j : Nat) b, bs[j]? = some b → Hs b = none ∧ H0 b = none ∧ ∃ ds us, dss[j]? = some ds ∧ H b = some (.lst us) ∧ RepL K Hs ds us
structure Hd (K : PySem.W.Frag) (Hs0 H0 Hs H : Hp) (ρ : Rho) (σ : St) : Prop where
  ext : Ext Hs0 H0 Hs H
  len : σ.length = ρ.length
  sh : RepSt K Hs ρ σ
  ow : ∀ (i : Nat) (x : Str) (ds : List D), ρ[i]? = some (x, .ow ds) → ∃ a vs, σ[i]? = some (some (.ref a)) ∧ H a = some (.lst vs) ∧ RepL K Hs ds vs ∧ Hs a = none ∧ H0 a = none
  dis : ∀ (i j : Nat) (x y : Str) (ds es : List D) (a : Addr), i ≠ j → ρ[i]? = some (x, .ow ds) → ρ[j]? = some (y, .ow es) → σ[i]? = some (some (.ref a)) → σ[j]? = some (some (.ref a)) → False
  oo : ∀ (i : Nat) (x : Str) (dss : List (List D)), ρ[i]? = some (x, .oo dss) → (∃ a bs, σ[i]? = some (some (.ref a)) ∧ OO K H0 Hs H a bs dss) ∧ ∀ (j : Nat) y s, j ≠ i → ρ[j]? = some (y, s) → calmS s = true
section
variable {K : PySem.W.Frag} {Hs0 H0 Hs H Hs' H' : Hp} {ρ : Rho} {σ : St}
theorem OO.step {a : Addr} {bs : List Addr} {dss : List (List D)} (h : OO K H0 Hs H a bs dss) (E : Ext Hs H Hs' H') : OO K H0 Hs' H' a bs dss := by
  obtain ⟨h1, h2, h3, h4, h5, h6, h7⟩ := h
  refine ⟨E.all _ _ h1, E.hid a _ h1 h2, h3, h4, h5, h6, fun j b e => ?_⟩
  obtain ⟨k1, k2, ds, us, k3, k4, k5⟩ := h7 j b e
  exact ⟨E.hid b _ k4 k1, k2, ds, us, k3, E.all _ _ k4, RepL.same E.vis ds us k5⟩
theorem Hd.step (h : Hd K Hs0 H0 Hs H ρ σ) (E : Ext Hs H Hs' H') : Hd K Hs0 H0 Hs' H' ρ σ where
  ext := h.ext.trans E
  len := h.len
  sh := h.sh.same E.vis
  ow := fun i x ds e => by
    obtain ⟨a, vs, h1, h2, h3, h4, h5⟩ := h.ow i x ds e
    exact ⟨a, vs, h1, E.all _ _ h2, RepL.same E.vis ds vs h3, E.hid a _ h2 h4, h5⟩
  dis := h.dis
  oo := fun i x dss e => by
    obtain ⟨⟨a, bs, h1, h2⟩, h3⟩ := h.oo i x dss e
    exact ⟨⟨a, bs, h1, h2.step E⟩, h3⟩
theorem frz_get {n : Nat} {e : Expr} {i : Nat} {x : Str} {s : Sl} (h : (frz n e ρ)[i]? = some (x, s)) : (ρ[i]? = some (x, s) ∧ (calmS s = false → ment n x e = false)) ∨ (∃ ds, s = .sh (.lst ds) ∧ ρ[i]? = some (x, .ow ds) ∧ ment n x e = true) ∨ ∃ dss, s = .sh (.lst (dss.map .lst)) ∧ ρ[i]? = some (x, .oo dss) ∧ ment n x e = true := by
  unfold frz at h
  rw [List.getElem?_map] at h
  obtain ⟨⟨y, t⟩, h1, h2⟩ := Option.map_eq_some_iff.mp h
  cases t with
  | no => simp at h2; obtain ⟨rfl, rfl⟩ := h2; exact .inl ⟨h1, fun z => nomatch z⟩
  | sh d => simp at h2; obtain ⟨rfl, rfl⟩ := h2; exact .inl ⟨h1, fun z => nomatch z⟩
  | ow ds =>
    simp only at h2
    cases hm : ment n y e with
    | true =>
      rw [hm, if_pos rfl] at h2
      cases h2
      exact .inr (.inl ⟨ds, rfl, h1, hm⟩)
    | false =>
      rw [hm] at h2
      simp at h2
      obtain ⟨rfl, rfl⟩ := h2
      exact .inl ⟨h1, fun _ => hm⟩
  | oo dss =>
    simp only at h2
    cases hm : ment n y e with
    | true =>
      rw [hm, if_pos rfl] at h2
      cases h2
      exact .inr (.inr ⟨dss, rfl, h1, hm⟩)
    | false =>
      rw [hm] at h2
      simp at h2
      obtain ⟨rfl, rfl⟩ := h2
      exact .inl ⟨h1, fun _ => hm⟩
theorem frz_names (n : Nat) (e : Expr) : (frz n e ρ).map (·.1) = ρ.map (·.1) := by
  unfold frz
  rw [List.map_map]
  apply List.map_congr_left
  intro p _
  obtain ⟨x, s⟩ := p
  cases s <;> simp <;> (split <;> rfl)
theorem RepL.get_of {K : PySem.W.Frag} {H : Hp} : ∀ {ds : List D} {vs : List V}, ds.length = vs.length → (∀ (j : Nat) d v, ds[j]? = some d → vs[j]? = some v → Rep K H d v) → RepL K H ds vs
  | [], [], _, _ => .nil
  | [], _ :: _, h, _ => by simp at h
  | _ :: _, [], h, _ => by simp at h
  | d :: ds, v :: vs, h, q => .cons (q 0 d v rfl rfl) (RepL.get_of (by simpa using h) fun j d' v' e1 e2 => q (j + 1) d' v' (by simpa using e1) (by simpa using e2))
theorem OO.mem {a b : Addr} {bs : List Addr} {dss : List (List D)} (h : OO K H0 Hs H a bs dss) (hb : b ∈ bs) : Hs b = none ∧ H0 b = none := by
  obtain ⟨j, e⟩ := List.mem_iff_getElem?.mp hb
  obtain ⟨k1, k2, _⟩ := h.2.2.2.2.2.2 j b e
  exact ⟨k1, k2⟩
open Classical in
theorem Hd.frozen (n : Nat) (e : Expr) (h : Hd K Hs0 H0 Hs H ρ σ) : ∃ Hs1, Same Hs Hs1 ∧ Hd K Hs0 H0 Hs1 H (frz n e ρ) σ := by
  let Fo : Addr → Prop := fun b => ∃ (i : Nat) (x : Str) (ds : List D), ρ[i]? = some (x, Sl.ow ds) ∧ ment n x e = true ∧ σ[i]? = some (some (V.ref b))
  let Fb : Addr → Prop := fun b => ∃ (i : Nat) (x : Str) (dss : List (List D)) (a : Addr) (bs : List Addr), ρ[i]? = some (x, Sl.oo dss) ∧ ment n x e = true ∧ σ[i]? = some (some (V.ref a)) ∧ OO K H0 Hs H a bs dss ∧ (b = a ∨ b ∈ bs)
  let Hs1 : Hp := fun b => if Fo b ∨ Fb b then H b else Hs b
  have vis : Same Hs Hs1 := fun b o q => by
    show (if Fo b ∨ Fb b then H b else Hs b) = some o
    split
    · exact h.ext.sub b o q
    · exact q
  have sub : Same Hs1 H := fun b o q => by
    have q' : (if Fo b ∨ Fb b then H b else Hs b) = some o := q
    split at q'
    · exact q'
    · exact h.ext.sub b o q'
  have fz0 : ∀ b, Fo b ∨ Fb b → H0 b = none ∧ Hs b = none := fun b hb => by
    rcases hb with ⟨i, x, ds, g1, _, g3⟩ | ⟨i, x, dss, a, bs, g1, _, g3, g4, g5⟩
    · obtain ⟨a, vs, k1, k2, k3, k4, k5⟩ := h.ow i x ds g1
      rw [k1] at g3
      cases g3
      exact ⟨k5, k4⟩
    · rcases g5 with rfl | g5
      · exact ⟨g4.2.2.1, g4.2.1⟩
      · exact ⟨(g4.mem g5).2, (g4.mem g5).1⟩
  refine ⟨Hs1, vis, ⟨h.ext.vis.trans vis, h.ext.all, sub, fun b o q z => ?_⟩, by rw [h.len]; simp [frz], fun i x d q => ?_, fun i x ds q => ?_, fun i j x y ds es a hij q1 q2 => ?_, fun i x dss q => ?_⟩
  · show (if Fo b ∨ Fb b then H b else Hs b) = none
    rw [if_neg fun f => by rw [(fz0 b f).1] at q; cases q]
    exact h.ext.hid b o q z
  · rcases frz_get q with ⟨q, _⟩ | ⟨ds, e1, q2, hm⟩ | ⟨dss, e1, q2, hm⟩
    · obtain ⟨v, k1, k2⟩ := h.sh i x d q
      exact ⟨v, k1, Rep.same vis d v k2⟩
    · cases e1
      obtain ⟨a, vs, k1, k2, k3, k4, k5⟩ := h.ow i x ds q2
      refine ⟨_, k1, ?_⟩
      simp only [Rep]
      refine ⟨a, vs, rfl, .of ?_, RepL.same vis ds vs k3⟩
      show (if Fo a ∨ Fb a then H a else Hs a) = _
      rw [if_pos (.inl ⟨i, x, ds, q2, hm, k1⟩)]
      exact k2
    · cases e1
      obtain ⟨⟨a, bs, k1, k2⟩, _⟩ := h.oo i x dss q2
      refine ⟨_, k1, ?_⟩
      simp only [Rep]
      refine ⟨a, bs.map V.ref, rfl, .of ?_, ?_⟩
      · show (if Fo a ∨ Fb a then H a else Hs a) = _
        rw [if_pos (.inr ⟨i, x, dss, a, bs, q2, hm, k1, k2, .inl rfl⟩)]
        exact k2.1
      · refine RepL.get_of (by rw [List.length_map, List.length_map, k2.2.2.2.2.2.1]) fun j d v g1 g2 => ?_
        rw [List.getElem?_map] at g1 g2
        obtain ⟨es, g3, rfl⟩ := Option.map_eq_some_iff.mp g1
        obtain ⟨b, g4, rfl⟩ := Option.map_eq_some_iff.mp g2
        obtain ⟨_, _, ds, us, m3, m4, m5⟩ := k2.2.2.2.2.2.2 j b g4
        rw [g3] at m3
        cases m3
        simp only [Rep]
        refine ⟨b, us, rfl, .of ?_, RepL.same vis es us m5⟩
        show (if Fo b ∨ Fb b then H b else Hs b) = _
        rw [if_pos (.inr ⟨i, x, dss, a, bs, q2, hm, k1, k2, .inr (List.mem_of_getElem? g4)⟩)]
        exact m4
  · rcases frz_get q with ⟨q, hm⟩ | ⟨ds', e1, q, hm⟩ | ⟨ds', e1, q, hm⟩
    · obtain ⟨a, vs, k1, k2, k3, k4, k5⟩ := h.ow i x ds q
      refine ⟨a, vs, k1, k2, RepL.same vis ds vs k3, ?_, k5⟩
      show (if Fo a ∨ Fb a then H a else Hs a) = none
      rw [if_neg]
      · exact k4
      · rintro (⟨j, y, es, g1, g2, g3⟩ | ⟨j, y, dss, _, _, g1, _⟩)
        · by_cases hij : i = j
          · subst hij
            rw [q] at g1
            cases g1
            rw [hm rfl] at g2
            cases g2
          · exact h.dis i j x y ds es a hij q g1 k1 g3
        · by_cases hij : i = j
          · subst hij
            rw [q] at g1
            cases g1
          · exact nomatch (h.oo j y dss g1).2 i x _ hij q
    · cases e1
    · cases e1
  · rcases frz_get q1 with ⟨q1, _⟩ | ⟨ds', e1, _⟩ | ⟨ds', e1, _⟩
    · rcases frz_get q2 with ⟨q2, _⟩ | ⟨ds', e1, _⟩ | ⟨ds', e1, _⟩
      · exact h.dis i j x y ds es a hij q1 q2
      · cases e1
      · cases e1
    · cases e1
    · cases e1
  · rcases frz_get q with ⟨q, hm⟩ | ⟨ds', e1, _⟩ | ⟨ds', e1, _⟩
    · obtain ⟨⟨a, bs, k1, k2⟩, k3⟩ := h.oo i x dss q
      have nf : ∀ b, ¬ (Fo b ∨ Fb b) := by
        rintro b (⟨j, y, es, g1, _⟩ | ⟨j, y, dss', _, _, g1, g2, _⟩)
        · by_cases hij : j = i
          · subst hij
            rw [q] at g1
            cases g1
          · exact nomatch k3 j y _ hij g1
        · by_cases hij : j = i
          · subst hij
            rw [q] at g1
            cases g1
            rw [hm rfl] at g2
            cases g2
          · exact nomatch k3 j y _ hij g1
      have sm : ∀ b, Hs1 b = Hs b := fun b => by
        show (if Fo b ∨ Fb b then H b else Hs b) = _
        rw [if_neg (nf b)]
      refine ⟨⟨a, bs, k1, k2.1, by rw [sm]; exact k2.2.1, k2.2.2.1, k2.2.2.2.1, k2.2.2.2.2.1, k2.2.2.2.2.2.1, fun j b g => ?_⟩, fun j y s hj g => ?_⟩
      · obtain ⟨m1, m2, ds, us, m3, m4, m5⟩ := k2.2.2.2.2.2.2 j b g
        exact ⟨by rw [sm]; exact m1, m2, ds, us, m3, m4, RepL.same vis ds us m5⟩
      · rcases frz_get g with ⟨g, _⟩ | ⟨_, e1, _⟩ | ⟨_, e1, _⟩
        · exact k3 j y s hj g
        · rw [e1]; rfl
        · rw [e1]; rfl
    · cases e1
    · cases e1
theorem Hd.set {x : Str} {i : Nat} {d : D} {v : V} (h : Hd K Hs0 H0 Hs H ρ σ) (hn : (ρ.map (·.1)).Nodup) (hi : (ρ.map (·.1))[i]? = some x) (r : Rep K Hs d v) : Hd K Hs0 H0 Hs H (setR ρ x (.sh d)) (σ.set i (some v)) := by
  have hl : i < σ.length := by have := (List.getElem?_eq_some_iff.mp hi).1; rw [h.len]; simpa using this
  refine ⟨h.ext, by rw [List.length_set, h.len]; have := congrArg List.length (setR_names ρ x (.sh d)); simpa using this.symm, repSt_set hn hi hl h.sh r, fun j y ds e => ?_, fun j j' y y' ds es a hjj e1 e2 e3 e4 => ?_, fun j y dss e => ?_⟩
  · rw [setR_get hn hi j] at e
    split at e
    · cases e
    · rename_i hj
      obtain ⟨a, vs, k1, k⟩ := h.ow j y ds e
      exact ⟨a, vs, by rw [List.getElem?_set_ne (fun z => hj z.symm)]; exact k1, k⟩
  · rw [setR_get hn hi] at e1 e2
    split at e1
    · cases e1
    · rename_i hj
      split at e2
      · cases e2
      · rename_i hj'
        rw [List.getElem?_set_ne (fun z => hj z.symm)] at e3
        rw [List.getElem?_set_ne (fun z => hj' z.symm)] at e4
        exact h.dis j j' y y' ds es a hjj e1 e2 e3 e4
  · rw [setR_get hn hi j] at e
    split at e
    · cases e
    · rename_i hj
      obtain ⟨⟨a, bs, k1, k2⟩, k3⟩ := h.oo j y dss e
      refine ⟨⟨a, bs, by rw [List.getElem?_set_ne (fun z => hj z.symm)]; exact k1, k2⟩, fun l z s hl' g => ?_⟩
      rw [setR_get hn hi l] at g
      split at g
      · cases g; rfl
      · exact k3 l z s hl' g
theorem Hd.own {x : Str} {i : Nat} {ds : List D} {vs : List V} {acc : Addr} (h : Hd K Hs0 H0 Hs H ρ σ) (hn : (ρ.map (·.1)).Nodup) (hi : (ρ.map (·.1))[i]? = some x) (h1 : H acc = some (.lst vs)) (r : RepL K Hs ds vs) (h2 : Hs acc = none) (h3 : H0 acc = none)
    (no : ∀ (j : Nat) y dss, j ≠ i → ρ[j]? = some (y, .oo dss) → False) (ap : ∀ (j : Nat) y es, j ≠ i → ρ[j]? = some (y, .ow es) → σ[j]? = some (some (.ref acc)) → False) : Hd K Hs0 H0 Hs H (setR ρ x (.ow ds)) (σ.set i (some (.ref acc))) := by
  have hl : i < σ.length := by have := (List.getElem?_eq_some_iff.mp hi).1; rw [h.len]; simpa using this
  refine ⟨h.ext, by rw [List.length_set, h.len]; have := congrArg List.length (setR_names ρ x (.ow ds)); simpa using this.symm, fun j y d e => ?_, fun j y es e => ?_, fun j j' y y' ds' es a hjj e1 e2 e3 e4 => ?_, fun j y dss e => ?_⟩
  · rw [setR_get hn hi j] at e
    split at e
    · cases e
    · rename_i hj
      obtain ⟨v, k1, k2⟩ := h.sh j y d e
      exact ⟨v, by rw [List.getElem?_set_ne (fun z => hj z.symm)]; exact k1, k2⟩
  · rw [setR_get hn hi j] at e
    split at e
    · rename_i hj
      subst hj
      cases e
      exact ⟨acc, vs, by rw [List.getElem?_set_self hl], h1, r, h2, h3⟩
    · rename_i hj
      obtain ⟨a, vs', k1, k⟩ := h.ow j y es e
      exact ⟨a, vs', by rw [List.getElem?_set_ne (fun z => hj z.symm)]; exact k1, k⟩
  · rw [setR_get hn hi] at e1 e2
    split at e1
    · rename_i hj
      split at e2
      · rename_i hj'
        exact hjj (hj.trans hj'.symm)
      · rename_i hj'
        subst hj
        rw [List.getElem?_set_self hl] at e3
        cases e3
        rw [List.getElem?_set_ne (fun z => hj' z.symm)] at e4
        exact ap j' y' es hj' e2 e4
    · rename_i hj
      split at e2
      · rename_i hj'
        subst hj'
        rw [List.getElem?_set_self hl] at e4
        cases e4
        rw [List.getElem?_set_ne (fun z => hj z.symm)] at e3
        exact ap j y ds' hj e1 e3
      · rename_i hj'
        rw [List.getElem?_set_ne (fun z => hj z.symm)] at e3
        rw [List.getElem?_set_ne (fun z => hj' z.symm)] at e4
        exact h.dis j j' y y' ds' es a hjj e1 e2 e3 e4
  · rw [setR_get hn hi j] at e
    split at e
    · cases e
    · rename_i hj
      exact (no j y dss hj e).elim
theorem Hd.app {x : Str} {i : Nat} {ds es : List D} {vs : List V} {a : Addr} (h : Hd K Hs0 H0 Hs H ρ σ) (hn : (ρ.map (·.1)).Nodup) (hi : ρ[i]? = some (x, .ow ds)) (hσ : σ[i]? = some (some (.ref a))) (r : RepL K Hs es vs) : Hd K Hs0 H0 Hs (upd H a (.lst vs)) (setR ρ x (.ow es)) σ := by
  obtain ⟨a', vs', k1, k2, k3, k4, k5⟩ := h.ow i x ds hi
  rw [hσ] at k1
  cases k1
  have hi' : (ρ.map (·.1))[i]? = some x := by rw [List.getElem?_map, hi]; rfl
  refine ⟨Ext.acc h.ext k5 k4, by rw [h.len]; have := congrArg List.length (setR_names ρ x (.ow es)); simpa using this.symm, fun j y d e => ?_, fun j y es' e => ?_, fun j j' y y' ds' es' b hjj e1 e2 e3 e4 => ?_, fun j y dss e => ?_⟩
  · rw [setR_get hn hi' j] at e
    split at e
    · cases e
    · exact h.sh j y d e
  · rw [setR_get hn hi' j] at e
    split at e
    · rename_i hj
      subst hj
      cases e
      exact ⟨a, vs, hσ, upd_same, r, k4, k5⟩
    · rename_i hj
      obtain ⟨b, us, g1, g2, g⟩ := h.ow j y es' e
      refine ⟨b, us, g1, ?_, g⟩
      rw [upd_ne]
      · exact g2
      · rintro rfl
        exact h.dis j i y x es' ds b hj e hi g1 hσ
  · rw [setR_get hn hi'] at e1 e2
    split at e1
    · rename_i hj
      split at e2
      · rename_i hj'
        exact hjj (hj.trans hj'.symm)
      · subst hj
        exact h.dis j j' x y' ds es' b hjj hi e2 e3 e4
    · split at e2
      · rename_i hj'
        subst hj'
        exact h.dis j j' y x ds' ds b hjj e1 hi e3 e4
      · exact h.dis j j' y y' ds' es' b hjj e1 e2 e3 e4
  · rw [setR_get hn hi' j] at e
    split at e
    · cases e
    · rename_i hj
      exact nomatch (h.oo j y dss e).2 i x _ (fun w => hj w.symm) hi
theorem onlyC_ok {x : Str} {i : Nat} (hn : (ρ.map (·.1)).Nodup) (hi : (ρ.map (·.1))[i]? = some x) (h : onlyC ρ x = true) : ∀ (j : Nat) y s, j ≠ i → ρ[j]? = some (y, s) → calmS s = true := fun j y s hj e => by
  have := List.all_eq_true.mp h _ (List.mem_of_getElem? e)
  rw [Bool.or_eq_true] at this
  rcases this with q | q
  · exfalso
    have ey : y = x := by simpa using q
    have e' : (ρ.map (·.1))[j]? = some x := by rw [List.getElem?_map, e, ← ey]; rfl
    exact hj ((List.getElem?_inj (List.getElem?_eq_some_iff.mp e').1 hn).mp (e'.trans hi.symm))
  · exact q
theorem noOo_ok {x : Str} {i : Nat} (hn : (ρ.map (·.1)).Nodup) (hi : (ρ.map (·.1))[i]? = some x) (h : noOo ρ x = true) : ∀ (j : Nat) y dss, j ≠ i → ρ[j]? = some (y, .oo dss) → False := fun j y dss hj e => by
  have := List.all_eq_true.mp h _ (List.mem_of_getElem? e)
  rw [Bool.or_eq_true] at this
  rcases this with q | q
  · have ey : y = x := by simpa using q
    have e' : (ρ.map (·.1))[j]? = some x := by rw [List.getElem?_map, e, ← ey]; rfl
    exact hj ((List.getElem?_inj (List.getElem?_eq_some_iff.mp e').1 hn).mp (e'.trans hi.symm))
  · exact nomatch q
theorem Hd.own2 {x : Str} {i : Nat} {dss : List (List D)} {a : Addr} {bs : List Addr} (h : Hd K Hs0 H0 Hs H ρ σ) (hn : (ρ.map (·.1)).Nodup) (hi : (ρ.map (·.1))[i]? = some x) (o : OO K H0 Hs H a bs dss) (no : ∀ (j : Nat) y s, j ≠ i → ρ[j]? = some (y, s) → calmS s = true) : Hd K Hs0 H0 Hs H (setR ρ x (.oo dss)) (σ.set i (some (.ref a))) := by
  have hl : i < σ.length := by have := (List.getElem?_eq_some_iff.mp hi).1; rw [h.len]; simpa using this
  refine ⟨h.ext, by rw [List.length_set, h.len]; have := congrArg List.length (setR_names ρ x (.oo dss)); simpa using this.symm, fun j y d e => ?_, fun j y es e => ?_, fun j j' y y' ds' es a hjj e1 e2 e3 e4 => ?_, fun j y dss' e => ?_⟩
  · rw [setR_get hn hi j] at e
    split at e
    · cases e
    · rename_i hj
      obtain ⟨v, k1, k2⟩ := h.sh j y d e
      exact ⟨v, by rw [List.getElem?_set_ne (fun z => hj z.symm)]; exact k1, k2⟩
  · rw [setR_get hn hi j] at e
    split at e
    · cases e
    · rename_i hj
      exact nomatch no j y _ hj e
  · rw [setR_get hn hi] at e1
    split at e1
    · cases e1
    · rename_i hj
      exact nomatch no j y _ hj e1
  · rw [setR_get hn hi j] at e
    split at e
    · rename_i hj
      subst hj
      cases e
      refine ⟨⟨a, bs, by rw [List.getElem?_set_self hl], o⟩, fun l z s hl' g => ?_⟩
      rw [setR_get hn hi l, if_neg hl'] at g
      exact no l z s hl' g
    · rename_i hj
      exact nomatch no j y _ hj e
theorem Hd.app2 {x : Str} {i : Nat} {dss dss' : List (List D)} {a c : Addr} {bs' : List Addr} {vs : List V} (h : Hd K Hs0 H0 Hs H ρ σ) (hn : (ρ.map (·.1)).Nodup) (hi : ρ[i]? = some (x, .oo dss)) (hσ : σ[i]? = some (some (.ref a))) (c1 : Hs c = none) (c2 : H0 c = none) (o : OO K H0 Hs (upd H c (.lst vs)) a bs' dss') : Hd K Hs0 H0 Hs (upd H c (.lst vs)) (setR ρ x (.oo dss')) σ := by
  have hi' : (ρ.map (·.1))[i]? = some x := by rw [List.getElem?_map, hi]; rfl
  obtain ⟨_, no⟩ := h.oo i x dss hi
  refine ⟨Ext.acc h.ext c2 c1, by rw [h.len]; have := congrArg List.length (setR_names ρ x (.oo dss')); simpa using this.symm, fun j y d e => ?_, fun j y es e => ?_, fun j j' y y' ds' es a hjj e1 e2 e3 e4 => ?_, fun j y dss'' e => ?_⟩
  · rw [setR_get hn hi' j] at e
    split at e
    · cases e
    · exact h.sh j y d e
  · rw [setR_get hn hi' j] at e
    split at e
    · cases e
    · rename_i hj
      exact nomatch no j y _ hj e
  · rw [setR_get hn hi'] at e1
    split at e1
    · cases e1
    · rename_i hj
      exact nomatch no j y _ hj e1
  · rw [setR_get hn hi' j] at e
    split at e
    · rename_i hj
      subst hj
      cases e
      refine ⟨⟨a, bs', hσ, o⟩, fun l z s hl' g => ?_⟩
      rw [setR_get hn hi' l, if_neg hl'] at g
      exact no l z s hl' g
    · rename_i hj
      exact nomatch no j y _ hj e
theorem keeps_hd {scope : Scope} : Keeps1 K Hs scope (fun ρ σ => Hd K Hs0 H0 Hs H ρ σ) := fun ρ σ i x d v hn hi _ h r => h.set hn hi r
end
end L2

set_option Elab.async false
set_option linter.all false
set_option maxRecDepth 100000
namespace L2
open PySem PySem.Spec PyProof.Rows PySem.SeqAt
open DE hiding st
/-! ### statements -/
noncomputable def sSem (X : Cx) (s : Stmt) : TS := fun D σ H => ∀ pins s0, Inv X pins σ H s0 → wpAny (model X.prog X.w) X.A (exec s X.env) (SP X pins D) X.xe s0
noncomputable def ssSem (X : Cx) (s : List Stmt) : TS := fun D σ H => ∀ pins s0, Inv X pins σ H s0 → wpAny (model X.prog X.w) X.A (execs s X.env) (SP X pins D) X.xe s0
section
variable {X : Cx} {s : Stmt} {ss : List Stmt} {t : TS} {D : Ends} {σ : St} {H : Hp}
theorem ps_sem : PS X s (sSem X s) := fun pins s σ H D I h => h pins s I
theorem PS.sem (h : PS X s t) (q : t D σ H) : sSem X s D σ H := fun pins s I => h pins s σ H D I q
theorem pss_sem : PSs X ss (ssSem X ss) := fun pins s σ H D I h => h pins s I
theorem PSs.sem (h : PSs X ss t) (q : t D σ H) : ssSem X ss D σ H := fun pins s I => h pins s σ H D I q
end
noncomputable def Runs (X : Cx) (Hs0 H0 : Hp) (ρ : Rho) (fl : Fl) (t : TS) : Prop := ∀ σ H Hs D, Hd X.K Hs0 H0 Hs H ρ σ → X.N = ρ.map (·.1) → (∀ ρ' σ' Hs' H', fl = .nxt ρ' → Same Hs Hs' → X.N = ρ'.map (·.1) → Hd X.K Hs0 H0 Hs' H' ρ' σ' → D.nx σ' H') →
  (∀ d v Hs' H', fl = .ret d → Ext Hs0 H0 Hs' H' → Rep X.K Hs' d v → D.rt v H') → t D σ H
structure GoodS (cx : Cxt) (k : Nat) (X : Cx) (sc : Scope) : Prop where
  good : Good cx k X sc
  own : Owns X sc
  pass : PassesOwn (model X.prog X.w) X.A X.env X.xe
section
variable {X : Cx} {ρ : Rho} {cx : Cxt} {k F : Nat} {sc scope : Scope} {Hs0 H0 : Hp} {e : Expr} {d : D}
theorem ev_st (G : GoodS cx k X sc) (hN : X.N = ρ.map (·.1)) (he : ev cx F sc (frz F e ρ) e = some d) {σ : St} {H Hs : Hp} {Q : VK} (h : Hd X.K Hs0 H0 Hs H ρ σ) (q : ∀ v Hs' H', Same Hs Hs' → Hd X.K Hs0 H0 Hs' H' (frz F e ρ) σ → Rep X.K Hs' d v → Q v H') : tSem X e σ H Q := by
  obtain ⟨Hs1, sm1, h1⟩ := h.frozen F e
  exact (ev_ok cx F G.good (by rw [frz_names]; exact hN) he).1 σ H Hs1 Q h1.ext.sub h1.sh fun v H' Hs' E r => q v Hs' H' (sm1.trans E.vis) (h1.step E) r
theorem ev_stT (G : GoodS cx k X sc) (hN : X.N = ρ.map (·.1)) {b : Bool} (he : ev cx F sc (frz F e ρ) e = some (.bl b)) {σ : St} {H Hs : Hp} {Q : Bool → Hp → Prop} (h : Hd X.K Hs0 H0 Hs H ρ σ) (q : ∀ Hs' H', Same Hs Hs' → Hd X.K Hs0 H0 Hs' H' (frz F e ρ) σ → Q b H') : tSemT X e σ H Q := by
  obtain ⟨Hs1, sm1, h1⟩ := h.frozen F e
  exact (ev_ok cx F G.good (by rw [frz_names]; exact hN) he).2 b rfl σ H Hs1 Q h1.ext.sub h1.sh fun H' Hs' E => q Hs' H' (sm1.trans E.vis) (h1.step E)
theorem swaps_not {t : Option Expr} {l : Nat} {env : Env} (he : ev cx F sc ρ e = some d) (hc : ∀ a b c p, e ≠ .ListComp a b c p) : swapsWith e t l env = pure false := by
  cases F with
  | zero => simp [ev] at he
  | succ F =>
    cases e <;> first | rfl | (exfalso; simp [ev] at he; done) | (exact absurd rfl (hc _ _ _ _))
theorem slFor_sh (h : isFresh e = false) : slFor e d = .sh d := by
  unfold slFor
  split
  · rw [h]; rfl
  · rfl
noncomputable def OwnE (X : Cx) (ρ : Rho) (e : Expr) (ds : List D) : Prop := ∀ σ H Hs Q, Same Hs H → RepSt X.K Hs ρ σ → (∀ acc vs Hs' H', Ext Hs H Hs' H' → H acc = none → Hs' acc = none → H' acc = some (.lst vs) → RepL X.K Hs' ds vs → Q (.ref acc) H') → tSem X e σ H Q
theorem own_list {es : List Expr} {ds : List D} {pos : Pos} (h : EvA X ρ es ds) (hz : szl ds.length = true) : OwnE X ρ (.List es pos) ds := fun σ H Hs Q hs hst hq =>
  (pe_lst pa_sem).sem (h σ H Hs _ hs hst fun vs H1 Hs1 E1 r1 => ⟨by rw [← r1.length]; exact szl_ok hz, fun p hp =>
    hq p vs Hs1 _ (Ext.acc E1 (E1.all.free hp) (E1.sub.free hp)) (E1.all.free hp) (E1.sub.free hp) upd_same r1⟩)
theorem comp_inv' {elt : Expr} {gens : List Comprehension} {pos : Pos} {n : Nat} (G : Good cx k X sc) (hN : X.N = ρ.map (·.1)) (he : ev cx (n + 1) sc ρ (.ListComp elt gens scope pos) = some d) :
    ∃ tg iter ifs l out, gens = [⟨tg, iter, ifs, 0⟩] ∧ compOk sc scope = true ∧ EvI X ρ tg iter l ∧ plainE iter = true ∧ szl l.length = true ∧ compGo (compF cx n sc scope ρ tg elt ifs) l = some out ∧ d = .lst out ∧
      (∀ Xc, CompOf X scope Xc → ∀ ρ1 : Rho, Xc.N = ρ1.map (·.1) → ∀ e d, ev cx n (relS scope sc) ρ1 e = some d → Ev Xc ρ1 e d ∧ ∀ b, d = .bl b → EvT Xc ρ1 e b) := by
  simp only [ev] at he
  split at he
  · rename_i tg iter ifs a
    split at he
    · rename_i hok
      rw [Bool.and_eq_true] at hok
      have ea : a = 0 := by simpa using hok.1
      subst ea
      obtain ⟨l, h1, he⟩ := obind he
      split at he
      · rename_i hz
        obtain ⟨out, h2, he⟩ := obind he
        cases he
        obtain ⟨hI, hp⟩ := evI_ok (tg := tg) G (fun e d h => ⟨(ev_ok cx n G hN h).1, ev_plain h⟩) h1
        exact ⟨tg, iter, ifs, l, out, rfl, hok.2, hI, hp, hz, h2, rfl, fun Xc C ρ1 hN1 e d he => ev_ok cx n (G.comp C hok.2) hN1 he⟩
      · cases he
    · cases he
  · cases he
theorem st_own {x : Str} {ds : List D} {px pos : Pos} (G : GoodS cx k X sc) (hN : X.N = ρ.map (·.1)) (hx : ownIn sc x = true) (hc : (ρ.map (·.1)).contains x = true) (hno : noOo (frz F e ρ) x = true)
    (hrun : ∀ (i : Nat), X.N[i]? = some x → ∀ σ H Hs D, Same Hs H → RepSt X.K Hs (frz F e ρ) σ → (∀ acc vs Hs' H', Ext Hs H Hs' H' → H acc = none → Hs' acc = none → H' acc = some (.lst vs) → RepL X.K Hs' ds vs → D.nx (σ.set i (some (.ref acc))) H') → sSem X (.Assign [.Name x px] e pos) D σ H) :
    Runs X Hs0 H0 ρ (.nxt (setR (frz F e ρ) x (.ow ds))) (sSem X (.Assign [.Name x px] e pos)) := by
  intro σ H Hs D h _ hn hr
  obtain ⟨i, hi⟩ := contains_ix hc
  obtain ⟨Hs1, sm1, h1⟩ := h.frozen F e
  have hnd : ((frz F e ρ).map (·.1)).Nodup := by rw [frz_names, ← hN]; exact G.good.nd
  refine hrun i (by rw [hN]; exact hi) σ H Hs1 D h1.ext.sub h1.sh fun acc vs Hs' H' E a1 a2 a3 r => ?_
  refine hn _ _ Hs' H' rfl (sm1.trans E.vis) (by rw [setR_names, frz_names]; exact hN) ((h1.step E).own hnd (by rw [frz_names]; exact hi) a3 r a2 (h1.ext.all.free a1) (noOo_ok hnd (by rw [frz_names]; exact hi) hno) fun j y es hj q1 q2 => ?_)
  obtain ⟨b, us, k1, k2, _⟩ := h1.ow j y es q1
  rw [k1] at q2
  cases q2
  rw [a1] at k2
  cases k2
theorem st_name {x : Str} {px pos : Pos} (G : GoodS cx k X sc) (hN : X.N = ρ.map (·.1)) (hx : ownIn sc x = true) (hc : (ρ.map (·.1)).contains x = true) (hno : isFresh e = true → noOo (frz F e ρ) x = true) (he : ev cx F sc (frz F e ρ) e = some d) :
    Runs X Hs0 H0 ρ (.nxt (setR (frz F e ρ) x (slFor e d))) (sSem X (.Assign [.Name x px] e pos)) := by
  obtain ⟨ox, of⟩ := G.own.own x hx
  have hN' : X.N = (frz F e ρ).map (·.1) := by rw [frz_names]; exact hN
  by_cases hfr : isFresh e = true
  · cases F with
    | zero => simp [ev] at he
    | succ F =>
      cases e with
      | List es p2 =>
        simp only [ev] at he
        obtain ⟨ds, h1, he⟩ := obind he
        split at he
        · rename_i hz
          cases he
          have hA := (ev_args (fun e _ d hd => ⟨(ev_ok cx F G.good hN' hd).1, ev_plain hd⟩) h1).1
          refine st_own G hN hx hc (hno rfl) fun i hi σ H Hs D hs hst hq => ?_
          refine PS.sem (ps_set G.good.nd hi ox pe_sem rfl of) (own_list hA hz σ H Hs _ hs hst fun acc vs Hs' H' E a1 a2 a3 r => hq acc vs Hs' H' E a1 a2 a3 r)
        · cases he
      | ListComp elt gens scope p2 =>
        obtain ⟨tg, iter, ifs, l, out, rfl, hok, hI, hp, hz, hgo, rfl, hE⟩ := comp_inv' G.good hN' he
        obtain ⟨ok1, ok2, ok3⟩ := compOk_ok G.good hok
        refine st_own G hN hx hc (hno rfl) fun i hi σ H Hs D hs hst hq => ?_
        have rd : tComp X scope (tSemI X tg iter) (mkSt X.N scope.names) (fun Xc => gSem Xc tg) (fun Xc => ifSem Xc ifs) (fun Xc => tSem Xc elt) σ H (fun v H1 => D.nx (σ.set i (some v)) H1) :=
          comp_read G.good hN' hok hI hz hgo hE hs hst fun acc vs Hs' H' E a1 a2 a3 r => hq acc vs Hs' H' E a1 a2 a3 r
        cases hsw : (X.env.blockKind == .function && X.env.kindOf x == some .local && px.line == p2.line && !(scope.names.any fun (n, k) => n == x && (k == .local || k == .cell))) with
        | true =>
          have e1 : swapsWith (.ListComp elt [⟨tg, iter, ifs, 0⟩] scope p2) (some (.Name x px)) pos.line X.env = pure true := by rw [← hsw]; rfl
          rw [Bool.and_eq_true, Bool.and_eq_true, Bool.and_eq_true] at hsw
          have hl : X.env.scope.names.lookup x = some .local := by simpa [Env.kindOf] using hsw.1.1.2
          exact PS.sem (ps_setC G.good.nd hi hl G.good.calm ok1 ok2 ok3 pi_sem (fun Xc C => ⟨pg_sem, pifs_sem, pe_sem⟩) (plain_set hp) e1) rd
        | false =>
          have e1 : swapsWith (.ListComp elt [⟨tg, iter, ifs, 0⟩] scope p2) (some (.Name x px)) pos.line X.env = pure false := by rw [← hsw]; rfl
          exact PS.sem (ps_set G.good.nd hi ox (pe_comp G.good.calm ok1 ok2 ok3 pi_sem (fun Xc C => ⟨pg_sem, pifs_sem, pe_sem⟩) (plain_set hp)) e1 of) rd
      | _ => simp [isFresh] at hfr
  · have hfr' : isFresh e = false := by simpa using hfr
    rw [slFor_sh hfr']
    intro σ H Hs D h _ hn hr
    obtain ⟨i, hi⟩ := contains_ix hc
    have hsw := swaps_not (t := some (.Name x px)) (l := pos.line) (env := X.env) he fun a b c p q => by rw [q] at hfr'; cases hfr'
    refine PS.sem (ps_set (i := i) G.good.nd (by rw [hN]; exact hi) ox pe_sem hsw of) (ev_st G hN he h fun v Hs' H' sm h' r => ?_)
    exact hn _ _ Hs' H' rfl sm (by rw [setR_names]; exact hN') (h'.set (by rw [← hN']; exact G.good.nd) (by rw [frz_names]; exact hi) r)
/-! ### several names -/
theorem bind_items {es : List Expr} {l : List D} {ρ' : Rho} {σ : St} {v : V} {Hs H : Hp} {P : Rho → St → Prop} {Q : St → Hp → Prop} {kt : Nat} {pos : Pos} (G : GoodS cx k X sc) (hs : Same Hs H) (hN : X.N = ρ.map (·.1)) (KE : Keeps1 X.K Hs sc P) (hl : items d = some l) (hb : bindNames sc es l ρ = some ρ') (hp : P ρ σ) (rd : Rep X.K Hs d v)
    (hq : ∀ σ', X.N = ρ'.map (·.1) → P ρ' σ' → Q σ' H) : gSem X (.Tuple es kt pos) v σ H Q := by
  obtain ⟨e1, e2, e3⟩ := names_each (env := X.env) hb
  cases d with
  | tup xs =>
    simp only [items, Option.some.injEq] at hl; subst hl
    obtain ⟨a, vs, rfl, h1, h2⟩ := rep_tup rd
    exact PG.sem (pg_tup G.good.calm pgs_sem e1 e2) ⟨a, vs, rfl, hs.tup h1, by rw [← h2.length, e3], bind_names G.own G.good.nd KE hN hb hp h2 hq⟩
  | lst xs =>
    simp only [items, Option.some.injEq] at hl; subst hl
    obtain ⟨a, vs, rfl, h1, h2⟩ := rep_lst rd
    exact PG.sem (pg_lst G.good.calm pgs_sem e1 e2) ⟨a, vs, rfl, hs.seq h1, by rw [← h2.length, e3], bind_names G.own G.good.nd KE hN hb hp h2 hq⟩
  | _ => simp [items] at hl
theorem nc0_ok {n : Nat} (h : nc0 e = true) : foldedForSure n e = false ∧ constantsAlone n e = false := by
  cases e <;> simp [nc0] at h <;> (constructor <;> simp [foldedForSure, constantsAlone, h])
theorem nc_ok (h : nc e = true) : foldedForSure 8 e = false ∧ constantsAlone 8 e = false := by
  unfold nc at h
  split at h
  · refine ⟨by simp [foldedForSure], ?_⟩
    simp [constantsAlone, (nc0_ok (n := 7) h).2]
  · rw [Bool.or_eq_true] at h
    refine ⟨by simp [foldedForSure], ?_⟩
    rcases h with h | h <;> simp [constantsAlone, (nc0_ok (n := 7) h).2]
  · exact nc0_ok h
theorem block_fn (G : Good cx k X sc) : X.env.blockKind = .function := by
  unfold Env.blockKind
  rw [G.sce, G.kind]
  rfl
theorem swp_no {es : List Expr} {kt : Nat} {pt : Pos} (G : Good cx k X sc) (h : swp sc es e = some false) : swappedStores [.Tuple es kt pt] e X.env = pure none := by
  cases e with
  | Tuple vs k2 p2 =>
    simp only [swp] at h
    split at h
    · rename_i x px y py a b
      split at h
      · split at h <;> cases h
      · rename_i hl
        have hl' : ¬ ((X.env.kindOf x == some .local) = true ∧ (X.env.kindOf y == some .local) = true) := by
          intro q
          apply hl
          rw [Bool.and_eq_true]
          unfold Env.kindOf at q
          rw [G.sce] at q
          exact q
        unfold swappedStores
        cases h1 : X.env.kindOf x == some .local <;> cases h2 : X.env.kindOf y == some .local
        all_goals simp only [h1, h2] at hl'
        all_goals simp [h1, h2, block_fn G]
        · intro _ _ hlen
          exfalso
          have n1 : ¬ X.env.kindOf x = some .local := by simpa using h1
          have n2 : ¬ X.env.kindOf y = some .local := by simpa using h2
          simp [List.filterMap_cons, n1, n2] at hlen
        · intro _ _ hlen
          exfalso
          have n1 : ¬ X.env.kindOf x = some .local := by simpa using h1
          simp only [List.filterMap_cons, List.filterMap_nil, n1, false_and, if_false] at hlen
          split at hlen <;> simp at hlen
        · intro _ _ hlen
          exfalso
          have n1 : ¬ X.env.kindOf y = some .local := by simpa using h2
          simp only [List.filterMap_cons, List.filterMap_nil, n1, false_and, if_false] at hlen
          split at hlen <;> simp at hlen
        · exact absurd ⟨trivial, trivial⟩ hl'
    · cases h
  | _ => rfl
theorem star_no (h : plainE e = true) : (match e with | .Starred .. => true | _ => false) = false := by
  cases e <;> first | rfl | (simp [plainE] at h)
theorem swp_yes {es : List Expr} {kt : Nat} {pt : Pos} (G : Good cx k X sc) (h : swp sc es e = some true) : ∃ x px y py a b k2 p2, es = [.Name x px, .Name y py] ∧ e = .Tuple [a, b] k2 p2 ∧ X.env.scope.names.lookup x = some .local ∧ X.env.scope.names.lookup y = some .local ∧ x ≠ y ∧ plainE a = true ∧ plainE b = true ∧
    swappedStores [.Tuple es kt pt] e X.env = pure (some [x, y]) := by
  cases e with
  | Tuple vs k2 p2 =>
    simp only [swp] at h
    split at h
    · rename_i x px y py a b
      split at h
      · rename_i hl
        split at h
        · rename_i hq
          rw [Bool.and_eq_true] at hl
          rw [Bool.and_eq_true, Bool.and_eq_true, Bool.and_eq_true, Bool.and_eq_true, Bool.or_eq_true] at hq
          obtain ⟨⟨⟨⟨q1, q2⟩, q3⟩, q4⟩, q5⟩ := hq
          have l1 : X.env.kindOf x = some .local := by unfold Env.kindOf; rw [G.sce]; simpa using hl.1
          have l2 : X.env.kindOf y = some .local := by unfold Env.kindOf; rw [G.sce]; simpa using hl.2
          have hxy : x ≠ y := by simpa using q2
          have hpl : py.line = px.line := by have : px.line = py.line := by simpa using q1
                                             exact this.symm
          have f1 : (foldedForSure 8 a && foldedForSure 8 b) = false := by
            rcases q3 with q | q
            · rw [(nc_ok q).1]; rfl
            · rw [(nc_ok q).1, Bool.and_false]
          have f2 : (constantsAlone 8 a && constantsAlone 8 b) = false := by
            rcases q3 with q | q
            · rw [(nc_ok q).2]; rfl
            · rw [(nc_ok q).2, Bool.and_false]
          refine ⟨x, px, y, py, a, b, k2, p2, rfl, rfl, l1, l2, hxy, q4, q5, ?_⟩
          unfold swappedStores
          have ed : ([x, y] : List Str).eraseDups.length = 2 := by
            have : (y == x) = false := by simpa using hxy.symm
            simp [List.eraseDups_cons, this]
          have al1 : [a, b].all (foldedForSure 8) = false := by simpa using f1
          have al2 : [a, b].all (constantsAlone 8) = false := by simpa using f2
          simp only [al1, al2, block_fn G]
          generalize hst : [a, b].any _ = sb
          have hsb : sb = false := by
            rw [← hst, List.any_cons, List.any_cons, List.any_nil, Bool.or_false, Bool.or_eq_false_iff]
            clear hst f1 f2 al1 al2 q3
            refine ⟨?_, ?_⟩
            · cases a <;> first | rfl | (simp [plainE] at q4)
            · cases b <;> first | rfl | (simp [plainE] at q5)
          generalize hf : List.filterMap _ [Expr.Name x px, Expr.Name y py] = nm
          have hnm : nm = [x, y] := by
            rw [← hf]
            simp [List.filterMap_cons, l1, l2, hpl, Expr.pos]
          rw [hsb, hnm]
          simp only [ed]
          rfl
        · cases h
      · cases h
    · cases h
  | _ => simp [swp] at h
end
end L2

set_option Elab.async false
set_option linter.all false
set_option maxRecDepth 100000
namespace L2
open PySem PySem.Spec PyProof.Rows PySem.SeqAt
open DE hiding st
/-! ### lists of lists of one's own -/
theorem look_setR : ∀ {ρ : Rho} {y : Str} {s : Sl}, (ρ.map (·.1)).contains y = true → (setR ρ y s).lookup y = some s
  | [], y, s, h => by simp at h
  | (z, t) :: r, y, s, h => by
    unfold setR
    cases hb : y == z with
    | true => simp only [if_true, List.lookup_cons, hb]
    | false =>
      simp only [Bool.false_eq_true, if_false, List.lookup_cons, hb]
      refine look_setR ?_
      rw [List.map_cons, List.contains_cons, hb, Bool.false_or] at h
      exact h
section
variable {X : Cx} {ρ : Rho} {cx : Cxt} {k F : Nat} {sc scope : Scope} {Hs0 H0 : Hp} {e : Expr} {d : D}
theorem list_inv {n : Nat} {lnm y : Str} {p1 p2 p3 : Pos} {v : D} (h : ev cx n sc ρ (.Call (.Name lnm p1) [.Name y p2] [] p3) = some v) (hb : bltOf cx sc lnm = some "list") (hp : plainName y = true) (hl : sc.names.lookup y = some .local) (hd : ρ.lookup y = some (.sh d)) : ∃ es, items d = some es ∧ v = .lst es := by
  cases n with
  | zero => exact nomatch (show (Option.none : Option D) = some v from h)
  | succ n =>
    unfold bltOf at hb
    split at hb
    · rename_i hg
      have hw : wcOf cx sc "list" [Expr.Name y p2] = .al := rfl
      simp only [ev, hg, if_true, hb, hw, List.isEmpty_cons, Bool.false_eq_true, if_false] at h
      obtain ⟨ds, h1, h2⟩ := obind h
      simp only [mapO] at h1
      obtain ⟨d', g1, g2⟩ := obind h1
      cases n with
      | zero => exact nomatch (show (Option.none : Option D) = some d' from g1)
      | succ n =>
        simp only [ev, hp, if_true, hl, hd, Option.some.injEq] at g1
        subst g1
        obtain ⟨_, g3, g4⟩ := obind g2
        cases g3
        cases g4
        obtain ⟨es, g5, g6⟩ := obind (show (items d >>= fun l => some (D.lst l)) = some v from h2)
        cases g6
        exact ⟨es, g5, rfl⟩
    · cases hb
theorem own_cat {a b : Expr} {d1 d2 : List D} {pos : Pos} (ha : Ev X ρ a (.lst d1)) (hb : Ev X ρ b (.lst d2)) (hz : szl (d1.length + d2.length) = true) : OwnE X ρ (.BinOp a .Add b pos) (d1 ++ d2) := fun σ H Hs Q hs hst hq => by
  refine (pe_op op_catL pe_sem pe_sem).sem (ha σ H Hs _ hs hst fun u H1 Hs1 E1 r1 => hb σ H1 Hs1 _ E1.sub (hst.same E1.vis) fun v H2 Hs2 E2 r2 => ?_)
  obtain ⟨p, us, rfl, g1, g2⟩ := rep_lst (Rep.same E2.vis _ _ r1)
  obtain ⟨q, ws, rfl, g3, g4⟩ := rep_lst r2
  have l1 := g2.length
  have l2 := g4.length
  have E := E1.trans E2
  exact ⟨p, q, us, ws, rfl, rfl, E2.sub.seq g1, E2.sub.seq g3, by have := szl_ok hz; omega, fun l hl => hq l _ Hs2 _ (Ext.acc E (E.all.free hl) (E.sub.free hl)) (E.all.free hl) (E.sub.free hl) upd_same (g2.append g4)⟩
theorem comp_oo {iter : Expr} {l : List D} {lnm y : Str} {p1 p2 p3 pt : Pos} {dss : List (List D)} (G : Good cx k X sc) (hN : X.N = ρ.map (·.1)) (hok : compOk sc scope = true) (hI : EvI X ρ (.Name y pt) iter l) (hz : szl l.length = true)
    (hb : bltOf cx (relS scope sc) lnm = some "list") (hpy : plainName y = true) (hly : (relS scope sc).names.lookup y = some .local) (hlen : dss.length = l.length)
    (hs1 : ∀ (i : Nat) d, l[i]? = some d → ∃ ρ1 es, bindT scope (.Name y pt) d (compRho scope ρ) = some ρ1 ∧ ρ1.lookup y = some (.sh d) ∧ items d = some es ∧ dss[i]? = some es)
    {σ : St} {H Hs : Hp} {Q : VK} (hs : Same Hs H) (hst : RepSt X.K Hs ρ σ) (hq : ∀ a bs Hs' H', Ext Hs H Hs' H' → OO X.K H Hs' H' a bs dss → Q (.ref a) H') :
    tComp X scope (tSemI X (.Name y pt) iter) (mkSt X.N scope.names) (fun Xc => gSem Xc (.Name y pt)) (fun Xc => ifSem Xc []) (fun Xc => tSem Xc (.Call (.Name lnm p1) [.Name y p2] [] p3)) σ H Q := by
  obtain ⟨ok1, ok2, ok3⟩ := compOk_ok G hok
  refine hI σ H Hs _ hs hst fun J H1 Hs1 E1 hJ acc hacc Xc C => ?_
  have GC := G.comp C hok
  have OC := Owns.comp (scope := scope) G C
  have hNc : ∀ ρ1 : Rho, ρ1.map (·.1) = scope.names.map (·.1) → Xc.N = ρ1.map (·.1) := fun ρ1 h => by rw [C.N, h]
  have a1 : Hs1 acc = none := E1.sub.free hacc
  have a0 : H acc = none := E1.all.free hacc
  let W : Nat → Nat → St → Hp → Prop := fun i m σc H3 => m = l.length - i ∧ i ≤ l.length ∧ ∃ Hs3 bs, Ext Hs1 H1 Hs3 H3 ∧ OO X.K H Hs3 H3 acc bs (dss.take i) ∧ σc.length = scope.names.length ∧ RepSt X.K Hs3 (compRho scope ρ) σc
  refine ⟨W, ⟨l.length, rfl, Nat.zero_le _, Hs1, [], Ext.acc (.refl E1.sub) hacc a1, ⟨upd_same, a1, a0, .nil, by simp, by simp, fun j b e => by simp at e⟩, by simp [mkSt], compRho_rep hN (hst.same E1.vis)⟩, ?_⟩
  rintro i m σc H3 ⟨rfl, hi, Hs3, bs, E3, o3, l3, s3⟩
  obtain ⟨st3, go3⟩ := hJ Hs3 H3 E3.vis E3.sub
  by_cases hlt : i < l.length
  · have hd : l[i]? = some l[i] := List.getElem?_eq_getElem hlt
    obtain ⟨gi, yi⟩ := go3 i l[i] hd
    refine .inr ⟨gi, fun σ' H' => W (i + 1) (l.length - (i + 1)) σ' H', fun σ' H' w => ⟨_, by omega, w⟩, fun x H4 y4 => ?_⟩
    obtain ⟨Hs4, E4, rx⟩ := yi x H4 y4
    obtain ⟨ρ1, es, k1, k2, k3, k4⟩ := hs1 i l[i] hd
    have s4 : RepSt X.K Hs4 (compRho scope ρ) σc := s3.same E4.vis
    have KE := keeps_comp (K := Xc.K) (Hs := Hs4) (ρ := ρ) (n := scope.names.length) ok2 rfl
    refine bind_ok (X := Xc) (scope := scope) (Hs := Hs4) GC.calm OC GC.nd E4.sub (hNc _ compRho_names) KE k1 ⟨compRho_names, l3, by rw [C.K]; exact s4, by rw [C.K]; exact s4⟩ (by rw [C.K]; exact rx) fun σ5 hN5 p5 => ?_
    obtain ⟨_, l5, s5, s5'⟩ := p5
    refine ev_ifs (f := fun _ => none) (ifs := []) (b := true) (fun _ _ h => nomatch h) rfl E4.sub s5 fun H6 Hs6 E6 => iteT ?_
    have hv : Vis Xc.env.scope y := by
      unfold Vis
      rw [GC.sce, hly]
      exact .inl rfl
    have hE : Ev Xc ρ1 (.Name y p2) l[i] := ev_name hN5 hv hpy k2
    obtain ⟨hg, hm, rfl⟩ := bltOf_ok GC hb
    refine (pe_callTy (call_list_of (X := Xc)) hg hm (by decide +kernel) (pa_cons pe_sem pa_nil (plain_star rfl)) (by decide) (by decide) (plain_star rfl) rfl).sem ?_
    refine hE σ5 H6 Hs6 _ E6.sub (s5.same E6.vis) fun v H7 Hs7 E7 r7 => ?_
    obtain ⟨q, us, rfl, g1, g2⟩ := rep_items r7 k3
    have E47 := E4.trans (E6.trans E7)
    have o7 := o3.step E47
    have E17 : Ext Hs1 H1 Hs7 H7 := E3.trans E47
    refine ⟨q, us, rfl, g1.imp E7.sub.seq E7.sub.tup, fun b hb7 => ?_⟩
    have ne : acc ≠ b := fun w => by rw [← w, o7.1] at hb7; cases hb7
    refine ⟨bs.map V.ref, by rw [upd_ne ne]; exact o7.1, ?_, rfl, hlt, Hs7, bs ++ [b], ?_, ?_, l5, ?_⟩
    · have := szl_lt hz
      have := o7.2.2.2.2.2.1
      rw [List.length_map, this, List.length_take]
      omega
    · exact Ext.acc (Ext.acc E17 (E17.all.free hb7) (E17.sub.free hb7)) hacc o7.2.1
    · have b0 : H b = none := E1.all.free (E17.all.free hb7)
      have ln := o7.2.2.2.2.2.1
      have old : ∀ (j : Nat) b', bs[j]? = some b' → b' ≠ b ∧ b' ≠ acc := fun j b' e => by
        obtain ⟨_, _, _, _, _, m4, _⟩ := o7.2.2.2.2.2.2 j b' e
        refine ⟨fun w => ?_, fun w => o7.2.2.2.2.1 (by rw [← w]; exact List.mem_of_getElem? e)⟩
        rw [w, hb7] at m4
        cases m4
      refine ⟨by rw [upd_same, List.map_append]; rfl, o7.2.1, o7.2.2.1, ?_, ?_, ?_, fun j b' e => ?_⟩
      · rw [List.nodup_append]
        refine ⟨o7.2.2.2.1, by simp, fun x' hx' y' hy' => ?_⟩
        obtain ⟨j, e⟩ := List.mem_iff_getElem?.mp hx'
        rw [List.mem_singleton.mp hy']
        exact (old j x' e).1
      · rw [List.mem_append, not_or]
        exact ⟨o7.2.2.2.2.1, by simpa using ne⟩
      · rw [List.length_append, ln, List.length_take, List.length_take, List.length_singleton]
        omega
      · by_cases hj : j < bs.length
        · rw [List.getElem?_append_left hj] at e
          obtain ⟨m1, m2, ds, ws, m3, m4, m5⟩ := o7.2.2.2.2.2.2 j b' e
          obtain ⟨n1, n2⟩ := old j b' e
          refine ⟨m1, m2, ds, ws, ?_, by rw [upd_ne n2, upd_ne n1]; exact m4, m5⟩
          rw [ln, List.length_take] at hj
          rw [List.getElem?_take] at m3 ⊢
          rw [if_pos (by omega)] at m3 ⊢
          exact m3
        · rw [List.getElem?_append_right (by omega)] at e
          have ej : j - bs.length = 0 := by
            rcases Nat.eq_zero_or_pos (j - bs.length) with z | z
            · exact z
            · rw [List.getElem?_eq_none (by simp; omega)] at e; cases e
          rw [ej] at e
          have eb : b = b' := by simpa using e
          subst eb
          have jl : j = i := by
            rw [ln, List.length_take] at hj ej
            omega
          subst jl
          refine ⟨E17.sub.free hb7, b0, es, us, ?_, by rw [upd_ne (Ne.symm ne)]; exact upd_same, by rw [← C.K]; exact g2⟩
          rw [List.getElem?_take, if_pos (by omega)]
          exact k4
    · rw [← C.K]
      exact s5'.same (E6.trans E7).vis
  · have hi' : i = l.length := by omega
    subst hi'
    refine .inl ⟨st3, hq acc bs Hs3 H3 (E1.trans E3) ?_⟩
    rw [← hlen, List.take_length] at o3
    exact o3
theorem OO.low {K : PySem.W.Frag} {H0 H1 Hs H : Hp} {a : Addr} {bs : List Addr} {dss : List (List D)} (h : OO K H1 Hs H a bs dss) (q : ∀ b, H1 b = none → H0 b = none) : OO K H0 Hs H a bs dss := by
  obtain ⟨h1, h2, h3, h4, h5, h6, h7⟩ := h
  refine ⟨h1, h2, q _ h3, h4, h5, h6, fun j b e => ?_⟩
  obtain ⟨k1, k2, k3⟩ := h7 j b e
  exact ⟨k1, q _ k2, k3⟩
theorem lsts_get : ∀ {ds : List D} {dss : List (List D)}, lsts ds = some dss → dss.length = ds.length ∧ ∀ (i : Nat) d, ds[i]? = some d → ∃ es, d = .lst es ∧ dss[i]? = some es
  | [], dss, h => by cases h; exact ⟨rfl, fun i d e => by simp at e⟩
  | d :: ds, dss, h => by
    cases d with
    | lst es =>
      simp only [lsts, Option.map_eq_some_iff] at h
      obtain ⟨r, h1, rfl⟩ := h
      obtain ⟨g1, g2⟩ := lsts_get h1
      refine ⟨by simp [g1], fun i d e => ?_⟩
      cases i with
      | zero => simp at e; subst e; exact ⟨es, rfl, rfl⟩
      | succ i => exact g2 i d (by simpa using e)
    | _ => simp [lsts] at h
theorem compGo_get {f : D → Option (Option D)} : ∀ {l out : List D}, (∀ d ∈ l, f d ≠ some none) → compGo f l = some out → out.length = l.length ∧ ∀ (i : Nat) d, l[i]? = some d → ∃ v, f d = some (some v) ∧ out[i]? = some v
  | [], out, _, h => by cases h; exact ⟨rfl, fun i d e => by simp at e⟩
  | d :: l, out, hn, h => by
    rcases compGo_cons h with ⟨v, o', f1, f2, rfl⟩ | ⟨f1, _⟩
    · obtain ⟨g1, g2⟩ := compGo_get (fun d hd => hn d (List.mem_cons_of_mem _ hd)) f2
      refine ⟨by simp [g1], fun i d e => ?_⟩
      cases i with
      | zero => simp at e; subst e; exact ⟨v, f1, rfl⟩
      | succ i => exact g2 i d (by simpa using e)
    · exact absurd f1 (hn d List.mem_cons_self)
theorem st_oo {x : Str} {px pos : Pos} {dss : List (List D)} (G : GoodS cx k X sc) (hN : X.N = ρ.map (·.1)) (hx : ownIn sc x = true) (hc : (ρ.map (·.1)).contains x = true) (hoo : ooE cx sc e = true) (hon : onlyC (frz F e ρ) x = true) (he : ev cx F sc (frz F e ρ) e = some d) (hd : lstsD d = some dss) :
    Runs X Hs0 H0 ρ (.nxt (setR (frz F e ρ) x (.oo dss))) (sSem X (.Assign [.Name x px] e pos)) := by
  obtain ⟨ox, of⟩ := G.own.own x hx
  have hN' : X.N = (frz F e ρ).map (·.1) := by rw [frz_names]; exact hN
  unfold ooE at hoo
  split at hoo
  · rename_i lnm p1 y p2 p3 y' pt iter a0 scope p4
    simp only [Bool.and_eq_true] at hoo
    obtain ⟨⟨⟨⟨q1, q2⟩, q3⟩, q4⟩, q5⟩ := hoo
    have ey : y = y' := by simpa using q1
    subst ey
    have hb : bltOf cx (relS scope sc) lnm = some "list" := by simpa using q2
    have hly : (relS scope sc).names.lookup y = some .local := by simpa using q5
    cases F with
    | zero => exact nomatch (show (Option.none : Option D) = some d from he)
    | succ F =>
      obtain ⟨tg, iter', ifs, l, out, hg, hok, hI, hp, hz, hgo, rfl, hE⟩ := comp_inv' G.good hN' he
      cases hg
      obtain ⟨ok1, ok2, ok3⟩ := compOk_ok G.good hok
      have hf : ∀ d o, compF cx F sc scope (frz (F + 1) (.ListComp (.Call (.Name lnm p1) [.Name y p2] [] p3) [⟨.Name y pt, iter, [], 0⟩] scope p4) ρ) (.Name y pt) (.Call (.Name lnm p1) [.Name y p2] [] p3) [] d = some o → ∃ ρ1 v, bindT scope (.Name y pt) d (compRho scope (frz (F + 1) (.ListComp (.Call (.Name lnm p1) [.Name y p2] [] p3) [⟨.Name y pt, iter, [], 0⟩] scope p4) ρ)) = some ρ1 ∧ ev cx F (relS scope sc) ρ1 (.Call (.Name lnm p1) [.Name y p2] [] p3) = some v ∧ o = some v := fun d o h => by
        obtain ⟨ρ1, h1, h⟩ := obind h
        obtain ⟨b, h2, h⟩ := obind h
        cases h2
        simp only [if_true, Option.map_eq_some_iff] at h
        obtain ⟨v, h3, h4⟩ := h
        exact ⟨ρ1, v, h1, h3, h4.symm⟩
      obtain ⟨n1, n2⟩ := compGo_get (fun d _ h => by obtain ⟨_, _, _, _, h⟩ := hf d _ h; cases h) hgo
      obtain ⟨m1, m2⟩ := lsts_get (show lsts out = some dss from hd)
      intro σ H Hs D h _ hn hr
      obtain ⟨i, hi⟩ := contains_ix hc
      obtain ⟨Hs1, sm1, h1⟩ := h.frozen (F + 1) (.ListComp (.Call (.Name lnm p1) [.Name y p2] [] p3) [⟨.Name y pt, iter, [], 0⟩] scope p4)
      have hnd : ((frz (F + 1) (.ListComp (.Call (.Name lnm p1) [.Name y p2] [] p3) [⟨.Name y pt, iter, [], 0⟩] scope p4) ρ).map (·.1)).Nodup := by rw [frz_names, ← hN]; exact G.good.nd
      have hi' : X.N[i]? = some x := by rw [hN]; exact hi
      have rd : tComp X scope (tSemI X (.Name y pt) iter) (mkSt X.N scope.names) (fun Xc => gSem Xc (.Name y pt)) (fun Xc => ifSem Xc []) (fun Xc => tSem Xc (.Call (.Name lnm p1) [.Name y p2] [] p3)) σ H (fun v H1 => D.nx (σ.set i (some v)) H1) := by
        refine comp_oo (dss := dss) G.good hN' hok hI hz hb q3 hly (by rw [m1, n1]) (fun j dd hj => ?_) h1.ext.sub h1.sh fun a bs Hs' H' E o => ?_
        · obtain ⟨v, f1, f2⟩ := n2 j dd hj
          obtain ⟨ρ1, v', b1, b2, b3⟩ := hf dd _ f1
          cases b3
          have lk : ρ1.lookup y = some (.sh dd) := by
            have b1' : (if ownIn scope y && ((compRho scope (frz (F + 1) (.ListComp (.Call (.Name lnm p1) [.Name y p2] [] p3) [⟨.Name y pt, iter, [], 0⟩] scope p4) ρ)).map (·.1)).contains y then some (setR (compRho scope (frz (F + 1) (.ListComp (.Call (.Name lnm p1) [.Name y p2] [] p3) [⟨.Name y pt, iter, [], 0⟩] scope p4) ρ)) y (.sh dd)) else none) = some ρ1 := b1
            split at b1'
            · rename_i hcc
              cases b1'
              rw [Bool.and_eq_true] at hcc
              exact look_setR hcc.2
            · cases b1'
          obtain ⟨es, g1, g2⟩ := list_inv b2 hb q3 hly lk
          obtain ⟨es', g3, g4⟩ := m2 j v f2
          rw [g2] at g3
          cases g3
          exact ⟨ρ1, es, b1, lk, g1, g4⟩
        · exact hn _ _ Hs' H' rfl (sm1.trans E.vis) (by rw [setR_names, frz_names]; exact hN) ((h1.step E).own2 hnd (by rw [frz_names]; exact hi) (o.low fun b q => h1.ext.all.free q) (onlyC_ok hnd (by rw [frz_names]; exact hi) hon))
      cases hsw : (X.env.blockKind == .function && X.env.kindOf x == some .local && px.line == p4.line && !(scope.names.any fun (n, k) => n == x && (k == .local || k == .cell))) with
      | true =>
        have e1 : swapsWith (.ListComp (.Call (.Name lnm p1) [.Name y p2] [] p3) [⟨.Name y pt, iter, [], 0⟩] scope p4) (some (.Name x px)) pos.line X.env = pure true := by rw [← hsw]; rfl
        rw [Bool.and_eq_true, Bool.and_eq_true, Bool.and_eq_true] at hsw
        have hl : X.env.scope.names.lookup x = some .local := by simpa [Env.kindOf] using hsw.1.1.2
        exact PS.sem (ps_setC G.good.nd hi' hl G.good.calm ok1 ok2 ok3 pi_sem (fun Xc C => ⟨pg_sem, pifs_sem, pe_sem⟩) (plain_set hp) e1) rd
      | false =>
        have e1 : swapsWith (.ListComp (.Call (.Name lnm p1) [.Name y p2] [] p3) [⟨.Name y pt, iter, [], 0⟩] scope p4) (some (.Name x px)) pos.line X.env = pure false := by rw [← hsw]; rfl
        exact PS.sem (ps_set G.good.nd hi' ox (pe_comp G.good.calm ok1 ok2 ok3 pi_sem (fun Xc C => ⟨pg_sem, pifs_sem, pe_sem⟩) (plain_set hp)) e1 of) rd
  · cases hoo
theorem plain_asg {o i : Expr} {pos : Pos} {env : Env} (h : plainE i = true) : ∀ v, assign (.Subscript o i pos) env v = (do
      let ov ← holding [v] (eval o env)
      let iv ← holding [v, ov] (eval i env)
      standAt pos
      holding [v, ov, iv] (setItem ov iv v)
      release [v, ov, iv] []) := by
  intro v
  cases i <;> first | rfl | (exact absurd h (by simp [plainE]))
theorem nd_set {b : Addr} : ∀ {l : List Addr} (n : Nat), l.Nodup → b ∉ l → (l.set n b).Nodup
  | [], n, h, _ => by simpa using h
  | a :: l, 0, h, hb => by
    rw [List.set_cons_zero, List.nodup_cons]
    exact ⟨fun w => hb (List.mem_cons_of_mem _ w), (List.nodup_cons.mp h).2⟩
  | a :: l, n + 1, h, hb => by
    rw [List.nodup_cons] at h
    rw [List.set_cons_succ, List.nodup_cons]
    refine ⟨fun w => ?_, nd_set n h.2 fun w => hb (List.mem_cons_of_mem _ w)⟩
    rcases List.mem_or_eq_of_mem_set w with w | w
    · exact h.1 w
    · exact hb (by rw [w]; exact List.mem_cons_self)
theorem isCat_ok {e : Expr} (h : isCat e = true) : ∃ a b p, e = .BinOp a .Add b p := by
  cases e with
  | BinOp a op b p => cases op <;> first | exact ⟨a, b, p, rfl⟩ | cases h
  | _ => cases h
theorem st_sto1 {x : Str} {ie : Expr} {dss : List (List D)} {ds : List D} {j : Int} {n : Nat} {px tp pos : Pos} (G : GoodS cx k X sc) (hN : X.N = ρ.map (·.1)) (hx : (frz F ie (frz F e ρ)).lookup x = some (.oo dss)) (ho : ownIn sc x = true) (hp : plainName x = true) (hcat : isCat e = true)
    (q1 : ev cx F sc (frz F ie (frz F e ρ)) e = some (.lst ds)) (q2 : ev cx F sc (frz F ie (frz F e ρ)) ie = some (.int j)) (q3 : ixD dss.length j = some n) :
    Runs X Hs0 H0 ρ (.nxt (setR (frz F ie (frz F e ρ)) x (.oo (dss.set n ds)))) (sSem X (.Assign [.Subscript (.Name x px) ie tp] e pos)) := by
  have hN' : X.N = (frz F ie (frz F e ρ)).map (·.1) := by rw [frz_names, frz_names]; exact hN
  obtain ⟨i, hi, _⟩ := lookup_ix hx
  have nd : ((frz F ie (frz F e ρ)).map (·.1)).Nodup := by rw [← hN']; exact G.good.nd
  obtain ⟨ea, eb, pe, rfl⟩ := isCat_ok hcat
  · cases F with
    | zero => exact nomatch (show (Option.none : Option D) = some (D.lst ds) from q1)
    | succ F =>
      simp only [ev] at q1
      obtain ⟨da, h1, q1⟩ := obind q1
      obtain ⟨db, h2, q1⟩ := obind q1
      have hc : ∃ d1 d2, da = .lst d1 ∧ db = .lst d2 ∧ szl (d1.length + d2.length) = true ∧ ds = d1 ++ d2 := by
        cases da <;> cases db <;> simp [binop] at q1
        obtain ⟨z1, z2⟩ := q1
        exact ⟨_, _, rfl, rfl, z1, z2.symm⟩
      obtain ⟨d1, d2, rfl, rfl, hz, rfl⟩ := hc
      intro σ H Hs D h _ hn hr
      obtain ⟨Hs1, sm1, h1'⟩ := h.frozen (F + 1) (.BinOp ea .Add eb pe)
      obtain ⟨Hs2, sm2, h2'⟩ := h1'.frozen (F + 1) ie
      obtain ⟨⟨ad, bs, k1, k2⟩, _⟩ := h2'.oo i x dss hi
      unfold plainName at hp
      rw [Bool.and_eq_true, bne_iff_ne, bne_iff_ne] at hp
      have vis : Vis X.env.scope x := (G.own.own x ho).1.elim .inl fun q => .inr (.inl q)
      have hNi : X.N[i]? = some x := by rw [hN', List.getElem?_map, hi]; rfl
      have pv : ∀ {pp : Pos}, PE X (.Name x pp) (tVar i) := fun {pp} => pe_var hNi vis (by simpa using hp.1) (by simpa using hp.2)
      refine PS.sem (ps_asg pe_sem (pg_sub pv pe_sem set_list (plain_asg (ev_plain q2))) rfl rfl rfl) ?_
      refine own_cat (ev_ok cx F G.good hN' h1).1 (ev_ok cx F G.good hN' h2).1 hz σ H Hs2 _ h2'.ext.sub h2'.sh fun b us Hs3 H3 E1 b1 b2 b3 r => ?_
      refine ⟨.ref ad, k1, (ev_ok cx (F + 1) G.good hN' q2).1 σ H3 Hs3 _ E1.sub (h2'.sh.same E1.vis) fun v3 H4 Hs4 E2 r3 => ?_⟩
      have E := E1.trans E2
      have k4 := k2.step E
      have hb4 : H4 b = some (.lst us) := E2.all _ _ b3
      have hb5 : Hs4 b = none := E2.hid b _ b3 b2
      have r4 := RepL.same E2.vis (d1 ++ d2) us r
      have h0b : H0 b = none := h2'.ext.all.free b1
      have nb : b ∉ bs := fun w => by
        obtain ⟨jj, e⟩ := List.mem_iff_getElem?.mp w
        obtain ⟨_, _, _, _, _, m4, _⟩ := k2.2.2.2.2.2.2 jj b e
        rw [b1] at m4; cases m4
      have nab : ad ≠ b := fun w => by rw [← w, k2.1] at b1; cases b1
      refine ⟨ad, bs.map V.ref, j, n, rfl, rep_int r3, k4.1, by rw [List.length_map, k2.2.2.2.2.2.1, ← ixD_eq]; exact q3, ?_⟩
      have nlt : n < bs.length := by
        rw [k2.2.2.2.2.2.1]
        unfold ixD at q3
        split at q3
        · split at q3
          · cases q3; omega
          · cases q3
        · split at q3
          · cases q3; omega
          · cases q3
      refine hn _ _ Hs4 _ rfl (sm1.trans (sm2.trans E.vis)) (by rw [setR_names]; exact hN') ((h2'.step E).app2 nd hi k1 k4.2.1 k4.2.2.1 (bs' := bs.set n b) ⟨by rw [upd_same, List.map_set], k4.2.1, k4.2.2.1, ?_, ?_, by rw [List.length_set, List.length_set]; exact k4.2.2.2.2.2.1, fun jj b' e => ?_⟩)
      · exact nd_set n k2.2.2.2.1 nb
      · intro w
        rcases List.mem_or_eq_of_mem_set w with w | w
        · exact k2.2.2.2.2.1 w
        · exact nab w
      · rw [List.getElem?_set] at e
        split at e
        · rename_i hjj
          have eb' : b = b' := by simpa [nlt] using e
          subst eb'
          refine ⟨hb5, h0b, d1 ++ d2, us, ?_, by rw [upd_ne (Ne.symm nab)]; exact hb4, r4⟩
          rw [List.getElem?_set, if_pos hjj, if_pos (by rw [← k2.2.2.2.2.2.1]; exact nlt)]
        · rename_i hjj
          obtain ⟨m1, m2, ds', us', m3, m4, m5⟩ := k4.2.2.2.2.2.2 jj b' e
          refine ⟨m1, m2, ds', us', ?_, ?_, m5⟩
          · rw [List.getElem?_set, if_neg hjj]; exact m3
          · rw [upd_ne]
            · exact m4
            · intro w
              exact k4.2.2.2.2.1 (by rw [← w]; exact List.mem_of_getElem? e)
theorem RepL.set {K : PySem.W.Frag} {H : Hp} {d : D} {v : V} (hv : Rep K H d v) : ∀ {ds : List D} {vs : List V} (n : Nat), RepL K H ds vs → RepL K H (ds.set n d) (vs.set n v)
  | [], vs, n, h => by
    have : vs = [] := by simpa [RepL] using h
    subst this
    simpa [RepL] using h
  | e :: ds, vs, n, h => by
    simp only [RepL] at h
    obtain ⟨w, r, rfl, h1, h2⟩ := h
    cases n with
    | zero => exact .cons hv h2
    | succ n => exact .cons h1 (RepL.set hv n h2)
theorem sole_no {tg : Expr} {l : Nat} {env : Env} (he : ev cx F sc ρ e = some d) (hc : isFresh e = false) : swapsWithSole [tg] e l env = pure false := by
  show swapsWith e (some tg) l env = pure false
  exact swaps_not he fun a b c p q => by rw [q] at hc; cases hc
theorem stores_no {o i : Expr} {pos : Pos} {env : Env} : swappedStores [.Subscript o i pos] e env = pure none := by
  cases e <;> rfl
theorem st_sto2 {x : Str} {i1 i2 : Expr} {dss : List (List D)} {ds : List D} {j1 j2 : Int} {n1 n2 : Nat} {px tp tp2 pos : Pos} (G : GoodS cx k X sc) (hN : X.N = ρ.map (·.1)) (hx : (frz F i2 (frz F i1 (frz F e ρ))).lookup x = some (.oo dss)) (ho : ownIn sc x = true) (hp : plainName x = true) (hfr : isFresh e = false)
    (q1 : ev cx F sc (frz F i2 (frz F i1 (frz F e ρ))) e = some d) (q2 : ev cx F sc (frz F i2 (frz F i1 (frz F e ρ))) i1 = some (.int j1)) (q3 : ixD dss.length j1 = some n1) (q4 : dss[n1]? = some ds) (q5 : ev cx F sc (frz F i2 (frz F i1 (frz F e ρ))) i2 = some (.int j2)) (q6 : ixD ds.length j2 = some n2) :
    Runs X Hs0 H0 ρ (.nxt (setR (frz F i2 (frz F i1 (frz F e ρ))) x (.oo (dss.set n1 (ds.set n2 d))))) (sSem X (.Assign [.Subscript (.Subscript (.Name x px) i1 tp) i2 tp2] e pos)) := by
  have hN' : X.N = (frz F i2 (frz F i1 (frz F e ρ))).map (·.1) := by rw [frz_names, frz_names, frz_names]; exact hN
  obtain ⟨i, hi, _⟩ := lookup_ix hx
  have nd : ((frz F i2 (frz F i1 (frz F e ρ))).map (·.1)).Nodup := by rw [← hN']; exact G.good.nd
  intro σ H Hs D h _ hn hr
  obtain ⟨Hs1, sm1, h1⟩ := h.frozen F e
  obtain ⟨Hs2, sm2, h2⟩ := h1.frozen F i1
  obtain ⟨Hs3, sm3, h3⟩ := h2.frozen F i2
  obtain ⟨⟨ad, bs, k1, k2⟩, _⟩ := h3.oo i x dss hi
  unfold plainName at hp
  rw [Bool.and_eq_true, bne_iff_ne, bne_iff_ne] at hp
  have vis : Vis X.env.scope x := (G.own.own x ho).1.elim .inl fun q => .inr (.inl q)
  have hNi : X.N[i]? = some x := by rw [hN', List.getElem?_map, hi]; rfl
  have pv : ∀ {pp : Pos}, PE X (.Name x pp) (tVar i) := fun {pp} => pe_var hNi vis (by simpa using hp.1) (by simpa using hp.2)
  have ll := k2.2.2.2.2.2.1
  have nlt : n1 < bs.length := by
    rw [ll]
    exact (List.getElem?_eq_some_iff.mp q4).1
  obtain ⟨b, hb⟩ : ∃ b, bs[n1]? = some b := ⟨_, List.getElem?_eq_getElem nlt⟩
  refine PS.sem (ps_asg pe_sem (pg_sub (pe_ix ix_list pv pe_sem (plain_ix (ev_plain q2))) pe_sem set_list (plain_asg (ev_plain q5))) (sole_no q1 hfr) stores_no rfl) ?_
  refine (ev_ok cx F G.good hN' q1).1 σ H Hs3 _ h3.ext.sub h3.sh fun v1 H1 Hs4 E1 r1 => ?_
  refine ⟨.ref ad, k1, (ev_ok cx F G.good hN' q2).1 σ H1 Hs4 _ E1.sub (h3.sh.same E1.vis) fun v2 H2 Hs5 E2 r2 => ?_⟩
  have o2 := (k2.step E1).step E2
  refine ⟨ad, bs.map V.ref, j1, .ref b, rfl, rep_int r2, .of o2.1, ?_, ?_⟩
  · unfold atI
    rw [List.length_map, ll, ← ixD_eq, q3]
    show (bs.map V.ref)[n1]? = _
    rw [List.getElem?_map, hb]; rfl
  refine (ev_ok cx F G.good hN' q5).1 σ H2 Hs5 _ E2.sub ((h3.sh.same E1.vis).same E2.vis) fun v3 H3 Hs6 E3 r3 => ?_
  have o3 := o2.step E3
  obtain ⟨m1, m2, ds', us, m3, m4, m5⟩ := o3.2.2.2.2.2.2 n1 b hb
  rw [q4] at m3
  cases m3
  have E := E1.trans (E2.trans E3)
  have nab : ad ≠ b := fun w => o3.2.2.2.2.1 (by rw [w]; exact List.mem_of_getElem? hb)
  refine ⟨b, us, j2, n2, rfl, rep_int r3, m4, by rw [← m5.length, ← ixD_eq]; exact q6, ?_⟩
  refine hn _ _ Hs6 _ rfl (sm1.trans (sm2.trans (sm3.trans E.vis))) (by rw [setR_names]; exact hN') ((h3.step E).app2 nd hi k1 m1 m2 (bs' := bs) ⟨by rw [upd_ne nab]; exact o3.1, o3.2.1, o3.2.2.1, o3.2.2.2.1, o3.2.2.2.2.1, by rw [List.length_set]; exact o3.2.2.2.2.2.1, fun jj b' e => ?_⟩)
  by_cases hjj : n1 = jj
  · subst hjj
    rw [hb] at e
    cases e
    refine ⟨m1, m2, ds.set n2 d, us.set n2 v1, ?_, upd_same, RepL.set (Rep.same (E2.trans E3).vis d v1 r1) n2 m5⟩
    rw [List.getElem?_set, if_pos rfl, if_pos (by rw [← ll]; exact nlt)]
  · obtain ⟨m1', m2', ds', us', m3', m4', m5'⟩ := o3.2.2.2.2.2.2 jj b' e
    refine ⟨m1', m2', ds', us', ?_, ?_, m5'⟩
    · rw [List.getElem?_set, if_neg hjj]; exact m3'
    · rw [upd_ne]
      · exact m4'
      · intro w
        rw [w] at e
        exact hjj ((List.getElem?_inj nlt o3.2.2.2.1).mp (hb.trans e.symm))
end
end L2

set_option Elab.async false
set_option linter.all false
set_option maxRecDepth 100000
namespace L2
open PySem PySem.Spec PyProof.Rows PySem.SeqAt
open DE hiding st
section
variable {X : Cx} {ρ : Rho} {cx : Cxt} {k F : Nat} {sc scope : Scope} {Hs0 H0 : Hp} {e : Expr} {d : D}
theorem st_tup {es : List Expr} {l : List D} {ρ' : Rho} {kt : Nat} {pt pos : Pos} (G : GoodS cx k X sc) (hN : X.N = ρ.map (·.1)) (hs : (swp sc es e).isSome = true) (he : ev cx F sc (frz F e ρ) e = some d) (hl : items d = some l) (hb : bindNames sc es l (frz F e ρ) = some ρ') :
    Runs X Hs0 H0 ρ (.nxt ρ') (sSem X (.Assign [.Tuple es kt pt] e pos)) := by
  have hN' : X.N = (frz F e ρ).map (·.1) := by rw [frz_names]; exact hN
  obtain ⟨b, hb'⟩ := Option.isSome_iff_exists.mp hs
  cases b with
  | false =>
    have hw := swp_no (kt := kt) (pt := pt) G.good hb'
    have hso : swapsWithSole [.Tuple es kt pt] e pos.line X.env = pure false := by
      show swapsWith e (some (.Tuple es kt pt)) pos.line X.env = pure false
      by_cases hc : ∃ a b c p, e = .ListComp a b c p
      · obtain ⟨a, b, c, p, rfl⟩ := hc
        rfl
      · exact swaps_not he fun a b c p q => hc ⟨a, b, c, p, q⟩
    intro σ H Hs D h _ hn hr
    exact PS.sem (ps_asg pe_sem pg_sem hso hw rfl) (ev_st G hN he h fun v Hs' H' sm h' r => bind_items G h'.ext.sub hN' keeps_hd hl hb h' r fun σ' hN2 p => hn ρ' σ' Hs' H' rfl sm hN2 p)
  | true =>
    obtain ⟨x, px, y, py, a, b, k2, p2, rfl, rfl, lx, ly, hxy, pa, pb, hw⟩ := swp_yes (kt := kt) (pt := pt) G.good hb'
    cases F with
    | zero => simp [ev] at he
    | succ F =>
      simp only [ev] at he
      obtain ⟨ds, h1, he⟩ := obind he
      split at he
      · cases he
        simp only [items, Option.some.injEq] at hl
        subst hl
        have hA := (ev_args (fun e _ d hd => ⟨(ev_ok cx F G.good hN' hd).1, ev_plain hd⟩) h1).1
        have hlen : ds.length = 2 := by have := (names_each (env := X.env) hb).2.2; simpa using this.symm
        obtain ⟨d1, d2, rfl⟩ : ∃ d1 d2, ds = [d1, d2] := by
          match ds, hlen with
          | [d1, d2], _ => exact ⟨d1, d2, rfl⟩
        simp only [bindNames] at hb
        split at hb
        · rename_i c1
          split at hb
          · rename_i c2
            cases hb
            rw [Bool.and_eq_true] at c1 c2
            rw [setR_names] at c2
            obtain ⟨i, hi⟩ := contains_ix c1.2
            obtain ⟨j, hj⟩ := contains_ix c2.2
            have hij : i ≠ j := fun z => by rw [z, hj] at hi; cases hi; exact hxy rfl
            intro σ H Hs D h _ hn hr
            obtain ⟨Hs1, sm1, h1'⟩ := h.frozen (F + 1) (.Tuple [a, b] k2 p2)
            refine PS.sem (ps_par G.good.calm G.good.nd (by rw [hN']; exact hi) (by rw [hN']; exact hj) hij lx ly pa_sem hw rfl) (hA σ H Hs1 _ h1'.ext.sub h1'.sh fun vs H' Hs' E r => ?_)
            obtain ⟨v, w, rfl, r1, r2⟩ := repL2 r
            have nd : ((frz (F + 1) (.Tuple [a, b] k2 p2) ρ).map (·.1)).Nodup := by rw [← hN']; exact G.good.nd
            have g1 := (h1'.step E).set nd hi r1
            have g2 := g1.set (by rw [setR_names]; exact nd) (by rw [setR_names]; exact hj) r2
            exact ⟨v, w, rfl, hn _ _ Hs' H' rfl (sm1.trans E.vis) (by rw [setR_names, setR_names]; exact hN') g2⟩
          · cases hb
        · cases hb
      · cases he
theorem st_append {x : Str} {ds : List D} {px ap cp pos : Pos} (G : GoodS cx k X sc) (hN : X.N = ρ.map (·.1)) (hx : (frz F e ρ).lookup x = some (.ow ds)) (ho : ownIn sc x = true) (hp : plainName x = true) (hline : (ap.endLine == cp.line) = true) (hz : szl (ds.length + 1) = true) (he : ev cx F sc (frz F e ρ) e = some d) :
    Runs X Hs0 H0 ρ (.nxt (setR (frz F e ρ) x (.ow (ds ++ [d])))) (sSem X (.Expr (.Call (.Attribute (.Name x px) "append" ap) [e] [] cp) pos)) := by
  have hN' : X.N = (frz F e ρ).map (·.1) := by rw [frz_names]; exact hN
  obtain ⟨i, hi, _⟩ := lookup_ix hx
  have nd : ((frz F e ρ).map (·.1)).Nodup := by rw [← hN']; exact G.good.nd
  have hpl := ev_plain he
  intro σ H Hs D h _ hn hr
  obtain ⟨Hs1, sm1, h1⟩ := h.frozen F e
  obtain ⟨a, vs, k1, k2, k3, k4, k5⟩ := h1.ow i x ds hi
  unfold plainName at hp
  rw [Bool.and_eq_true, bne_iff_ne, bne_iff_ne] at hp
  have vis : Vis X.env.scope x := (G.own.own x ho).1.elim .inl fun q => .inr (.inl q)
  refine PS.sem (ps_expr (pe_bm PySem.F.plainAttrs_list PySem.F.slot_list_append PySem.F.type_list_append mt_append (pe_var (i := i) (by rw [hN', List.getElem?_map, hi]; rfl) vis (by simpa using hp.1) (by simpa using hp.2)) (pa_cons pe_sem pa_nil (plain_star hpl)) rfl (by rw [plain_star hpl]; rfl) hline (plain_star hpl) rfl) rfl) ?_
  refine ⟨_, k1, .inl ⟨rfl, vs, .of k2⟩, ?_⟩
  refine (ev_ok cx F G.good hN' he).1 σ H Hs1 _ h1.ext.sub h1.sh fun v H' Hs' E r => ?_
  have h2 := h1.step E
  refine ⟨a, vs, v, rfl, rfl, E.all _ _ k2, by have := k3.length; have := szl_lt hz; omega, ?_⟩
  exact hn _ _ Hs' _ rfl (sm1.trans E.vis) (by rw [setR_names]; exact hN') (h2.app nd hi k1 (RepL.append (RepL.same E.vis ds vs k3) (.cons r .nil)))
theorem ext_meets (l : Addr) (xs : Array Value) (n : Nat) (b : Addr) (ys : Array Value) (m : Nat) (dd : Option Addr) (sl : Array (Option Value)) (c0 : ¬(!xs.isEmpty && Builtin.List.listTooLong (xs.size + ys.size)) = true) (c1 : xs.size ≤ sizeLine) (c2 : xs.size + ys.size ≤ sizeLine + 1) :
    Meets (Builtin.«list.extend» ⟨[.ref l, .ref b], []⟩) (fun _ R s => s.heap.get? l = some { cls := .type "list", data := .seq xs n } ∧ s.heap.get? b = some { cls := .type "list", dict := dd, data := .seq ys m, slots := sl } ∧
      R (.ok (.ret Value.none)) { s with heap := s.heap.update l (Obj.mapSeq fun x => x ++ ys), toks := s.toks }) :=
  .of_wp fun prog w A R s h => by
    obtain ⟨hp, g, d, tk, os⟩ := s
    obtain ⟨hl, hb, h⟩ := h
    have f1 := sub_list_list; have f2 := AutoSeq1.sub_tuple_list; have f3 := AutoSeq1.sub_list_tuple
    have z : (xs ++ ys).size ≤ sizeLine + 1 := by rw [Array.size_append]; exact c2
    wp_walk using (wpAny_updateSeq hl rfl (hz := c1) (_hz' := z)), AutoSeq1.wpAny_loadPart' hl, AutoSeq1.wpAny_loadPart' hb; exact ⟨_, rfl, h⟩
noncomputable def rExt2 (K : PySem.W.Frag) : V → List V → Hp → VK → Prop := fun x vs H Q => ∃ l b xs zs, x = .ref l ∧ vs = [.ref b] ∧ H l = some (.lst xs) ∧ SqL K H b zs ∧ xs.length + zs.length ≤ sizeLine ∧ Q .non (upd H l (.lst (xs ++ zs)))
theorem mt_ext2 : MtM X "list.extend" (rExt2 X.K) := by
  intro pins s σ H x vs v us Q I rx rv h
  obtain ⟨l, b, xs, zs, rfl, rfl, hH, hB, hz, q⟩ := h
  cases (show v = Value.ref l from rx)
  obtain ⟨u, rfl, ru⟩ := rv.one
  cases (show u = Value.ref b from ru)
  obtain ⟨z, its, n, r, hl, e⟩ := I.lstM hH
  obtain ⟨its2, r2, pl, hz2⟩ := I.list hB
  have hl2 := r2.length
  obtain ⟨⟨c2, dd2, data2, sl2⟩, n2, e2, hc2, hd2, hs2⟩ := pl
  simp only at hc2 hs2
  have hsz : its.toArray.size + its2.toArray.size ≤ sizeLine := by rw [List.size_toArray, List.size_toArray]; omega
  have lng : ¬ (!its.toArray.isEmpty && Builtin.List.listTooLong (its.toArray.size + its2.toArray.size)) = true := fun w => by
    rw [notLongL hsz, Bool.and_false] at w; cases w
  obtain ⟨h3, h4⟩ := (show dd2 = none ∧ data2 = .seq its2.toArray n2 from ⟨hd2, hs2⟩)
  subst hc2 h4
  refine call_meets F.slot_list_extend ⟨_, e, rfl⟩ F.entry_list_extend (F.args_list_extend_2 _ _) (ext_meets l its.toArray n b its2.toArray n2 dd2 sl2 lng (by rw [List.size_toArray]; omega) (by omega)) ⟨e, e2, ?_⟩
  exact ⟨.non, _, I.lset (its' := its ++ its2) hH e (by simp) (r.append r2) (by rw [List.length_append]; omega), rfl, q⟩
theorem ext_meetsT (l : Addr) (xs : Array Value) (n : Nat) (b : Addr) (ys : Array Value) (m : Nat) (dd : Option Addr) (sl : Array (Option Value)) (c0 : ¬(!xs.isEmpty && Builtin.List.listTooLong (xs.size + ys.size)) = true) (c1 : xs.size ≤ sizeLine) (c2 : xs.size + ys.size ≤ sizeLine + 1) :
    Meets (Builtin.«list.extend» ⟨[.ref l, .ref b], []⟩) (fun _ R s => s.heap.get? l = some { cls := .type "list", data := .seq xs n } ∧ s.heap.get? b = some { cls := .type "tuple", dict := dd, data := .seq ys m, slots := sl } ∧
      R (.ok (.ret Value.none)) { s with heap := s.heap.update l (Obj.mapSeq fun x => x ++ ys), toks := s.toks }) :=
  .of_wp fun prog w A R s h => by
    obtain ⟨hp, g, d, tk, os⟩ := s
    obtain ⟨hl, hb, h⟩ := h
    have f1 := sub_list_list; have f2 := AutoSeq1.sub_tuple_list; have f3 := AutoSeq1.sub_list_tuple; have f4 := isSubtype_tuple_tuple
    have z : (xs ++ ys).size ≤ sizeLine + 1 := by rw [Array.size_append]; exact c2
    wp_walk using (wpAny_updateSeq hl rfl (hz := c1) (_hz' := z)), AutoSeq1.wpAny_loadPart' hl, AutoSeq1.wpAny_loadPart' hb; exact ⟨_, rfl, h⟩
noncomputable def rExtT (K : PySem.W.Frag) : V → List V → Hp → VK → Prop := fun x vs H Q => ∃ l b xs zs, x = .ref l ∧ vs = [.ref b] ∧ H l = some (.lst xs) ∧ SqT K H b zs ∧ xs.length + zs.length ≤ sizeLine ∧ Q .non (upd H l (.lst (xs ++ zs)))
theorem mt_extT : MtM X "list.extend" (rExtT X.K) := by
  intro pins s σ H x vs v us Q I rx rv h
  obtain ⟨l, b, xs, zs, rfl, rfl, hH, hB, hz, q⟩ := h
  cases (show v = Value.ref l from rx)
  obtain ⟨u, rfl, ru⟩ := rv.one
  cases (show u = Value.ref b from ru)
  obtain ⟨z, its, n, r, hl, e⟩ := I.lstM hH
  obtain ⟨its2, r2, pl, hz2⟩ := I.tuple hB
  have hl2 := r2.length
  obtain ⟨⟨c2, dd2, data2, sl2⟩, e2, hc2, n2, hs2⟩ := pl
  simp only at hc2 hs2
  have hsz : its.toArray.size + its2.toArray.size ≤ sizeLine := by rw [List.size_toArray, List.size_toArray]; omega
  have lng : ¬ (!its.toArray.isEmpty && Builtin.List.listTooLong (its.toArray.size + its2.toArray.size)) = true := fun w => by
    rw [notLongL hsz, Bool.and_false] at w; cases w
  subst hc2 hs2
  refine call_meets F.slot_list_extend ⟨_, e, rfl⟩ F.entry_list_extend (F.args_list_extend_2 _ _) (ext_meetsT l its.toArray n b its2.toArray n2 dd2 sl2 lng (by rw [List.size_toArray]; omega) (by omega)) ⟨e, e2, ?_⟩
  exact ⟨.non, _, I.lset (its' := its ++ its2) hH e (by simp) (r.append r2) (by rw [List.length_append]; omega), rfl, q⟩
theorem st_extendT {x : Str} {ds zs : List D} {px ap cp pos : Pos} (G : GoodS cx k X sc) (hN : X.N = ρ.map (·.1)) (hx : (frz F e ρ).lookup x = some (.ow ds)) (ho : ownIn sc x = true) (hp : plainName x = true) (hline : (ap.endLine == cp.line) = true) (hz : szl (ds.length + zs.length) = true) (he : ev cx F sc (frz F e ρ) e = some (.tup zs)) :
    Runs X Hs0 H0 ρ (.nxt (setR (frz F e ρ) x (.ow (ds ++ zs)))) (sSem X (.Expr (.Call (.Attribute (.Name x px) "extend" ap) [e] [] cp) pos)) := by
  have hN' : X.N = (frz F e ρ).map (·.1) := by rw [frz_names]; exact hN
  obtain ⟨i, hi, _⟩ := lookup_ix hx
  have nd : ((frz F e ρ).map (·.1)).Nodup := by rw [← hN']; exact G.good.nd
  have hpl := ev_plain he
  intro σ H Hs D h _ hn hr
  obtain ⟨Hs1, sm1, h1⟩ := h.frozen F e
  obtain ⟨a, vs, k1, k2, k3, k4, k5⟩ := h1.ow i x ds hi
  unfold plainName at hp
  rw [Bool.and_eq_true, bne_iff_ne, bne_iff_ne] at hp
  have vis : Vis X.env.scope x := (G.own.own x ho).1.elim .inl fun q => .inr (.inl q)
  refine PS.sem (ps_expr (pe_bm PySem.F.plainAttrs_list PySem.F.slot_list_extend PySem.F.type_list_extend mt_extT (pe_var (i := i) (by rw [hN', List.getElem?_map, hi]; rfl) vis (by simpa using hp.1) (by simpa using hp.2)) (pa_cons pe_sem pa_nil (plain_star hpl)) rfl (by rw [plain_star hpl]; rfl) hline (plain_star hpl) rfl) rfl) ?_
  refine ⟨_, k1, .inl ⟨rfl, vs, .of k2⟩, ?_⟩
  refine (ev_ok cx F G.good hN' he).1 σ H Hs1 _ h1.ext.sub h1.sh fun v H' Hs' E r => ?_
  have h2 := h1.step E
  obtain ⟨b, us, rfl, g1, g2⟩ := rep_tup r
  refine ⟨a, b, vs, us, rfl, rfl, E.all _ _ k2, E.sub.tup g1, by have := k3.length; have := g2.length; have := szl_ok hz; omega, ?_⟩
  exact hn _ _ Hs' _ rfl (sm1.trans E.vis) (by rw [setR_names]; exact hN') (h2.app nd hi k1 (RepL.append (RepL.same E.vis ds vs k3) g2))
theorem st_extend {x : Str} {ds zs : List D} {px ap cp pos : Pos} (G : GoodS cx k X sc) (hN : X.N = ρ.map (·.1)) (hx : (frz F e ρ).lookup x = some (.ow ds)) (ho : ownIn sc x = true) (hp : plainName x = true) (hline : (ap.endLine == cp.line) = true) (hz : szl (ds.length + zs.length) = true) (he : ev cx F sc (frz F e ρ) e = some (.lst zs)) :
    Runs X Hs0 H0 ρ (.nxt (setR (frz F e ρ) x (.ow (ds ++ zs)))) (sSem X (.Expr (.Call (.Attribute (.Name x px) "extend" ap) [e] [] cp) pos)) := by
  have hN' : X.N = (frz F e ρ).map (·.1) := by rw [frz_names]; exact hN
  obtain ⟨i, hi, _⟩ := lookup_ix hx
  have nd : ((frz F e ρ).map (·.1)).Nodup := by rw [← hN']; exact G.good.nd
  have hpl := ev_plain he
  intro σ H Hs D h _ hn hr
  obtain ⟨Hs1, sm1, h1⟩ := h.frozen F e
  obtain ⟨a, vs, k1, k2, k3, k4, k5⟩ := h1.ow i x ds hi
  unfold plainName at hp
  rw [Bool.and_eq_true, bne_iff_ne, bne_iff_ne] at hp
  have vis : Vis X.env.scope x := (G.own.own x ho).1.elim .inl fun q => .inr (.inl q)
  refine PS.sem (ps_expr (pe_bm PySem.F.plainAttrs_list PySem.F.slot_list_extend PySem.F.type_list_extend mt_ext2 (pe_var (i := i) (by rw [hN', List.getElem?_map, hi]; rfl) vis (by simpa using hp.1) (by simpa using hp.2)) (pa_cons pe_sem pa_nil (plain_star hpl)) rfl (by rw [plain_star hpl]; rfl) hline (plain_star hpl) rfl) rfl) ?_
  refine ⟨_, k1, .inl ⟨rfl, vs, .of k2⟩, ?_⟩
  refine (ev_ok cx F G.good hN' he).1 σ H Hs1 _ h1.ext.sub h1.sh fun v H' Hs' E r => ?_
  have h2 := h1.step E
  obtain ⟨b, us, rfl, g1, g2⟩ := rep_lst r
  refine ⟨a, b, vs, us, rfl, rfl, E.all _ _ k2, E.sub.seq g1, by have := k3.length; have := g2.length; have := szl_ok hz; omega, ?_⟩
  exact hn _ _ Hs' _ rfl (sm1.trans E.vis) (by rw [setR_names]; exact hN') (h2.app nd hi k1 (RepL.append (RepL.same E.vis ds vs k3) g2))
theorem st_expr {pos : Pos} (G : GoodS cx k X sc) (hN : X.N = ρ.map (·.1)) (he : ev cx F sc (frz F e ρ) e = some d) (hc : ∀ a b c p, e ≠ .ListComp a b c p) : Runs X Hs0 H0 ρ (.nxt (frz F e ρ)) (sSem X (.Expr e pos)) := by
  intro σ H Hs D h _ hn hr
  exact PS.sem (ps_expr pe_sem (swaps_not he hc)) (ev_st G hN he h fun v Hs' H' sm h' r => hn _ _ Hs' H' rfl sm (by rw [frz_names]; exact hN) h')
theorem go_ok {f : Rho → Stmt → Option Fl} (hf : ∀ ρ s fl, X.N = ρ.map (·.1) → f ρ s = some fl → Runs X Hs0 H0 ρ fl (sSem X s)) : ∀ (l : List Stmt) (ρ : Rho) (fl : Fl), X.N = ρ.map (·.1) → stGo f l ρ = some fl → Runs X Hs0 H0 ρ fl (ssSem X l)
  | [], ρ, fl, hN, h => by
    simp only [stGo, Option.some.injEq] at h
    subst h
    intro σ H Hs D h _ hn hr
    exact PSs.sem pss_nil (hn _ _ Hs H rfl (.refl _) hN h)
  | s :: r, ρ, fl, hN, h => by
    simp only [stGo] at h
    obtain ⟨fl1, h1, h2⟩ := obind h
    intro σ H Hs D hd _ hn hr
    refine PSs.sem (pss_cons ps_sem pss_sem) (hf ρ s fl1 hN h1 σ H Hs _ hd hN (fun ρ' σ' Hs' H' q sm hN' hd' => ?_) fun d v Hs' H' q E rr => ?_)
    · subst q
      exact go_ok hf r ρ' fl hN' h2 σ' H' Hs' D hd' hN' (fun ρ2 σ2 Hs2 H2 q2 sm2 => hn ρ2 σ2 Hs2 H2 q2 (sm.trans sm2)) hr
    · subst q
      cases h2
      exact hr d v Hs' H' rfl E rr
theorem st_for {tg iter : Expr} {body : List Stmt} {l : List D} {fl : Fl} {pos : Pos} {f : D → Rho → Option Fl} (G : GoodS cx k X sc) (hN : X.N = ρ.map (·.1)) (hI : evI cx (isTupE tg) (ev cx F sc (frz F iter ρ)) sc iter = some l)
    (hf : ∀ d ρ1 fl, f d ρ1 = some fl → X.N = ρ1.map (·.1) → ∃ ρ2, bindT sc tg d ρ1 = some ρ2 ∧ (X.N = ρ2.map (·.1) → Runs X Hs0 H0 ρ2 fl (ssSem X body))) (h : forGo f l (frz F iter ρ) = some fl) : Runs X Hs0 H0 ρ fl (sSem X (.For tg iter body [] pos)) := by
  have hN' : X.N = (frz F iter ρ).map (·.1) := by rw [frz_names]; exact hN
  obtain ⟨hI', hp⟩ := evI_ok (tg := tg) (ρ := frz F iter ρ) G.good (fun e d h => ⟨(ev_ok cx F G.good hN' h).1, ev_plain h⟩) hI
  intro σ H Hs D hd _ hn hr
  obtain ⟨Hs1, sm1, h1⟩ := hd.frozen F iter
  refine PS.sem (ps_for G.pass G.good.calm pi_sem pg_sem pss_sem (plain_set hp)) (hI' σ H Hs1 _ h1.ext.sub h1.sh fun J H2 Hs2 E2 hJ => ?_)
  let W : Nat → Nat → St → Hp → Prop := fun i m σ H => m = l.length - i ∧ i ≤ l.length ∧ ∃ ρi Hsi, Same Hs2 Hsi ∧ Hd X.K Hs0 H0 Hsi H ρi σ ∧ X.N = ρi.map (·.1) ∧ forGo f (l.drop i) ρi = some fl
  refine ⟨W, ⟨l.length, rfl, Nat.zero_le _, _, Hs2, .refl _, h1.step E2, hN', by simpa using h⟩, ?_⟩
  rintro i m σi Hi ⟨rfl, hi, ρi, Hsi, sm, hdi, hNi, gi⟩
  obtain ⟨stp, go⟩ := hJ Hsi Hi sm hdi.ext.sub
  by_cases hlt : i < l.length
  · obtain ⟨g1, g2⟩ := go i l[i] (List.getElem?_eq_getElem hlt)
    refine .inr ⟨g1, fun σ' H' => W (i + 1) (l.length - (i + 1)) σ' H', fun σ' H' w => ⟨_, by omega, w⟩, fun x H' y => ?_⟩
    obtain ⟨Hs3, E3, rx⟩ := g2 x H' y
    rw [List.drop_eq_getElem_cons hlt] at gi
    simp only [forGo] at gi
    obtain ⟨fl1, b1, b2⟩ := obind gi
    obtain ⟨ρ2, c1, c2⟩ := hf _ _ _ b1 hNi
    have hd3 := hdi.step E3
    refine bind_ok G.good.calm G.own G.good.nd hd3.ext.sub hNi (keeps_hd (Hs0 := Hs0) (H0 := H0) (H := H')) c1 hd3 rx fun σ' hN2 p => ?_
    refine c2 hN2 σ' H' Hs3 _ p hN2 (fun ρ' σ'' Hs' H'' q sm4 hN3 hd4 => ?_) fun d v Hs' H'' q E rr => ?_
    · subst q
      exact ⟨rfl, hlt, ρ', Hs', sm.trans (E3.vis.trans sm4), hd4, hN3, b2⟩
    · subst q
      cases b2
      exact hr d v Hs' H'' rfl E rr
  · have hi' : i = l.length := by omega
    subst hi'
    refine .inl ⟨stp, ?_⟩
    rw [List.drop_length] at gi
    simp only [forGo, Option.some.injEq] at gi
    exact hn ρi σi Hsi Hi gi.symm (sm1.trans (E2.vis.trans sm)) hNi hdi
end
theorem st_ok (cx : Cxt) (F : Nat) : ∀ (n : Nat) {k : Nat} {X : Cx} {sc : Scope} {ρ : Rho} {s : Stmt} {fl : Fl} {Hs0 H0 : Hp}, GoodS cx k X sc → X.N = ρ.map (·.1) → DE.st cx F n sc ρ s = some fl → Runs X Hs0 H0 ρ fl (sSem X s)
  | 0, k, X, sc, ρ, s, fl, Hs0, H0, _, _, h => by simp [DE.st] at h
  | n + 1, k, X, sc, ρ, s, fl, Hs0, H0, G, hN, h => by
    have block : ∀ (l : List Stmt) (ρ : Rho) (fl : Fl), X.N = ρ.map (·.1) → stGo (fun ρ s => DE.st cx F n sc ρ s) l ρ = some fl → Runs X Hs0 H0 ρ fl (ssSem X l) := go_ok fun ρ s fl hN h => st_ok cx F n G hN h
    cases s with
    | Pass pos =>
      simp only [DE.st, Option.some.injEq] at h
      subst h
      intro σ H Hs D hd _ hn hr
      exact PS.sem ps_pass (hn _ _ Hs H rfl (.refl _) hN hd)
    | Return v pos =>
      simp only [DE.st] at h
      cases v with
      | none =>
        simp only [Option.some.injEq] at h
        subst h
        intro σ H Hs D hd _ hn hr
        exact PS.sem ps_retN (hr .non .non Hs H rfl hd.ext (by simp [Rep]))
      | some e =>
        simp only [Option.map_eq_some_iff] at h
        obtain ⟨d, he, rfl⟩ := h
        intro σ H Hs D hd _ hn hr
        exact PS.sem (ps_ret pe_sem) (ev_st G hN he hd fun v Hs' H' sm h' r => hr d v Hs' H' rfl h'.ext r)
    | Assign tgs e pos =>
      simp only [DE.st] at h
      split at h
      · split at h
        · rename_i hc
          rw [Bool.and_eq_true] at hc
          split at h
          · rename_i hoo
            split at h
            · rename_i hon
              obtain ⟨d, he, h⟩ := Option.bind_eq_some_iff.mp h
              obtain ⟨dss, hd, rfl⟩ := Option.map_eq_some_iff.mp h
              exact st_oo G hN hc.1 hc.2 hoo hon he hd
            · cases h
          · split at h
            · cases h
            · rename_i hno
              simp only [Option.map_eq_some_iff] at h
              obtain ⟨d, he, rfl⟩ := h
              refine st_name G hN hc.1 hc.2 (fun hf => ?_) he
              rw [hf, Bool.true_and] at hno
              simpa using hno
        · cases h
      · split at h
        · rename_i hs
          obtain ⟨d, he, h⟩ := obind h
          obtain ⟨l, hl, h⟩ := obind h
          simp only [Option.map_eq_some_iff] at h
          obtain ⟨ρ', hb, rfl⟩ := h
          exact st_tup G hN hs he hl hb
        · cases h
      · split at h
        · rename_i dss hx
          split at h
          · rename_i hc
            rw [Bool.and_eq_true, Bool.and_eq_true] at hc
            obtain ⟨d, h1, h⟩ := obind h
            obtain ⟨j, h2, h⟩ := obind h
            obtain ⟨n', h3, h⟩ := obind h
            split at h
            · cases h
              exact st_sto1 G hN hx hc.1.1 hc.1.2 hc.2 h1 (asI_some h2) h3
            · cases h
          · cases h
        · cases h
      · split at h
        · rename_i dss hx
          split at h
          · rename_i hc
            rw [Bool.and_eq_true, Bool.and_eq_true] at hc
            obtain ⟨d, h1, h⟩ := obind h
            obtain ⟨j1, h2, h⟩ := obind h
            obtain ⟨n1, h3, h⟩ := obind h
            obtain ⟨ds, h4, h⟩ := obind h
            obtain ⟨j2, h5, h⟩ := obind h
            obtain ⟨n2, h6, h⟩ := obind h
            cases h
            exact st_sto2 G hN hx hc.1.1 hc.1.2 (by simpa using hc.2) h1 (asI_some h2) h3 h4 (asI_some h5) h6
          · cases h
        · cases h
      · cases h
    | Expr v pos =>
      simp only [DE.st] at h
      split at h
      · rename_i x px m ap e cp
        split at h
        · rename_i ds hx
          split at h
          · rename_i hc
            rw [Bool.and_eq_true, Bool.and_eq_true] at hc
            obtain ⟨⟨c1, c2⟩, c4⟩ := hc
            split at h
            · rename_i hc2
              rw [Bool.and_eq_true] at hc2
              simp only [Option.map_eq_some_iff] at h
              obtain ⟨d, he, rfl⟩ := h
              have em : m = "append" := by simpa using hc2.1
              subst em
              exact st_append G hN hx c1 c2 c4 hc2.2 he
            · split at h
              · rename_i hc3
                obtain ⟨d, he, h⟩ := obind h
                have em : m = "extend" := by simpa using hc3
                subst em
                split at h
                · split at h
                  · rename_i hz
                    cases h
                    exact st_extend G hN hx c1 c2 c4 hz he
                  · cases h
                · split at h
                  · rename_i hz
                    cases h
                    exact st_extendT G hN hx c1 c2 c4 hz he
                  · cases h
                · cases h
              · cases h
          · cases h
        · cases h
      · cases h
      · cases h
      · rename_i h1 h2 h3
        simp only [Option.map_eq_some_iff] at h
        obtain ⟨d, he, rfl⟩ := h
        exact st_expr G hN he fun a b c p q => h2 a b c p q
    | If c a b pos =>
      simp only [DE.st] at h
      obtain ⟨t, h1, h⟩ := obind h
      have he := asB_some h1
      intro σ H Hs D hd _ hn hr
      have hN' : X.N = (frz F c ρ).map (·.1) := by rw [frz_names]; exact hN
      refine PS.sem (ps_if pt_sem pss_sem pss_sem) (ev_stT G hN he hd fun Hs' H' sm h' => ?_)
      cases t with
      | true =>
        simp only [if_true] at h
        exact iteT (block a _ fl hN' h σ H' Hs' D h' hN' (fun ρ2 σ2 Hs2 H2 q2 sm2 => hn ρ2 σ2 Hs2 H2 q2 (sm.trans sm2)) hr)
      | false =>
        simp only [Bool.false_eq_true, if_false] at h
        exact iteF (block b _ fl hN' h σ H' Hs' D h' hN' (fun ρ2 σ2 Hs2 H2 q2 sm2 => hn ρ2 σ2 Hs2 H2 q2 (sm.trans sm2)) hr)
    | For tg iter body orelse pos =>
      simp only [DE.st] at h
      split at h
      · obtain ⟨l, hI, h⟩ := obind h
        refine st_for G hN hI (fun d ρ1 fl hf hN1 => ?_) h
        obtain ⟨ρ2, g1, g2⟩ := obind hf
        exact ⟨ρ2, g1, fun hN2 => block body ρ2 fl hN2 g2⟩
      · cases h
    | _ => simp [DE.st] at h
end L2

set_option Elab.async false
set_option linter.all false
set_option maxRecDepth 100000
namespace L2
open PySem PySem.Spec PyProof.Rows PySem.SeqAt
open DE hiding st
structure FunAt (K : PySem.W.Frag) (mg : Str → Option Value) (f : Str) (fd : Fd) : Prop where
  ex : ∃ (t : Stmt) (a : Addr) (g : FuncData), mg f = some (.ref a) ∧ Fun K f f t a g ∧ Binds K g fd.ps [] ∧ fd.body = defBody t ∧ fd.sc = defScope t
  fs : FnScope fd.N fd.ps fd.sc
  nd : (f == ("__debug__" : Str)) = false
structure Text (K : PySem.W.Frag) (mg : Str → Option Value) (P : Pg) : Prop where
  cst : ∀ x d, P.cst.lookup x = some d → ∃ i u, d = .int i ∧ mg x = some u ∧ RelV (.int i) u
  blt : ∀ x b, P.blt.lookup x = some b → mg x = none ∧ x = Str.ofString b
  fns : ∀ f fd, P.defs.lookup f = some fd → FunAt K mg f fd
theorem lookup_has {α : Type} : ∀ {l : List (Str × α)} {x : Str}, (l.map (·.1)).contains x = true → ∃ a, l.lookup x = some a
  | [], x, h => by simp at h
  | (y, a) :: r, x, h => by
    rw [List.lookup_cons]
    cases hb : x == y with
    | true => exact ⟨a, rfl⟩
    | false =>
      refine lookup_has ?_
      rw [List.map_cons, List.contains_cons, hb, Bool.false_or] at h
      exact h
theorem start_rep {K : PySem.W.Frag} {H : Hp} {fd : Fd} {ds : List D} {vs : List V} (S : FnScope fd.N fd.ps fd.sc) (hl : ds.length = fd.ps.length) (r : RepL K H ds vs) :
    fd.N = (startR fd ds).map (·.1) ∧ (start fd.N vs).length = (startR fd ds).length ∧ ∀ (i : Nat) (x : Str) (s : Sl), (startR fd ds)[i]? = some (x, s) → (s = .no ∨ ∃ d v, s = .sh d ∧ (start fd.N vs)[i]? = some (some v) ∧ Rep K H d v) := by
  have lv := r.length
  have lz : (fd.ps.zip (ds.map Sl.sh)).length = fd.ps.length := by rw [List.length_zip, List.length_map]; omega
  have hpl : fd.ps.length ≤ fd.N.length := by have := congrArg List.length S.pre; rw [List.length_take] at this; omega
  refine ⟨?_, ?_, fun i x s e => ?_⟩
  · unfold startR
    rw [List.map_append, List.map_map, List.map_fst_zip (by rw [List.length_map]; omega)]
    have : (fd.N.drop fd.ps.length).map ((fun p : Str × Sl => p.1) ∘ fun x => (x, Sl.no)) = fd.N.drop fd.ps.length := by
      rw [show ((fun p : Str × Sl => p.1) ∘ fun x => (x, Sl.no)) = id from rfl, List.map_id]
    rw [this]
    conv => lhs; rw [← List.take_append_drop fd.ps.length fd.N, S.pre]
  · unfold start startR
    rw [List.length_append, List.length_append, lz]
    simp
    omega
  · unfold startR at e
    by_cases hi : i < fd.ps.length
    · rw [List.getElem?_append_left (by rw [lz]; exact hi), List.getElem?_zip_eq_some] at e
      obtain ⟨_, e2⟩ := e
      rw [List.getElem?_map] at e2
      obtain ⟨d, e3, rfl⟩ := Option.map_eq_some_iff.mp e2
      obtain ⟨v, g1, g2⟩ := r.get e3
      refine .inr ⟨d, v, rfl, ?_, g2⟩
      unfold start
      rw [List.getElem?_append_left (by rw [List.length_map]; omega), List.getElem?_map, g1]
      rfl
    · rw [List.getElem?_append_right (by rw [lz]; omega), List.getElem?_map] at e
      obtain ⟨y, _, e3⟩ := Option.map_eq_some_iff.mp e
      cases e3
      exact .inl rfl
section
variable {P : Program} {w : World} {K : PySem.W.Frag} {mg : Str → Option Value} {base : Heap} {T : Pg} {F : Nat}
theorem call_par {k : Nat} {f : Str} {fd : Fd} (hf : T.defs.lookup f = some fd) : ∀ ds d, callN T F k f ds = some d → ds.length = fd.ps.length := by
  intro ds d h
  cases k with
  | zero => simp [callN_0] at h
  | succ k =>
    simp only [callN_s, hf] at h
    split at h
    · rename_i hl; simpa using hl
    · cases h
theorem all_ok (X : Text K mg T) : ∀ (k : Nat) (f : Str) (fd : Fd) (t : Stmt) (a : Addr) (g : FuncData), T.defs.lookup f = some fd → Fun K f f t a g → fd.body = defBody t → fd.sc = defScope t → FnScope fd.N fd.ps fd.sc → FnOk P w K mg base CX0 k a g fd.ps (spD K (callN T F k) f fd.ps)
  | 0, f, fd, t, a, g, hf, Fn, hb, hs, S => by
    refine ⟨fun vs H Q E h => h.1, fun A outer s H args us vs Q E _ _ _ _ h => ?_⟩
    obtain ⟨_, Hs, ds, d, _, _, hc, _⟩ := h
    simp [callN_0] at hc
  | k + 1, f, fd, t, a, g, hf, Fn, hb, hs, S => by
    refine Fn.ok (N := fd.N) (by rw [← hs]; exact S) (fun vs H Q E h => h.1) fun cdv A outer s H vs Q E hr h => ?_
    obtain ⟨hlv, Hs, ds, d, hsm, rl, hc, hq⟩ := h
    have hld := call_par hf ds d hc
    simp only [callN_s, hf] at hc
    rw [if_pos (by simpa using hld)] at hc
    obtain ⟨s1, s2, s3⟩ := start_rep S hld rl
    refine ⟨ssSem _ (defBody t), pss_sem, ?_⟩
    have G : GoodS (T.cx (callN T F k)) k (cxOf CX0 P w K mg base fd.N f (defScope t) a cdv A outer s H E).nox fd.sc :=
      { good := { calm := rfl, room := hr, sce := hs.symm, kind := S.kind, nd := S.nd, cst := X.cst, blt := X.blt
                  fns := fun f' hf' => by
                    obtain ⟨fd', hl'⟩ := lookup_has (l := T.defs) hf'
                    have FA := X.fns f' fd' hl'
                    obtain ⟨t', a', g', m1, m2, m3, m4, m5⟩ := FA.ex
                    exact ⟨FA.nd, a', g', fd'.ps, call_par hl', m1, m2.kp, m3, all_ok X k f' fd' t' a' g' hl' m2 m4 m5 FA.fs⟩ }
        own := ⟨fun x hx => ⟨by
          unfold ownIn at hx
          rw [Bool.or_eq_true] at hx
          show (defScope t).names.lookup x = _ ∨ (defScope t).names.lookup x = _
          rw [← hs]
          exact hx.imp (fun q => by simpa using q) (fun q => by simpa using q), .inl rfl⟩⟩
        pass := PassesOwn.never }
    have noow : ∀ (i : Nat) (x : Str) (ds' : List D), (startR fd ds)[i]? = some (x, .ow ds') → False := fun i x ds' e => by
      rcases s3 i x _ e with q | ⟨d', v, q, q1, q2⟩
      · cases q
      · cases q
    have hd : Hd K Hs H Hs H (startR fd ds) (start fd.N vs) := by
      refine ⟨.refl hsm, s2, fun i x d e => ?_, fun i x ds' e => (noow i x ds' e).elim, fun i j x y ds' es a' _ e => (noow i x ds' e).elim, fun i x dss e => by
        rcases s3 i x _ e with q | ⟨d', v, q, q1, q2⟩
        · cases q
        · cases q⟩
      rcases s3 i x _ e with q | ⟨d', v, q, q1, q2⟩
      · cases q
      · cases q
        exact ⟨v, q1, q2⟩
    cases hg : stGo (fun ρ s => DE.st (T.cx (callN T F k)) F F fd.sc ρ s) fd.body (startR fd ds) with
    | none => rw [hg] at hc; cases hc
    | some fl =>
      rw [hg] at hc
      rw [hb] at hg
      refine go_ok (fun ρ s fl hN h => st_ok _ F F G hN h) (defBody t) (startR fd ds) fl s1 hg (start fd.N vs) H Hs _ hd s1 (fun ρ' σ' Hs' H' q _ _ hd' => ?_) fun d' v Hs' H' q E' r => ?_
      · subst q
        cases hc
        exact hq .non H' Hs' hd'.ext (by simp [Rep])
      · subst q
        cases hc
        exact hq v H' Hs' E' r
noncomputable def spTrue (K : PySem.W.Frag) : Sp := fun vs H Q _ => ∃ (a : Addr) (ns : List Int), vs = [.ref a] ∧ SqL K H a (ns.map V.int) ∧ ns.length ≤ 63 ∧ ∀ H', Q (.bl true) H'
end
end L2

set_option Elab.async false
set_option linter.all false
set_option maxRecDepth 100000
/-! the evaluator, run on texts with data that are not known -/
namespace DE
open PySem
noncomputable def Ls {α : Type} (m : Nat) (h : Nat → α) : List α := (List.range m).map h
theorem Ls_len {α : Type} {m : Nat} {h : Nat → α} : (Ls m h).length = m := by simp [Ls]
theorem Ls_get {α : Type} {m i : Nat} {h : Nat → α} (hi : i < m) : (Ls m h)[i]? = some (h i) := by simp [Ls, hi]
theorem Ls_snoc {α : Type} {m : Nat} {h : Nat → α} : Ls (m + 1) h = Ls m h ++ [h m] := by
  unfold Ls; rw [List.range_succ, List.map_append]; rfl
theorem atD_Ls {m : Nat} {h : Nat → D} {j : Nat} (hj : j < m) : atD (Ls m h) (j : Int) = some (h j) := by
  unfold atD ixD
  rw [Ls_len, if_pos (by omega), if_pos (by omega)]
  simp [Ls_get hj]
theorem atD_nat {l : List D} {j : Nat} {d : D} (h : l[j]? = some d) : atD l (j : Int) = some d := by
  have hj := (List.getElem?_eq_some_iff.mp h).1
  unfold atD ixD
  rw [if_pos (by omega), if_pos (by omega)]
  simpa using h
theorem range0_eq {n : Nat} : rangeD 0 (n : Int) = Ls n fun k => .int (k : Int) := by
  unfold rangeD Ls
  simp
/-! ### steps -/
noncomputable def nmOf (cx : Cxt) (sc : Scope) (ρ : Rho) (x : Str) : Option D := if plainName x then (match sc.names.lookup x with
        | some .local => (match ρ.lookup x with | some (.sh d) => some d | _ => none)
        | some .cell => (match ρ.lookup x with | some (.sh d) => some d | _ => none)
        | some .free => (match ρ.lookup x with | some (.sh d) => some d | _ => none)
        | some .globalImplicit => cx.cst.lookup x
        | _ => none) else none
noncomputable def cnOf (c : Const) : Option D := (match c with
        | .none => some .non
        | .bool b => some (.bl b)
        | .int i => some (.int i)
        | .str x => some (.str x)
        | _ => none)
section
variable {cx : Cxt} {n : Nat} {sc scope : Scope} {ρ : Rho} {a b c e : Expr} {es : List Expr} {p q : Pos} {x y z d : D} {ds : List D} {nm : Str} {op op' : CmpOp}
theorem xName (h : nmOf cx sc ρ nm = some d) : ev cx (n + 1) sc ρ (.Name nm p) = some d := h
theorem xConst {k : Const} {j : Nat} (h : cnOf k = some d) : ev cx (n + 1) sc ρ (.Constant k j p) = some d := h
theorem xBin {o : Operator} (h1 : ev cx n sc ρ a = some x) (h2 : ev cx n sc ρ b = some y) (h : binop o x y = some d) : ev cx (n + 1) sc ρ (.BinOp a o b p) = some d := by
  simp only [ev, h1, h2]; exact h
theorem xNot {t : Bool} (h1 : ev cx n sc ρ a = some (.bl t)) : ev cx (n + 1) sc ρ (.UnaryOp .Not a p) = some (.bl (!t)) := by
  simp only [ev, h1]; rfl
theorem xNotT (h1 : ev cx n sc ρ a = some (.bl true)) : ev cx (n + 1) sc ρ (.UnaryOp .Not a p) = some (.bl false) := xNot h1
theorem xNeg {i : Int} (h1 : ev cx n sc ρ a = some (.int i)) : ev cx (n + 1) sc ρ (.UnaryOp .USub a p) = some (.int (-i)) := by
  simp only [ev, h1]; rfl
theorem xAndT (h1 : ev cx n sc ρ a = some (.bl true)) (h2 : boolGo .And (ev cx n sc ρ) (b :: es) = some d) : boolGo .And (ev cx n sc ρ) (a :: b :: es) = some d := by
  simp only [boolGo, h1]; exact h2
theorem xOrF (h1 : ev cx n sc ρ a = some (.bl false)) (h2 : boolGo .Or (ev cx n sc ρ) (b :: es) = some d) : boolGo .Or (ev cx n sc ρ) (a :: b :: es) = some d := by
  simp only [boolGo, h1]; exact h2
theorem xOne {o : BoolOp} (h1 : ev cx n sc ρ a = some d) : boolGo o (ev cx n sc ρ) [a] = some d := h1
theorem xBool {o : BoolOp} (h : boolGo o (ev cx n sc ρ) es = some d) : ev cx (n + 1) sc ρ (.BoolOp o es p) = some d := h
theorem xCmp (h1 : ev cx n sc ρ a = some x) (h2 : ev cx n sc ρ b = some y) (h : cmpop op x y = some d) : ev cx (n + 1) sc ρ (.Compare a [op] [b] p) = some d := by
  simp only [ev, h1, h2]; exact h
theorem xCmpT (h1 : ev cx n sc ρ a = some x) (h2 : ev cx n sc ρ b = some y) (h : cmpop op x y = some (.bl true)) (h3 : ev cx n sc ρ c = some z) (h4 : cmpop op' y z = some d) (hp : plainE c = true := by rfl) : ev cx (n + 1) sc ρ (.Compare a [op, op'] [b, c] p) = some d := by
  simp only [ev, h1, h2, h3, hp]
  show ((cmpop op x y).bind asB).bind _ = _
  rw [h]; exact h4
theorem xNil {f : Expr → Option D} : mapO f [] = some [] := rfl
theorem xCons {f : Expr → Option D} (h1 : f a = some x) (h2 : mapO f es = some ds) : mapO f (a :: es) = some (x :: ds) := by
  simp only [mapO, h1, h2]; rfl
theorem xTup {j : Nat} (h1 : mapO (ev cx n sc ρ) es = some ds) (hz : szl ds.length = true) : ev cx (n + 1) sc ρ (.Tuple es j p) = some (.tup ds) := by
  simp only [ev, h1]
  show (if szl ds.length = true then _ else _) = _
  rw [if_pos hz]
theorem xLst (h1 : mapO (ev cx n sc ρ) es = some ds) (hz : szl ds.length = true) : ev cx (n + 1) sc ρ (.List es p) = some (.lst ds) := by
  simp only [ev, h1]
  show (if szl ds.length = true then _ else _) = _
  rw [if_pos hz]
theorem xIx {i : Int} {xs : List D} (h1 : ev cx n sc ρ a = some x) (h2 : ev cx n sc ρ b = some (.int i)) (h3 : items x = some xs) (h4 : atD xs i = some d) (hs : plainE b = true := by rfl) : ev cx (n + 1) sc ρ (.Subscript a b p) = some d := by
  simp only [ev, h1]
  show Option.bind _ _ = _
  cases b <;> first | (simp [plainE] at hs; done) | (simp only [h2, Option.bind_some, asI, h3]; exact h4)
noncomputable def oI (cx : Cxt) (n : Nat) (sc : Scope) (ρ : Rho) : Option Expr → Option (Option Int)
  | none => some none
  | some e => (ev cx n sc ρ e).bind fun d => (asI d).map some
theorem xIsi {t : Expr} {T : String} (hg : bltOf cx sc nm = some "isinstance") (ht : tyOf cx sc t = some T) (hk : tyKnown T = true) (h1 : ev cx n sc ρ a = some x) (h : isTy T x = c') (hF : T = T) (hG : T = T) : ev cx (n + 1) sc ρ (.Call (.Name nm q) [a, t] [] p) = some (.bl c') := by
  unfold bltOf at hg
  split at hg
  · rename_i hgl
    simp only [ev, hgl, hg, h1, ht, if_true]
    show (if tyKnown T = true then _ else _) = _
    rw [if_pos hk]
    rw [h]
  · cases hg
theorem xBlt {B : String} (hg : bltOf cx sc nm = some B) (hw : wcOf cx sc B es = .al) (hn : (B == "isinstance" || es.isEmpty) = false) (h1 : mapO (ev cx n sc ρ) es = some ds) (h : blt B ds = some d) : ev cx (n + 1) sc ρ (.Call (.Name nm q) es [] p) = some d := by
  rw [Bool.or_eq_false_iff] at hn
  unfold bltOf at hg
  split at hg
  · rename_i hgl
    simp only [ev, hgl, hg, if_true]
    split
    · rename_i he; cases he; simp at hn
    · rename_i he; cases he
      simp only [hw, hn.2, h1, Bool.false_eq_true, if_false]
      exact h
    · rename_i he; cases he
  · cases hg
noncomputable def isFn (cx : Cxt) (sc : Scope) (nm : Str) (es : List Expr) : Bool := isGl cx sc nm && (cx.blt.lookup nm).isNone && cx.fns.contains nm && !es.isEmpty
theorem xCall (hf : isFn cx sc nm es = true) (h1 : mapO (ev cx n sc ρ) es = some ds) (h : cx.call nm ds = some d) : ev cx (n + 1) sc ρ (.Call (.Name nm q) es [] p) = some d := by
  unfold isFn at hf
  rw [Bool.and_eq_true, Bool.and_eq_true, Bool.and_eq_true] at hf
  obtain ⟨⟨⟨h2, h3⟩, h4⟩, h5⟩ := hf
  have h3' : cx.blt.lookup nm = none := by simpa using h3
  simp only [ev, h2, h3', h4, h5, Bool.and_self, if_true, h1]
  exact h
/-! ### walks -/
theorem wR1 {tup : Bool} {j : Int} (hw : wkOf cx sc e = .r1 a) (h1 : ev cx n sc ρ a = some (.int j)) (hz : rng62 j = true) : evI cx tup (ev cx n sc ρ) sc e = some (rangeD 0 j) := by
  unfold evI
  rw [hw]
  simp only [h1, Option.bind_some, asI]
  show (if rng62 j = true then _ else _) = _
  rw [if_pos hz]
theorem wSq {tup : Bool} {xs : List D} (hw : wkOf cx sc e = .sq) (h1 : ev cx n sc ρ e = some x) (h2 : items x = some xs) : evI cx tup (ev cx n sc ρ) sc e = some xs := by
  unfold evI
  rw [hw]
  simp only [h1, Option.bind_some]
  exact h2
theorem compGo_Ls {f : D → Option (Option D)} {h g : Nat → D} : ∀ {m : Nat}, (∀ i, i < m → f (h i) = some (some (g i))) → compGo f (Ls m h) = some (Ls m g) := by
  have key : ∀ (l : List Nat), (∀ i ∈ l, f (h i) = some (some (g i))) → compGo f (l.map h) = some (l.map g) := by
    intro l
    induction l with
    | nil => intro _; rfl
    | cons i r ih =>
      intro hi
      simp only [List.map_cons, compGo, hi i List.mem_cons_self, ih fun j hj => hi j (List.mem_cons_of_mem _ hj)]
      rfl
  intro m hm
  exact key _ fun i hi => hm i (List.mem_range.mp hi)
noncomputable def cF (cx : Cxt) (n : Nat) (sc scope : Scope) (ρ : Rho) (tg elt : Expr) (ifs : List Expr) : D → Option (Option D) := fun d => do
  let ρ1 ← bindT scope tg d (compRho scope ρ)
  let b ← ifsGo (ev cx n (relS scope sc) ρ1) ifs
  if b then (ev cx n (relS scope sc) ρ1 elt).map some else some none
theorem cStep {tg elt : Expr} {ρ1 : Rho} (h1 : bindT scope tg x (compRho scope ρ) = some ρ1) (h2 : ev cx n (relS scope sc) ρ1 elt = some d) : cF cx n sc scope ρ tg elt [] x = some (some d) := by
  simp only [cF, h1, ifsGo]
  show Option.map some (ev cx n (relS scope sc) ρ1 elt) = _
  rw [h2]; rfl
theorem xComp {tg elt iter : Expr} {ifs : List Expr} {l out : List D} (hok : compOk sc scope = true) (hI : evI cx (isTupE tg) (ev cx n sc ρ) sc iter = some l) (hz : szl l.length = true) (hgo : compGo (cF cx n sc scope ρ tg elt ifs) l = some out) :
    ev cx (n + 1) sc ρ (.ListComp elt [⟨tg, iter, ifs, 0⟩] scope p) = some (.lst out) := by
  simp only [ev, hok, hI]
  show (if szl l.length = true then (compGo (cF cx n sc scope ρ tg elt ifs) l).bind (fun out => some (D.lst out)) else none) = some (D.lst out)
  rw [if_pos hz, hgo]
  rfl
/-! ### statements -/
variable {F : Nat} {f : Rho → Stmt → Option Fl} {r : List Stmt} {fl : Fl} {m : Nat}
noncomputable abbrev blk (cx : Cxt) (F m : Nat) (sc : Scope) : List Stmt → Rho → Option Fl := stGo (fun ρ s => st cx F m sc ρ s)
theorem gNilS : blk cx F m sc [] ρ = some (.nxt ρ) := rfl
noncomputable def thenS (cx : Cxt) (F m : Nat) (sc : Scope) (r : List Stmt) : Fl → Option Fl
  | .ret d => some (.ret d)
  | .nxt ρ' => blk cx F m sc r ρ'
theorem gSt {s : Stmt} {fl1 : Fl} (h : st cx F m sc ρ s = some fl1) (k : thenS cx F m sc r fl1 = some fl) : blk cx F m sc (s :: r) ρ = some fl := by
  show (st cx F m sc ρ s).bind _ = _
  rw [h]
  cases fl1 <;> exact k
theorem gRet (h : ev cx F sc (frz F e ρ) e = some d) : blk cx F (m + 1) sc (.Return (some e) p :: r) ρ = some (.ret d) := by
  refine gSt (fl1 := .ret d) ?_ rfl
  simp only [st, h]; rfl
theorem gSet {px : Pos} (ho : (ownIn sc nm && (ρ.map (·.1)).contains nm) = true) (h : ev cx F sc (frz F e ρ) e = some d) (k : blk cx F (m + 1) sc r (setR (frz F e ρ) nm (slFor e d)) = some fl) (hoo : ooE cx sc e = false := by rfl) (hno : (isFresh e && !noOo (frz F e ρ) nm) = false := by rfl) : blk cx F (m + 1) sc (.Assign [.Name nm px] e p :: r) ρ = some fl := by
  refine gSt (fl1 := .nxt _) ?_ k
  simp only [st, h, if_pos ho, hoo, hno, Bool.false_eq_true, if_false]; rfl
noncomputable def xprOk : Expr → Bool
  | .Call (.Name ..) _ _ _ => true
  | _ => false
theorem gXpr (hx : xprOk e = true) (h : ev cx F sc (frz F e ρ) e = some d) (k : blk cx F (m + 1) sc r (frz F e ρ) = some fl) : blk cx F (m + 1) sc (.Expr e p :: r) ρ = some fl := by
  unfold xprOk at hx
  split at hx
  · refine gSt (fl1 := .nxt _) ?_ k
    simp only [st, h, Option.map_some]
  · cases hx
theorem gApp {px ap cp : Pos} {M : Str} {ds : List D} (hx : (frz F e ρ).lookup nm = some (.ow ds)) (ho : (ownIn sc nm && plainName nm && ap.endLine == cp.line) = true) (hM : (M == "append") = true) (hz : szl (ds.length + 1) = true) (h : ev cx F sc (frz F e ρ) e = some d) (k : blk cx F (m + 1) sc r (setR (frz F e ρ) nm (.ow (ds ++ [d]))) = some fl) :
    blk cx F (m + 1) sc (.Expr (.Call (.Attribute (.Name nm px) M ap) [e] [] cp) p :: r) ρ = some fl := by
  refine gSt (fl1 := .nxt _) ?_ k
  simp only [st, hx, ho, hM, hz, Bool.and_self, if_true, h, Option.map_some]
theorem gIfT {A B : List Stmt} {fl1 : Fl} (h : ev cx F sc (frz F c ρ) c = some (.bl true)) (k : blk cx F m sc A (frz F c ρ) = some fl1) (k2 : thenS cx F (m + 1) sc r fl1 = some fl) : blk cx F (m + 1) sc (.If c A B p :: r) ρ = some fl := by
  refine gSt ?_ k2
  have k' : stGo (fun ρ s => st cx F m sc ρ s) A (frz F c ρ) = some fl1 := k
  simp only [st, h, bind, Option.bind_some, asB, if_true, k']
theorem gIfF {A B : List Stmt} {fl1 : Fl} (h : ev cx F sc (frz F c ρ) c = some (.bl false)) (k : blk cx F m sc B (frz F c ρ) = some fl1) (k2 : thenS cx F (m + 1) sc r fl1 = some fl) : blk cx F (m + 1) sc (.If c A B p :: r) ρ = some fl := by
  refine gSt ?_ k2
  have k' : stGo (fun ρ s => st cx F m sc ρ s) B (frz F c ρ) = some fl1 := k
  simp only [st, h, bind, Option.bind_some, asB, Bool.false_eq_true, if_false, k']
theorem gIfN {A : List Stmt} (h : ev cx F sc (frz F c ρ) c = some (.bl false)) (k : blk cx F (m + 1) sc r (frz F c ρ) = some fl) : blk cx F (m + 1) sc (.If c A [] p :: r) ρ = some fl :=
  gIfF h gNilS k
theorem forGo_Ls {f : D → Rho → Option Fl} {h : Nat → D} {R : Nat → Rho} {N : Nat} (hs : ∀ i, i < N → f (h i) (R i) = some (.nxt (R (i + 1)))) : forGo f (Ls N h) (R 0) = some (.nxt (R N)) := by
  have key : ∀ (j i : Nat), i + j = N → forGo f ((List.range' i j).map h) (R i) = some (.nxt (R N)) := by
    intro j
    induction j with
    | zero => intro i hi; have : i = N := by omega
              subst this; rfl
    | succ j ih =>
      intro i hi
      rw [List.range'_succ, List.map_cons]
      simp only [forGo, hs i (by omega)]
      exact ih (i + 1) (by omega)
  have := key N 0 (by omega)
  rw [← List.range_eq_range'] at this
  exact this
noncomputable def fF (cx : Cxt) (F m : Nat) (sc : Scope) (tg : Expr) (body : List Stmt) : D → Rho → Option Fl := fun d ρ => do let ρ1 ← bindT sc tg d ρ; stGo (fun ρ s => st cx F m sc ρ s) body ρ1
theorem fStep {tg : Expr} {body : List Stmt} {ρ1 : Rho} (h1 : bindT sc tg d ρ = some ρ1) (h2 : blk cx F m sc body ρ1 = some fl) : fF cx F m sc tg body d ρ = some fl := by
  have h2' : stGo (fun ρ s => st cx F m sc ρ s) body ρ1 = some fl := h2
  simp only [fF, h1]; exact h2'
theorem gFor {tg iter : Expr} {body : List Stmt} {l : List D} {fl1 : Fl} (hI : evI cx (isTupE tg) (ev cx F sc (frz F iter ρ)) sc iter = some l) (hgo : forGo (fF cx F m sc tg body) l (frz F iter ρ) = some fl1) (k2 : thenS cx F (m + 1) sc r fl1 = some fl) : blk cx F (m + 1) sc (.For tg iter body [] p :: r) ρ = some fl := by
  refine gSt ?_ k2
  have hgo' : forGo (fun d ρ => (bindT sc tg d ρ).bind fun ρ1 => stGo (fun ρ s => st cx F m sc ρ s) body ρ1) l (frz F iter ρ) = some fl1 := hgo
  simp only [st, hI, bind, Option.bind_some, hgo']
/-! ### calls -/
noncomputable abbrev cxN (P : Pg) (F k : Nat) : Cxt := ⟨P.cst, P.blt, P.defs.map (·.1), callN P F k⟩
theorem xrun {P : Pg} {k : Nat} {f : Str} {fd : Fd} (hf : P.defs.lookup f = some fd) (hl : (ds.length == fd.ps.length) = true) (h : blk (cxN P F k) F F fd.sc fd.body (startR fd ds) = some (.ret d)) : callN P F (k + 1) f ds = some d := by
  have h' : stGo (fun ρ s => st (P.cx (callN P F k)) F F fd.sc ρ s) fd.body (startR fd ds) = some (.ret d) := h
  simp only [callN_s, hf, hl, if_true, h']
theorem xrun0 {P : Pg} {k : Nat} {f : Str} {fd : Fd} {ρ' : Rho} (hf : P.defs.lookup f = some fd) (hl : (ds.length == fd.ps.length) = true) (h : blk (cxN P F k) F F fd.sc fd.body (startR fd ds) = some (.nxt ρ')) : callN P F (k + 1) f ds = some .non := by
  have h' : stGo (fun ρ s => st (P.cx (callN P F k)) F F fd.sc ρ s) fd.body (startR fd ds) = some (.nxt ρ') := h
  simp only [callN_s, hf, hl, if_true, h']
end
end DE

set_option Elab.async false
set_option linter.all false
namespace DE
open PySem
/-! ### data in canonical form -/
noncomputable abbrev row (n : Nat) (f : Nat → Int) : D := .tup (Ls n fun j => .int (f j))
noncomputable abbrev tbl (m n : Nat) (f : Nat → Nat → Int) : D := .tup (Ls m fun i => .tup (Ls n fun j => .int (f i j)))
noncomputable def sumN : Nat → (Nat → Int) → Int
  | 0, _ => 0
  | n + 1, f => sumN n f + f n
theorem asBs_Ls {f : Nat → Bool} : ∀ {n : Nat}, asBs (Ls n fun i => D.bl (f i)) = some (Ls n f) := by
  have key : ∀ l : List Nat, asBs (l.map fun i => D.bl (f i)) = some (l.map f) := by
    intro l
    induction l with
    | nil => rfl
    | cons a r ih => simp only [List.map_cons, asBs, ih]; rfl
  intro n
  exact key _
theorem bLen {n : Nat} {h : Nat → D} : blt "len" [.tup (Ls n h)] = some (.int (n : Int)) := by
  show some (D.int ((Ls n h).length : Int)) = _
  rw [Ls_len]
theorem bAll {n : Nat} {f : Nat → Bool} (h : ∀ i, i < n → f i = true) : blt "all" [.lst (Ls n fun i => .bl (f i))] = some (.bl true) := by
  show (asBs (Ls n fun i => D.bl (f i))).bind (fun bs => some (D.bl (bs.all id))) = _
  rw [asBs_Ls, Option.bind_some]
  have : (Ls n f).all id = true := by
    rw [List.all_eq_true]
    intro b hb
    unfold Ls at hb
    obtain ⟨i, hi, rfl⟩ := List.mem_map.mp hb
    exact h i (List.mem_range.mp hi)
  rw [this]
theorem bTup {l : List D} : blt "tuple" [.lst l] = some (.tup l) := rfl
theorem szlN {n : Nat} (h : n ≤ 100000) : szl n = true := by unfold szl; exact decide_eq_true h
theorem szlLs {α : Type} {n : Nat} {h : Nat → α} (hn : n ≤ 100000) : szl (Ls n h).length = true := by rw [Ls_len]; exact szlN hn
theorem rngN {n : Nat} (h : n ≤ 100000) : rng62 (n : Int) = true := by
  unfold rng62
  rw [decide_eq_true (by omega), decide_eq_true (by omega)]; rfl
theorem oLe {i j : Int} (h : i ≤ j) : cmpop .LtE (.int i) (.int j) = some (.bl true) := by
  show some (D.bl (decide (i ≤ j))) = _
  rw [decide_eq_true h]
theorem oLt {i j : Int} (h : i < j) : cmpop .Lt (.int i) (.int j) = some (.bl true) := by
  show some (D.bl (decide (i < j))) = _
  rw [decide_eq_true h]
theorem oLtF {i j : Int} (h : ¬ i < j) : cmpop .Lt (.int i) (.int j) = some (.bl false) := by
  show some (D.bl (decide (i < j))) = _
  rw [decide_eq_false h]
theorem oEqI {i j : Int} (h : i = j) : cmpop .Eq (.int i) (.int j) = some (.bl true) := by
  subst h
  show some (D.bl (i == i)) = _
  rw [beq_self_eq_true]
theorem oNeI {i j : Int} (h : i = j) : cmpop .NotEq (.int i) (.int j) = some (.bl false) := by
  subst h
  show some (D.bl (!(i == i))) = _
  rw [beq_self_eq_true]; rfl
theorem bMul {i j : Int} (h : small i = true ∨ small j = true) : binop .Mult (.int i) (.int j) = some (.int (i * j)) := by
  show (if (small i || small j) = true then _ else _) = _
  rw [if_pos (by rw [Bool.or_eq_true]; exact h)]
theorem bMod {i j : Int} (h : 0 < j) : binop .Mod (.int i) (.int j) = some (.int (i % j)) := by
  show (if decide (0 < j) = true then _ else _) = _
  rw [if_pos (decide_eq_true h)]
theorem bDiv {i j : Int} (h : 0 < j) (h' : j < 1073741824) : binop .FloorDiv (.int i) (.int j) = some (.int (i / j)) := by
  show (if (decide (0 < j) && decide (j < 1073741824)) = true then _ else _) = _
  rw [if_pos (by rw [decide_eq_true h, decide_eq_true h']; rfl)]
mutual
theorem dq_refl : ∀ d : D, dep d < 1000 → deq d d = true
  | .non, _ => rfl
  | .bl b, _ => by simp [deq]
  | .int i, _ => by simp [deq]
  | .str x, _ => by simp [deq]
  | .tup xs, h => by simp only [deq]; exact dqs_refl xs (by simp only [dep] at h; omega)
  | .lst xs, h => by simp only [deq]; exact dqs_refl xs (by simp only [dep] at h; omega)
theorem dqs_refl : ∀ ds : List D, deps ds < 1000 → deqs ds ds = true
  | [], _ => rfl
  | d :: ds, h => by
    simp only [deps] at h
    simp only [deqs, dq_refl d (by omega), dqs_refl ds (by omega), Bool.and_self]
end
theorem oEq {x y : D} (h1 : dep x ≤ 50) (h2 : dep y ≤ 50) : cmpop .Eq x y = some (.bl (deq x y)) := by
  show (if decide (dep x ≤ 50) = true then some (D.bl (deq x y)) else none) = _
  rw [decide_eq_true h1]; rfl
theorem deps_le {b : Nat} : ∀ {l : List D}, (∀ d ∈ l, dep d ≤ b) → deps l ≤ b
  | [], _ => Nat.zero_le _
  | d :: r, h => by
    simp only [deps]
    exact Nat.max_le.mpr ⟨h d List.mem_cons_self, deps_le fun e he => h e (List.mem_cons_of_mem _ he)⟩
theorem dep_row {n : Nat} {f : Nat → Int} : dep (row n f) ≤ 1 := by
  simp only [dep]
  have := deps_le (b := 0) (l := Ls n fun j => D.int (f j)) fun d hd => by
    unfold Ls at hd
    obtain ⟨i, _, rfl⟩ := List.mem_map.mp hd
    simp [dep]
  omega
theorem dep_tbl {m n : Nat} {f : Nat → Nat → Int} : dep (tbl m n f) ≤ 2 := by
  simp only [dep]
  have := deps_le (b := 1) (l := Ls m fun i => D.tup (Ls n fun j => D.int (f i j))) fun d hd => by
    unfold Ls at hd
    obtain ⟨i, _, rfl⟩ := List.mem_map.mp hd
    exact dep_row (f := f i)
  omega
section
variable {cx : Cxt} {n : Nat} {sc scope : Scope} {ρ : Rho} {a b c e : Expr} {es : List Expr} {p q : Pos} {x y z d : D} {ds : List D} {nm : Str}
theorem wR1n {tup : Bool} {j : Nat} (hw : wkOf cx sc e = .r1 a) (h1 : ev cx n sc ρ a = some (.int (j : Int))) (hz : j ≤ 100000) : evI cx tup (ev cx n sc ρ) sc e = some (Ls j fun k => .int (k : Int)) := by
  rw [wR1 hw h1 (rngN hz), range0_eq]
theorem wSqT {tup : Bool} {xs : List D} (hw : wkOf cx sc e = .sq) (h1 : ev cx n sc ρ e = some (.tup xs)) : evI cx tup (ev cx n sc ρ) sc e = some xs := wSq hw h1 rfl
theorem xIxL {m j : Nat} {h : Nat → D} (h1 : ev cx n sc ρ a = some (.tup (Ls m h))) (h2 : ev cx n sc ρ b = some (.int (j : Int))) (hj : j < m) (hs : plainE b = true) (hd : h j = d) : ev cx (n + 1) sc ρ (.Subscript a b p) = some d := hd ▸ xIx h1 h2 rfl (atD_Ls hj) hs
theorem xIx0 {m : Nat} {h : Nat → D} (h1 : ev cx n sc ρ a = some (.tup (Ls m h))) (h2 : ev cx n sc ρ b = some (.int 0)) (hj : 0 < m) (hs : plainE b = true) (hd : h 0 = d) : ev cx (n + 1) sc ρ (.Subscript a b p) = some d := hd ▸ xIx h1 h2 rfl (atD_Ls (j := 0) hj) hs
end
noncomputable abbrev plc (q : Nat) (c : Nat → Nat) : D := .tup (Ls q fun j => .int ((c j : Nat) : Int))
section
variable {cx : Cxt} {n : Nat} {sc scope : Scope} {ρ : Rho} {a b c e : Expr} {es : List Expr} {p q : Pos} {x y z d : D} {ds : List D} {nm : Str}
end
end DE

set_option Elab.async false
set_option linter.all false
namespace DE
open PySem
/-! ### any data -/
section
variable {cx : Cxt} {n : Nat} {sc scope : Scope} {ρ : Rho} {a b c e : Expr} {es : List Expr} {p q : Pos} {x y z d : D} {ds : List D} {nm : Str} {F m : Nat} {r : List Stmt} {fl : Fl} {op op' : CmpOp}
theorem gExtT {px ap cp : Pos} {M : Str} {ds zs : List D} (hx : (frz F e ρ).lookup nm = some (.ow ds)) (ho : (ownIn sc nm && plainName nm && ap.endLine == cp.line) = true) (hM : (M == "append") = false) (hM2 : (M == "extend") = true) (hz : szl (ds.length + zs.length) = true) (h : ev cx F sc (frz F e ρ) e = some (.tup zs)) (k : blk cx F (m + 1) sc r (setR (frz F e ρ) nm (.ow (ds ++ zs))) = some fl) :
    blk cx F (m + 1) sc (.Expr (.Call (.Attribute (.Name nm px) M ap) [e] [] cp) p :: r) ρ = some fl := by
  refine gSt (fl1 := .nxt _) ?_ k
  simp only [st, hx, ho, hM, hM2, Bool.false_and, Bool.false_eq_true, if_false, if_true, h, bind, Option.bind_some, hz]
end
section
variable {cx : Cxt} {n : Nat} {sc scope : Scope} {ρ : Rho} {a b c e : Expr} {es : List Expr} {p q : Pos} {x y z d : D} {ds : List D} {nm : Str} {F m : Nat} {r : List Stmt} {fl : Fl}
end
section
variable {cx : Cxt} {n : Nat} {sc scope : Scope} {ρ : Rho} {a b c e : Expr} {p q : Pos}
end
theorem compGo_map {f : D → Option (Option D)} {g : D → D} : ∀ {l : List D}, (∀ x ∈ l, f x = some (some (g x))) → compGo f l = some (l.map g)
  | [], _ => rfl
  | x :: l, h => by
    simp only [compGo, h x List.mem_cons_self, bind, Option.bind_some, compGo_map (l := l) fun y hy => h y (List.mem_cons_of_mem _ hy), Option.map_some, List.map_cons]
theorem bAllM {l : List D} {t : D → Bool} : blt "all" [.lst (l.map fun x => .bl (t x))] = some (.bl (l.all t)) := by
  have key : ∀ l : List D, asBs (l.map fun x => .bl (t x)) = some (l.map t) := by
    intro l
    induction l with
    | nil => rfl
    | cons a r ih => simp only [List.map_cons, asBs, ih]; rfl
  show (asBs (l.map fun x => .bl (t x))).bind (fun bs => some (D.bl (bs.all id))) = _
  rw [key, Option.bind_some, List.all_map]; rfl
noncomputable def lastS : List D → Sl
  | [] => .no
  | x :: r => .sh (r.getLastD x)
/-! ### states with slots that are only known not to be lists of one's own -/
noncomputable def nOw : Sl → Bool
  | .ow _ => false
  | .oo _ => false
  | _ => true
noncomputable def calmR (ρ : Rho) : Bool := ρ.all fun p => nOw p.2
section
variable {cx : Cxt} {sc : Scope} {ρ : Rho} {c e : Expr} {p : Pos} {d : D} {nm : Str} {F m : Nat} {r : List Stmt} {fl : Fl}
theorem frz_cons {y : Str} {s : Sl} {ρ : Rho} : frz F e ((y, s) :: ρ) = (match s with | .ow ds => if ment F y e then (y, .sh (.lst ds)) else (y, .ow ds) | .oo dss => if ment F y e then (y, .sh (.lst (dss.map .lst))) else (y, .oo dss) | s => (y, s)) :: frz F e ρ := by
  cases s <;> rfl
theorem frz_calm {y : Str} {s : Sl} {ρ : Rho} (h : nOw s = true) : frz F e ((y, s) :: ρ) = (y, s) :: frz F e ρ := by
  cases s <;> first | rfl | simp [nOw] at h
end
end DE

set_option Elab.async false
set_option linter.all false
set_option maxRecDepth 100000
namespace L2
open PySem PySem.Spec PyProof.Rows

end L2

namespace L2
open PySem PySem.Spec PyProof.Rows

section
variable (P : Program) (w : World)
end

section
variable {P : Program} {w : World} {H H' : Hp} {h h' : Heap} {a : Addr} {o : HO}
end

section
variable {P : Program} {w : World} {H : Hp} {h h' : Heap} {x e : Addr} {o' : HO}
end

section
variable {fs fs' ex ex' : List Addr} {H H1 H2 : Hp} {h h1 h2 h' : Heap} {a x e : Addr} {o : HO}
end

end L2

namespace L2
open PySem PySem.Spec PyProof.Rows

section
variable {X : Cx} {pins : List (Addr × Obj)} {σ : List (Option V)} {H H' : Hp} {s : Shared} {h' : Heap}

end

end L2

namespace L2
open PySem PySem.Spec PyProof.Rows
section
variable {X : Cx}

variable {a b : Expr} {ta tb : TE} {pos : Pos}
variable {tA tB' : TT} {rest : List Expr}
end
end L2

namespace L2
open PySem PySem.Spec PyProof.Rows

section
variable {X : Cx} {pins : List (Addr × Obj)} {σ : St} {H : Hp} {s : Shared} {a : Addr} {xs ys : List V}
end

section
variable {X : Cx} {pins : List (Addr × Obj)} {σ : St} {H : Hp} {s : Shared} {E : Value → Shared → Prop}
end

section
variable {X : Cx} {st : Stmt} {rest : List Stmt} {t u : TS} {e : Expr} {te : TE} {pos : Pos}
end

section
variable {X : Cx} {pos : Pos}
end

section
variable {X : Cx} {pos : Pos}
end

end L2

namespace L2
open PySem PySem.Spec PyProof.Rows
section
variable {X : Cx} {tg : Expr}
end

end L2

namespace L2
open PySem PySem.Spec PyProof.Rows

section
variable {X : Cx} {a b c : Expr} {ta tb tc : TE} {pos : Pos}

end

section
variable {X : Cx} {a b c : Expr} {ta tb tc : TE} {pos : Pos}
end
end L2

namespace L2
open PySem PySem.Spec PyProof.Rows

section
variable {prog : Program} {w : World} {A : Around} {E : Value → Shared → Prop} {s : Shared} {K : PySem.W.Frag} {x dx C f : Addr} {mA : Str → Option Value} {name : Str} {v : Value}

end

section
variable {P : Program} {w : World} {H H' : Hp} {h h' : Heap} {a C dx : Addr} {fs fs' : List (Str × V)}
end

section
variable {X : Cx} {pins : List (Addr × Obj)} {σ : St} {H : Hp} {s : Shared} {a C dx : Addr} {fs : List (Str × V)} {f : Str} {v : V} {A : Around} {E : Value → Shared → Prop}

end

section
variable {X : Cx} {o e value : Expr} {f : Str} {pos pos' tpos : Pos} {ta tv : TE}
end

section
variable {X : Cx} {pins : List (Addr × Obj)} {σ : St} {H : Hp} {s : Shared} {A : Around} {E : Value → Shared → Prop} {Q : Value → Shared → Prop} {c : Value} {b : Bool}
end
end L2

namespace L2
open PySem PySem.Spec PyProof.Rows

section
variable {X : Cx} {e : Expr} {es : List Expr} {te : TE} {t : TA} {pos : Pos}
end

section
variable {X : Cx} {pins : List (Addr × Obj)} {σ : St} {H : Hp} {s s' : Shared}
end

section
variable {X : Cx} {CX : CXT} {k : Nat} {f C : Addr} {fd : FuncData} {ps : List Str} {sp : Sp} {dvs : List V} {ds : List Value} {E : XK} {x m : Str} {p pos apos : Pos} {e o : Expr} {es : List Expr} {ta : TE} {t : TA}

end

section
variable {X : Cx} {CX : CXT} {k : Nat} {f C : Addr} {fd : FuncData} {ps ks : List Str} {sp : Sp} {E : XK} {x m : Str} {p pos apos kpos : Pos} {e o : Expr} {es : List Expr} {kws : List Keyword} {te ta : TE} {t tk : TA} {nm : Option Str}
variable {g : List Value → List Value → List Value} {gV : List V → List V → List V}
end

end L2

namespace L2
open PySem PySem.Spec PyProof.Rows
section
variable {X : Cx} {x : Str} {p pos : Pos} {e : Expr} {es : List Expr} {t : TA} {id T : String} {r : List V → Hp → VK → Prop}

end
end L2

namespace L2
open PySem PySem.Spec PyProof.Rows

section
variable {κ : Type} [DecidableEq κ]
noncomputable def valV (kvs : List (κ × V)) (k : κ) : Option V := (kvs.find? fun kv => decide (kv.1 = k)).map (·.2)
noncomputable def putK (kvs : List (κ × V)) (k : κ) (v : V) : List (κ × V) :=
  if (kvs.any fun kv => decide (kv.1 = k)) = true then kvs.map (fun kv => if kv.1 = k then (kv.1, v) else kv) else kvs ++ [(k, v)]
noncomputable def dropK (kvs : List (κ × V)) (k : κ) : List (κ × V) := kvs.filter fun kv => decide (kv.1 ≠ k)

theorem valV_pos {p : κ × V} {r : List (κ × V)} {k : κ} (e : p.1 = k) : valV (p :: r) k = some p.2 := by simp [valV, List.find?_cons, e]
theorem valV_neg {p : κ × V} {r : List (κ × V)} {k : κ} (e : ¬ p.1 = k) : valV (p :: r) k = valV r k := by simp [valV, List.find?_cons, e]
theorem valV_any (k : κ) : ∀ kvs : List (κ × V), (kvs.any fun kv => decide (kv.1 = k)) = (valV kvs k).isSome
  | [] => rfl
  | p :: r => by
    rw [List.any_cons]
    by_cases e : p.1 = k
    · simp only [valV_pos e, decide_eq_true e, Bool.true_or, Option.isSome_some]
    · rw [valV_neg e, decide_eq_false e, Bool.false_or]; exact valV_any k r
theorem length_putK (kvs : List (κ × V)) (k : κ) (v : V) : (putK kvs k v).length ≤ kvs.length + 1 := by
  unfold putK
  split
  · rw [List.length_map]; omega
  · rw [List.length_append, List.length_cons, List.length_nil]; omega

theorem RelO.isSome_eq {o : Option V} {u : Option Value} (r : RelO o u) : o.isSome = u.isSome := by
  cases o with
  | none => cases u with
    | none => rfl
    | some _ => exact (show False from r).elim
  | some _ => cases u with
    | none => exact (show False from r).elim
    | some _ => rfl
theorem RelO.getD {o : Option V} {u : Option Value} {d : V} {d' : Value} (r : RelO o u) (rd : RelV d d') : RelV (o.getD d) (u.getD d') := by
  cases o with
  | none => cases u with
    | none => exact rd
    | some _ => exact (show False from r).elim
  | some _ => cases u with
    | none => exact (show False from r).elim
    | some _ => exact r

theorem KV.val {kvs : List (κ × V)} {vs : List (κ × Value)} (r : KV kvs vs) (k : κ) : RelO (valV kvs k) (valueAt vs k) := by
  unfold KV at r
  induction r with
  | nil => exact True.intro
  | @cons p q ps qs h t ih =>
    obtain ⟨h1, h2⟩ := h
    by_cases e : p.1 = k
    · have e' : q.1 = k := h1.symm.trans e
      have b : valueAt (q :: qs) k = some q.2 := by simp [valueAt, List.find?_cons, e']
      rw [valV_pos e, b]; exact h2
    · have e' : ¬ q.1 = k := fun z => e (h1.trans z)
      have b : valueAt (q :: qs) k = valueAt qs k := by simp [valueAt, List.find?_cons, e']
      rw [valV_neg e, b]; exact ih
theorem KV.any {kvs : List (κ × V)} {vs : List (κ × Value)} (r : KV kvs vs) (k : κ) : (kvs.any fun kv => decide (kv.1 = k)) = vs.any fun kv => decide (kv.1 = k) := by
  unfold KV at r
  induction r with
  | nil => rfl
  | cons h t ih => rw [List.any_cons, List.any_cons, ih, h.1]
theorem KV.repl {kvs : List (κ × V)} {vs : List (κ × Value)} (r : KV kvs vs) (k : κ) {y : V} {u : Value} (ry : RelV y u) :
    KV (kvs.map fun kv => if kv.1 = k then (kv.1, y) else kv) (vs.map fun kv => if kv.1 = k then (kv.1, u) else kv) := by
  unfold KV at r ⊢
  induction r with
  | nil => exact .nil
  | @cons p q ps qs h t ih =>
    rw [List.map_cons, List.map_cons]
    refine .cons ?_ ih
    obtain ⟨h1, h2⟩ := h
    by_cases e : p.1 = k
    · rw [if_pos e, if_pos (h1.symm.trans e)]; exact ⟨h1, ry⟩
    · rw [if_neg e, if_neg (fun z => e (h1.trans z))]; exact ⟨h1, h2⟩
theorem KV.put {kvs : List (κ × V)} {vs : List (κ × Value)} (r : KV kvs vs) (k : κ) {y : V} {u : Value} (ry : RelV y u) : KV (putK kvs k y) (stored vs k u) := by
  unfold putK stored
  rw [r.any k]
  by_cases e : (vs.any fun kv => decide (kv.1 = k)) = true
  · rw [if_pos e, if_pos e]; exact r.repl k ry
  · rw [if_neg e, if_neg e]; exact Paired.snoc r ⟨rfl, ry⟩
theorem KV.length {kvs : List (κ × V)} {vs : List (κ × Value)} (r : KV kvs vs) : kvs.length = vs.length := Paired.length r
end


theorem kV_is {P : Program} {w : World} {k : Key} {u : Value} (r : RelV (kV k) u) : (mixKind P w).is k u = true := by
  cases k with
  | inl i => obtain ⟨t, e⟩ := (show ∃ t, u = Value.int i t from r); subst e; exact mixKind_int P w i t
  | inr x => obtain ⟨t, e⟩ := (show ∃ t, u = Value.str x t from r); subst e; exact mixKind_str P w x t
theorem items_are {P : Program} {w : World} : ∀ {ks : List Key} {us : List Value}, Vals (ks.map kV) us → ItemsAre (mixKind P w) ks us
  | [], _, r => by rw [List.map_nil] at r; cases r; exact .nil
  | k :: ks, _, r => by
    rw [List.map_cons] at r
    cases r with
    | cons h t => exact .cons (kV_is h) (items_are t)

noncomputable abbrev KT (H : Hp) : List (List Key × V) → List (List Key × Addr × Value) → Prop := Paired fun p q => p.1 = q.1 ∧ H q.2.1 = some (.tup (p.1.map kV)) ∧ RelV p.2 q.2.2
theorem KT.val {H : Hp} {kvs : List (List Key × V)} {xs : List (List Key × Addr × Value)} (r : KT H kvs xs) (k : List Key) : RelO (valV kvs k) ((atKey xs k).map (·.2)) := by
  induction r with
  | nil => exact True.intro
  | @cons p q ps qs h t ih =>
    obtain ⟨h1, _, h2⟩ := h
    by_cases e : p.1 = k
    · have e' : q.1 = k := h1.symm.trans e
      have b : atKey (q :: qs) k = some q.2 := by simp [atKey, List.find?_cons, e']
      rw [valV_pos e, b]; exact h2
    · have e' : ¬ q.1 = k := fun z => e (h1.trans z)
      have b : atKey (q :: qs) k = atKey qs k := by simp [atKey, List.find?_cons, e']
      rw [valV_neg e, b]; exact ih
theorem KT.repl {H : Hp} {kvs : List (List Key × V)} {xs : List (List Key × Addr × Value)} (r : KT H kvs xs) (k : List Key) {y : V} {u : Value} (ry : RelV y u) :
    KT H (kvs.map fun kv => if kv.1 = k then (kv.1, y) else kv) (xs.map (putAt k u)) := by
  induction r with
  | nil => exact .nil
  | @cons p q ps qs h t ih =>
    rw [List.map_cons, List.map_cons]
    refine .cons ?_ ih
    obtain ⟨h1, h2, h3⟩ := h
    unfold putAt
    by_cases e : p.1 = k
    · rw [if_pos e, if_pos (h1.symm.trans e)]; exact ⟨h1, h2, ry⟩
    · rw [if_neg e, if_neg (fun z => e (h1.trans z))]; exact ⟨h1, h2, h3⟩
theorem KT.put {H : Hp} {kvs : List (List Key × V)} {xs : List (List Key × Addr × Value)} (r : KT H kvs xs) (k : List Key) {b : Addr} {y : V} {u : Value} (hb : H b = some (.tup (k.map kV))) (ry : RelV y u) :
    KT H (putK kvs k y) (storedH xs k b u) := by
  have e : (kvs.any fun kv => decide (kv.1 = k)) = (atKey xs k).isSome := by
    rw [valV_any, (r.val k).isSome_eq, Option.isSome_map]
  unfold putK storedH
  rw [e]
  by_cases q : (atKey xs k).isSome = true
  · rw [if_pos q, if_pos q]; exact r.repl k ry
  · rw [if_neg q, if_neg q]; exact Paired.snoc r ⟨rfl, hb, ry⟩
theorem KT.keeps {H H' : Hp} {kvs : List (List Key × V)} {xs : List (List Key × Addr × Value)} (r : KT H kvs xs) (ht : ∀ b ys, H b = some (.tup ys) → H' b = some (.tup ys)) : KT H' kvs xs :=
  Paired.mapP r fun _ _ z => ⟨z.1, ht _ _ z.2.1, z.2.2⟩

section
variable {P : Program} {w : World} {H : Hp} {h : Heap} {a : Addr}
theorem rd_of {u : HO} (ok : HOk P w H h) (e : Rd H a u) : ObjOk P w H h a u := e.ok ok
theorem dk_rd {kvs : List (Key × V)} (ok : HOk P w H h) (e : Rd H a (.dK kvs)) : kvs.length ≤ sizeLine ∧ (a == sysModules) = false ∧ ∃ vs, KV kvs vs ∧ h.DictOf (mixKind P w) a vs :=
  show ObjOk P w H h a (.dK kvs) from rd_of ok e
theorem dk_of {kvs : List (Key × V)} (ok : HOk P w H h) (e : H a = some (.dK kvs)) : kvs.length ≤ sizeLine ∧ (a == sysModules) = false ∧ ∃ vs, KV kvs vs ∧ h.DictOf (mixKind P w) a vs := dk_rd ok (.inl e)
theorem key_of {ks : List Key} (ok : HOk P w H h) (e : H a = some (.tup (ks.map kV))) : (tupleKind (mixKind P w)).is h ks a := by
  obtain ⟨_, its, r, o, h1, h2, n, h3⟩ := (show ObjOk P w H h a (.tup (ks.map kV)) from ok a _ e)
  exact ⟨o, its.toArray, n, h1, h2, h3, by simpa using items_are r⟩
theorem dt_rd {kvs : List (List Key × V)} (ok : HOk P w H h) (e : Rd H a (.dT kvs)) : kvs.length ≤ sizeLine ∧ (a == sysModules) = false ∧
    ∃ xs, KT H kvs xs ∧ h.DictOfH (tupleKind (mixKind P w)) a xs := by
  obtain ⟨z, y, xs, r, o, es, ep, h1, h2, h3, h4, h5⟩ := (show ObjOk P w H h a (.dT kvs) from rd_of ok e)
  refine ⟨z, y, xs, r, o, es, ep, h1, h2, h3, h4, fun x hx => ?_, h5⟩
  have all : ∀ {l : List (List Key × V)} {m : List (List Key × Addr × Value)}, KT H l m → ∀ x ∈ m, (tupleKind (mixKind P w)).is h x.1 x.2.1 := by
    intro l m q
    induction q with
    | nil => intro x hx; exact nomatch hx
    | @cons p q ps qs hq t ih =>
      intro x hx
      rcases List.mem_cons.mp hx with e | hx
      · subst e
        exact key_of ok (by rw [← hq.1]; exact hq.2.1)
      · exact ih x hx
  exact all r x hx
theorem dt_of {kvs : List (List Key × V)} (ok : HOk P w H h) (e : H a = some (.dT kvs)) : kvs.length ≤ sizeLine ∧ (a == sysModules) = false ∧
    ∃ xs, KT H kvs xs ∧ h.DictOfH (tupleKind (mixKind P w)) a xs := dt_rd ok (.inl e)
end

noncomputable def DGet (H : Hp) (a : Addr) (y : V) (r : Option V) : Prop :=
  (∃ kvs k, Rd H a (.dK kvs) ∧ y = kV k ∧ r = valV kvs k) ∨ ∃ kvs k b, Rd H a (.dT kvs) ∧ y = .ref b ∧ H b = some (.tup (k.map kV)) ∧ r = valV kvs k
noncomputable def DPut (H : Hp) (a : Addr) (y v : V) (H' : Hp) : Prop :=
  (∃ kvs k, H a = some (.dK kvs) ∧ y = kV k ∧ kvs.length < sizeLine ∧ H' = upd H a (.dK (putK kvs k v))) ∨
  ∃ kvs k b, H a = some (.dT kvs) ∧ y = .ref b ∧ H b = some (.tup (k.map kV)) ∧ kvs.length < sizeLine ∧ H' = upd H a (.dT (putK kvs k v))
theorem DGet.k {H : Hp} {a : Addr} {kvs : List (Key × V)} {k : Key} (e : H a = some (.dK kvs)) : DGet H a (kV k) (valV kvs k) := .inl ⟨kvs, k, .inl e, rfl, rfl⟩
theorem DPut.k {H : Hp} {a : Addr} {kvs : List (Key × V)} {k : Key} {v : V} (e : H a = some (.dK kvs)) (hl : kvs.length < sizeLine) : DPut H a (kV k) v (upd H a (.dK (putK kvs k v))) := .inl ⟨kvs, k, e, rfl, hl, rfl⟩


section
variable {X : Cx} {pins : List (Addr × Obj)} {σ : St} {H : Hp} {s : Shared} {a : Addr} {y v : V} {u r : Value} {o : Option V} {A : Around} {E : Value → Shared → Prop}

theorem Inv.big (I : Inv X pins σ H s) : sysModules < s.heap.objs.size := by
  have h : mainGlobals < s.heap.objs.size := (I.mod.glob.keeps I.bk).lt
  exact Nat.lt_trans (by decide) h

theorem d_getItem {Q : Value → Shared → Prop} (hu : A.units + 1 < cLine) (I : Inv X pins σ H s) (g : DGet H a y (some v)) (ry : RelV y u) (h : ∀ w' s', Inv X pins σ H s' → RelV v w' → Q w' s') :
    wpAny (model X.prog X.w) A (getItem (.ref a) u) Q E s := by
  rcases g with ⟨kvs, k, e, ey, l⟩ | ⟨kvs, k, b, e, ey, eb, l⟩
  · subst ey
    obtain ⟨z, hd, vs, rel, dd⟩ := dk_rd I.hok e
    obtain ⟨w', hw, rw'⟩ := RelO.some_of (v := v) (o := valueAt vs k) (by rw [l]; exact rel.val k)
    exact wpAny_getItem_of (kV_is ry) dd.mapOf hw (h w' _ (I.tok _) rw')
  · subst ey
    cases (show u = Value.ref b from ry)
    obtain ⟨z, hd, xs, rel, dd⟩ := dt_rd I.hok e
    obtain ⟨w', hw, rw'⟩ := RelO.some_of (v := v) (o := (atKey xs k).map (·.2)) (by rw [l]; exact rel.val k)
    obtain ⟨p, hp, hp2⟩ := Option.map_eq_some_iff.mp hw
    refine wpAny_getItem_heap (tupleKind_room_in1 hu) (key_of I.hok eb) dd hp ?_
    rw [hp2]
    exact h w' _ (I.tok _) rw'
theorem d_in {Q : Value → Shared → Prop} (hu : A.units + 1 < cLine) (I : Inv X pins σ H s) (g : DGet H a y o) (ry : RelV y u) (h : ∀ s', Inv X pins σ H s' → Q (.bool o.isSome) s') :
    wpAny (model X.prog X.w) A (compareOp .In u (.ref a)) Q E s := by
  rcases g with ⟨kvs, k, e, ey, l⟩ | ⟨kvs, k, b, e, ey, eb, l⟩
  · subst ey
    obtain ⟨z, hd, vs, rel, dd⟩ := dk_rd I.hok e
    refine wpAny_in_of (kV_is ry) hd dd.mapOf ?_
    rw [← (rel.val k).isSome_eq, ← l]
    exact h _ (I.tok _)
  · subst ey
    cases (show u = Value.ref b from ry)
    obtain ⟨z, hd, xs, rel, dd⟩ := dt_rd I.hok e
    refine wpAny_in_heap (tupleKind_room_in1 hu) (key_of I.hok eb) hd dd ?_
    have q := (rel.val k).isSome_eq
    rw [Option.isSome_map] at q
    rw [← q, ← l]
    exact h _ (I.tok _)
theorem d_notIn {Q : Value → Shared → Prop} (hu : A.units + 1 < cLine) (I : Inv X pins σ H s) (g : DGet H a y o) (ry : RelV y u) (h : ∀ s', Inv X pins σ H s' → Q (.bool (!o.isSome)) s') :
    wpAny (model X.prog X.w) A (compareOp .NotIn u (.ref a)) Q E s := by
  rcases g with ⟨kvs, k, e, ey, l⟩ | ⟨kvs, k, b, e, ey, eb, l⟩
  · subst ey
    obtain ⟨z, hd, vs, rel, dd⟩ := dk_rd I.hok e
    refine wpAny_notIn_of (kV_is ry) hd dd.mapOf ?_
    rw [← (rel.val k).isSome_eq, ← l]
    exact h _ (I.tok _)
  · subst ey
    cases (show u = Value.ref b from ry)
    obtain ⟨z, hd, xs, rel, dd⟩ := dt_rd I.hok e
    refine wpAny_notIn_heap (tupleKind_room_in1 hu) (key_of I.hok eb) hd dd ?_
    have q := (rel.val k).isSome_eq
    rw [Option.isSome_map] at q
    rw [← q, ← l]
    exact h _ (I.tok _)
theorem d_write {h' : Heap} {t' : Nat} {ob : HO} (I : Inv X pins σ H s) (mu : Mut (H a)) (hs : Heap.SameBut a s.heap h') (he : ∃ q, h'.get? a = some q) (new : ObjOk X.prog X.w (upd H a ob) h' a ob) :
    Inv X pins σ (upd H a ob) { s with heap := h', toks := t' } :=
  I.write (x := a) (e := a) mu (.inl rfl) (fun b q hb z => (hs.2 b hb).trans z) he new
theorem dk_new {P : Program} {w : World} {H' : Hp} {h' : Heap} {kvs : List (Key × V)} {vs : List (Key × Value)} (z : kvs.length ≤ sizeLine) (hd : (a == sysModules) = false) (rel : KV kvs vs) (dd : h'.DictOf (mixKind P w) a vs) :
    ObjOk P w H' h' a (.dK kvs) := ⟨z, hd, vs, rel, dd⟩
theorem d_setItem {H' : Hp} {Q : Unit → Shared → Prop} (hu : A.units + 1 < cLine) (I : Inv X pins σ H s) (g : DPut H a y v H') (ry : RelV y u) (rv : RelV v r) (h : ∀ s', Inv X pins σ H' s' → Q () s') :
    wpAny (model X.prog X.w) A (setItem (.ref a) u r) Q E s := by
  rcases g with ⟨kvs, k, e, ey, l, eH⟩ | ⟨kvs, k, b, e, ey, eb, l, eH⟩
  · subst ey eH
    obtain ⟨z, hd, vs, rel, dd⟩ := dk_of I.hok e
    have hz : vs.length ≤ sizeLine := by rw [← rel.length]; exact z
    have hl : (putK kvs k v).length ≤ sizeLine := by have := length_putK kvs k v; omega
    refine wpAny_setItem_pairs (hsz := hz) (kV_is ry) dd fun h' dd' hs => h _ ?_
    have he : ∃ q, h'.get? a = some q := let ⟨q, _, _, hq, _⟩ := dd'; ⟨q, hq⟩
    exact d_write I (by rw [e]; exact True.intro) hs he (dk_new hl hd (rel.put k rv) dd')
  · subst ey eH
    cases (show u = Value.ref b from ry)
    obtain ⟨z, hd, xs, rel, dd⟩ := dt_of I.hok e
    have hz : xs.length ≤ sizeLine := by rw [← Paired.length rel]; exact z
    have hl : (putK kvs k v).length ≤ sizeLine := by have := length_putK kvs k v; omega
    refine wpAny_setItem_heap (hsz := hz) (tupleKind_room_in1 hu) (key_of I.hok eb) dd fun h' dd' hs => h _ ?_
    obtain ⟨q, es, ep, hq, h2, h3, h4, _, h5⟩ := dd'
    refine d_write I (by rw [e]; exact True.intro) hs ⟨q, hq⟩ ⟨hl, hd, _, (rel.put k eb rv).keeps fun c ys ec => ?_, q, es, ep, hq, h2, h3, h4, h5⟩
    rw [upd_ne (ne_of ec e (fun z => nomatch z))]
    exact ec
end

section
variable {X : Cx} {pins : List (Addr × Obj)} {σ : St} {H : Hp} {s : Shared} {a : Addr} {kvs : List (Key × V)} {k : Key} {u : Value} {A : Around} {E : Value → Shared → Prop}
end


noncomputable def NoSl (i : Expr) : Prop := ∀ ov iv, subscripted i false ov iv = operate [ov, iv] (getItem ov iv)
theorem subD_of {prog : Program} {w : World} {A : Around} {E : Value → Shared → Prop} {s : Shared} {env : Env} {value slice : Expr} {pos : Pos} {T id : String} {Q : Value → Shared → Prop}
    (hl : typeLookup (.type T) "__getitem__" = pure (some (.builtin id))) (hs : NoSl slice)
    (h : wpAny (model prog w) A (eval value env) (fun o s₁ => wpAny (model prog w) A (eval slice env) (fun i s₂ => s₂.TypeIs o T ∧ wpAny (model prog w) A (getItem o i) Q E s₂) E s₁) E s) :
    wpAny (model prog w) A (eval (.Subscript value slice pos) env) Q E s := by
  refine Subscript_ (wpAny_mono h (fun o s₁ h₁ => wpAny_mono h₁ (fun i s₂ h₂ => ?_) fun _ _ x => x) fun _ _ x => x)
  obtain ⟨hT, h₂⟩ := h₂
  unfold subscriptTail
  refine wpAny_bind ?_
  rw [getitemInPython_of_ne hT.not_modules]
  refine wpAny_bind (wpAny_specialOf hT hl ?_)
  have fin : wpAny (model prog w) A (subscripted slice false o i) (fun r s₃ => wpAny (model prog w) A (letTemporaryGo value o r >>= fun _ => pure r) Q E s₃) E s₂ := by
    rw [hs o i]
    exact wpAny_operating (wpAny_mono h₂ (fun r s₃ h₃ => wpAny_bind (wpAny_letTemporaryGo (wpAny_pure h₃))) fun _ _ x => x)
  first
    | exact wpAny_pure (wpAny_bind fin)
    | exact wpAny_bind (wpAny_pure (wpAny_bind fin))
    | exact wpAny_bind fin

theorem dict_typeIs {X : Cx} {pins : List (Addr × Obj)} {σ : St} {H : Hp} {s : Shared} {a : Addr} {y : V} {o : Option V} (I : Inv X pins σ H s) (g : DGet H a y o) : s.TypeIs (.ref a) "dict" := by
  rcases g with ⟨kvs, k, e, _, _⟩ | ⟨kvs, k, b, e, _, _, _⟩
  · obtain ⟨_, _, vs, _, dd⟩ := dk_rd I.hok e
    exact dd.typeIs
  · obtain ⟨_, _, xs, _, dd⟩ := dt_rd I.hok e
    exact dd.typeIs

noncomputable def tDGet (td ty : TE) : TE := fun σ H Q => td σ H fun x H1 => ty σ H1 fun y H2 => ∃ a v, x = .ref a ∧ DGet H2 a y (some v) ∧ Q v H2
noncomputable def tDIn (ty td : TE) : TE := fun σ H Q => ty σ H fun y H1 => td σ H1 fun x H2 => ∃ a o, x = .ref a ∧ DGet H2 a y o ∧ Q (.bl o.isSome) H2
noncomputable def tDNotIn (ty td : TE) : TE := fun σ H Q => ty σ H fun y H1 => td σ H1 fun x H2 => ∃ a o, x = .ref a ∧ DGet H2 a y o ∧ Q (.bl (!o.isSome)) H2
noncomputable def sDPut (td ty tv : TE) : TS := fun D σ H => tv σ H fun v H1 => td σ H1 fun x H2 => ty σ H2 fun y H3 => ∃ a H4, x = .ref a ∧ DPut H3 a y v H4 ∧ D.nx σ H4
noncomputable def sDAug (td ty tv : TE) (rd : V → V → Hp → VK → Prop) : TS := fun D σ H => td σ H fun x H1 => ty σ H1 fun y H2 => ∃ a v, x = .ref a ∧ DGet H2 a y (some v) ∧
  tv σ H2 fun y2 H3 => rd v y2 H3 fun z H4 => ∃ H5, DPut H4 a y z H5 ∧ D.nx σ H5
noncomputable def sDDel (td ty : TE) : TS := fun D σ H => td σ H fun x H1 => ty σ H1 fun y H2 => ∃ a kvs k, x = .ref a ∧ H2 a = some (.dK kvs) ∧ y = kV k ∧ (valV kvs k).isSome = true ∧ D.nx σ (upd H2 a (.dK (dropK kvs k)))

section
variable {X : Cx} {o i e value : Expr} {pos pos' tpos : Pos} {td ty tv : TE}
theorem pe_dget (hu : X.A.units + 1 < cLine) (ho : PE X o td) (hi : PE X i ty) (hs : NoSl i) : PE X (.Subscript o i pos) (tDGet td ty) := by
  intro pins s σ H Q I h
  refine subD_of PySem.F.slot_dict_getitem.lookup hs (thn (ho pins s σ H _ I h) fun u s1 ⟨x, H1, I1, rx, q1⟩ => thn (hi pins s1 σ H1 _ I1 q1) fun iv s2 ⟨y, H2, I2, ry, a, v, ex, g, q2⟩ => ?_)
  subst ex
  obtain rfl : u = Value.ref a := rx
  exact ⟨dict_typeIs I2 g, d_getItem hu I2 g ry fun w' s3 I3 rw' => ⟨v, H2, I3, rw', q2⟩⟩
theorem pc_din (hu : X.A.units + 1 < cLine) (hi : PE X i ty) (ho : PE X o td) : PC X .In i o (tDIn ty td) := by
  intro pins s σ H Q I h
  refine thn (hi pins s σ H _ I h) fun iv s1 ⟨y, H1, I1, ry, q1⟩ => thn (ho pins s1 σ H1 _ I1 q1) fun u s2 ⟨x, H2, I2, rx, a, ov, ex, g, q2⟩ => ?_
  subst ex
  obtain rfl : u = Value.ref a := rx
  exact d_in hu I2 g ry fun s3 I3 => ⟨.bl ov.isSome, H2, I3, rfl, q2⟩
theorem pc_dnotin (hu : X.A.units + 1 < cLine) (hi : PE X i ty) (ho : PE X o td) : PC X .NotIn i o (tDNotIn ty td) := by
  intro pins s σ H Q I h
  refine thn (hi pins s σ H _ I h) fun iv s1 ⟨y, H1, I1, ry, q1⟩ => thn (ho pins s1 σ H1 _ I1 q1) fun u s2 ⟨x, H2, I2, rx, a, ov, ex, g, q2⟩ => ?_
  subst ex
  obtain rfl : u = Value.ref a := rx
  exact d_notIn hu I2 g ry fun s3 I3 => ⟨.bl (!ov.isSome), H2, I3, rfl, q2⟩
theorem ps_dput (hu : X.A.units + 1 < cLine) (ho : PE X o td) (hi : PE X i ty) (hv : PE X value tv) (hs : swapsWith value (some (.Subscript o i pos')) pos.line X.env = pure false) :
    PS X (.Assign [.Subscript o i pos'] value pos) (sDPut td ty tv) := by
  intro pins s σ H D I h
  refine wpAny_Assign_Subscript (thn (hv pins s σ H _ I h) fun r s1 ⟨v, H1, I1, rv, q1⟩ => thn (ho pins s1 σ H1 _ I1 q1) fun u s2 ⟨x, H2, I2, rx, q2⟩ => thn (hi pins s2 σ H2 _ I2 q2) fun iv s3 ⟨y, H3, I3, ry, a, H4, ex, g, q3⟩ => ?_) hs
  subst ex
  obtain rfl : u = Value.ref a := rx
  exact d_setItem hu I3 g ry rv fun s4 I4 => ⟨σ, H4, I4, q3⟩
end


theorem dk_empty {P : Program} {w : World} {H : Hp} (h : Heap) (hb : sysModules < h.objs.size) : ObjOk P w H (h.push { cls := .type "dict", data := .dict #[] }) h.objs.size (.dK []) :=
  ⟨Nat.zero_le _, beq_eq_false_iff_ne.mpr (Ne.symm (Nat.ne_of_lt hb)), [], .nil, Heap.DictOf.new h⟩
noncomputable def tDNewK : TE := fun _ H Q => ∀ p, H p = none → Q (.ref p) (upd H p (.dK []))
noncomputable def tDNewT : TE := fun _ H Q => ∀ p, H p = none → Q (.ref p) (upd H p (.dT []))
section
variable {X : Cx} {pos : Pos}
theorem pe_dnewK : PE X (.Dict [] [] pos) tDNewK := fun pins s σ H Q I h =>
  wpAny_Dict_empty ⟨.ref s.heap.objs.size, _, I.laid (a := s.heap.objs.size) (o := .dK []) (t' := s.toks) (fun _ _ q => Heap.get?_push_of_some _ q) (Nat.le_refl _) (dk_empty s.heap I.big), rfl, h _ (I.hok.fresh (Nat.le_refl _))⟩
end

noncomputable def tPairs : List (TE × TE) → St → Hp → (List (V × V) → Hp → Prop) → Prop
  | [], _, H, Q => Q [] H
  | (tk, tv) :: r, σ, H, Q => tk σ H fun x H1 => tv σ H1 fun y H2 => tPairs r σ H2 fun ps H3 => Q ((x, y) :: ps) H3
noncomputable abbrev VV : List (V × V) → List (Value × Value) → Prop := Paired fun p q => RelV p.1 q.1 ∧ RelV p.2 q.2
noncomputable def PPs (X : Cx) (pos : Pos) (keys : List (Option Expr)) (values : List Expr) (trs : List (TE × TE)) : Prop :=
  ∀ (pins : List (Addr × Obj)) (s : Shared) (σ : St) (H : Hp) (Q : List (V × V) → Hp → Prop), Inv X pins σ H s → tPairs trs σ H Q →
    wpAny (model X.prog X.w) X.A (evalPairs (pairTrees keys values X.env pos)) (fun vs s' => ∃ ps H', Inv X pins σ H' s' ∧ VV ps vs ∧ Q ps H') X.xe s

noncomputable def mergeK (kvs more : List (Key × V)) : List (Key × V) := more.foldl (fun acc kv => putK acc kv.1 kv.2) kvs
noncomputable def tDisp (trs : List (TE × TE)) : TE := fun σ H Q => ∀ p, H p = none → tPairs trs σ (upd H p (.dK [])) fun ps H2 => H2 p = some (.dK []) ∧ ∃ kvs : List (Key × V), ps = kvs.map (fun kv => (kV kv.1, kv.2)) ∧ kvs.length ≤ 15 ∧ Q (.ref p) (upd H2 p (.dK (mergeK [] kvs)))


structure M1 (X : Cx) (o : Expr) (m : Str) (apos : Pos) (e : Expr) (cpos : Pos) : Prop where
  base : attributeBase o m X.env (eval o X.env) = eval o X.env
  few : ((backTo cpos (starEach [e] X.env)).all (fun x => !x.1) && (backToKw cpos (keywordEach [] X.env)).all (fun x => x.1.isSome)
    && decide (([e] : List Expr).length + ([] : List Keyword).length + (if ([] : List Keyword).isEmpty then 0 else 1) < 30)) = true
  line : (apos.endLine == cpos.line) = true
  trees : backTo cpos (starEach [e] X.env) = [(false, eval e X.env)]
structure M2 (X : Cx) (o : Expr) (m : Str) (apos : Pos) (e f : Expr) (cpos : Pos) : Prop where
  base : attributeBase o m X.env (eval o X.env) = eval o X.env
  few : ((backTo cpos (starEach [e, f] X.env)).all (fun x => !x.1) && (backToKw cpos (keywordEach [] X.env)).all (fun x => x.1.isSome)
    && decide (([e, f] : List Expr).length + ([] : List Keyword).length + (if ([] : List Keyword).isEmpty then 0 else 1) < 30)) = true
  line : (apos.endLine == cpos.line) = true
  trees : backTo cpos (starEach [e, f] X.env) = [(false, eval e X.env), (false, eval f X.env)]

noncomputable def IsD (H : Hp) (a : Addr) : Prop := (∃ kvs, Rd H a (.dK kvs)) ∨ ∃ kvs, Rd H a (.dT kvs)
theorem isD_at {X : Cx} {pins : List (Addr × Obj)} {σ : St} {H : Hp} {s : Shared} {a : Addr} (I : Inv X pins σ H s) (d : IsD H a) :
    s.TypeIs (.ref a) "dict" ∧ (∀ b, Value.ref a = .ref b → ∃ ob, s.heap.get? b = some ob ∧ ob.dict = none) ∧ (a == sysModules) = false := by
  rcases d with ⟨kvs, e⟩ | ⟨kvs, e⟩
  · obtain ⟨_, hd, vs, _, dd⟩ := dk_rd I.hok e
    refine ⟨dd.typeIs, fun b q => ?_, hd⟩
    cases q
    obtain ⟨ob, _, _, h1, h2, _⟩ := dd
    exact ⟨ob, h1, h2.2.1⟩
  · obtain ⟨_, hd, xs, _, dd⟩ := dt_rd I.hok e
    refine ⟨dd.typeIs, fun b q => ?_, hd⟩
    cases q
    obtain ⟨ob, _, _, h1, h2, _⟩ := dd
    exact ⟨ob, h1, h2.2.1⟩

section
variable {X : Cx} {pins : List (Addr × Obj)} {σ : St} {H : Hp} {s : Shared} {a : Addr} {y d : V} {u r : Value} {o : Option V} {A : Around} {E : Value → Shared → Prop}
theorem d_get1 {Q : Value → Shared → Prop} (hu : A.units + 1 < cLine) (I : Inv X pins σ H s) (g : DGet H a y o) (ry : RelV y u) (h : ∀ w' s', Inv X pins σ H s' → RelV (o.getD .non) w' → Q w' s') :
    wpAny (model X.prog X.w) A (call (.builtin "dict.get") [.ref a, u]) Q E s := by
  rcases g with ⟨kvs, k, e, ey, l⟩ | ⟨kvs, k, b, e, ey, eb, l⟩
  · subst ey
    obtain ⟨z, hd, vs, rel, dd⟩ := dk_rd I.hok e
    refine call_meetsIn PySem.F.slot_dict_get dd.typeIs PySem.F.entry_dict_get (PySem.F.args_dict_get_2 _ _) (meets_dict_get (mixKind X.prog X.w) a (kV_is ry) hd) ⟨_, dd.mapOf, h _ _ (I.tok _) ?_⟩
    rw [l]
    exact (rel.val k).getD rfl
  · subst ey
    cases (show u = Value.ref b from ry)
    obtain ⟨z, hd, xs, rel, dd⟩ := dt_rd I.hok e
    refine call_meetsIn PySem.F.slot_dict_get dd.typeIs PySem.F.entry_dict_get (PySem.F.args_dict_get_2 _ _) (meetsH_dict_get (tupleKind (mixKind X.prog X.w)) a b hd) ⟨tupleKind_room_in1 hu, k, xs, key_of I.hok eb, dd, h _ _ (I.tok _) ?_⟩
    rw [l]
    exact (rel.val k).getD rfl
end

noncomputable def tDGet1 (td ty : TE) : TE := fun σ H Q => td σ H fun x H1 => ∃ a, x = .ref a ∧ IsD H1 a ∧ ty σ H1 fun y H2 => ∃ o, DGet H2 a y o ∧ Q (o.getD .non) H2
noncomputable def tDGet2 (td ty tx : TE) : TE := fun σ H Q => td σ H fun x H1 => ∃ a, x = .ref a ∧ IsD H1 a ∧ ty σ H1 fun y H2 => tx σ H2 fun z H3 => ∃ o, DGet H3 a y o ∧ Q (o.getD z) H3
noncomputable def tDPop1 (td ty : TE) : TE := fun σ H Q => td σ H fun x H1 => ∃ a, x = .ref a ∧ IsD H1 a ∧ ty σ H1 fun y H2 => ∃ kvs k v, H2 a = some (.dK kvs) ∧ y = kV k ∧ valV kvs k = some v ∧ Q v (upd H2 a (.dK (dropK kvs k)))
noncomputable def tDPop2 (td ty tx : TE) : TE := fun σ H Q => td σ H fun x H1 => ∃ a, x = .ref a ∧ IsD H1 a ∧ ty σ H1 fun y H2 => tx σ H2 fun z H3 => ∃ kvs k, H3 a = some (.dK kvs) ∧ y = kV k ∧
  (∀ v, valV kvs k = some v → Q v (upd H3 a (.dK (dropK kvs k)))) ∧ (valV kvs k = none → Q z H3)
section
variable {X : Cx} {o e f : Expr} {apos cpos : Pos} {td ty tx : TE}
theorem pe_dget1 (hu : X.A.units + 1 < cLine) (ho : PE X o td) (he : PE X e ty) (m : M1 X o "get" apos e cpos) : PE X (.Call (.Attribute o "get" apos) [e] [] cpos) (tDGet1 td ty) := by
  intro pins s σ H Q I h
  refine wpAny_Call_method m.base m.few m.line PySem.F.plainAttrs_dict PySem.F.slot_dict_get PySem.F.type_dict_get (thn (ho pins s σ H _ I h) fun u s1 ⟨x, H1, I1, rx, a, ex, d, q1⟩ => ?_)
  subst ex
  obtain rfl : u = Value.ref a := rx
  obtain ⟨t1, t2, _⟩ := isD_at I1 d
  refine ⟨t1, t2, ?_⟩
  rw [m.trees]
  refine Calls.callWith_builtin rfl (Calls.evalArgs_plain (Calls.spliced_cons (thn (he pins s1 σ H1 _ I1 q1) fun iv s2 ⟨y, H2, I2, ry, ov, g, q2⟩ => Calls.spliced_nil ?_)))
  exact d_get1 hu I2 g ry fun w' s3 I3 rw' => ⟨_, H2, I3, rw', q2⟩
end

section
variable {X : Cx} {pins : List (Addr × Obj)} {σ : St} {H : Hp} {s : Shared} {a : Addr} {kvs : List (Key × V)} {A : Around} {E : Value → Shared → Prop}
end


section
variable {X : Cx} {pins : List (Addr × Obj)} {σ : St} {H : Hp} {s : Shared} {a : Addr} {y : V} {u : Value} {A : Around} {E : Value → Shared → Prop}
end
end L2

namespace Att
open PySem PySem.W PySem.Calls PyProof.Rows

section
variable {prog : Program} {w : World} {A : Around} {E : Value → Shared → Prop} {s : Shared} {K : Frag}

end
end Att

namespace L2
open PySem PySem.Spec PyProof.Rows

end L2

namespace L2
open PySem PySem.Spec PyProof.Rows

end L2

/- THE LAST THEOREM (shape; LID, My.* are yours):
   My.Adr: a structure of the addresses that your layer names (classes, functions); My.Txt K t: a structure (Prop) of the equations over K;
   My.txt_mk : {K} {implicit addresses ..} (e1 : nsIn K mainGlobals "law" = some (some (.ref f))) (e2 : K.lookup f = some ⟨oc, od, .func (fnOf "law" "law" params body scope dV kV doc pm an cdv ct), sl⟩) (e3 : codeIn K cdv "law" = true) .. : ∃ t, My.Txt K t

set_option maxRecDepth 100000 in
set_option maxHeartbeats 0 in
(the tactic k_is has no namespace: write k_is) -/

namespace L2
open PySem PySem.Spec PyProof.Rows

section
variable {P : Program} {w : World} {K : PySem.W.Frag} {mg : Str → Option Value} {base : Heap}
end
section
variable {X : Cx}
end

section
variable {κ : Type} [DecidableEq κ]
end
end L2


set_option Elab.async false
set_option linter.all false
set_option maxRecDepth 100000
/-! a lambda with names of the frame around it: its call, over a base that holds it and its cells -/
namespace L2
open PySem PySem.Spec PyProof.Rows
noncomputable def cxLam (CX : CXT) (P : Program) (w : World) (K : PySem.W.Frag) (mg : Str → Option Value) (base : Heap) (N : List Str) (qual : Str) (scope : Scope) (f : Addr) (cd : Value) (cl : List (Str × Addr)) (A : Around) (outer : List Env) (s : Shared) (H : Hp) (E : XK) : Cx where
  prog := P
  w := w
  K := K
  mg := mg
  base := base
  A := A.deeper (PySem.W.envX qual scope s.heap.objs.size f cd cl)
  N := N
  s₀ := s
  H₀ := H
  env := PySem.W.envX qual scope s.heap.objs.size f cd cl
  outer := outer
  stack := PySem.W.envX qual scope s.heap.objs.size f cd cl :: outer
  ex := []
  calm := true
  fn := fun _ => false
  pn := []
  xe := fun e s' => wpAny (model P w) (A.deeper (PySem.W.envX qual scope s.heap.objs.size f cd cl)) (leaving (PySem.W.envX qual scope s.heap.objs.size f cd cl) e) (fun _ s'' => CX outer H s E e s'') (fun e' s'' => CX outer H s E e' s'') s'
structure LamNames (base : Heap) (scope : Scope) (N : List Str) (ws : List V) (cl : List (Str × Addr)) : Prop where
  kind : scope.kind = .function
  co : scope.isCoroutine = false
  gen : scope.isGenerator = false
  own : ∀ x ∈ scope.names, x.2 ≠ .cell
  len : ws.length = N.length
  val : ∀ (i : Nat) x v, N[i]? = some x → ws[i]? = some v → scope.names.lookup x = some .free ∧ ∃ c u, cl.lookup x = some c ∧ RelV v u ∧ base.IsCell c (some u)
  inj : ∀ x y c, cl.lookup x = some c → cl.lookup y = some c → x = y
  has : ∀ x, scope.names.lookup x = some .free → ∃ c, cl.lookup x = some c
  cell : ∀ x c, cl.lookup x = some c → ∃ v, base.IsCell c v
theorem isCell_keep {h h' : Heap} {c : Addr} {v : Option Value} (x : h.IsCell c v) (k : ∀ b o, h.get? b = some o → h'.get? b = some o) : h'.IsCell c v := by
  obtain ⟨o, h1, h2⟩ := x
  exact ⟨o, k _ _ h1, h2⟩
theorem lam_of {CX : CXT} {P : Program} {w : World} {K : PySem.W.Frag} {mg : Str → Option Value} {base : Heap} {k : Nat} {f c' : Addr} {name qual : Str} {params : Arguments} {body : Expr} {scope : Scope} {pm ctv : Value} {cl : List (Str × Addr)}
    {N : List Str} {ws : List V} {sp : Sp} (lk : base.get? f = some (PySem.W.kla_obj name qual params body scope cl pm c' ctv)) (hcd : base.CodeRec (.ref c') qual) (L : LamNames base scope N ws cl)
    (len : ∀ vs H Q E, sp vs H Q E → vs.length = 0)
    (hbody : ∀ (A : Around) (outer : List Env) (s : Shared) (H : Hp) (Q : VK) (E : XK), Room k (A.deeper (PySem.W.envX qual scope s.heap.objs.size f (.ref c') cl)) → sp [] H Q E →
      ∃ t, PE (cxLam CX P w K mg base N qual scope f (.ref c') cl A outer s H E) body t ∧ t (ws.map some) H Q) :
    FnOk P w K mg base CX (k + 1) f (PySem.W.kla_fn name qual params body scope cl pm (.ref c') ctv) [] sp := by
  refine ⟨len, fun A outer s H args us vs Q E hr e0 hb r hsp => ?_⟩
  have hl := len _ _ _ _ hsp
  obtain rfl : vs = [] := List.length_eq_zero_iff.mp hl
  have keep : ∀ b o, base.get? b = some o → s.heap.get? b = some o := fun b o e => (e0.bs b o e).1
  have lim : s.heap.NoLimit := e0.mod.nolimit.keeps keep
  refine PySem.W.kla_callFunE hr.depth (keep _ _ lk) rfl L.co L.gen rfl (hcd.keeps keep) (hb _ _ _ _ ?_)
  refine wpAny_newFunctionEnv L.own (fun x hx => by simp at hx) (fun h1 hns hsb => ?_) L.kind
  have hk1 : ∀ b o, s.heap.get? b = some o → h1.get? b = some o := fun b o e => hsb.extBut b o (Nat.ne_of_lt (Heap.lt_size e)) (Heap.get?_push_of_some _ e)
  refine ⟨lim.keeps hk1, ?_⟩
  show codeAny _ _ (.expr body (PySem.W.envX qual scope s.heap.objs.size f (.ref c') cl)) _ _
  obtain ⟨t, ht, hq⟩ := hbody A outer s H Q E (hr.deeper _) hsp
  have noA : ∀ b : Addr, b ∉ (cxLam CX P w K mg base N qual scope f (.ref c') cl A outer s H E).ex := fun b z => absurd (show b ∈ ([] : List Addr) from z) (by simp)
  have hlook : ∀ x, (PySem.W.envX qual scope s.heap.objs.size f (.ref c') cl).kindOf x = scope.names.lookup x := fun _ => rfl
  have nocell : ∀ x, scope.names.lookup x ≠ some .cell := fun x e => L.own _ (PySem.mem_of_lookup e) rfl
  have I : Inv (cxLam CX P w K mg base N qual scope f (.ref c') cl A outer s H E) [] (ws.map some) H { s with heap := h1, toks := s.toks + 0 } := by
    refine ⟨⟨e0.mod, L.kind, rfl, rfl, Nat.le_refl _, fun y z c h1 h2 => L.inj y z c h1 h2, fun y hy => ?_, fun y c z _ => (nomatch z), fun _ => hr.hd, Around.frames_deeper e0.frames, .inr ⟨rfl, rfl⟩, fun b z => absurd z (noA b), e0.bs, e0.bsz, fun b _ _ => noA b, fun b z => absurd z (noA b), e0.funs, e0.frf⟩,
      rfl, e0.bare, Un.kept hk1, ⟨_, hns, fun i y v a1 a2 a3 => ?_⟩, fun y c a => ?_, e0.hok.fresh (Nat.le_refl _), fun y c a => ?_, fun p hp => absurd (show p ∈ ([] : List (Addr × Obj)) from hp) (by simp), e0.hok.kept hk1, ?_⟩
    · have hy : scope.names.lookup y = some .cell ∨ scope.names.lookup y = some .free := hy
      rcases hy with hy | hy
      · exact absurd hy (nocell y)
      · exact L.has y hy
    · have a2' : ws[i]? = some v := by
        rw [List.getElem?_map] at a2
        cases e : ws[i]? with
        | none => rw [e] at a2; cases a2
        | some b => rw [e] at a2; cases a2; rfl
      obtain ⟨b1, c, u, b2, b3, b4⟩ := L.val i y v a1 a2'
      exact ⟨u, b3, .inr ⟨.inr b1, c, b2, isCell_keep (isCell_keep b4 keep) hk1⟩⟩
    · obtain ⟨v, b1⟩ := L.cell y c a
      exact ⟨v, isCell_keep (isCell_keep b1 keep) hk1⟩
    · obtain ⟨v, o, b1, _⟩ := L.cell y c a
      exact (e0.bs _ _ b1).2
    · rw [List.length_map]
      exact L.len
  refine PySem.W.kla_codeExpr (wpAny_mono (ht [] _ (ws.map some) H _ I hq) (fun u s' hs => ?_) fun e s' hs => hs)
  obtain ⟨v, H', J, rv, q⟩ := hs
  exact ⟨v, H', J.os, J.bare, J.base, J.hok, rv, q⟩
end L2

set_option Elab.async false
set_option linter.all false
set_option maxRecDepth 100000
/-! a lambda is made; a callee runs over a base that holds all that the caller has made and does not track -/
namespace L2
open PySem PySem.Spec PyProof.Rows
noncomputable def TabO (P : Addr) (ps : Array Value) : HO := .ext fun h => h.get? P = some (PySem.W.tabObj ps)
theorem tab_ok {p : Program} {w : World} {H : Hp} {h : Heap} {P : Addr} {ps : Array Value} (e : h.get? P = some (PySem.W.tabObj ps)) : ObjOk p w H h P (TabO P ps) :=
  ⟨e, ⟨_, e⟩, fun h1 h2 a b => b _ a⟩
noncomputable def bigB (h : Heap) (H : Hp) (fs : List Addr) : Heap := PySem.W.hideAll (hidT h H) fs
theorem big_get {h : Heap} {H : Hp} {fs : List Addr} {b : Addr} {o : Obj} (e : h.get? b = some o) (n : H b = none) (f : b ∉ fs) : (bigB h H fs).get? b = some o := PySem.W.hideAll_get _ (hidT_get e n) f
theorem of_big {h : Heap} {H : Hp} {fs : List Addr} {b : Addr} {o : Obj} (e : (bigB h H fs).get? b = some o) : h.get? b = some o ∧ H b = none := of_hidT (PySem.W.of_hideAll _ e)
theorem funs_base {h base base' : Heap} : ∀ {l : List Env}, h.FunFrames base l → (∀ b ∈ frs l, base'.get? b = none) → h.FunFrames base' l
  | [], _, _ => trivial
  | env :: r, hl, hb => by
    obtain ⟨hk, ⟨L, o, hf, hn, ho, hd⟩, hr⟩ := hl
    refine ⟨hk, ⟨L, o, hf, hb L ?_, ho, hd⟩, funs_base hr fun b z => hb b ?_⟩
    · unfold frs; rw [List.filterMap_cons, hf]; exact List.mem_cons_self
    · unfold frs at z ⊢; rw [List.filterMap_cons, hf]; exact List.mem_cons_of_mem _ z
section
variable {X : Cx} {pins : List (Addr × Obj)} {σ : St} {H : Hp} {s : Shared}
theorem Inv.inBig (I : Inv X pins σ H s) : ∀ b o, X.base.get? b = some o → (bigB s.heap H (frs X.stack)).get? b = some o := fun b o e => by
  obtain ⟨h1, h2⟩ := I.bs b o e
  refine big_get h1 h2 fun z => ?_
  obtain ⟨n, _⟩ := I.stack.mem z
  rw [n] at e; cases e
theorem Inv.modBig (I : Inv X pins σ H s) : Mod X.K X.mg (bigB s.heap H (frs X.stack)) := by
  have k := I.inBig
  obtain ⟨mb, b1, b2⟩ := I.mod.blt
  exact ⟨I.mod.kin.keeps k, I.mod.glob.keeps k, ⟨mb, b1.keeps k, b2⟩, I.mod.nolimit.keeps k⟩
theorem Inv.env0Big (I : Inv X pins σ H s) : Env0 X.prog X.w X.K X.mg (bigB s.heap H (frs X.stack)) X.A X.stack s H :=
  ⟨I.ok.frames, I.modBig, fun b o e => of_big e, by unfold bigB; rw [PySem.W.hideAll_size, hidT_size]; exact Nat.le_refl _, funs_base I.stack fun b hb => PySem.W.hideAll_none _ hb, I.stkFree, I.hok, I.bare⟩
theorem run_big {CX : CXT} {k : Nat} {f : Addr} {fd : FuncData} {ps : List Str} {sp : Sp} {E : XK} {Q : VK} {us : List Value} {vs : List V} (F : FnOk X.prog X.w X.K X.mg (bigB s.heap H (frs X.stack)) CX k f fd ps sp) (hr : Room k X.A) (hb : Binds X.K fd ps []) (hx : Passes CX X E)
    (I : Inv X pins σ H s) (r : Vals vs us) (h : sp vs H Q E) : wpAny (model X.prog X.w) X.A (call (.ref f) us) (EP X pins σ Q) X.xe s := by
  have hl : us.length = ps.length := by rw [← r.length]; exact F.len _ _ _ _ h
  have hb' := hb s us I.kIn (by rw [List.append_nil]; exact hl)
  rw [List.append_nil] at hb'
  refine wpAny_call (codeAny_mono (F.run X.A X.stack s H ⟨us, []⟩ us vs Q E hr I.env0Big hb' r h) fun r s' hq => ?_)
  cases r with
  | error e => exact hx pins σ H s e s' I hq
  | ok fl =>
    cases fl with
    | ret u => exact I.after hq
    | next => exact False.elim hq
    | brk => exact False.elim hq
    | cont => exact False.elim hq
theorem lam_eval {params : Arguments} {body : Expr} {scope : Scope} {pos : Pos} {c P : Addr} {ps : Array Value} {clos : List (Str × Addr)} {R : Value → Shared → Prop} (I : Inv X pins σ H s)
    (hdef : defaultsOf params X.env = ([], [])) (hcode : X.env.code = .ref c) (C : PySem.W.CodeHd X.base c P) (hcl : closureFor scope X.env = pure clos) (hb : X.base.BuiltinsAt X.mg P) (hge : X.env.globals = mainGlobals)
    (hP : H P = some (TabO P ps)) (ht : TriplesOk ps.toList) (hn : codeAmong pos ps.toList = none)
    (h : ∀ (f c' : Addr) (ctv pm : Value) (s' : Shared), Inv X pins σ (upd H P (TabO P (ps ++ #[rawInt pos.line, rawInt pos.col, .ref c']))) s' →
      s'.heap.get? f = some (PySem.W.kla_obj "<lambda>" (X.env.qual ++ "<lambda>") params body scope clos pm c' ctv) → s'.heap.CodeRec (.ref c') (X.env.qual ++ "<lambda>") → (∃ o, s'.heap.get? c' = some o) → s.heap.objs.size ≤ f → s.heap.objs.size ≤ c' →
      (∀ b o, b ≠ P → s.heap.get? b = some o → s'.heap.get? b = some o) → R (.ref f) s') :
    wpAny (model X.prog X.w) X.A (eval (.Lambda params body scope pos) X.env) R X.xe s := by
  have hg : s.heap.Ns mainGlobals X.mg := I.mod.glob.keeps I.bk
  have hPt : s.heap.get? P = some (PySem.W.tabObj ps) := (I.hok P _ hP).1
  have hgP : mainGlobals ≠ P := fun q => by
    obtain ⟨o, es, ep, e, hd, _⟩ := I.mod.glob
    rw [q] at e
    have := (I.bs _ _ e).2
    rw [hP] at this; cases this
  obtain ⟨bm, ob, b1, b2, b3, b4, b5, b6, b7, b8⟩ := hb
  refine PySem.W.kla_eval hdef (PySem.W.kla_makeFunction (mg := X.mg) hcl hge hg hcode (C.keeps I.bk) hPt ht hn hgP ⟨bm, ob, b1, b2, b3, b4, I.bk _ _ b5, b6, b7, b8⟩ fun c' ctv h' tk hx hge hlt hrec htb => ?_)
  have keep : ∀ b o, b ≠ P → s.heap.get? b = some o → (h'.push (PySem.W.kla_obj "<lambda>" (X.env.qual ++ "<lambda>") params body scope clos ((X.mg "__name__").getD .none) c' ctv)).get? b = some o := fun b o hbP e => Heap.get?_push_of_some _ (hx b o hbP e)
  have hnew := Heap.get?_push_of_some (PySem.W.kla_obj "<lambda>" (X.env.qual ++ "<lambda>") params body scope clos ((X.mg "__name__").getD .none) c' ctv) htb
  refine h h'.objs.size c' ctv _ _ (I.write (x := P) (e := P) (by rw [hP]; exact trivial) (.inl rfl) (fun b u hb e => keep b u hb e) ⟨_, hnew⟩ (tab_ok hnew)) (Heap.get?_push_size _ rfl) ?_ ?_ (Nat.le_trans hge (Nat.le_of_lt hlt)) hge keep
  · obtain ⟨c2, oc, vs, t, e1, e2, e3, e4⟩ := hrec
    exact ⟨c2, oc, vs, t, e1, Heap.get?_push_of_some _ e2, e3, e4⟩
  · obtain ⟨c2, oc, vs, t, e1, e2, e3, e4⟩ := hrec
    cases e1
    exact ⟨oc, Heap.get?_push_of_some _ e2⟩
end
end L2

set_option Elab.async false
set_option linter.all false
set_option maxRecDepth 100000
/-! sorted of a dict with one text for a key: a new list -/
namespace L2
open PySem PySem.Spec PySem.Calls PyProof.Rows
theorem objThere {P : Program} {w : World} {H : Hp} {h : Heap} {a : Addr} {o : HO} (x : ObjOk P w H h a o) : ∃ u, h.get? a = some u := by
  cases o with
  | lst xs => obtain ⟨_, _, _, _, e⟩ := x; exact ⟨_, e⟩
  | tup xs => obtain ⟨_, _, _, p⟩ := x; obtain ⟨o, e, _⟩ := p; exact ⟨_, e⟩
  | dK kvs => obtain ⟨_, _, _, _, o, _, _, e, _⟩ := x; exact ⟨_, e⟩
  | dT kvs => obtain ⟨_, _, _, _, o, _, _, e, _⟩ := x; exact ⟨_, e⟩
  | set S n => obtain ⟨o, _, _, _, e, _⟩ := x; exact ⟨_, e⟩
  | ins C dx fs => obtain ⟨_, _, _, e, _⟩ := x; exact ⟨_, e⟩
  | own y => obtain ⟨_, e⟩ := x; exact ⟨_, e⟩
  | xd fs => obtain ⟨_, ⟨_, _, _, e, _⟩, _⟩ := x; exact ⟨_, e⟩
  | rng lo hi => obtain ⟨_, _, _, e⟩ := x; exact ⟨_, e⟩
  | frz ob u => obtain ⟨e, _⟩ := x; exact ⟨_, e⟩
  | tbl ps => exact ⟨_, x⟩
  | met f y => exact ⟨_, x⟩
  | ext φ => obtain ⟨_, ⟨_, e⟩, _⟩ := x; exact ⟨_, e⟩
theorem Inv.laidAt {X : Cx} {pins : List (Addr × Obj)} {σ : St} {H : Hp} {s : Shared} {h' : Heap} {a : Addr} {o : HO} {t' : Nat} (I : Inv X pins σ H s) (k : ∀ b u, s.heap.get? b = some u → h'.get? b = some u) (hn : s.heap.get? a = none) (new : ObjOk X.prog X.w (upd H a o) h' a o) :
    H a = none ∧ Inv X pins σ (upd H a o) { s with heap := h', toks := t' } := by
  have hH : H a = none := by
    cases q : H a with
    | none => rfl
    | some u =>
      obtain ⟨z, e⟩ := objThere (I.hok a u q)
      rw [hn] at e; cases e
  refine ⟨hH, I.un ⟨fun b u q _ _ _ => k b u q, fun b u q _ _ _ => ⟨u.slots, k b u q⟩, fun b u q n _ => ?_, fun b u q _ => ⟨u, k b u q⟩, fun b xs q => by rw [upd_ne (ne_of_none q hH)]; exact q, fun b u xs q => by rw [upd_ne (ne_of_none q hH)]; exact q, fun b ps q => ⟨#[], by rw [upd_ne (ne_of_none q hH), q]; simp⟩⟩ fun b u e => ?_⟩
  · rw [upd_ne (fun z => by rw [z, hn] at q; cases q)]; exact n
  · by_cases hb : b = a
    · subst hb; rw [upd_same] at e; cases e; exact new
    · rw [upd_ne hb] at e
      exact (I.hok b u e).stay (fun c v _ q => k c v q) (fun c q => by rw [upd_ne (ne_of_none q hH)]; exact q) fun c xs q => by rw [upd_ne (ne_of_none q hH)]; exact q
section
variable {X : Cx}
theorem sort1_out {k : Str} {t : Tok} {st' : PyProof.Rows.SortSt} (hp : (arrOf st').Perm (pairsOf [Value.str k t])) : (arrOf st').map (·.2) = #[Value.str k t] := by
  have hs := hp.size_eq
  rw [pairsOf_size] at hs
  obtain ⟨x, hx⟩ : ∃ x, (arrOf st').toList = [x] := List.length_eq_one_iff.mp (by rw [Array.length_toList]; exact hs)
  have hm : x ∈ pairsOf [Value.str k t] := hp.mem_iff.mp (by rw [← Array.mem_toList_iff, hx]; exact List.mem_singleton_self _)
  have e : pairsOf [Value.str k t] = #[(Value.str k t, Value.str k t)] := by apply Array.toList_inj.mp; rw [pairsOf_toList]; rfl
  rw [e] at hm
  have hx2 : x = (Value.str k t, Value.str k t) := by simpa using hm
  apply Array.toList_inj.mp
  rw [Array.toList_map, hx, hx2]
  rfl
theorem call_sorted1 (hc : X.calm = true) : CallR X (.builtin "sorted") (fun xs H Q => ∃ d k v, xs = [.ref d] ∧ H d = some (.dK [(Sum.inr k, v)]) ∧ ∀ a, H a = none → Q (.ref a) (upd H a (.lst [.str k]))) := by
  intro pins s σ H vs us Q I r h
  obtain ⟨d, k, v, rfl, hd, q⟩ := h
  obtain ⟨u, rfl, rfl⟩ : ∃ u, us = [u] ∧ u = Value.ref d := by
    cases r with
    | cons r1 r2 => cases r2; exact ⟨_, rfl, r1⟩
  obtain ⟨_, lo, ws, kv, hD⟩ := I.hok d _ hd
  obtain ⟨ep, hat⟩ := hD.dictAt
  obtain ⟨uv, rfl⟩ : ∃ uv, ws = [(Sum.inr k, uv)] := by
    cases kv with
    | cons r1 r2 =>
      cases r2
      rename_i p
      obtain ⟨a, b⟩ := p
      obtain ⟨e1, e2⟩ := r1
      cases e1
      exact ⟨b, rfl⟩
  refine call_function_entry kind_sorted plain_sorted entry_sorted (args_sorted1 _) ?_
  unfold Builtin.«sorted»
  refine wpAny_bind (m := checkCount "sorted" 1 1 _) (wpAny_pure ?_)
  refine wpAny_bind (PySem.W.kdu_collect (A := X.A.in1) (PySem.W.kdl_dict (knd := mixKind X.prog X.w) (kvs := [(Sum.inr k, uv)]) (ep := ep) lo) (I.ok.hd hc) hat (by show 1 ≤ sizeLine; decide) fun h' tk acc hk hacc => ?_)
  have hl : acc.toList.length = 1 := by rw [Array.length_toList]; exact hacc.1
  obtain ⟨x, hx⟩ : ∃ x, acc.toList = [x] := List.length_eq_one_iff.mp hl
  obtain ⟨k', y, e1, e2⟩ := hacc.2 0 x (by rw [← Array.getElem?_toList, hx]; rfl)
  obtain ⟨t, rfl⟩ : ∃ t, x = Value.str k t := by
    simp at e1
    obtain ⟨e1, _⟩ := e1
    subst e1
    rw [mixKind_is] at e2
    rcases keyIs_shape e2 with ⟨i, t, e, _⟩ | ⟨z, t, e, rfl⟩
    · cases e
    · cases e; exact ⟨t, rfl⟩
  rw [hx]
  refine wpAny_bind (wpAny_newList ?_ (by show 1 ≤ sizeLine; decide))
  have hoL : (h'.push { cls := .type "list", data := .seq [Value.str k t].toArray }).get? h'.objs.size = some (seqObj "list" [Value.str k t].toArray 0) := Heap.get?_push_size _ rfl
  refine wpAny_bind (wpAny_holding (wpAny_call_entry slot_list_sort ⟨_, hoL, rfl⟩ entry_list_sort ?body (args_list_sort _)))
  case body =>
    have hS : StrsAre [Value.str k t] [k] := .cons k t .nil
    refine list_sort_treeK (s := { s with heap := h'.push { cls := .type "list", data := .seq [Value.str k t].toArray }, toks := tk }) strKind_oneLt hoL hS.keysOf (fun v1 v2 rest e => by cases e) (by show 1 < 64; decide) fun st' hp hs => ?_
    rw [sort1_out hp]
    refine ⟨_, rfl, wpAny_pure ⟨_, rfl, ?_⟩⟩
    have hn : s.heap.get? h'.objs.size = none := by
      cases e : s.heap.get? h'.objs.size with
      | none => rfl
      | some o => exact absurd (Heap.lt_size (hk _ _ e)) (Nat.lt_irrefl _)
    obtain ⟨ep', hat'⟩ := sortedHeap_at (out := #[Value.str k t]) hoL
    obtain ⟨hH, J⟩ := I.laidAt (a := h'.objs.size) (o := .lst [.str k]) (t' := tk) (h' := sortedHeap (h'.push { cls := .type "list", data := .seq [Value.str k t].toArray }) h'.objs.size [Value.str k t] #[Value.str k t]) (fun b u e => by
      have e' := hk b u e
      have hb : b ≠ h'.objs.size := Nat.ne_of_lt (Heap.lt_size e')
      rw [sortedHeap_old hb (by rw [Heap.size_push]; exact Nat.lt_succ_of_lt (Heap.lt_size e'))]
      exact Heap.get?_push_of_some _ e') hn ⟨by show 1 ≤ sizeLine; decide, [Value.str k t], ep', .cons ⟨t, rfl⟩ .nil, hat'⟩
    exact ⟨V.ref h'.objs.size, _, J, rfl, q _ hH⟩
end
end L2

set_option Elab.async false
set_option linter.all false
set_option maxRecDepth 100000
/-! a walk over a text of plain signs -/
namespace L2
open PySem PySem.Spec PyProof.Rows
noncomputable def Its (x : Str) : It := ⟨fun i _ => i < x.cps.size, fun i H v H' => H' = H ∧ ∃ c, x.cps[i]? = some c ∧ v = .str ⟨#[c]⟩, fun i _ => x.cps.size ≤ i⟩
theorem turn_str {P : Program} {w : World} {K : PySem.W.Frag} {tg : Expr} (it : Addr) (x : Str) (t : Tok) : Turn P w K tg (Its x) [it] it (fun i h => h.IsStrIter it "str_ascii_iterator" x t i) where
  mem := by simp
  obj := fun i h st b hb => by
    have e : b = it := by simpa using hb
    subst e
    obtain ⟨o, e, c, d⟩ := st
    exact ⟨o, e, fun v z => by rw [d] at z; cases z⟩
  keep := fun i h h' st k => let ⟨o, ho, r⟩ := st; ⟨o, k it (by simp) o ho, r⟩
  item := by
    intro X hP hw hK hc i pins s σ H E I hf st hg
    subst hP hw hK
    obtain ⟨f0, f1, f2, f3, f4, f5⟩ := hf it (by simp)
    have hg' : i < x.cps.size := hg
    refine wpAny_pyNext_ascii_item st (c := x.cps[i]) (by simp [hg']) fun h' st' sb => ?_
    have I1 : Inv X pins σ H { s with heap := h', toks := s.toks + 1 } := I.turned (fun b o hb e => (sb.2 b hb).trans e) f0 f1 f3 f4 f5
    obtain ⟨o, e, c, d⟩ := id st'
    exact ⟨_, rfl, go_of (s := { s with heap := h', toks := s.toks + 1 }) e c d (by decide) ⟨.str ⟨#[x.cps[i]]⟩, H, I1, ⟨_, rfl⟩, ⟨rfl, x.cps[i], by simp [hg'], rfl⟩, st', fun b hb => (hf b hb).1⟩⟩
  done := by
    intro X hP hw hK hc i pins s σ H E I hf st hg
    subst hP hw hK
    obtain ⟨f0, f1, f2, f3, f4, f5⟩ := hf it (by simp)
    exact wpAny_pyNext_ascii_end (I.ok.hd hc) st (by have : x.cps.size ≤ i := hg; simp [this]) fun h' eb => ⟨rfl, I.turned (t' := s.toks) (fun b o hb e => eb b o hb e) f0 f1 f3 f4 f5⟩
  self := fun _ _ _ _ _ st h => wpAny_pyIter_striter_ascii st h
section
variable {X : Cx} {tg : Expr}
noncomputable def iStr (tl : TE) : TI := fun σ H R => tl σ H fun v H1 => ∃ x, v = .str x ∧ x.cps.all (· < 128) = true ∧ R (Its x) H1
theorem pi_str {l : Expr} {tl : TE} (hl : PE X l tl) : PI X tg l (iStr tl) := by
  intro pins s σ H R I h
  refine thn (hl pins s σ H _ I h) fun v s1 ⟨x, H1, I1, r1, q1⟩ => ?_
  obtain ⟨y, e, ha, q⟩ := q1
  subst e
  obtain ⟨t, rfl⟩ := r1
  refine wpAny_pyIter_ascii ha ?_
  refine ⟨s1.heap.objs.size, [s1.heap.objs.size], _, _, H1, rfl, I1.kept (t' := s1.toks) fun b o e => Heap.get?_push_of_some _ e, turn_str _ y t, ⟨_, Heap.get?_push_size _ rfl, rfl, rfl⟩, fun b hb => ?_, q⟩
  have e : b = s1.heap.objs.size := by simpa using hb
  subst e
  exact I1.fpOk (Nat.le_refl _) (I1.hok.fresh (Nat.le_refl _))
end
end L2

set_option Elab.async false
set_option linter.all false
set_option maxRecDepth 100000
/-! a def that hands back a list of its own -/
namespace L2
open PySem PySem.Spec PyProof.Rows PySem.SeqAt
open DE hiding st
section
variable {X : Cx} {Hs0 H0 : Hp}
theorem go_app {f : Rho → Stmt → Option Fl} (hf : ∀ ρ s fl, X.N = ρ.map (·.1) → f ρ s = some fl → Runs X Hs0 H0 ρ fl (sSem X s)) : ∀ (l : List Stmt) (ρ ρ' : Rho), X.N = ρ.map (·.1) → stGo f l ρ = some (.nxt ρ') →
    ∀ (r : List Stmt) (σ : St) (H Hs : Hp) (D : Ends), Hd X.K Hs0 H0 Hs H ρ σ → (∀ σ' Hs' H', X.N = ρ'.map (·.1) → Hd X.K Hs0 H0 Hs' H' ρ' σ' → ssSem X r D σ' H') → ssSem X (l ++ r) D σ H
  | [], ρ, ρ', hN, h => by
    simp only [stGo, Option.some.injEq, Fl.nxt.injEq] at h
    subst h
    intro r σ H Hs D hd k
    exact k σ Hs H hN hd
  | s :: l, ρ, ρ', hN, h => by
    simp only [stGo] at h
    obtain ⟨fl1, h1, h2⟩ := obind h
    intro r σ H Hs D hd k
    cases fl1 with
    | ret d => cases h2
    | nxt ρ1 =>
      show ssSem X (s :: (l ++ r)) D σ H
      refine PSs.sem (pss_cons ps_sem pss_sem) (hf ρ s (.nxt ρ1) hN h1 σ H Hs _ hd hN (fun ρ2 σ' Hs' H' q sm hN' hd' => ?_) fun d v Hs' H' q => by cases q)
      cases q
      exact go_app hf l ρ1 ρ' hN' h2 r σ' H' Hs' D hd' k
end
section
variable {P : Program} {w : World} {K : PySem.W.Frag} {mg : Str → Option Value} {base : Heap} {T : Pg} {F : Nat}
noncomputable def spO (K : PySem.W.Frag) (T : Pg) (F k : Nat) (fd : Fd) (b1 : List Stmt) (x : Str) : Sp := fun vs H Q _ => vs.length = fd.ps.length ∧ ∃ (Hs : Hp) (ds out : List D) (i : Nat) (ρ' : Rho), Same Hs H ∧ RepL K Hs ds vs ∧ ds.length = fd.ps.length ∧
  stGo (fun ρ s => DE.st (T.cx (callN T F k)) F F fd.sc ρ s) b1 (startR fd ds) = some (.nxt ρ') ∧ ρ'[i]? = some (x, Sl.ow out) ∧ ∀ (a' : Addr) (vs' : List V) (H' Hs' : Hp), Ext Hs H Hs' H' → H a' = none → Hs' a' = none → H' a' = some (.lst vs') → RepL K Hs' out vs' → Q (.ref a') H'
theorem own_ok (X : Text K mg T) {k : Nat} {f : Str} {fd : Fd} {t : Stmt} {a : Addr} {g : FuncData} {b1 : List Stmt} {x : Str} {p q : Pos} (hf : T.defs.lookup f = some fd) (Fn : Fun K f f t a g) (hb : fd.body = defBody t) (hs : fd.sc = defScope t) (S : FnScope fd.N fd.ps fd.sc)
    (hbd : fd.body = b1 ++ [.Return (some (.Name x p)) q]) (hv : fd.sc.names.lookup x = some .local) (hdb : (x == ("__debug__" : Str)) = false) (hcd : (x == ("__classdict__" : Str)) = false) : FnOk P w K mg base CX0 (k + 1) a g fd.ps (spO K T F k fd b1 x) := by
  refine Fn.ok (N := fd.N) (by rw [← hs]; exact S) (fun vs H Q E h => h.1) fun cdv A outer s H vs Q E hr h => ?_
  obtain ⟨hlv, Hs, ds, out, i, ρ', hsm, rl, hld, hg, hx, hq⟩ := h
  obtain ⟨s1, s2, s3⟩ := start_rep S hld rl
  refine ⟨ssSem _ (defBody t), pss_sem, ?_⟩
  have G : GoodS (T.cx (callN T F k)) k (cxOf CX0 P w K mg base fd.N f (defScope t) a cdv A outer s H E).nox fd.sc :=
    { good := { calm := rfl, room := hr, sce := hs.symm, kind := S.kind, nd := S.nd, cst := X.cst, blt := X.blt
                fns := fun f' hf' => by
                  obtain ⟨fd', hl'⟩ := lookup_has (l := T.defs) hf'
                  have FA := X.fns f' fd' hl'
                  obtain ⟨t', a', g', m1, m2, m3, m4, m5⟩ := FA.ex
                  exact ⟨FA.nd, a', g', fd'.ps, call_par hl', m1, m2.kp, m3, all_ok X k f' fd' t' a' g' hl' m2 m4 m5 FA.fs⟩ }
      own := ⟨fun x hx => ⟨by
        unfold ownIn at hx
        rw [Bool.or_eq_true] at hx
        show (defScope t).names.lookup x = _ ∨ (defScope t).names.lookup x = _
        rw [← hs]
        exact hx.imp (fun q => by simpa using q) (fun q => by simpa using q), .inl rfl⟩⟩
      pass := PassesOwn.never }
  have noow : ∀ (i : Nat) (x : Str) (ds' : List D), (startR fd ds)[i]? = some (x, .ow ds') → False := fun i x ds' e => by
    rcases s3 i x _ e with q | ⟨d', v, q, q1, q2⟩
    · cases q
    · cases q
  have hd : Hd K Hs H Hs H (startR fd ds) (start fd.N vs) := by
    refine ⟨.refl hsm, s2, fun i x d e => ?_, fun i x ds' e => (noow i x ds' e).elim, fun i j x y ds' es a' _ e => (noow i x ds' e).elim, fun i x dss e => by
      rcases s3 i x _ e with q | ⟨d', v, q, q1, q2⟩
      · cases q
      · cases q⟩
    rcases s3 i x _ e with q | ⟨d', v, q, q1, q2⟩
    · cases q
    · cases q
      exact ⟨v, q1, q2⟩
  rw [← hb, hbd]
  refine go_app (fun ρ s fl hN h => st_ok _ F F G hN h) b1 (startR fd ds) ρ' s1 hg _ (start fd.N vs) H Hs _ hd fun σ' Hs' H' hN' hd' => ?_
  obtain ⟨a', vs', e1, e2, e3, e4, e5⟩ := hd'.ow i x out hx
  have hNi : fd.N[i]? = some x := by
    have : fd.N = ρ'.map (·.1) := hN'
    rw [this, List.getElem?_map, hx]; rfl
  refine PSs.sem (pss_one (ps_ret (pe_var (i := i) hNi (.inl ?_) hdb hcd))) ⟨.ref a', e1, hq a' vs' H' Hs' hd'.ext e5 e4 e2 e3⟩
  show (defScope t).names.lookup x = _
  rw [← hs]; exact hv
end
end L2

set_option Elab.async false
set_option linter.all false
set_option maxRecDepth 100000
namespace N91
open PySem L2 DE
noncomputable def top (i : Nat) : Stmt := PySem.Challenge.pw_minortables_k91_whole_told_lists.main.body.getD i (.Pass ⟨0, 0, 0, 0⟩)
noncomputable def mkFd (t : Stmt) : Fd := ⟨(defArgs t).args.map (·.arg), (defArgs t).args.map (·.arg) ++ (((defScope t).names.filter fun p => (p.2 == .local || p.2 == .cell) && !((defArgs t).args.map (·.arg)).contains p.1).map (·.1)), defScope t, defBody t⟩
noncomputable def cs : List (Str × D) := [("MOST_LINES", .int 4), ("MOST_NUMBER", .int 99)]
noncomputable def bl : List (Str × String) := [("len", "len"), ("all", "all"), ("tuple", "tuple"), ("int", "int"), ("bool", "bool"), ("isinstance", "isinstance"), ("range", "range")]
noncomputable def df : List (Str × Fd) := [(("is_whole" : Str), mkFd (top 8)), (("is_whole_within" : Str), mkFd (top 9)), (("is_short_tuple" : Str), mkFd (top 10)), (("has_lines" : Str), mkFd (top 11)), (("numbers_of" : Str), mkFd (top 12)), (("has_table_form" : Str), mkFd (top 13)), (("need_table" : Str), mkFd (top 14)), (("need_same_size" : Str), mkFd (top 15)), (("is_small_row" : Str), mkFd (top 18)), (("is_table" : Str), mkFd (top 19)), (("unlike_places" : Str), mkFd (top 21)), (("_law_cell" : Str), mkFd (top 29)), (("_law_pick" : Str), mkFd (top 30)), (("_law_table" : Str), mkFd (top 31)), (("law" : Str), mkFd (top 33))]
noncomputable def T : Pg := ⟨cs, bl, df⟩
theorem fun_at {K : PySem.W.Frag} {h : Heap} {mg : Str → Option Value} {nm : Str} {t : Stmt} {f : Addr} {od an : Option Addr} {sl : Array (Option Value)} {oc kV dc pm cd ct : Value} (X : K.In h) (G : h.Ns mainGlobals mg) (a : PySem.W.nsIn K mainGlobals nm = some (some (.ref f)))
    (l : K.lookup f = some ⟨oc, od, .func (PySem.W.fnOf nm nm (defArgs t) (defBody t) (defScope t) .none kV dc pm an cd ct), sl⟩) (c : PySem.W.codeIn K cd nm = true) (k : PySem.W.keepIn K (.ref f) = true) (hs : FnScope (mkFd t).N (mkFd t).ps (mkFd t).sc)
    (hb : ∀ (kV doc pm : Value) (an : Option Addr) (cdv ct : Value) (us : List Value), us.length = (mkFd t).ps.length → bindArgs (PySem.W.fnOf nm nm (defArgs t) (defBody t) (defScope t) .none kV doc pm an cdv ct) ⟨us, []⟩ = pure ((mkFd t).ps.zip us)) (hd : (nm == ("__debug__" : Str)) = false) : FunAt K mg nm (mkFd t) :=
  ⟨⟨t, f, _, PySem.W.mg_of X G a, fun_mk l c k, (fun_mk l c k).binds hb, rfl, rfl⟩, hs, hd⟩
theorem len1 {us : List Value} (h : us.length = 1) : ∃ a, us = [a] := List.length_eq_one_iff.mp h
theorem len2 {us : List Value} (h : us.length = 2) : ∃ a b, us = [a, b] := by cases us with | nil => cases h | cons a r => obtain ⟨b, e⟩ := len1 (us := r) (Nat.succ.inj h); exact ⟨a, b, congrArg (List.cons a) e⟩
theorem len3 {us : List Value} (h : us.length = 3) : ∃ a b c, us = [a, b, c] := by cases us with | nil => cases h | cons a r => obtain ⟨b, c, e⟩ := len2 (us := r) (Nat.succ.inj h); exact ⟨a, b, c, congrArg (List.cons a) e⟩
theorem len4 {us : List Value} (h : us.length = 4) : ∃ a b c d, us = [a, b, c, d] := by cases us with | nil => cases h | cons a r => obtain ⟨b, c, d, e⟩ := len3 (us := r) (Nat.succ.inj h); exact ⟨a, b, c, d, congrArg (List.cons a) e⟩
theorem s8 : FnScope (mkFd (top 8)).N (mkFd (top 8)).ps (mkFd (top 8)).sc := ⟨rfl, rfl, rfl, by decide +kernel, by decide +kernel, by decide +kernel, by decide +kernel⟩
theorem b8 (kV doc pm : Value) (an : Option Addr) (cdv ct : Value) (us : List Value) (hl : us.length = (mkFd (top 8)).ps.length) : bindArgs (PySem.W.fnOf "is_whole" "is_whole" (defArgs (top 8)) (defBody (top 8)) (defScope (top 8)) .none kV doc pm an cdv ct) ⟨us, []⟩ = pure ((mkFd (top 8)).ps.zip us) := by obtain ⟨_, rfl⟩ := len1 hl; rfl
theorem s9 : FnScope (mkFd (top 9)).N (mkFd (top 9)).ps (mkFd (top 9)).sc := ⟨rfl, rfl, rfl, by decide +kernel, by decide +kernel, by decide +kernel, by decide +kernel⟩
theorem b9 (kV doc pm : Value) (an : Option Addr) (cdv ct : Value) (us : List Value) (hl : us.length = (mkFd (top 9)).ps.length) : bindArgs (PySem.W.fnOf "is_whole_within" "is_whole_within" (defArgs (top 9)) (defBody (top 9)) (defScope (top 9)) .none kV doc pm an cdv ct) ⟨us, []⟩ = pure ((mkFd (top 9)).ps.zip us) := by obtain ⟨_, _, _, rfl⟩ := len3 hl; rfl
theorem s10 : FnScope (mkFd (top 10)).N (mkFd (top 10)).ps (mkFd (top 10)).sc := ⟨rfl, rfl, rfl, by decide +kernel, by decide +kernel, by decide +kernel, by decide +kernel⟩
theorem b10 (kV doc pm : Value) (an : Option Addr) (cdv ct : Value) (us : List Value) (hl : us.length = (mkFd (top 10)).ps.length) : bindArgs (PySem.W.fnOf "is_short_tuple" "is_short_tuple" (defArgs (top 10)) (defBody (top 10)) (defScope (top 10)) .none kV doc pm an cdv ct) ⟨us, []⟩ = pure ((mkFd (top 10)).ps.zip us) := by obtain ⟨_, rfl⟩ := len1 hl; rfl
theorem s11 : FnScope (mkFd (top 11)).N (mkFd (top 11)).ps (mkFd (top 11)).sc := ⟨rfl, rfl, rfl, by decide +kernel, by decide +kernel, by decide +kernel, by decide +kernel⟩
theorem b11 (kV doc pm : Value) (an : Option Addr) (cdv ct : Value) (us : List Value) (hl : us.length = (mkFd (top 11)).ps.length) : bindArgs (PySem.W.fnOf "has_lines" "has_lines" (defArgs (top 11)) (defBody (top 11)) (defScope (top 11)) .none kV doc pm an cdv ct) ⟨us, []⟩ = pure ((mkFd (top 11)).ps.zip us) := by obtain ⟨_, rfl⟩ := len1 hl; rfl
theorem s12 : FnScope (mkFd (top 12)).N (mkFd (top 12)).ps (mkFd (top 12)).sc := ⟨rfl, rfl, rfl, by decide +kernel, by decide +kernel, by decide +kernel, by decide +kernel⟩
theorem b12 (kV doc pm : Value) (an : Option Addr) (cdv ct : Value) (us : List Value) (hl : us.length = (mkFd (top 12)).ps.length) : bindArgs (PySem.W.fnOf "numbers_of" "numbers_of" (defArgs (top 12)) (defBody (top 12)) (defScope (top 12)) .none kV doc pm an cdv ct) ⟨us, []⟩ = pure ((mkFd (top 12)).ps.zip us) := by obtain ⟨_, rfl⟩ := len1 hl; rfl
theorem s13 : FnScope (mkFd (top 13)).N (mkFd (top 13)).ps (mkFd (top 13)).sc := ⟨rfl, rfl, rfl, by decide +kernel, by decide +kernel, by decide +kernel, by decide +kernel⟩
theorem b13 (kV doc pm : Value) (an : Option Addr) (cdv ct : Value) (us : List Value) (hl : us.length = (mkFd (top 13)).ps.length) : bindArgs (PySem.W.fnOf "has_table_form" "has_table_form" (defArgs (top 13)) (defBody (top 13)) (defScope (top 13)) .none kV doc pm an cdv ct) ⟨us, []⟩ = pure ((mkFd (top 13)).ps.zip us) := by obtain ⟨_, rfl⟩ := len1 hl; rfl
theorem s14 : FnScope (mkFd (top 14)).N (mkFd (top 14)).ps (mkFd (top 14)).sc := ⟨rfl, rfl, rfl, by decide +kernel, by decide +kernel, by decide +kernel, by decide +kernel⟩
theorem b14 (kV doc pm : Value) (an : Option Addr) (cdv ct : Value) (us : List Value) (hl : us.length = (mkFd (top 14)).ps.length) : bindArgs (PySem.W.fnOf "need_table" "need_table" (defArgs (top 14)) (defBody (top 14)) (defScope (top 14)) .none kV doc pm an cdv ct) ⟨us, []⟩ = pure ((mkFd (top 14)).ps.zip us) := by obtain ⟨_, rfl⟩ := len1 hl; rfl
theorem s15 : FnScope (mkFd (top 15)).N (mkFd (top 15)).ps (mkFd (top 15)).sc := ⟨rfl, rfl, rfl, by decide +kernel, by decide +kernel, by decide +kernel, by decide +kernel⟩
theorem b15 (kV doc pm : Value) (an : Option Addr) (cdv ct : Value) (us : List Value) (hl : us.length = (mkFd (top 15)).ps.length) : bindArgs (PySem.W.fnOf "need_same_size" "need_same_size" (defArgs (top 15)) (defBody (top 15)) (defScope (top 15)) .none kV doc pm an cdv ct) ⟨us, []⟩ = pure ((mkFd (top 15)).ps.zip us) := by obtain ⟨_, _, rfl⟩ := len2 hl; rfl
theorem s18 : FnScope (mkFd (top 18)).N (mkFd (top 18)).ps (mkFd (top 18)).sc := ⟨rfl, rfl, rfl, by decide +kernel, by decide +kernel, by decide +kernel, by decide +kernel⟩
theorem b18 (kV doc pm : Value) (an : Option Addr) (cdv ct : Value) (us : List Value) (hl : us.length = (mkFd (top 18)).ps.length) : bindArgs (PySem.W.fnOf "is_small_row" "is_small_row" (defArgs (top 18)) (defBody (top 18)) (defScope (top 18)) .none kV doc pm an cdv ct) ⟨us, []⟩ = pure ((mkFd (top 18)).ps.zip us) := by obtain ⟨_, rfl⟩ := len1 hl; rfl
theorem s19 : FnScope (mkFd (top 19)).N (mkFd (top 19)).ps (mkFd (top 19)).sc := ⟨rfl, rfl, rfl, by decide +kernel, by decide +kernel, by decide +kernel, by decide +kernel⟩
theorem b19 (kV doc pm : Value) (an : Option Addr) (cdv ct : Value) (us : List Value) (hl : us.length = (mkFd (top 19)).ps.length) : bindArgs (PySem.W.fnOf "is_table" "is_table" (defArgs (top 19)) (defBody (top 19)) (defScope (top 19)) .none kV doc pm an cdv ct) ⟨us, []⟩ = pure ((mkFd (top 19)).ps.zip us) := by obtain ⟨_, rfl⟩ := len1 hl; rfl
theorem s21 : FnScope (mkFd (top 21)).N (mkFd (top 21)).ps (mkFd (top 21)).sc := ⟨rfl, rfl, rfl, by decide +kernel, by decide +kernel, by decide +kernel, by decide +kernel⟩
theorem b21 (kV doc pm : Value) (an : Option Addr) (cdv ct : Value) (us : List Value) (hl : us.length = (mkFd (top 21)).ps.length) : bindArgs (PySem.W.fnOf "unlike_places" "unlike_places" (defArgs (top 21)) (defBody (top 21)) (defScope (top 21)) .none kV doc pm an cdv ct) ⟨us, []⟩ = pure ((mkFd (top 21)).ps.zip us) := by obtain ⟨_, _, rfl⟩ := len2 hl; rfl
theorem s29 : FnScope (mkFd (top 29)).N (mkFd (top 29)).ps (mkFd (top 29)).sc := ⟨rfl, rfl, rfl, by decide +kernel, by decide +kernel, by decide +kernel, by decide +kernel⟩
theorem b29 (kV doc pm : Value) (an : Option Addr) (cdv ct : Value) (us : List Value) (hl : us.length = (mkFd (top 29)).ps.length) : bindArgs (PySem.W.fnOf "_law_cell" "_law_cell" (defArgs (top 29)) (defBody (top 29)) (defScope (top 29)) .none kV doc pm an cdv ct) ⟨us, []⟩ = pure ((mkFd (top 29)).ps.zip us) := by obtain ⟨_, _, rfl⟩ := len2 hl; rfl
theorem s30 : FnScope (mkFd (top 30)).N (mkFd (top 30)).ps (mkFd (top 30)).sc := ⟨rfl, rfl, rfl, by decide +kernel, by decide +kernel, by decide +kernel, by decide +kernel⟩
theorem b30 (kV doc pm : Value) (an : Option Addr) (cdv ct : Value) (us : List Value) (hl : us.length = (mkFd (top 30)).ps.length) : bindArgs (PySem.W.fnOf "_law_pick" "_law_pick" (defArgs (top 30)) (defBody (top 30)) (defScope (top 30)) .none kV doc pm an cdv ct) ⟨us, []⟩ = pure ((mkFd (top 30)).ps.zip us) := by obtain ⟨_, _, _, rfl⟩ := len3 hl; rfl
theorem s31 : FnScope (mkFd (top 31)).N (mkFd (top 31)).ps (mkFd (top 31)).sc := ⟨rfl, rfl, rfl, by decide +kernel, by decide +kernel, by decide +kernel, by decide +kernel⟩
theorem b31 (kV doc pm : Value) (an : Option Addr) (cdv ct : Value) (us : List Value) (hl : us.length = (mkFd (top 31)).ps.length) : bindArgs (PySem.W.fnOf "_law_table" "_law_table" (defArgs (top 31)) (defBody (top 31)) (defScope (top 31)) .none kV doc pm an cdv ct) ⟨us, []⟩ = pure ((mkFd (top 31)).ps.zip us) := by obtain ⟨_, _, _, _, rfl⟩ := len4 hl; rfl
theorem s33 : FnScope (mkFd (top 33)).N (mkFd (top 33)).ps (mkFd (top 33)).sc := ⟨rfl, rfl, rfl, by decide +kernel, by decide +kernel, by decide +kernel, by decide +kernel⟩
theorem b33 (kV doc pm : Value) (an : Option Addr) (cdv ct : Value) (us : List Value) (hl : us.length = (mkFd (top 33)).ps.length) : bindArgs (PySem.W.fnOf "law" "law" (defArgs (top 33)) (defBody (top 33)) (defScope (top 33)) .none kV doc pm an cdv ct) ⟨us, []⟩ = pure ((mkFd (top 33)).ps.zip us) := by obtain ⟨_, rfl⟩ := len1 hl; rfl
theorem all_in {K : PySem.W.Frag} {mg : Str → Option Value} : ∀ {l : List (Str × Fd)}, (∀ p ∈ l, FunAt K mg p.1 p.2) → ∀ f fd, l.lookup f = some fd → FunAt K mg f fd
  | (y, e) :: r, hp, f, fd, h => by
    rw [List.lookup_cons] at h
    cases hb : f == y with
    | true =>
      rw [hb] at h
      have e1 : f = y := by simpa using hb
      cases h
      subst e1
      exact hp _ List.mem_cons_self
    | false =>
      rw [hb] at h
      exact all_in (fun p hm => hp p (List.mem_cons_of_mem _ hm)) f fd h
theorem blt_in {mg : Str → Option Value} : ∀ {l : List (Str × String)}, (∀ p ∈ l, mg p.1 = none ∧ p.1 = Str.ofString p.2) → ∀ x b, l.lookup x = some b → mg x = none ∧ x = Str.ofString b
  | (y, e) :: r, hp, f, fd, h => by
    rw [List.lookup_cons] at h
    cases hb : f == y with
    | true =>
      rw [hb] at h
      have e1 : f = y := by simpa using hb
      cases h
      subst e1
      exact hp _ List.mem_cons_self
    | false =>
      rw [hb] at h
      exact blt_in (fun p hm => hp p (List.mem_cons_of_mem _ hm)) f fd h
end N91

local macro_rules | `(tactic| walk_at "xs") => `(tactic| first | exact DE.bLen | exact DE.bLenL | exact DE.bSum | rfl | assumption | omega)
local macro_rules | `(tactic| walk_at "xm") => `(tactic| first | exact DE.xNil | (refine' DE.xCons ?hA ?hB; (case hA => walk_at "xv"); (case hB => walk_at "xm")))
local macro_rules | `(tactic| walk_at "xi") => `(tactic| first
  | (refine' DE.wSqT ?hA ?hB; (case hA => rfl); (case hB => walk_at "xv"))
  | (refine' DE.wSq ?hA ?hB ?hC; (case hA => rfl); (case hB => walk_at "xv"); (case hC => rfl))
  | (refine' DE.wR1n ?hA ?hB ?hC; (case hA => rfl); (case hB => walk_at "xv"); (case hC => omega))
  | (refine' DE.wR2 ?hA ?hB ?hC ?hD; (case hA => rfl); (case hB => walk_at "xv"); (case hC => walk_at "xv"); (case hD => walk_at "xs")))
local macro_rules | `(tactic| walk_at "xl") => `(tactic| (refine' DE.xComp ?hA ?hB ?hC (DE.compGo_Ls ?hD); (case hA => rfl); (case hB => walk_at "xi"); (case hC => (exact DE.szlLs (by omega))); (case hD => (intro i hi; refine' DE.cStep ?hE ?hF; (case hE => rfl); (case hF => walk_at "xv")))))
local macro_rules | `(tactic| walk_at "xv") => `(tactic| first
  | exact DE.xName rfl
  | exact DE.xConst rfl
  | (refine' DE.xBin ?hA ?hB ?hC; (case hA => walk_at "xv"); (case hB => walk_at "xv"); (case hC => walk_at "xs"))
  | (refine' DE.xCmp ?hA ?hB ?hC; (case hA => walk_at "xv"); (case hB => walk_at "xv"); (case hC => walk_at "xs"))
  | (refine' DE.xIx0 ?hA ?hB ?hC ?hD ?hE; (case hA => walk_at "xv"); (case hB => walk_at "xv"); (case hC => omega); (case hD => rfl); (case hE => rfl))
  | (refine' DE.xIxL ?hA ?hB ?hC ?hD ?hE; (case hA => walk_at "xv"); (case hB => walk_at "xv"); (case hC => omega); (case hD => rfl); (case hE => rfl))
  | (refine' DE.xIxLl ?hA ?hB ?hC ?hD ?hE; (case hA => walk_at "xv"); (case hB => walk_at "xv"); (case hC => omega); (case hD => rfl); (case hE => rfl))
  | (refine' DE.xIsi ?hA ?hB ?hC ?hD ?hE ?hF ?hG; (case hA => rfl); (case hB => rfl); (case hC => rfl); (case hD => walk_at "xv"); (case hE => rfl); (case hF => rfl); (case hG => rfl))
  | (refine' DE.xBlt ?hA ?hB ?hC ?hD ?hE; (case hA => rfl); (case hB => rfl); (case hC => rfl); (case hD => walk_at "xm"); (case hE => walk_at "xs"))
  | (refine' DE.xCall ?hA ?hB ?hC; (case hA => rfl); (case hB => walk_at "xm"); (case hC => walk_at "xc"))
  | (refine' DE.xTup ?hA ?hB; (case hA => walk_at "xm"); (case hB => rfl))
  | (refine' DE.xLst ?hA ?hB; (case hA => walk_at "xm"); (case hB => rfl))
  | walk_at "xl"
  | (refine' DE.xNeg ?hA; (case hA => walk_at "xv"))
  | (refine' DE.xNot ?hA; (case hA => walk_at "xv")))

set_option Elab.async false
set_option linter.all false
set_option maxRecDepth 100000
namespace N91
open PySem DE
theorem is_whole (k : Nat) (i : Int) : callN T 60 (k + 1) "is_whole" [.int i] = some (.bl true) := by kernel_rfl
local macro_rules | `(tactic| walk_at "xc") => `(tactic| exact is_whole _ _)
theorem is_short (k : Nat) {n : Nat} {h : Nat → D} (h1 : 1 ≤ n) (h4 : n ≤ 4) : callN T 60 (k + 1) "is_short_tuple" [.tup (Ls n h)] = some (.bl true) := by
  refine xrun (fd := mkFd (top 10)) rfl rfl (gRet (xBool (xAndT ?_ (xOne ?_))))
  · walk_at "xv"
  · refine xCmpT (y := .int (n : Int)) (by walk_at "xv") ?_ (oLe (by omega)) (by walk_at "xv") (oLe (by omega))
    walk_at "xv"
theorem xEqD' {cx : Cxt} {n : Nat} {sc : Scope} {ρ : Rho} {e : Expr} {d d' : D} (h : ev cx n sc ρ e = some d) (q : d = d') : ev cx n sc ρ e = some d' := q ▸ h
theorem has_lines (k : Nat) {m n : Nat} {f : Nat → Nat → Int} (h1 : 1 ≤ m) (h2 : m ≤ 4) (h3 : 1 ≤ n) (h4 : n ≤ 4) : callN T 60 (k + 2) "has_lines" [tbl m n f] = some (.bl true) := by
  refine xrun (fd := mkFd (top 11)) rfl rfl (gIfN (xBool (xOrF (xNotT ?_) (xOne (xNotT ?_)))) (gRet ?_))
  · refine' xCall ?L91a_1a ?L91a_1b ?L91a_1c; (case L91a_1a => rfl); (case L91a_1b => walk_at "xm"); (case L91a_1c => exact is_short k h1 h2)
  · refine xBlt rfl rfl rfl (xCons ?_ xNil) (bAll (n := m) (f := fun _ => true) fun _ _ => rfl)
    refine' xComp ?L91a_2a ?L91a_2b ?L91a_2c (compGo_Ls ?L91a_2d); (case L91a_2a => rfl); (case L91a_2b => walk_at "xi"); (case L91a_2c => exact szlLs (by omega))
    case L91a_2d =>
      intro i hi
      refine' cStep ?L91a_2e ?L91a_2f; (case L91a_2e => rfl)
      case L91a_2f =>
        refine' xCall ?L91a_3a ?L91a_3b ?L91a_3c; (case L91a_3a => rfl); (case L91a_3b => walk_at "xm"); (case L91a_3c => exact is_short k h3 h4)
  · refine xBlt rfl rfl rfl (xCons ?_ xNil) (bAll (n := m) (f := fun _ => true) fun _ _ => rfl)
    refine' xComp ?L91a_4a ?L91a_4b ?L91a_4c (compGo_Ls ?L91a_4d); (case L91a_4a => rfl); (case L91a_4b => walk_at "xi"); (case L91a_4c => exact szlLs (by omega))
    case L91a_4d =>
      intro i hi
      refine' cStep ?L91a_4e ?L91a_4f; (case L91a_4e => rfl)
      case L91a_4f =>
        refine xCmp (x := .int (n : Int)) (y := .int (n : Int)) ?_ ?_ (oEqI rfl)
        · walk_at "xv"
        · walk_at "xv"
noncomputable def flat (n : Nat) (f : Nat → Nat → Int) : Nat → List D
  | 0 => []
  | i + 1 => flat n f i ++ Ls n fun j => .int (f i j)
theorem flat_len {n : Nat} {f : Nat → Nat → Int} (h4 : n ≤ 4) : ∀ i, (flat n f i).length ≤ 4 * i
  | 0 => Nat.zero_le _
  | i + 1 => by
    have := flat_len (f := f) h4 i
    simp only [flat, List.length_append, Ls_len]
    omega
theorem flat_int {n : Nat} {f : Nat → Nat → Int} : ∀ i, ∀ x ∈ flat n f i, ∃ v, x = .int v
  | i + 1, x, h => by
    rcases List.mem_append.mp h with h | h
    · exact flat_int i x h
    · obtain ⟨j, _, rfl⟩ := List.mem_map.mp h
      exact ⟨_, rfl⟩
noncomputable def rwS (g : Nat → D) : Nat → Sl
  | 0 => .no
  | i + 1 => .sh (g i)
theorem numbers_of (k : Nat) {m n : Nat} {f : Nat → Nat → Int} (h1 : 1 ≤ m) (h2 : m ≤ 4) (h4 : n ≤ 4) : callN T 60 (k + 1) "numbers_of" [tbl m n f] = some (.lst (flat n f m)) := by
  obtain ⟨m, rfl⟩ : ∃ m', m = m' + 1 := ⟨m - 1, by omega⟩
  refine xrun (fd := mkFd (top 12)) rfl rfl (gSet rfl (d := .lst []) (by walk_at "xv") (gFor (l := Ls (m + 1) fun i => row n (f i)) (fl1 := .nxt [("table", .sh (tbl (m + 1) n f)), ("told", .ow (flat n f (m + 1))), ("row", .sh (row n (f m)))]) ?_ ?_ (gRet ?_)))
  · walk_at "xi"
  · refine forGo_Ls (R := fun i => [("table", .sh (tbl (m + 1) n f)), ("told", .ow (flat n f i)), ("row", rwS (fun i => row n (f i)) i)]) fun i hi => ?_
    have hl := flat_len (f := f) h4 i
    exact fStep rfl (gExtT rfl rfl rfl rfl (szlN (by rw [Ls_len]; omega)) (by walk_at "xv") gNilS)
  · walk_at "xv"
theorem has_form (k : Nat) {m n : Nat} {f : Nat → Nat → Int} (h1 : 1 ≤ m) (h2 : m ≤ 4) (h3 : 1 ≤ n) (h4 : n ≤ 4) : callN T 60 (k + 3) "has_table_form" [tbl m n f] = some (.bl true) := by
  have hl := flat_len (f := f) h4 m
  refine xrun (fd := mkFd (top 13)) rfl rfl (gRet (xBool (xAndT ?_ (xOne ?_))))
  · refine' xCall ?L91a_5a ?L91a_5b ?L91a_5c; (case L91a_5a => rfl); (case L91a_5b => walk_at "xm"); (case L91a_5c => exact has_lines k h1 h2 h3 h4)
  · refine xEqD' (xBlt rfl rfl rfl (xCons (xComp (l := flat n f m) rfl (wSq (x := .lst (flat n f m)) rfl (xCall rfl (by walk_at "xm") (numbers_of (k + 1) h1 h2 h4)) rfl) (szlN (by omega)) (compGo_map (g := fun _ => .bl true) fun x hx => cStep rfl ?_)) xNil) (bAllM (t := fun _ => true))) (by simp)
    obtain ⟨v, rfl⟩ := flat_int m x hx
    refine' xCall ?L91a_6a ?L91a_6b ?L91a_6c; (case L91a_6a => rfl); (case L91a_6b => walk_at "xm"); (case L91a_6c => exact is_whole _ _)
theorem need_table (k : Nat) {m n : Nat} {f : Nat → Nat → Int} (h1 : 1 ≤ m) (h2 : m ≤ 4) (h3 : 1 ≤ n) (h4 : n ≤ 4) : callN T 60 (k + 4) "need_table" [tbl m n f] = some .non := by
  refine xrun0 (fd := mkFd (top 14)) rfl rfl (gIfN (xNotT ?_) gNilS)
  refine' xCall ?L91a_7a ?L91a_7b ?L91a_7c; (case L91a_7a => rfl); (case L91a_7b => walk_at "xm"); (case L91a_7c => exact has_form k h1 h2 h3 h4)
theorem whole_within (k : Nat) {i l h : Int} (h1 : l ≤ i) (h2 : i ≤ h) : callN T 60 (k + 2) "is_whole_within" [.int i, .int l, .int h] = some (.bl true) := by
  refine xrun (fd := mkFd (top 9)) rfl rfl (gRet (xBool (xAndT ?_ (xOne ?_))))
  · refine' xCall ?L91a_8a ?L91a_8b ?L91a_8c; (case L91a_8a => rfl); (case L91a_8b => walk_at "xm"); (case L91a_8c => exact is_whole _ _)
  · exact xCmpT (by walk_at "xv") (by walk_at "xv") (oLe h1) (by walk_at "xv") (oLe h2)
noncomputable def Sm (m n : Nat) (f : Nat → Nat → Int) : Prop := ∀ i j, i < m → j < n → small (f i j) = true
noncomputable def cellV (ns : List Int) (k : Nat) : Int := if k < ns.length then ns.getD k 0 else if ns = [] then 0 else ns.getD (k % ns.length) 0 * 31 + k
noncomputable def drawnV (ns : List Int) (k : Nat) : Int := (cellV ns k + 6151 * ((k : Int) + 1)) * 40692 % 2147483399
noncomputable def pickN (ns : List Int) (k many : Nat) : Nat := ((drawnV ns k * drawnV ns k + drawnV ns k / 31) % 2147483629 % (many : Int)).toNat
theorem pickN_lt {ns : List Int} {k many : Nat} (h : 0 < many) : pickN ns k many < many := by
  unfold pickN
  have h1 := Int.emod_nonneg ((drawnV ns k * drawnV ns k + drawnV ns k / 31) % 2147483629) (show (many : Int) ≠ 0 by omega)
  have h2 := Int.emod_lt_of_pos ((drawnV ns k * drawnV ns k + drawnV ns k / 31) % 2147483629) (show (0 : Int) < many by omega)
  omega
noncomputable abbrev scr (ns : List Int) : D := .lst (ns.map D.int)
theorem scr_len {ns : List Int} : blt "len" [scr ns] = some (.int (ns.length : Int)) := by
  show some (D.int ((ns.map D.int).length : Int)) = _
  rw [List.length_map]
theorem scr_at {ns : List Int} {k : Nat} (h : k < ns.length) : atD (ns.map D.int) (k : Int) = some (.int (ns.getD k 0)) := by
  refine atD_nat ?_
  rw [List.getElem?_map, List.getElem?_eq_getElem h, List.getD_eq_getElem?_getD, List.getElem?_eq_getElem h]; rfl
theorem scr_dep {ns : List Int} : dep (scr ns) ≤ 50 := by
  simp only [dep]
  have := deps_le (b := 0) (l := ns.map D.int) fun d hd => by
    obtain ⟨i, _, rfl⟩ := List.mem_map.mp hd
    simp [dep]
  omega
theorem cell (k : Nat) (ns : List Int) (kk : Nat) : callN T 60 (k + 1) "_law_cell" [scr ns, .int (kk : Int)] = some (.int (cellV ns kk)) := by
  unfold cellV
  by_cases h : kk < ns.length
  · rw [if_pos h]
    refine xrun (fd := mkFd (top 29)) rfl rfl (gIfT (fl1 := .ret (.int (ns.getD kk 0))) (xCmp (by walk_at "xv") (xBlt rfl rfl rfl (by walk_at "xm") scr_len) (oLt (by omega))) (gRet ?_) rfl)
    exact xIx (by walk_at "xv") (by walk_at "xv") rfl (scr_at h)
  · rw [if_neg h]
    by_cases e : ns = []
    · subst e
      rw [if_pos rfl]
      refine xrun (fd := mkFd (top 29)) rfl rfl (gIfN (xCmp (by walk_at "xv") (xBlt rfl rfl rfl (by walk_at "xm") (scr_len (ns := []))) (oLtF (by simp))) (gIfT (fl1 := .ret (.int 0)) (xCmp (by walk_at "xv") (by walk_at "xv") rfl) (gRet (by walk_at "xv")) rfl))
    · rw [if_neg e]
      have hl : 0 < ns.length := List.length_pos_iff.mpr e
      refine xrun (fd := mkFd (top 29)) rfl rfl (gIfN (xCmp (by walk_at "xv") (xBlt rfl rfl rfl (by walk_at "xm") scr_len) (oLtF (by omega))) (gIfN (xCmp (y := .lst []) (by walk_at "xv") (by walk_at "xv") ?_) (gRet ?_)))
      · rw [oEq scr_dep (by simp [dep, deps])]
        cases ns with
        | nil => exact absurd rfl e
        | cons a r => rfl
      · refine xBin (xBin (x := .int (ns.getD (kk % ns.length) 0)) (xIx (i := ((kk % ns.length : Nat) : Int)) (by walk_at "xv") ?_ rfl (scr_at (Nat.mod_lt _ hl))) (by walk_at "xv") (bMul (.inr (by decide)))) (by walk_at "xv") rfl
        refine xBin (by walk_at "xv") (xBlt rfl rfl rfl (by walk_at "xm") scr_len) ?_
        rw [bMod (by omega)]
        rfl
theorem pick (k : Nat) (ns : List Int) (kk : Nat) {many : Nat} (h : 0 < many) : callN T 60 (k + 2) "_law_pick" [scr ns, .int (kk : Int), .int (many : Int)] = some (.int ((pickN ns kk many : Nat) : Int)) := by
  have d0 := Int.emod_nonneg ((cellV ns kk + 6151 * ((kk : Int) + 1)) * 40692) (show (2147483399 : Int) ≠ 0 by decide)
  have d1 := Int.emod_lt_of_pos ((cellV ns kk + 6151 * ((kk : Int) + 1)) * 40692) (show (0 : Int) < 2147483399 by decide)
  have e : ((pickN ns kk many : Nat) : Int) = (drawnV ns kk * drawnV ns kk + drawnV ns kk / 31) % 2147483629 % (many : Int) := by
    unfold pickN
    exact Int.toNat_of_nonneg (Int.emod_nonneg _ (by omega))
  rw [e]
  refine xrun (fd := mkFd (top 30)) rfl rfl (gSet rfl (d := .int (drawnV ns kk)) ?_ (gRet ?_))
  · refine xBin (xBin (xBin (x := .int (cellV ns kk)) (y := .int (6151 * ((kk : Int) + 1))) ?_ ?_ rfl) (by walk_at "xv") (bMul (.inr (by decide)))) (by walk_at "xv") (bMod (by decide))
    · refine' xCall ?L91a_9a ?L91a_9b ?L91a_9c; (case L91a_9a => rfl); (case L91a_9b => walk_at "xm"); (case L91a_9c => exact cell _ ns kk)
    · exact xBin (by walk_at "xv") (xBin (by walk_at "xv") (by walk_at "xv") rfl) (bMul (.inl (by decide)))
  · refine xBin (xBin (xBin (xBin (by walk_at "xv") (by walk_at "xv") (bMul (.inl ?_))) (xBin (by walk_at "xv") (by walk_at "xv") (bDiv (by decide) (by decide))) rfl) (by walk_at "xv") (bMod (by decide))) (by walk_at "xv") (bMod (by omega))
    unfold small
    unfold drawnV
    rw [decide_eq_true (by omega), decide_eq_true (by omega)]; rfl
theorem xEqD {cx : Cxt} {n : Nat} {sc : Scope} {ρ : Rho} {e : Expr} {d d' : D} (h : ev cx n sc ρ e = some d) (q : d = d') : ev cx n sc ρ e = some d' := q ▸ h
noncomputable def lowV : Nat → Nat
  | 0 => 0
  | 1 => 0
  | 2 => 1
  | _ => 4
theorem lowV_le (p : Nat) : lowV p ≤ 4 := by unfold lowV; split <;> omega
noncomputable def tabV (ns : List Int) (at' : Nat) : Nat → Nat → Int := fun i j => ((pickN ns (at' + 1 + 8 * i + j) (6 + lowV (pickN ns at' 4)) : Nat) : Int) - ((lowV (pickN ns at' 4) : Nat) : Int)
noncomputable def rowS : Nat → Sl
  | 0 => .no
  | i + 1 => .sh (.int (i : Int))
noncomputable def rhoT (ns : List Int) (a m n low : Nat) (md : List D) (rw : Sl) : Rho := [("_law_script", .sh (scr ns)), ("_law_at", .sh (.int (a : Int))), ("_law_rows", .sh (.int (m : Int))), ("_law_columns", .sh (.int (n : Int))), ("_law_low", .sh (.int (low : Int))), ("_law_made", .ow md), ("_law_row", rw)]
theorem table (k : Nat) (ns : List Int) (a : Nat) {m n : Nat} (hm : m ≤ 4) (hn : n ≤ 4) : callN T 60 (k + 3) "_law_table" [scr ns, .int (a : Int), .int (m : Int), .int (n : Int)] = some (tbl m n (tabV ns a)) := by
  have hp := pickN_lt (ns := ns) (k := a) (many := 4) (by omega)
  refine xrun (fd := mkFd (top 31)) rfl rfl (gSet rfl (d := .int ((lowV (pickN ns a 4) : Nat) : Int)) ?_ (gSet rfl (d := .lst []) (by walk_at "xv") (gFor (l := Ls m fun i => .int (i : Int)) (fl1 := .nxt (rhoT ns a m n (lowV (pickN ns a 4)) (Ls m fun i => row n (tabV ns a i)) (rowS m))) ?_ ?_ (gRet (xBlt rfl rfl rfl (by walk_at "xm") bTup)))))
  · refine xIx (x := .lst [.int 0, .int 0, .int 1, .int 4]) (i := ((pickN ns a 4 : Nat) : Int)) (by walk_at "xv") ?_ rfl ?_
    · refine xCall rfl (by walk_at "xm") (pick (k + 0) ns a (many := 4) (by omega))
    · generalize pickN ns a 4 = p at hp
      match p, hp with
      | 0, _ => rfl
      | 1, _ => rfl
      | 2, _ => rfl
      | 3, _ => rfl
  · walk_at "xi"
  · refine forGo_Ls (R := fun i => rhoT ns a m n (lowV (pickN ns a 4)) (Ls i fun i => row n (tabV ns a i)) (rowS i)) fun i hi => ?_
    refine fStep (ρ1 := rhoT ns a m n (lowV (pickN ns a 4)) (Ls i fun i => row n (tabV ns a i)) (.sh (.int (i : Int)))) rfl ?_
    show _ = some (Fl.nxt (rhoT ns a m n (lowV (pickN ns a 4)) (Ls (i + 1) fun i => row n (tabV ns a i)) (rowS (i + 1))))
    rw [Ls_snoc]
    refine gApp (d := row n (tabV ns a i)) rfl rfl rfl (szlN (by rw [Ls_len]; omega)) ?_ rfl
    refine xBlt rfl rfl rfl (xCons ?_ xNil) bTup
    refine' xComp ?L91a_10a ?L91a_10b ?L91a_10c (compGo_Ls ?L91a_10d); (case L91a_10a => rfl); (case L91a_10b => walk_at "xi"); (case L91a_10c => exact szlLs (by omega))
    case L91a_10d =>
      intro j hj
      refine' cStep ?L91a_10e ?L91a_10f; (case L91a_10e => rfl)
      case L91a_10f =>
        refine xBin (x := .int ((pickN ns (a + 1 + 8 * i + j) (6 + lowV (pickN ns a 4)) : Nat) : Int)) (xCall rfl (xCons ?_ (xCons ?_ (xCons ?_ xNil))) (pick (k + 0) ns (a + 1 + 8 * i + j) (many := 6 + lowV (pickN ns a 4)) (by omega))) (by walk_at "xv") rfl
        · walk_at "xv"
        · refine xEqD (xBin (xBin (xBin (by walk_at "xv") (by walk_at "xv") rfl) (xBin (by walk_at "xv") (by walk_at "xv") (bMul (.inl (by decide)))) rfl) (by walk_at "xv") rfl) (congrArg D.int (by omega))
        · refine xEqD (xBin (by walk_at "xv") (by walk_at "xv") rfl) (congrArg D.int (by omega))
section
variable {cx : Cxt} {sc : Scope} {ρ ρ' : Rho} {e : Expr} {p : Pos} {d : D} {nm : Str} {F m : Nat} {r : List Stmt} {fl : Fl} {y : Str} {s : Sl} {ds : List D}
theorem fz_n : frz F e [] = [] := rfl
theorem fz_c (h : nOw s = true) (q : frz F e ρ = ρ') : frz F e ((y, s) :: ρ) = (y, s) :: ρ' := by rw [frz_calm h, q]
theorem fz_k (h : ment F y e = false) (q : frz F e ρ = ρ') : frz F e ((y, .ow ds) :: ρ) = (y, .ow ds) :: ρ' := by
  rw [frz_cons, q]
  simp only [h, Bool.false_eq_true, if_false]
end
theorem forGo_LsI {f : D → Rho → Option Fl} {h : Nat → D} {P : Nat → Rho → Prop} {N : Nat} (hs : ∀ i ρ, i < N → P i ρ → ∃ ρ', P (i + 1) ρ' ∧ f (h i) ρ = some (.nxt ρ')) {ρ : Rho} (h0 : P 0 ρ) : ∃ ρ', P N ρ' ∧ forGo f (Ls N h) ρ = some (.nxt ρ') := by
  have key : ∀ (n a : Nat) (ρ : Rho), a + n ≤ N → P a ρ → ∃ ρ', P (a + n) ρ' ∧ forGo f ((List.range' a n).map h) ρ = some (.nxt ρ') := by
    intro n
    induction n with
    | zero => intro a ρ _ hp; exact ⟨ρ, hp, rfl⟩
    | succ n ih =>
      intro a ρ ha hp
      obtain ⟨ρ1, h1, h2⟩ := hs a ρ (by omega) hp
      obtain ⟨ρ2, h3, h4⟩ := ih (a + 1) ρ1 (by omega) h1
      refine ⟨ρ2, by rw [show a + (n + 1) = a + 1 + n by omega]; exact h3, ?_⟩
      rw [List.range'_succ, List.map_cons]
      simp only [forGo, h2]
      exact h4
  obtain ⟨ρ', h1, h2⟩ := key N 0 ρ (by omega) h0
  rw [Nat.zero_add] at h1
  refine ⟨ρ', h1, ?_⟩
  unfold Ls
  rw [List.range_eq_range']
  exact h2
theorem gAppE {px ap cp : Pos} {M : Str} (hf : frz F e ρ = ρ') (hx : ρ'.lookup nm = some (.ow ds)) (ho : (ownIn sc nm && plainName nm && ap.endLine == cp.line) = true) (hM : (M == "append") = true) (hz : szl (ds.length + 1) = true) (h : ev cx F sc ρ' e = some d) (k : blk cx F (m + 1) sc r (setR ρ' nm (.ow (ds ++ [d]))) = some fl) :
    blk cx F (m + 1) sc (.Expr (.Call (.Attribute (.Name nm px) M ap) [e] [] cp) p :: r) ρ = some fl := by
  subst hf
  exact gApp hx ho hM hz h k
noncomputable def forB : Stmt → List Stmt
  | .For _ _ b _ _ => b
  | _ => []
noncomputable def forT : Stmt → Expr
  | .For t _ _ _ _ => t
  | _ => .Name "" ⟨0, 0, 0, 0⟩
noncomputable def pss : Stmt := .Pass ⟨0, 0, 0, 0⟩
section
variable {cx : Cxt} {sc : Scope} {ρ ρ' : Rho} {e : Expr} {p : Pos} {d : D} {nm : Str} {F m : Nat} {r : List Stmt} {fl : Fl} {y : Str} {s : Sl} {ds : List D}
theorem gForE {tg iter : Expr} {body : List Stmt} {l : List D} {fl1 : Fl} (hf : frz F iter ρ = ρ') (hI : evI cx (isTupE tg) (ev cx F sc ρ') sc iter = some l) (hgo : forGo (fF cx F m sc tg body) l ρ' = some fl1) (k2 : thenS cx F (m + 1) sc r fl1 = some fl) : blk cx F (m + 1) sc (.For tg iter body [] p :: r) ρ = some fl := by
  subst hf
  exact gFor hI hgo k2
end
theorem gForN {cx : Cxt} {sc : Scope} {ρ ρ' ρ2 : Rho} {p : Pos} {F m : Nat} {r : List Stmt} {fl : Fl} {tg iter : Expr} {body : List Stmt} {l : List D} (hf : frz F iter ρ = ρ') (hI : evI cx (isTupE tg) (ev cx F sc ρ') sc iter = some l) (hgo : forGo (fF cx F m sc tg body) l ρ' = some (.nxt ρ2)) (k2 : blk cx F (m + 1) sc r ρ2 = some fl) : blk cx F (m + 1) sc (.For tg iter body [] p :: r) ρ = some fl := gForE hf hI hgo k2
theorem same_size (k : Nat) {m n : Nat} {f g : Nat → Nat → Int} (h1 : 1 ≤ m) : callN T 60 (k + 1) "need_same_size" [tbl m n f, tbl m n g] = some .non := by
  refine xrun0 (fd := mkFd (top 15)) rfl rfl (gIfN (xBool (xOrF (xCmp (x := .int (m : Int)) ?_ ?_ (oNeI rfl)) (xOne (xCmp (x := .int (n : Int)) ?_ ?_ (oNeI rfl))))) gNilS)
  · walk_at "xv"
  · walk_at "xv"
  · walk_at "xv"
  · walk_at "xv"
noncomputable def pr (i j : Nat) : D := .tup [.int (i : Int), .int (j : Int)]
noncomputable def rowP (f g : Nat → Nat → Int) (i n : Nat) : List D := ((List.range n).filter fun j => f i j != g i j).map (pr i)
noncomputable def acc (n : Nat) (f g : Nat → Nat → Int) : Nat → List D
  | 0 => []
  | i + 1 => acc n f g i ++ rowP f g i n
theorem rowP_succ (f g : Nat → Nat → Int) (i j : Nat) : rowP f g i (j + 1) = rowP f g i j ++ if f i j != g i j then [pr i j] else [] := by
  unfold rowP
  rw [List.range_succ, List.filter_append, List.map_append]
  congr 1
  simp only [List.filter_cons, List.filter_nil]
  split <;> rfl
theorem rowP_len (f g : Nat → Nat → Int) (i n : Nat) : (rowP f g i n).length ≤ n := by
  unfold rowP
  rw [List.length_map]
  exact Nat.le_trans (List.length_filter_le _ _) (by simp)
theorem acc_len {n : Nat} (f g : Nat → Nat → Int) : ∀ m, (acc n f g m).length ≤ n * m
  | 0 => Nat.zero_le _
  | m + 1 => by
    have := acc_len (n := n) f g m
    have := rowP_len f g m n
    rw [acc, List.length_append, Nat.mul_succ]
    omega
noncomputable def ifC : Stmt → Expr
  | .If c _ _ _ => c
  | _ => .Name "" ⟨0, 0, 0, 0⟩
noncomputable def rhoU (m n : Nat) (f g : Nat → Nat → Int) (to ro co : Sl) : Rho := [("one", .sh (tbl m n f)), ("other", .sh (tbl m n g)), ("told", to), ("row", ro), ("column", co)]
noncomputable def lu1 : Stmt := (mkFd (top 21)).body.getD 4 pss
noncomputable def lu2 : Stmt := (forB lu1).getD 0 pss
theorem unlike_in (k : Nat) {m n : Nat} {f g : Nat → Nat → Int} {i : Nat} {c : Sl} (hc : nOw c = true) (hi : i < m) (h2 : m ≤ 4) (h4 : n ≤ 4) :
    ∃ ρ', (∃ c', nOw c' = true ∧ ρ' = rhoU m n f g (.ow (acc n f g (i + 1))) (.sh (.int (i : Int))) c') ∧ forGo (fF (cxN T 60 k) 60 58 (mkFd (top 21)).sc (forT lu2) (forB lu2)) (Ls n fun j => .int (j : Int)) (rhoU m n f g (.ow (acc n f g i)) (.sh (.int (i : Int))) c) = some (.nxt ρ') := by
  have hl := acc_len (n := n) f g i
  have hz : (acc n f g i).length ≤ 4 * 4 := Nat.le_trans hl (Nat.mul_le_mul h4 (by omega))
  have e0 : acc n f g i = acc n f g i ++ rowP f g i 0 := by rw [rowP]; simp
  conv in (rhoU m n f g (.ow (acc n f g i)) (.sh (.int (i : Int))) c) => rw [e0]
  refine forGo_LsI (P := fun j ρ => ∃ c', nOw c' = true ∧ ρ = rhoU m n f g (.ow (acc n f g i ++ rowP f g i j)) (.sh (.int (i : Int))) c') (fun j ρ hj hP => ?_) ⟨c, hc, rfl⟩
  obtain ⟨c', hc', rfl⟩ := hP
  refine ⟨_, ⟨.sh (.int (j : Int)), rfl, rfl⟩, ?_⟩
  refine fStep (ρ1 := rhoU m n f g (.ow (acc n f g i ++ rowP f g i j)) (.sh (.int (i : Int))) (.sh (.int (j : Int)))) rfl ?_
  have hr := rowP_len f g i j
  have cond : ∀ (e : Expr), ifC ((forB lu2).getD 0 pss) = e → ev (cxN T 60 k) 60 (mkFd (top 21)).sc (rhoU m n f g (.ow (acc n f g i ++ rowP f g i j)) (.sh (.int (i : Int))) (.sh (.int (j : Int)))) e = some (.bl (f i j != g i j)) := by
    intro e he
    subst he
    refine xCmp (x := .int (f i j)) (y := .int (g i j)) ?_ ?_ rfl
    · exact xIxL (m := n) (j := j) (h := fun j => .int (f i j)) (xIxL (m := m) (j := i) (h := fun i => row n (f i)) (by walk_at "xv") (by walk_at "xv") hi rfl rfl) (by walk_at "xv") hj rfl rfl
    · exact xIxL (m := n) (j := j) (h := fun j => .int (g i j)) (xIxL (m := m) (j := i) (h := fun i => row n (g i)) (by walk_at "xv") (by walk_at "xv") hi rfl rfl) (by walk_at "xv") hj rfl rfl
  have fz : ∀ e, ment 60 "told" e = false → frz 60 e (rhoU m n f g (.ow (acc n f g i ++ rowP f g i j)) (.sh (.int (i : Int))) (.sh (.int (j : Int)))) = rhoU m n f g (.ow (acc n f g i ++ rowP f g i j)) (.sh (.int (i : Int))) (.sh (.int (j : Int))) := fun e he => fz_c rfl (fz_c rfl (fz_k he (fz_c rfl (fz_c rfl fz_n))))
  rw [rowP_succ]
  have cd := cond _ rfl
  cases hb : f i j != g i j with
  | true =>
    rw [hb] at cd
    rw [if_pos rfl, ← List.append_assoc]
    refine gIfT (fl1 := .nxt (rhoU m n f g (.ow (acc n f g i ++ rowP f g i j ++ [pr i j])) (.sh (.int (i : Int))) (.sh (.int (j : Int))))) (by rw [fz _ rfl]; exact cd) ?_ rfl
    rw [fz _ rfl]
    exact gAppE (ρ' := rhoU m n f g (.ow (acc n f g i ++ rowP f g i j)) (.sh (.int (i : Int))) (.sh (.int (j : Int)))) (d := pr i j) (fz _ rfl) rfl rfl rfl (szlN (by rw [List.length_append]; omega)) (xTup (ds := [.int (i : Int), .int (j : Int)]) (xCons (by walk_at "xv") (xCons (by walk_at "xv") xNil)) rfl) rfl
  | false =>
    rw [hb] at cd
    simp only [Bool.false_eq_true, if_false, List.append_nil]
    refine gIfF (fl1 := .nxt (rhoU m n f g (.ow (acc n f g i ++ rowP f g i j)) (.sh (.int (i : Int))) (.sh (.int (j : Int))))) (by rw [fz _ rfl]; exact cd) ?_ rfl
    rw [fz _ rfl]
    rfl
noncomputable def b1U : List Stmt := (mkFd (top 21)).body.take 5
theorem unlike_run (k : Nat) {m n : Nat} {f g : Nat → Nat → Int} (h1 : 1 ≤ m) (h2 : m ≤ 4) (h3 : 1 ≤ n) (h4 : n ≤ 4) : ∃ r c, blk (cxN T 60 (k + 4)) 60 60 (mkFd (top 21)).sc b1U (startR (mkFd (top 21)) [tbl m n f, tbl m n g]) = some (.nxt (rhoU m n f g (.ow (acc n f g m)) r c)) := by
  have go : ∃ ρ', (∃ r c, nOw r = true ∧ nOw c = true ∧ ρ' = rhoU m n f g (.ow (acc n f g m)) r c) ∧ forGo (fF (cxN T 60 (k + 4)) 60 59 (mkFd (top 21)).sc (forT lu1) (forB lu1)) (Ls m fun i => .int (i : Int)) (rhoU m n f g (.ow []) .no .no) = some (.nxt ρ') := by
    refine forGo_LsI (P := fun i ρ => ∃ r c, nOw r = true ∧ nOw c = true ∧ ρ = rhoU m n f g (.ow (acc n f g i)) r c) (fun i ρ hi hP => ?_) ⟨.no, .no, rfl, rfl, rfl⟩
    obtain ⟨r, c, hr, hc, rfl⟩ := hP
    obtain ⟨ρ', ⟨c', hc', rfl⟩, go⟩ := unlike_in (k + 4) (m := m) (n := n) (f := f) (g := g) (i := i) hc hi h2 h4
    refine ⟨_, ⟨.sh (.int (i : Int)), c', rfl, hc', rfl⟩, ?_⟩
    refine fStep (ρ1 := rhoU m n f g (.ow (acc n f g i)) (.sh (.int (i : Int))) c) rfl ?_
    refine gForN (ρ' := rhoU m n f g (.ow (acc n f g i)) (.sh (.int (i : Int))) c) (l := Ls n fun j => .int (j : Int)) (fz_c rfl (fz_c rfl (fz_k rfl (fz_c rfl (fz_c hc fz_n))))) ?_ go gNilS
    refine wR1n (j := n) rfl (xBlt (ds := [row n (f 0)]) rfl rfl rfl (xCons (xIx0 (m := m) (h := fun i => row n (f i)) (by walk_at "xv") (by walk_at "xv") (by omega) rfl rfl) xNil) bLen) (by omega)
  obtain ⟨ρ', ⟨r, c, hr, hc, rfl⟩, go⟩ := go
  refine ⟨r, c, gXpr rfl (d := .non) ?_ (gXpr rfl (d := .non) ?_ (gXpr rfl (d := .non) ?_ (gSet rfl (d := .lst []) (by walk_at "xv") ?_)))⟩
  · refine' xCall ?L91a_11a ?L91a_11b ?L91a_11c; (case L91a_11a => rfl); (case L91a_11b => walk_at "xm"); (case L91a_11c => exact need_table k h1 h2 h3 h4)
  · refine' xCall ?L91a_12a ?L91a_12b ?L91a_12c; (case L91a_12a => rfl); (case L91a_12b => walk_at "xm"); (case L91a_12c => exact need_table k h1 h2 h3 h4)
  · refine' xCall ?L91a_13a ?L91a_13b ?L91a_13c; (case L91a_13a => rfl); (case L91a_13b => walk_at "xm"); (case L91a_13c => exact same_size (k + 3) h1)
  show blk _ _ _ _ _ (rhoU m n f g (.ow []) .no .no) = _
  refine gForN (ρ' := rhoU m n f g (.ow []) .no .no) (l := Ls m fun i => .int (i : Int)) (fz_c rfl (fz_c rfl (fz_k rfl (fz_c rfl (fz_c rfl fz_n))))) ?_ go gNilS
  exact wR1n (j := m) rfl (xBlt (ds := [tbl m n f]) rfl rfl rfl (xCons (by walk_at "xv") xNil) bLen) (by omega)
theorem small_row (k : Nat) {n : Nat} {f : Nat → Int} (h4 : n ≤ 4) (hs : ∀ j, j < n → -99 ≤ f j ∧ f j ≤ 99) : callN T 60 (k + 3) "is_small_row" [row n f] = some (.bl true) := by
  refine xrun (fd := mkFd (top 18)) rfl rfl (gRet (xBlt rfl rfl rfl (xCons ?_ xNil) (bAll (n := n) (f := fun _ => true) fun _ _ => rfl)))
  refine' xComp ?L91a_14a ?L91a_14b ?L91a_14c (compGo_Ls ?L91a_14d); (case L91a_14a => rfl); (case L91a_14b => walk_at "xi"); (case L91a_14c => exact szlLs (by omega))
  case L91a_14d =>
    intro j hj
    refine' cStep ?L91a_14e ?L91a_14f; (case L91a_14e => rfl)
    case L91a_14f =>
      refine xCall rfl (xCons (x := .int (f j)) (by walk_at "xv") (xCons (x := .int (-99)) (xNeg (i := 99) (by walk_at "xv")) (xCons (x := .int 99) (by walk_at "xv") xNil))) (whole_within k (hs j hj).1 (hs j hj).2)
theorem is_table (k : Nat) {m n : Nat} {f : Nat → Nat → Int} (h1 : 1 ≤ m) (h2 : m ≤ 4) (h3 : 1 ≤ n) (h4 : n ≤ 4) (hs : ∀ i j, i < m → j < n → -99 ≤ f i j ∧ f i j ≤ 99) : callN T 60 (k + 4) "is_table" [tbl m n f] = some (.bl true) := by
  refine xrun (fd := mkFd (top 19)) rfl rfl (gRet (xBool (xAndT ?_ (xOne ?_))))
  · refine' xCall ?L91a_15a ?L91a_15b ?L91a_15c; (case L91a_15a => rfl); (case L91a_15b => walk_at "xm"); (case L91a_15c => exact has_form k h1 h2 h3 h4)
  · refine xBlt rfl rfl rfl (xCons ?_ xNil) (bAll (n := m) (f := fun _ => true) fun _ _ => rfl)
    refine' xComp ?L91a_16a ?L91a_16b ?L91a_16c (compGo_Ls ?L91a_16d); (case L91a_16a => rfl); (case L91a_16b => walk_at "xi"); (case L91a_16c => exact szlLs (by omega))
    case L91a_16d =>
      intro i hi
      refine' cStep ?L91a_16e ?L91a_16f; (case L91a_16e => rfl)
      case L91a_16f =>
        refine' xCall ?L91a_17a ?L91a_17b ?L91a_17c; (case L91a_17a => rfl); (case L91a_17b => walk_at "xm"); (case L91a_17c => exact small_row k h4 (fun j hj => hs i j hi hj))
theorem tab_in {ns : List Int} {a i j : Nat} : -99 ≤ tabV ns a i j ∧ tabV ns a i j ≤ 99 := by
  unfold tabV
  have h1 := pickN_lt (ns := ns) (k := a + 1 + 8 * i + j) (many := 6 + lowV (pickN ns a 4)) (by omega)
  have h2 := lowV_le (pickN ns a 4)
  omega
theorem acc_dep {n : Nat} {f g : Nat → Nat → Int} (m : Nat) : dep (.lst (acc n f g m)) ≤ 50 := by
  have key : ∀ m, ∀ d ∈ acc n f g m, dep d ≤ 1 := by
    intro m
    induction m with
    | zero => intro d hd; simp [acc] at hd
    | succ m ih =>
      intro d hd
      rw [acc, List.mem_append] at hd
      rcases hd with hd | hd
      · exact ih d hd
      · unfold rowP at hd
        obtain ⟨j, _, rfl⟩ := List.mem_map.mp hd
        simp [pr, dep, deps]
  have := deps_le (key m)
  simp only [dep]
  omega
end N91

set_option Elab.async false
set_option linter.all false
set_option maxRecDepth 100000
/-! names of one sign: is_name, need_name -/
namespace M91
open PySem PySem.Spec PyProof.Rows L2
noncomputable def top (i : Nat) : Stmt := PySem.Challenge.pw_minortables_k91_whole_told_lists.main.body.getD i (.Pass ⟨0, 0, 0, 0⟩)
noncomputable abbrev sIsName : Stmt := top 25
noncomputable abbrev sNeedName : Stmt := top 26
noncomputable abbrev LET : Str := "abcdefghijklmnopqrstuvwxyz"
theorem pe_tyN {X : Cx} {x : Str} {T : String} {pos : Pos} (hg : Gl X x) (hm : X.mg x = none) (hv : bootBuiltins x = some (.type T)) (hn : x ≠ "__name__" := by decide) (hdb : (x == ("__debug__" : Str)) = false := by decide) : PE X (.Name x pos) (tC (.ty T)) :=
  fun pins s σ H Q I h => ld_blt I hg hm hv ⟨.ty T, H, I, rfl, h⟩ hn hdb
theorem call_isiS {X : Cx} : CallR X (.builtin "isinstance") (fun xs H Q => ∃ z, xs = [.str z, .ty "str"] ∧ Q (.bl true) H) := by
  intro pins s σ H xs us Q I r h
  obtain ⟨z, rfl, q⟩ := h
  obtain ⟨u, w1, rfl, rx, rr⟩ := valsC r
  obtain ⟨c, w2, rfl, rc, rr2⟩ := valsC rr
  cases rr2
  cases (show c = Value.type "str" from rc)
  exact isinst_ok (b := true) I rx (.str z) (by rfl) fun tk => ⟨.bl true, H, I.tok _, rfl, q⟩
theorem call_isiL {X : Cx} : CallR X (.builtin "isinstance") (fun xs H Q => ∃ a ys, xs = [.ref a, .ty "list"] ∧ H a = some (.lst ys) ∧ Q (.bl true) H) := by
  intro pins s σ H xs us Q I r h
  obtain ⟨a, ys, rfl, ha, q⟩ := h
  obtain ⟨u, w1, rfl, rx, rr⟩ := valsC r
  obtain ⟨c, w2, rfl, rc, rr2⟩ := valsC rr
  cases rr2
  cases (show c = Value.type "list" from rc)
  exact isinst_ok (b := true) I rx (.lst ha) (by rfl) fun tk => ⟨.bl true, H, I.tok _, rfl, q⟩
structure Nms (mg : Str → Option Value) : Prop where
  len : mg "len" = none
  all : mg "all" = none
  isi : mg "isinstance" = none
  str : mg "str" = none
  list : mg "list" = none
  srt : mg "sorted" = none
  ml : ∃ tk, mg "MOST_LETTERS" = some (.int 4 tk)
  lt : ∃ tk, mg "LETTERS" = some (.str LET tk)
noncomputable abbrev Grow (H H' : Hp) : Prop := ∀ b o, H b = some o → H' b = some o
noncomputable def spName : Sp := fun vs H Q _ => vs = [.str "a"] ∧ ∀ H', Grow H H' → Q (.bl true) H'
section
variable {P : Program} {w : World} {K : PySem.W.Frag} {mg : Str → Option Value} {base : Heap}
theorem scN : FnScope ["thing"] ["thing"] (defScope sIsName) := ⟨rfl, rfl, rfl, by decide +kernel, rfl, by decide +kernel, by decide +kernel⟩
theorem ok_is_name {f : Addr} {fd : FuncData} (F : Fun K "is_name" "is_name" sIsName f fd) (N : Nms mg) : FnOk P w K mg base CX0 1 f fd ["thing"] spName := by
  refine F.ok scN (fun vs H Q E h => ?_) (fun cdv A outer s H vs Q E hr h => ?_)
  · obtain ⟨rfl, _⟩ := h
    rfl
  · obtain ⟨rfl, k⟩ := h
    have hu := hu_of hr
    obtain ⟨tk, ml⟩ := N.ml
    obtain ⟨tk2, lt⟩ := N.lt
    refine ⟨_, pss_cons (ps_if (PW.pt (pw_or (pt_not (pt_val (pe_callB call_isiS rfl N.isi (by decide +kernel) (pa_cons (pv 0) (pa_cons (pe_tyN (T := "str") rfl N.str (by decide +kernel)) pa_nil)))))
        (pw_or1 (pt_not (pt_chain op_le op_le pe_int (pe_callB call_len_str rfl N.len PySem.boot_len (pa_cons (pv 0) pa_nil)) (pe_glob (v := .int 4) rfl ml ⟨tk, rfl⟩)))))) (pss_one (ps_ret pe_bl)) pss_nil)
      (pss_one (ps_ret (pe_callB (call_allL rfl) rfl N.all (by decide +kernel) (pa_cons (pe_comp (g := fun _ => gName 1) (tc := fun _ => fun _ H Q => Q true H) (te := fun _ => tOp (fun x y H Q => ∃ i j, x = .str i ∧ y = .str j ∧ Q (.bl (!(Builtin.Str.occurrences j i 0 j.length 1).isEmpty)) H) (tVar 1) (tC (.str LET))) rfl rfl (by decide +kernel) ?cap (pi_str (pv 0)) ?inn ?fold) pa_nil)))), ?_⟩
    case cap => intro x hx; simp at hx
    case fold => intro x; rfl
    case inn =>
      intro Xc hX
      have hsc : ∀ y, Xc.env.scope.names.lookup y = ([(Str.ofString ".0", NameKind.local), (Str.ofString "letter", NameKind.local), (Str.ofString "LETTERS", NameKind.globalImplicit)] : List (Str × NameKind)).lookup y := fun y => by rw [hX.sc]; rfl
      refine ⟨pg_name (i := 1) (by rw [hX.N]; decide +kernel) (by rw [hX.N]; rfl) (.inl ((hsc _).trans rfl)) (.inr ((hsc _).trans rfl)), pifs_nil, ?_⟩
      exact pe_cmpR op_in_str (pe_var (i := 1) (by rw [hX.N]; rfl) (.inl ((hsc _).trans rfl))) (pe_glob (v := .str LET) ((hsc _).trans rfl) (by rw [hX.mg]; exact lt) ⟨tk2, rfl⟩) rfl
    have occ : (!(Builtin.Str.occurrences LET "a" 0 LET.length 1).isEmpty) = true := by decide +kernel
    refine ⟨_, rfl, "a", rfl, true, rfl, iteF ?_⟩
    refine ⟨_, rfl, "a", rfl, by decide +kernel, 1, _, rfl, rfl, true, ?_, iteT ⟨_, 4, rfl, rfl, ?_⟩⟩
    · exact congrArg V.bl (by decide +kernel)
    refine ⟨true, congrArg V.bl (by decide +kernel), iteF ?_⟩
    refine ⟨_, rfl, "a", rfl, by decide +kernel, fun acc hacc Xc hX => ?_⟩
    refine ⟨fun i m σc H' => Grow H H' ∧ σc.length = 3 ∧ ((i = 0 ∧ m = 1 ∧ H' acc = some (.lst [])) ∨ (i = 1 ∧ m = 0 ∧ H' acc = some (.lst [.bl true]))), ⟨1, fun b o e => by rw [upd_ne (ne_of_none e hacc)]; exact e, rfl, .inl ⟨rfl, rfl, upd_same⟩⟩, fun i m σc H' hW => ?_⟩
    rcases hW with ⟨g, hl, ⟨rfl, rfl, ha⟩ | ⟨rfl, rfl, ha⟩⟩
    · refine .inr ⟨(by decide +kernel : (0 : Nat) < (Str.ofString "a").cps.size), fun σ' H'' => Grow H H'' ∧ σ'.length = 3 ∧ H'' acc = some (.lst [.bl true]), fun σ' H'' hN => ⟨0, by decide, hN.1, hN.2.1, .inr ⟨rfl, rfl, hN.2.2⟩⟩, fun x H'' hy => ?_⟩
      obtain ⟨rfl, c, hc, rfl⟩ := hy
      have hc' : (⟨#[c]⟩ : Str) = "a" := by
        have e : (Str.ofString "a").cps[0]? = some 97 := by decide +kernel
        rw [e] at hc; cases hc
        decide +kernel
      rw [hc']
      refine ⟨.str "a", ?_, "a", LET, rfl, rfl, ?_⟩
      · match σc, hl with
        | [_, _, _], _ => rfl
      · rw [occ]
        refine ⟨[], ha, by decide, fun b o e => ?_, by rw [List.length_set]; exact hl, upd_same⟩
        by_cases hb : b = acc
        · subst hb; rw [hacc] at e; cases e
        · rw [upd_ne hb]; exact g b o e
    · exact .inl ⟨(by decide +kernel : (Str.ofString "a").cps.size ≤ 1), acc, [true], rfl, SqL.of ha, k _ g⟩
theorem scNN : FnScope ["thing"] ["thing"] (defScope sNeedName) := ⟨rfl, rfl, rfl, by decide +kernel, rfl, by decide +kernel, by decide +kernel⟩
noncomputable def spNeed : Sp := fun vs H Q _ => vs = [.str "a"] ∧ ∀ H', Grow H H' → Q .non H'
theorem ok_need_name {f g : Addr} {fd gd : FuncData} (F : Fun K "need_name" "need_name" sNeedName f fd) (G : Fun K "is_name" "is_name" sIsName g gd) (mgG : mg "is_name" = some (.ref g)) (bG : Binds K gd ["thing"] []) (N : Nms mg) : FnOk P w K mg base CX0 2 f fd ["thing"] spNeed := by
  have GI : FnOk P w K mg base CX0 1 g gd ["thing"] spName := ok_is_name G N
  refine F.ok scNN (fun vs H Q E h => ?_) (fun cdv A outer s H vs Q E hr h => ?_)
  · obtain ⟨rfl, _⟩ := h
    rfl
  · obtain ⟨rfl, k⟩ := h
    refine ⟨_, pss_one (ps_if (pt_not (pt_val (pe_call GI hr rfl mgG G.kp bG .nil pass0 (pa_cons (pv 0) pa_nil)))) (t := fun _ _ _ => False) ?bad pss_nil), ?_⟩
    case bad => exact fun _ _ _ _ _ _ h => h.elim
    exact ⟨_, rfl, rfl, fun H' g => ⟨true, rfl, iteF (k H' g)⟩⟩
end
end M91

set_option Elab.async false
set_option linter.all false
set_option maxRecDepth 100000
/-! the class Case: what a law with one table asks of it -/
namespace M91
open PySem PySem.Spec PyProof.Rows L2
noncomputable abbrev sCase : Stmt := top 27
noncomputable abbrev sInit : Stmt := inClass sCase 0
noncomputable abbrev sSetTo : Stmt := inClass sCase 1
noncomputable abbrev sDo : Stmt := inClass sCase 2
noncomputable abbrev sPut : Stmt := inClass sCase 3
noncomputable abbrev sTableOf : Stmt := inClass sCase 4
noncomputable abbrev sNames : Stmt := inClass sCase 9
noncomputable abbrev sCounts : Stmt := inClass sCase 13
theorem n1 : ¬ (("tables" : Str) = "done") := by decide +kernel
theorem n2 : ¬ (("tables" : Str) = "undone") := by decide +kernel
theorem n3 : ¬ (("done" : Str) = "undone") := by decide +kernel
noncomputable abbrev fl1 (d : Addr) : List (Str × V) := [("tables", .ref d)]
noncomputable abbrev fl2 (d dn : Addr) : List (Str × V) := [("tables", .ref d), ("done", .ref dn)]
noncomputable abbrev flds (d dn un : Addr) : List (Str × V) := [("tables", .ref d), ("done", .ref dn), ("undone", .ref un)]
theorem put1 (d dn : Addr) : putF "done" (.ref dn) (fl1 d) = fl2 d dn := by
  show (if ("tables" : Str) = "done" then _ else _) = _
  rw [if_neg n1]; rfl
theorem put2 (d dn un : Addr) : putF "undone" (.ref un) (fl2 d dn) = flds d dn un := by
  show (if ("tables" : Str) = "undone" then _ else (("tables" : Str), V.ref d) :: (if ("done" : Str) = "undone" then _ else _)) = _
  rw [if_neg n2, if_neg n3]; rfl
theorem put3 (d dn un un' : Addr) : putF "undone" (.ref un') (flds d dn un) = flds d dn un' := by
  show (if ("tables" : Str) = "undone" then _ else (("tables" : Str), V.ref d) :: (if ("done" : Str) = "undone" then _ else (("done" : Str), V.ref dn) :: (if ("undone" : Str) = "undone" then _ else _))) = _
  rw [if_neg n2, if_neg n3, if_pos rfl]
theorem look1 (d dn un : Addr) : (flds d dn un).lookup ("tables" : Str) = some (.ref d) := by rfl
theorem look2 (d dn un : Addr) : (flds d dn un).lookup ("done" : Str) = some (.ref dn) := by rfl
theorem look3 (d dn un : Addr) : (flds d dn un).lookup ("undone" : Str) = some (.ref un) := by rfl
structure CaseAt (C : Addr) (H : Hp) (p d dn un : Addr) (kvs : List (Key × V)) (ds us : List V) : Prop where
  ob : ∃ dx, H p = some (.ins C dx (flds d dn un))
  dc : H d = some (.dK kvs)
  dl : H dn = some (.lst ds)
  ul : H un = some (.lst us)
  ne : dn ≠ un
structure CTxt (K : PySem.W.Frag) (mg : Str → Option Value) (C : Addr) : Prop where
  cl : Cls K C
  nT : NoAttr K C "tables"
  nD : NoAttr K C "done"
  nU : NoAttr K C "undone"
  mgC : mg "Case" = some (.ref C)
section
variable {P : Program} {w : World} {K : PySem.W.Frag} {mg : Str → Option Value} {base : Heap}
noncomputable def spInit (C : Addr) : Sp := fun vs H Q _ => ∃ (p dx : Addr), vs = [.ref p] ∧ H p = some (.ins C dx []) ∧ ∀ (d dn un : Addr) (H' : Hp), H d = none → H dn = none → CaseAt C H' p d dn un [] [] [] → (∀ b o, H b = some o → b ≠ p → H' b = some o) → Q .non H'
theorem scI : FnScope ["self"] ["self"] (defScope sInit) := ⟨rfl, rfl, rfl, by decide +kernel, rfl, by decide +kernel, by decide +kernel⟩
theorem ok_init {f C : Addr} {fd : FuncData} (F : Fun K "__init__" "Case.__init__" sInit f fd) (T : CTxt K mg C) : FnOk P w K mg base CX0 1 f fd ["self"] (spInit C) := by
  refine F.ok scI (fun vs H Q E h => ?_) (fun cdv A outer s H vs Q E hr h => ?_)
  · obtain ⟨p, dx, rfl, _⟩ := h
    rfl
  · obtain ⟨p, dx, rfl, hp, k⟩ := h
    refine ⟨_, pss_cons (ps_fld (pv 0) pe_dnewK rfl) (pss_cons (ps_fld (pv 0) (pe_lst pa_nil) rfl) (pss_one (ps_fld (pv 0) (pe_lst pa_nil) rfl))), ?_⟩
    intro d hd
    have npd : p ≠ d := ne_of_none hp hd
    refine ⟨_, rfl, p, C, dx, [], rfl, (by rw [upd_ne npd]; exact hp), T.cl, T.nT, (by show 0 < 1000; decide), ⟨by decide, fun dn hdn => ?_⟩⟩
    have npn : p ≠ dn := fun z => by subst z; rw [upd_same] at hdn; cases hdn
    have nnd : dn ≠ d := fun z => by subst z; rw [upd_ne npn.symm, upd_same] at hdn; cases hdn
    refine ⟨_, rfl, p, C, dx, fl1 d, rfl, (by rw [upd_ne npn, upd_same]; rfl), T.cl, T.nD, (by show 1 < 1000; decide), ⟨by decide, fun un hun => ?_⟩⟩
    rw [put1] at hun ⊢
    have npu : p ≠ un := fun z => by subst z; rw [upd_same] at hun; cases hun
    have nun : un ≠ dn := fun z => by subst z; rw [upd_ne npu.symm, upd_same] at hun; cases hun
    have nud : un ≠ d := fun z => by subst z; rw [upd_ne npu.symm, upd_ne nun, upd_ne npu.symm, upd_same] at hun; cases hun
    refine ⟨_, rfl, p, C, dx, fl2 d dn, rfl, (by rw [upd_ne npu, upd_same]), T.cl, T.nU, (by show 2 < 1000; decide), ?_⟩
    rw [put2]
    have hdn0 : H dn = none := by rw [upd_ne npn.symm, upd_ne nnd] at hdn; exact hdn
    refine k d dn un _ hd hdn0 ⟨⟨dx, upd_same⟩, ?_, ?_, ?_, nun.symm⟩ fun b o e hb => ?_
    · rw [upd_ne npd.symm, upd_ne nud.symm, upd_ne npd.symm, upd_ne nnd.symm, upd_ne npd.symm, upd_same]
    · rw [upd_ne npn.symm, upd_ne nun.symm, upd_ne npn.symm, upd_same]
    · rw [upd_ne npu.symm, upd_same]
    · have h1 : b ≠ d := ne_of_none e hd
      have e1 : (upd (upd H d (.dK [])) p (.ins C dx (fl1 d))) b = some o := by rw [upd_ne hb, upd_ne h1]; exact e
      have h2 : b ≠ dn := ne_of_none e1 hdn
      have e2 : (upd (upd (upd (upd H d (.dK [])) p (.ins C dx (fl1 d))) dn (.lst [])) p (.ins C dx (fl2 d dn))) b = some o := by rw [upd_ne hb, upd_ne h2]; exact e1
      have h3 : b ≠ un := ne_of_none e2 hun
      rw [upd_ne hb, upd_ne h3]; exact e2
noncomputable def spSet (C : Addr) : Sp := fun vs H Q _ => ∃ (p d dn un t : Addr) (ds us : List V), vs = [.ref p, .str "a", .ref t] ∧ CaseAt C H p d dn un [] ds us ∧ Q .non (upd H d (.dK [(Sum.inr "a", .ref t)]))
theorem scS : FnScope ["self", "name", "table"] ["self", "name", "table"] (defScope sSetTo) := ⟨rfl, rfl, rfl, by decide +kernel, rfl, by decide +kernel, by decide +kernel⟩
theorem ok_set {f C : Addr} {fd : FuncData} (F : Fun K "set_to" "Case.set_to" sSetTo f fd) (T : CTxt K mg C) : FnOk P w K mg base CX0 1 f fd ["self", "name", "table"] (spSet C) := by
  refine F.ok scS (fun vs H Q E h => ?_) (fun cdv A outer s H vs Q E hr h => ?_)
  · obtain ⟨p, d, dn, un, t, ds, us, rfl, _⟩ := h
    rfl
  · obtain ⟨p, d, dn, un, t, ds, us, rfl, S, k⟩ := h
    have hu := hu_of hr
    obtain ⟨dx, h1⟩ := S.ob
    refine ⟨_, pss_one (ps_if (pt_cmp (pc_isN (pv 2))) (t := fun _ _ _ => False) ?bad (pss_one (ps_dput hu (pe_fld (pv 0) rfl) (pv 1) (pv 2) rfl))), ?_⟩
    case bad => exact fun _ _ _ _ _ _ h => h.elim
    refine ⟨_, rfl, false, rfl, iteF ?_⟩
    exact ⟨_, rfl, _, rfl, p, C, dx, _, _, rfl, h1, T.cl, T.nT, look1 _ _ _, _, rfl, d, _, rfl, DPut.k (k := Sum.inr "a") S.dc (by decide), k⟩
noncomputable def spDo (C : Addr) : Sp := fun vs H Q _ => ∃ (p d dn un t : Addr) (wd : Str), vs = [.ref p, .str wd, .str "a", .ref t] ∧ CaseAt C H p d dn un [] [] [] ∧
  ∀ (un' x : Addr) (H' : Hp), CaseAt C H' p d dn un' [(Sum.inr "a", .ref t)] [.ref x] [] → (∀ b o, H b = some o → b ≠ p → b ≠ d → b ≠ dn → H' b = some o) → Q .non H'
theorem scD : FnScope ["self", "word", "name", "table"] ["self", "word", "name", "table"] (defScope sDo) := ⟨rfl, rfl, rfl, by decide +kernel, rfl, by decide +kernel, by decide +kernel⟩
theorem ok_do {f g C : Addr} {fd gd : FuncData} (F : Fun K "do" "Case.do" sDo f fd) (T : CTxt K mg C) (G : Fun K "set_to" "Case.set_to" sSetTo g gd) (bG : Binds K gd ["self", "name", "table"] []) (mG : Meth K C "set_to" g) : FnOk P w K mg base CX0 2 f fd ["self", "word", "name", "table"] (spDo C) := by
  have GS : FnOk P w K mg base CX0 1 g gd ["self", "name", "table"] (spSet C) := ok_set G T
  refine F.ok scD (fun vs H Q E h => ?_) (fun cdv A outer s H vs Q E hr h => ?_)
  · obtain ⟨p, d, dn, un, t, wd, rfl, _⟩ := h
    rfl
  · obtain ⟨p, d, dn, un, t, wd, rfl, S, k⟩ := h
    have hu := hu_of hr
    obtain ⟨dx, h1⟩ := S.ob
    have npd : p ≠ d := ne_of h1 S.dc (by intro z; cases z)
    have npn : p ≠ dn := ne_of h1 S.dl (by intro z; cases z)
    have ndn : d ≠ dn := ne_of S.dc S.dl (by intro z; cases z)
    refine ⟨_, pss_cons (ps_expr (pe_bm PySem.F.plainAttrs_list PySem.F.slot_list_append PySem.F.type_list_append mt_append (pe_fld (pv 0) rfl) (pa_cons (pe_tup (pa_cons (pv 1) (pa_cons (pv 2) (pa_cons (pe_dget1 hu (pe_fld (pv 0) rfl) (pv 2) ?m1) (pa_cons (pv 3) pa_nil))))) pa_nil)))
      (pss_cons (ps_fld (pv 0) (pe_lst pa_nil) rfl)
      (pss_one (ps_expr (pe_meth (pv 0) T.cl mG GS hr bG .nil pass0 (pa_cons (pv 2) (pa_cons (pv 3) pa_nil)))))), ?_⟩
    case m1 => exact ⟨rfl, rfl, rfl, rfl⟩
    refine ⟨_, rfl, p, C, dx, _, _, rfl, h1, T.cl, T.nD, look2 _ _ _, .inl ⟨rfl, _, SqL.of S.dl⟩, _, rfl, _, rfl, _, rfl, p, C, dx, _, _, rfl, h1, T.cl, T.nT, look1 _ _ _, d, rfl, .inl ⟨_, .inl S.dc⟩, _, rfl, none, DGet.k (k := Sum.inr "a") S.dc, _, rfl, (by show 4 ≤ sizeLine; decide), fun x hx => ?_⟩
    have nxn : x ≠ dn := (ne_of_none S.dl hx).symm
    have nxp : x ≠ p := (ne_of_none h1 hx).symm
    have nxd : x ≠ d := (ne_of_none S.dc hx).symm
    refine ⟨dn, _, _, rfl, rfl, (by rw [upd_ne nxn.symm]; exact S.dl), (by show 0 < sizeLine; decide), ?_⟩
    refine ⟨by decide, fun un' hun => ?_⟩
    generalize hH1 : upd (upd H x _) dn _ = H1 at hun ⊢
    have g1 : ∀ b o, H b = some o → b ≠ dn → H1 b = some o := fun b o e hb => by rw [← hH1, upd_ne hb, upd_ne (ne_of_none e hx)]; exact e
    have e1 : H1 dn = some (.lst [.ref x]) := by rw [← hH1]; exact upd_same
    have p1 := g1 p _ h1 npn
    have d1 := g1 d _ S.dc ndn
    have npu : p ≠ un' := ne_of_none p1 hun
    have ndu : d ≠ un' := ne_of_none d1 hun
    have nnu : dn ≠ un' := ne_of_none e1 hun
    refine ⟨_, rfl, p, C, dx, _, rfl, (by rw [upd_ne npu]; exact p1), T.cl, T.nU, (by show 3 < 1000; decide), ?_⟩
    rw [put3]
    refine ⟨_, rfl, p, dx, _, rfl, upd_same, rfl, _, rfl, _, rfl, p, d, dn, un', t, [.ref x], [], rfl, ⟨⟨dx, upd_same⟩, ?_, ?_, ?_, nnu⟩, ?_⟩
    · rw [upd_ne npd.symm, upd_ne ndu]; exact d1
    · rw [upd_ne npn.symm, upd_ne nnu]; exact e1
    · rw [upd_ne npu.symm, upd_same]
    · refine k un' x _ ⟨⟨dx, by rw [upd_ne npd, upd_same]⟩, upd_same, ?_, ?_, nnu⟩ fun b o e hbp hbd hbn => ?_
      · rw [upd_ne ndn.symm, upd_ne npn.symm, upd_ne nnu]; exact e1
      · rw [upd_ne ndu.symm, upd_ne npu.symm, upd_same]
      · have e2 := g1 b o e hbn
        rw [upd_ne hbd, upd_ne hbp, upd_ne (ne_of_none e2 hun)]; exact e2
noncomputable abbrev One (C : Addr) (H : Hp) (p d dn un t x : Addr) : Prop := CaseAt C H p d dn un [(Sum.inr "a", .ref t)] [.ref x] []
noncomputable def spPut (C : Addr) (K : PySem.W.Frag) (call : Str → List DE.D → Option DE.D) : Sp := fun vs H Q _ => ∃ (p d dn un t : Addr) (Hs : Hp) (dt : DE.D), vs = [.ref p, .str "a", .ref t] ∧ CaseAt C H p d dn un [] [] [] ∧ Same Hs H ∧ Rep K Hs dt (.ref t) ∧ call "is_table" [dt] = some (.bl true) ∧
  ∀ (un' x : Addr) (H' : Hp), One C H' p d dn un' t x → (∀ b o, H b = some o → b ≠ p → b ≠ d → b ≠ dn → H' b = some o) → Q (.bl false) H'
theorem scP : FnScope ["self", "name", "table", "had"] ["self", "name", "table"] (defScope sPut) := ⟨rfl, rfl, rfl, by decide +kernel, rfl, by decide +kernel, by decide +kernel⟩
theorem CaseAt.grow {C : Addr} {H H' : Hp} {p d dn un : Addr} {kvs : List (Key × V)} {ds us : List V} (S : CaseAt C H p d dn un kvs ds us) (g : Grow H H') : CaseAt C H' p d dn un kvs ds us :=
  ⟨let ⟨dx, e⟩ := S.ob; ⟨dx, g _ _ e⟩, g _ _ S.dc, g _ _ S.dl, g _ _ S.ul, S.ne⟩
theorem ok_put {f C ft fn fi fo fs : Addr} {fd fdt fdn fdi fdo fds : FuncData} {kt : Nat} {call : Str → List DE.D → Option DE.D} (F : Fun K "put" "Case.put" sPut f fd) (T : CTxt K mg C)
    (GT : FnOk P w K mg base CX0 kt ft fdt ["thing"] (spD K call "is_table" ["thing"])) (mgT : mg "is_table" = some (.ref ft)) (kT : PySem.W.keepIn K (.ref ft) = true) (bT : Binds K fdt ["thing"] []) (hkt : 2 ≤ kt)
    (FN : Fun K "need_name" "need_name" sNeedName fn fdn) (mgN : mg "need_name" = some (.ref fn)) (bN : Binds K fdn ["thing"] []) (FI : Fun K "is_name" "is_name" sIsName fi fdi) (mgI : mg "is_name" = some (.ref fi)) (bI : Binds K fdi ["thing"] []) (N : Nms mg)
    (FO : Fun K "do" "Case.do" sDo fo fdo) (bO : Binds K fdo ["self", "word", "name", "table"] []) (mO : Meth K C "do" fo) (FS : Fun K "set_to" "Case.set_to" sSetTo fs fds) (bS : Binds K fds ["self", "name", "table"] []) (mS : Meth K C "set_to" fs) :
    FnOk P w K mg base CX0 (kt + 1) f fd ["self", "name", "table"] (spPut C K call) := by
  have GN : FnOk P w K mg base CX0 2 fn fdn ["thing"] spNeed := ok_need_name FN FI mgI bI N
  have GO : FnOk P w K mg base CX0 2 fo fdo ["self", "word", "name", "table"] (spDo C) := ok_do FO T FS bS mS
  refine F.ok scP (fun vs H Q E h => ?_) (fun cdv A outer s H vs Q E hr h => ?_)
  · obtain ⟨p, d, dn, un, t, Hs, dt, rfl, _⟩ := h
    rfl
  · obtain ⟨p, d, dn, un, t, Hs, dt, rfl, S, hs, rt, ht, k⟩ := h
    have hu := hu_of hr
    have hr2 : Room 2 _ := hr.mono hkt
    refine ⟨_, pss_cons (ps_if (pt_not (pt_val (pe_call GT hr rfl mgT kT bT .nil pass0 (pa_cons (pv 2) pa_nil)))) (t := fun _ _ _ => False) ?bad pss_nil)
      (pss_cons (ps_expr (pe_call GN hr2 rfl mgN FN.kp bN .nil pass0 (pa_cons (pv 1) pa_nil)))
      (pss_cons (ps_set (i := 3) scP.nd rfl (Or.inl rfl) (pe_cmp (pc_din hu (pv 1) (pe_fld (pv 0) rfl))))
      (pss_cons (ps_expr (pe_meth (pv 0) T.cl mO GO hr2 bO .nil pass0 (pa_cons pe_str (pa_cons (pv 1) (pa_cons (pv 2) pa_nil)))))
      (pss_one (ps_ret (pv 3)))))), ?_⟩
    case bad => exact fun _ _ _ _ _ _ h => h.elim
    refine ⟨_, rfl, rfl, Hs, [dt], .bl true, hs, ⟨_, _, rfl, rt, rfl⟩, ht, fun v H1 Hs1 E1 r1 => ?_⟩
    cases (show v = .bl true from r1)
    refine ⟨true, rfl, iteF ?_⟩
    refine ⟨_, rfl, rfl, fun H2 g2 => ?_⟩
    have g : Grow H H2 := fun b o e => g2 b o (E1.all b o e)
    have S2 := S.grow g
    obtain ⟨dx, h1⟩ := S2.ob
    refine ⟨_, rfl, _, rfl, p, C, dx, _, _, rfl, h1, T.cl, T.nT, look1 _ _ _, d, none, rfl, DGet.k (k := Sum.inr "a") S2.dc, ?_⟩
    refine ⟨_, rfl, p, dx, _, rfl, h1, rfl, _, rfl, _, rfl, p, d, dn, un, t, "put", rfl, S2, fun un' x H' S' g' => ?_⟩
    exact ⟨_, rfl, k un' x H' S' fun b o e h1 h2 h3 => g' b o (g b o e) h1 h2 h3⟩
noncomputable def spTab (C : Addr) : Sp := fun vs H Q _ => ∃ (p d dn un t x : Addr), vs = [.ref p, .str "a"] ∧ One C H p d dn un t x ∧ ∀ H', Grow H H' → Q (.ref t) H'
theorem scT : FnScope ["self", "name"] ["self", "name"] (defScope sTableOf) := ⟨rfl, rfl, rfl, by decide +kernel, rfl, by decide +kernel, by decide +kernel⟩
theorem ok_tab {f C fn fi : Addr} {fd fdn fdi : FuncData} (F : Fun K "table_of" "Case.table_of" sTableOf f fd) (T : CTxt K mg C)
    (FN : Fun K "need_name" "need_name" sNeedName fn fdn) (mgN : mg "need_name" = some (.ref fn)) (bN : Binds K fdn ["thing"] []) (FI : Fun K "is_name" "is_name" sIsName fi fdi) (mgI : mg "is_name" = some (.ref fi)) (bI : Binds K fdi ["thing"] []) (N : Nms mg) :
    FnOk P w K mg base CX0 3 f fd ["self", "name"] (spTab C) := by
  have GN : FnOk P w K mg base CX0 2 fn fdn ["thing"] spNeed := ok_need_name FN FI mgI bI N
  refine F.ok scT (fun vs H Q E h => ?_) (fun cdv A outer s H vs Q E hr h => ?_)
  · obtain ⟨p, d, dn, un, t, x, rfl, _⟩ := h
    rfl
  · obtain ⟨p, d, dn, un, t, x, rfl, S, k⟩ := h
    have hu := hu_of hr
    refine ⟨_, pss_cons (ps_expr (pe_call GN hr rfl mgN FN.kp bN .nil pass0 (pa_cons (pv 1) pa_nil)))
      (pss_cons (ps_if (pt_cmp (pc_dnotin hu (pv 1) (pe_fld (pv 0) rfl))) (t := fun _ _ _ => False) ?bad pss_nil)
      (pss_one (ps_ret (pe_dget hu (pe_fld (pv 0) rfl) (pv 1) (fun _ _ => rfl))))), ?_⟩
    case bad => exact fun _ _ _ _ _ _ h => h.elim
    refine ⟨_, rfl, rfl, fun H2 g2 => ?_⟩
    have S2 := S.grow g2
    obtain ⟨dx, h1⟩ := S2.ob
    have hv : valV ([(Sum.inr "a", .ref t)] : List (Key × V)) (Sum.inr "a") = some (.ref t) := by rfl
    refine ⟨_, rfl, _, rfl, p, C, dx, _, _, rfl, h1, T.cl, T.nT, look1 _ _ _, d, some (.ref t), rfl, hv ▸ DGet.k (k := Sum.inr "a") S2.dc, false, rfl, iteF ?_⟩
    exact ⟨_, rfl, p, C, dx, _, _, rfl, h1, T.cl, T.nT, look1 _ _ _, _, rfl, d, .ref t, rfl, hv ▸ DGet.k (k := Sum.inr "a") S2.dc, k H2 g2⟩
noncomputable def spNames (C : Addr) : Sp := fun vs H Q _ => ∃ (p d dn un t x : Addr), vs = [.ref p] ∧ One C H p d dn un t x ∧ ∀ a, H a = none → Q (.ref a) (upd H a (.lst [.str "a"]))
theorem scNa : FnScope ["self"] ["self"] (defScope sNames) := ⟨rfl, rfl, rfl, by decide +kernel, rfl, by decide +kernel, by decide +kernel⟩
theorem ok_names {f C : Addr} {fd : FuncData} (F : Fun K "names" "Case.names" sNames f fd) (T : CTxt K mg C) (N : Nms mg) : FnOk P w K mg base CX0 1 f fd ["self"] (spNames C) := by
  refine F.ok scNa (fun vs H Q E h => ?_) (fun cdv A outer s H vs Q E hr h => ?_)
  · obtain ⟨p, d, dn, un, t, x, rfl, _⟩ := h
    rfl
  · obtain ⟨p, d, dn, un, t, x, rfl, S, k⟩ := h
    obtain ⟨dx, h1⟩ := S.ob
    refine ⟨_, pss_one (ps_ret (pe_callB (call_sorted1 rfl) rfl N.srt (by decide +kernel) (pa_cons (pe_fld (pv 0) rfl) pa_nil))), ?_⟩
    exact ⟨_, rfl, p, C, dx, _, _, rfl, h1, T.cl, T.nT, look1 _ _ _, d, "a", .ref t, rfl, S.dc, k⟩
noncomputable def spCounts (C : Addr) : Sp := fun vs H Q _ => ∃ (p d dn un t x : Addr), vs = [.ref p] ∧ One C H p d dn un t x ∧ ∀ a, H a = none → Q (.ref a) (upd H a (.tup [.int 1, .int 0]))
theorem scC : FnScope ["self"] ["self"] (defScope sCounts) := ⟨rfl, rfl, rfl, by decide +kernel, rfl, by decide +kernel, by decide +kernel⟩
theorem ok_counts {f C : Addr} {fd : FuncData} (F : Fun K "counts" "Case.counts" sCounts f fd) (T : CTxt K mg C) (N : Nms mg) : FnOk P w K mg base CX0 1 f fd ["self"] (spCounts C) := by
  refine F.ok scC (fun vs H Q E h => ?_) (fun cdv A outer s H vs Q E hr h => ?_)
  · obtain ⟨p, d, dn, un, t, x, rfl, _⟩ := h
    rfl
  · obtain ⟨p, d, dn, un, t, x, rfl, S, k⟩ := h
    obtain ⟨dx, h1⟩ := S.ob
    refine ⟨_, pss_one (ps_ret (pe_tup (pa_cons (pe_callB call_len_seq rfl N.len PySem.boot_len (pa_cons (pe_fld (pv 0) rfl) pa_nil)) (pa_cons (pe_callB call_len_seq rfl N.len PySem.boot_len (pa_cons (pe_fld (pv 0) rfl) pa_nil)) pa_nil)))), ?_⟩
    exact ⟨_, rfl, p, C, dx, _, _, rfl, h1, T.cl, T.nD, look2 _ _ _, dn, _, rfl, .inl (SqL.of S.dl), _, rfl, p, C, dx, _, _, rfl, h1, T.cl, T.nU, look3 _ _ _, un, _, rfl, .inl (SqL.of S.ul), (by show 2 ≤ sizeLine; decide), k⟩
end
end M91

set_option Elab.async false
set_option linter.all false
set_option maxRecDepth 100000
/-! a deed that tells a new list each time; _law_stays -/
namespace M91
open PySem PySem.Spec PyProof.Rows L2
noncomputable abbrev sStays : Stmt := top 32
theorem pe_callV {X : Cx} {i k : Nat} {x : Str} {f : Addr} {fd : FuncData} {sp : Sp} {p pos : Pos} {o : Obj} {E : XK} (F : FnOk X.prog X.w X.K X.mg X.base CX0 k f fd [] sp) (hr : Room k X.A) (hN : X.N[i]? = some x) (hv : Vis X.env.scope x) (ho : X.base.get? f = some o) (hd : o.data = .func fd) (hb : Binds X.K fd [] []) (hx : Passes CX0 X E)
    (hdb : (x == ("__debug__" : Str)) = false := by decide) (hcd : (x == ("__classdict__" : Str)) = false := by decide) : PE X (.Call (.Name x p) [] [] pos) (fun σ H Q => σ[i]? = some (some (.ref f)) ∧ sp [] H Q E) := by
  intro pins s σ H Q I h
  refine wpAny_Call_Name_kw ?_
  refine thn (pe_var (X := X) hN hv hdb hcd pins s σ H (fun v H' => v = .ref f ∧ H' = H) I ⟨.ref f, h.1, rfl, rfl⟩) fun u s1 ⟨v, H1, I1, r1, e1, e2⟩ => ?_
  subst e1 e2
  cases (show u = Value.ref f from r1)
  refine PySem.W.callWith_F0 ?_ (run_fn (us := []) (vs := []) (dvs := []) (ds := []) F hr hb .nil hx I1 .nil h.2)
  obtain ⟨oc, od, dt, sl⟩ := o
  cases (show dt = .func fd from hd)
  exact ⟨oc, od, fd, sl, I1.bk _ _ ho⟩
noncomputable def spDeed (K : PySem.W.Frag) (Hs0 : Hp) (ds : List DE.D) : Sp := fun vs H Q _ => vs = [] ∧ Same Hs0 H ∧ ∀ (a : Addr) (vs' : List V) (H' Hs' : Hp), H a = none → Grow H H' → H' a = some (.lst vs') → Hs' a = none → Same Hs' H' → RepL K Hs' ds vs' → vs'.length ≤ 100000 → Q (.ref a) H'
noncomputable def spStays (Hs0 : Hp) (f : Addr) : Sp := fun vs H Q _ => vs = [.ref f] ∧ Same Hs0 H ∧ ∀ H', Grow H H' → Q (.bl true) H'
section
variable {P : Program} {w : World} {K : PySem.W.Frag} {mg : Str → Option Value} {base : Heap}
theorem scSt : FnScope ["_law_deed", "_law_told", "_law_kept"] ["_law_deed"] (defScope sStays) := ⟨rfl, rfl, rfl, by decide +kernel, rfl, by decide +kernel, by decide +kernel⟩
theorem ok_stays {g f : Addr} {gd fd : FuncData} {kd : Nat} {Hs0 : Hp} {ds : List DE.D} {o : Obj} (F : Fun K "_law_stays" "_law_stays" sStays g gd) (N : Nms mg)
    (GD : FnOk P w K mg base CX0 kd f fd [] (spDeed K Hs0 ds)) (ho : base.get? f = some o) (hd : o.data = .func fd) (hb : Binds K fd [] []) (hdp : DE.dep (.lst ds) ≤ 50) :
    FnOk P w K mg base CX0 (kd + 1) g gd ["_law_deed"] (spStays Hs0 f) := by
  refine F.ok scSt (fun vs H Q E h => ?_) (fun cdv A outer s H vs Q E hr h => ?_)
  · obtain ⟨rfl, _⟩ := h
    rfl
  · obtain ⟨rfl, hs, k⟩ := h
    have hu := hu_of hr
    refine ⟨_, pss_cons (ps_set (i := 1) scSt.nd rfl (Or.inl rfl) (pe_callV (i := 0) GD hr rfl (.inl rfl) ho hd hb pass0))
      (pss_cons (ps_if (pt_not (pt_val (pe_callB call_isiL rfl N.isi (by decide +kernel) (pa_cons (pv 1) (pa_cons (pe_tyN (T := "list") rfl N.list (by decide +kernel)) pa_nil))))) (pss_one (ps_ret pe_bl)) pss_nil)
      (pss_cons (ps_set (i := 2) scSt.nd rfl (Or.inl rfl) (pe_callTy call_list_of rfl N.list (by decide +kernel) (pa_cons (pv 1) pa_nil)))
      (pss_cons (ps_expr (pe_bm PySem.F.plainAttrs_list PySem.F.slot_list_append PySem.F.type_list_append mt_append (pv 1) (pa_cons pe_str pa_nil)))
      (pss_one (ps_ret (pe_cmpR (op_cmp hr .Eq) (pe_callV (i := 0) GD hr rfl (.inl rfl) ho hd hb pass0) (pv 2) rfl)))))), ?_⟩
    refine ⟨rfl, rfl, hs, fun a vs1 H1 Hs1 ha g1 e1 n1 s1 r1 l1 => ?_⟩
    refine ⟨_, rfl, a, vs1, rfl, e1, true, rfl, iteF ?_⟩
    refine ⟨_, rfl, a, vs1, rfl, .inl (SqL.of e1), fun b hb1 => ?_⟩
    have nab : a ≠ b := ne_of_none e1 hb1
    have hl : vs1.length < sizeLine := Nat.lt_of_le_of_lt l1 (by decide)
    refine ⟨_, rfl, .inl ⟨rfl, _, SqL.of (by rw [upd_ne nab]; exact e1)⟩, a, vs1, _, rfl, rfl, (by rw [upd_ne nab]; exact e1), hl, ?_⟩
    generalize hH2 : upd (upd H1 b _) a _ = H2
    have k2 : ∀ c o, H1 c = some o → c ≠ a → H2 c = some o := fun c o e hc => by rw [← hH2, upd_ne hc, upd_ne (ne_of_none e hb1)]; exact e
    have eb : H2 b = some (.lst vs1) := by rw [← hH2, upd_ne nab.symm, upd_same]
    have s2 : Same Hs0 H2 := fun c o e => k2 c o (g1 c o (hs c o e)) (ne_of_none (hs c o e) ha)
    have s12 : Same Hs1 H2 := fun c o e => k2 c o (s1 c o e) (fun z => by rw [z, n1] at e; cases e)
    refine ⟨rfl, rfl, s2, fun a2 vs2 H3 Hs3 ha2 g3 e3 n3 s3 r3 l3 => ?_⟩
    refine ⟨_, rfl, H3, .lst ds, .lst ds, .bl true, fun _ _ e => e, ⟨a2, vs2, rfl, SqL.of e3, RepL.same s3 ds vs2 r3⟩, ⟨b, vs1, rfl, SqL.of (g3 _ _ eb), RepL.same (fun c o e => g3 _ _ (s12 c o e)) ds vs1 r1⟩, ?_, true, rfl, k H3 fun c o e => g3 _ _ (k2 c o (g1 c o e) (ne_of_none e ha))⟩
    rw [DE.oEq hdp hdp, DE.dq_refl _ (by omega)]
end
end M91

set_option Elab.async false
set_option linter.all false
set_option maxRecDepth 100000
/-! _law_stays(lambda: ..) -/
namespace M91
open PySem PySem.Spec PyProof.Rows L2
structure Caps (X : Cx) (scope : Scope) (N : List Str) (clos : List (Str × Addr)) : Prop where
  kind : scope.kind = .function
  co : scope.isCoroutine = false
  gen : scope.isGenerator = false
  own : ∀ x ∈ scope.names, x.2 ≠ .cell
  nm : ∀ (i : Nat) x, N[i]? = some x → scope.names.lookup x = some .free ∧ ∃ c, X.env.cells.lookup x = some c ∧ clos.lookup x = some c
  knd : ∀ (i : Nat) x, N[i]? = some x → X.env.kindOf x = some .cell
  has : ∀ x, scope.names.lookup x = some .free → ∃ c, clos.lookup x = some c
  sub : ∀ x c, clos.lookup x = some c → X.env.cells.lookup x = some c
  fn : ∀ x, X.fn x = true
theorem cell_big {X : Cx} {pins : List (Addr × Obj)} {σ : L2.St} {H : Hp} {s : Shared} (I : Inv X pins σ H s) (hfn : ∀ x, X.fn x = true) {x : Str} {c : Addr} {v : Option Value} (hc : X.env.cells.lookup x = some c) (h : s.heap.IsCell c v) : (bigB s.heap H (frs X.stack)).IsCell c v := by
  obtain ⟨o, h1, h2⟩ := h
  refine ⟨o, big_get h1 (I.freeC x c hc) fun z => ?_, h2⟩
  rcases List.mem_cons.mp (I.stkSub c z) with e | e
  · exact I.cne x c hc e
  · obtain ⟨_, o', ho, _⟩ := I.ok.funs.mem e
    exact absurd (Nat.lt_of_lt_of_le (Heap.lt_size ho) (I.ok.cab x c (hfn x) hc)) (Nat.lt_irrefl _)
theorem pe_stays {X : Cx} {g c Pt : Addr} {gd : FuncData} {params : Arguments} {body : Expr} {scope : Scope} {lpos p pos : Pos} {clos : List (Str × Addr)} {N : List Str} {kk : Nat} {Cond : Hp → List V → Prop}
    (hgl : Gl X "_law_stays") (hm : X.mg "_law_stays" = some (.ref g)) (hk : PySem.W.keepIn X.K (.ref g) = true) (bG : L2.Binds X.K gd ["_law_deed"] []) (hr : Room kk X.A)
    (hdef : defaultsOf params X.env = ([], [])) (hcode : X.env.code = .ref c) (C : PySem.W.CodeHd X.base c Pt) (hcl : closureFor scope X.env = pure clos) (hb : X.base.BuiltinsAt X.mg Pt) (hge : X.env.globals = mainGlobals) (cp : Caps X scope N clos) (hx : Passes CX0 X E0)
    (hst : ∀ (base' : Heap) (f c' : Addr) (pm ctv : Value) (ws : List V) (Hs0 : Hp), Mod X.K X.mg base' → base'.get? f = some (PySem.W.kla_obj "<lambda>" (X.env.qual ++ "<lambda>") params body scope clos pm c' ctv) → base'.CodeRec (.ref c') (X.env.qual ++ "<lambda>") → LamNames base' scope N ws clos → Cond Hs0 ws →
      FnOk X.prog X.w X.K X.mg base' CX0 kk g gd ["_law_deed"] (spStays Hs0 f)) :
    PE X (.Call (.Name "_law_stays" p) [.Lambda params body scope lpos] [] pos) (fun σ H Q => ∃ (ps : Array Value) (ws : List V) (Hs0 : Hp), H Pt = some (TabO Pt ps) ∧ TriplesOk ps.toList ∧ codeAmong lpos ps.toList = none ∧ Hs0 Pt = none ∧ Same Hs0 H ∧ ws.length = N.length ∧
      (∀ (i : Nat) x v, N[i]? = some x → ws[i]? = some v → ∃ j : Nat, X.N[j]? = some x ∧ σ[j]? = some (some v)) ∧ Cond Hs0 ws ∧ ∀ c' H', Grow (upd H Pt (TabO Pt (ps ++ #[rawInt lpos.line, rawInt lpos.col, .ref c']))) H' → Q (.bl true) H') := by
  intro pins s σ H Q I h
  obtain ⟨ps, ws, Hs0, hP, ht, hn, hs0, hsame, hlen, hval, hcond, q⟩ := h
  refine wpAny_Call_Name_kw (ld_glob I hgl hm ?_)
  refine PySem.W.callWith_K (h₀ := X.base) I.ok.mod.kin hk ?_ rfl rfl
  show wpAny _ _ (spliced ((false, eval (.Lambda params body scope lpos) X.env) :: backTo pos (starEach [] X.env))) _ _ s
  refine Calls.spliced_cons (lam_eval I hdef hcode C hcl hb hge hP ht hn fun f c' ctv pm s' J e1 e2 e3 e4 e5 keep => ?_)
  refine Calls.spliced_nil ⟨J.kIn, ?_⟩
  have hPlt : Pt < s.heap.objs.size := I.hok.lt hP
  have fresh : ∀ b, s.heap.objs.size ≤ b → (upd H Pt (TabO Pt (ps ++ #[rawInt lpos.line, rawInt lpos.col, .ref c']))) b = none ∧ b ∉ frs X.stack := fun b hb => by
    refine ⟨by rw [upd_ne (Nat.ne_of_gt (Nat.lt_of_lt_of_le hPlt hb))]; exact I.hok.fresh hb, fun z => ?_⟩
    rcases List.mem_cons.mp (I.stkSub b z) with e | e
    · exact absurd (Nat.lt_of_lt_of_le I.lt (by rw [← e]; exact hb)) (Nat.lt_irrefl _)
    · exact I.nofs hb e
  have rec' : (bigB s'.heap (upd H Pt (TabO Pt (ps ++ #[rawInt lpos.line, rawInt lpos.col, .ref c']))) (frs X.stack)).CodeRec (.ref c') (X.env.qual ++ "<lambda>") := by
    obtain ⟨c2, oc, vs, t, a1, a2, a3, a4⟩ := e2
    cases a1
    exact ⟨c', oc, vs, t, rfl, big_get a2 (fresh c' e5).1 (fresh c' e5).2, a3, a4⟩
  obtain ⟨m, hns, hloc⟩ := J.loc
  have L : LamNames (bigB s'.heap (upd H Pt (TabO Pt (ps ++ #[rawInt lpos.line, rawInt lpos.col, .ref c']))) (frs X.stack)) scope N ws clos := by
    refine ⟨cp.kind, cp.co, cp.gen, cp.own, hlen, fun i x v a1 a2 => ?_, fun x y cc a1 a2 => I.ok.inj x y cc (cp.sub x cc a1) (cp.sub y cc a2), cp.has, fun x cc a1 => ?_⟩
    · obtain ⟨b1, cc, b2, b3⟩ := cp.nm i x a1
      obtain ⟨j, b4, b5⟩ := hval i x v a1 a2
      obtain ⟨u, ru, lk⟩ := hloc j x v b4 b5 (.inr (.inl (cp.knd i x a1)))
      refine ⟨b1, cc, u, b3, ru, ?_⟩
      rcases lk with ⟨z, _⟩ | ⟨_, c3, z1, z2⟩
      · rw [cp.knd i x a1] at z; cases z
      · rw [b2] at z1; cases z1
        exact cell_big J cp.fn b2 z2
    · obtain ⟨v, hv⟩ := J.cell x cc (cp.sub x cc a1)
      exact ⟨v, cell_big J cp.fn (cp.sub x cc a1) hv⟩
  have F := hst _ f c' pm ctv ws Hs0 J.modBig (big_get e1 (fresh f e4).1 (fresh f e4).2) rec' L hcond
  refine run_big (vs := [.ref f]) F hr bG hx J (.cons rfl .nil) ⟨rfl, fun b o e => ?_, fun H' g' => q c' H' g'⟩
  rw [upd_ne (fun z => by rw [z, hs0] at e; cases e)]
  exact hsame b o e
end M91

set_option Elab.async false
set_option linter.all false
set_option maxRecDepth 100000
/-! the two deeds of the law -/
namespace M91
open PySem PySem.Spec PyProof.Rows L2
noncomputable abbrev noArgs : Arguments := { posonlyargs := [], args := [], vararg := none, kwonlyargs := [], kw_defaults := [], kwarg := none, defaults := [] }
noncomputable abbrev scNames : Scope := { kind := .function, names := [("_law_case", .free)], isGenerator := false, isCoroutine := false }
noncomputable abbrev scUnlike : Scope := { kind := .function, names := [("_law_one", .free), ("_law_other", .free), ("unlike_places", .globalImplicit)], isGenerator := false, isCoroutine := false }
noncomputable abbrev lamN : Expr := .Call (.Attribute (.Name "_law_case" ⟨153, 40, 153, 49⟩) "names" ⟨153, 40, 153, 55⟩) [] [] ⟨153, 40, 153, 57⟩
noncomputable abbrev lamU : Expr := .Call (.Name "unlike_places" ⟨152, 36, 152, 49⟩) [.Name "_law_one" ⟨152, 50, 152, 58⟩, .Name "_law_other" ⟨152, 60, 152, 70⟩] [] ⟨152, 36, 152, 71⟩
section
variable {P : Program} {w : World} {K : PySem.W.Frag} {mg : Str → Option Value} {base : Heap} {C : Addr}
theorem lamBinds {qual : Str} {body : Expr} {scope : Scope} {cl : List (Str × Addr)} {pm cdv ct : Value} : L2.Binds K (PySem.W.kla_fn "<lambda>" qual noArgs body scope cl pm cdv ct) [] [] := .all fun us hl => by
  cases us with
  | nil => rfl
  | cons a r => cases hl
noncomputable def Cond2 (C : Addr) : Hp → List V → Prop := fun Hs0 ws => ∃ p d dn un t x, ws = [.ref p] ∧ One C Hs0 p d dn un t x
theorem deed_names {fn f c' : Addr} {fdn : FuncData} {qual : Str} {pm ctv : Value} {cl : List (Str × Addr)} {ws : List V} {Hs0 : Hp} (T : CTxt K mg C) (GN : FnOk P w K mg base CX0 1 fn fdn ["self"] (spNames C)) (mN : Meth K C "names" fn) (bN : L2.Binds K fdn ["self"] [])
    (lk : base.get? f = some (PySem.W.kla_obj "<lambda>" qual noArgs lamN scNames cl pm c' ctv)) (hcd : base.CodeRec (.ref c') qual) (L : LamNames base scNames ["_law_case"] ws cl) (cd : Cond2 C Hs0 ws) :
    FnOk P w K mg base CX0 2 f (PySem.W.kla_fn "<lambda>" qual noArgs lamN scNames cl pm (.ref c') ctv) [] (spDeed K Hs0 [.str "a"]) := by
  obtain ⟨p, d, dn, un, t, x, rfl, S0⟩ := cd
  refine lam_of (N := ["_law_case"]) (ws := [.ref p]) lk hcd L (fun vs H Q E h => by rw [h.1]; rfl) fun A outer s H Q E hr h => ?_
  obtain ⟨_, hs, q⟩ := h
  have S : One C H p d dn un t x := S0.grow hs
  obtain ⟨dx, h1⟩ := S.ob
  refine ⟨_, pe_meth0 (pe_var (i := 0) rfl (.inr (.inr rfl))) T.cl mN GN hr bN .nil pass0, ?_⟩
  refine ⟨_, rfl, p, dx, _, rfl, h1, rfl, p, d, dn, un, t, x, rfl, S, fun a ha => ?_⟩
  exact q a [.str "a"] _ (fun b => if b = a then none else H b) ha (fun b o e => by rw [upd_ne (ne_of_none e ha)]; exact e) upd_same (if_pos rfl) (fun b o e => by
    by_cases hb : b = a
    · have e' := (if_pos hb).symm.trans e; cases e'
    · have e' := (if_neg hb).symm.trans e; rw [upd_ne hb]; exact e') ⟨_, _, rfl, rfl, rfl⟩ (by decide)
noncomputable def Cond1 (K : PySem.W.Frag) (T : DE.Pg) (F kU : Nat) (fdU : DE.Fd) (b1 : List Stmt) (out : List DE.D) : Hp → List V → Prop := fun Hs0 ws => ∃ (t1 t2 : Addr) (d1 d2 : DE.D) (i : Nat) (ρ' : DE.Rho), ws = [.ref t1, .ref t2] ∧ Rep K Hs0 d1 (.ref t1) ∧ Rep K Hs0 d2 (.ref t2) ∧
  DE.stGo (fun ρ s => DE.st (T.cx (DE.callN T F kU)) F F fdU.sc ρ s) b1 (DE.startR fdU [d1, d2]) = some (.nxt ρ') ∧ ρ'[i]? = some (("told" : Str), DE.Sl.ow out) ∧ out.length ≤ 100000
theorem deed_unlike {fu f c' : Addr} {fdu : FuncData} {qual : Str} {pm ctv : Value} {cl : List (Str × Addr)} {ws : List V} {Hs0 : Hp} {T : DE.Pg} {F kU : Nat} {fdU : DE.Fd} {b1 : List Stmt} {out : List DE.D} (hps : fdU.ps = [("one" : Str), ("other" : Str)])
    (GU : FnOk P w K mg base CX0 (kU + 1) fu fdu fdU.ps (spO K T F kU fdU b1 "told")) (mgU : mg "unlike_places" = some (.ref fu)) (kp : PySem.W.keepIn K (.ref fu) = true) (bU : L2.Binds K fdu fdU.ps [])
    (lk : base.get? f = some (PySem.W.kla_obj "<lambda>" qual noArgs lamU scUnlike cl pm c' ctv)) (hcd : base.CodeRec (.ref c') qual) (L : LamNames base scUnlike ["_law_one", "_law_other"] ws cl) (cd : Cond1 K T F kU fdU b1 out Hs0 ws) :
    FnOk P w K mg base CX0 (kU + 2) f (PySem.W.kla_fn "<lambda>" qual noArgs lamU scUnlike cl pm (.ref c') ctv) [] (spDeed K Hs0 out) := by
  obtain ⟨t1, t2, d1, d2, i, ρ', rfl, r1, r2, hgo, hx, hl⟩ := cd
  refine lam_of (N := ["_law_one", "_law_other"]) (ws := [.ref t1, .ref t2]) lk hcd L (fun vs H Q E h => by rw [h.1]; rfl) fun A outer s H Q E hr h => ?_
  obtain ⟨_, hs, q⟩ := h
  refine ⟨_, pe_call GU hr rfl mgU kp bU .nil pass0 (pa_cons (pe_var (i := 0) rfl (.inr (.inr rfl))) (pa_cons (pe_var (i := 1) rfl (.inr (.inr rfl))) pa_nil)), ?_⟩
  refine ⟨_, rfl, _, rfl, by rw [hps]; rfl, Hs0, [d1, d2], out, i, ρ', hs, ⟨_, _, rfl, r1, _, _, rfl, r2, rfl⟩, by rw [hps]; rfl, hgo, hx, fun a' vs' H' Hs' E1 e1 e2 e3 e4 => ?_⟩
  exact q a' vs' H' Hs' e1 E1.all e3 e2 E1.sub e4 (by rw [← e4.length]; exact hl)
end
end M91

set_option Elab.async false
set_option linter.all false
set_option maxRecDepth 100000
/-! the law -/
namespace M91
open PySem PySem.Spec PyProof.Rows L2
noncomputable abbrev sLaw : Stmt := top 33
noncomputable abbrev NL : List Str := ["_law_script", "_law_good", "_law_case", "_law_one", "_law_other"]
theorem scL : FnScope NL ["_law_script"] (defScope sLaw) := ⟨rfl, rfl, rfl, by decide +kernel, rfl, by decide +kernel, by decide +kernel⟩
structure LTxt (P : Program) (w : World) (K : PySem.W.Frag) (mg : Str → Option Value) (C : Addr) (call : Str → List DE.D → Option DE.D) (T : DE.Pg) (F kU : Nat) (fdU : DE.Fd) (b1 : List Stmt) : Prop where
  ct : CTxt K mg C
  nms : Nms mg
  tab : ∃ ft fdt, mg "_law_table" = some (.ref ft) ∧ PySem.W.keepIn K (.ref ft) = true ∧ L2.Binds K fdt ["_law_script", "_law_at", "_law_rows", "_law_columns"] [] ∧ ∀ base : Heap, K.In base → base.Ns mainGlobals mg → FnOk P w K mg base CX0 20 ft fdt ["_law_script", "_law_at", "_law_rows", "_law_columns"] (spD K call "_law_table" ["_law_script", "_law_at", "_law_rows", "_law_columns"])
  mak : ∃ fi fdi, Mk K C fi ∧ Fun K "__init__" "Case.__init__" sInit fi fdi ∧ L2.Binds K fdi ["self"] []
  put : ∃ fp fdp, Meth K C "put" fp ∧ L2.Binds K fdp ["self", "name", "table"] [] ∧ ∀ base : Heap, K.In base → base.Ns mainGlobals mg → FnOk P w K mg base CX0 21 fp fdp ["self", "name", "table"] (spPut C K call)
  tabo : ∃ fo fdo, Meth K C "table_of" fo ∧ L2.Binds K fdo ["self", "name"] [] ∧ ∀ base : Heap, K.In base → base.Ns mainGlobals mg → FnOk P w K mg base CX0 3 fo fdo ["self", "name"] (spTab C)
  nam : ∃ fn fdn, Meth K C "names" fn ∧ L2.Binds K fdn ["self"] [] ∧ ∀ base : Heap, K.In base → base.Ns mainGlobals mg → FnOk P w K mg base CX0 1 fn fdn ["self"] (spNames C)
  cnt : ∃ fc fdc, Meth K C "counts" fc ∧ L2.Binds K fdc ["self"] [] ∧ ∀ base : Heap, K.In base → base.Ns mainGlobals mg → FnOk P w K mg base CX0 1 fc fdc ["self"] (spCounts C)
  stay : ∃ fs fds, Fun K "_law_stays" "_law_stays" sStays fs fds ∧ mg "_law_stays" = some (.ref fs) ∧ L2.Binds K fds ["_law_deed"] []
  unl : ∃ fu fdu, mg "unlike_places" = some (.ref fu) ∧ PySem.W.keepIn K (.ref fu) = true ∧ L2.Binds K fdu fdU.ps [] ∧ fdU.ps = [("one" : Str), ("other" : Str)] ∧ ∀ base : Heap, K.In base → base.Ns mainGlobals mg → FnOk P w K mg base CX0 (kU + 1) fu fdu fdU.ps (spO K T F kU fdU b1 "told")
theorem lk2 {α : Type} {x y z : Str} {a b : α} {c : α} (h : ([(y, a), (z, b)] : List (Str × α)).lookup x = some c) : (x = y ∧ c = a) ∨ (x = z ∧ c = b) := by
  rw [List.lookup_cons] at h
  split at h
  · rename_i e; cases h; exact .inl ⟨by simpa using e, rfl⟩
  · rw [List.lookup_cons] at h
    split at h
    · rename_i e; cases h; exact .inr ⟨by simpa using e, rfl⟩
    · cases h
theorem lk1 {α : Type} {x y : Str} {a : α} {c : α} (h : ([(y, a)] : List (Str × α)).lookup x = some c) : x = y ∧ c = a := by
  rw [List.lookup_cons] at h
  split at h
  · rename_i e; cases h; exact ⟨by simpa using e, rfl⟩
  · cases h
theorem caps1 {P : Program} {w : World} {K : PySem.W.Frag} {mg : Str → Option Value} {base : Heap} {f c : Addr} {A : Around} {outer : List Env} {s : Shared} {H : Hp} {E : XK} :
    Caps (cxOf CX0 P w K mg base NL "law" (defScope sLaw) f (.ref c) A outer s H E).nox scUnlike ["_law_one", "_law_other"] [("_law_other", s.heap.objs.size + 1 + 1 + 1), ("_law_one", s.heap.objs.size + 1 + 1)] := by
  refine ⟨rfl, rfl, rfl, by decide, fun i x e => ?_, fun i x e => ?_, fun x e => ?_, fun x cc e => ?_, fun _ => rfl⟩
  · match i, e with
    | 0, e => cases e; exact ⟨rfl, _, rfl, rfl⟩
    | 1, e => cases e; exact ⟨rfl, _, rfl, rfl⟩
  · match i, e with
    | 0, e => cases e; rfl
    | 1, e => cases e; rfl
  · have m := PySem.mem_of_lookup e
    simp at m
    rcases m with rfl | rfl
    · exact ⟨_, rfl⟩
    · exact ⟨_, rfl⟩
  · rcases lk2 e with ⟨rfl, rfl⟩ | ⟨rfl, rfl⟩
    · rfl
    · rfl
theorem caps2 {P : Program} {w : World} {K : PySem.W.Frag} {mg : Str → Option Value} {base : Heap} {f c : Addr} {A : Around} {outer : List Env} {s : Shared} {H : Hp} {E : XK} :
    Caps (cxOf CX0 P w K mg base NL "law" (defScope sLaw) f (.ref c) A outer s H E).nox scNames ["_law_case"] [("_law_case", s.heap.objs.size + 1)] := by
  refine ⟨rfl, rfl, rfl, by decide, fun i x e => ?_, fun i x e => ?_, fun x e => ?_, fun x cc e => ?_, fun _ => rfl⟩
  · match i, e with
    | 0, e => cases e; exact ⟨rfl, _, rfl, rfl⟩
  · match i, e with
    | 0, e => cases e; rfl
  · have m := PySem.mem_of_lookup e
    simp at m
    subst m
    exact ⟨_, rfl⟩
  · obtain ⟨rfl, rfl⟩ := lk1 e
    rfl
theorem clo1 {P : Program} {w : World} {K : PySem.W.Frag} {mg : Str → Option Value} {base : Heap} {f c : Addr} {A : Around} {outer : List Env} {s : Shared} {H : Hp} {E : XK} :
    closureFor scUnlike (cxOf CX0 P w K mg base NL "law" (defScope sLaw) f (.ref c) A outer s H E).nox.env = pure ([("_law_other", s.heap.objs.size + 1 + 1 + 1), ("_law_one", s.heap.objs.size + 1 + 1)] : List (Str × Addr)) := by
  refine (closureFor_clOf fun x hx => ?_).trans rfl
  simp at hx
  rcases hx with rfl | rfl
  · exact ⟨_, rfl⟩
  · exact ⟨_, rfl⟩
theorem clo2 {P : Program} {w : World} {K : PySem.W.Frag} {mg : Str → Option Value} {base : Heap} {f c : Addr} {A : Around} {outer : List Env} {s : Shared} {H : Hp} {E : XK} :
    closureFor scNames (cxOf CX0 P w K mg base NL "law" (defScope sLaw) f (.ref c) A outer s H E).nox.env = pure ([("_law_case", s.heap.objs.size + 1)] : List (Str × Addr)) := by
  refine (closureFor_clOf fun x hx => ?_).trans rfl
  simp at hx
  subst hx
  exact ⟨_, rfl⟩
section
variable {P : Program} {w : World} {K : PySem.W.Frag} {mg : Str → Option Value} {base : Heap} {C : Addr} {call : Str → List DE.D → Option DE.D} {T : DE.Pg} {F kU : Nat} {fdU : DE.Fd} {b1 : List Stmt}
noncomputable def spLaw (K : PySem.W.Frag) (Pt : Addr) : Sp := fun vs H Q _ => ∃ (a : Addr) (ns : List Int), vs = [.ref a] ∧ SqL K H a (ns.map V.int) ∧ ns.length ≤ 63 ∧ H Pt = some (TabO Pt #[]) ∧ ∀ (H' : Hp) (ps' : Array Value), H' Pt = some (TabO Pt ps') → Q (.bl true) H'
theorem ok_law {f c Pt : Addr} {oc kV doc pm ct : Value} {od an : Option Addr} {osl : Array (Option Value)} (lk : K.lookup f = some ⟨oc, od, .func (PySem.W.fnOf "law" "law" (defArgs sLaw) (defBody sLaw) (defScope sLaw) .none kV doc pm an (.ref c) ct), osl⟩) (hcd : PySem.W.codeIn K (.ref c) "law" = true)
    (X : LTxt P w K mg C call T F kU fdU b1) (hkU : kU ≤ 20) (hK : K.In base) (hN : base.Ns mainGlobals mg) (hC : PySem.W.CodeHd base c Pt) (hbm : base.BuiltinsAt mg Pt)
    (hD : ∀ ns : List Int, ns.length ≤ 63 → ∃ (d1 d2 : DE.D) (out l1 l2 : List DE.D) (i : Nat) (ρ' : DE.Rho), call "_law_table" [.lst (ns.map .int), .int 10, .int 2, .int 3] = some d1 ∧ call "_law_table" [.lst (ns.map .int), .int 60, .int 2, .int 3] = some d2 ∧ d1 = .tup l1 ∧ d2 = .tup l2 ∧ DE.dep d1 ≤ 50 ∧ call "is_table" [d1] = some (.bl true) ∧
      DE.stGo (fun ρ s => DE.st (T.cx (DE.callN T F kU)) F F fdU.sc ρ s) b1 (DE.startR fdU [d1, d2]) = some (.nxt ρ') ∧ ρ'[i]? = some (("told" : Str), DE.Sl.ow out) ∧ out.length ≤ 100000 ∧ DE.dep (.lst out) ≤ 50) :
    FnOk P w K mg base CX0 31 f (PySem.W.fnOf "law" "law" (defArgs sLaw) (defBody sLaw) (defScope sLaw) .none kV doc pm an (.ref c) ct) ["_law_script"] (spLaw K Pt) := by
  obtain ⟨ft, fdt, mgT, kT, bT, GT⟩ := X.tab
  obtain ⟨fi, fdi, M, FI, bI⟩ := X.mak
  obtain ⟨fp, fdp, mP, bP, GP⟩ := X.put
  obtain ⟨fo, fdo, mO, bO, GO⟩ := X.tabo
  obtain ⟨fn, fdn, mN, bN, GN⟩ := X.nam
  obtain ⟨fc, fdc, mC, bC, GC⟩ := X.cnt
  obtain ⟨fs, fds, FS, mgS, bS⟩ := X.stay
  obtain ⟨fu, fdu, mgU, kpU, bU, hps, GU⟩ := X.unl
  have GI : FnOk P w K mg base CX0 1 fi fdi ["self"] (spInit C) := ok_init FI X.ct
  refine fn_of lk hcd scL (fun vs H Q E h => ?_) fun A outer s H vs Q E hr h => ?_
  · obtain ⟨a, ns, rfl, _⟩ := h
    rfl
  · obtain ⟨a, ns, rfl, hS, hlen, hP, k⟩ := h
    have hr20 : Room 20 _ := hr.mono (by decide : 20 ≤ 30)
    have hr21 : Room 21 _ := hr.mono (by decide : 21 ≤ 30)
    have hr3 : Room 3 _ := hr.mono (by decide : 3 ≤ 30)
    have hr2 : Room 2 _ := hr.mono (by decide : 2 ≤ 30)
    have hr1 : Room 1 _ := hr.mono (by decide : 1 ≤ 30)
    have hrk : Room (kU + 3) _ := hr.mono (by omega : kU + 3 ≤ 30)
    refine ⟨_, PSs.nox (pss_cons (ps_asg (pe_tup (pa_cons (pe_call (GT base hK hN) hr20 rfl mgT kT bT .nil pass0 (pa_cons (pv 0) (pa_cons pe_int (pa_cons pe_int (pa_cons pe_int pa_nil))))) (pa_cons (pe_call (GT base hK hN) hr20 rfl mgT kT bT .nil pass0 (pa_cons (pv 0) (pa_cons pe_int (pa_cons pe_int (pa_cons pe_int pa_nil))))) (pa_cons (pe_make0 M GI hr2 rfl X.ct.mgC bI .nil pass0) pa_nil))))
        (pg_tup rfl (pgs_cons (pg_name (i := 3) scL.nd rfl (Or.inr rfl)) (pgs_cons (pg_name (i := 4) scL.nd rfl (Or.inr rfl)) (pgs_cons (pg_name (i := 2) scL.nd rfl (Or.inr rfl)) pgs_nil)))))
      (pss_cons (ps_expr (pe_meth (pv 2) X.ct.cl mP (GP base hK hN) hr21 bP .nil pass0 (pa_cons pe_str (pa_cons (pv 3) pa_nil))))
      (pss_cons (ps_set (i := 1) scL.nd rfl (Or.inl rfl) (pe_lst (pa_cons (pe_stays (c := c) (Pt := Pt) (gd := fds) (N := ["_law_one", "_law_other"]) (kk := kU + 3) (Cond := fun Hs0 ws => ∃ out, Cond1 K T F kU fdU b1 out Hs0 ws ∧ DE.dep (.lst out) ≤ 50) rfl mgS FS.kp bS hrk rfl rfl hC clo1 hbm rfl caps1 pass0 ?st1) pa_nil)))
      (pss_cons (ps_expr (pe_bm PySem.F.plainAttrs_list PySem.F.slot_list_append PySem.F.type_list_append mt_append (pv 1) (pa_cons (pe_stays (c := c) (Pt := Pt) (gd := fds) (N := ["_law_case"]) (kk := 3) (Cond := Cond2 C) rfl mgS FS.kp bS hr3 rfl rfl hC clo2 hbm rfl caps2 pass0 ?st2) pa_nil)))
      (pss_one (ps_ret (pe_and (pe_cmpR (op_cmp hr .Eq) (pv 1) (pe_op op_repL (pe_lst (pa_cons pe_bl pa_nil)) pe_int) rfl) (pe_and (pe_cmpR (op_cmp hr .Eq) (pe_meth (pv 2) X.ct.cl mO (GO base hK hN) hr3 bO .nil pass0 (pa_cons pe_str pa_nil)) (pv 3) rfl) (pe_one (pe_cmpR (op_cmp hr .Eq) (pe_meth0 (pv 2) X.ct.cl mC (GC base hK hN) hr1 bC .nil pass0) (pe_tup (pa_cons pe_int (pa_cons pe_int pa_nil))) rfl)))))))))), ?_⟩
    case st1 =>
      intro base' f' c' pm' ctv ws Hs0 hM e1 e2 L cd
      obtain ⟨out, cd, hdp⟩ := cd
      exact ok_stays FS X.nms (deed_unlike hps (GU base' hM.kin hM.glob) mgU kpU bU e1 e2 L cd) e1 rfl lamBinds hdp
    case st2 =>
      intro base' f' c' pm' ctv ws Hs0 hM e1 e2 L cd
      exact ok_stays FS X.nms (deed_names X.ct (GN base' hM.kin hM.glob) mN bN e1 e2 L cd) e1 rfl lamBinds (by decide)
    obtain ⟨d1, d2, out, l1, l2, i, ρ', c1, c2, rfl, rfl, dp1, it, go, hx, hl, dpo⟩ := hD ns hlen
    have hs0 : Same (fun b => if b = Pt then none else H b) H := fun b o e => by
      by_cases hb : b = Pt
      · have e' := (if_pos hb).symm.trans e; cases e'
      · exact (if_neg hb).symm.trans e
    have hSa : SqL K (fun b => if b = Pt then none else H b) a (ns.map V.int) := by
      rcases hS with (e | ⟨o, e⟩) | e
      · exact .inl (.inl ((if_neg fun z => by rw [z, hP] at e; cases e).trans e))
      · exact .inl (.inr ⟨o, (if_neg fun z => by rw [z, hP] at e; cases e).trans e⟩)
      · exact .inr e
    have hP0 : (fun b => if b = Pt then none else H b) Pt = none := if_pos rfl
    generalize (fun b => if b = Pt then none else H b) = Hs at hs0 hSa hP0
    have rs : Rep K Hs (.lst (ns.map DE.D.int)) (.ref a) := ⟨a, ns.map V.int, rfl, hSa, repL_map (fun x => by simp [Rep]) ns⟩
    refine ⟨_, rfl, rfl, Hs, [.lst (ns.map .int), .int 10, .int 2, .int 3], _, hs0, ⟨_, _, rfl, rs, _, _, rfl, rfl, _, _, rfl, rfl, _, _, rfl, rfl, rfl⟩, c1, fun v1 H1 Hs1 E1 r1 => ?_⟩
    refine ⟨_, rfl, rfl, Hs1, [.lst (ns.map .int), .int 60, .int 2, .int 3], _, E1.sub, ⟨_, _, rfl, Rep.same E1.vis _ _ rs, _, _, rfl, rfl, _, _, rfl, rfl, _, _, rfl, rfl, rfl⟩, c2, fun v2 H2 Hs2 E2 r2 => ?_⟩
    have r1' := Rep.same E2.vis _ _ r1
    have hPs : Hs2 Pt = none := E2.hid Pt _ (E1.all _ _ hP) (E1.hid Pt _ hP hP0)
    have hP2 : H2 Pt = some (TabO Pt #[]) := E2.all _ _ (E1.all _ _ hP)
    obtain ⟨t1, vs1, rfl, q1, q2⟩ := id r1
    obtain ⟨t2, vs2, rfl, q3, q4⟩ := id r2
    intro p dx hp hdx ndx
    refine ⟨p, dx, rfl, upd_same, fun d dn un H3 hd0 hn0 S3 g3 => ⟨rfl, ?_⟩⟩
    have hd2 : ∀ b o, H2 b = some o → b ≠ d ∧ b ≠ dn := fun b o e => by
      have e' : (upd (upd H2 dx (.own p)) p (.ins C dx [])) b = some o := by rw [upd_ne (ne_of_none e hp), upd_ne (ne_of_none e hdx)]; exact e
      exact ⟨ne_of_none e' hd0, ne_of_none e' hn0⟩
    have g23 : ∀ b o, H2 b = some o → H3 b = some o := fun b o e => g3 b o (by rw [upd_ne (ne_of_none e hp), upd_ne (ne_of_none e hdx)]; exact e) (ne_of_none e hp)
    refine ⟨by show 3 ≤ sizeLine; decide, fun tp htp => ?_⟩
    have g34 : Grow H3 (upd H3 tp (.tup [.ref t1, .ref t2, .ref p])) := fun b o e => by rw [upd_ne (ne_of_none e htp)]; exact e
    refine ⟨tp, _, rfl, SqT.of upd_same, rfl, _, _, rfl, _, _, rfl, _, _, rfl, rfl, ?_⟩
    have S4 := S3.grow g34
    have g24 : Grow H2 (upd H3 tp (.tup [.ref t1, .ref t2, .ref p])) := fun b o e => g34 b o (g23 b o e)
    generalize upd H3 tp (.tup [.ref t1, .ref t2, .ref p]) = H4 at S4 g24 ⊢
    have hs4 : Same Hs2 H4 := fun b o e => g24 b o (E2.sub b o e)
    obtain ⟨dx4, h4⟩ := S4.ob
    refine ⟨_, rfl, p, dx4, _, rfl, h4, rfl, _, rfl, p, d, dn, un, t1, Hs2, .tup l1, rfl, S4, hs4, r1', it, fun un' x H5 S5 g5 => ?_⟩
    have g25 : ∀ b o, H2 b = some o → H5 b = some o := fun b o e => g5 b o (g24 b o e) (ne_of_none e hp) (hd2 b o e).1 (hd2 b o e).2
    have hP5 : H5 Pt = some (TabO Pt #[]) := g25 _ _ hP2
    have hs5 : Same Hs2 H5 := fun b o e => g25 b o (E2.sub b o e)
    -- the first deed
    refine ⟨#[], [.ref t1, .ref t2], Hs2, hP5, trivial, rfl, hPs, hs5, rfl, fun j y v a1 a2 => ?_, ⟨out, ⟨t1, t2, _, _, i, ρ', rfl, r1', r2, go, hx, hl⟩, dpo⟩, fun c1' H6 g6 => ?_⟩
    · match j, a1, a2 with
      | 0, a1, a2 => cases a1; cases a2; exact ⟨3, rfl, rfl⟩
      | 1, a1, a2 => cases a1; cases a2; exact ⟨4, rfl, rfl⟩
    have hP6 := g6 _ _ upd_same
    have n5 : ∀ b o, H5 b = some o → b ≠ Pt → H6 b = some o := fun b o e hb => g6 b o (by rw [upd_ne hb]; exact e)
    have nt : ∀ {b : Addr} {o : HO}, H5 b = some o → (∀ φ, o ≠ .ext φ) → b ≠ Pt := fun {b o} e ho z => by rw [z, hP5] at e; cases e; exact ho _ rfl
    have S6 : One C H6 p d dn un' t1 x := by
      obtain ⟨dx5, h5⟩ := S5.ob
      exact ⟨⟨dx5, n5 _ _ h5 (nt h5 fun _ z => by cases z)⟩, n5 _ _ S5.dc (nt S5.dc fun _ z => by cases z), n5 _ _ S5.dl (nt S5.dl fun _ z => by cases z), n5 _ _ S5.ul (nt S5.ul fun _ z => by cases z), S5.ne⟩
    have hs6 : Same Hs2 H6 := fun b o e => n5 b o (hs5 b o e) fun z => by rw [z, hPs] at e; cases e
    refine ⟨by show 1 ≤ sizeLine; decide, fun gl hgl => ?_⟩
    have ngp : gl ≠ Pt := fun z => by rw [z, hP6] at hgl; cases hgl
    have g67 : Grow H6 (upd H6 gl (.lst [.bl true])) := fun b o e => by rw [upd_ne (ne_of_none e hgl)]; exact e
    have egl : (upd H6 gl (.lst [.bl true])) gl = some (.lst [.bl true]) := upd_same
    have S7 := S6.grow g67
    have hP7 := g67 _ _ hP6
    have hs7 : Same Hs2 (upd H6 gl (.lst [.bl true])) := fun b o e => g67 b o (hs6 b o e)
    generalize upd H6 gl (.lst [.bl true]) = H7 at egl S7 hP7 hs7 ⊢
    -- the second deed
    have nt7 : ∀ {b : Addr} {o : HO}, H7 b = some o → (∀ φ, o ≠ .ext φ) → b ≠ Pt := fun {b o} e ho z => by rw [z, hP7] at e; cases e; exact ho _ rfl
    have S7' : One C (fun b => if b = Pt then none else H7 b) p d dn un' t1 x := by
      obtain ⟨dx5, h5⟩ := S7.ob
      exact ⟨⟨dx5, (if_neg (nt7 h5 fun _ z => by cases z)).trans h5⟩, (if_neg (nt7 S7.dc fun _ z => by cases z)).trans S7.dc, (if_neg (nt7 S7.dl fun _ z => by cases z)).trans S7.dl, (if_neg (nt7 S7.ul fun _ z => by cases z)).trans S7.ul, S7.ne⟩
    refine ⟨_, rfl, .inl ⟨rfl, _, SqL.of egl⟩, _, [.ref p], fun b => if b = Pt then none else H7 b, hP7, ?_, ?_, if_pos rfl, fun b o e => ?_, rfl, fun j y v a1 a2 => ?_, ⟨p, d, dn, un', t1, x, rfl, S7'⟩, fun c2' H8 g8 => ?_⟩
    · exact trivial
    · rfl
    · by_cases hb : b = Pt
      · have e' := (if_pos hb).symm.trans e; cases e'
      · exact (if_neg hb).symm.trans e
    · match j, a1, a2 with
      | 0, a1, a2 => cases a1; cases a2; exact ⟨2, rfl, rfl⟩
    have hP8 := g8 _ _ upd_same
    have n7 : ∀ b o, H7 b = some o → b ≠ Pt → H8 b = some o := fun b o e hb => g8 b o (by rw [upd_ne hb]; exact e)
    have S8 : One C H8 p d dn un' t1 x := by
      obtain ⟨dx5, h5⟩ := S7.ob
      exact ⟨⟨dx5, n7 _ _ h5 (nt7 h5 fun _ z => by cases z)⟩, n7 _ _ S7.dc (nt7 S7.dc fun _ z => by cases z), n7 _ _ S7.dl (nt7 S7.dl fun _ z => by cases z), n7 _ _ S7.ul (nt7 S7.ul fun _ z => by cases z), S7.ne⟩
    have egl8 := n7 _ _ egl ngp
    have hs8 : Same Hs2 H8 := fun b o e => n7 b o (hs7 b o e) fun z => by rw [z, hPs] at e; cases e
    refine ⟨gl, [.bl true], _, rfl, rfl, egl8, by show 1 < sizeLine; decide, ?_⟩
    have n8 : ∀ b o, H8 b = some o → b ≠ gl → (upd H8 gl (.lst ([V.bl true] ++ [V.bl true]))) b = some o := fun b o e hb => by rw [upd_ne hb]; exact e
    have S9 : One C (upd H8 gl (.lst ([V.bl true] ++ [V.bl true]))) p d dn un' t1 x := by
      obtain ⟨dx5, h5⟩ := S8.ob
      exact ⟨⟨dx5, n8 _ _ h5 (ne_of h5 egl8 (by intro z; cases z))⟩, n8 _ _ S8.dc (ne_of S8.dc egl8 (by intro z; cases z)), n8 _ _ S8.dl (ne_of S8.dl egl8 (by intro z; cases z)), n8 _ _ S8.ul (ne_of S8.ul egl8 (by intro z; cases z)), S8.ne⟩
    have hs9 : Same Hs2 (upd H8 gl (.lst ([V.bl true] ++ [V.bl true]))) := fun b o e => n8 b o (hs8 b o e) (ne_of_none (hs6 b o e) hgl)
    have e9 : (upd H8 gl (.lst ([V.bl true] ++ [V.bl true]))) gl = some (.lst [.bl true, .bl true]) := upd_same
    have hP9 := n8 _ _ hP8 ngp.symm
    generalize upd H8 gl (.lst ([V.bl true] ++ [V.bl true])) = H9 at S9 hs9 e9 hP9 ⊢
    refine ⟨_, rfl, by show 1 ≤ sizeLine; decide, fun la hla => ⟨la, 2, [.bl true], rfl, rfl, SqL.of upd_same, by decide, by decide, by show 2 ≤ sizeLine; decide, fun lb hlb => ?_⟩⟩
    have gA : Grow H9 (upd (upd H9 la (.lst [.bl true])) lb (.lst (List.replicate (2 : Int).toNat [V.bl true]).flatten)) := fun b o e => by
      have e' : (upd H9 la (.lst [.bl true])) b = some o := by rw [upd_ne (ne_of_none e hla)]; exact e
      rw [upd_ne (ne_of_none e' hlb)]; exact e'
    have eB : (upd (upd H9 la (.lst [.bl true])) lb (.lst (List.replicate (2 : Int).toNat [V.bl true]).flatten)) lb = some (.lst [.bl true, .bl true]) := upd_same
    generalize upd (upd H9 la (.lst [.bl true])) lb (.lst (List.replicate (2 : Int).toNat [V.bl true]).flatten) = HA at gA eB ⊢
    have rbb : RepL K HA [.bl true, .bl true] [.bl true, .bl true] := ⟨_, _, rfl, rfl, _, _, rfl, rfl, rfl⟩
    refine ⟨HA, .lst [.bl true, .bl true], .lst [.bl true, .bl true], .bl true, fun _ _ e => e, ⟨gl, _, rfl, SqL.of (gA _ _ e9), rbb⟩, ⟨lb, _, rfl, SqL.of eB, rbb⟩, rfl, true, rfl, true, rfl, iteT ?_⟩
    have SA := S9.grow gA
    obtain ⟨dxA, hA⟩ := SA.ob
    refine ⟨_, rfl, p, dxA, _, rfl, hA, rfl, p, d, dn, un', t1, x, rfl, SA, fun HB gB => ?_⟩
    have rt : Rep K HB (.tup l1) (.ref t1) := Rep.same (fun b o e => gB b o (gA b o (hs9 b o e))) _ _ r1'
    refine ⟨_, rfl, HB, .tup l1, .tup l1, .bl true, fun _ _ e => e, rt, rt, by rw [DE.oEq dp1 dp1, DE.dq_refl _ (by omega)], true, rfl, true, rfl, iteT ?_⟩
    have SB := SA.grow gB
    obtain ⟨dxB, hB⟩ := SB.ob
    refine ⟨_, rfl, p, dxB, _, rfl, hB, rfl, p, d, dn, un', t1, x, rfl, SB, fun ca hca => ?_⟩
    refine ⟨by show 2 ≤ sizeLine; decide, fun tb htb => ?_⟩
    have rii : ∀ Hx, RepL K Hx [.int 1, .int 0] [.int 1, .int 0] := fun Hx => ⟨_, _, rfl, rfl, _, _, rfl, rfl, rfl⟩
    have eca : (upd (upd HB ca (.tup [.int 1, .int 0])) tb (.tup [.int 1, .int 0])) ca = some (.tup [.int 1, .int 0]) := by
      rw [upd_ne (ne_of_none upd_same htb), upd_same]
    refine ⟨_, .tup [.int 1, .int 0], .tup [.int 1, .int 0], .bl true, fun _ _ e => e, ⟨ca, _, rfl, SqT.of eca, rii _⟩, ⟨tb, _, rfl, SqT.of upd_same, rii _⟩, rfl, true, rfl, ?_⟩
    have hPB := gB _ _ (gA _ _ hP9)
    have hPC : (upd HB ca (.tup [.int 1, .int 0])) Pt = _ := (upd_ne (ne_of_none hPB hca)).trans hPB
    exact k _ _ ((upd_ne (ne_of_none hPC htb)).trans hPC)
end
end M91

set_option Elab.async false
set_option linter.all false
set_option maxRecDepth 100000
/-! the law's call, where its code's table may grow -/
namespace M91
open PySem PySem.Spec PyProof.Rows L2
theorem law_call91 {P : Program} {w : World} {K : PySem.W.Frag} {mg mb : Str → Option Value} {k : Nat} {fa a c Pt : Addr} {fd : FuncData} {x : Str} {s₁ : Shared} {vs : List Value} {ns : List Int}
    (KX : K.In s₁.heap) (hns : s₁.heap.Ns mainGlobals mg) (hb : s₁.heap.Ns builtinsNs mb) (hbb : ∀ x : Str, x ≠ "__name__" → mb x = bootBuiltins x) (hlim : s₁.heap.NoLimit) (hg : s₁.gens = #[])
    (ha : s₁.heap.get? a = some { cls := .type "list", data := .seq vs.toArray }) (hi : IntsAre vs ns) (hl : ns.length ≤ 63) (hr : Room k callerA)
    (hT : s₁.heap.get? Pt = some (PySem.W.tabObj #[])) (hKP : K.lookup Pt = none) (hC : PySem.W.CodeHd s₁.heap c Pt) (hbm : s₁.heap.BuiltinsAt mg Pt)
    (F : ∀ base : Heap, K.In base → base.Ns mainGlobals mg → PySem.W.CodeHd base c Pt → base.BuiltinsAt mg Pt → FnOk P w K mg base CX0 k fa fd [x] (spLaw K Pt)) (hbind : ∀ (s : Shared) (u : Value), BindsTo s fd ⟨[u], []⟩ [(x, u)]) :
    codeAny (model P w) callerA (.call (.ref fa) ⟨[.ref a], []⟩) (fun r s' => r = .ok (.ret (.bool true)) ∧ OldK s₁.heap s'.heap ∧ s'.os = s₁.os ∧ AllBare s'.gens) s₁ := by
  have rv := vals_ints hi
  have lenV := hi.length
  have naP : a ≠ Pt := fun z => by rw [z, hT] at ha; cases ha
  have core : ∀ H0 : Hp, Only H0 → SqL K H0 a (ns.map V.int) → HOk P w H0 s₁.heap → (∀ b, H0 b ≠ none → b = a) → (H0 a ≠ none → K.lookup a = none) →
      codeAny (model P w) callerA (.call (.ref fa) ⟨[.ref a], []⟩) (fun r s' => r = .ok (.ret (.bool true)) ∧ OldK s₁.heap s'.heap ∧ s'.os = s₁.os ∧ AllBare s'.gens) s₁ := by
    intro H0 hO hS hok hA hK
    have h0P : H0 Pt = none := by
      cases q : H0 Pt with
      | none => rfl
      | some u => exact absurd (hA Pt (by rw [q]; simp)).symm naP
    have eP : (upd H0 Pt (TabO Pt #[])) Pt = some (TabO Pt #[]) := upd_same
    have hokH : HOk P w (upd H0 Pt (TabO Pt #[])) s₁.heap := fun b u e => by
      by_cases hb : b = Pt
      · subst hb; rw [upd_same] at e; cases e; exact tab_ok hT
      · rw [upd_ne hb] at e
        exact (hok b u e).stay (fun c v _ q => q) (fun c q => by rw [upd_ne (ne_of_none q h0P)]; exact q) fun c xs q => by rw [upd_ne (ne_of_none q h0P)]; exact q
    have hSH : SqL K (upd H0 Pt (TabO Pt #[])) a (ns.map V.int) := by
      rcases hS with (e | ⟨o, e⟩) | e
      · exact .inl (.inl (by rw [upd_ne naP]; exact e))
      · exact .inl (.inr ⟨o, by rw [upd_ne naP]; exact e⟩)
      · exact .inr e
    have noH : ∀ {b : Addr}, b ≠ Pt → b ≠ a → (upd H0 Pt (TabO Pt #[])) b = none := fun {b} h1 h2 => by
      rw [upd_ne h1]
      cases q : H0 b with
      | none => rfl
      | some u => exact absurd (hA b (by rw [q]; simp)) h2
    have un_of : ∀ {b : Addr} {o : Obj}, s₁.heap.get? b = some o → (upd H0 Pt (TabO Pt #[])) b = none → (hidT s₁.heap (upd H0 Pt (TabO Pt #[]))).get? b = some o := fun e n => hidT_get e n
    have nsK : ∀ {b : Addr} {m : Str → Option Value}, s₁.heap.Ns b m → (hidT s₁.heap (upd H0 Pt (TabO Pt #[]))).Ns b m := fun {b m} ⟨o, es, ep, e, d, r⟩ => ⟨o, es, ep, un_of e (noH (fun z => by rw [z, hT] at e; cases e; cases d) (fun z => by rw [z, ha] at e; cases e; cases d)), d, r⟩
    have hKb : K.In (hidT s₁.heap (upd H0 Pt (TabO Pt #[]))) := fun b o e => un_of (KX b o e) (by
      have hbP : b ≠ Pt := fun z => by rw [z, hKP] at e; cases e
      rw [upd_ne hbP]
      cases q : H0 b with
      | none => rfl
      | some u =>
        have e' : b = a := hA b (by rw [q]; simp)
        subst e'
        rw [hK (by rw [q]; simp)] at e; cases e)
    have hM : Mod K mg (hidT s₁.heap (upd H0 Pt (TabO Pt #[]))) := ⟨hKb, nsK hns, ⟨mb, nsK hb, hbb⟩, let ⟨mc, h1, h2⟩ := hlim; ⟨mc, nsK h1, h2⟩⟩
    have e0 : Env0 P w K mg (hidT s₁.heap (upd H0 Pt (TabO Pt #[]))) callerA [] s₁ (upd H0 Pt (TabO Pt #[])) := ⟨rfl, hM, fun b o e => of_hidT e, Nat.le_of_eq (hidT_size _ _), trivial, fun b hb => absurd (show b ∈ ([] : List Addr) from hb) (by simp), hokH, .of_eq hg⟩
    have hCb : PySem.W.CodeHd (hidT s₁.heap (upd H0 Pt (TabO Pt #[]))) c Pt := by
      obtain ⟨o, vs', file, tf, flags, tg, inF, text, tt, e1, e2, r⟩ := hC
      exact ⟨o, vs', file, tf, flags, tg, inF, text, tt, un_of e1 (noH r.2.2.2.2.2.2.2 (fun z => by rw [z, ha] at e1; cases e1; exact absurd (show Value.type "list" = Value.type "code" from e2) (by decide))), e2, r⟩
    have hBb : (hidT s₁.heap (upd H0 Pt (TabO Pt #[]))).BuiltinsAt mg Pt := by
      obtain ⟨bm, ob, b1, b2, b3, b4, b5, b6, b7, b8⟩ := hbm
      exact ⟨bm, ob, b1, b2, b3, b4, un_of b5 (noH b4 (fun z => by rw [z, ha] at b5; cases b5; exact absurd (show Value.type "list" = Value.type "module" from b6) (by decide))), b6, b7, b8⟩
    refine codeAny_mono ((F _ hKb (nsK hns) hCb hBb).run callerA [] s₁ _ ⟨[.ref a], []⟩ [.ref a] [.ref a] (fun v H' => v = .bl true ∧ ∃ ps', H' Pt = some (TabO Pt ps')) (fun _ _ _ => False) hr e0 (hbind s₁ (.ref a)) (.cons rfl .nil) ⟨a, ns, rfl, hSH, hl, eP, fun H' ps' e => ⟨rfl, ps', e⟩⟩) fun r s' h => ?_
    cases r with
    | error e => exact False.elim h
    | ok fl =>
      cases fl with
      | next => exact False.elim h
      | brk => exact False.elim h
      | cont => exact False.elim h
      | ret u =>
        obtain ⟨v, H', os, bare, un, hok', r', q, ps', hps⟩ := h
        subst q
        obtain rfl : u = Value.bool true := r'
        have keep : ∀ b o, s₁.heap.get? b = some o → b ≠ Pt → s'.heap.get? b = some o := fun b o e hbP => by
          by_cases hba : b = a
          · subst hba
            rcases hO b with z | ⟨ob, xs, z⟩
            · exact un.keep b o e (by rw [upd_ne hbP]; exact z) (by intro z; exact absurd (show b ∈ ([] : List Addr) from z) (by simp)) (by simp)
            · have z1 : (upd H0 Pt (TabO Pt #[])) b = some (.frz ob (.lst xs)) := by rw [upd_ne hbP]; exact z
              have z2 := un.frzs b ob _ z1
              obtain ⟨e1, _⟩ := hok b _ z
              obtain ⟨e2, _⟩ := hok' b _ z2
              rw [e] at e1; cases e1
              exact e2
          · exact un.keep b o e (noH hbP hba) (by intro z; exact absurd (show b ∈ ([] : List Addr) from z) (by simp)) (by simp)
        have hPt : s'.heap.get? Pt = some (PySem.W.tabObj ps') := (hok' Pt _ hps).1
        refine ⟨rfl, ⟨fun b o e => ?_, fun b o e => ?_⟩, os, bare⟩
        · by_cases hbP : b = Pt
          · subst hbP
            rw [hT] at e; cases e
            exact .inr (.inl ⟨(hC.tab hT).isCodeTable, rfl, #[], ps', rfl, by rw [hPt]; simp⟩)
          · exact .inl (keep b o e hbP)
        · by_cases hbP : b = Pt
          · subst hbP; exact ⟨_, hPt⟩
          · exact ⟨o, keep b o e hbP⟩
  cases hk : K.lookup a with
  | some o =>
    have e := KX a o hk
    rw [ha] at e
    cases e
    refine core (fun _ => none) (fun _ => .inl rfl) (.inr ⟨_, vs.toArray, _, hk, rfl, rfl, rfl, by rw [List.size_toArray, lenV]; exact Nat.le_trans hl (by decide), by simpa using rv⟩) (fun b u z => by have z' : (none : Option HO) = some u := z; cases z') (fun b z => absurd rfl z) fun z => absurd rfl z
  | none =>
    refine core (fun b => if b = a then some (.frz { cls := .type "list", data := .seq vs.toArray } (.lst (ns.map V.int))) else none) (fun b => ?_) (.inl (.inr ⟨{ cls := .type "list", data := .seq vs.toArray }, if_pos rfl⟩)) (fun b u z => ?_) (fun b z => ?_) fun _ => hk
    · by_cases hb : b = a
      · exact .inr ⟨_, _, if_pos hb⟩
      · exact .inl (if_neg hb)
    · by_cases hb : b = a
      · have z' := (if_pos hb).symm.trans z
        cases z'
        subst hb
        exact ⟨ha, by rw [List.length_map]; exact Nat.le_trans hl (by decide), vs, _, rv, ha⟩
      · have z' := (if_neg hb).symm.trans z
        cases z'
    · by_cases hb : b = a
      · exact hb
      · exact absurd (if_neg hb) z
theorem walk91 {l : PySem.W.OpenLaw} {k : Nat} {q : Program} {loose : List Str} {XP : (Str → Option Value) → Heap → Prop} {YP : World → Heap → Prop} {d : DefRec} {K : Params → PySem.W.Frag} {x : Str} {c Pt : Addr}
    (hn : l.most = some 63) (hdf : d.params.defaults = []) (hr : Room k callerA)
    (hY : ∀ (w : World) (h : Heap), YP w h → (K w.params).In h ∧ h.get? Pt = some (PySem.W.tabObj #[])) (hKP : ∀ P, (K P).lookup Pt = none) (hKC : ∀ P, PySem.W.codeHdIn (K P) c Pt = true)
    (F : ∀ (w : World) (mg : Str → Option Value) (fa : Addr) (h : Heap), (K w.params).In h → h.Ns mainGlobals mg → mg d.name = some (.ref fa) →
      ∃ fd : FuncData, (∀ (s : Shared) (u : Value), BindsTo s fd ⟨[u], []⟩ [(x, u)]) ∧
        ∀ base : Heap, (K w.params).In base → base.Ns mainGlobals mg → PySem.W.CodeHd base c Pt → base.BuiltinsAt mg Pt → FnOk l.prog w (K w.params) mg base CX0 k fa fd [x] (spLaw (K w.params) Pt)) :
    PySem.W.WalkO q loose XP YP l.row.toRowW d [] (fun f vs => PySem.call f vs) := by
  refine Att.attach_call hn hdf fun w s₀ s₁ mg mb fa o pm cd doc a vs ns G Y ho hd hcd hmg hobj hints hlen hg => ?_
  obtain ⟨KX, hT⟩ := hY w _ Y
  obtain ⟨fd, hb, hF⟩ := F w mg fa _ KX G.T.g hmg
  obtain ⟨bm, ob, b1, b2, b3, b4, b5, b6⟩ := G.T.bmain
  have hbP : bm ≠ Pt := fun z => by rw [z, hT] at b3; cases b3; cases b4
  have hbG : bm ≠ mainGlobals := fun z => by
    obtain ⟨o, es, ep, e, hd, _⟩ := G.T.g
    rw [z, e] at b3; cases b3; rw [hd] at b6; cases b6
  exact law_call91 KX G.T.g G.T.b G.T.builtins G.T.nolimit hg hobj hints hlen hr hT (hKP _) (PySem.W.codeHd_of_K KX (hKC _)) ⟨bm, ob, b1, b2, hbG, hbP, b3, b4, b5, b6⟩ hF hb
end M91

set_option Elab.async false
set_option linter.all false
set_option maxRecDepth 100000
namespace N91
open PySem L2 DE
theorem all_mk91 {c Pt : Addr} {l : PySem.W.OpenLaw} {w : World} {K : PySem.W.Frag} {h : Heap} {mg : Str → Option Value} {fa : Addr} (X : K.In h) (G : h.Ns mainGlobals mg) (hfa : mg "law" = some (.ref fa))
    {f8 : Addr} {od8 an8 : Option Addr} {sl8 : Array (Option Value)} {oc8 kV8 dc8 pm8 cd8 ct8 : Value}
    {f9 : Addr} {od9 an9 : Option Addr} {sl9 : Array (Option Value)} {oc9 kV9 dc9 pm9 cd9 ct9 : Value}
    {f10 : Addr} {od10 an10 : Option Addr} {sl10 : Array (Option Value)} {oc10 kV10 dc10 pm10 cd10 ct10 : Value}
    {f11 : Addr} {od11 an11 : Option Addr} {sl11 : Array (Option Value)} {oc11 kV11 dc11 pm11 cd11 ct11 : Value}
    {f12 : Addr} {od12 an12 : Option Addr} {sl12 : Array (Option Value)} {oc12 kV12 dc12 pm12 cd12 ct12 : Value}
    {f13 : Addr} {od13 an13 : Option Addr} {sl13 : Array (Option Value)} {oc13 kV13 dc13 pm13 cd13 ct13 : Value}
    {f14 : Addr} {od14 an14 : Option Addr} {sl14 : Array (Option Value)} {oc14 kV14 dc14 pm14 cd14 ct14 : Value}
    {f15 : Addr} {od15 an15 : Option Addr} {sl15 : Array (Option Value)} {oc15 kV15 dc15 pm15 cd15 ct15 : Value}
    {f18 : Addr} {od18 an18 : Option Addr} {sl18 : Array (Option Value)} {oc18 kV18 dc18 pm18 cd18 ct18 : Value}
    {f19 : Addr} {od19 an19 : Option Addr} {sl19 : Array (Option Value)} {oc19 kV19 dc19 pm19 cd19 ct19 : Value}
    {f21 : Addr} {od21 an21 : Option Addr} {sl21 : Array (Option Value)} {oc21 kV21 dc21 pm21 cd21 ct21 : Value}
    {f29 : Addr} {od29 an29 : Option Addr} {sl29 : Array (Option Value)} {oc29 kV29 dc29 pm29 cd29 ct29 : Value}
    {f30 : Addr} {od30 an30 : Option Addr} {sl30 : Array (Option Value)} {oc30 kV30 dc30 pm30 cd30 ct30 : Value}
    {f31 : Addr} {od31 an31 : Option Addr} {sl31 : Array (Option Value)} {oc31 kV31 dc31 pm31 cd31 ct31 : Value}
    {f33 : Addr} {od33 an33 : Option Addr} {sl33 : Array (Option Value)} {oc33 kV33 dc33 pm33 ct33 : Value}
    {tk0 : Tok}
    {tk1 : Tok}
    {f25 : Addr} {od25 an25 : Option Addr} {sl25 : Array (Option Value)} {oc25 kV25 dc25 pm25 cd25 ct25 : Value}
    {f26 : Addr} {od26 an26 : Option Addr} {sl26 : Array (Option Value)} {oc26 kV26 dc26 pm26 cd26 ct26 : Value}
    {f32 : Addr} {od32 an32 : Option Addr} {sl32 : Array (Option Value)} {oc32 kV32 dc32 pm32 cd32 ct32 : Value}
    {C : Addr}
    {fI : Addr} {odI anI : Option Addr} {slI : Array (Option Value)} {ocI kVI dcI pmI cdI ctI : Value}
    {fS : Addr} {odS anS : Option Addr} {slS : Array (Option Value)} {ocS kVS dcS pmS cdS ctS : Value}
    {fO : Addr} {odO anO : Option Addr} {slO : Array (Option Value)} {ocO kVO dcO pmO cdO ctO : Value}
    {fP : Addr} {odP anP : Option Addr} {slP : Array (Option Value)} {ocP kVP dcP pmP cdP ctP : Value}
    {fT : Addr} {odT anT : Option Addr} {slT : Array (Option Value)} {ocT kVT dcT pmT cdT ctT : Value}
    {fN : Addr} {odN anN : Option Addr} {slN : Array (Option Value)} {ocN kVN dcN pmN cdN ctN : Value}
    {fK : Addr} {odK anK : Option Addr} {slK : Array (Option Value)} {ocK kVK dcK pmK cdK ctK : Value}
    {tkA tkB : Tok}
    (a8 : PySem.W.nsIn K mainGlobals "is_whole" = some (some (.ref f8))) (l8 : K.lookup f8 = some ⟨oc8, od8, .func (PySem.W.fnOf "is_whole" "is_whole" (defArgs (top 8)) (defBody (top 8)) (defScope (top 8)) .none kV8 dc8 pm8 an8 cd8 ct8), sl8⟩) (c8 : PySem.W.codeIn K cd8 "is_whole" = true) (k8 : PySem.W.keepIn K (.ref f8) = true)
    (a9 : PySem.W.nsIn K mainGlobals "is_whole_within" = some (some (.ref f9))) (l9 : K.lookup f9 = some ⟨oc9, od9, .func (PySem.W.fnOf "is_whole_within" "is_whole_within" (defArgs (top 9)) (defBody (top 9)) (defScope (top 9)) .none kV9 dc9 pm9 an9 cd9 ct9), sl9⟩) (c9 : PySem.W.codeIn K cd9 "is_whole_within" = true) (k9 : PySem.W.keepIn K (.ref f9) = true)
    (a10 : PySem.W.nsIn K mainGlobals "is_short_tuple" = some (some (.ref f10))) (l10 : K.lookup f10 = some ⟨oc10, od10, .func (PySem.W.fnOf "is_short_tuple" "is_short_tuple" (defArgs (top 10)) (defBody (top 10)) (defScope (top 10)) .none kV10 dc10 pm10 an10 cd10 ct10), sl10⟩) (c10 : PySem.W.codeIn K cd10 "is_short_tuple" = true) (k10 : PySem.W.keepIn K (.ref f10) = true)
    (a11 : PySem.W.nsIn K mainGlobals "has_lines" = some (some (.ref f11))) (l11 : K.lookup f11 = some ⟨oc11, od11, .func (PySem.W.fnOf "has_lines" "has_lines" (defArgs (top 11)) (defBody (top 11)) (defScope (top 11)) .none kV11 dc11 pm11 an11 cd11 ct11), sl11⟩) (c11 : PySem.W.codeIn K cd11 "has_lines" = true) (k11 : PySem.W.keepIn K (.ref f11) = true)
    (a12 : PySem.W.nsIn K mainGlobals "numbers_of" = some (some (.ref f12))) (l12 : K.lookup f12 = some ⟨oc12, od12, .func (PySem.W.fnOf "numbers_of" "numbers_of" (defArgs (top 12)) (defBody (top 12)) (defScope (top 12)) .none kV12 dc12 pm12 an12 cd12 ct12), sl12⟩) (c12 : PySem.W.codeIn K cd12 "numbers_of" = true) (k12 : PySem.W.keepIn K (.ref f12) = true)
    (a13 : PySem.W.nsIn K mainGlobals "has_table_form" = some (some (.ref f13))) (l13 : K.lookup f13 = some ⟨oc13, od13, .func (PySem.W.fnOf "has_table_form" "has_table_form" (defArgs (top 13)) (defBody (top 13)) (defScope (top 13)) .none kV13 dc13 pm13 an13 cd13 ct13), sl13⟩) (c13 : PySem.W.codeIn K cd13 "has_table_form" = true) (k13 : PySem.W.keepIn K (.ref f13) = true)
    (a14 : PySem.W.nsIn K mainGlobals "need_table" = some (some (.ref f14))) (l14 : K.lookup f14 = some ⟨oc14, od14, .func (PySem.W.fnOf "need_table" "need_table" (defArgs (top 14)) (defBody (top 14)) (defScope (top 14)) .none kV14 dc14 pm14 an14 cd14 ct14), sl14⟩) (c14 : PySem.W.codeIn K cd14 "need_table" = true) (k14 : PySem.W.keepIn K (.ref f14) = true)
    (a15 : PySem.W.nsIn K mainGlobals "need_same_size" = some (some (.ref f15))) (l15 : K.lookup f15 = some ⟨oc15, od15, .func (PySem.W.fnOf "need_same_size" "need_same_size" (defArgs (top 15)) (defBody (top 15)) (defScope (top 15)) .none kV15 dc15 pm15 an15 cd15 ct15), sl15⟩) (c15 : PySem.W.codeIn K cd15 "need_same_size" = true) (k15 : PySem.W.keepIn K (.ref f15) = true)
    (a18 : PySem.W.nsIn K mainGlobals "is_small_row" = some (some (.ref f18))) (l18 : K.lookup f18 = some ⟨oc18, od18, .func (PySem.W.fnOf "is_small_row" "is_small_row" (defArgs (top 18)) (defBody (top 18)) (defScope (top 18)) .none kV18 dc18 pm18 an18 cd18 ct18), sl18⟩) (c18 : PySem.W.codeIn K cd18 "is_small_row" = true) (k18 : PySem.W.keepIn K (.ref f18) = true)
    (a19 : PySem.W.nsIn K mainGlobals "is_table" = some (some (.ref f19))) (l19 : K.lookup f19 = some ⟨oc19, od19, .func (PySem.W.fnOf "is_table" "is_table" (defArgs (top 19)) (defBody (top 19)) (defScope (top 19)) .none kV19 dc19 pm19 an19 cd19 ct19), sl19⟩) (c19 : PySem.W.codeIn K cd19 "is_table" = true) (k19 : PySem.W.keepIn K (.ref f19) = true)
    (a21 : PySem.W.nsIn K mainGlobals "unlike_places" = some (some (.ref f21))) (l21 : K.lookup f21 = some ⟨oc21, od21, .func (PySem.W.fnOf "unlike_places" "unlike_places" (defArgs (top 21)) (defBody (top 21)) (defScope (top 21)) .none kV21 dc21 pm21 an21 cd21 ct21), sl21⟩) (c21 : PySem.W.codeIn K cd21 "unlike_places" = true) (k21 : PySem.W.keepIn K (.ref f21) = true)
    (a29 : PySem.W.nsIn K mainGlobals "_law_cell" = some (some (.ref f29))) (l29 : K.lookup f29 = some ⟨oc29, od29, .func (PySem.W.fnOf "_law_cell" "_law_cell" (defArgs (top 29)) (defBody (top 29)) (defScope (top 29)) .none kV29 dc29 pm29 an29 cd29 ct29), sl29⟩) (c29 : PySem.W.codeIn K cd29 "_law_cell" = true) (k29 : PySem.W.keepIn K (.ref f29) = true)
    (a30 : PySem.W.nsIn K mainGlobals "_law_pick" = some (some (.ref f30))) (l30 : K.lookup f30 = some ⟨oc30, od30, .func (PySem.W.fnOf "_law_pick" "_law_pick" (defArgs (top 30)) (defBody (top 30)) (defScope (top 30)) .none kV30 dc30 pm30 an30 cd30 ct30), sl30⟩) (c30 : PySem.W.codeIn K cd30 "_law_pick" = true) (k30 : PySem.W.keepIn K (.ref f30) = true)
    (a31 : PySem.W.nsIn K mainGlobals "_law_table" = some (some (.ref f31))) (l31 : K.lookup f31 = some ⟨oc31, od31, .func (PySem.W.fnOf "_law_table" "_law_table" (defArgs (top 31)) (defBody (top 31)) (defScope (top 31)) .none kV31 dc31 pm31 an31 cd31 ct31), sl31⟩) (c31 : PySem.W.codeIn K cd31 "_law_table" = true) (k31 : PySem.W.keepIn K (.ref f31) = true)
    (a33 : PySem.W.nsIn K mainGlobals "law" = some (some (.ref f33))) (l33 : K.lookup f33 = some ⟨oc33, od33, .func (PySem.W.fnOf "law" "law" (defArgs (top 33)) (defBody (top 33)) (defScope (top 33)) .none kV33 dc33 pm33 an33 (.ref c) ct33), sl33⟩) (c33 : PySem.W.codeIn K (.ref c) "law" = true) (k33 : PySem.W.keepIn K (.ref f33) = true)
    (m0 : PySem.W.nsIn K mainGlobals "MOST_LINES" = some (some (.int 4 tk0)))
    (m1 : PySem.W.nsIn K mainGlobals "MOST_NUMBER" = some (some (.int 99 tk1)))
    (z0 : PySem.W.nsIn K mainGlobals "len" = some none)
    (z1 : PySem.W.nsIn K mainGlobals "all" = some none)
    (z2 : PySem.W.nsIn K mainGlobals "tuple" = some none)
    (z3 : PySem.W.nsIn K mainGlobals "int" = some none)
    (z4 : PySem.W.nsIn K mainGlobals "bool" = some none)
    (z5 : PySem.W.nsIn K mainGlobals "isinstance" = some none)
    (z6 : PySem.W.nsIn K mainGlobals "range" = some none)
    (a25 : PySem.W.nsIn K mainGlobals "is_name" = some (some (.ref f25))) (l25 : K.lookup f25 = some ⟨oc25, od25, .func (PySem.W.fnOf "is_name" "is_name" (defArgs (top 25)) (defBody (top 25)) (defScope (top 25)) .none kV25 dc25 pm25 an25 cd25 ct25), sl25⟩) (c25 : PySem.W.codeIn K cd25 "is_name" = true) (k25 : PySem.W.keepIn K (.ref f25) = true)
    (a26 : PySem.W.nsIn K mainGlobals "need_name" = some (some (.ref f26))) (l26 : K.lookup f26 = some ⟨oc26, od26, .func (PySem.W.fnOf "need_name" "need_name" (defArgs (top 26)) (defBody (top 26)) (defScope (top 26)) .none kV26 dc26 pm26 an26 cd26 ct26), sl26⟩) (c26 : PySem.W.codeIn K cd26 "need_name" = true) (k26 : PySem.W.keepIn K (.ref f26) = true)
    (a32 : PySem.W.nsIn K mainGlobals "_law_stays" = some (some (.ref f32))) (l32 : K.lookup f32 = some ⟨oc32, od32, .func (PySem.W.fnOf "_law_stays" "_law_stays" (defArgs (top 32)) (defBody (top 32)) (defScope (top 32)) .none kV32 dc32 pm32 an32 cd32 ct32), sl32⟩) (c32 : PySem.W.codeIn K cd32 "_law_stays" = true) (k32 : PySem.W.keepIn K (.ref f32) = true)
    (aC : PySem.W.nsIn K mainGlobals "Case" = some (some (.ref C)))
    (yI : PySem.W.findIn K (.ref C) "__init__" = some (some (.ref fI))) (iI : PySem.W.isFn K (.ref fI) = true) (lI : K.lookup fI = some ⟨ocI, odI, .func (PySem.W.fnOf "__init__" "Case.__init__" (defArgs (inClass (top 27) 0)) (defBody (inClass (top 27) 0)) (defScope (inClass (top 27) 0)) .none kVI dcI pmI anI cdI ctI), slI⟩) (cI : PySem.W.codeIn K cdI "Case.__init__" = true) (kI : PySem.W.keepIn K (.ref fI) = true)
    (yS : PySem.W.findIn K (.ref C) "set_to" = some (some (.ref fS))) (iS : PySem.W.isFn K (.ref fS) = true) (lS : K.lookup fS = some ⟨ocS, odS, .func (PySem.W.fnOf "set_to" "Case.set_to" (defArgs (inClass (top 27) 1)) (defBody (inClass (top 27) 1)) (defScope (inClass (top 27) 1)) .none kVS dcS pmS anS cdS ctS), slS⟩) (cS : PySem.W.codeIn K cdS "Case.set_to" = true) (kS : PySem.W.keepIn K (.ref fS) = true)
    (yO : PySem.W.findIn K (.ref C) "do" = some (some (.ref fO))) (iO : PySem.W.isFn K (.ref fO) = true) (lO : K.lookup fO = some ⟨ocO, odO, .func (PySem.W.fnOf "do" "Case.do" (defArgs (inClass (top 27) 2)) (defBody (inClass (top 27) 2)) (defScope (inClass (top 27) 2)) .none kVO dcO pmO anO cdO ctO), slO⟩) (cO : PySem.W.codeIn K cdO "Case.do" = true) (kO : PySem.W.keepIn K (.ref fO) = true)
    (yP : PySem.W.findIn K (.ref C) "put" = some (some (.ref fP))) (iP : PySem.W.isFn K (.ref fP) = true) (lP : K.lookup fP = some ⟨ocP, odP, .func (PySem.W.fnOf "put" "Case.put" (defArgs (inClass (top 27) 3)) (defBody (inClass (top 27) 3)) (defScope (inClass (top 27) 3)) .none kVP dcP pmP anP cdP ctP), slP⟩) (cP : PySem.W.codeIn K cdP "Case.put" = true) (kP : PySem.W.keepIn K (.ref fP) = true)
    (yT : PySem.W.findIn K (.ref C) "table_of" = some (some (.ref fT))) (iT : PySem.W.isFn K (.ref fT) = true) (lT : K.lookup fT = some ⟨ocT, odT, .func (PySem.W.fnOf "table_of" "Case.table_of" (defArgs (inClass (top 27) 4)) (defBody (inClass (top 27) 4)) (defScope (inClass (top 27) 4)) .none kVT dcT pmT anT cdT ctT), slT⟩) (cT : PySem.W.codeIn K cdT "Case.table_of" = true) (kT : PySem.W.keepIn K (.ref fT) = true)
    (yN : PySem.W.findIn K (.ref C) "names" = some (some (.ref fN))) (iN : PySem.W.isFn K (.ref fN) = true) (lN : K.lookup fN = some ⟨ocN, odN, .func (PySem.W.fnOf "names" "Case.names" (defArgs (inClass (top 27) 9)) (defBody (inClass (top 27) 9)) (defScope (inClass (top 27) 9)) .none kVN dcN pmN anN cdN ctN), slN⟩) (cN : PySem.W.codeIn K cdN "Case.names" = true) (kN : PySem.W.keepIn K (.ref fN) = true)
    (yK : PySem.W.findIn K (.ref C) "counts" = some (some (.ref fK))) (iK : PySem.W.isFn K (.ref fK) = true) (lK : K.lookup fK = some ⟨ocK, odK, .func (PySem.W.fnOf "counts" "Case.counts" (defArgs (inClass (top 27) 13)) (defBody (inClass (top 27) 13)) (defScope (inClass (top 27) 13)) .none kVK dcK pmK anK cdK ctK), slK⟩) (cK : PySem.W.codeIn K cdK "Case.counts" = true) (kK : PySem.W.keepIn K (.ref fK) = true)
    (x1 : PySem.W.plainGet K C Str.empty = true) (x2 : PySem.W.hasDictIn K C = true) (x3 : PySem.W.plainOver K C = true) (x4 : PySem.W.findIn K (.ref C) "__setattr__" = some (some (.builtin "object.__setattr__"))) (x5 : PySem.W.findIn K (.ref C) "tables" = some none) (x6 : PySem.W.findIn K (.ref C) "done" = some none) (x7 : PySem.W.findIn K (.ref C) "undone" = some none) (x8 : PySem.W.makesIn K C = true) (x9 : PySem.W.keepIn K (.ref C) = true)
    (mA : PySem.W.nsIn K mainGlobals "MOST_LETTERS" = some (some (.int 4 tkA))) (mB : PySem.W.nsIn K mainGlobals "LETTERS" = some (some (.str "abcdefghijklmnopqrstuvwxyz" tkB)))
    (wA : PySem.W.nsIn K mainGlobals "str" = some none) (wB : PySem.W.nsIn K mainGlobals "list" = some none) (wC : PySem.W.nsIn K mainGlobals "sorted" = some none)
    : ∃ fd : FuncData, (∀ (s : Shared) (v : Value), BindsTo s fd ⟨[v], []⟩ [("_law_script", v)]) ∧ ∀ base : Heap, K.In base → base.Ns mainGlobals mg → PySem.W.CodeHd base c Pt → base.BuiltinsAt mg Pt → FnOk l.prog w K mg base CX0 31 fa fd ["_law_script"] (M91.spLaw K Pt) := by
  have e := hfa.symm.trans (PySem.W.mg_of X G a33)
  cases e
  have TX : Text K mg T := by
    refine ⟨?_, blt_in (l := bl) ?_, all_in (l := df) ?_⟩
    · intro x d hx
      simp only [T, cs, List.lookup_cons, List.lookup_nil] at hx
      split at hx
      · rename_i hb
        have e1 : x = "MOST_LINES" := by simpa using hb
        cases hx
        subst e1
        exact ⟨_, _, rfl, PySem.W.mg_of X G m0, ⟨_, rfl⟩⟩
      split at hx
      · rename_i hb
        have e1 : x = "MOST_NUMBER" := by simpa using hb
        cases hx
        subst e1
        exact ⟨_, _, rfl, PySem.W.mg_of X G m1, ⟨_, rfl⟩⟩
      · cases hx
    · intro p hp
      simp only [bl, List.mem_cons, List.not_mem_nil, or_false] at hp
      rcases hp with rfl | rfl | rfl | rfl | rfl | rfl | rfl
      · exact ⟨PySem.W.mg_none_of X G z0, rfl⟩
      · exact ⟨PySem.W.mg_none_of X G z1, rfl⟩
      · exact ⟨PySem.W.mg_none_of X G z2, rfl⟩
      · exact ⟨PySem.W.mg_none_of X G z3, rfl⟩
      · exact ⟨PySem.W.mg_none_of X G z4, rfl⟩
      · exact ⟨PySem.W.mg_none_of X G z5, rfl⟩
      · exact ⟨PySem.W.mg_none_of X G z6, rfl⟩
    · intro p hp
      simp only [df, List.mem_cons, List.not_mem_nil, or_false] at hp
      rcases hp with rfl | rfl | rfl | rfl | rfl | rfl | rfl | rfl | rfl | rfl | rfl | rfl | rfl | rfl | rfl
      · exact fun_at X G a8 l8 c8 k8 s8 b8 (by decide +kernel)
      · exact fun_at X G a9 l9 c9 k9 s9 b9 (by decide +kernel)
      · exact fun_at X G a10 l10 c10 k10 s10 b10 (by decide +kernel)
      · exact fun_at X G a11 l11 c11 k11 s11 b11 (by decide +kernel)
      · exact fun_at X G a12 l12 c12 k12 s12 b12 (by decide +kernel)
      · exact fun_at X G a13 l13 c13 k13 s13 b13 (by decide +kernel)
      · exact fun_at X G a14 l14 c14 k14 s14 b14 (by decide +kernel)
      · exact fun_at X G a15 l15 c15 k15 s15 b15 (by decide +kernel)
      · exact fun_at X G a18 l18 c18 k18 s18 b18 (by decide +kernel)
      · exact fun_at X G a19 l19 c19 k19 s19 b19 (by decide +kernel)
      · exact fun_at X G a21 l21 c21 k21 s21 b21 (by decide +kernel)
      · exact fun_at X G a29 l29 c29 k29 s29 b29 (by decide +kernel)
      · exact fun_at X G a30 l30 c30 k30 s30 b30 (by decide +kernel)
      · exact fun_at X G a31 l31 c31 k31 s31 b31 (by decide +kernel)
      · exact fun_at X G a33 l33 c33 k33 s33 b33 (by decide +kernel)
  have NM : M91.Nms mg := ⟨PySem.W.mg_none_of X G z0, PySem.W.mg_none_of X G z1, PySem.W.mg_none_of X G z5, PySem.W.mg_none_of X G wA, PySem.W.mg_none_of X G wB, PySem.W.mg_none_of X G wC, ⟨_, PySem.W.mg_of X G mA⟩, ⟨_, PySem.W.mg_of X G mB⟩⟩
  have CT : M91.CTxt K mg C := ⟨⟨x1, x2, x3, x4⟩, x5, x6, x7, PySem.W.mg_of X G aC⟩
  have F25 : Fun K "is_name" "is_name" M91.sIsName f25 _ := fun_mk l25 c25 k25
  have F26 : Fun K "need_name" "need_name" M91.sNeedName f26 _ := fun_mk l26 c26 k26
  have F32 : Fun K "_law_stays" "_law_stays" M91.sStays f32 _ := fun_mk l32 c32 k32
  have FI : Fun K "__init__" "Case.__init__" M91.sInit fI _ := fun_mk lI cI kI
  have FS : Fun K "set_to" "Case.set_to" M91.sSetTo fS _ := fun_mk lS cS kS
  have FO : Fun K "do" "Case.do" M91.sDo fO _ := fun_mk lO cO kO
  have FP : Fun K "put" "Case.put" M91.sPut fP _ := fun_mk lP cP kP
  have FT : Fun K "table_of" "Case.table_of" M91.sTableOf fT _ := fun_mk lT cT kT
  have FN : Fun K "names" "Case.names" M91.sNames fN _ := fun_mk lN cN kN
  have FK : Fun K "counts" "Case.counts" M91.sCounts fK _ := fun_mk lK cK kK
  have B25 := F25.binds (ps := ["thing"]) fun _ _ _ _ _ _ us hl => by obtain ⟨_, rfl⟩ := len1 hl; rfl
  have B26 := F26.binds (ps := ["thing"]) fun _ _ _ _ _ _ us hl => by obtain ⟨_, rfl⟩ := len1 hl; rfl
  have B32 := F32.binds (ps := ["_law_deed"]) fun _ _ _ _ _ _ us hl => by obtain ⟨_, rfl⟩ := len1 hl; rfl
  have BI := FI.binds (ps := ["self"]) fun _ _ _ _ _ _ us hl => by obtain ⟨_, rfl⟩ := len1 hl; rfl
  have BS := FS.binds (ps := ["self", "name", "table"]) fun _ _ _ _ _ _ us hl => by obtain ⟨_, _, _, rfl⟩ := len3 hl; rfl
  have BO := FO.binds (ps := ["self", "word", "name", "table"]) fun _ _ _ _ _ _ us hl => by obtain ⟨_, _, _, _, rfl⟩ := len4 hl; rfl
  have BP := FP.binds (ps := ["self", "name", "table"]) fun _ _ _ _ _ _ us hl => by obtain ⟨_, _, _, rfl⟩ := len3 hl; rfl
  have BT := FT.binds (ps := ["self", "name"]) fun _ _ _ _ _ _ us hl => by obtain ⟨_, _, rfl⟩ := len2 hl; rfl
  have BN := FN.binds (ps := ["self"]) fun _ _ _ _ _ _ us hl => by obtain ⟨_, rfl⟩ := len1 hl; rfl
  have BK := FK.binds (ps := ["self"]) fun _ _ _ _ _ _ us hl => by obtain ⟨_, rfl⟩ := len1 hl; rfl
  refine ⟨_, fun s v => .of_eq (b33 kV33 dc33 pm33 an33 (.ref c) ct33 [v] rfl), fun base hK hN hC hB => ?_⟩
  refine M91.ok_law (call := callN T 60 20) (T := T) (F := 60) (kU := 19) (fdU := mkFd (top 21)) (b1 := b1U) l33 c33
    { ct := CT, nms := NM
      tab := ⟨f31, _, PySem.W.mg_of X G a31, k31, (fun_mk l31 c31 k31).binds b31, fun base _ _ => all_ok (F := 60) TX 20 "_law_table" (mkFd (top 31)) (top 31) f31 _ rfl (fun_mk l31 c31 k31) rfl rfl s31⟩
      mak := ⟨fI, _, ⟨x8, yI, iI, x9⟩, FI, BI⟩
      put := ⟨fP, _, ⟨yP, iP, kP⟩, BP, fun base _ _ => M91.ok_put (kt := 20) FP CT (all_ok (F := 60) TX 20 "is_table" (mkFd (top 19)) (top 19) f19 _ rfl (fun_mk l19 c19 k19) rfl rfl s19) (PySem.W.mg_of X G a19) k19 ((fun_mk l19 c19 k19).binds b19) (by decide) F26 (PySem.W.mg_of X G a26) B26 F25 (PySem.W.mg_of X G a25) B25 NM FO BO ⟨yO, iO, kO⟩ FS BS ⟨yS, iS, kS⟩⟩
      tabo := ⟨fT, _, ⟨yT, iT, kT⟩, BT, fun base _ _ => M91.ok_tab FT CT F26 (PySem.W.mg_of X G a26) B26 F25 (PySem.W.mg_of X G a25) B25 NM⟩
      nam := ⟨fN, _, ⟨yN, iN, kN⟩, BN, fun base _ _ => M91.ok_names FN CT NM⟩
      cnt := ⟨fK, _, ⟨yK, iK, kK⟩, BK, fun base _ _ => M91.ok_counts FK CT NM⟩
      stay := ⟨f32, _, F32, PySem.W.mg_of X G a32, B32⟩
      unl := ⟨f21, _, PySem.W.mg_of X G a21, k21, (fun_mk l21 c21 k21).binds b21, rfl, fun base _ _ => own_ok (F := 60) (k := 19) TX (f := "unlike_places") (fd := mkFd (top 21)) (t := top 21) rfl (fun_mk l21 c21 k21) rfl rfl s21 rfl rfl (by decide +kernel) (by decide +kernel)⟩ } (by decide) hK hN hC hB fun ns hl => ?_
  obtain ⟨r, co, go⟩ := unlike_run 15 (m := 2) (n := 3) (f := tabV ns 10) (g := tabV ns 60) (by decide) (by decide) (by decide) (by decide)
  exact ⟨tbl 2 3 (tabV ns 10), tbl 2 3 (tabV ns 60), acc 3 (tabV ns 10) (tabV ns 60) 2, _, _, 2, _, table 17 ns 10 (m := 2) (n := 3) (by decide) (by decide), table 17 ns 60 (m := 2) (n := 3) (by decide) (by decide), rfl, rfl, Nat.le_trans dep_tbl (by decide), is_table 16 (by decide) (by decide) (by decide) (by decide) (fun i j _ _ => tab_in), go, rfl, Nat.le_trans (acc_len _ _ 2) (by decide), acc_dep 2⟩
end N91

set_option Elab.async false
set_option maxRecDepth 100000
open PySem PySem.W PyProof.Rows
set_option maxRecDepth 100000 in
set_option maxHeartbeats 0 in
theorem PySem.Challenge.cw_minortables_k91_whole_told_lists_holds : PySem.Challenge.rw_minortables_k91_whole_told_lists.Holds := by
  w_on; o_law; k_head; (case hw => w_witness2)
  k_fill
  refine M91.walk91 (l := PySem.Challenge.rw_minortables_k91_whole_told_lists) (k := 31) (x := "_law_script") (c := 302) (Pt := 298) rfl rfl ⟨rfl, by decide, by decide⟩ (fun w h Y => ⟨PySem.W.km_in_of Y, PySem.W.km_tabs_of Y 298 (by simp)⟩) (fun P => by kernel_rfl) (fun P => by kernel_rfl) ?F
  case F =>
    intro w mg fa h KX G hmg
    refine' N91.all_mk91 (c := 302) (Pt := 298) KX G hmg ?a8 ?l8 ?c8 ?k8 ?a9 ?l9 ?c9 ?k9 ?a10 ?l10 ?c10 ?k10 ?a11 ?l11 ?c11 ?k11 ?a12 ?l12 ?c12 ?k12 ?a13 ?l13 ?c13 ?k13 ?a14 ?l14 ?c14 ?k14 ?a15 ?l15 ?c15 ?k15 ?a18 ?l18 ?c18 ?k18 ?a19 ?l19 ?c19 ?k19 ?a21 ?l21 ?c21 ?k21 ?a29 ?l29 ?c29 ?k29 ?a30 ?l30 ?c30 ?k30 ?a31 ?l31 ?c31 ?k31 ?a33 ?l33 ?c33 ?k33 ?m0 ?m1 ?z0 ?z1 ?z2 ?z3 ?z4 ?z5 ?z6 ?a25 ?l25 ?c25 ?k25 ?a26 ?l26 ?c26 ?k26 ?a32 ?l32 ?c32 ?k32 ?aC ?yI ?iI ?lI ?cI ?kI ?yS ?iS ?lS ?cS ?kS ?yO ?iO ?lO ?cO ?kO ?yP ?iP ?lP ?cP ?kP ?yT ?iT ?lT ?cT ?kT ?yN ?iN ?lN ?cN ?kN ?yK ?iK ?lK ?cK ?kK ?x1 ?x2 ?x3 ?x4 ?x5 ?x6 ?x7 ?x8 ?x9 ?mA ?mB ?wA ?wB ?wC
    (case a8 => k_is)
    (case l8 => k_is)
    (case c8 => k_is)
    (case k8 => k_is)
    (case a9 => k_is)
    (case l9 => k_is)
    (case c9 => k_is)
    (case k9 => k_is)
    (case a10 => k_is)
    (case l10 => k_is)
    (case c10 => k_is)
    (case k10 => k_is)
    (case a11 => k_is)
    (case l11 => k_is)
    (case c11 => k_is)
    (case k11 => k_is)
    (case a12 => k_is)
    (case l12 => k_is)
    (case c12 => k_is)
    (case k12 => k_is)
    (case a13 => k_is)
    (case l13 => k_is)
    (case c13 => k_is)
    (case k13 => k_is)
    (case a14 => k_is)
    (case l14 => k_is)
    (case c14 => k_is)
    (case k14 => k_is)
    (case a15 => k_is)
    (case l15 => k_is)
    (case c15 => k_is)
    (case k15 => k_is)
    (case a18 => k_is)
    (case l18 => k_is)
    (case c18 => k_is)
    (case k18 => k_is)
    (case a19 => k_is)
    (case l19 => k_is)
    (case c19 => k_is)
    (case k19 => k_is)
    (case a21 => k_is)
    (case l21 => k_is)
    (case c21 => k_is)
    (case k21 => k_is)
    (case a29 => k_is)
    (case l29 => k_is)
    (case c29 => k_is)
    (case k29 => k_is)
    (case a30 => k_is)
    (case l30 => k_is)
    (case c30 => k_is)
    (case k30 => k_is)
    (case a31 => k_is)
    (case l31 => k_is)
    (case c31 => k_is)
    (case k31 => k_is)
    (case a33 => k_is)
    (case l33 => k_is)
    (case c33 => k_is)
    (case k33 => k_is)
    (case m0 => k_is)
    (case m1 => k_is)
    (case z0 => k_is)
    (case z1 => k_is)
    (case z2 => k_is)
    (case z3 => k_is)
    (case z4 => k_is)
    (case z5 => k_is)
    (case z6 => k_is)
    (case a25 => k_is)
    (case l25 => k_is)
    (case c25 => k_is)
    (case k25 => k_is)
    (case a26 => k_is)
    (case l26 => k_is)
    (case c26 => k_is)
    (case k26 => k_is)
    (case a32 => k_is)
    (case l32 => k_is)
    (case c32 => k_is)
    (case k32 => k_is)
    (case aC => k_is)
    (case yI => k_is)
    (case iI => k_is)
    (case lI => k_is)
    (case cI => k_is)
    (case kI => k_is)
    (case yS => k_is)
    (case iS => k_is)
    (case lS => k_is)
    (case cS => k_is)
    (case kS => k_is)
    (case yO => k_is)
    (case iO => k_is)
    (case lO => k_is)
    (case cO => k_is)
    (case kO => k_is)
    (case yP => k_is)
    (case iP => k_is)
    (case lP => k_is)
    (case cP => k_is)
    (case kP => k_is)
    (case yT => k_is)
    (case iT => k_is)
    (case lT => k_is)
    (case cT => k_is)
    (case kT => k_is)
    (case yN => k_is)
    (case iN => k_is)
    (case lN => k_is)
    (case cN => k_is)
    (case kN => k_is)
    (case yK => k_is)
    (case iK => k_is)
    (case lK => k_is)
    (case cK => k_is)
    (case kK => k_is)
    (case x1 => k_is)
    (case x2 => k_is)
    (case x3 => k_is)
    (case x4 => k_is)
    (case x5 => k_is)
    (case x6 => k_is)
    (case x7 => k_is)
    (case x8 => k_is)
    (case x9 => k_is)
    (case mA => k_is)
    (case mB => k_is)
    (case wA => k_is)
    (case wB => k_is)
    (case wC => k_is)
#print axioms PySem.Challenge.cw_minortables_k91_whole_told_lists_holds

