import PyProof.Rows.All
import Wide.All
import OpenK.AllK
import Wide.FinOn
import Lean
import PyProof.EqAt
import PyProof.EqKinds
import PyProof.TupleCall
import KE.KLam
import KE.KSortKey
import PyProof.ListRange
import PyProof.CollectIter
import PyProof.Rows.RuleB_bool
import PySem.Challenge.RW_cratefit_k76_deeds_at_the_desk
set_option Elab.async false
set_option linter.all false
set_option maxRecDepth 100000
namespace L2
open PySem PySem.Spec PyProof.Rows
abbrev Key := Sum Int Str
def keyIs : Key → Value → Bool
 | .inl k, v => Value.isInt k v
 | .inr x, v => Value.isStrOf x v
def keyH (w : World) : Key → Int
 | .inl k => hashInt k
 | .inr x => hashStr w x
theorem keyIs_shape : ∀ {k : Key} {v : Value}, keyIs k v = true → (∃ i t, k = Sum.inl i ∧ v = Value.int i t) ∨ (∃ x t, k = Sum.inr x ∧ v = Value.str x t)
 | .inl i, v, h => by
  obtain ⟨t, e⟩ := Value.isInt_shape (k := i) (v := v) h
  exact .inl ⟨i, t, rfl, e⟩
 | .inr x, v, h => by
  obtain ⟨t, e⟩ := Value.isStrOf_shape (x := x) (v := v) h
  exact .inr ⟨x, t, rfl, e⟩
theorem key_ll (a b : Int) : decide ((Sum.inl a : Key) = Sum.inl b) = (a == b) := by
 by_cases e : a = b
 ·subst e; simp
 ·have h : ¬ (Sum.inl a : Key) = Sum.inl b := fun q => e (Sum.inl.inj q)
  rw [decide_eq_false h]
  exact (beq_eq_false_iff_ne.mpr e).symm
theorem key_rr (a b : Str) : decide ((Sum.inr a : Key) = Sum.inr b) = decide (a = b) := by
 by_cases e : a = b
 ·subst e; simp
 ·have h : ¬ (Sum.inr a : Key) = Sum.inr b := fun q => e (Sum.inr.inj q)
  rw [decide_eq_false h, decide_eq_false e]
theorem key_lr (a : Int) (b : Str) : decide ((Sum.inl a : Key) = Sum.inr b) = false := decide_eq_false (fun q => nomatch q)
theorem key_rl (a : Str) (b : Int) : decide ((Sum.inr a : Key) = Sum.inl b) = false := decide_eq_false (fun q => nomatch q)
def mixKind (prog : Program) (w : World) : PySem.KeyKind prog w Key where
 is := keyIs
 hash := keyH w
 inj := fun v a b ha hb => by
  rcases keyIs_shape ha with ⟨i, t, rfl, rfl⟩ | ⟨x, t, rfl, rfl⟩
  ·rcases keyIs_shape hb with ⟨j, u, rfl, e⟩ | ⟨y, u, rfl, e⟩
   ·injection e with e1 _; rw [e1]
   ·exact nomatch e
  ·rcases keyIs_shape hb with ⟨j, u, rfl, e⟩ | ⟨y, u, rfl, e⟩
   ·exact nomatch e
   ·injection e with e1 _; rw [e1]
 byValue := fun k v h => by
  rcases keyIs_shape h with ⟨i, t, rfl, rfl⟩ | ⟨x, t, rfl, rfl⟩ <;> rfl
 pyHash := fun hv h => by
  rcases keyIs_shape hv with ⟨i, t, rfl, rfl⟩ | ⟨x, t, rfl, rfl⟩
  ·exact wpAny_pyHash_int h
  ·exact wpAny_pyHash_str h
 eqBool := fun hu hv h => by
  rcases keyIs_shape hu with ⟨i, t, rfl, rfl⟩ | ⟨x, t, rfl, rfl⟩
  ·rcases keyIs_shape hv with ⟨j, u, rfl, rfl⟩ | ⟨y, u, rfl, rfl⟩
   ·rw [key_ll] at h; exact wpAny_eqBool_int h
   ·rw [key_lr] at h; exact SeqAt.EqAt.int_str i t y u _ _ _ _ h
  ·rcases keyIs_shape hv with ⟨j, u, rfl, rfl⟩ | ⟨y, u, rfl, rfl⟩
   ·rw [key_rl] at h; exact SeqAt.EqAt.str_int x t j u _ _ _ _ h
   ·rw [key_rr] at h; exact wpAny_eqBool_str h
 «strs» := fun k x t v h => by
  rcases keyIs_shape h with ⟨i, u, rfl, e⟩ | ⟨y, u, rfl, e⟩
  ·exact nomatch e
  ·injection e with e1 _
   subst e1
   cases v <;> rfl
inductive V where
 | non | bl (b : Bool) | int (i : Int) | str (x : Str) | byt (b : Array UInt8) | flt (b : UInt64) | ref (a : Addr) | ty (n : String)
 deriving DecidableEq
def RelV : V → Value → Prop
 | .non, u => u = Value.none
 | .bl b, u => u = Value.bool b
 | .int i, u => ∃ t, u = Value.int i t
 | .str x, u => ∃ t, u = Value.str x t
 | .byt b, u => ∃ t, u = Value.bytes b t
 | .flt b, u => ∃ t, u = Value.float b t
 | .ref a, u => u = Value.ref a
 | .ty n, u => u = Value.type n
abbrev Vals : List V → List Value → Prop := Paired RelV
theorem Vals.length {xs : List V} {us : List Value} (r : Vals xs us) : xs.length = us.length := Paired.length r
theorem Vals.get : ∀ {xs : List V} {us : List Value} {i : Nat} {x : V}, Vals xs us → xs[i]? = some x → ∃ u, us[i]? = some u ∧ RelV x u
 | _, _, _, _, .nil, e => by simp at e
 | _, _, 0, _, .cons r _, e => by simp at e; subst e; exact ⟨_, rfl, r⟩
 | _, _, i + 1, x, .cons _ t, e => by
  obtain ⟨u, h1, h2⟩ := Vals.get (i := i) (x := x) t (by simpa using e)
  exact ⟨u, by simpa using h1, h2⟩
theorem Vals.append : ∀ {xs ys : List V} {us ws : List Value}, Vals xs us → Vals ys ws → Vals (xs ++ ys) (us ++ ws)
 | _, _, _, _, .nil, s => s
 | _, _, _, _, .cons r t, s => .cons r (Vals.append t s)
theorem Vals.take : ∀ {xs : List V} {us : List Value} (n : Nat), Vals xs us → Vals (xs.take n) (us.take n)
 | _, _, 0, _ => .nil
 | _, _, _ + 1, .nil => .nil
 | _, _, n + 1, .cons r t => .cons r (Vals.take n t)
theorem Vals.drop : ∀ {xs : List V} {us : List Value} (n : Nat), Vals xs us → Vals (xs.drop n) (us.drop n)
 | _, _, 0, r => r
 | _, _, _ + 1, .nil => .nil
 | _, _, n + 1, .cons _ t => Vals.drop n t
def RelO : Option V → Option Value → Prop
 | some v, some u => RelV v u
 | none, none => True
 | _, _ => False
def KV {κ : Type} : List (κ × V) → List (κ × Value) → Prop := Paired fun (p : κ × V) (q : κ × Value) => p.1 = q.1 ∧ RelV p.2 q.2
def kV : Key → V
 | .inl i => .int i
 | .inr x => .str x
inductive HO where
 /-- a list -/
 | lst (xs : List V)
 /-- a tuple (never changes) -/
 | tup (xs : List V)
 /-- a dict whose keys are ints and texts; one whose keys are tuples of ints and texts (the empty one is both) -/
 | dK (kvs : List (Key × V)) | dT (kvs : List (List Key × V))
 /-- a set of ints: its members, its size -/
 | set (S : Int → Bool) (n : Nat)
 /-- an instance of the class at C, its dict at dx, its attributes -/
 | ins (C dx : Addr) (fs : List (Str × V))
 /-- the dict of the instance at x -/
 | own (x : Addr)
 /-- the dict of an exception -/
 | xd (fs : List (Str × V))
 /-- a bound method, f of x -/
 | met (f x : Addr)
 /-- a range object lo, lo + 1, .. below hi -/
 | rng (lo hi : Int)
 /-- a thing that is known to the object (the script; a dict while a loop walks it): read, never written while it is so -/
 | frz (o : Obj) (u : HO)
 /-- a code object's table -/
 | tbl (ps : Array Value)
 /-- any other thing, by what is true of its one object (a def of one's own: SetO a S n := HO.ext fun h => ..) -/
 | ext (φ : Heap → Prop)
abbrev Hp := Addr → Option HO
def upd (H : Hp) (a : Addr) (o : HO) : Hp := fun b => if b = a then some o else H b
theorem upd_same {H : Hp} {a : Addr} {o : HO} : upd H a o a = some o := by unfold upd; rw [if_pos rfl]
theorem upd_ne {H : Hp} {a b : Addr} {o : HO} (h : b ≠ a) : upd H a o b = H b := by unfold upd; rw [if_neg h]
theorem ne_of_none {H : Hp} {a b : Addr} {o : HO} (h : H a = some o) (h' : H b = none) : a ≠ b := by
 intro e; subst e; rw [h] at h'; cases h'
section
variable (P : Program) (w : World)
def ObjOk (H : Hp) (h : Heap) (a : Addr) : HO → Prop
 | .lst xs => xs.length ≤ sizeLine ∧ ∃ (its : List Value) (n : Nat), Vals xs its ∧ h.get? a = some { cls := .type "list", data := .seq its.toArray n }
 | .tup xs => xs.length ≤ sizeLine ∧ ∃ its : List Value, Vals xs its ∧ IsTup h a its.toArray
 | .dK kvs => kvs.length ≤ sizeLine ∧ (a == sysModules) = false ∧ ∃ vs, KV kvs vs ∧ h.DictOf (mixKind P w) a vs
 | .dT kvs => kvs.length ≤ sizeLine ∧ (a == sysModules) = false ∧ ∃ xs : List (List Key × Addr × Value),
   Paired (fun (p : List Key × V) (q : List Key × Addr × Value) => p.1 = q.1 ∧ H q.2.1 = some (.tup (p.1.map kV)) ∧ RelV p.2 q.2.2) kvs xs ∧
   ∃ o es ep, h.get? a = some o ∧ o.ExactDict ∧ o.data = .dict es ep ∧ es.toList = xs.map (entryOfKey (tupleKind (mixKind P w))) ∧ (xs.map (·.1)).Nodup
 | .set S n => h.SetOf (intKind P w) a S n
 | .ins C dx fs => H dx = some (.own a) ∧ fs.length ≤ 1000 ∧ dx ≠ a ∧ h.get? a = some (W.instObj C dx) ∧
   ∃ mA, h.Ns1 dx mA ∧ (∀ f, RelO (fs.lookup f) (mA f)) ∧ PySem.Within mA (fs.map (·.1))
 | .own _ => ∃ o, h.get? a = some o
 | .xd fs => ∃ mA, h.Ns1 a mA ∧ ∀ f, RelO (fs.lookup f) (mA f)
 | .rng lo hi => ∃ t u v, h.get? a = some { cls := .type "range", data := .fields #[.int lo t, .int hi u, .int 1 v] }
 | .frz o u => h.get? a = some o ∧ ObjOk H h a u
 | .tbl qs => ∃ ps : Array Value, h.get? a = some { cls := .none, data := .fields ps } ∧ TriplesOk ps.toList ∧ ∀ pos cv, codeAmong pos ps.toList = some cv → ∃ c oc u, cv = Value.ref c ∧ H c = some (.frz oc u) ∧ ∃ vs q t t2, oc.data = .fields vs ∧ vs[1]? = some (Value.str q t2) ∧ qs[0]? = some (Value.str q t)
 | .met f x => h.get? a = some (W.methodObj (.ref f) (.ref x))
 | .ext φ => φ h ∧ (∃ o, h.get? a = some o) ∧ ∀ h1 h2 : Heap, φ h1 → (∀ o, h1.get? a = some o → h2.get? a = some o) → φ h2
def HOk (H : Hp) (h : Heap) : Prop := ∀ a o, H a = some o → ObjOk P w H h a o
end
section
variable {P : Program} {w : World} {H H' : Hp} {h h' : Heap} {a : Addr} {o : HO}
theorem ObjOk.lt (x : ObjOk P w H h a o) : a < h.objs.size := by
 cases o with
 | lst xs => obtain ⟨_, _, _, _, e⟩ := x; exact Heap.lt_size e
 | tup xs => obtain ⟨_, _, _, p⟩ := x; exact p.lt
 | dK kvs => obtain ⟨_, _, _, _, o, _, _, e, _⟩ := x; exact Heap.lt_size e
 | dT kvs => obtain ⟨_, _, _, _, o, _, _, e, _⟩ := x; exact Heap.lt_size e
 | set S n => obtain ⟨o, _, _, _, e, _⟩ := x; exact Heap.lt_size e
 | ins C dx fs => obtain ⟨_, _, _, e, _⟩ := x; exact Heap.lt_size e
 | own y => obtain ⟨_, e⟩ := x; exact Heap.lt_size e
 | xd fs => obtain ⟨_, ⟨_, _, _, e, _⟩, _⟩ := x; exact Heap.lt_size e
 | rng lo hi => obtain ⟨_, _, _, e⟩ := x; exact Heap.lt_size e
 | frz ob u => obtain ⟨e, _⟩ := x; exact Heap.lt_size e
 | tbl ps => obtain ⟨_, e, _⟩ := x; exact Heap.lt_size e
 | met f y => exact Heap.lt_size (show h.get? a = some _ from x)
 | ext φ => obtain ⟨_, ⟨_, e⟩, _⟩ := x; exact Heap.lt_size e
theorem Paired.mapP {α β : Type} {F G : α → β → Prop} : ∀ {l₁ : List α} {l₂ : List β}, Paired F l₁ l₂ → (∀ a b, F a b → G a b) → Paired G l₁ l₂
 | _, _, .nil, _ => .nil
 | _, _, .cons r t, f => .cons (f _ _ r) (Paired.mapP t f)
theorem ObjOk.stay (x : ObjOk P w H h a o) (k : ∀ b u, (b = a ∨ H b = some (.own a)) → h.get? b = some u → h'.get? b = some u)
  (ho : ∀ b, H b = some (.own a) → H' b = some (.own a)) (ht : ∀ b xs, H b = some (.tup xs) → H' b = some (.tup xs)) (hz : ∀ b ob u, H b = some (.frz ob u) → H' b = some (.frz ob u)) : ObjOk P w H' h' a o := by
 induction o with
 | lst xs => obtain ⟨z, its, n, r, e⟩ := x; exact ⟨z, its, n, r, k _ _ (.inl rfl) e⟩
 | tup xs => obtain ⟨z, its, r, ob, e, c⟩ := x; exact ⟨z, its, r, ob, k _ _ (.inl rfl) e, c⟩
 | dK kvs => obtain ⟨z, y, vs, r, ob, es, ep, e, c⟩ := x; exact ⟨z, y, vs, r, ob, es, ep, k _ _ (.inl rfl) e, c⟩
 | dT kvs =>
  obtain ⟨z, y, xs, r, ob, es, ep, e, c⟩ := x
  exact ⟨z, y, xs, Paired.mapP r fun p q z => ⟨z.1, ht _ _ z.2.1, z.2.2⟩, ob, es, ep, k _ _ (.inl rfl) e, c⟩
 | set S n => obtain ⟨ob, es, ep, t, e, c⟩ := x; exact ⟨ob, es, ep, t, k _ _ (.inl rfl) e, c⟩
 | ins C dx fs =>
  obtain ⟨d, z, ne, e, mA, ⟨od, es, ep, e2, c⟩, r⟩ := x
  exact ⟨ho _ d, z, ne, k _ _ (.inl rfl) e, mA, ⟨od, es, ep, k _ _ (.inr d) e2, c⟩, r⟩
 | own y => obtain ⟨ob, e⟩ := x; exact ⟨ob, k _ _ (.inl rfl) e⟩
 | xd fs => obtain ⟨mA, ⟨od, es, ep, e, c⟩, r⟩ := x; exact ⟨mA, ⟨od, es, ep, k _ _ (.inl rfl) e, c⟩, r⟩
 | rng lo hi => obtain ⟨t, u, v, e⟩ := x; exact ⟨t, u, v, k _ _ (.inl rfl) e⟩
 | frz ob u ih => obtain ⟨e, q⟩ := x; exact ⟨k _ _ (.inl rfl) e, ih q⟩
 | tbl qs =>
  obtain ⟨ps, e, tr, al⟩ := x
  refine ⟨ps, k a _ (.inl rfl) e, tr, fun pos cv q => ?_⟩
  obtain ⟨c, oc, u, e1, e3, r⟩ := al pos cv q
  exact ⟨c, oc, u, e1, hz _ _ _ e3, r⟩
 | met f y =>
  have e : h.get? a = some (W.methodObj (.ref f) (.ref y)) := x
  show h'.get? a = some (W.methodObj (.ref f) (.ref y))
  exact k a _ (.inl rfl) e
 | ext φ => obtain ⟨p, ⟨o, e⟩, st⟩ := x; exact ⟨st _ _ p fun o q => k _ _ (.inl rfl) q, ⟨o, k _ _ (.inl rfl) e⟩, st⟩
theorem HOk.lt (x : HOk P w H h) (e : H a = some o) : a < h.objs.size := (x a o e).lt
theorem HOk.fresh (x : HOk P w H h) (e : h.objs.size ≤ a) : H a = none := by
 cases q : H a with
 | none => rfl
 | some u => exact absurd (Nat.lt_of_lt_of_le (x.lt q) e) (Nat.lt_irrefl _)
theorem HOk.kept (x : HOk P w H h) (k : ∀ b u, h.get? b = some u → h'.get? b = some u) : HOk P w H h' := fun a o e =>
 (x a o e).stay (fun b u _ q => k b u q) (fun _ q => q) (fun _ _ q => q) fun _ _ _ q => q
theorem HOk.laid (x : HOk P w H h) (k : ∀ b u, h.get? b = some u → h'.get? b = some u) (hp : h.objs.size ≤ a) (new : ObjOk P w (upd H a o) h' a o) : HOk P w (upd H a o) h' := fun b u e => by
 have hn := x.fresh hp
 by_cases hb : b = a
 ·subst hb; rw [upd_same] at e; cases e; exact new
 ·rw [upd_ne hb] at e
  exact (x b u e).stay (fun c v _ q => k c v q) (fun c q => by rw [upd_ne (ne_of_none q hn)]; exact q) (fun c xs q => by rw [upd_ne (ne_of_none q hn)]; exact q) fun c ob u q => by rw [upd_ne (ne_of_none q hn)]; exact q
end
def Rd (H : Hp) (a : Addr) (u : HO) : Prop := H a = some u ∨ ∃ o, H a = some (.frz o u)
theorem Rd.ok {P : Program} {w : World} {H : Hp} {h : Heap} {a : Addr} {u : HO} (r : Rd H a u) (x : HOk P w H h) : ObjOk P w H h a u := by
 rcases r with r | ⟨o, r⟩
 ·exact x a u r
 ·obtain ⟨_, q⟩ := x a _ r
  exact q
def Mut : Option HO → Prop
 | some (.lst _) => True
 | some (.dK _) => True
 | some (.dT _) => True
 | some (.set _ _) => True
 | some (.ins _ _ _) => True
 | some (.ext _) => True
 | _ => False
section
variable {P : Program} {w : World} {H : Hp} {h h' : Heap} {x e : Addr} {o' : HO}
theorem HOk.write (ok : HOk P w H h) (mu : Mut (H x)) (he : e = x ∨ H e = some (.own x)) (k : ∀ b u, b ≠ e → h.get? b = some u → h'.get? b = some u) (heo : ∃ u, h'.get? e = some u)
  (new : ObjOk P w (upd H x o') h' x o') : HOk P w (upd H x o') h' := fun b u q => by
 have nown : ∀ c y, H c = some (.own y) → c ≠ x := fun c y r z => by subst z; rw [r] at mu; exact mu
 have ntup : ∀ c xs, H c = some (.tup xs) → c ≠ x := fun c xs r z => by subst z; rw [r] at mu; exact mu
 by_cases hb : b = x
 ·subst hb; rw [upd_same] at q; cases q; exact new
 ·rw [upd_ne hb] at q
  by_cases hbe : b = e
  ·have q' : H b = some (.own x) := by
    rcases he with z | z
    ·exact absurd (hbe.trans z) hb
    ·rw [hbe]; exact z
   rw [q] at q'; cases q'
   obtain ⟨v, hv⟩ := heo
   exact ⟨v, by rw [hbe]; exact hv⟩
  ·refine (ok b u q).stay (fun c v hc r => k c v ?_ r) (fun c r => by rw [upd_ne (nown c b r)]; exact r) (fun c xs r => by rw [upd_ne (ntup c xs r)]; exact r) fun c ob u r => by rw [upd_ne (fun z => by subst z; rw [r] at mu; exact mu)]; exact r
   rcases hc with rfl | hc
   ·exact hbe
   ·rintro rfl
    rcases he with z | z
    ·exact nown c b hc z
    ·rw [hc] at z; cases z; exact hb rfl
end
structure Un (fs ex : List Addr) (H H' : Hp) (h h' : Heap) : Prop where
 keep : ∀ b o, h.get? b = some o → H b = none → b ∉ fs → b ∉ ex → h'.get? b = some o
 slot : ∀ b o, h.get? b = some o → H b = none → b ∈ fs → b ∉ ex → ∃ sl, h'.get? b = some { o with slots := sl }
 free : ∀ b o, h.get? b = some o → H b = none → b ∉ ex → H' b = none
 there : ∀ b o, h.get? b = some o → b ∉ ex → ∃ o', h'.get? b = some o'
 tups : ∀ b xs, H b = some (.tup xs) → H' b = some (.tup xs)
 frzs : ∀ b o u, H b = some (.frz o u) → H' b = some (.frz o u)
 tbls : ∀ b ps, H b = some (.tbl ps) → ∃ more, H' b = some (.tbl (ps ++ more))
section
variable {fs fs' ex ex' : List Addr} {H H1 H2 : Hp} {h h1 h2 h' : Heap} {a x e : Addr} {o : HO}
theorem Un.any (u : Un fs ex H H1 h h1) {b : Addr} {ob : Obj} (q : h.get? b = some ob) (n : H b = none) (hx : b ∉ ex) : ∃ sl, h1.get? b = some { ob with slots := sl } := by
 by_cases hb : b ∈ fs
 ·exact u.slot b ob q n hb hx
 ·exact ⟨ob.slots, u.keep b ob q n hb hx⟩
theorem Un.kept (k : ∀ b u, h.get? b = some u → h'.get? b = some u) : Un fs ex H H h h' :=
 ⟨fun b ob q _ _ _ => k b ob q, fun b ob q _ _ _ => ⟨ob.slots, k b ob q⟩, fun _ _ _ n _ => n, fun b ob q _ => ⟨ob, k b ob q⟩, fun _ _ q => q, fun _ _ _ q => q, fun _ ps q => ⟨#[], by rw [q]; simp⟩⟩
theorem Un.refl : Un fs ex H H h h := Un.kept fun _ _ q => q
theorem Un.laid (k : ∀ b u, h.get? b = some u → h'.get? b = some u) (hp : h.objs.size ≤ a) (hn : H a = none) : Un fs ex H (upd H a o) h h' where
 keep := fun b u q _ _ _ => k b u q
 slot := fun b u q _ _ _ => ⟨u.slots, k b u q⟩
 free := fun b u q n _ => by rw [upd_ne (Nat.ne_of_lt (Nat.lt_of_lt_of_le (Heap.lt_size q) hp))]; exact n
 there := fun b u q _ => ⟨u, k b u q⟩
 tups := fun b xs q => by rw [upd_ne (ne_of_none q hn)]; exact q
 frzs := fun b u xs q => by rw [upd_ne (ne_of_none q hn)]; exact q
 tbls := fun b ps q => ⟨#[], by rw [upd_ne (ne_of_none q hn), q]; simp⟩
theorem Un.write (mu : Mut (H x)) (he : e = x ∨ H e = some (.own x)) (k : ∀ b u, b ≠ e → h.get? b = some u → h'.get? b = some u) (heo : ∃ u, h'.get? e = some u) : Un fs ex H (upd H x o) h h' := by
 have hx : ∀ b, H b = none → b ≠ x := fun b n z => by subst z; rw [n] at mu; exact mu
 have hb : ∀ b, H b = none → b ≠ e := fun b n z => by
  subst z
  rcases he with r | r
  ·exact hx b n r
  ·rw [n] at r; cases r
 have hm : ∀ b u, H b = some u → ¬ Mut (some u) → b ≠ x := fun b u q nm z => by subst z; rw [q] at mu; exact nm mu
 refine ⟨fun b u q n _ _ => k b u (hb b n) q, fun b u q n _ _ => ⟨u.slots, k b u (hb b n) q⟩, fun b u q n _ => by rw [upd_ne (hx b n)]; exact n, fun b u q _ => ?_,
  fun b xs q => by rw [upd_ne (hm b _ q fun z => z)]; exact q, fun b u xs q => by rw [upd_ne (hm b _ q fun z => z)]; exact q, fun b ps q => ⟨#[], by rw [upd_ne (hm b _ q fun z => z), q]; simp⟩⟩
 by_cases hbe : b = e
 ·subst hbe; exact heo
 ·exact ⟨u, k b u hbe q⟩
end
def trk (h : Heap) (H : Hp) : List Addr := (List.range h.objs.size).filter fun a => (H a).isSome
def hidT (h : Heap) (H : Hp) : Heap := W.hideAll h (trk h H)
theorem hidT_size (h : Heap) (H : Hp) : (hidT h H).objs.size = h.objs.size := W.hideAll_size _ _
theorem hidT_get {h : Heap} {H : Hp} {b : Addr} {o : Obj} (e : h.get? b = some o) (n : H b = none) : (hidT h H).get? b = some o :=
 W.hideAll_get _ e fun hm => by
  have q : (H b).isSome = true := (List.mem_filter.mp hm).2
  rw [n] at q; simp at q
theorem of_hidT {h : Heap} {H : Hp} {b : Addr} {o : Obj} (e : (hidT h H).get? b = some o) : h.get? b = some o ∧ H b = none := by
 have e' : h.get? b = some o := W.of_hideAll (trk h H) e
 refine ⟨e', ?_⟩
 cases q : H b with
 | none => rfl
 | some x =>
  have hm : b ∈ trk h H := List.mem_filter.mpr ⟨List.mem_range.mpr (Heap.lt_size e'), by simp [q]⟩
  have z : (hidT h H).get? b = none := W.hideAll_none (trk h H) hm
  rw [z] at e; cases e
def allNews (g h : Heap) (L : Addr) : List (Addr × Obj) := (List.range h.objs.size).filterMap fun a => if a = L ∨ (g.get? a).isSome = true then none else (h.get? a).map fun o => (a, o)
def rest (g h : Heap) (L d : Addr) : List (Addr × Obj) := (allNews g h L).filter fun p => decide (p.1 ≠ d)
structure Mod (K : W.Frag) (mg : Str → Option Value) (base : Heap) : Prop where
 kin : K.In base
 glob : base.Ns mainGlobals mg
 blt : ∃ mb, base.Ns builtinsNs mb ∧ ∀ x : Str, x ≠ "__name__" → mb x = bootBuiltins x
 nolimit : base.NoLimit
structure Cx where
 prog : Program
 w : World
 K : W.Frag
 mg : Str → Option Value
 base : Heap
 A : Around
 N : List Str
 s₀ : Shared
 H₀ : Hp
 env : Env
 outer : List Env
 stack : List Env
 ex : List Addr
 fn : Str → Bool
 calm : Bool
 pn : List (Addr × Obj)
 xe : Value → Shared → Prop
def frs (l : List Env) : List Addr := l.filterMap (·.frame)
abbrev Cx.fs (X : Cx) : List Addr := frs X.outer
def Vis (sc : Scope) (x : Str) : Prop := sc.names.lookup x = some .local ∨ sc.names.lookup x = some .cell ∨ sc.names.lookup x = some .free
def Loc (sc : Scope) (x : Str) : Prop := sc.names.lookup x = some .local ∨ sc.names.lookup x = some .cell
def Look (env : Env) (h : Heap) (m : Str → Option Value) (x : Str) (u : Value) : Prop :=
 (env.kindOf x = some .local ∧ m x = some u) ∨ ((env.kindOf x = some .cell ∨ env.kindOf x = some .free) ∧ ∃ c, env.cells.lookup x = some c ∧ h.IsCell c (some u))
structure Cx.Ok (X : Cx) : Prop where
 mod : Mod X.K X.mg X.base
 kind : X.env.scope.kind = .function
 glob : X.env.globals = mainGlobals
 blt : X.env.builtins = builtinsNs
 above : X.s₀.heap.objs.size ≤ X.env.locals
 inj : ∀ x y c, X.env.cells.lookup x = some c → X.env.cells.lookup y = some c → x = y
 has : ∀ x, (X.env.kindOf x = some .cell ∨ X.env.kindOf x = some .free) → ∃ c, X.env.cells.lookup x = some c
 cab : ∀ x c, X.fn x = true → X.env.cells.lookup x = some c → X.s₀.heap.objs.size ≤ c
 hd : X.calm = true → X.A.handled = none
 frames : X.A.frames = some X.stack
 stk : X.stack = X.outer ∨ (X.stack = X.env :: X.outer ∧ X.env.frame = some X.env.locals)
 exf : ∀ b ∈ X.ex, b ≠ X.env.locals ∧ ∀ x c, X.env.cells.lookup x = some c → c ≠ b
 bs : ∀ b o, X.base.get? b = some o → X.s₀.heap.get? b = some o ∧ X.H₀ b = none
 bsz : X.base.objs.size ≤ X.s₀.heap.objs.size
 noex : ∀ b o, X.base.get? b = some o → b ∉ X.ex
 exfs : ∀ b ∈ X.ex, b ∉ X.fs
 funs : X.s₀.heap.FunFrames X.base X.outer
 frf : ∀ b ∈ X.fs, X.H₀ b = none
structure Inv (X : Cx) (pins : List (Addr × Obj)) (σ : List (Option V)) (H : Hp) (s : Shared) : Prop where
 ok : X.Ok
 os : s.os = X.s₀.os
 bare : AllBare s.gens
 base : Un X.fs X.ex X.H₀ H X.s₀.heap s.heap
 loc : ∃ m, s.heap.Ns X.env.locals m ∧ ∀ (i : Nat) (x : Str) (v : V), X.N[i]? = some x → σ[i]? = some (some v) → Vis X.env.scope x → ∃ u, RelV v u ∧ Look X.env s.heap m x u
 cell : ∀ x c, X.env.cells.lookup x = some c → ∃ v, s.heap.IsCell c v
 free : H X.env.locals = none
 freeC : ∀ x c, X.env.cells.lookup x = some c → H c = none
 pin : ∀ p ∈ X.pn ++ pins, s.heap.get? p.1 = some p.2 ∧ H p.1 = none ∧ p.1 ≠ X.env.locals ∧ p.1 ∉ X.fs ∧ ∀ v, p.2.data ≠ .cell v
 hok : HOk X.prog X.w H s.heap
 len : σ.length = X.N.length
section
variable {X : Cx} {pins : List (Addr × Obj)} {σ : List (Option V)} {H H' : Hp} {s : Shared} {h' : Heap}
theorem Cx.Ok.nofr (ok : X.Ok) {b : Addr} {o : Obj} (e : X.base.get? b = some o) : b ∉ X.fs := fun hb => by
 have := (ok.funs.mem hb).1
 rw [e] at this; cases this
theorem Inv.bs (I : Inv X pins σ H s) : ∀ b o, X.base.get? b = some o → s.heap.get? b = some o ∧ H b = none := fun b o e =>
 ⟨I.base.keep b o (I.ok.bs b o e).1 (I.ok.bs b o e).2 (I.ok.nofr e) (I.ok.noex b o e), I.base.free b o (I.ok.bs b o e).1 (I.ok.bs b o e).2 (I.ok.noex b o e)⟩
theorem Inv.bk (I : Inv X pins σ H s) : ∀ b o, X.base.get? b = some o → s.heap.get? b = some o := fun b o e => (I.bs b o e).1
theorem Inv.mod (I : Inv X pins σ H s) : Mod X.K X.mg X.base := I.ok.mod
theorem Inv.kIn (I : Inv X pins σ H s) : X.K.In s.heap := I.ok.mod.kin.keeps I.bk
theorem Inv.fr (I : Inv X pins σ H s) : ∃ m, Fr X.base X.env.locals s.heap m :=
 let ⟨m, hn, _⟩ := I.loc
 ⟨m, hn, I.bk, Nat.le_trans I.ok.bsz I.ok.above⟩
theorem Inv.lt (I : Inv X pins σ H s) : X.env.locals < s.heap.objs.size := let ⟨_, hn, _⟩ := I.loc; hn.lt
theorem Inv.sz (I : Inv X pins σ H s) : X.s₀.heap.objs.size ≤ s.heap.objs.size := Nat.le_trans I.ok.above (Nat.le_of_lt I.lt)
theorem Inv.nofs (I : Inv X pins σ H s) {a : Addr} (h : s.heap.objs.size ≤ a) : a ∉ X.fs := fun hb => by
 obtain ⟨_, o, ho, _⟩ := I.ok.funs.mem hb
 exact absurd (Nat.lt_of_lt_of_le (Heap.lt_size ho) (Nat.le_trans I.sz h)) (Nat.lt_irrefl _)
theorem Inv.cne (I : Inv X pins σ H s) : ∀ x c, X.env.cells.lookup x = some c → c ≠ X.env.locals := fun x c e z => by
 obtain ⟨v, o, ho, hd⟩ := I.cell x c e
 obtain ⟨m, ⟨o', es, ep, ho', hd', _⟩, _⟩ := I.loc
 rw [z, ho'] at ho; cases ho; rw [hd'] at hd; cases hd
theorem Inv.funs (I : Inv X pins σ H s) : s.heap.FunFrames X.base X.outer := by
 have all : ∀ (l : List Env), (∀ b ∈ frs l, b ∈ X.fs) → X.s₀.heap.FunFrames X.base l → s.heap.FunFrames X.base l := by
  intro l
  induction l with
  | nil => intro _ _; trivial
  | cons env r ih =>
   intro hs hl
   obtain ⟨hk, ⟨L, o, hf, hn, ho, hd⟩, hr⟩ := hl
   have hL : L ∈ X.fs := hs L (by unfold frs; rw [List.filterMap_cons, hf]; exact List.mem_cons_self)
   obtain ⟨sl, e⟩ := I.base.slot L o ho (I.ok.frf L hL) hL fun z => I.ok.exfs L z hL
   exact ⟨hk, ⟨L, _, hf, hn, e, hd⟩, ih (fun b hb => hs b (by unfold frs; rw [List.filterMap_cons, hf]; exact List.mem_cons_of_mem _ hb)) hr⟩
 exact all X.outer (fun _ hb => hb) I.ok.funs
theorem Inv.stack (I : Inv X pins σ H s) : s.heap.FunFrames X.base X.stack := by
 rcases I.ok.stk with e | ⟨e, hf⟩
 ·rw [e]; exact I.funs
 ·rw [e]
  obtain ⟨m, hn, _⟩ := I.loc
  refine .cons (by rw [I.ok.kind]; decide) hf hn ?_ I.funs
  exact Heap.get?_none_of_le (Nat.le_trans I.ok.bsz I.ok.above)
theorem Inv.stkSub (I : Inv X pins σ H s) : ∀ b ∈ frs X.stack, b ∈ X.env.locals :: X.fs := fun b hb => by
 rcases I.ok.stk with e | ⟨e, hf⟩
 ·rw [e] at hb; exact List.mem_cons_of_mem _ hb
 ·rw [e] at hb
  unfold frs at hb
  rw [List.filterMap_cons, hf] at hb
  exact hb
theorem Inv.stkFree (I : Inv X pins σ H s) : ∀ b ∈ frs X.stack, H b = none := fun b hb => by
 rcases List.mem_cons.mp (I.stkSub b hb) with e | hb
 ·rw [e]; exact I.free
 ·obtain ⟨_, o, ho, _⟩ := I.ok.funs.mem hb
  exact I.base.free b o ho (I.ok.frf b hb) fun z => I.ok.exfs b z hb
theorem Inv.step {g' : Array GenState} {t' : Nat} {d' : Drawn} {ch : List Addr} (I : Inv X pins σ H s)
  (hch : ∀ b ∈ ch, (b ∈ X.ex ∨ X.s₀.heap.objs.size ≤ b) ∧ b ≠ X.env.locals ∧ (∀ x c, X.env.cells.lookup x = some c → c ≠ b) ∧ ∀ p ∈ X.pn ++ pins, p.1 ≠ b)
  (keep : ∀ b o, b ≠ X.env.locals → b ∉ X.fs → b ∉ ch → s.heap.get? b = some o → H b = none → h'.get? b = some o)
  (slot : ∀ b o, b ≠ X.env.locals → b ∈ X.fs → b ∉ ch → s.heap.get? b = some o → H b = none → ∃ sl, h'.get? b = some { o with slots := sl }) (free : ∀ b o, b ∉ ch → s.heap.get? b = some o → H b = none → H' b = none)
  (there : ∀ b o, b ∉ ch → s.heap.get? b = some o → ∃ o', h'.get? b = some o')
  (tups : ∀ b xs, H b = some (.tup xs) → H' b = some (.tup xs)) (frzs : ∀ b o u, H b = some (.frz o u) → H' b = some (.frz o u)) (tbls : ∀ b ps, H b = some (.tbl ps) → ∃ more, H' b = some (.tbl (ps ++ more)))
  (ns : ∀ m, s.heap.Ns X.env.locals m → h'.Ns X.env.locals m) (hok : HOk X.prog X.w H' h') (hg : AllBare g') :
  Inv X pins σ H' { s with heap := h', gens := g', drawn := d', toks := t' } := by
 have neL : ∀ b o, X.s₀.heap.get? b = some o → b ≠ X.env.locals := fun b o e => Nat.ne_of_lt (Nat.lt_of_lt_of_le (Heap.lt_size e) I.ok.above)
 have neC : ∀ b o, X.s₀.heap.get? b = some o → b ∉ X.ex → b ∉ ch := fun b o e hx hb => by
  rcases (hch b hb).1 with z | z
  ·exact hx z
  ·exact absurd (Nat.lt_of_lt_of_le (Heap.lt_size e) z) (Nat.lt_irrefl _)
 have cellK : ∀ x c, X.env.cells.lookup x = some c → ∀ v, s.heap.IsCell c v → h'.IsCell c v := fun x c e v ⟨o, ho, hd⟩ => by
  have nch : c ∉ ch := fun z => (hch c z).2.2.1 x c e rfl
  by_cases hc : c ∈ X.fs
  ·obtain ⟨sl, q⟩ := slot c o (I.cne x c e) hc nch ho (I.freeC x c e)
   exact ⟨_, q, hd⟩
  ·exact ⟨o, keep c o (I.cne x c e) hc nch ho (I.freeC x c e), hd⟩
 refine ⟨I.ok, I.os, hg, ⟨fun b o e n hb hx => ?_, fun b o e n hb hx => ?_, fun b o e n hx => ?_, fun b o e hx => ?_, fun b xs e => tups b xs (I.base.tups b xs e), fun b o xs e => frzs b o xs (I.base.frzs b o xs e), fun b ps e => ?_⟩, ?_, fun x c e => ?_, ?_, fun x c e => ?_, fun p hp => ?_, hok, I.len⟩
 ·exact keep b o (neL b o e) hb (neC b o e hx) (I.base.keep b o e n hb hx) (I.base.free b o e n hx)
 ·obtain ⟨sl, e1⟩ := I.base.slot b o e n hb hx
  obtain ⟨sl', e2⟩ := slot b _ (neL b o e) hb (neC b o e hx) e1 (I.base.free b o e n hx)
  exact ⟨sl', e2⟩
 ·obtain ⟨o', e1⟩ := I.base.there b o e hx
  exact free b o' (neC b o e hx) e1 (I.base.free b o e n hx)
 ·obtain ⟨o', e1⟩ := I.base.there b o e hx
  exact there b o' (neC b o e hx) e1
 ·obtain ⟨m1, e1⟩ := I.base.tbls b ps e
  obtain ⟨m2, e2⟩ := tbls b _ e1
  exact ⟨m1 ++ m2, by rw [e2, Array.append_assoc]⟩
 ·obtain ⟨m, hn, hl⟩ := I.loc
  refine ⟨m, ns m hn, fun i x v e1 e2 e3 => ?_⟩
  obtain ⟨u, r, l⟩ := hl i x v e1 e2 e3
  refine ⟨u, r, ?_⟩
  rcases l with l | ⟨k, c, e, z⟩
  ·exact .inl l
  ·exact .inr ⟨k, c, e, cellK x c e _ z⟩
 ·obtain ⟨v, z⟩ := I.cell x c e
  exact ⟨v, cellK x c e v z⟩
 ·obtain ⟨m, ⟨o, _, _, ho, _⟩, _⟩ := I.loc
  exact free _ o (fun z => (hch _ z).2.1 rfl) ho I.free
 ·obtain ⟨v, o, ho, hd⟩ := I.cell x c e
  exact free c o (fun z => (hch c z).2.2.1 x c e rfl) ho (I.freeC x c e)
 ·obtain ⟨e, n, ne, nf, d⟩ := I.pin p hp
  have nch : p.1 ∉ ch := fun z => (hch p.1 z).2.2.2 p hp rfl
  exact ⟨keep p.1 p.2 ne nf nch e n, free p.1 p.2 nch e n, ne, nf, d⟩
theorem Inv.un {t' : Nat} (I : Inv X pins σ H s) (u : Un X.fs [] H H' s.heap h') (hok : HOk X.prog X.w H' h') : Inv X pins σ H' { s with heap := h', toks := t' } := by
 obtain ⟨m, ⟨o, es, ep, ho, r⟩, _⟩ := id I.loc
 obtain ⟨sl, hL⟩ := u.any ho I.free (by simp)
 exact I.step (g' := s.gens) (d' := s.drawn) (ch := []) (fun _ z => nomatch z) (fun b o _ hb _ e n => u.keep b o e n hb (by simp)) (fun b o _ hb _ e n => u.slot b o e n hb (by simp)) (fun b o _ e n => u.free b o e n (by simp)) (fun b o _ e => u.there b o e (by simp)) u.tups u.frzs u.tbls (fun m' hm => by
  obtain ⟨o', es', ep', ho', r'⟩ := hm
  rw [ho] at ho'; cases ho'
  exact ⟨_, es', ep', hL, r'⟩) hok I.bare
theorem Inv.call {g' : Array GenState} {t' : Nat} {d' : Drawn} {ch : List Addr} (I : Inv X pins σ H s) (u : Un (frs X.stack) ch H H' s.heap h') (hok : HOk X.prog X.w H' h') (hg : AllBare g')
  (hch : ∀ b ∈ ch, (b ∈ X.ex ∨ X.s₀.heap.objs.size ≤ b) ∧ b ≠ X.env.locals ∧ (∀ x c, X.env.cells.lookup x = some c → c ≠ b) ∧ ∀ p ∈ X.pn ++ pins, p.1 ≠ b) :
  Inv X pins σ H' { s with heap := h', gens := g', drawn := d', toks := t' } := by
 obtain ⟨m, ⟨o, es, ep, ho, r⟩, _⟩ := id I.loc
 obtain ⟨sl, hL⟩ := u.any ho I.free fun z => (hch _ z).2.1 rfl
 exact I.step (ch := ch) hch (fun b o hL hb hc e n => u.keep b o e n (fun z => (List.mem_cons.mp (I.stkSub b z)).elim hL hb) hc) (fun b o _ _ hc e n => u.any e n hc) (fun b o hc e n => u.free b o e n hc) (fun b o hc e => u.there b o e hc) u.tups u.frzs u.tbls (fun m' hm => by
  obtain ⟨o', es', ep', ho', r'⟩ := hm
  rw [ho] at ho'; cases ho'
  exact ⟨_, es', ep', hL, r'⟩) hok hg
theorem Inv.turned {t' : Nat} {it : Addr} (I : Inv X pins σ H s) (k : ∀ b o, b ≠ it → s.heap.get? b = some o → h'.get? b = some o) (hn : H it = none) (hL : it ≠ X.env.locals)
  (h1 : it ∈ X.ex ∨ X.s₀.heap.objs.size ≤ it) (h2 : ∀ x c, X.env.cells.lookup x = some c → c ≠ it) (h3 : ∀ p ∈ X.pn ++ pins, p.1 ≠ it) : Inv X pins σ H { s with heap := h', toks := t' } := by
 have nit : ∀ b u, H b = some u → b ≠ it := fun b u e z => by rw [z, hn] at e; cases e
 refine I.step (g' := s.gens) (d' := s.drawn) (ch := [it]) (fun b hb => ?_) (fun b o _ _ hc e _ => k b o (fun z => hc (by simp [z])) e) (fun b o _ _ hc e _ => ⟨o.slots, k b o (fun z => hc (by simp [z])) e⟩) (fun _ _ _ _ n => n)
  (fun b o hc e => ⟨o, k b o (fun z => hc (by simp [z])) e⟩) (fun _ _ e => e) (fun _ _ _ e => e) (fun b ps e => ⟨#[], by rw [e]; simp⟩) (fun m hm => ?_) (fun b u e => ?_) I.bare
 ·have e : b = it := by simpa using hb
  subst e
  exact ⟨h1, hL, h2, h3⟩
 ·obtain ⟨o, es, ep, ho, r⟩ := hm
  exact ⟨o, es, ep, k _ o (Ne.symm hL) ho, r⟩
 ·refine (I.hok b u e).stay (fun c v hc q => k c v ?_ q) (fun _ q => q) (fun _ _ q => q) fun _ _ _ q => q
  rcases hc with z | z
  ·rw [z]; exact nit b u e
  ·exact nit c _ z
theorem Inv.tok (I : Inv X pins σ H s) (t : Nat) : Inv X pins σ H { s with toks := t } := I.un (h' := s.heap) (t' := t) Un.refl I.hok
theorem Inv.kept {t' : Nat} (I : Inv X pins σ H s) (k : ∀ b u, s.heap.get? b = some u → h'.get? b = some u) : Inv X pins σ H { s with heap := h', toks := t' } := I.un (Un.kept k) (I.hok.kept k)
theorem Inv.laid {a : Addr} {o : HO} {t' : Nat} (I : Inv X pins σ H s) (k : ∀ b u, s.heap.get? b = some u → h'.get? b = some u) (hp : s.heap.objs.size ≤ a) (new : ObjOk X.prog X.w (upd H a o) h' a o) :
  Inv X pins σ (upd H a o) { s with heap := h', toks := t' } := I.un (Un.laid k hp (I.hok.fresh hp)) (I.hok.laid k hp new)
theorem Inv.write {x e : Addr} {o : HO} {t' : Nat} (I : Inv X pins σ H s) (mu : Mut (H x)) (he : e = x ∨ H e = some (.own x)) (k : ∀ b u, b ≠ e → s.heap.get? b = some u → h'.get? b = some u) (heo : ∃ u, h'.get? e = some u)
  (new : ObjOk X.prog X.w (upd H x o) h' x o) : Inv X pins σ (upd H x o) { s with heap := h', toks := t' } := I.un (Un.write mu he k heo) (I.hok.write mu he k heo new)
theorem Inv.weak {σ' : List (Option V)} (I : Inv X pins σ H s) (hl : σ'.length = σ.length) (w : ∀ (i : Nat) v, σ'[i]? = some (some v) → σ[i]? = some (some v)) : Inv X pins σ' H s :=
 ⟨I.ok, I.os, I.bare, I.base, let ⟨m, hn, hl'⟩ := I.loc; ⟨m, hn, fun i x v e1 e2 e3 => hl' i x v e1 (w i v e2) e3⟩, I.cell, I.free, I.freeC, I.pin, I.hok, hl.trans I.len⟩
theorem Inv.pins_of {pins' : List (Addr × Obj)} (I : Inv X pins σ H s) (h : ∀ p ∈ pins', s.heap.get? p.1 = some p.2 ∧ H p.1 = none ∧ p.1 ≠ X.env.locals ∧ p.1 ∉ X.fs ∧ ∀ v, p.2.data ≠ .cell v) : Inv X pins' σ H s :=
 ⟨I.ok, I.os, I.bare, I.base, I.loc, I.cell, I.free, I.freeC, fun p hp => (List.mem_append.mp hp).elim (fun z => I.pin p (List.mem_append_left _ z)) (h p), I.hok, I.len⟩
theorem nodup_ix {N : List Str} (hN : N.Nodup) {i j : Nat} {x : Str} (a : N[i]? = some x) (b : N[j]? = some x) : i = j := by
 obtain ⟨h1, e1⟩ := List.getElem?_eq_some_iff.mp a
 obtain ⟨h2, e2⟩ := List.getElem?_eq_some_iff.mp b
 exact (List.getElem_inj hN).mp (e1.trans e2.symm)
theorem store_ok2 {M : Model} {A : Around} {E : Value → Shared → Prop} {i : Nat} {x : Str} {v : V} {u : Value} {Q : Unit → Shared → Prop} (I : Inv X pins σ H s) (hN : X.N.Nodup) (hi : X.N[i]? = some x) (hx : Loc X.env.scope x) (r : RelV v u)
  (h : ∀ s', Inv X pins (σ.set i (some v)) H s' → (∃ a, Heap.SameBut a s.heap s'.heap ∧ (a = X.env.locals ∨ X.env.cells.lookup x = some a)) → Q () s') (hf : X.fn x = true ∨ X.env.scope.names.lookup x = some .local := by first | exact .inl rfl | exact .inr rfl | assumption) : wpAny M A (storeName X.env x u) Q E s := by
 obtain ⟨m, hn, hl⟩ := id I.loc
 have hcls : (X.env.scope.kind == .class || (X.env.scope.kind == .module && X.env.locals != X.env.globals)) = false := by rw [I.ok.kind]; rfl
 have hiσ : i < σ.length := by rw [I.len]; exact (List.getElem?_eq_some_iff.mp hi).1
 have cne := I.cne
 have tracked : ∀ {a : Addr} {h' : Heap}, (∃ o, s.heap.get? a = some o ∧ H a = none) → Heap.SameBut a s.heap h' → HOk X.prog X.w H h' := fun {a h'} ha hs b ob e => by
  obtain ⟨_, _, hfree⟩ := ha
  refine (I.hok b ob e).stay (fun c w' hc q => (hs.2 c ?_).trans q) (fun _ q => q) (fun _ _ q => q) fun _ _ _ q => q
  rintro rfl
  rcases hc with rfl | hc
  ·rw [hfree] at e; cases e
  ·rw [hfree] at hc; cases hc
 rcases hx with hk | hk
 ·refine wpAny_storeName_local hk hn (fun h' hn' hs => ?_) hcls
  obtain ⟨oL, _, _, hoL, _⟩ := id hn
  refine h _ ⟨I.ok, I.os, I.bare, ⟨fun b o e n hb hx => ?_, fun b o e n hb hx => ?_, I.base.free, fun b o e hx => ?_, I.base.tups, I.base.frzs, I.base.tbls⟩, ⟨_, hn', fun j y v' e1 e2 e3 => ?_⟩, fun y c e => ?_, I.free, I.freeC, fun p hp => ?_, tracked ⟨oL, hoL, I.free⟩ hs, by simpa using I.len⟩ ⟨_, hs, .inl rfl⟩
  ·exact (hs.2 b (Nat.ne_of_lt (Nat.lt_of_lt_of_le (Heap.lt_size e) I.ok.above))).trans (I.base.keep b o e n hb hx)
  ·obtain ⟨sl, e1⟩ := I.base.slot b o e n hb hx
   exact ⟨sl, (hs.2 b (Nat.ne_of_lt (Nat.lt_of_lt_of_le (Heap.lt_size e) I.ok.above))).trans e1⟩
  ·obtain ⟨o', e1⟩ := I.base.there b o e hx
   exact ⟨o', (hs.2 b (Nat.ne_of_lt (Nat.lt_of_lt_of_le (Heap.lt_size e) I.ok.above))).trans e1⟩
  ·by_cases hj : j = i
   ·subst hj
    rw [hi] at e1; cases e1
    rw [List.getElem?_set_self hiσ] at e2
    cases e2
    exact ⟨u, r, .inl ⟨hk, by simp⟩⟩
   ·rw [List.getElem?_set_ne (Ne.symm hj)] at e2
    obtain ⟨u', r', q⟩ := hl j y v' e1 e2 e3
    refine ⟨u', r', ?_⟩
    rcases q with ⟨k, e⟩ | ⟨k, c, e, z⟩
    ·refine .inl ⟨k, ?_⟩
     have : y ≠ x := fun e => hj (nodup_ix hN e1 (e ▸ hi))
     simp [this, e]
    ·exact .inr ⟨k, c, e, z.sameBut hs (cne y c e)⟩
  ·obtain ⟨w', z⟩ := I.cell y c e
   exact ⟨w', z.sameBut hs (cne y c e)⟩
  ·obtain ⟨e, n, ne, nf, d⟩ := I.pin p hp
   exact ⟨(hs.2 p.1 ne).trans e, n, ne, nf, d⟩
 ·have hfn : X.fn x = true := by
   rcases hf with z | z
   ·exact z
   ·rw [z] at hk; cases hk
  obtain ⟨c, hc⟩ := I.ok.has x (.inl hk)
  obtain ⟨w', z⟩ := I.cell x c hc
  refine wpAny_storeName_cell I.ok.kind hk hc z (fun h' hc' hs => ?_)
  obtain ⟨oc, hoc, hocd⟩ := id z
  refine h { s with heap := h' } ⟨I.ok, I.os, I.bare, ⟨fun b o e n hb hx => ?_, fun b o e n hb hx => ?_, I.base.free, fun b o e hx => ?_, I.base.tups, I.base.frzs, I.base.tbls⟩, ⟨m, hn.sameBut hs (Ne.symm (cne x c hc)), fun j y v' e1 e2 e3 => ?_⟩, fun y c' e => ?_, I.free, I.freeC, fun p hp => ?_, tracked ⟨oc, hoc, I.freeC x c hc⟩ hs, by simpa using I.len⟩ ⟨c, hs, .inr hc⟩
  ·exact (hs.2 b (Nat.ne_of_lt (Nat.lt_of_lt_of_le (Heap.lt_size e) (I.ok.cab x c hfn hc)))).trans (I.base.keep b o e n hb hx)
  ·obtain ⟨sl, e1⟩ := I.base.slot b o e n hb hx
   exact ⟨sl, (hs.2 b (Nat.ne_of_lt (Nat.lt_of_lt_of_le (Heap.lt_size e) (I.ok.cab x c hfn hc)))).trans e1⟩
  ·obtain ⟨o', e1⟩ := I.base.there b o e hx
   exact ⟨o', (hs.2 b (Nat.ne_of_lt (Nat.lt_of_lt_of_le (Heap.lt_size e) (I.ok.cab x c hfn hc)))).trans e1⟩
  ·by_cases hj : j = i
   ·subst hj
    rw [hi] at e1; cases e1
    rw [List.getElem?_set_self hiσ] at e2
    cases e2
    exact ⟨u, r, .inr ⟨.inl hk, c, hc, hc'⟩⟩
   ·rw [List.getElem?_set_ne (Ne.symm hj)] at e2
    obtain ⟨u', r', q⟩ := hl j y v' e1 e2 e3
    refine ⟨u', r', ?_⟩
    rcases q with q | ⟨k, c', e, z'⟩
    ·exact .inl q
    ·refine .inr ⟨k, c', e, z'.sameBut hs ?_⟩
     rintro rfl
     exact hj (nodup_ix hN e1 (I.ok.inj _ _ _ e hc ▸ hi))
  ·by_cases hcc : c' = c
   ·subst hcc; exact ⟨_, hc'⟩
   ·obtain ⟨w2, z2⟩ := I.cell y c' e
    exact ⟨w2, z2.sameBut hs hcc⟩
  ·obtain ⟨e, n, ne, nf, d⟩ := I.pin p hp
   refine ⟨(hs.2 p.1 ?_).trans e, n, ne, nf, d⟩
   intro q
   rw [q, hoc] at e
   have q' : oc = p.2 := Option.some.inj e
   exact d w' (by rw [← q']; exact hocd)
theorem store_ok {M : Model} {A : Around} {E : Value → Shared → Prop} {i : Nat} {x : Str} {v : V} {u : Value} {Q : Unit → Shared → Prop} (I : Inv X pins σ H s) (hN : X.N.Nodup) (hi : X.N[i]? = some x) (hx : Loc X.env.scope x) (r : RelV v u)
  (h : ∀ s', Inv X pins (σ.set i (some v)) H s' → Q () s') (hf : X.fn x = true ∨ X.env.scope.names.lookup x = some .local := by first | exact .inl rfl | exact .inr rfl | assumption) : wpAny M A (storeName X.env x u) Q E s :=
 store_ok2 I hN hi hx r (fun s' I' _ => h s' I') hf
theorem Inv.call' {s' : Shared} {ch : List Addr} (I : Inv X pins σ H s) (ho : s'.os = s.os) (u : Un (frs X.stack) ch H H' s.heap s'.heap) (hok : HOk X.prog X.w H' s'.heap) (hg : AllBare s'.gens)
  (hch : ∀ b ∈ ch, (b ∈ X.ex ∨ X.s₀.heap.objs.size ≤ b) ∧ b ≠ X.env.locals ∧ (∀ x c, X.env.cells.lookup x = some c → c ≠ b) ∧ ∀ p ∈ X.pn ++ pins, p.1 ≠ b) : Inv X pins σ H' s' := by
 obtain ⟨h', g', d', t', o'⟩ := s'
 have e : o' = s.os := ho
 subst e
 exact I.call (g' := g') (t' := t') (d' := d') u hok hg hch
end
abbrev XK := Value → Option Addr → Hp → Prop
abbrev St := List (Option V)
abbrev VK := V → Hp → Prop
abbrev TE := St → Hp → VK → Prop
abbrev TT := St → Hp → (Bool → Hp → Prop) → Prop
abbrev TA := St → Hp → (List V → Hp → Prop) → Prop
structure Ends where
 nx : St → Hp → Prop
 rt : VK
 bk : St → Hp → Prop := fun _ _ => False
 ct : St → Hp → Prop := fun _ _ => False
abbrev TS := Ends → St → Hp → Prop
def EP (X : Cx) (pins : List (Addr × Obj)) (σ : St) (Q : VK) (u : Value) (s' : Shared) : Prop := ∃ v H', Inv X pins σ H' s' ∧ RelV v u ∧ Q v H'
def TP (X : Cx) (pins : List (Addr × Obj)) (σ : St) (Q : Bool → Hp → Prop) (b : Bool) (s' : Shared) : Prop := ∃ H', Inv X pins σ H' s' ∧ Q b H'
def AP (X : Cx) (pins : List (Addr × Obj)) (σ : St) (Q : List V → Hp → Prop) (us : List Value) (s' : Shared) : Prop := ∃ vs H', Inv X pins σ H' s' ∧ Vals vs us ∧ Q vs H'
def SP (X : Cx) (pins : List (Addr × Obj)) (D : Ends) (f : Flow) (s' : Shared) : Prop :=
 match f with
 | .next => ∃ σ' H', Inv X pins σ' H' s' ∧ D.nx σ' H'
 | .brk => ∃ σ' H', Inv X pins σ' H' s' ∧ D.bk σ' H'
 | .cont => ∃ σ' H', Inv X pins σ' H' s' ∧ D.ct σ' H'
 | .ret u => ∃ v σ' H', Inv X pins σ' H' s' ∧ RelV v u ∧ D.rt v H'
def PE (X : Cx) (e : Expr) (t : TE) : Prop :=
 ∀ (pins : List (Addr × Obj)) (s : Shared) (σ : St) (H : Hp) (Q : VK), Inv X pins σ H s → t σ H Q → wpAny (model X.prog X.w) X.A (eval e X.env) (EP X pins σ Q) X.xe s
def PT (X : Cx) (e : Expr) (t : TT) : Prop :=
 ∀ (pins : List (Addr × Obj)) (s : Shared) (σ : St) (H : Hp) (Q : Bool → Hp → Prop), Inv X pins σ H s → t σ H Q → wpAny (model X.prog X.w) X.A (isTrue e X.env (eval e X.env)) (TP X pins σ Q) X.xe s
def PW (X : Cx) (e : Expr) (t : TT) : Prop :=
 ∀ (whole : Sem Value) (pins : List (Addr × Obj)) (s : Shared) (σ : St) (H : Hp) (Q : Bool → Hp → Prop), Inv X pins σ H s → t σ H Q → wpAny (model X.prog X.w) X.A (isTrue e X.env whole) (TP X pins σ Q) X.xe s
theorem PW.pt {X : Cx} {e : Expr} {t : TT} (h : PW X e t) : PT X e t := h _
def PA (X : Cx) (es : List Expr) (t : TA) : Prop :=
 ∀ (pos : Pos) (pins : List (Addr × Obj)) (s : Shared) (σ : St) (H : Hp) (Q : List V → Hp → Prop), Inv X pins σ H s → t σ H Q → wpAny (model X.prog X.w) X.A (spliced (backTo pos (starEach es X.env))) (AP X pins σ Q) X.xe s
def PS (X : Cx) (st : Stmt) (t : TS) : Prop :=
 ∀ (pins : List (Addr × Obj)) (s : Shared) (σ : St) (H : Hp) (D : Ends), Inv X pins σ H s → t D σ H → wpAny (model X.prog X.w) X.A (exec st X.env) (SP X pins D) X.xe s
def PSs (X : Cx) (st : List Stmt) (t : TS) : Prop :=
 ∀ (pins : List (Addr × Obj)) (s : Shared) (σ : St) (H : Hp) (D : Ends), Inv X pins σ H s → t D σ H → wpAny (model X.prog X.w) X.A (execs st X.env) (SP X pins D) X.xe s
theorem thn {α : Type} {t : Sem α} {Q Q' : α → Shared → Prop} {M : Model} {A : Around} {E : Value → Shared → Prop} {s : Shared} (h : wpAny M A t Q E s) (hQ : ∀ a s, Q a s → Q' a s) : wpAny M A t Q' E s := wpAny_mono h hQ fun _ _ x => x
section
variable {X : Cx}
def tVar (i : Nat) : TE := fun σ H Q => ∃ v, σ[i]? = some (some v) ∧ Q v H
def tC (v : V) : TE := fun _ H Q => Q v H
theorem pe_var {i : Nat} {x : Str} {pos : Pos} (hN : X.N[i]? = some x) (hv : Vis X.env.scope x) (hd : (x == ("__debug__" : Str)) = false := by decide) (hcd : (x == ("__classdict__" : Str)) = false := by decide) : PE X (.Name x pos) (tVar i) := by
 intro pins s σ H Q I h
 obtain ⟨v, e, h⟩ := h
 obtain ⟨m, hn, hl⟩ := I.loc
 obtain ⟨u, r, l⟩ := hl i x v hN e hv
 have fin : EP X pins σ Q u s := ⟨v, H, I, r, h⟩
 rcases l with ⟨hk, hm⟩ | ⟨hk, c, hc, hcell⟩
 ·exact wpAny_Name (wpAny_loadName_local I.ok.kind hk hn hm fin) hd
 ·rcases hk with hk | hk
  ·exact wpAny_Name (wpAny_loadName_cell I.ok.kind hk hc hcell fin) hd
  ·exact wpAny_Name (wpAny_loadName_free I.ok.kind hk hc hcell fin hcd) hd
theorem pe_int {i j pos} : PE X (.Constant (.int i) j pos) (tC (.int i)) := fun _ _ _ H _ I h => wpAny_Constant_int ⟨.int i, H, I.tok _, ⟨_, rfl⟩, h⟩
theorem pe_bl {b j pos} : PE X (.Constant (.bool b) j pos) (tC (.bl b)) := fun _ _ _ H _ I h => Constant_bool ⟨.bl b, H, I, rfl, h⟩
theorem pe_str {x j pos} : PE X (.Constant (.str x) j pos) (tC (.str x)) := fun _ _ _ H _ I h => Calls.Constant_str ⟨.str x, H, I.tok _, ⟨_, rfl⟩, h⟩
def Gl (X : Cx) (x : Str) : Prop := X.env.kindOf x = some .globalImplicit
theorem ld_glob {E : Value → Shared → Prop} {pins : List (Addr × Obj)} {s : Shared} {σ : St} {H : Hp} {x : Str} {u : Value} {pos : Pos} {Q : Value → Shared → Prop} (I : Inv X pins σ H s) (hg : Gl X x) (hm : X.mg x = some u) (h : Q u s)
  (hd : (x == ("__debug__" : Str)) = false := by decide) : wpAny (model X.prog X.w) X.A (eval (.Name x pos) X.env) Q E s :=
 Calls.Name_function_global I.ok.kind hg (Calls.loadGlobal_global (by rw [I.ok.glob]; exact I.mod.glob.keeps I.bk) hm h) hd
theorem ld_blt {E : Value → Shared → Prop} {pins : List (Addr × Obj)} {s : Shared} {σ : St} {H : Hp} {x : Str} {u : Value} {pos : Pos} {Q : Value → Shared → Prop} (I : Inv X pins σ H s) (hg : Gl X x) (hm : X.mg x = none) (hv : bootBuiltins x = some u) (h : Q u s)
  (hn : x ≠ "__name__" := by decide) (hd : (x == ("__debug__" : Str)) = false := by decide) : wpAny (model X.prog X.w) X.A (eval (.Name x pos) X.env) Q E s := by
 obtain ⟨mb, h1, h2⟩ := I.mod.blt
 exact Calls.Name_function_global I.ok.kind hg (Calls.loadGlobal_builtin (by rw [I.ok.glob]; exact I.mod.glob.keeps I.bk) hm (by rw [I.ok.blt]; exact h1.keeps I.bk) ((h2 x hn).trans hv) h) hd
theorem pe_glob {x : Str} {v : V} {u : Value} {pos : Pos} (hg : Gl X x) (hm : X.mg x = some u) (r : RelV v u) (hd : (x == ("__debug__" : Str)) = false := by decide) : PE X (.Name x pos) (tC v) :=
 fun _ _ _ H _ I h => ld_glob I hg hm ⟨v, H, I, r, h⟩ hd
theorem pe_bltn {x : Str} {v : V} {u : Value} {pos : Pos} (hg : Gl X x) (hm : X.mg x = none) (hv : bootBuiltins x = some u) (r : RelV v u) (hn : x ≠ "__name__" := by decide) (hd : (x == ("__debug__" : Str)) = false := by decide) : PE X (.Name x pos) (tC v) :=
 fun _ _ _ H _ I h => ld_blt I hg hm hv ⟨v, H, I, r, h⟩ hn hd
variable {a b : Expr} {ta tb : TE} {pos : Pos}
def tB (t : TE) : TT := fun σ H Q => t σ H fun x H1 => ∃ c, x = .bl c ∧ Q c H1
theorem pt_val {e : Expr} {t : TE} (h : PE X e t) (he : ∀ whole, isTrue e X.env whole = (do let v ← whole; standAt e.pos; holding [v] (truthy v)) := by intro _; rfl) : PT X e (tB t) := by
 intro pins s σ H Q I hw
 refine isTrue_plain (thn (h pins s σ H _ I hw) fun v s1 ⟨x, H1, I1, r1, q1⟩ => ?_) (he _)
 obtain ⟨d, rfl, q⟩ := q1
 cases r1
 exact wpAny_truthy_bool ⟨H1, I1, q⟩
variable {tA tB' : TT} {rest : List Expr}
def tAnd (t u : TT) : TT := fun σ H Q => t σ H fun c H1 => if c = true then u σ H1 Q else Q false H1
def tOr (t u : TT) : TT := fun σ H Q => t σ H fun c H1 => if c = true then Q true H1 else u σ H1 Q
def tNot (t : TT) : TT := fun σ H Q => t σ H fun c H1 => Q (!c) H1
theorem pw_and1 (ha : PT X a tA) : PW X (.BoolOp .And [a] pos) tA := by
 intro wh pins s σ H Q I h
 refine isTrue_and (thn (ha pins s σ H Q I h) fun c s1 e => ?_)
 cases c with
 | true => exact isTrue_and_nil e
 | false => exact e
theorem pw_or1 (ha : PT X a tA) : PW X (.BoolOp .Or [a] pos) tA := by
 intro wh pins s σ H Q I h
 refine isTrue_or (thn (ha pins s σ H Q I h) fun c s1 e => ?_)
 cases c with
 | false => exact isTrue_or_nil e
 | true => exact e
theorem pw_and (ha : PT X a tA) (hb : PW X (.BoolOp .And (b :: rest) pos) tB') : PW X (.BoolOp .And (a :: b :: rest) pos) (tAnd tA tB') := by
 intro wh pins s σ H Q I h
 refine isTrue_and (thn (ha pins s σ H _ I h) fun c s1 ⟨H1, I1, q1⟩ => ?_)
 cases c with
 | true => exact hb wh pins s1 σ H1 Q I1 q1
 | false => exact ⟨H1, I1, q1⟩
theorem pw_or (ha : PT X a tA) (hb : PW X (.BoolOp .Or (b :: rest) pos) tB') : PW X (.BoolOp .Or (a :: b :: rest) pos) (tOr tA tB') := by
 intro wh pins s σ H Q I h
 refine isTrue_or (thn (ha pins s σ H _ I h) fun c s1 ⟨H1, I1, q1⟩ => ?_)
 cases c with
 | true => exact ⟨H1, I1, q1⟩
 | false => exact hb wh pins s1 σ H1 Q I1 q1
theorem pt_not (ha : PT X a tA) : PT X (.UnaryOp .Not a pos) (tNot tA) := by
 intro pins s σ H Q I h
 exact isTrue_not (ha pins s σ H (fun c H1 => Q (!c) H1) I h)
def tAndV (ta tb : TE) : TE := fun σ H Q => ta σ H fun x H1 => ∃ c, x = .bl c ∧ if c = true then tb σ H1 Q else Q (.bl false) H1
def tNotV (ta : TE) : TE := fun σ H Q => ta σ H fun x H1 => ∃ c, x = .bl c ∧ Q (.bl (!c)) H1
theorem pe_one {op} {t : TE} (h : PE X a t) : PE X (.BoolOp op [a] pos) t := fun pins s σ H Q I hw => BoolOp_one (h pins s σ H Q I hw)
theorem pe_and (ha : PE X a ta) (hb : PE X (.BoolOp .And (b :: rest) pos) tb) : PE X (.BoolOp .And (a :: b :: rest) pos) (tAndV ta tb) := by
 intro pins s σ H Q I h
 refine BoolOp_and (thn (ha pins s σ H _ I h) fun v s1 ⟨x, H1, I1, r1, q1⟩ => ?_)
 obtain ⟨c, rfl, q1⟩ := q1
 cases r1
 refine wpAny_truthy_bool ?_
 cases c with
 | true => exact hb pins s1 σ H1 Q I1 q1
 | false => exact ⟨.bl false, H1, I1, rfl, q1⟩
theorem pe_not (ha : PE X a ta) : PE X (.UnaryOp .Not a pos) (tNotV ta) := by
 intro pins s σ H Q I h
 refine UnaryOp_ (thn (ha pins s σ H _ I h) fun v s1 ⟨x, H1, I1, r1, q1⟩ => ?_)
 obtain ⟨c, rfl, q1⟩ := q1
 cases r1
 exact not_of (wpAny_truthy_bool ⟨.bl (!c), H1, I1, rfl, q1⟩)
def tIf (t : TT) (ta tb : TE) : TE := fun σ H Q => t σ H fun c H1 => if c = true then ta σ H1 Q else tb σ H1 Q
theorem pe_ifExp {c : Expr} (hc : PT X c tA) (ha : PE X a ta) (hb : PE X b tb) : PE X (.IfExp c a b pos) (tIf tA ta tb) := by
 intro pins s σ H Q I h
 refine wpAny_IfExp (thn (hc pins s σ H _ I h) fun d s1 ⟨H1, I1, q1⟩ => ?_)
 cases d with
 | true => exact ha pins s1 σ H1 Q I1 q1
 | false => exact hb pins s1 σ H1 Q I1 q1
end
def SqL (K : W.Frag) (H : Hp) (a : Addr) (xs : List V) : Prop :=
 Rd H a (.lst xs) ∨
  ∃ (o : Obj) (its : Array Value) (n : Nat), K.lookup a = some o ∧ o.cls = .type "list" ∧ o.dict = none ∧ o.data = .seq its n ∧ its.size ≤ sizeLine ∧ Vals xs its.toList
def SqT (K : W.Frag) (H : Hp) (a : Addr) (xs : List V) : Prop :=
 Rd H a (.tup xs) ∨
  ∃ (o : Obj) (its : Array Value) (n : Nat), K.lookup a = some o ∧ o.cls = .type "tuple" ∧ o.data = .seq its n ∧ its.size ≤ sizeLine ∧ Vals xs its.toList
def absV : Value → Option V
 | .none => some .non
 | .bool b => some (.bl b)
 | .int i _ => some (.int i)
 | .str x _ => some (.str x)
 | .bytes b _ => some (.byt b)
 | .float b _ => some (.flt b)
 | .ref a => some (.ref a)
 | .type n => some (.ty n)
 | _ => none
theorem RelV.abs {x : V} {u : Value} (r : RelV x u) : absV u = some x := by
 cases x with
 | non => cases r; rfl
 | bl _ => cases r; rfl
 | int _ => obtain ⟨t, rfl⟩ := r; rfl
 | str _ => obtain ⟨t, rfl⟩ := r; rfl
 | byt _ => obtain ⟨t, rfl⟩ := r; rfl
 | flt _ => obtain ⟨t, rfl⟩ := r; rfl
 | ref _ => cases r; rfl
 | ty _ => cases r; rfl
theorem RelV.inj {x y : V} {u : Value} (r : RelV x u) (q : RelV y u) : x = y := Option.some.inj (r.abs.symm.trans q.abs)
theorem Vals.inj : ∀ {xs ys : List V} {us : List Value}, Vals xs us → Vals ys us → xs = ys
 | _, _, _, .nil, .nil => rfl
 | _, _, _, .cons r t, .cons r' t' => by rw [r.inj r', Vals.inj t t']
section
variable {X : Cx} {pins : List (Addr × Obj)} {σ : St} {H : Hp} {s : Shared} {a : Addr} {xs ys : List V}
theorem SqL.of {K : W.Frag} (h : H a = some (.lst xs)) : SqL K H a xs := .inl (.inl h)
theorem SqT.of {K : W.Frag} (h : H a = some (.tup xs)) : SqT K H a xs := .inl (.inl h)
theorem Inv.list (I : Inv X pins σ H s) (h : SqL X.K H a xs) : ∃ its : List Value, Vals xs its ∧ PlainL s.heap a its.toArray ∧ xs.length ≤ sizeLine := by
 rcases h with h | ⟨o, its, n, hk, hc, hd, hs, hz, r⟩
 ·obtain ⟨z, its, n, r, e⟩ := h.ok I.hok
  exact ⟨its, r, ⟨_, n, e, rfl, rfl, rfl⟩, z⟩
 ·refine ⟨its.toList, r, ⟨o, n, I.kIn a o hk, hc, hd, by simpa using hs⟩, ?_⟩
  have e := r.length
  simp only [Array.length_toList] at e
  omega
theorem Inv.tuple (I : Inv X pins σ H s) (h : SqT X.K H a xs) : ∃ its : List Value, Vals xs its ∧ IsTup s.heap a its.toArray ∧ xs.length ≤ sizeLine := by
 rcases h with h | ⟨o, its, n, hk, hc, hs, hz, r⟩
 ·obtain ⟨z, its, r, p⟩ := h.ok I.hok
  exact ⟨its, r, p, z⟩
 ·refine ⟨its.toList, r, ⟨o, I.kIn a o hk, hc, n, by simpa using hs⟩, ?_⟩
  have e := r.length
  simp only [Array.length_toList] at e
  omega
theorem Inv.list_inj (I : Inv X pins σ H s) (h : SqL X.K H a xs) (h' : SqL X.K H a ys) : xs = ys := by
 obtain ⟨its, r, ⟨o, n, e, _, _, d⟩, _⟩ := I.list h
 obtain ⟨its', r', ⟨o', n', e', _, _, d'⟩, _⟩ := I.list h'
 rw [e] at e'; cases e'
 rw [d] at d'
 injection d' with d1 _
 have : its = its' := by simpa using congrArg Array.toList d1
 subst this
 exact r.inj r'
end
abbrev Cx.wish (X : Cx) (E : Value → Shared → Prop) : Cx := { X with xe := E }
theorem Cx.Ok.wish {X : Cx} (ok : X.Ok) (E : Value → Shared → Prop) : (X.wish E).Ok :=
 ⟨ok.mod, ok.kind, ok.glob, ok.blt, ok.above, ok.inj, ok.has, ok.cab, ok.hd, ok.frames, ok.stk, ok.exf, ok.bs, ok.bsz, ok.noex, ok.exfs, ok.funs, ok.frf⟩
section
variable {X : Cx} {pins : List (Addr × Obj)} {σ : St} {H : Hp} {s : Shared} {E : Value → Shared → Prop}
theorem Inv.wish (I : Inv X pins σ H s) (E : Value → Shared → Prop) : Inv (X.wish E) pins σ H s := ⟨I.ok.wish E, I.os, I.bare, I.base, I.loc, I.cell, I.free, I.freeC, I.pin, I.hok, I.len⟩
end
section
variable {X : Cx} {st : Stmt} {rest : List Stmt} {t u : TS} {e : Expr} {te : TE} {pos : Pos}
def tNext : TS := fun D σ H => D.nx σ H
def tSeq (t u : TS) : TS := fun D σ H => t { D with nx := u D } σ H
theorem pss_nil : PSs X [] tNext := fun _ _ σ H _ I h => wpAny_execs_nil ⟨σ, H, I, h⟩
theorem pss_cons (h1 : PS X st t) (h2 : PSs X rest u) : PSs X (st :: rest) (tSeq t u) := by
 intro pins s σ H D I h
 refine wpAny_execs_cons (thn (h1 pins s σ H { D with nx := u D } I h) fun f s1 q => ?_)
 cases f with
 | next =>
  obtain ⟨σ', H', I', q⟩ := q
  exact h2 pins s1 σ' H' D I' q
 | ret v => exact q
 | brk => exact q
 | cont => exact q
theorem pss_one (h1 : PS X st t) : PSs X [st] t := by
 intro pins s σ H D I h
 refine wpAny_execs_cons (thn (h1 pins s σ H D I h) fun f s1 q => ?_)
 cases f with
 | next => exact wpAny_execs_nil q
 | ret v => exact q
 | brk => exact q
 | cont => exact q
theorem Inv.quiet {pins : List (Addr × Obj)} {σ : St} {H : Hp} {s : Shared} (I : Inv X pins σ H s) : interactive X.env = false := by simp [interactive, I.ok.kind]
def tDrop (te : TE) : TS := fun D σ H => te σ H fun _ H1 => D.nx σ H1
theorem ps_expr (he : PE X e te) (hs : swapsWith e none pos.line X.env = pure false := by rfl) : PS X (.Expr e pos) (tDrop te) := by
 intro pins s σ H D I h
 exact wpAny_Expr_any (thn (he pins s σ H _ I h) fun v s1 ⟨x, H1, I1, r1, q1⟩ => ⟨σ, H1, I1, q1⟩) I.quiet hs
def tRet (te : TE) : TS := fun D σ H => te σ H D.rt
theorem ps_ret (he : PE X e te) : PS X (.Return (some e) pos) (tRet te) := by
 intro pins s σ H D I h
 exact wpAny_Return_some (thn (he pins s σ H _ I h) fun v s1 ⟨x, H1, I1, r1, q1⟩ => ⟨x, σ, H1, I1, r1, q1⟩)
def tIfS (c : TT) (t u : TS) : TS := fun D σ H => c σ H fun b H1 => if b = true then t D σ H1 else u D σ H1
theorem ps_if {c : Expr} {a b : List Stmt} {tc : TT} (hc : PT X c tc) (ha : PSs X a t) (hb : PSs X b u) : PS X (.If c a b pos) (tIfS tc t u) := by
 intro pins s σ H D I h
 refine wpAny_If (thn (hc pins s σ H _ I h) fun d s1 ⟨H1, I1, q1⟩ => ?_)
 cases d with
 | true => exact ha pins s1 σ H1 D I1 q1
 | false => exact hb pins s1 σ H1 D I1 q1
end
abbrev TG := V → St → Hp → (St → Hp → Prop) → Prop
abbrev TGs := List V → St → Hp → (St → Hp → Prop) → Prop
def PG (X : Cx) (target : Expr) (t : TG) : Prop :=
 ∀ (pins : List (Addr × Obj)) (s : Shared) (σ : St) (H : Hp) (v : V) (u : Value) (Q : St → Hp → Prop), Inv X pins σ H s → RelV v u → t v σ H Q →
  wpAny (model X.prog X.w) X.A (assign target X.env u) (fun _ s' => ∃ σ' H', Inv X pins σ' H' s' ∧ Q σ' H') X.xe s
def PGs (X : Cx) (ts : List Expr) (t : TGs) : Prop :=
 ∀ (pins : List (Addr × Obj)) (s : Shared) (σ : St) (H : Hp) (vs : List V) (us : List Value) (Q : St → Hp → Prop), Inv X pins σ H s → Vals vs us → t vs σ H Q →
  wpAny (model X.prog X.w) X.A (assignInOrder ((assignEach ts X.env).map (·.2)) us) (fun _ s' => ∃ σ' H', Inv X pins σ' H' s' ∧ Q σ' H') X.xe s
section
variable {X : Cx} {pos : Pos}
def gName (i : Nat) : TG := fun v σ H Q => Q (σ.set i (some v)) H
theorem pg_name {i : Nat} {x : Str} (hN : X.N.Nodup) (hi : X.N[i]? = some x) (hx : Loc X.env.scope x) (hf : X.fn x = true ∨ X.env.scope.names.lookup x = some .local := by first | exact .inl rfl | exact .inr rfl | assumption) : PG X (.Name x pos) (gName i) := by
 intro pins s σ H v u Q I r h
 exact wpAny_assign_Name (store_ok I hN hi hx r (fun s' I' => ⟨_, H, I', h⟩) hf)
def gNil : TGs := fun vs σ H Q => vs = [] ∧ Q σ H
def gCons (t : TG) (u : TGs) : TGs := fun vs σ H Q => ∃ v r, vs = v :: r ∧ t v σ H fun σ' H' => u r σ' H' Q
theorem pgs_nil : PGs X [] gNil := by
 intro pins s σ H vs us Q I r h
 obtain ⟨e, h⟩ := h
 subst e
 cases r
 exact assignInOrder_nil ⟨σ, H, I, h⟩
theorem pgs_cons {e : Expr} {es : List Expr} {t : TG} {u : TGs} (h1 : PG X e t) (h2 : PGs X es u)
  (hs : (assignEach (e :: es) X.env).map (·.2) = assign e X.env :: (assignEach es X.env).map (·.2) := by rfl) : PGs X (e :: es) (gCons t u) := by
 intro pins s σ H vs us Q I r h
 obtain ⟨v, vr, e1, h⟩ := h
 subst e1
 cases r with
 | cons r rr =>
  rw [hs]
  refine assignInOrder_cons (thn (h1 pins s σ H _ _ _ I r h) fun _ s1 ⟨σ1, H1, I1, q1⟩ => ?_)
  exact h2 pins s1 σ1 H1 _ _ Q I1 rr q1
def gTup (K : W.Frag) (n : Nat) (t : TGs) : TG := fun v σ H Q => ∃ a xs, v = .ref a ∧ SqT K H a xs ∧ xs.length = n ∧ t xs σ H Q
theorem pg_tup {es : List Expr} {k : Nat} {t : TGs} {n : Nat} (hc : X.calm = true) (h : PGs X es t)
  (hn : (assignEach es X.env).length = n := by rfl) (hst : (assignEach es X.env).findIdx? (·.1) = none := by rfl) : PG X (.Tuple es k pos) (gTup X.K n t) := by
 intro pins s σ H v u Q I r hw
 obtain ⟨a, xs, e1, hq, hl, hw⟩ := hw
 subst e1
 cases r
 obtain ⟨its, rv, ht, hz⟩ := I.tuple hq
 refine assign_Tuple_tuple (I.ok.hd hc) ht (by simp [hn, ← hl, rv.length]) hst fun h' hx => ?_
 have I1 : Inv X pins σ H { s with heap := h' } := I.kept (t' := s.toks) fun b o e => hx b o (Nat.ne_of_lt (Heap.lt_size e)) e
 exact h pins _ σ H xs _ Q I1 (by simpa using rv) hw
def tAsg (te : TE) (g : TG) : TS := fun D σ H => te σ H fun x H1 => g x σ H1 D.nx
theorem ps_asg {tg e : Expr} {te : TE} {g : TG} (he : PE X e te) (hg : PG X tg g) (hs : swapsWithSole [tg] e pos.line X.env = pure false := by rfl) (hw : swappedStores [tg] e X.env = pure none := by rfl)
  (h1 : (assignEach [tg] X.env).map (·.2) = [assign tg X.env] := by rfl) : PS X (.Assign [tg] e pos) (tAsg te g) := by
 intro pins s σ H D I h
 refine wpAny_Assign_stores (thn (he pins s σ H _ I h) fun v s1 ⟨x, H1, I1, r1, q1⟩ => ?_) hs hw
 rw [h1]
 exact thn (hg pins s1 σ H1 x v _ I1 r1 q1) fun _ s2 q => q
theorem ps_set {i : Nat} {x : Str} {e : Expr} {te : TE} {pos' : Pos} (hN : X.N.Nodup) (hi : X.N[i]? = some x) (hx : Loc X.env.scope x) (he : PE X e te) (hs : swapsWith e (some (.Name x pos')) pos.line X.env = pure false := by rfl) (hf : X.fn x = true ∨ X.env.scope.names.lookup x = some .local := by first | exact .inl rfl | exact .inr rfl | assumption) :
  PS X (.Assign [.Name x pos'] e pos) (tAsg te (gName i)) := by
 intro pins s σ H D I h
 refine wpAny_Assign_Name (thn (he pins s σ H _ I h) fun v s1 ⟨y, H1, I1, r1, q1⟩ => ?_) hs
 exact store_ok I1 hN hi hx r1 (fun s2 I2 => ⟨_, H1, I2, q1⟩) hf
end
structure It where
 go : Nat → Hp → Prop
 yld : Nat → Hp → V → Hp → Prop
 stop : Nat → Hp → Prop
def FpOk (X : Cx) (pins : List (Addr × Obj)) (H : Hp) (b : Addr) : Prop :=
 H b = none ∧ b ≠ X.env.locals ∧ b ∉ X.fs ∧ (b ∈ X.ex ∨ X.s₀.heap.objs.size ≤ b) ∧ (∀ x c, X.env.cells.lookup x = some c → c ≠ b) ∧ ∀ p ∈ X.pn ++ pins, p.1 ≠ b
theorem Inv.fpOk {X : Cx} {pins : List (Addr × Obj)} {σ : St} {H H' : Hp} {s : Shared} {b : Addr} (I : Inv X pins σ H s) (hb : s.heap.objs.size ≤ b) (hn : H' b = none) : FpOk X pins H' b := by
 refine ⟨hn, Nat.ne_of_gt (Nat.lt_of_lt_of_le I.lt hb), I.nofs hb, .inr (Nat.le_trans I.sz hb), fun x c e z => ?_, fun p hp z => ?_⟩
 ·obtain ⟨v, q⟩ := I.cell x c e
  exact absurd (Nat.lt_of_lt_of_le q.lt (by rw [z]; exact hb)) (Nat.lt_irrefl _)
 ·exact absurd (Nat.lt_of_lt_of_le (Heap.lt_size (I.pin p hp).1) (by rw [z]; exact hb)) (Nat.lt_irrefl _)
structure Turn (P : Program) (w : World) (K : W.Frag) (tg : Expr) (J : It) (fp : List Addr) (it : Addr) (tn : Nat → Heap → Prop) : Prop where
 mem : it ∈ fp
 obj : ∀ i h, tn i h → ∀ b ∈ fp, ∃ o, h.get? b = some o ∧ ∀ v, o.data ≠ .cell v
 keep : ∀ i h h', tn i h → (∀ b ∈ fp, ∀ o, h.get? b = some o → h'.get? b = some o) → tn i h'
 item : ∀ (X : Cx), X.prog = P → X.w = w → X.K = K → X.calm = true → ∀ (i : Nat) (pins : List (Addr × Obj)) (s : Shared) (σ : St) (H : Hp) (E : Value → Shared → Prop), Inv X pins σ H s → (∀ b ∈ fp, FpOk X pins H b) → tn i s.heap → J.go i H →
  wpAny (model P w) X.A (pyNext (.ref it)) (fun r s1 => ∃ u, r = some u ∧
   wpAny (model P w) X.A (letOwnedTupleGo tg (.ref it) u) (fun _ s2 => ∃ x H', Inv X pins σ H' s2 ∧ RelV x u ∧ J.yld i H x H' ∧ tn (i + 1) s2.heap ∧ ∀ b ∈ fp, H' b = none) E s1) E s
 done : ∀ (X : Cx), X.prog = P → X.w = w → X.K = K → X.calm = true → ∀ (i : Nat) (pins : List (Addr × Obj)) (s : Shared) (σ : St) (H : Hp) (E : Value → Shared → Prop), Inv X pins σ H s → (∀ b ∈ fp, FpOk X pins H b) → tn i s.heap → J.stop i H →
  wpAny (model P w) X.A (pyNext (.ref it)) (fun r s1 => r = none ∧ Inv X pins σ H s1) E s
 self : ∀ (A : Around) (i : Nat) (s : Shared) (Q : Value → Shared → Prop) (E : Value → Shared → Prop), tn i s.heap → Q (.ref it) s → wpAny (model P w) A (pyIter (.ref it)) Q E s
abbrev TI := St → Hp → (It → Hp → Prop) → Prop
def PIE (X : Cx) (pins : List (Addr × Obj)) (σ : St) (tg : Expr) (R : It → Hp → Prop) (itv : Value) (s2 : Shared) : Prop :=
 ∃ (it : Addr) (fp : List Addr) (tn : Nat → Heap → Prop) (J : It) (H' : Hp), itv = .ref it ∧ Inv X pins σ H' s2 ∧ Turn X.prog X.w X.K tg J fp it tn ∧ tn 0 s2.heap ∧ (∀ b ∈ fp, FpOk X pins H' b) ∧ R J H'
def PI (X : Cx) (tg iter : Expr) (wi : TI) : Prop :=
 ∀ (pins : List (Addr × Obj)) (s : Shared) (σ : St) (H : Hp) (R : It → Hp → Prop), Inv X pins σ H s → wi σ H R →
  wpAny (model X.prog X.w) X.A (eval iter X.env) (fun v s1 => wpAny (model X.prog X.w) X.A (pyIter v) (PIE X pins σ tg R) X.xe s1) X.xe s
theorem go_of {M : Model} {A : Around} {E : Value → Shared → Prop} {s : Shared} {tg : Expr} {it : Addr} {u : Value} {o : Obj} {n : String} {vs : Array Value} {Q : Unit → Shared → Prop} (ho : s.heap.get? it = some o) (hc : o.cls = .type n) (hd : o.data = .fields vs)
  (hn : ["enumerate", "zip", "dict_itemiterator", "dict_reverseitemiterator", "odict_iterator", "itertools.zip_longest", "itertools.pairwise"].contains n = false) (hQ : Q () s) : wpAny M A (letOwnedTupleGo tg (.ref it) u) Q E s := by
 unfold letOwnedTupleGo
 cases tg <;> first
  | exact wpAny_pure hQ
  | (cases u <;> first
    | exact wpAny_pure hQ
    | (refine wpAny_bind (wpAny_load ho ?_)
       rw [hc, hd]
       show wpAny M A (if (["enumerate", "zip", "dict_itemiterator", "dict_reverseitemiterator", "odict_iterator", "itertools.zip_longest", "itertools.pairwise"].contains n && vs[0]? == some (rawInt _)) = true then _ else _) Q E s
       rw [if_neg (by intro h; rw [hn, Bool.false_and] at h; cases h)]
       exact wpAny_pure hQ))
def Itl (K : W.Frag) (a : Addr) : It :=
 ⟨fun i H => ∃ xs x, SqL K H a xs ∧ xs[i]? = some x, fun i H x H' => H' = H ∧ ∀ xs, SqL K H a xs → xs[i]? = some x, fun i H => ∃ xs, SqL K H a xs ∧ xs.length ≤ i⟩
def Itr (lo : Int) (n : Nat) : It := ⟨fun i _ => i < n, fun i H x H' => H' = H ∧ x = .int (lo + i), fun i _ => n ≤ i⟩
theorem turn_list {P : Program} {w : World} {K : W.Frag} {tg : Expr} (a it : Addr) : Turn P w K tg (Itl K a) [it] it (fun i h => h.IsListIter it a i) where
 mem := by simp
 obj := fun i h st b hb => by
  have e : b = it := by simpa using hb
  subst e
  obtain ⟨o, e, c, d⟩ := st
  exact ⟨o, e, fun v z => by rw [d] at z; cases z⟩
 keep := fun i h h' st k => st.at fun o e => k it (by simp) o e
 item := by
  intro X hP hw hK hc i pins s σ H E I hf st hg
  subst hP hw hK
  obtain ⟨xs, x, hq, hx⟩ := hg
  obtain ⟨its, rv, p, hz⟩ := I.list hq
  obtain ⟨u, hu, ru⟩ := rv.get hx
  obtain ⟨f0, f1, f2, f3, f4, f5⟩ := hf it (by simp)
  refine wpAny_pyNext_list_item st p.isList (x := u) (by simpa using hu) fun h' st' sb => ?_
  have I1 : Inv X pins σ H { s with heap := h' } := I.turned (t' := s.toks) (fun b o hb e => (sb.2 b hb).trans e) f0 f1 f3 f4 f5
  obtain ⟨o, e, c, d⟩ := id st'
  exact ⟨u, rfl, go_of (s := { s with heap := h' }) e c d (by decide) ⟨x, H, I1, ru, ⟨rfl, fun ys hy => by rw [I.list_inj hy hq]; exact hx⟩, st', fun b hb => (hf b hb).1⟩⟩
 done := by
  intro X hP hw hK hc i pins s σ H E I hf st hg
  subst hP hw hK
  obtain ⟨xs, hq, hx⟩ := hg
  obtain ⟨its, rv, p, hz⟩ := I.list hq
  obtain ⟨f0, f1, f2, f3, f4, f5⟩ := hf it (by simp)
  have hl := rv.length
  exact wpAny_pyNext_list_end (I.ok.hd hc) st p.isList (by simp; omega) fun h' eb => ⟨rfl, I.turned (t' := s.toks) (fun b o hb e => eb b o hb e) f0 f1 f3 f4 f5⟩
 self := fun _ _ _ _ _ st h => wpAny_pyIter_listiter st h
theorem turn_range {P : Program} {w : World} {K : PySem.W.Frag} {tg : Expr} (it : Addr) (lo : Int) (n : Nat) : Turn P w K tg (Itr lo n) [it] it (fun i h => IsRangeIter h it (lo + (i : Nat) * 1) ((n : Int) - (i : Nat)) 1) where
 mem := by simp
 obj := fun i h st b hb => by
  have e : b = it := by simpa using hb
  subst e
  exact ⟨_, st, fun v z => by
   have z' : Data.fields _ = Data.cell v := z
   cases z'⟩
 keep := fun i h h' st k => k it (by simp) _ st
 item := by
  intro X hP hw hK hc i pins s σ H E I hf st hg
  subst hP hw hK
  obtain ⟨f0, f1, f2, f3, f4, f5⟩ := hf it (by simp)
  have W := Walks.range (prog := X.prog) (w := X.w) (I.ok.hd hc) it lo 1 n
  refine W.item i s _ _ hg st fun v h' tk hv st' kk => ?_
  obtain ⟨t, rfl⟩ := hv
  have I1 : Inv X pins σ H { s with heap := h', toks := tk } := I.turned (fun b o hb e => kk b o (by simpa using hb) e) f0 f1 f3 f4 f5
  refine ⟨_, rfl, go_of (s := { s with heap := h', toks := tk }) (n := "range_iterator") st' rfl rfl (by decide) ⟨.int (lo + i), H, I1, ⟨t, ?_⟩, ⟨rfl, rfl⟩, st', fun b hb => (hf b hb).1⟩⟩
  rw [Int.mul_one]
 done := by
  intro X hP hw hK hc i pins s σ H E I hf st hg
  subst hP hw hK
  obtain ⟨f0, f1, f2, f3, f4, f5⟩ := hf it (by simp)
  exact wpAny_pyNext_range_end (I.ok.hd hc) st (by have : n ≤ i := hg; omega) fun h' eb => ⟨rfl, I.turned (t' := s.toks) (fun b o hb e => eb b o hb e) f0 f1 f3 f4 f5⟩
 self := fun _ _ _ _ _ st h => wpAny_pyIter_rangeiter st h
section
variable {X : Cx} {tg : Expr}
def iList (K : W.Frag) (tl : TE) : TI := fun σ H R => tl σ H fun x H1 => ∃ a, x = .ref a ∧ (∃ xs, SqL K H1 a xs) ∧ R (Itl K a) H1
theorem pi_list {l : Expr} {tl : TE} (hl : PE X l tl) : PI X tg l (iList X.K tl) := by
 intro pins s σ H R I h
 refine thn (hl pins s σ H _ I h) fun v s1 ⟨x, H1, I1, r1, q1⟩ => ?_
 obtain ⟨a, e, ⟨xs, hq⟩, q⟩ := q1
 subst e
 cases r1
 obtain ⟨its, rv, p, hz⟩ := I1.list hq
 refine wpAny_pyIter_list p.isList ?_
 refine ⟨s1.heap.objs.size, [s1.heap.objs.size], _, _, H1, rfl, I1.kept (t' := s1.toks) fun b o e => Heap.get?_push_of_some _ e, turn_list a _, ⟨_, Heap.get?_push_size _ rfl, rfl, rfl⟩, fun b hb => ?_, q⟩
 have e : b = s1.heap.objs.size := by simpa using hb
 subst e
 exact I1.fpOk (Nat.le_refl _) (I1.hok.fresh (Nat.le_refl _))
theorem range_it {pins : List (Addr × Obj)} {σ : St} {H : Hp} {s : Shared} {R : It → Hp → Prop} {E : Value → Shared → Prop} {lo hi : Int} {t u v : Tok} {tk : Nat} (I : Inv X pins σ H s) (h1 : -(2 ^ 62) ≤ lo) (h2 : lo < 2 ^ 62) (h3 : -(2 ^ 62) ≤ hi) (h4 : hi < 2 ^ 62)
  (q : R (Itr lo (hi - lo).toNat) H) : wpAny (model X.prog X.w) X.A (pyIter (.ref s.heap.objs.size)) (PIE X pins σ tg R) E { s with heap := s.heap.push { cls := .type "range", data := .fields #[.int lo t, .int hi u, .int 1 v] }, toks := tk } := by
 refine wpAny_pyIter_range (IsRange.new ..) (small_one h1 h2 h3 h4) ?_
 have I1 : Inv X pins σ H { s with heap := s.heap.push { cls := .type "range", data := .fields #[.int lo t, .int hi u, .int 1 v] }, toks := tk } := I.kept fun b o e => Heap.get?_push_of_some _ e
 refine ⟨(s.heap.push { cls := .type "range", data := .fields #[.int lo t, .int hi u, .int 1 v] }).objs.size, [(s.heap.push { cls := .type "range", data := .fields #[.int lo t, .int hi u, .int 1 v] }).objs.size], _, _, H, rfl,
  I1.kept (t' := tk) fun b o e => Heap.get?_push_of_some _ e, turn_range _ lo (hi - lo).toNat, ?_, fun b hb => ?_, q⟩
 ·have e1 : lo + ((0 : Nat) : Int) * 1 = lo := by simp
  have e2 : (((hi - lo).toNat : Nat) : Int) - ((0 : Nat) : Int) = Builtin.Range.rangeSize lo hi 1 := by rw [rangeSize_one]; split <;> omega
  show IsRangeIter _ _ (lo + ((0 : Nat) : Int) * 1) ((((hi - lo).toNat : Nat) : Int) - ((0 : Nat) : Int)) 1
  rw [e1, e2]
  exact Heap.get?_push_size _ rfl
 ·have e : b = (s.heap.push { cls := .type "range", data := .fields #[.int lo t, .int hi u, .int 1 v] }).objs.size := by simpa using hb
  subst e
  exact I1.fpOk (Nat.le_refl _) (I1.hok.fresh (Nat.le_refl _))
def iRng1 (ta : TA) : TI := fun σ H R => ta σ H fun vs H1 => ∃ j : Int, vs = [.int j] ∧ -(2 ^ 62) ≤ j ∧ j < 2 ^ 62 ∧ R (Itr 0 j.toNat) H1
theorem pi_range1 {a : Expr} {ta : TA} {p pos : Pos} (hg : Gl X "range") (hm : X.mg "range" = none) (ha : PA X [a] ta) (hs : starEach [a] X.env = [(false, eval a X.env)] := by rfl) : PI X tg (.Call (.Name "range" p) [a] [] pos) (iRng1 ta) := by
 intro pins s σ H R I h
 refine Call_ (ld_blt I hg hm boot_range (PyProof.Rows.callWith_type1 (thn (ha pos pins s σ H _ I h) fun us s1 ⟨vs, H1, I1, r1, q1⟩ => ?_) hs rfl))
 obtain ⟨j, e, q1, q2, q⟩ := q1
 subst e
 cases r1 with
 | cons r rr =>
  cases rr
  obtain ⟨t, rfl⟩ := r
  exact call_range_1 (range_it I1 (by omega) (by omega) q1 q2 (by simpa using q))
def tFor (wi : TI) (g : TG) (tb : TS) : TS := fun D σ H => wi σ H fun J H1 => ∃ W : Nat → Nat → St → Hp → Prop, (∃ m, W 0 m σ H1) ∧ ∀ i m σ H, W i m σ H →
 (J.stop i H ∧ D.nx σ H) ∨ (J.go i H ∧ ∃ N : St → Hp → Prop, (∀ σ' H', N σ' H' → ∃ m', m' < m ∧ W (i + 1) m' σ' H') ∧ ∀ x H', J.yld i H x H' → g x σ H' fun σ2 H2 => tb { D with nx := N, ct := N, bk := D.nx } σ2 H2)
def pinsAt (fp : List Addr) (h : Heap) : List (Addr × Obj) := fp.filterMap fun b => (h.get? b).map fun o => (b, o)
theorem mem_pinsAt {fp : List Addr} {h : Heap} {b : Addr} {o : Obj} (hb : b ∈ fp) (e : h.get? b = some o) : (b, o) ∈ pinsAt fp h := List.mem_filterMap.mpr ⟨b, hb, by rw [e]; rfl⟩
theorem of_pinsAt {fp : List Addr} {h : Heap} {p : Addr × Obj} (hp : p ∈ pinsAt fp h) : p.1 ∈ fp ∧ h.get? p.1 = some p.2 := by
 obtain ⟨b, hb, e⟩ := List.mem_filterMap.mp hp
 cases q : h.get? b with
 | none => rw [q] at e; cases e
 | some o =>
  rw [q] at e
  have e' : (b, o) = p := Option.some.inj e
  subst e'
  exact ⟨hb, q⟩
theorem Inv.pinned {pins : List (Addr × Obj)} {σ : St} {H : Hp} {s : Shared} {fp : List Addr} (I : Inv X pins σ H s) (hf : ∀ b ∈ fp, FpOk X pins H b) (ho : ∀ b ∈ fp, ∃ o, s.heap.get? b = some o ∧ ∀ v, o.data ≠ .cell v) : Inv X (pins ++ pinsAt fp s.heap) σ H s :=
 I.pins_of fun p hp => (List.mem_append.mp hp).elim (fun z => I.pin p (List.mem_append_right _ z)) fun z => by
  obtain ⟨hb, e⟩ := of_pinsAt z
  obtain ⟨f0, f1, f2, _⟩ := hf p.1 hb
  obtain ⟨o, e', d⟩ := ho p.1 hb
  rw [e] at e'; cases e'
  exact ⟨e, f0, f1, f2, d⟩
theorem Inv.unpinned {pins pl : List (Addr × Obj)} {σ : St} {H : Hp} {s : Shared} (I : Inv X (pins ++ pl) σ H s) : Inv X pins σ H s := I.pins_of fun p hp => I.pin p (List.mem_append_right _ (List.mem_append_left _ hp))
theorem ps_for {iter : Expr} {body : List Stmt} {wi : TI} {g : TG} {tb : TS} {pos : Pos} (hp : PassesOwn (model X.prog X.w) X.A X.env X.xe) (hc : X.calm = true) (hi : PI X tg iter wi) (hg : PG X tg g) (hb : PSs X body tb)
  (hs : ∀ x, foldedSetIterable iter X.env x = pure x := by intro _; rfl) : PS X (.For tg iter body [] pos) (tFor wi g tb) := by
 intro pins s σ H D I h
 refine wpAny_For (thn (hi pins s σ H _ I h) fun v s1 h1 => thn h1 fun itv s2 h2 => ?_) hs
 obtain ⟨it, fp, tn, J, H2, e, I2, T, st2, f2, W, ⟨m0, w0⟩, turn⟩ := h2
 subst e
 -- what stays true of the iterator's objects through the loop
 have stat : ∀ {H' : Hp}, (∀ b ∈ fp, H' b = none) → ∀ b ∈ fp, FpOk X pins H' b := fun hn b hb => ⟨hn b hb, (f2 b hb).2⟩
 refine codeAny_forLoop_any (fun n s' => ∃ i σ' H', Inv X pins σ' H' s' ∧ tn i s'.heap ∧ (∀ b ∈ fp, H' b = none) ∧ W i n σ' H') ?_ m0 ⟨0, σ, H2, I2, st2, fun b hb => (f2 b hb).1, w0⟩
 rintro n s3 ⟨i, σ3, H3, I3, st3, fr3, w3⟩
 rcases turn i n σ3 H3 w3 with ⟨stop, qn⟩ | ⟨go, N, hN, step⟩
 ·refine wpAny_passesOwn hp (thn (T.done X rfl rfl rfl hc i pins s3 σ3 H3 X.xe I3 (stat fr3) st3 stop) fun r s4 ⟨hr, I4⟩ => ?_)
  subst hr
  exact wpAny_execs_nil ⟨σ3, H3, I4, qn⟩
 ·refine wpAny_passesOwn hp (thn (T.item X rfl rfl rfl hc i pins s3 σ3 H3 X.xe I3 (stat fr3) st3 go) fun r s4 ⟨u, hr, h4⟩ => ?_)
  subst hr
  refine wpAny_passesOwn hp (thn h4 fun _ s5 ⟨x, H5, I5, r5, y5, st5, fr5⟩ => ?_)
  have I5' := I5.pinned (stat fr5) (T.obj _ _ st5)
  refine wpAny_passesOwn hp (thn (hg _ s5 σ3 H5 x u _ I5' r5 (step x H5 y5)) fun _ s6 ⟨σ6, H6, I6, q6⟩ => ?_)
  refine wpAny_passesOwn hp (thn (hb _ s6 σ6 H6 _ I6 q6) fun f s7 q7 => ?_)
  have again : ∀ {σ7 : St} {H7 : Hp}, Inv X (pins ++ pinsAt fp s5.heap) σ7 H7 s7 → N σ7 H7 → ∃ m, m < n ∧ ∃ i σ' H', Inv X pins σ' H' s7 ∧ tn i s7.heap ∧ (∀ b ∈ fp, H' b = none) ∧ W i m σ' H' := fun {σ7 H7} I7 n7 => by
   obtain ⟨m', hm, w7⟩ := hN σ7 H7 n7
   refine ⟨m', hm, i + 1, σ7, H7, I7.unpinned, T.keep _ _ _ st5 fun b hb o e => (I7.pin (b, o) (List.mem_append_right _ (List.mem_append_right _ (mem_pinsAt hb e)))).1, fun b hb => ?_, w7⟩
   obtain ⟨o, e, d⟩ := T.obj _ _ st5 b hb
   exact (I7.pin (b, o) (List.mem_append_right _ (List.mem_append_right _ (mem_pinsAt hb e)))).2.1
  cases f with
  | next => obtain ⟨σ7, H7, I7, n7⟩ := q7; exact again I7 n7
  | cont => obtain ⟨σ7, H7, I7, n7⟩ := q7; exact again I7 n7
  | brk => obtain ⟨σ7, H7, I7, q7⟩ := q7; exact ⟨σ7, H7, I7.unpinned, q7⟩
  | ret v => obtain ⟨x7, σ7, H7, I7, r7, q7⟩ := q7; exact ⟨x7, σ7, H7, I7.unpinned, r7, q7⟩
end
theorem for_list {K : PySem.W.Frag} {a : Addr} {xs : List V} {g : TG} {tb : TS} {D : Ends} {σ : St} {H : Hp} (Pv : Nat → St → Hp → Prop) (h0 : Pv 0 σ H) (hl : ∀ i σ H, i ≤ xs.length → Pv i σ H → SqL K H a xs)
  (hs : ∀ i x σ H, xs[i]? = some x → Pv i σ H → g x σ H fun σ2 H2 => tb { D with nx := Pv (i + 1), ct := Pv (i + 1), bk := D.nx } σ2 H2) (hd : ∀ σ H, Pv xs.length σ H → D.nx σ H) :
  ∃ W : Nat → Nat → St → Hp → Prop, (∃ m, W 0 m σ H) ∧ ∀ i m σ H, W i m σ H →
   ((Itl K a).stop i H ∧ D.nx σ H) ∨ ((Itl K a).go i H ∧ ∃ N : St → Hp → Prop, (∀ σ' H', N σ' H' → ∃ m', m' < m ∧ W (i + 1) m' σ' H') ∧ ∀ x H', (Itl K a).yld i H x H' → g x σ H' fun σ2 H2 => tb { D with nx := N, ct := N, bk := D.nx } σ2 H2) := by
 refine ⟨fun i m σ H => m = xs.length - i ∧ i ≤ xs.length ∧ Pv i σ H, ⟨xs.length, by simp, Nat.zero_le _, h0⟩, ?_⟩
 rintro i m σ H ⟨rfl, hi, p⟩
 have q := hl i σ H hi p
 by_cases hlt : i < xs.length
 ·refine .inr ⟨⟨xs, xs[i], q, by simp [hlt]⟩, Pv (i + 1), fun σ' H' p' => ⟨xs.length - (i + 1), by omega, rfl, hlt, p'⟩, fun x H' y => ?_⟩
  obtain ⟨e, y⟩ := y
  subst e
  exact hs i x σ _ (y xs q) p
 ·have e : i = xs.length := by omega
  subst e
  exact .inl ⟨⟨xs, q, Nat.le_refl _⟩, hd σ H p⟩
theorem for_range {lo : Int} {n : Nat} {g : TG} {tb : TS} {D : Ends} {σ : St} {H : Hp} (Pv : Nat → St → Hp → Prop) (h0 : Pv 0 σ H)
  (hs : ∀ i σ H, i < n → Pv i σ H → g (.int (lo + i)) σ H fun σ2 H2 => tb { D with nx := Pv (i + 1), ct := Pv (i + 1), bk := D.nx } σ2 H2) (hd : ∀ σ H, Pv n σ H → D.nx σ H) :
  ∃ W : Nat → Nat → St → Hp → Prop, (∃ m, W 0 m σ H) ∧ ∀ i m σ H, W i m σ H →
   ((Itr lo n).stop i H ∧ D.nx σ H) ∨ ((Itr lo n).go i H ∧ ∃ N : St → Hp → Prop, (∀ σ' H', N σ' H' → ∃ m', m' < m ∧ W (i + 1) m' σ' H') ∧ ∀ x H', (Itr lo n).yld i H x H' → g x σ H' fun σ2 H2 => tb { D with nx := N, ct := N, bk := D.nx } σ2 H2) := by
 refine ⟨fun i m σ H => m = n - i ∧ i ≤ n ∧ Pv i σ H, ⟨n, by simp, Nat.zero_le _, h0⟩, ?_⟩
 rintro i m σ H ⟨rfl, hi, p⟩
 by_cases hlt : i < n
 ·refine .inr ⟨hlt, Pv (i + 1), fun σ' H' p' => ⟨n - (i + 1), by omega, rfl, hlt, p'⟩, fun x H' y => ?_⟩
  obtain ⟨e, y⟩ := y
  subst e y
  exact hs i σ _ hlt p
 ·have e : i = n := by omega
  subst e
  exact .inl ⟨Nat.le_refl _, hd σ H p⟩
abbrev R2 := V → V → Hp → VK → Prop
def OpR (X : Cx) (f : Value → Value → Sem Value) (r : R2) : Prop :=
 ∀ (pins : List (Addr × Obj)) (s : Shared) (σ : St) (H : Hp) (x y : V) (v u : Value) (Q : VK), Inv X pins σ H s → RelV x v → RelV y u → r x y H Q →
  wpAny (model X.prog X.w) X.A (f v u) (EP X pins σ Q) X.xe s
def UnR (X : Cx) (f : Value → Sem Value) (r : V → Hp → VK → Prop) : Prop :=
 ∀ (pins : List (Addr × Obj)) (s : Shared) (σ : St) (H : Hp) (x : V) (v : Value) (Q : VK), Inv X pins σ H s → RelV x v → r x H Q →
  wpAny (model X.prog X.w) X.A (f v) (EP X pins σ Q) X.xe s
def CallR (X : Cx) (f : Value) (r : List V → Hp → VK → Prop) : Prop :=
 ∀ (pins : List (Addr × Obj)) (s : Shared) (σ : St) (H : Hp) (xs : List V) (us : List Value) (Q : VK), Inv X pins σ H s → Vals xs us → r xs H Q →
  wpAny (model X.prog X.w) X.A (call f us) (EP X pins σ Q) X.xe s
def tOp (r : R2) (ta tb : TE) : TE := fun σ H Q => ta σ H fun x H1 => tb σ H1 fun y H2 => r x y H2 Q
def tUn (r : V → Hp → VK → Prop) (ta : TE) : TE := fun σ H Q => ta σ H fun x H1 => r x H1 Q
def rI (C : Int → Int → Prop) (g : Int → Int → V) : R2 := fun x y H Q => ∃ i j, x = .int i ∧ y = .int j ∧ C i j ∧ Q (g i j) H
def rI0 (g : Int → Int → V) : R2 := fun x y H Q => ∃ i j, x = .int i ∧ y = .int j ∧ Q (g i j) H
def rU (g : Int → V) : V → Hp → VK → Prop := fun x H Q => ∃ i, x = .int i ∧ Q (g i) H
section
variable {X : Cx} {a b c : Expr} {ta tb tc : TE} {pos : Pos}
theorem binT (ha : PE X a ta) (hb : PE X b tb) {pins : List (Addr × Obj)} {s : Shared} {σ : St} {H : Hp} {R : V → V → Hp → Prop} (I : Inv X pins σ H s)
  (h : ta σ H fun x H1 => tb σ H1 fun y H2 => R x y H2) {Q : Value → Shared → Prop} {f : Value → Value → Sem Value}
  (hf : ∀ v u s2 x y H2, Inv X pins σ H2 s2 → RelV x v → RelV y u → R x y H2 → wpAny (model X.prog X.w) X.A (f v u) Q X.xe s2) :
  wpAny (model X.prog X.w) X.A (eval a X.env) (fun v s₁ => wpAny (model X.prog X.w) X.A (eval b X.env) (fun u s₂ => wpAny (model X.prog X.w) X.A (f v u) Q X.xe s₂) X.xe s₁) X.xe s := by
 refine thn (ha pins s σ H _ I h) fun v s1 ⟨x, H1, I1, r1, q1⟩ => ?_
 refine thn (hb pins s1 σ H1 _ I1 q1) fun u s2 ⟨y, H2, I2, r2, q2⟩ => ?_
 exact hf v u s2 x y H2 I2 r1 r2 q2
theorem pe_op {op : Operator} {r : R2} (ho : OpR X (binaryOp op) r) (ha : PE X a ta) (hb : PE X b tb) : PE X (.BinOp a op b pos) (tOp r ta tb) := by
 intro pins s σ H Q I h
 exact wpAny_BinOp (binT ha hb I h fun v u s2 x y H2 I2 rx ry q => ho pins s2 σ H2 x y v u Q I2 rx ry q)
theorem pe_un {op : UnaryOp} {r : V → Hp → VK → Prop} (ho : UnR X (unaryOp op) r) (ha : PE X a ta) : PE X (.UnaryOp op a pos) (tUn r ta) := by
 intro pins s σ H Q I h
 exact UnaryOp_ (thn (ha pins s σ H _ I h) fun v s1 ⟨x, H1, I1, r1, q1⟩ => ho pins s1 σ H1 x v Q I1 r1 q1)
theorem opI {f : Value → Value → Sem Value} {C : Int → Int → Prop} {g : Int → Int → Int}
  (rule : ∀ (i j : Int) (t u : Tok) (s : Shared) (Q : Value → Shared → Prop) (E : Value → Shared → Prop), C i j → Q (.int (g i j) s.toks) { s with toks := s.toks + 1 } → wpAny (model X.prog X.w) X.A (f (.int i t) (.int j u)) Q E s) :
  OpR X f (rI C fun i j => .int (g i j)) := by
 intro pins s σ H x y v u Q I rx ry h
 obtain ⟨i, j, rfl, rfl, hc, q⟩ := h
 obtain ⟨t, rfl⟩ := rx
 obtain ⟨t', rfl⟩ := ry
 exact rule i j t t' s _ _ hc ⟨.int (g i j), H, I.tok _, ⟨_, rfl⟩, q⟩
theorem opI0 {f : Value → Value → Sem Value} {g : Int → Int → Int}
  (rule : ∀ (i j : Int) (t u : Tok) (s : Shared) (Q : Value → Shared → Prop) (E : Value → Shared → Prop), Q (.int (g i j) s.toks) { s with toks := s.toks + 1 } → wpAny (model X.prog X.w) X.A (f (.int i t) (.int j u)) Q E s) :
  OpR X f (rI0 fun i j => .int (g i j)) := by
 intro pins s σ H x y v u Q I rx ry h
 obtain ⟨i, j, rfl, rfl, q⟩ := h
 obtain ⟨t, rfl⟩ := rx
 obtain ⟨t', rfl⟩ := ry
 exact rule i j t t' s _ _ ⟨.int (g i j), H, I.tok _, ⟨_, rfl⟩, q⟩
theorem opB0 {f : Value → Value → Sem Value} {g : Int → Int → Bool}
  (rule : ∀ (i j : Int) (t u : Tok) (s : Shared) (Q : Value → Shared → Prop) (E : Value → Shared → Prop), Q (.bool (g i j)) s → wpAny (model X.prog X.w) X.A (f (.int i t) (.int j u)) Q E s) :
  OpR X f (rI0 fun i j => .bl (g i j)) := by
 intro pins s σ H x y v u Q I rx ry h
 obtain ⟨i, j, rfl, rfl, q⟩ := h
 obtain ⟨t, rfl⟩ := rx
 obtain ⟨t', rfl⟩ := ry
 exact rule i j t t' s _ _ ⟨.bl (g i j), H, I, rfl, q⟩
def CPow (i j : Int) : Prop := 0 ≤ j ∧ j ≤ 1000000 ∧ i.natAbs < 2 ^ 64
theorem op_add : OpR X (binaryOp .Add) (rI0 fun i j => .int (i + j)) := opI0 fun _ _ _ _ _ _ _ q => add_int q
theorem op_sub : OpR X (binaryOp .Sub) (rI0 fun i j => .int (i - j)) := opI0 fun _ _ _ _ _ _ _ q => sub_int q
theorem op_mod : OpR X (binaryOp .Mod) (rI (fun _ j => 0 < j) fun i j => .int (i % j)) := opI fun i j _ _ _ _ _ hc q => by
 have h1 : (0 : Int) < j := hc
 exact mod_int' (by omega) (by rw [Int.fmod_eq_emod_of_nonneg i (by omega)]; exact q)
theorem op_pow : OpR X (binaryOp .Pow) (rI CPow fun i j => .int (i ^ j.toNat)) := opI fun _ _ _ _ _ _ _ hc q => pow_int_small hc.1 hc.2.1 hc.2.2 q
theorem unI {f : Value → Sem Value} {g : Int → Int}
  (rule : ∀ (i : Int) (t : Tok) (s : Shared) (Q : Value → Shared → Prop) (E : Value → Shared → Prop), Q (.int (g i) s.toks) { s with toks := s.toks + 1 } → wpAny (model X.prog X.w) X.A (f (.int i t)) Q E s) :
  UnR X f (rU fun i => .int (g i)) := by
 intro pins s σ H x v Q I rx h
 obtain ⟨i, rfl, q⟩ := h
 obtain ⟨t, rfl⟩ := rx
 exact rule i t s _ _ ⟨.int (g i), H, I.tok _, ⟨_, rfl⟩, q⟩
theorem un_neg : UnR X (unaryOp .USub) (rU fun i => .int (-i)) := unI fun _ _ _ _ _ q => neg_int q
end
def scal : V → V → Bool
 | .non, .non => true | .non, .int _ => true | .int _, .non => true | .non, .bl _ => true | .bl _, .non => true | .non, .str _ => true | .str _, .non => true
 | .int _, .int _ => true | .bl _, .bl _ => true | .str _, .str _ => true | .byt _, .byt _ => true
 | .int _, .str _ => true | .str _, .int _ => true | .bl _, .str _ => true | .str _, .bl _ => true
 | _, _ => false
def rEq : R2 := fun x y H Q => scal x y = true ∧ Q (.bl (decide (x = y))) H
def rNe : R2 := fun x y H Q => scal x y = true ∧ Q (.bl (!decide (x = y))) H
theorem dec_int {i j : Int} : decide (V.int i = V.int j) = (i == j) := by
 rw [Bool.eq_iff_iff]
 simp
theorem dec_bl {i j : Bool} : decide (V.bl i = V.bl j) = (i == j) := by
 rw [Bool.eq_iff_iff]
 simp
theorem dec_str {i j : Str} : decide (V.str i = V.str j) = (i == j) := by
 rw [Bool.eq_iff_iff]
 simp
theorem dec_byt {i j : Array UInt8} : decide (V.byt i = V.byt j) = (i.toList == j.toList) := by
 rw [Bool.eq_iff_iff]
 cases i
 cases j
 simp
section
variable {X : Cx} {a b c : Expr} {ta tb tc : TE} {pos : Pos}
theorem fin_bl {pins : List (Addr × Obj)} {σ : St} {H : Hp} {s : Shared} {Q : VK} {k k' : Bool} (I : Inv X pins σ H s) (q : Q (.bl k) H) (e : k = k') : EP X pins σ Q (.bool k') s := by
 subst e
 exact ⟨.bl k, H, I, rfl, q⟩
theorem op_eq : OpR X (compareOp .Eq) rEq := by
 intro pins s σ H x y v u Q I rx ry h
 obtain ⟨hs, q⟩ := h
 cases x with
 | non =>
  cases rx
  cases y with
  | non => cases ry; exact PySem.EqNone.eq_none_none (fin_bl I q (by simp))
  | bl j => cases ry; exact PySem.EqNone.eq_none_bool (fin_bl I q (by simp))
  | int j => obtain ⟨t', rfl⟩ := ry; exact PySem.EqNone.eq_none_int (fin_bl I q (by simp))
  | str j => obtain ⟨t', rfl⟩ := ry; exact PySem.EqNone.eq_none_str (fin_bl I q (by simp))
  | _ => exact absurd (show false = true from hs) Bool.false_ne_true
 | bl i =>
  cases rx
  cases y with
  | non => cases ry; exact PySem.EqNone.eq_bool_none (fin_bl I q (by simp))
  | bl j => cases ry; exact eq_bool (fin_bl I q dec_bl)
  | str j => obtain ⟨t', rfl⟩ := ry; exact PySem.EqMixed.eq_bool_str (fin_bl I q (by simp))
  | _ => exact absurd (show false = true from hs) Bool.false_ne_true
 | int i =>
  obtain ⟨t, rfl⟩ := rx
  cases y with
  | non => cases ry; exact PySem.EqNone.eq_int_none (fin_bl I q (by simp))
  | int j => obtain ⟨t', rfl⟩ := ry; exact eq_int (fin_bl I q dec_int)
  | str j => obtain ⟨t', rfl⟩ := ry; exact PySem.EqMixed.eq_int_str (fin_bl I q (by simp))
  | _ => exact absurd (show false = true from hs) Bool.false_ne_true
 | str i =>
  obtain ⟨t, rfl⟩ := rx
  cases y with
  | non => cases ry; exact PySem.EqNone.eq_str_none (fin_bl I q (by simp))
  | bl j => cases ry; exact PySem.EqMixed.eq_str_bool (fin_bl I q (by simp))
  | int j => obtain ⟨t', rfl⟩ := ry; exact PySem.EqMixed.eq_str_int (fin_bl I q (by simp))
  | str j => obtain ⟨t', rfl⟩ := ry; exact eq_str (fin_bl I q dec_str)
  | _ => exact absurd (show false = true from hs) Bool.false_ne_true
 | byt i =>
  obtain ⟨t, rfl⟩ := rx
  cases y with
  | byt j => obtain ⟨t', rfl⟩ := ry; exact W.eq_bytes (fin_bl I q dec_byt)
  | _ => exact absurd (show false = true from hs) Bool.false_ne_true
 | _ => cases y <;> exact absurd (show false = true from hs) Bool.false_ne_true
theorem op_ne : OpR X (compareOp .NotEq) rNe := by
 intro pins s σ H x y v u Q I rx ry h
 obtain ⟨hs, q⟩ := h
 cases x with
 | non =>
  cases rx
  cases y with
  | non => cases ry; exact PySem.EqNone.ne_none_none (fin_bl I q (by simp))
  | bl j => cases ry; exact PySem.EqNone.ne_none_bool (fin_bl I q (by simp))
  | int j => obtain ⟨t', rfl⟩ := ry; exact PySem.EqNone.ne_none_int (fin_bl I q (by simp))
  | str j => obtain ⟨t', rfl⟩ := ry; exact PySem.EqNone.ne_none_str (fin_bl I q (by simp))
  | _ => exact absurd (show false = true from hs) Bool.false_ne_true
 | bl i =>
  cases rx
  cases y with
  | non => cases ry; exact PySem.EqNone.ne_bool_none (fin_bl I q (by simp))
  | bl j => cases ry; exact ne_bool (fin_bl I q (congrArg not dec_bl))
  | str j => obtain ⟨t', rfl⟩ := ry; exact PySem.EqMixed.ne_bool_str (fin_bl I q (by simp))
  | _ => exact absurd (show false = true from hs) Bool.false_ne_true
 | int i =>
  obtain ⟨t, rfl⟩ := rx
  cases y with
  | non => cases ry; exact PySem.EqNone.ne_int_none (fin_bl I q (by simp))
  | int j => obtain ⟨t', rfl⟩ := ry; exact ne_int (fin_bl I q (congrArg not dec_int))
  | str j => obtain ⟨t', rfl⟩ := ry; exact PySem.EqMixed.ne_int_str (fin_bl I q (by simp))
  | _ => exact absurd (show false = true from hs) Bool.false_ne_true
 | str i =>
  obtain ⟨t, rfl⟩ := rx
  cases y with
  | non => cases ry; exact PySem.EqNone.ne_str_none (fin_bl I q (by simp))
  | bl j => cases ry; exact PySem.EqMixed.ne_str_bool (fin_bl I q (by simp))
  | int j => obtain ⟨t', rfl⟩ := ry; exact PySem.EqMixed.ne_str_int (fin_bl I q (by simp))
  | str j => obtain ⟨t', rfl⟩ := ry; exact ne_str (fin_bl I q (congrArg not dec_str))
  | _ => exact absurd (show false = true from hs) Bool.false_ne_true
 | byt i =>
  obtain ⟨t, rfl⟩ := rx
  cases y with
  | byt j => obtain ⟨t', rfl⟩ := ry; exact W.ne_bytes (fin_bl I q (congrArg not dec_byt))
  | _ => exact absurd (show false = true from hs) Bool.false_ne_true
 | _ => cases y <;> exact absurd (show false = true from hs) Bool.false_ne_true
theorem op_lt : OpR X (compareOp .Lt) (rI0 fun i j => .bl (decide (i < j))) := opB0 fun _ _ _ _ _ _ _ q => lt_int q
theorem op_le : OpR X (compareOp .LtE) (rI0 fun i j => .bl (decide (i ≤ j))) := opB0 fun _ _ _ _ _ _ _ q => le_int q
theorem op_gt : OpR X (compareOp .Gt) (rI0 fun i j => .bl (decide (j < i))) := opB0 fun _ _ _ _ _ _ _ q => gt_int q
theorem op_ge : OpR X (compareOp .GtE) (rI0 fun i j => .bl (decide (j ≤ i))) := opB0 fun _ _ _ _ _ _ _ q => ge_int q
theorem nomark (b : Expr) {op : CmpOp} (h : op ≠ .In := by decide) (h2 : op ≠ .NotIn := by decide) : behindInMarks op b = false := by
 have e1 : (op == CmpOp.In) = false := by cases op <;> first | rfl | exact absurd rfl h
 have e2 : (op == CmpOp.NotIn) = false := by cases op <;> first | rfl | exact absurd rfl h2
 cases b <;> simp [behindInMarks, e1, e2]
theorem pe_cmpR {op : CmpOp} {r : R2} (ho : OpR X (compareOp op) r) (ha : PE X a ta) (hb : PE X b tb) (hm : behindInMarks op b = false) : PE X (.Compare a [op] [b] pos) (tOp r ta tb) := by
 intro pins s σ H Q I h
 exact wpAny_Compare1 (binT ha hb I h fun v u s2 x y H2 I2 rx ry q => ho pins s2 σ H2 x y v u Q I2 rx ry q) hm
def tTest (t : TE) : TT := fun σ H Q => t σ H fun x H' => ∃ k, x = .bl k ∧ Q k H'
theorem pt_cmpR {op : CmpOp} {r : R2} (ho : OpR X (compareOp op) r) (ha : PE X a ta) (hb : PE X b tb) (hm : behindInMarks op b = false) : PT X (.Compare a [op] [b] pos) (tTest (tOp r ta tb)) := by
 intro pins s σ H Q I h
 refine wpAny_isTrue_Compare1 (thn (ha pins s σ H _ I h) fun v s1 ⟨x, H1, I1, r1, q1⟩ => thn (hb pins s1 σ H1 _ I1 q1) fun u s2 ⟨y, H2, I2, r2, q2⟩ =>
  thn (ho pins s2 σ H2 x y v u _ I2 r1 r2 q2) fun c s3 ⟨z, H3, I3, r3, k, e, q3⟩ => ?_) hm
 subst e
 cases r3
 exact wpAny_truthy_bool ⟨H3, I3, q3⟩
theorem line63 : (sizeLine : Nat) < 2 ^ 63 := by rw [sizeLine_eq]; decide
theorem op_add_str : OpR X (binaryOp .Add) (fun x y H Q => ∃ i j, x = .str i ∧ y = .str j ∧ i.length + j.length ≤ sizeLine ∧ Q (.str (i ++ j)) H) := by
 intro pins s σ H x y v u Q I rx ry h
 obtain ⟨i, j, rfl, rfl, hz, q⟩ := h
 obtain ⟨t, rfl⟩ := rx
 obtain ⟨t', rfl⟩ := ry
 exact add_str (fun t' tk => ⟨.str (i ++ j), H, I.tok _, ⟨_, rfl⟩, q⟩) hz
theorem vals1 {x : V} {us : List Value} (r : Vals [x] us) : ∃ u, us = [u] ∧ RelV x u := by
 cases r with
 | cons r1 r2 => cases r2; exact ⟨_, rfl, r1⟩
theorem vals2 {x y : V} {us : List Value} (r : Vals [x, y] us) : ∃ u w', us = [u, w'] ∧ RelV x u ∧ RelV y w' := by
 cases r with
 | cons r1 r2 =>
  cases r2 with
  | cons r3 r4 => cases r4; exact ⟨_, _, rfl, r1, r3⟩
theorem call_str_int : CallR X (.type "str") (fun xs H Q => ∃ i, xs = [.int i] ∧ i.natAbs.log2 < 1920 ∧ Q (.str (toString i)) H) := by
 intro pins s σ H xs us Q I r h
 obtain ⟨i, rfl, hz, q⟩ := h
 obtain ⟨u, rfl, t, rfl⟩ := vals1 r
 exact PySem.P.str_of_int hz ⟨.str _, H, I.tok _, ⟨_, rfl⟩, q⟩
end
structure ObjM (h : Heap) (x dx C : Addr) (mA : Str → Option Value) : Prop where
 obj : h.get? x = some (W.instObj C dx)
 ns : h.Ns1 dx mA
 ne : dx ≠ x
theorem lookIn_ns {h : Heap} {dx : Addr} {mA : Str → Option Value} (n : h.Ns1 dx mA) : ∃ od, h.get? dx = some od ∧ ∀ name, W.lookIn name od = some (mA name) := by
 obtain ⟨o, es, ep, ho, hd, hk, _, hm⟩ := n
 refine ⟨o, ho, fun name => ?_⟩
 have e := hm name
 unfold nsFind findBy at e
 rw [← Array.find?_toList] at e
 unfold W.lookIn
 rw [hd]
 dsimp only
 split
 ·rename_i y q
  rw [q] at e
  exact congrArg some e
 ·rename_i q
  rw [q] at e
  have a : es.toList.any (·.refKey) = false := by
   rw [List.any_eq_false]
   intro y hy
   obtain ⟨z, t, hkey⟩ := hk y (Array.mem_toList_iff.mp hy)
   simp [DictEntry.refKey, hkey]
  have a' : ¬ es.toList.any (·.refKey) = true := by rw [a]; exact Bool.false_ne_true
  rw [if_neg a']
  exact congrArg some e
theorem ObjM.look {h : Heap} {x dx C : Addr} {mA : Str → Option Value} (I : ObjM h x dx C mA) : ∃ od, W.InstAt h x (W.instObj C dx) C (some od) ∧ ∀ name, W.lookIn name od = some (mA name) :=
 let ⟨od, ho, hl⟩ := lookIn_ns I.ns
 ⟨od, ⟨I.obj, rfl, rfl, ho⟩, hl⟩
section
variable {prog : Program} {w : World} {A : Around} {E : Value → Shared → Prop} {s : Shared} {K : W.Frag} {x dx C f : Addr} {mA : Str → Option Value} {name : Str} {v : Value}
theorem get_map {expr : Bool} {Q : Value → Shared → Prop} (X : K.In s.heap) (I : ObjM s.heap x dx C mA) (hg : W.plainGet K C name = true) (hh : W.hasDictIn K C = true)
  (ha : W.findIn K (.ref C) name = some none) (hv : mA name = some v) (hv' : W.handedIn v = true) (h : Q v { s with toks := s.toks + 1 }) :
  wpAny (model prog w) A (getAttr (.ref x) name expr) Q E s := by
 obtain ⟨od, J, hl⟩ := I.look
 exact W.get_value X J (W.plainGet_of hg).1 (W.findObj_own hh ha rfl (by rw [hl, hv])) hv' h
theorem get_meth {pl : Sem Bool} {Q : Value × List Value → Shared → Prop} (X : K.In s.heap) (I : ObjM s.heap x dx C mA) (hg : W.plainGet K C name = true)
  (hf : W.findIn K (.ref C) name = some (some (.ref f))) (ht : W.isFn K (.ref f) = true) (hv : mA name = none) (h : Q (.ref f, [.ref x]) s) :
  wpAny (model prog w) A (getMethod (.ref x) name pl) Q E s := by
 obtain ⟨od, J, hl⟩ := I.look
 exact W.method_fn X J (W.plainGet_of hg).1 (W.plainGet_of hg).2 hf (beq_iff_eq.mp ht) (by show (W.lookIn name od).map (·.isSome) = some false; rw [hl, hv]; rfl) h
theorem set_map {ns : List Str} {Q : Unit → Shared → Prop} (X : K.In s.heap) (I : ObjM s.heap x dx C mA)
  (hs : W.findIn K (.ref C) "__setattr__" = some (some (.builtin "object.__setattr__"))) (hp : W.plainOver K C = true) (ht : W.takerIn K C name = some none) (hh : W.hasDictIn K C = true)
  (hw : PySem.Within mA ns) (hsz : ns.length ≤ sizeLine)
  (h : ∀ h', ObjM h' x dx C (fun y => if y = name then some v else mA y) → Heap.SameBut dx s.heap h' → Q () { s with heap := h', toks := s.toks + 2 }) :
  wpAny (model prog w) A (setAttr (.ref x) name v) Q E s := by
 obtain ⟨od, J, hl⟩ := I.look
 refine W.set_plain X J hs (W.osa_open (s := { s with toks := s.toks + 1 }) (r := none) X J hp ht fun b => ?_)
 obtain ⟨cd, hc, hd'⟩ := W.any_some hh
 have hx : s.heap.get? x = some ⟨.ref C, some dx, .plain, #[]⟩ := I.obj
 refine wpAny_bind (wpAny_pure (wpAny_bind (wpAny_bind (wpAny_loadPart hx (wpAny_bind (W.Looks.here (s := { s with toks := s.toks + 1 }) (W.looks_clsIn X hc) ?_))))))
 rw [hd']
 refine wpAny_pure (a := some dx) (wpAny_bind (wpAny_pure (wpAny_bind ?_)))
 refine wpAny_nsSet1 (s := { s with toks := s.toks + 1 }) I.ns fun h' hn2 hs2 => ?_
 obtain ⟨oD, esD, epD, hoD, hdD, hcD⟩ := hn2.count (PySem.Within.cons name v hw)
 refine wpAny_bind (wpAny_lookBehind hoD (by rw [hdD]; exact pastItsLine_dict (Nat.le_trans hcD (by rw [List.length_cons]; omega))) ?_)
 exact wpAny_pure (h _ ⟨(hs2.2 _ (Ne.symm I.ne)).trans I.obj, hn2, I.ne⟩ hs2)
theorem make_map {R : Result → Shared → Prop} {vs : List Value} {kw : List (Str × Value)} (X : K.In s.heap) (hm : W.makesIn K C = true)
  (hi : W.findIn K (.ref C) "__init__" = some (some (.ref f))) (hf : W.typeIn K (.ref f) = some (.type "function"))
  (h : codeAny (model prog w) (A.under (.builtin "type.__call__" ⟨.ref C :: vs, kw⟩)) (.call (.ref f) ⟨.ref (s.heap.objs.size + 1) :: vs, kw⟩) (W.InitBack (s.heap.objs.size + 1) R)
   { s with heap := (s.heap.push W.emptyDict).push (W.instObj C s.heap.objs.size) }) :
  codeAny (model prog w) A (.call (.ref C) ⟨vs, kw⟩) R s := by
 obtain ⟨hh, g, d, t, os⟩ := s
 exact W.make_core (W.makes_of X hm) (W.looks_findIn X hi) (fun self => W.bind_fn X self hf) (.inl rfl) h
end
def putF (f : Str) (v : V) : List (Str × V) → List (Str × V)
 | [] => [(f, v)]
 | (g, x) :: r => if g = f then (g, v) :: r else (g, x) :: putF f v r
theorem lookup_putF (f g : Str) (v : V) : ∀ fs : List (Str × V), (putF f v fs).lookup g = if g = f then some v else fs.lookup g
 | [] => by
  show List.lookup g [(f, v)] = _
  by_cases h : g = f
  ·have hb : (g == f) = true := beq_iff_eq.mpr h
   simp only [List.lookup, hb, if_pos h]
  ·have hb : (g == f) = false := beq_eq_false_iff_ne.mpr h
   simp only [List.lookup, hb, if_neg h]
 | (k, x) :: r => by
  have ih := lookup_putF f g v r
  rw [show putF f v ((k, x) :: r) = (if k = f then (k, v) :: r else (k, x) :: putF f v r) from rfl]
  by_cases hk : k = f
  ·rw [if_pos hk]
   by_cases h : g = k
   ·have hb : (g == k) = true := beq_iff_eq.mpr h
    simp only [List.lookup, hb, if_pos (h.trans hk)]
   ·have hb : (g == k) = false := beq_eq_false_iff_ne.mpr h
    simp only [List.lookup, hb, if_neg (fun e : g = f => h (e.trans hk.symm))]
  ·rw [if_neg hk]
   by_cases h : g = k
   ·have hb : (g == k) = true := beq_iff_eq.mpr h
    simp only [List.lookup, hb, if_neg (fun e : g = f => hk (h.symm.trans e))]
   ·have hb : (g == k) = false := beq_eq_false_iff_ne.mpr h
    simp only [List.lookup, hb]
    exact ih
theorem keys_putF (f : Str) (v : V) : ∀ fs : List (Str × V), f ∈ (putF f v fs).map (·.1) ∧ ∀ g, g ∈ fs.map (·.1) → g ∈ (putF f v fs).map (·.1)
 | [] => ⟨by simp [putF], fun g h => by simp at h⟩
 | (k, x) :: r => by
  obtain ⟨i1, i2⟩ := keys_putF f v r
  rw [show putF f v ((k, x) :: r) = (if k = f then (k, v) :: r else (k, x) :: putF f v r) from rfl]
  by_cases hk : k = f
  ·rw [if_pos hk]
   subst hk
   exact ⟨by simp, fun g h => by simpa using h⟩
  ·rw [if_neg hk]
   refine ⟨?_, fun g h => ?_⟩
   ·rw [List.map_cons]
    exact List.mem_cons_of_mem _ i1
   ·rw [List.map_cons] at h ⊢
    rcases List.mem_cons.mp h with e | e
    ·exact List.mem_cons.mpr (.inl e)
    ·exact List.mem_cons_of_mem _ (i2 g e)
theorem length_putF (f : Str) (v : V) : ∀ fs : List (Str × V), (putF f v fs).length ≤ fs.length + 1
 | [] => by simp [putF]
 | (k, x) :: r => by
  have ih := length_putF f v r
  rw [show putF f v ((k, x) :: r) = (if k = f then (k, v) :: r else (k, x) :: putF f v r) from rfl]
  by_cases hk : k = f
  ·rw [if_pos hk, List.length_cons, List.length_cons]; omega
  ·rw [if_neg hk, List.length_cons, List.length_cons]; omega
theorem RelO.some_of {v : V} {o : Option Value} (r : RelO (some v) o) : ∃ u, o = some u ∧ RelV v u := by
 cases o with
 | none => exact (show False from r).elim
 | some u => exact ⟨u, rfl, r⟩
theorem RelO.none_of {o : Option Value} (r : RelO none o) : o = none := by
 cases o with
 | none => rfl
 | some u => exact (show False from r).elim
theorem handed_of {v : V} {u : Value} (r : RelV v u) : W.handedIn u = true := by
 cases v with
 | non => cases (show u = Value.none from r); rfl
 | bl b => cases (show u = Value.bool b from r); rfl
 | int i => obtain ⟨t, e⟩ := (show ∃ t, u = Value.int i t from r); cases e; rfl
 | str x => obtain ⟨t, e⟩ := (show ∃ t, u = Value.str x t from r); cases e; rfl
 | byt b => obtain ⟨t, e⟩ := (show ∃ t, u = Value.bytes b t from r); cases e; rfl
 | flt b => obtain ⟨t, e⟩ := (show ∃ t, u = Value.float b t from r); cases e; rfl
 | ref a => cases (show u = Value.ref a from r); rfl
 | ty n => cases (show u = Value.type n from r); rfl
section
variable {P : Program} {w : World} {H H' : Hp} {h h' : Heap} {a C dx : Addr} {fs fs' : List (Str × V)}
theorem ins_get (hok : HOk P w H h) (e : H a = some (.ins C dx fs)) : ∃ mA, ObjM h a dx C mA ∧ (∀ f, RelO (fs.lookup f) (mA f)) ∧ PySem.Within mA (fs.map (·.1)) ∧ fs.length ≤ 1000 ∧ H dx = some (.own a) := by
 obtain ⟨d, z, ne, ob, mA, n, r, q⟩ := (show ObjOk P w H h a (.ins C dx fs) from hok a _ e)
 exact ⟨mA, ⟨ob, n, ne⟩, r, q, z, d⟩
end
structure Cls (K : W.Frag) (C : Addr) : Prop where
 pg : W.plainGet K C Str.empty = true
 hd : W.hasDictIn K C = true
 po : W.plainOver K C = true
 sa : W.findIn K (.ref C) "__setattr__" = some (some (.builtin "object.__setattr__"))
theorem Cls.get {K : W.Frag} {C : Addr} (c : Cls K C) (f : Str) : W.plainGet K C f = true := c.pg
def NoAttr (K : W.Frag) (C : Addr) (f : Str) : Prop := W.findIn K (.ref C) f = some none
theorem NoAttr.taker {K : W.Frag} {C : Addr} {f : Str} (n : NoAttr K C f) : W.takerIn K C f = some none := by
 unfold W.takerIn
 rw [show W.findIn K (.ref C) f = some none from n]
 rfl
structure Meth (K : W.Frag) (C : Addr) (m : Str) (f : Addr) : Prop where
 at_ : W.findIn K (.ref C) m = some (some (.ref f))
 fn : W.isFn K (.ref f) = true
 kp : W.keepIn K (.ref f) = true
section
variable {X : Cx} {pins : List (Addr × Obj)} {σ : St} {H : Hp} {s : Shared} {a C dx : Addr} {fs : List (Str × V)} {f : Str} {v : V} {A : Around} {E : Value → Shared → Prop}
theorem getattr_ok {b : Bool} {Q : Value → Shared → Prop} (I : Inv X pins σ H s) (e : H a = some (.ins C dx fs)) (c : Cls X.K C) (n : NoAttr X.K C f) (l : fs.lookup f = some v)
  (h : ∀ u s', Inv X pins σ H s' → RelV v u → Q u s') : wpAny (model X.prog X.w) A (getAttr (.ref a) f b) Q E s := by
 obtain ⟨mA, O, r, _, _, _⟩ := ins_get I.hok e
 obtain ⟨u, hu, ru⟩ := RelO.some_of (v := v) (o := mA f) (by rw [← l]; exact r f)
 exact get_map I.kIn O (c.get f) c.hd n hu (handed_of ru) (h u _ (I.tok _) ru)
theorem getmeth_ok {m : Str} {g : Addr} {pl : Sem Bool} {Q : Value × List Value → Shared → Prop} (I : Inv X pins σ H s) (e : H a = some (.ins C dx fs)) (c : Cls X.K C) (k : Meth X.K C m g) (l : fs.lookup m = none)
  (h : Q (.ref g, [.ref a]) s) : wpAny (model X.prog X.w) A (getMethod (.ref a) m pl) Q E s := by
 obtain ⟨mA, O, r, _, _, _⟩ := ins_get I.hok e
 have hn : mA m = none := RelO.none_of (by rw [← l]; exact r m)
 exact get_meth I.kIn O (c.get m) k.at_ k.fn hn h
theorem setattr_ok {y : V} {u : Value} {Q : Unit → Shared → Prop} (I : Inv X pins σ H s) (e : H a = some (.ins C dx fs)) (c : Cls X.K C) (n : NoAttr X.K C f) (hl : fs.length < 1000) (ry : RelV y u)
  (h : ∀ s', Inv X pins σ (upd H a (.ins C dx (putF f y fs))) s' → Q () s') : wpAny (model X.prog X.w) A (setAttr (.ref a) f u) Q E s := by
 obtain ⟨mA, O, r, wi, _, ho⟩ := ins_get I.hok e
 have hz : (fs.map (·.1)).length ≤ sizeLine := by rw [List.length_map, sizeLine_eq]; omega
 refine set_map I.kIn O c.sa c.po n.taker c.hd wi hz fun h' O' sb => h _ ?_
 have hd : ∃ o, h'.get? dx = some o := let ⟨o, _, _, e', _⟩ := O'.ns; ⟨o, e'⟩
 refine I.write (x := a) (e := dx) (by rw [e]; exact True.intro) (.inr ho) (fun b q hb z => (sb.2 b hb).trans z) hd ?_
 refine ⟨by rw [upd_ne O.ne]; exact ho, ?_, O.ne, O'.obj, _, O'.ns, fun g => ?_, fun g hg => ?_⟩
 ·have := length_putF f y fs; omega
 ·show RelO ((putF f y fs).lookup g) (if g = f then some u else mA g)
  rw [lookup_putF]
  by_cases q : g = f
  ·rw [if_pos q, if_pos q]; exact ry
  ·rw [if_neg q, if_neg q]; exact r g
 ·by_cases q : g = f
  ·rw [q]; exact (keys_putF f y fs).1
  ·refine (keys_putF f y fs).2 g (wi g fun z => hg ?_)
   show (if g = f then some u else mA g) = none
   rw [if_neg q]; exact z
theorem Inv.made (I : Inv X pins σ H s) : Inv X pins σ (upd (upd H s.heap.objs.size (.own (s.heap.objs.size + 1))) (s.heap.objs.size + 1) (.ins C s.heap.objs.size []))
  { s with heap := (s.heap.push W.emptyDict).push (W.instObj C s.heap.objs.size) } := by
 have e1 : (s.heap.push W.emptyDict).get? s.heap.objs.size = some W.emptyDict := Heap.get?_push_size s.heap rfl
 have e2 : ((s.heap.push W.emptyDict).push (W.instObj C s.heap.objs.size)).get? (s.heap.objs.size + 1) = some (W.instObj C s.heap.objs.size) := by
  have := Heap.get?_push_size (s.heap.push W.emptyDict) (o := W.instObj C s.heap.objs.size) rfl
  rwa [Heap.size_push] at this
 have e3 : (s.heap.push W.emptyDict).Ns s.heap.objs.size (fun _ => none) := ⟨W.emptyDict, #[], _, e1, rfl, (fun e he => absurd he (by simp)), fun _ => rfl⟩
 have I1 := I.laid (a := s.heap.objs.size) (o := .own (s.heap.objs.size + 1)) (h' := s.heap.push W.emptyDict) (t' := s.toks) (fun b u q => Heap.get?_push_of_some _ q) (Nat.le_refl _) ⟨_, e1⟩
 refine I1.laid (a := s.heap.objs.size + 1) (o := .ins C s.heap.objs.size []) (t' := s.toks) (fun b u q => Heap.get?_push_of_some _ q) (Nat.le_of_eq (Heap.size_push _ _)) ?_
 have ne : s.heap.objs.size ≠ s.heap.objs.size + 1 := Nat.ne_of_lt (Nat.lt_succ_self _)
 refine ⟨by rw [upd_ne ne, upd_same], Nat.zero_le _, ne, e2, fun _ => none, (Heap.Ns1.of_empty e3).at fun o q => Heap.get?_push_of_some _ q, fun _ => True.intro, fun y hy => absurd rfl hy⟩
theorem attr_of {prog : Program} {w : World} {env : Env} {e : Expr} {f : Str} {pos : Pos} {s : Shared} {Q : Value → Shared → Prop} (hb : attributeBase e f env (eval e env) = eval e env)
  (h : wpAny (model prog w) A (eval e env) (fun o s₁ => wpAny (model prog w) A (getAttr o f true) Q E s₁) E s) : wpAny (model prog w) A (eval (.Attribute e f pos) env) Q E s :=
 Attribute_any_ h (by rw [arm_eval_Attribute, hb])
end
def tFld (K : W.Frag) (ta : TE) (f : Str) : TE := fun σ H Q => ta σ H fun x H1 => ∃ a C dx fs v, x = .ref a ∧ H1 a = some (.ins C dx fs) ∧ Cls K C ∧ NoAttr K C f ∧ fs.lookup f = some v ∧ Q v H1
def sFld (K : W.Frag) (ta tv : TE) (f : Str) : TS := fun D σ H => tv σ H fun y H1 => ta σ H1 fun x H2 => ∃ a C dx fs, x = .ref a ∧ H2 a = some (.ins C dx fs) ∧ Cls K C ∧ NoAttr K C f ∧ fs.length < 1000 ∧
 D.nx σ (upd H2 a (.ins C dx (putF f y fs)))
section
variable {X : Cx} {o e value : Expr} {f : Str} {pos pos' tpos : Pos} {ta tv : TE}
theorem pe_fld (he : PE X e ta) (hb : attributeBase e f X.env (eval e X.env) = eval e X.env) : PE X (.Attribute e f pos) (tFld X.K ta f) := by
 intro pins s σ H Q I h
 refine attr_of hb (thn (he pins s σ H _ I h) fun u s1 ⟨x, H1, I1, rx, a, C, dx, fs, v, ex, ea, c, n, l, q⟩ => ?_)
 subst ex
 obtain rfl : u = Value.ref a := rx
 exact getattr_ok I1 ea c n l fun u' s2 I2 ru => ⟨v, H1, I2, ru, q⟩
theorem ps_fld (ha : PE X o ta) (hv : PE X value tv) (hs : swapsWith value (some (.Attribute o f pos')) pos.line X.env = pure false) : PS X (.Assign [.Attribute o f pos'] value pos) (sFld X.K ta tv f) := by
 intro pins s σ H D I h
 refine plainObj_wpAny_Assign_Attribute (thn (hv pins s σ H _ I h) fun u s1 ⟨y, H1, I1, ry, q⟩ => thn (ha pins s1 σ H1 _ I1 q) fun ov s2 ⟨x, H2, I2, rx, a, C, dx, fs, ex, ea, c, n, l, q2⟩ => ?_) hs
 subst ex
 obtain rfl : ov = Value.ref a := rx
 exact setattr_ok I2 ea c n l ry fun s3 I3 => ⟨σ, _, I3, q2⟩
end
section
variable {X : Cx} {pins : List (Addr × Obj)} {σ : St} {H : Hp} {s : Shared} {A : Around} {E : Value → Shared → Prop} {Q : Value → Shared → Prop} {c : Value} {b : Bool}
inductive TyOf (K : W.Frag) (H : Hp) : V → Value → Prop where
 | non : TyOf K H .non (.type "NoneType")
 | bl (x : Bool) : TyOf K H (.bl x) (.type "bool")
 | int (i : Int) : TyOf K H (.int i) (.type "int")
 | str (x : Str) : TyOf K H (.str x) (.type "str")
 | flt (x : UInt64) : TyOf K H (.flt x) (.type "float")
 | lst {a : Addr} {xs : List V} (e : H a = some (.lst xs)) : TyOf K H (.ref a) (.type "list")
 | frz {a : Addr} {o : Obj} {xs : List V} (e : H a = some (.frz o (.lst xs))) : TyOf K H (.ref a) (.type "list")
 | tup {a : Addr} {xs : List V} (e : H a = some (.tup xs)) : TyOf K H (.ref a) (.type "tuple")
 | dK {a : Addr} {kvs : List (Key × V)} (e : H a = some (.dK kvs)) : TyOf K H (.ref a) (.type "dict")
 | dT {a : Addr} {kvs : List (List Key × V)} (e : H a = some (.dT kvs)) : TyOf K H (.ref a) (.type "dict")
 | ins {a C dx : Addr} {fs : List (Str × V)} (e : H a = some (.ins C dx fs)) (cl : Cls K C) (ha : W.findIn K (.ref C) "__class__" = some (some (.builtin "object.__class__")))
   (hn : W.specialIn K (.builtin "object.__class__") "__get__" = some (some (.builtin "getset_descriptor.__get__"))) (htk : W.takesIn K (.builtin "object.__class__") = some true)
   (hm : W.mroIn K C (.type "object") = some true) : TyOf K H (.ref a) (.ref C)
end
structure Room (k : Nat) (A : Around) : Prop where
 hd : A.handled = none
 dp : A.depth + 3 * k + 5 < recursionLimit
 un : A.units + 16 * k + 200 < cLine
theorem Room.mono {j k : Nat} {A : Around} (r : Room k A) (h : j ≤ k) : Room j A := ⟨r.hd, by have := r.dp; omega, by have := r.un; omega⟩
theorem Room.deeper {k : Nat} {A : Around} (r : Room (k + 1) A) (env : Env) : Room k (A.deeper env) :=
 ⟨r.hd, by have := r.dp; show A.depth + 1 + 3 * k + 5 < _; omega, by have := r.un; show A.units + 3 + 16 * k + 200 < _; omega⟩
theorem make_depth {A : Around} {C : Addr} {us : List Value} {kw : List (Str × Value)} : (A.under (.builtin "type.__call__" ⟨.ref C :: us, kw⟩)).depth = A.depth + 1 := by
 first | rfl | simp [Around.under, Code.weight, Code.isCreation, Code.isGuard, Code.isCaller, Code.frames, Code.isFrame, guardIds]
theorem make_units {A : Around} {C : Addr} {us : List Value} {kw : List (Str × Value)} : (A.under (.builtin "type.__call__" ⟨.ref C :: us, kw⟩)).units = A.units + 1 := by
 first | rfl | simp [Around.under, Code.cUnits, Code.frames, Code.isFrame]
theorem Room.make {k : Nat} {A : Around} (r : Room (k + 1) A) (C : Addr) (us : List Value) (kw : List (Str × Value)) : Room k (A.under (.builtin "type.__call__" ⟨.ref C :: us, kw⟩)) :=
 ⟨r.hd, by have := r.dp; rw [make_depth]; omega, by have := r.un; rw [make_units]; omega⟩
theorem Room.depth {k : Nat} {A : Around} (r : Room k A) : A.depth < recursionLimit := by have := r.dp; omega
theorem Room.units {k : Nat} {A : Around} (r : Room k A) : A.units + 64 < cLine := by have := r.un; omega
def tNil : TA := fun _ H Q => Q [] H
def tCons (ta : TE) (tr : TA) : TA := fun σ H Q => ta σ H fun x H1 => tr σ H1 fun xs H2 => Q (x :: xs) H2
section
variable {X : Cx} {e : Expr} {es : List Expr} {te : TE} {t : TA} {pos : Pos}
theorem pa_nil : PA X [] tNil := fun _ _ _ _ H Q I h => Calls.spliced_nil ⟨[], H, I, .nil, h⟩
theorem pa_cons (ha : PE X e te) (hr : PA X es t) (hs : starEach (e :: es) X.env = (false, eval e X.env) :: starEach es X.env := by rfl) : PA X (e :: es) (tCons te t) := by
 intro pos pins s σ H Q I h
 rw [hs]
 show wpAny _ _ (spliced ((false, eval e X.env) :: backTo pos (starEach es X.env))) _ _ s
 refine Calls.spliced_cons (thn (ha pins s σ H _ I h) fun u s1 ⟨x, H1, I1, r1, q1⟩ => ?_)
 exact thn (hr pos pins s1 σ H1 _ I1 q1) fun us s2 ⟨xs, H2, I2, r2, q2⟩ => ⟨x :: xs, H2, I2, .cons r1 r2, q2⟩
def tTup (t : TA) : TE := fun σ H Q => t σ H fun xs H1 => xs.length ≤ sizeLine ∧ ∀ p, H1 p = none → Q (.ref p) (upd H1 p (.tup xs))
def tLst (t : TA) : TE := fun σ H Q => t σ H fun xs H1 => xs.length ≤ sizeLine ∧ ∀ p, H1 p = none → Q (.ref p) (upd H1 p (.lst xs))
theorem pe_tup {x1} (h : PA X es t) : PE X (.Tuple es x1 pos) (tTup t) := by
 intro pins s σ H Q I hq
 refine wpAny_Tuple_spliced (thn (h pos pins s σ H _ I hq) fun us s1 ⟨xs, H1, I1, r, z, q⟩ => ⟨by rw [← r.length]; exact z, ?_⟩)
 have hf : H1 s1.heap.objs.size = none := I1.hok.fresh (Nat.le_refl _)
 refine ⟨.ref s1.heap.objs.size, upd H1 s1.heap.objs.size (.tup xs), I1.laid (t' := s1.toks) (fun b u e => Heap.get?_push_of_some _ e) (Nat.le_refl _) ?_, rfl, q _ hf⟩
 exact ⟨z, us, r, ⟨_, Heap.get?_push_size _ rfl, rfl, _, rfl⟩⟩
theorem pe_lst (h : PA X es t) : PE X (.List es pos) (tLst t) := by
 intro pins s σ H Q I hq
 refine wpAny_List_spliced (thn (h pos pins s σ H _ I hq) fun us s1 ⟨xs, H1, I1, r, z, q⟩ => ⟨by rw [← r.length]; exact z, ?_⟩)
 have hf : H1 s1.heap.objs.size = none := I1.hok.fresh (Nat.le_refl _)
 refine ⟨.ref s1.heap.objs.size, upd H1 s1.heap.objs.size (.lst xs), I1.laid (t' := s1.toks) (fun b u e => Heap.get?_push_of_some _ e) (Nat.le_refl _) ?_, rfl, q _ hf⟩
 exact ⟨z, us, 0, r, Heap.get?_push_size _ rfl⟩
end
abbrev Sp := List V → Hp → VK → XK → Prop
abbrev CXT := List Env → Hp → Shared → XK → Value → Shared → Prop
structure Env0 (P : Program) (w : World) (K : W.Frag) (mg : Str → Option Value) (base : Heap) (A : Around) (outer : List Env) (s : Shared) (H : Hp) : Prop where
 frames : A.frames = some outer
 mod : Mod K mg base
 bs : ∀ b o, base.get? b = some o → s.heap.get? b = some o ∧ H b = none
 bsz : base.objs.size ≤ s.heap.objs.size
 funs : s.heap.FunFrames base outer
 frf : ∀ b ∈ frs outer, H b = none
 hok : HOk P w H s.heap
 bare : AllBare s.gens
def CE (outer : List Env) (P : Program) (w : World) (H : Hp) (s : Shared) (Q : VK) (u : Value) (s' : Shared) : Prop :=
 ∃ v H', s'.os = s.os ∧ AllBare s'.gens ∧ Un (frs outer) [] H H' s.heap s'.heap ∧ HOk P w H' s'.heap ∧ RelV v u ∧ Q v H'
def CR (CX : CXT) (outer : List Env) (P : Program) (w : World) (H : Hp) (s : Shared) (Q : VK) (E : XK) (r : Result) (s' : Shared) : Prop :=
 match r with
 | .ok (.ret u) => CE outer P w H s Q u s'
 | .ok _ => False
 | .error e => CX outer H s E e s'
structure FnOk (P : Program) (w : World) (K : W.Frag) (mg : Str → Option Value) (base : Heap) (CX : CXT) (k : Nat) (f : Addr) (fd : FuncData) (ps : List Str) (sp : Sp) : Prop where
 len : ∀ vs H Q E, sp vs H Q E → vs.length = ps.length
 run : ∀ (A : Around) (outer : List Env) (s : Shared) (H : Hp) (args : Args) (us : List Value) (vs : List V) (Q : VK) (E : XK), Room k A → Env0 P w K mg base A outer s H → BindsTo s fd args (ps.zip us) → Vals vs us → sp vs H Q E →
  codeAny (model P w) A (.call (.ref f) args) (CR CX outer P w H s Q E) s
theorem FnOk.imp {P : Program} {w : World} {K : W.Frag} {mg : Str → Option Value} {base : Heap} {CX : CXT} {k : Nat} {f : Addr} {fd : FuncData} {ps : List Str} {sp sp' : Sp} (F : FnOk P w K mg base CX k f fd ps sp)
  (h : ∀ vs H Q E, sp' vs H Q E → sp vs H Q E) : FnOk P w K mg base CX k f fd ps sp' :=
 ⟨fun vs H Q E q => F.len vs H Q E (h _ _ _ _ q), fun A outer s H args us vs Q E hr he hb hv hs => F.run A outer s H args us vs Q E hr he hb hv (h _ _ _ _ hs)⟩
theorem Env0.make {P : Program} {w : World} {K : W.Frag} {mg : Str → Option Value} {base : Heap} {A : Around} {outer : List Env} {s : Shared} {H : Hp} (e : Env0 P w K mg base A outer s H) (C : Addr) (us : List Value) (kw : List (Str × Value)) :
  Env0 P w K mg base (A.under (.builtin "type.__call__" ⟨.ref C :: us, kw⟩)) outer s H := ⟨by first | exact e.frames | (simpa [Around.under, Code.envs, Code.isFrame, pushEnvs] using e.frames), e.mod, e.bs, e.bsz, e.funs, e.frf, e.hok, e.bare⟩
section
variable {X : Cx} {pins : List (Addr × Obj)} {σ : St} {H : Hp} {s s' : Shared}
theorem Inv.env0 (I : Inv X pins σ H s) : Env0 X.prog X.w X.K X.mg X.base X.A X.stack s H :=
 ⟨I.ok.frames, I.ok.mod, I.bs, Nat.le_trans I.ok.bsz I.sz, I.stack, I.stkFree, I.hok, I.bare⟩
theorem Inv.after {Q : VK} {u : Value} (I : Inv X pins σ H s) (h : CE X.stack X.prog X.w H s Q u s') : EP X pins σ Q u s' := by
 obtain ⟨v, H', os, bare, un, hok, r, q⟩ := h
 obtain ⟨hh, g, d, t, os'⟩ := s'
 obtain rfl : os' = s.os := os
 exact ⟨v, H', I.call (h' := hh) (g' := g) (d' := d) (t' := t) (ch := []) un hok bare (fun b z => absurd z (by simp)), r, q⟩
end
def tCall (sp : Sp) (dvs : List V) (E : XK) (t : TA) : TE := fun σ H Q => t σ H fun vs H1 => sp (vs ++ dvs) H1 Q E
def tMake (C : Addr) (sp : Sp) (dvs : List V) (E : XK) (t : TA) : TE := fun σ H Q => t σ H fun vs H1 => ∀ x dx, H1 x = none → H1 dx = none → dx ≠ x →
 sp (.ref x :: (vs ++ dvs)) (upd (upd H1 dx (.own x)) x (.ins C dx [])) (fun v H2 => v = .non ∧ Q (.ref x) H2) E
def Binds (K : W.Frag) (fd : FuncData) (ps : List Str) (ds : List Value) : Prop :=
 ∀ (s : Shared) (us : List Value), K.In s.heap → (us ++ ds).length = ps.length → BindsTo s fd ⟨us, []⟩ (ps.zip (us ++ ds))
theorem Binds.all {K : W.Frag} {fd : FuncData} {ps : List Str} (h : ∀ us : List Value, us.length = ps.length → bindArgs fd ⟨us, []⟩ = pure (ps.zip us)) : Binds K fd ps [] := fun s us _ hl => by
 rw [List.append_nil] at hl ⊢
 exact .of_eq (h us hl)
def Passes (CX : CXT) (X : Cx) (E : XK) : Prop := ∀ (pins : List (Addr × Obj)) (σ : St) (H : Hp) (s : Shared) (e : Value) (s' : Shared), Inv X pins σ H s → CX X.stack H s E e s' → X.xe e s'
section
variable {X : Cx} {CX : CXT} {k : Nat} {f C : Addr} {fd : FuncData} {ps : List Str} {sp : Sp} {dvs : List V} {ds : List Value} {E : XK} {x m : Str} {p pos apos : Pos} {e o : Expr} {es : List Expr} {ta : TE} {t : TA}
theorem run_fn {pins : List (Addr × Obj)} {σ : St} {H : Hp} {s : Shared} {Q : VK} {us : List Value} {vs : List V} (F : FnOk X.prog X.w X.K X.mg X.base CX k f fd ps sp) (hr : Room k X.A) (hb : Binds X.K fd ps ds) (hd : Vals dvs ds) (hx : Passes CX X E)
  (I : Inv X pins σ H s) (r : Vals vs us) (h : sp (vs ++ dvs) H Q E) : wpAny (model X.prog X.w) X.A (call (.ref f) us) (EP X pins σ Q) X.xe s := by
 have r2 : Vals (vs ++ dvs) (us ++ ds) := r.append hd
 have hl : (us ++ ds).length = ps.length := by rw [← r2.length]; exact F.len _ _ _ _ h
 refine wpAny_call (codeAny_mono (F.run X.A X.stack s H ⟨us, []⟩ (us ++ ds) (vs ++ dvs) Q E hr I.env0 (hb s us I.kIn hl) r2 h) fun r s' hq => ?_)
 cases r with
 | error e => exact hx pins σ H s e s' I hq
 | ok fl =>
  cases fl with
  | ret u => exact I.after hq
  | next => exact False.elim hq
  | brk => exact False.elim hq
  | cont => exact False.elim hq
theorem pe_call (F : FnOk X.prog X.w X.K X.mg X.base CX k f fd ps sp) (hr : Room k X.A) (hg : Gl X x) (hm : X.mg x = some (.ref f)) (hk : W.keepIn X.K (.ref f) = true) (hb : Binds X.K fd ps ds) (hd : Vals dvs ds) (hx : Passes CX X E)
  (ha : PA X (e :: es) t) (hdb : (x == ("__debug__" : Str)) = false := by decide) (he : starEach (e :: es) X.env = (false, eval e X.env) :: starEach es X.env := by rfl) (hpl : (backTo pos (starEach es X.env)).any (·.1) = false := by rfl) :
  PE X (.Call (.Name x p) (e :: es) [] pos) (tCall sp dvs E t) := by
 intro pins s σ H Q I h
 refine wpAny_Call_Name_kw (ld_glob I hg hm ?_ hdb)
 refine W.callWith_K (h₀ := X.base) I.ok.mod.kin hk (thn (ha pos pins s σ H _ I h) fun us s1 ⟨vs, H1, I1, r, q⟩ => ⟨I1.kIn, ?_⟩) he hpl
 exact run_fn F hr hb hd hx I1 r q
structure Mk (K : W.Frag) (C f : Addr) : Prop where
 makes : W.makesIn K C = true
 init : W.findIn K (.ref C) "__init__" = some (some (.ref f))
 fn : W.isFn K (.ref f) = true
 kp : W.keepIn K (.ref C) = true
theorem run_make {pins : List (Addr × Obj)} {σ : St} {H : Hp} {s : Shared} {Q : VK} {us : List Value} {vs : List V} (M : Mk X.K C f) (F : FnOk X.prog X.w X.K X.mg X.base CX k f fd ps sp) (hr : Room (k + 1) X.A) (hb : Binds X.K fd ps ds) (hd : Vals dvs ds)
  (hx : Passes CX X E) (I : Inv X pins σ H s) (r : Vals vs us)
  (h : ∀ x dx, H x = none → H dx = none → dx ≠ x → sp (.ref x :: (vs ++ dvs)) (upd (upd H dx (.own x)) x (.ins C dx [])) (fun v H2 => v = .non ∧ Q (.ref x) H2) E) :
  wpAny (model X.prog X.w) X.A (call (.ref C) us) (EP X pins σ Q) X.xe s := by
 have hq := h (s.heap.objs.size + 1) s.heap.objs.size (I.hok.fresh (Nat.le_succ _)) (I.hok.fresh (Nat.le_refl _)) (Nat.ne_of_lt (Nat.lt_succ_self _))
 have I2 := Inv.made (C := C) I
 have r2 : Vals (V.ref (s.heap.objs.size + 1) :: (vs ++ dvs)) (Value.ref (s.heap.objs.size + 1) :: (us ++ ds)) := .cons rfl (r.append hd)
 have hl : (Value.ref (s.heap.objs.size + 1) :: us ++ ds).length = ps.length := by
  have e := r2.length
  rw [F.len _ _ _ _ hq] at e
  exact e.symm
 refine wpAny_call (make_map (f := f) I.kIn M.makes M.init (beq_iff_eq.mp M.fn) (codeAny_mono (F.run _ X.stack _ _ ⟨Value.ref (s.heap.objs.size + 1) :: us, []⟩ (Value.ref (s.heap.objs.size + 1) :: (us ++ ds)) _ _ E (hr.make C us [])
  (I2.env0.make C us []) (hb _ (Value.ref (s.heap.objs.size + 1) :: us) I2.kIn hl) r2 hq) fun r s' hq' => ?_))
 cases r with
 | error e => exact hx pins σ _ _ e s' I2 hq'
 | ok fl =>
  cases fl with
  | ret u =>
   obtain ⟨v, H', I3, rv, ev, q3⟩ := I2.after hq'
   subst ev
   exact ⟨rv, ⟨V.ref (s.heap.objs.size + 1), H', I3, rfl, q3⟩⟩
  | next => exact False.elim hq'
  | brk => exact False.elim hq'
  | cont => exact False.elim hq'
theorem pe_make (M : Mk X.K C f) (F : FnOk X.prog X.w X.K X.mg X.base CX k f fd ps sp) (hr : Room (k + 1) X.A) (hg : Gl X x) (hm : X.mg x = some (.ref C)) (hb : Binds X.K fd ps ds) (hd : Vals dvs ds) (hx : Passes CX X E)
  (ha : PA X (e :: es) t) (hdb : (x == ("__debug__" : Str)) = false := by decide) (he : starEach (e :: es) X.env = (false, eval e X.env) :: starEach es X.env := by rfl) (hpl : (backTo pos (starEach es X.env)).any (·.1) = false := by rfl) :
  PE X (.Call (.Name x p) (e :: es) [] pos) (tMake C sp dvs E t) := by
 intro pins s σ H Q I h
 refine wpAny_Call_Name_kw (ld_glob I hg hm ?_ hdb)
 refine W.callWith_K (h₀ := X.base) I.ok.mod.kin M.kp (thn (ha pos pins s σ H _ I h) fun us s1 ⟨vs, H1, I1, r, q⟩ => ⟨I1.kIn, ?_⟩) he hpl
 exact run_make M F hr hb hd hx I1 r q
theorem pe_make0 (M : Mk X.K C f) (F : FnOk X.prog X.w X.K X.mg X.base CX k f fd ps sp) (hr : Room (k + 1) X.A) (hg : Gl X x) (hm : X.mg x = some (.ref C)) (hb : Binds X.K fd ps ds) (hd : Vals dvs ds) (hx : Passes CX X E)
  (hdb : (x == ("__debug__" : Str)) = false := by decide) : PE X (.Call (.Name x p) [] [] pos) (tMake C sp dvs E tNil) := by
 intro pins s σ H Q I h
 refine wpAny_Call_Name_kw (ld_glob I hg hm ?_ hdb)
 exact W.callWith_K0 I.kIn M.kp (run_make (us := []) M F hr hb hd hx I .nil h)
end
structure FnScope (N P : List Str) (sc : Scope) : Prop where
 kind : sc.kind = .function
 co : sc.isCoroutine = false
 gen : sc.isGenerator = false
 nd : N.Nodup
 pre : N.take P.length = P
 par : ∀ x ∈ P, sc.names.lookup x = some .local ∨ sc.names.lookup x = some .cell
 nofree : ∀ y ∈ sc.names, y.2 ≠ .free
theorem bindL_out {kindOf : Str → Option NameKind} {x : Str} : ∀ {binds : List (Str × Value)} {m : Str → Option Value}, (∀ v, (x, v) ∉ binds) → bindL kindOf binds m x = m x
 | [], _, _ => rfl
 | (n, v) :: r, m, h => by
  unfold bindL
  rw [bindL_out fun w hw => h w (List.mem_cons_of_mem _ hw)]
  split
  ·have : x ≠ n := by rintro rfl; exact h v List.mem_cons_self
   simp [this]
  ·rfl
theorem bindC_out {kindOf : Str → Option NameKind} {x : Str} : ∀ {binds : List (Str × Value)} {m : Str → Option Value}, (∀ v, (x, v) ∉ binds) → bindC kindOf binds m x = m x
 | [], _, _ => rfl
 | (n, v) :: r, m, h => by
  unfold bindC
  rw [bindC_out fun w hw => h w (List.mem_cons_of_mem _ hw)]
  split
  ·rfl
  ·have : x ≠ n := by rintro rfl; exact h v List.mem_cons_self
   simp [this]
theorem bindL_get {kindOf : Str → Option NameKind} {x : Str} {v : Value} : ∀ {P : List Str} {vs : List Value} {i : Nat} {m : Str → Option Value}, P.Nodup → P[i]? = some x → vs[i]? = some v → kindOf x = some .local →
  bindL kindOf (P.zip vs) m x = some v
 | [], _, _, _, _, h, _, _ => by simp at h
 | _ :: _, [], _, _, _, _, h, _ => by simp at h
 | p :: P, w :: vs, 0, m, nd, h1, h2, hk => by
  simp at h1 h2; subst h1; subst h2
  show bindL kindOf ((p, w) :: P.zip vs) m p = _
  unfold bindL
  rw [bindL_out fun v hv => (List.nodup_cons.mp nd).1 (List.of_mem_zip hv).1, if_pos hk]
  simp
 | p :: P, w :: vs, i + 1, m, nd, h1, h2, hk => by
  show bindL kindOf ((p, w) :: P.zip vs) m x = _
  unfold bindL
  exact bindL_get (i := i) (List.nodup_cons.mp nd).2 (by simpa using h1) (by simpa using h2) hk
theorem bindC_get {kindOf : Str → Option NameKind} {x : Str} {v : Value} : ∀ {P : List Str} {vs : List Value} {i : Nat} {m : Str → Option Value}, P.Nodup → P[i]? = some x → vs[i]? = some v → kindOf x ≠ some .local →
  bindC kindOf (P.zip vs) m x = some v
 | [], _, _, _, _, h, _, _ => by simp at h
 | _ :: _, [], _, _, _, _, h, _ => by simp at h
 | p :: P, w :: vs, 0, m, nd, h1, h2, hk => by
  simp at h1 h2; subst h1; subst h2
  show bindC kindOf ((p, w) :: P.zip vs) m p = _
  unfold bindC
  rw [bindC_out fun v hv => (List.nodup_cons.mp nd).1 (List.of_mem_zip hv).1, if_neg hk]
  simp
 | p :: P, w :: vs, i + 1, m, nd, h1, h2, hk => by
  show bindC kindOf ((p, w) :: P.zip vs) m x = _
  unfold bindC
  exact bindC_get (i := i) (List.nodup_cons.mp nd).2 (by simpa using h1) (by simpa using h2) hk
def start (N : List Str) (vs : List V) : St := vs.map some ++ List.replicate (N.length - vs.length) none
def cxOf (CX : CXT) (P : Program) (w : World) (K : W.Frag) (mg : Str → Option Value) (base : Heap) (N : List Str) (qual : Str) (scope : Scope) (f : Addr) (cd : Value) (A : Around) (outer : List Env) (s : Shared) (H : Hp) (E : XK) : Cx where
 prog := P
 w := w
 K := K
 mg := mg
 base := base
 A := A.deeper (envOfC qual scope s.heap.objs.size f cd)
 N := N
 s₀ := s
 H₀ := H
 env := envOfC qual scope s.heap.objs.size f cd
 outer := outer
 stack := envOfC qual scope s.heap.objs.size f cd :: outer
 ex := []
 calm := true
 fn := fun _ => true
 pn := []
 xe := fun e s' => wpAny (model P w) (A.deeper (envOfC qual scope s.heap.objs.size f cd)) (leaving (envOfC qual scope s.heap.objs.size f cd) e) (fun _ s'' => CX outer H s E e s'') (fun e' s'' => CX outer H s E e' s'') s'
theorem cell_has {sc : Scope} {n : Nat} {x : Str} (h : sc.names.lookup x = some .cell) : ∃ c, (cellsFrom n sc.names []).lookup x = some c := by
 have q := W.cellsFrom_some sc.names n [] (.inl h)
 exact Option.isSome_iff_exists.mp q
theorem inv_start {CX : CXT} {P : Program} {w : World} {K : W.Frag} {mg : Str → Option Value} {base : Heap} {N ps : List Str} {qual : Str} {scope : Scope} {f : Addr} {cd : Value} {A : Around} {outer : List Env} {s s1 : Shared} {H : Hp} {E : XK} {us : List Value} {vs : List V}
  (S : FnScope N ps scope) (hd : A.handled = none) (e0 : Env0 P w K mg base A outer s H) (hl : vs.length = ps.length) (r : Vals vs us)
  (x : InCallC s s.heap.objs.size (bindL (envOfC qual scope s.heap.objs.size f cd).kindOf (ps.zip us) fun _ => none) (cellsFrom (s.heap.objs.size + 1) scope.names []) (bindC (envOfC qual scope s.heap.objs.size f cd).kindOf (ps.zip us) fun _ => none) s1) :
  Inv (cxOf CX P w K mg base N qual scope f cd A outer s H E) [] (start N vs) H s1 := by
 have hpl : ps.length ≤ N.length := by have := congrArg List.length S.pre; rw [List.length_take] at this; omega
 obtain ⟨h1, tk, rfl, hk⟩ := x.done
 have noA : ∀ b : Addr, b ∉ (cxOf CX P w K mg base N qual scope f cd A outer s H E).ex := fun b z => absurd (show b ∈ ([] : List Addr) from z) (by simp)
 refine ⟨⟨e0.mod, S.kind, rfl, rfl, Nat.le_refl _, fun y z c h1 h2 => ?_, fun y hy => ?_, fun y c _ h => ?_, fun _ => hd, Around.frames_deeper e0.frames, .inr ⟨rfl, rfl⟩, fun b z => absurd z (noA b), e0.bs, e0.bsz, fun b _ _ => noA b, fun b z => absurd z (noA b), e0.funs, e0.frf⟩,
  rfl, e0.bare, Un.kept hk, ⟨_, x.toInCall.ns, fun i y v h1 h2 h3 => ?_⟩, fun y c h => ⟨_, x.cell y c h⟩, e0.hok.fresh (Nat.le_refl _), fun y c h => ?_, fun p hp => absurd (show p ∈ ([] : List (Addr × Obj)) from hp) (by simp), e0.hok.kept hk, ?_⟩
 ·exact name_of_addr x.apart (PySem.mem_of_lookup h1) (PySem.mem_of_lookup h2)
 ·have hy : scope.names.lookup y = some .cell ∨ scope.names.lookup y = some .free := hy
  rcases hy with hy | hy
  ·exact cell_has hy
  ·exact absurd rfl (S.nofree _ (PySem.mem_of_lookup hy))
 ·exact Nat.le_of_lt (x.above y c (PySem.mem_of_lookup h))
 ·have hi : i < vs.length := by
   unfold start at h2
   by_cases hi : i < vs.length
   ·exact hi
   ·rw [List.getElem?_append_right (by simpa using hi)] at h2
    rw [List.getElem?_replicate] at h2
    split at h2 <;> cases h2
  have ha : vs[i]? = some v := by
   unfold start at h2
   rw [List.getElem?_append_left (by simpa using hi), List.getElem?_map] at h2
   cases e : vs[i]? with
   | none => rw [e] at h2; cases h2
   | some a => rw [e] at h2; cases h2; rfl
  obtain ⟨u, hu, rv⟩ := r.get ha
  have hp : ps[i]? = some y := by
   rw [← S.pre, List.getElem?_take_of_lt (by omega)]; exact h1
  have ndP : ps.Nodup := by rw [← S.pre]; exact S.nd.sublist (List.take_sublist _ _)
  refine ⟨u, rv, ?_⟩
  rcases S.par y (List.mem_of_getElem? hp) with k | k
  ·exact .inl ⟨k, bindL_get ndP hp hu k⟩
  ·obtain ⟨c, e⟩ := cell_has (n := s.heap.objs.size + 1) k
   refine .inr ⟨.inl k, c, e, ?_⟩
   have q := x.cell y c e
   rw [bindC_get ndP hp hu (by show scope.names.lookup y ≠ _; rw [k]; decide)] at q
   exact q
 ·exact e0.hok.fresh (Nat.le_of_lt (x.above y c (PySem.mem_of_lookup h)))
 ·unfold start
  show _ = N.length
  rw [List.length_append, List.length_map, List.length_replicate]
  omega
theorem fn_of {CX : CXT} {P : Program} {w : World} {K : W.Frag} {mg : Str → Option Value} {base : Heap} {k : Nat} {f : Addr} {name qual : Str} {params : Arguments} {body : List Stmt} {scope : Scope} {dV kV doc pm cdv ct oc : Value} {an od : Option Addr}
  {osl : Array (Option Value)} {N ps : List Str} {sp : Sp} (lk : K.lookup f = some ⟨oc, od, .func (W.fnOf name qual params body scope dV kV doc pm an cdv ct), osl⟩) (hcd : W.codeIn K cdv qual = true) (S : FnScope N ps scope)
  (len : ∀ vs H Q E, sp vs H Q E → vs.length = ps.length)
  (hbody : ∀ (A : Around) (outer : List Env) (s : Shared) (H : Hp) (vs : List V) (Q : VK) (E : XK), Room k (A.deeper (envOfC qual scope s.heap.objs.size f cdv)) → sp vs H Q E →
   ∃ t, PSs (cxOf CX P w K mg base N qual scope f cdv A outer s H E) body t ∧ t { nx := fun _ H' => Q .non H', rt := Q } (start N vs) H) :
  FnOk P w K mg base CX (k + 1) f (W.fnOf name qual params body scope dV kV doc pm an cdv ct) ps sp := by
 refine ⟨len, fun A outer s H args us vs Q E hr e0 hb r hsp => ?_⟩
 have hl := len _ _ _ _ hsp
 have KX : K.In s.heap := e0.mod.kin.keeps fun b o e => (e0.bs b o e).1
 have lim : s.heap.NoLimit := e0.mod.nolimit.keeps fun b o e => (e0.bs b o e).1
 have hkind : ∀ y ∈ ps.zip us, scope.names.lookup y.1 = some .local ∨ (scope.names.lookup y.1 = some .cell ∧ ((cellsFrom (s.heap.objs.size + 1) scope.names []).lookup y.1).isSome = true) := fun ⟨n, v⟩ hy => by
  rcases S.par n (List.of_mem_zip hy).1 with q | q
  ·exact .inl q
  ·exact .inr ⟨q, W.cellsFrom_some _ _ _ (.inl q)⟩
 refine codeAny_call_function hr.depth (KX _ _ lk) rfl S.co S.gen rfl (W.codeRec_of KX hcd) (hb _ _ _ _ ?_)
 refine wpAny_newFunctionEnv_cells S.kind hkind fun env he s1 x => ?_
 subst he
 refine ⟨lim.keeps x.toInCall.keep, codeAny_func ?_⟩
 obtain ⟨t, ht, hq⟩ := hbody A outer s H vs Q E (hr.deeper _) hsp
 have I : Inv (cxOf CX P w K mg base N qual scope f cdv A outer s H E) [] (start N vs) H s1 := inv_start S hr.hd e0 hl r x
 refine wpAny_mono (ht [] s1 (start N vs) H _ I hq) (fun fl s' hs => ?_) fun e s' hs => hs
 have fin : ∀ {σ' : St} {H' : Hp} {v : V} {u : Value}, Inv (cxOf CX P w K mg base N qual scope f cdv A outer s H E) [] σ' H' s' → RelV v u → Q v H' → CE outer P w H s Q u s' :=
  fun {σ' H' v u} J rv q => ⟨v, H', J.os, J.bare, J.base, J.hok, rv, q⟩
 cases fl with
 | ret u =>
  obtain ⟨v, σ', H', J, rv, q⟩ := hs
  exact fin J rv q
 | next =>
  obtain ⟨σ', H', J, q⟩ := hs
  exact fin (v := V.non) (u := Value.none) J rfl q
 | brk =>
  obtain ⟨_, _, _, q⟩ := hs
  exact False.elim q
 | cont =>
  obtain ⟨_, _, _, q⟩ := hs
  exact False.elim q
section
variable {X : Cx} {x : Str} {p pos : Pos} {e : Expr} {es : List Expr} {t : TA} {id T : String} {r : List V → Hp → VK → Prop}
def tCB (r : List V → Hp → VK → Prop) (t : TA) : TE := fun σ H Q => t σ H fun vs H1 => r vs H1 Q
theorem pe_callB (hc : CallR X (.builtin id) r) (hg : Gl X x) (hm : X.mg x = none) (hv : bootBuiltins x = some (.builtin id)) (ha : PA X (e :: es) t) (hn : x ≠ "__name__" := by decide) (hdb : (x == ("__debug__" : Str)) = false := by decide)
  (he : starEach (e :: es) X.env = (false, eval e X.env) :: starEach es X.env := by rfl) (hpl : (backTo pos (starEach es X.env)).any (·.1) = false := by rfl) : PE X (.Call (.Name x p) (e :: es) [] pos) (tCB r t) := by
 intro pins s σ H Q I h
 refine wpAny_Call_Name_kw (ld_blt I hg hm hv ?_ hn hdb)
 exact PyProof.Rows.callWith_builtin1 (thn (ha pos pins s σ H _ I h) fun us s1 ⟨vs, H1, I1, r1, q1⟩ => hc pins s1 σ H1 vs us Q I1 r1 q1) he hpl
theorem pe_callTy (hc : CallR X (.type T) r) (hg : Gl X x) (hm : X.mg x = none) (hv : bootBuiltins x = some (.type T)) (ha : PA X (e :: es) t) (hn : x ≠ "__name__" := by decide) (hdb : (x == ("__debug__" : Str)) = false := by decide)
  (he : starEach (e :: es) X.env = (false, eval e X.env) :: starEach es X.env := by rfl) (hpl : (backTo pos (starEach es X.env)).any (·.1) = false := by rfl) : PE X (.Call (.Name x p) (e :: es) [] pos) (tCB r t) := by
 intro pins s σ H Q I h
 refine wpAny_Call_Name_kw (ld_blt I hg hm hv ?_ hn hdb)
 exact PyProof.Rows.callWith_type1 (thn (ha pos pins s σ H _ I h) fun us s1 ⟨vs, H1, I1, r1, q1⟩ => hc pins s1 σ H1 vs us Q I1 r1 q1) he hpl
end
end L2
namespace HT
open PySem PyProof.Rows
section
variable {prog : Program} {w : World} {A : Around} {E : Value → Shared → Prop} {s : Shared}
def sIx (n d : Nat) : Option Int → Nat
 | none => d
 | some v => if v < 0 then (v + (n : Int)).toNat else min v.toNat n
theorem sIx_none (n d : Nat) : sIx n d none = d := rfl
theorem sIx_nat (n d k : Nat) : sIx n d (some (k : Int)) = min k n := by
 show (if (k : Int) < 0 then ((k : Int) + (n : Int)).toNat else min (k : Int).toNat n) = min k n
 rw [if_neg (by omega), Int.toNat_natCast]
theorem clip_eq (v : Int) (n d : Nat) : (if v < 0 then max (v + (n : Int)) 0 else min v (n : Int)) = ((sIx n d (some v) : Nat) : Int) := by
 show (if v < 0 then max (v + (n : Int)) 0 else min v (n : Int)) = (((if v < 0 then (v + (n : Int)).toNat else min v.toNat n) : Nat) : Int)
 by_cases hv : v < 0
 ·simp only [if_pos hv]; omega
 ·simp only [if_neg hv]; omega
end
end HT
namespace L2
open PySem PySem.Spec PyProof.Rows
abbrev TO := St → Hp → (Option Int → Hp → Prop) → Prop
def PO (X : Cx) (e : Option Expr) (t : TO) : Prop :=
 ∀ (pins : List (Addr × Obj)) (s : Shared) (σ : St) (H : Hp) (Q : Option Int → Hp → Prop), Inv X pins σ H s → t σ H Q →
  wpAny (model X.prog X.w) X.A (evalPart e X.env) (fun u s' => ∃ o H', Inv X pins σ H' s' ∧ IsPart u o ∧ Q o H') X.xe s
def tNoPart : TO := fun _ H Q => Q none H
def tPart (t : TE) : TO := fun σ H Q => t σ H fun x H1 => ∃ i, x = .int i ∧ Q (some i) H1
section
variable {X : Cx} {e : Expr} {te : TE} {lo hi : Option Expr} {tl th : TO} {pos p2 : Pos}
theorem po_none : PO X none tNoPart := by
 intro pins s σ H Q I h
 rw [evalPart_none]
 exact wpAny_pure ⟨none, H, I, .none, h⟩
theorem po_some (h : PE X e te) : PO X (some e) (tPart te) := by
 intro pins s σ H Q I hw
 rw [evalPart_some]
 refine thn (h pins s σ H _ I hw) fun u s1 ⟨x, H1, I1, r1, q1⟩ => ?_
 obtain ⟨i, rfl, q⟩ := q1
 obtain ⟨t, rfl⟩ := r1
 exact ⟨some i, H1, I1, .int i t, q⟩
def SlR (X : Cx) (r : V → Option Int → Option Int → Hp → VK → Prop) : Prop :=
 ∀ (pins : List (Addr × Obj)) (s : Shared) (σ : St) (H : Hp) (x : V) (v vl vu : Value) (lo hi : Option Int) (sl : Addr) (Q : VK), Inv X pins σ H s → RelV x v → s.heap.IsSliceOf sl vl vu .none → IsPart vl lo → IsPart vu hi → r x lo hi H Q →
  ∃ T id, typeLookup (.type T) "__getitem__" = pure (some (.builtin id)) ∧ s.TypeIs v T ∧ wpAny (model X.prog X.w) X.A (getItem v (.ref sl)) (EP X pins σ Q) X.xe s
def tSl (r : V → Option Int → Option Int → Hp → VK → Prop) (te : TE) (tl th : TO) : TE := fun σ H Q => te σ H fun x H1 => tl σ H1 fun l H2 => th σ H2 fun u H3 => r x l u H3 Q
theorem pe_slice {r : V → Option Int → Option Int → Hp → VK → Prop} (hr : SlR X r) (he : PE X e te) (hl : PO X lo tl) (hu : PO X hi th) : PE X (.Subscript e (.Slice lo hi none p2) pos) (tSl r te tl th) := by
 intro pins s σ H Q I h
 refine Subscript_ (thn (he pins s σ H _ I h) fun v s1 ⟨x, H1, I1, r1, q1⟩ => ?_)
 refine wpAny_Slice (thn (hl pins s1 σ H1 _ I1 q1) fun vl s2 ⟨l, H2, I2, pl, q2⟩ => thn (hu pins s2 σ H2 _ I2 q2) fun vu s3 ⟨u, H3, I3, pu, q3⟩ => ?_)
 rw [evalPart_none]
 refine wpAny_pure ?_
 have I4 : Inv X pins σ H3 { s3 with heap := s3.heap.push { cls := .type "slice", data := .fields #[vl, vu, .none] } } := I3.kept (t' := s3.toks) fun b ob q => Heap.get?_push_of_some _ q
 obtain ⟨T, id, hT, ht, hg⟩ := hr pins { s3 with heap := s3.heap.push { cls := .type "slice", data := .fields #[vl, vu, .none] } } σ H3 x v vl vu l u s3.heap.objs.size Q I4 r1 (Heap.IsSliceOf.new ..) pl pu q3
 show wpAny (model X.prog X.w) X.A (subscriptTail e (.Slice lo hi none p2) v (.ref s3.heap.objs.size)) (EP X pins σ Q) X.xe { s3 with heap := s3.heap.push { cls := .type "slice", data := .fields #[vl, vu, .none] } }
 exact tail_any (ops := [.ref s3.heap.objs.size, v]) ht hT hg (by with_unfolding_all rfl)
def cutV (xs : List V) (lo hi : Option Int) : List V := (xs.drop (HT.sIx xs.length 0 lo)).take (HT.sIx xs.length xs.length hi - HT.sIx xs.length 0 lo)
theorem cutV_length (xs : List V) (lo hi : Option Int) : (cutV xs lo hi).length ≤ xs.length := by
 unfold cutV
 rw [List.length_take, List.length_drop]
 omega
end
def ixN (n : Nat) (i : Int) : Option Nat := if 0 ≤ i then (if i < n then some i.toNat else none) else if -(n : Int) ≤ i then some (i + n).toNat else none
def atI {α : Type} (xs : List α) (i : Int) : Option α := (ixN xs.length i).bind fun j => xs[j]?
theorem ixN_seq {n : Nat} {i : Int} {j : Nat} (h : ixN n i = some j) : seqIndex? i n = some j ∧ j < n ∧ -(n : Int) ≤ i ∧ i < n := by
 unfold ixN at h
 by_cases h0 : 0 ≤ i
 ·rw [if_pos h0] at h
  by_cases h1 : i < n
  ·rw [if_pos h1] at h
   have e : i.toNat = j := Option.some.inj h
   exact ⟨by rw [seqIndex_of h0 h1, e], by omega, by omega, h1⟩
  ·rw [if_neg h1] at h; cases h
 ·rw [if_neg h0] at h
  by_cases h1 : -(n : Int) ≤ i
  ·rw [if_pos h1] at h
   have e : (i + n).toNat = j := Option.some.inj h
   exact ⟨by rw [seqIndex_neg (by omega) h1, e], by omega, h1, by omega⟩
  ·rw [if_neg h1] at h; cases h
theorem atI_get {α : Type} {xs : List α} {i : Int} {v : α} (h : atI xs i = some v) : ∃ j, seqIndex? i xs.length = some j ∧ xs[j]? = some v ∧ j < xs.length ∧ -(xs.length : Int) ≤ i ∧ i < xs.length := by
 unfold atI at h
 cases e : ixN xs.length i with
 | none => rw [e] at h; cases h
 | some j =>
  rw [e] at h
  obtain ⟨h1, h2, h3, h4⟩ := ixN_seq e
  exact ⟨j, h1, h, h2, h3, h4⟩
def PlainIx (b : Expr) : Prop := ∀ o i, subscripted b false o i = operate [o, i] (getItem o i)
def IxR (X : Cx) (r : R2) : Prop :=
 ∀ (value slice : Expr) (pins : List (Addr × Obj)) (s : Shared) (σ : St) (H : Hp) (x y : V) (v u : Value) (Q : VK), Inv X pins σ H s → RelV x v → RelV y u → r x y H Q →
  subscripted slice false v u = operate [v, u] (getItem v u) → wpAny (model X.prog X.w) X.A (subscriptTail value slice v u) (EP X pins σ Q) X.xe s
def MtR (X : Cx) (id : String) (r : V → List V → Hp → VK → Prop) : Prop :=
 ∀ (pins : List (Addr × Obj)) (s : Shared) (σ : St) (H : Hp) (x : V) (xs : List V) (v : Value) (us : List Value) (Q : VK), Inv X pins σ H s → RelV x v → Vals xs us → r x xs H Q →
  wpAny (model X.prog X.w) X.A (call (.builtin id) (v :: us)) (EP X pins σ Q) X.xe s
section
variable {X : Cx} {a b : Expr} {ta tb : TE} {pos : Pos}
theorem pe_ix {r : R2} (hr : IxR X r) (ha : PE X a ta) (hb : PE X b tb) (hs : PlainIx b) : PE X (.Subscript a b pos) (tOp r ta tb) := by
 intro pins s σ H Q I h
 exact Subscript_ (binT ha hb I h fun v u s2 x y H2 I2 rx ry q => hr a b pins s2 σ H2 x y v u Q I2 rx ry q (hs _ _))
def rIxL (K : W.Frag) : R2 := fun x y H Q => ∃ p xs i v, x = .ref p ∧ y = .int i ∧ SqL K H p xs ∧ atI xs i = some v ∧ Q v H
def rIxT (K : W.Frag) : R2 := fun x y H Q => ∃ p xs i v, x = .ref p ∧ y = .int i ∧ SqT K H p xs ∧ atI xs i = some v ∧ Q v H
def rIxS : R2 := fun x y H Q => ∃ z i c, x = .str z ∧ y = .int i ∧ z.length ≤ sizeLine ∧ atI z.cps.toList i = some c ∧ Q (.str ⟨#[c]⟩) H
theorem ix_list : IxR X (rIxL X.K) := by
 intro value slice pins s σ H x y v u Q I rx ry h hs
 obtain ⟨p, xs, i, z, rfl, rfl, hq, he, q⟩ := h
 cases rx
 obtain ⟨t, rfl⟩ := ry
 obtain ⟨its, r, pl, hz⟩ := I.list hq
 obtain ⟨j, h1, h2, h3, h4, h5⟩ := atI_get he
 obtain ⟨w, ew, rw'⟩ := r.get h2
 have hl := r.length
 have hn := line63
 have fin : EP X pins σ Q w s := ⟨z, H, I, rw', q⟩
 by_cases h0 : 0 ≤ i
 ·have hj : i.toNat = j := by
   rw [seqIndex_of h0 h5] at h1
   exact Option.some.inj h1
  exact item_listR pl.isList h0 (by omega) (by rw [hj]; simpa using ew) fin hs
 ·have hj : (i + (its.toArray.size : Int)).toNat = j := by
   rw [seqIndex_neg (by omega) h4] at h1
   rw [List.size_toArray, ← hl]
   exact Option.some.inj h1
  exact subscriptTail_builtinR (x := w) pl.isList.typeIs slot_list_getitem.lookup
   (wpAny_getItem_list_neg (Q := fun r s' => r = w ∧ EP X pins σ Q r s') pl.isList (by omega) (by rw [List.size_toArray] <;> omega) (by omega) (by rw [hj]; simpa using ew) ⟨rfl, fin⟩) hs
theorem ix_tup : IxR X (rIxT X.K) := by
 intro value slice pins s σ H x y v u Q I rx ry h hs
 obtain ⟨p, xs, i, z, rfl, rfl, hq, he, q⟩ := h
 cases rx
 obtain ⟨t, rfl⟩ := ry
 obtain ⟨its, r, pl, hz⟩ := I.tuple hq
 obtain ⟨j, h1, h2, h3, h4, h5⟩ := atI_get he
 obtain ⟨w, ew, rw'⟩ := r.get h2
 have hl := r.length
 have hn := line63
 have fin : EP X pins σ Q w s := ⟨z, H, I, rw', q⟩
 exact subscriptTail_builtinR (x := w) pl.typeIs slot_tuple_getitem.lookup
  (getItem_tuple (j := j) (Q := fun r s' => r = w ∧ EP X pins σ Q r s') pl (by omega) (by omega) (by rw [List.size_toArray, ← hl]; exact h1) (by simpa using ew) ⟨rfl, fin⟩) hs
theorem ix_str : IxR X rIxS := by
 intro value slice pins s σ H x y v u Q I rx ry h hs
 obtain ⟨z, i, c, rfl, rfl, hz, he, q⟩ := h
 obtain ⟨t, rfl⟩ := rx
 obtain ⟨t', rfl⟩ := ry
 obtain ⟨j, h1, h2, h3, h4, h5⟩ := atI_get he
 have hl : z.cps.toList.length = z.length := by simp [Str.length]
 rw [hl] at h1 h4 h5
 have hn := line63
 exact tail_any (typeIs_str s z t) slot_str_getitem.lookup (getItem_str (c := c) (by
  have e1 : decide (i < -(2 ^ 63 : Int)) = false := decide_eq_false (by omega)
  have e2 : decide (i ≥ 2 ^ 63) = false := decide_eq_false (by omega)
  rw [e1, e2, Bool.or_false]) (by rw [h1]; simpa using h2) ⟨.str ⟨#[c]⟩, H, I.tok _, ⟨_, rfl⟩, q⟩) hs
theorem slice_bounds (lo hi : Option Int) (n : Nat) : (sliceBounds lo hi none n).1 = ((HT.sIx n 0 lo : Nat) : Int) ∧ (sliceBounds lo hi none n).2.1 = ((HT.sIx n n hi : Nat) : Int) ∧ (sliceBounds lo hi none n).2.2 = 1 := by
 refine ⟨?_, ?_, rfl⟩
 ·cases lo with
  | none => simp [sliceBounds, HT.sIx]
  | some i =>
   simp only [sliceBounds, HT.sIx, Option.getD_none, show (1 : Int) > 0 by decide, if_true]
   by_cases h : i < 0
   ·simp only [h, if_true] <;> omega
   ·simp only [h, if_false] <;> omega
 ·cases hi with
  | none => simp [sliceBounds, HT.sIx]
  | some i =>
   simp only [sliceBounds, HT.sIx, Option.getD_none, show (1 : Int) > 0 by decide, if_true]
   by_cases h : i < 0
   ·simp only [h, if_true] <;> omega
   ·simp only [h, if_false] <;> omega
theorem slicePick_cut (its : List Value) (lo hi : Option Int) : slicePick its.toArray lo hi none = ((its.drop (HT.sIx its.length 0 lo)).take (HT.sIx its.length its.length hi - HT.sIx its.length 0 lo)).toArray := by
 obtain ⟨h1, h2, h3⟩ := slice_bounds lo hi its.toArray.size
 unfold slicePick
 rw [h1, h2, h3]
 simp only [sliceRange_one, pick_run, List.size_toArray] <;> rfl
def rSlL (K : W.Frag) : V → Option Int → Option Int → Hp → VK → Prop := fun x lo hi H Q => ∃ a xs, x = .ref a ∧ SqL K H a xs ∧ ∀ p, H p = none → Q (.ref p) (upd H p (.lst (cutV xs lo hi)))
theorem sl_list : SlR X (rSlL X.K) := by
 intro pins s σ H x v vl vu lo hi sl Q I rx hs pl pu h
 obtain ⟨a, xs, rfl, hx, q⟩ := h
 cases rx
 obtain ⟨its, r, ht, hz⟩ := I.list hx
 have hlen := r.length
 refine ⟨"list", _, slot_list_getitem.lookup, ht.isList.typeIs, ?_⟩
 refine wpAny_getItem_list_slice ht.isList hs pl pu .none (by simp) ?_ (by rw [List.size_toArray] <;> omega)
 rw [slicePick_cut, ← hlen]
 refine ⟨.ref s.heap.objs.size, _, I.laid (t' := s.toks) (o := .lst (cutV xs lo hi)) (fun b ob q => Heap.get?_push_of_some _ q) (Nat.le_refl _) ?_, rfl, q _ (I.hok.fresh (Nat.le_refl _))⟩
 exact ⟨Nat.le_trans (cutV_length xs lo hi) hz, _, 0, (r.drop (HT.sIx xs.length 0 lo)).take (HT.sIx xs.length xs.length hi - HT.sIx xs.length 0 lo), Heap.get?_push_size _ rfl⟩
def flatV : V → Bool
 | .non => true
 | .bl _ => true
 | .int _ => true
 | .str _ => true
 | _ => false
def eqV : V → V → Bool
 | .non, .non => true
 | .bl a, .bl b => a == b
 | .bl a, .int b => (if a then 1 else 0) == b
 | .int a, .bl b => a == (if b then 1 else 0)
 | .int a, .int b => a == b
 | .str a, .str b => a == b
 | _, _ => false
theorem eqAt_V {A : Around} {s : Shared} {y x : V} {u v : Value} (ry : RelV y u) (rx : RelV x v) (fy : flatV y = true) (fx : flatV x = true) : SeqAt.EqAt A s u v (eqV y x) := by
 cases y with
 | non =>
  cases ry
  cases x with
  | non => cases rx; exact SeqAt.EqAt.same _
  | bl b => cases rx; exact SeqAt.EqAt.none_bool b
  | int b => obtain ⟨t, rfl⟩ := rx; exact SeqAt.EqAt.none_int b t
  | str b => obtain ⟨t, rfl⟩ := rx; exact SeqAt.EqAt.none_str b t
  | _ => exact absurd (show false = true from fx) Bool.false_ne_true
 | bl a =>
  cases ry
  cases x with
  | non => cases rx; exact SeqAt.EqAt.bool_none a
  | bl b => cases rx; exact SeqAt.EqAt.bool_bool a b
  | int b => obtain ⟨t, rfl⟩ := rx; exact SeqAt.EqAt.bool_int a b t
  | str b => obtain ⟨t, rfl⟩ := rx; exact SeqAt.EqAt.bool_str a b t
  | _ => exact absurd (show false = true from fx) Bool.false_ne_true
 | int a =>
  obtain ⟨t', rfl⟩ := ry
  cases x with
  | non => cases rx; exact SeqAt.EqAt.int_none a t'
  | bl b => cases rx; exact SeqAt.EqAt.int_bool a t' b
  | int b => obtain ⟨t, rfl⟩ := rx; exact SeqAt.EqAt.int_int a t' b t
  | str b => obtain ⟨t, rfl⟩ := rx; exact SeqAt.EqAt.int_str a t' b t
  | _ => exact absurd (show false = true from fx) Bool.false_ne_true
 | str a =>
  obtain ⟨t', rfl⟩ := ry
  cases x with
  | non => cases rx; exact SeqAt.EqAt.str_none a t'
  | bl b => cases rx; exact SeqAt.EqAt.str_bool a t' b
  | int b => obtain ⟨t, rfl⟩ := rx; exact SeqAt.EqAt.str_int a t' b t
  | str b => obtain ⟨t, rfl⟩ := rx; exact SeqAt.EqAt.str_str a t' b t
  | _ => exact absurd (show false = true from fx) Bool.false_ne_true
 | _ => exact absurd (show false = true from fy) Bool.false_ne_true
def eqU (x : V) (u : Value) : Bool := match u with
 | .none => eqV .non x
 | .bool b => eqV (.bl b) x
 | .int i _ => eqV (.int i) x
 | .str z _ => eqV (.str z) x
 | _ => false
theorem eqU_of {x y : V} {u : Value} (r : RelV y u) (f : flatV y = true) : eqU x u = eqV y x := by
 cases y with
 | non => cases r; rfl
 | bl b => cases r; rfl
 | int i => obtain ⟨t, rfl⟩ := r; rfl
 | str z => obtain ⟨t, rfl⟩ := r; rfl
 | _ => exact absurd (show false = true from f) Bool.false_ne_true
theorem any_eqU {x : V} : ∀ {xs : List V} {us : List Value}, Vals xs us → xs.all flatV = true → us.any (eqU x) = xs.any fun y => eqV y x
 | _, _, .nil, _ => rfl
 | y :: xs, u :: us, .cons r t, f => by
  rw [List.all_cons, Bool.and_eq_true] at f
  rw [List.any_cons, List.any_cons, eqU_of r f.1, any_eqU t f.2]
theorem mem_eqAt {A : Around} {s : Shared} {x : V} {v : Value} (rx : RelV x v) (fx : flatV x = true) : ∀ {xs : List V} {us : List Value}, Vals xs us → xs.all flatV = true → ∀ u ∈ us, SeqAt.EqAt A s u v (eqU x u)
 | _, _, .nil, _ => fun u hu => by cases hu
 | y :: xs, u :: us, .cons r t, f => fun u' hu => by
  rw [List.all_cons, Bool.and_eq_true] at f
  rcases List.mem_cons.mp hu with rfl | hu
  ·rw [eqU_of r f.1]; exact eqAt_V r rx f.1 fx
  ·exact mem_eqAt rx fx t f.2 u' hu
def inV (x : V) (xs : List V) : Bool := xs.any fun y => eqV y x
def rIn (K : W.Frag) (neg : Bool) : R2 := fun x y H Q => ∃ p xs, y = .ref p ∧ (SqL K H p xs ∨ SqT K H p xs) ∧ flatV x = true ∧ xs.all flatV = true ∧ Q (.bl (if neg then !inV x xs else inV x xs)) H
theorem op_in_seq : OpR X (compareOp .In) (rIn X.K false) := by
 intro pins s σ H x y v u Q I rx ry h
 obtain ⟨p, xs, rfl, hq, fx, fs, q⟩ := h
 cases ry
 rcases hq with hq | hq
 ·obtain ⟨its, r, pl, hz⟩ := I.list hq
  refine SeqAt.in_listAt (eqU x) pl.isList (fun w hw => mem_eqAt rx fx r fs w (by simpa using hw)) ⟨.bl _, H, I, rfl, ?_⟩
  rw [show its.toArray.any (eqU x) = its.any (eqU x) by simp, any_eqU r fs]
  exact q
 ·obtain ⟨its, r, pl, hz⟩ := I.tuple hq
  refine SeqAt.in_tupleAt (eqU x) pl (fun w hw => mem_eqAt rx fx r fs w (by simpa using hw)) ⟨.bl _, H, I, rfl, ?_⟩
  rw [show its.toArray.any (eqU x) = its.any (eqU x) by simp, any_eqU r fs]
  exact q
theorem op_notIn_str : OpR X (compareOp .NotIn) (fun x y H Q => ∃ i j, x = .str i ∧ y = .str j ∧ Q (.bl (!(!(Builtin.Str.occurrences j i 0 j.length 1).isEmpty))) H) := by
 intro pins s σ H x y v u Q I rx ry h
 obtain ⟨i, j, rfl, rfl, q⟩ := h
 obtain ⟨t, rfl⟩ := rx
 obtain ⟨t', rfl⟩ := ry
 exact notIn_str ⟨.bl _, H, I, rfl, q⟩
theorem call_len_seq : CallR X (.builtin "len") (fun xs H Q => ∃ p ys, xs = [.ref p] ∧ (SqL X.K H p ys ∨ SqT X.K H p ys) ∧ Q (.int ys.length) H) := by
 intro pins s σ H xs us Q I r h
 obtain ⟨p, ys, rfl, hq, q⟩ := h
 obtain ⟨u, rfl, rx⟩ := vals1 r
 cases rx
 have hn := line63
 rcases hq with hq | hq
 ·obtain ⟨its, r', pl, hz⟩ := I.list hq
  have hlen := r'.length
  exact Calls.call_len_list pl.isList (by simp only [List.size_toArray] <;> omega) ⟨.int ys.length, H, I.tok _, ⟨s.toks + 1, by rw [List.size_toArray, hlen]⟩, q⟩
 ·obtain ⟨its, r', pl, hz⟩ := I.tuple hq
  have hlen := r'.length
  exact len_tuple pl (by simp only [List.size_toArray] <;> omega) ⟨.int ys.length, H, I.tok _, ⟨s.toks + 1, by rw [List.size_toArray, hlen]⟩, q⟩
theorem call_len_str : CallR X (.builtin "len") (fun xs H Q => ∃ z, xs = [.str z] ∧ z.length ≤ sizeLine ∧ Q (.int z.length) H) := by
 intro pins s σ H xs us Q I r h
 obtain ⟨z, rfl, hz, q⟩ := h
 obtain ⟨u, rfl, t, rfl⟩ := vals1 r
 have hn := line63
 exact len_str (by omega) ⟨.int z.length, H, I.tok _, ⟨_, rfl⟩, q⟩
theorem call_list_of : CallR X (.type "list") (fun xs H Q => ∃ p ys, xs = [.ref p] ∧ (SqL X.K H p ys ∨ SqT X.K H p ys) ∧ ∀ l, H l = none → Q (.ref l) (upd H l (.lst ys))) := by
 intro pins s σ H xs us Q I r h
 obtain ⟨p, ys, rfl, hq, q⟩ := h
 obtain ⟨u, rfl, rx⟩ := vals1 r
 cases rx
 have fin : ∀ (its : List Value), Vals ys its → ys.length ≤ sizeLine → ∀ (h' : Heap) (c' : Nat), (∀ b o', s.heap.get? b = some o' → h'.get? b = some o') →
   h'.get? s.heap.objs.size = some { cls := .type "list", dict := none, data := .seq its.toArray c', slots := #[] } → EP X pins σ Q (.ref s.heap.objs.size) { s with heap := h' } := fun its r' hz h' c' kp e =>
  ⟨.ref s.heap.objs.size, _, I.laid (t' := s.toks) kp (Nat.le_refl _) (show ObjOk X.prog X.w _ h' _ (.lst ys) from ⟨hz, its, c', r', e⟩), rfl, q _ (I.hok.fresh (Nat.le_refl _))⟩
 rcases hq with hq | hq
 ·obtain ⟨its, r', pl, hz⟩ := I.list hq
  have hlen := r'.length
  obtain ⟨o, ho, hc, n, hd⟩ := pl.isList
  exact call_list_seq p (.inl rfl) ho hc hd (fun h' c' kp e => fin its r' hz h' c' kp e) (by simp only [List.size_toArray] <;> omega)
 ·obtain ⟨its, r', pl, hz⟩ := I.tuple hq
  have hlen := r'.length
  obtain ⟨o, ho, hc, n, hd⟩ := pl
  exact call_list_seq p (.inr rfl) ho hc hd (fun h' c' kp e => fin its r' hz h' c' kp e) (by simp only [List.size_toArray] <;> omega)
def tyV (K : W.Frag) (T : String) (x : V) (H : Hp) : Prop := match x with
 | .str _ => T = "str"
 | .int _ => T = "int"
 | .ref p => (T = "list" ∧ ∃ xs, SqL K H p xs) ∨ (T = "tuple" ∧ ∃ o, K.lookup p = some o ∧ o.cls = .type "tuple" ∧ o.dict = none) ∨
   (T = "dict" ∧ ((∃ kvs, H p = some (.dK kvs)) ∨ ∃ kvs, H p = some (.dT kvs))) ∨ (T = "set" ∧ ∃ S n, H p = some (.set S n))
 | _ => False
theorem tyV_is {pins : List (Addr × Obj)} {σ : St} {H : Hp} {s : Shared} {T : String} {x : V} {v : Value} (I : Inv X pins σ H s) (r : RelV x v) (ty : tyV X.K T x H) :
  s.TypeIs v T ∧ ∀ a, v = .ref a → ∃ ob, s.heap.get? a = some ob ∧ ob.dict = none := by
 cases x with
 | str z =>
  obtain ⟨t, rfl⟩ := r
  cases (show T = "str" from ty)
  exact ⟨typeIs_str s z t, fun _ e => nomatch e⟩
 | int i =>
  obtain ⟨t, rfl⟩ := r
  cases (show T = "int" from ty)
  exact ⟨typeIs_int s i t, fun _ e => nomatch e⟩
 | ref p =>
  cases r
  rcases ty with ⟨rfl, xs, hq⟩ | ⟨rfl, o, hk, hc, hd⟩ | ⟨rfl, hk⟩ | ⟨rfl, S, n, hk⟩
  ·obtain ⟨its, _, pl, _⟩ := I.list hq
   refine ⟨pl.isList.typeIs, fun a e => ?_⟩
   cases e
   obtain ⟨o, n, e, c, hd, _⟩ := pl
   exact ⟨o, e, hd⟩
  ·refine ⟨⟨o, I.kIn p o hk, hc⟩, fun a e => ?_⟩
   cases e
   exact ⟨o, I.kIn _ o hk, hd⟩
  ·have z : ∃ o, s.heap.get? p = some o ∧ o.ExactDict := by
    rcases hk with ⟨kvs, hk⟩ | ⟨kvs, hk⟩
    ·obtain ⟨_, _, _, _, o, _, _, e, ex, _⟩ := I.hok p _ hk
     exact ⟨o, e, ex⟩
    ·obtain ⟨_, _, _, _, o, _, _, e, ex, _⟩ := I.hok p _ hk
     exact ⟨o, e, ex⟩
   obtain ⟨o, e, ex⟩ := z
   refine ⟨⟨o, e, ex.1⟩, fun a e2 => ?_⟩
   cases e2
   exact ⟨o, e, ex.2.1⟩
  ·obtain ⟨o, _, _, _, e, ex, _⟩ := I.hok p _ hk
   refine ⟨⟨o, e, ex.1⟩, fun a e2 => ?_⟩
   cases e2
   exact ⟨o, e, ex.2.1⟩
 | _ => exact False.elim ty
def tBM0 (K : W.Frag) (T : String) (r : V → List V → Hp → VK → Prop) (to : TE) : TE := fun σ H Q => to σ H fun x H1 => tyV K T x H1 ∧ r x [] H1 Q
def tBM (K : W.Frag) (T : String) (r : V → List V → Hp → VK → Prop) (to : TE) (t : TA) : TE := fun σ H Q => to σ H fun x H1 => tyV K T x H1 ∧ t σ H1 fun xs H2 => r x xs H2 Q
variable {o e : Expr} {es : List Expr} {to : TE} {t : TA} {name : Str} {apos cpos : Pos} {T id : String} {r : V → List V → Hp → VK → Prop}
theorem pe_bm0 (pa : PlainAttrs T) (slot : Slot T name id) (hty : typeOf (.builtin id) = pure (.type "method_descriptor")) (hm : MtR X id r) (ho : PE X o to)
  (hbase : attributeBase o name X.env (eval o X.env) = eval o X.env := by rfl) (hline : (apos.endLine == cpos.line) = true := by rfl) : PE X (.Call (.Attribute o name apos) [] [] cpos) (tBM0 X.K T r to) := by
 intro pins s σ H Q I h
 refine wpAny_Call_method0_late hbase hline (thn (ho pins s σ H _ I h) fun v s1 ⟨x, H1, I1, r1, ty, q1⟩ => ?_)
 obtain ⟨h1, h2⟩ := tyV_is I1 r1 ty
 exact ⟨T, id, pa, slot, hty, h1, h2, Calls.callWith_builtin rfl (PySem.evalArgs_none (hm pins s1 σ H1 x [] v [] Q I1 r1 .nil q1))⟩
theorem pe_bm (pa : PlainAttrs T) (slot : Slot T name id) (hty : typeOf (.builtin id) = pure (.type "method_descriptor")) (hm : MtR X id r) (ho : PE X o to) (ha : PA X (e :: es) t)
  (hbase : attributeBase o name X.env (eval o X.env) = eval o X.env := by rfl)
  (hfew : ((backTo cpos (starEach (e :: es) X.env)).all (fun x => !x.1) && (backToKw cpos (keywordEach [] X.env)).all (fun x => x.1.isSome)
   && decide ((e :: es).length + ([] : List Keyword).length + (if ([] : List Keyword).isEmpty then 0 else 1) < 30)) = true := by rfl)
  (hline : (apos.endLine == cpos.line) = true := by rfl) (hs : starEach (e :: es) X.env = (false, eval e X.env) :: starEach es X.env := by rfl) (hplain : (backTo cpos (starEach es X.env)).any (·.1) = false := by rfl) :
  PE X (.Call (.Attribute o name apos) (e :: es) [] cpos) (tBM X.K T r to t) := by
 intro pins s σ H Q I h
 refine wpAny_Call_method_late hbase hfew hline rfl (thn (ho pins s σ H _ I h) fun v s1 ⟨x, H1, I1, r1, ty, q1⟩ => ?_)
 obtain ⟨h1, h2⟩ := tyV_is I1 r1 ty
 refine ⟨T, id, pa, slot, hty, h1, h2, ?_⟩
 have hA := ha cpos pins s1 σ H1 _ I1 q1
 rw [hs] at hA ⊢
 refine Calls.callWith_builtin (by show (false || (backTo cpos (starEach es X.env)).any (·.1)) = false; rw [hplain] <;> rfl) (Calls.evalArgs_plain ?_)
 exact thn hA fun us s2 ⟨vs, H2, I2, r2, q2⟩ => hm pins s2 σ H2 x vs v us Q I2 r1 r2 q2
end
def MtM (X : Cx) (id : String) (r : V → List V → Hp → VK → Prop) : Prop :=
 ∀ (pins : List (Addr × Obj)) (s : Shared) (σ : St) (H : Hp) (x : V) (xs : List V) (v : Value) (us : List Value) (Q : VK), Inv X pins σ H s → RelV x v → Vals xs us → r x xs H Q →
  wpAny (model X.prog X.w) X.A (call (.builtin id) (v :: us)) (EP X pins σ Q) X.xe s
theorem Vals.one : ∀ {x : V} {us : List Value}, Vals [x] us → ∃ u, us = [u] ∧ RelV x u
 | _, _, .cons r .nil => ⟨_, rfl, r⟩
theorem Vals.zero : ∀ {us : List Value}, Vals [] us → us = []
 | _, .nil => rfl
theorem Vals.dropLast {xs : List V} {us : List Value} (h : Vals xs us) : Vals xs.dropLast us.dropLast := by
 induction h with
 | nil => exact .nil
 | cons r t ih =>
  cases t with
  | nil => exact .nil
  | cons q t' => exact .cons r ih
theorem erase_last {α : Type} (l : List α) : l.eraseIdx (l.length - 1) = l.dropLast := by
 induction l with
 | nil => rfl
 | cons a r ih =>
  cases r with
  | nil => rfl
  | cons b r =>
   have e : (a :: b :: r).length - 1 = ((b :: r).length - 1) + 1 := by
    have h1 : (a :: b :: r).length = r.length + 2 := rfl
    have h2 : (b :: r).length = r.length + 1 := rfl
    omega
   rw [e, List.eraseIdx_cons_succ, ih]
   all_goals rfl
section
variable {X : Cx} {pins : List (Addr × Obj)} {σ : St} {H : Hp} {s : Shared} {l b : Addr} {xs ys zs : List V}
theorem Inv.lset {its its' : List Value} {n : Nat} {f : Array Value → Array Value} {t' : Nat} (I : Inv X pins σ H s) (hH : H l = some (.lst xs))
  (e : s.heap.get? l = some { cls := .type "list", data := .seq its.toArray n }) (hf : f its.toArray = its'.toArray) (hv : Vals ys its') (hz : ys.length ≤ sizeLine) :
  Inv X pins σ (upd H l (.lst ys)) { s with heap := s.heap.update l (Obj.mapSeq f), toks := t' } := by
 have q := PySem.IsL.update e f
 rw [hf] at q
 refine I.write (x := l) (e := l) (by rw [hH]; exact trivial) (.inl rfl) (fun b' u hb hu => (Heap.get?_update_other s.heap (Obj.mapSeq f) (Ne.symm hb)).trans hu) ⟨_, q⟩ ?_
 exact ⟨hz, its', _, hv, q⟩
theorem Inv.lnew {its : List Value} {t' : Nat} (I : Inv X pins σ H s) (hv : Vals ys its) (hz : ys.length ≤ sizeLine) :
  Inv X pins σ (upd H s.heap.objs.size (.lst ys)) { s with heap := s.heap.push { cls := .type "list", data := .seq its.toArray }, toks := t' } :=
 I.laid (fun _ _ q => Heap.get?_push_of_some _ q) (Nat.le_refl _) ⟨hz, its, 0, hv, Heap.get?_push_size _ rfl⟩
theorem Inv.fresh (I : Inv X pins σ H s) : H s.heap.objs.size = none := I.hok.fresh (Nat.le_refl _)
theorem Inv.lstM (I : Inv X pins σ H s) (hH : H l = some (.lst xs)) : xs.length ≤ sizeLine ∧ ∃ (its : List Value) (n : Nat), Vals xs its ∧ xs.length = its.length ∧ s.heap.get? l = some { cls := .type "list", data := .seq its.toArray n } := by
 obtain ⟨z, its, n, r, e⟩ := I.hok l _ hH
 exact ⟨z, its, n, r, r.length, e⟩
end
section
variable {X : Cx}
def rAppend : V → List V → Hp → VK → Prop := fun x vs H Q => ∃ l xs y, x = .ref l ∧ vs = [y] ∧ H l = some (.lst xs) ∧ xs.length < sizeLine ∧ Q .non (upd H l (.lst (xs ++ [y])))
theorem mt_append : MtM X "list.append" rAppend := by
 intro pins s σ H x vs v us Q I rx rv h
 obtain ⟨l, xs, y, rfl, rfl, hH, hz, q⟩ := h
 cases rx
 obtain ⟨u, rfl, ru⟩ := rv.one
 obtain ⟨z, its, n, r, hl, e⟩ := I.lstM hH
 refine call_meets F.slot_list_append ⟨_, e, rfl⟩ F.entry_list_append (F.args_list_append_2 _ _) (PySem.list_append l its.toArray n u (by rw [List.size_toArray]; omega)) ⟨e, ?_⟩
 refine ⟨.non, _, I.lset (its' := its ++ [u]) hH e (by simp) (r.append (.cons ru .nil)) ?_, rfl, q⟩
 rw [List.length_append, List.length_singleton]
 omega
def rPop : V → List V → Hp → VK → Prop := fun x vs H Q => ∃ l xs y, x = .ref l ∧ vs = [] ∧ H l = some (.lst xs) ∧ xs[xs.length - 1]? = some y ∧ Q y (upd H l (.lst xs.dropLast))
theorem mt_pop : MtM X "list.pop" rPop := by
 intro pins s σ H x vs v us Q I rx rv h
 obtain ⟨l, xs, y, rfl, rfl, hH, hy, q⟩ := h
 cases rx
 have hus := rv.zero
 subst hus
 obtain ⟨z, its, n, r, hl, e⟩ := I.lstM hH
 obtain ⟨u, hu, ru⟩ := r.get hy
 have hy' : its.toArray[its.toArray.size - 1]? = some u := by
  show its.toArray[its.length - 1]? = some u
  rw [← Array.getElem?_toList, ← hl]
  exact hu
 refine call_meets F.slot_list_pop ⟨_, e, rfl⟩ F.entry_list_pop (F.args_list_pop_1 _) (MeetsSeq.list_pop_last l its.toArray n u hy' (by rw [List.size_toArray]; omega)) ⟨e, ?_⟩
 refine ⟨y, _, I.lset (its' := its.dropLast) hH e ?_ r.dropLast ?_, ru, q⟩
 ·show its.toArray.eraseIdxIfInBounds (its.toArray.size - 1) = its.dropLast.toArray
  rw [List.size_toArray, List.eraseIdxIfInBounds_toArray, erase_last]
 ·rw [List.length_dropLast]
  omega
def rCat : R2 := fun x y H Q => ∃ l b xs zs, x = .ref l ∧ y = .ref b ∧ H l = some (.lst xs) ∧ H b = some (.lst zs) ∧ xs.length + zs.length ≤ sizeLine ∧ ∀ p, H p = none → Q (.ref p) (upd H p (.lst (xs ++ zs)))
theorem op_cat : OpR X (binaryOp .Add) rCat := by
 intro pins s σ H x y v u Q I rx ry h
 obtain ⟨l, b, xs, zs, rfl, rfl, hH, hB, hz, q⟩ := h
 cases rx
 cases ry
 obtain ⟨z, its, n, r, hl, e⟩ := I.lstM hH
 obtain ⟨z2, its2, n2, r2, hl2, e2⟩ := I.lstM hB
 refine PySem.P.add_list e e2 ?_ (by rw [List.size_toArray, List.size_toArray]; omega)
 have ea : its.toArray ++ its2.toArray = (its ++ its2).toArray := by simp
 rw [ea]
 exact ⟨.ref _, _, I.lnew (t' := s.toks) (r.append r2) (by rw [List.length_append]; omega), rfl, q _ I.fresh⟩
end
end L2
namespace Att
open PySem PySem.W PySem.Calls PyProof.Rows
theorem ints_of_wellAll {P : Params} {h : Heap} : ∀ (ns : List Int) (vs : List Value), WellAll P h vs (ns.map WData.int) → IntsAre vs ns := by
 intro ns
 induction ns with
 | nil =>
  intro vs w
  rw [List.map_nil] at w
  cases w
  exact .nil
 | cons n ns ih =>
  intro vs w
  rw [List.map_cons] at w
  cases w with
  | cons a b =>
   cases a
   exact .cons _ _ (ih _ b)
theorem script_of {l : OpenLaw} {n : Nat} (hn : l.most = some n) {P : Params} {h : Heap} {args : List WData} {vals : List Value}
  (hpre : l.row.toRowW.claim.pre args = true) (hwl : WellAll P h vals args) :
  ∃ a vs ns, vals = [Value.ref a] ∧ args = [WData.list (ns.map WData.int)] ∧ h.get? a = some { cls := .type "list", data := .seq vs.toArray } ∧ IntsAre vs ns ∧ ns.length ≤ n := by
 have hsh : WShape.hasAll [] args [.list .int] = true := (pre_splitW hpre).1
 have hc : l.pre.holds [] { args := args } = true := (pre_splitW hpre).2
 obtain ⟨d, r, rfl, h1, h2⟩ := hasAllW_cons hsh
 obtain rfl := hasAllW_nil h2
 obtain ⟨xs, rfl, h3⟩ := hasW_list h1
 obtain ⟨ns, rfl⟩ := items_int h3
 have hlen : ns.length ≤ n := by
  unfold OpenLaw.pre at hc
  have h4 : (WTm.not (.lt (.lit (.int (n : Int))) (.len (.arg 0)))).holds [] { args := [.list (ns.map .int)] } = true := by
   have h4 := (holds_andW hc).1
   rw [hn] at h4
   exact h4
  have h5 := condW_of h4 (w_not (w_lt w_lit (w_len_list (w_arg rfl))))
  rw [List.length_map] at h5
  refine Nat.le_of_not_lt fun q => ?_
  have q' : (n : Int) < ((ns.length : Nat) : Int) := by omega
  first
   | (rw [decide_eq_true q'] at h5; exact absurd h5 (by decide))
   | (simp at h5; omega)
 cases hwl with
 | cons w1 w2 =>
  cases w2
  cases w1 with
  | list ho hall => exact ⟨_, _, ns, rfl, rfl, ho, ints_of_wellAll ns _ hall, hlen⟩
theorem post_true (l : OpenLaw) (args : List WData) : l.row.toRowW.claim.post args (.bool true) args = true :=
 postW_of (r := l.row.toRowW) (X := (true == true))
  (show WShape.has [] (.bool true) .bool = true by first | rfl | decide | simp [WShape.has, WShape.arms, WShape.armsAll])
  (show (WTm.eq .res (.lit (.bool true))).value [] { args := args, res := some (.bool true), after := args } = some (.bool (true == true)) from w_eq_bool (w_res rfl) w_lit) rfl
end Att
namespace L2
open PySem PySem.Spec PyProof.Rows
theorem vals_ints : ∀ {vs : List Value} {ns : List Int}, IntsAre vs ns → Vals (ns.map V.int) vs
 | _, _, .nil => .nil
 | _, _, .cons n t h => .cons ⟨t, rfl⟩ (vals_ints h)
def Only (H : Hp) : Prop := ∀ b, H b = none ∨ ∃ o xs, H b = some (.frz o (.lst xs))
theorem law_call {P : Program} {w : World} {K : W.Frag} {mg mb : Str → Option Value} {CX : CXT} {k : Nat} {fa a : Addr} {fd : FuncData} {x : Str} {sp : Sp} {s₁ : Shared} {vs : List Value} {ns : List Int}
  (KX : K.In s₁.heap) (hns : s₁.heap.Ns mainGlobals mg) (hb : s₁.heap.Ns builtinsNs mb) (hbb : ∀ x : Str, x ≠ "__name__" → mb x = bootBuiltins x) (hlim : s₁.heap.NoLimit) (hg : s₁.gens = #[])
  (ha : s₁.heap.get? a = some { cls := .type "list", data := .seq vs.toArray }) (hi : IntsAre vs ns) (hl : ns.length ≤ sizeLine) (hr : Room k callerA)
  (F : ∀ base : Heap, K.In base → base.Ns mainGlobals mg → FnOk P w K mg base CX k fa fd [x] sp) (hbind : ∀ (s : Shared) (u : Value), BindsTo s fd ⟨[u], []⟩ [(x, u)])
  (hsp : ∀ H : Hp, Only H → SqL K H a (ns.map V.int) → sp [.ref a] H (fun v _ => v = .bl true) fun _ _ _ => False)
  (hCX : ∀ H e s', CX [] H s₁ (fun _ _ _ => False) e s' → False) :
  codeAny (model P w) callerA (.call (.ref fa) ⟨[.ref a], []⟩) (fun r s' => r = .ok (.ret (.bool true)) ∧ OldK s₁.heap s'.heap ∧ s'.os = s₁.os ∧ AllBare s'.gens) s₁ := by
 have rv := vals_ints hi
 have lenV := hi.length
 -- from an abstract heap in which nothing but the script may be tracked
 have core : ∀ H : Hp, Only H → SqL K H a (ns.map V.int) → HOk P w H s₁.heap → (∀ b, H b ≠ none → b = a) → (H a ≠ none → K.lookup a = none) →
   codeAny (model P w) callerA (.call (.ref fa) ⟨[.ref a], []⟩) (fun r s' => r = .ok (.ret (.bool true)) ∧ OldK s₁.heap s'.heap ∧ s'.os = s₁.os ∧ AllBare s'.gens) s₁ := by
  intro H hO hS hok hA hK
  have base_of : ∀ {b : Addr} {o : Obj}, s₁.heap.get? b = some o → H b = none → (hidT s₁.heap H).get? b = some o := fun e n => hidT_get e n
  have noA : ∀ {b : Addr} {o : Obj} {es : Array DictEntry} {ep : Nat}, s₁.heap.get? b = some o → o.data = .dict es ep → H b = none := fun {b o es ep} e d => by
   cases q : H b with
   | none => rfl
   | some u =>
    have e' : b = a := hA b (by rw [q]; simp)
    subst e'
    rw [ha] at e; cases e
    have d' : Data.seq vs.toArray _ = Data.dict es ep := d
    cases d'
  have nsK : ∀ {b : Addr} {m : Str → Option Value}, s₁.heap.Ns b m → (hidT s₁.heap H).Ns b m := fun {b m} ⟨o, es, ep, e, d, r⟩ => ⟨o, es, ep, base_of e (noA e d), d, r⟩
  have hKb : K.In (hidT s₁.heap H) := fun b o e => base_of (KX b o e) (by
   cases q : H b with
   | none => rfl
   | some u =>
    have e' : b = a := hA b (by rw [q]; simp)
    subst e'
    rw [hK (by rw [q]; simp)] at e; cases e)
  have hM : Mod K mg (hidT s₁.heap H) := ⟨hKb, nsK hns, ⟨mb, nsK hb, hbb⟩, let ⟨mc, h1, h2⟩ := hlim; ⟨mc, nsK h1, h2⟩⟩
  have e0 : Env0 P w K mg (hidT s₁.heap H) callerA [] s₁ H := ⟨rfl, hM, fun b o e => of_hidT e, Nat.le_of_eq (hidT_size _ _), trivial, fun b hb => absurd (show b ∈ ([] : List Addr) from hb) (by simp), hok, .of_eq hg⟩
  refine codeAny_mono ((F _ hKb (nsK hns)).run callerA [] s₁ H ⟨[.ref a], []⟩ [.ref a] [.ref a] _ _ hr e0 (hbind s₁ (.ref a)) (.cons rfl .nil) (hsp H hO hS)) fun r s' h => ?_
  cases r with
  | error e => exact (hCX H e s' h).elim
  | ok fl =>
   cases fl with
   | next => exact False.elim h
   | brk => exact False.elim h
   | cont => exact False.elim h
   | ret u =>
    obtain ⟨v, H', os, bare, un, hok', r', q⟩ := h
    have q' : v = .bl true := q
    subst q'
    obtain rfl : u = Value.bool true := r'
    refine ⟨rfl, OldK.of_keep fun b o e => ?_, os, bare⟩
    cases q : H b with
    | none => exact un.keep b o e q (by intro z; exact absurd (show b ∈ ([] : List Addr) from z) (by simp)) (by simp)
    | some u =>
     rcases hO b with z | ⟨ob, xs, z⟩
     ·rw [q] at z; cases z
     ·have z2 := un.frzs b ob _ z
      obtain ⟨e1, _⟩ := hok b _ z
      obtain ⟨e2, _⟩ := hok' b _ z2
      rw [e] at e1; cases e1
      exact e2
 cases hk : K.lookup a with
 | some o =>
  -- the script is one of the module's own objects
  have e := KX a o hk
  rw [ha] at e
  cases e
  refine core (fun _ => none) (fun _ => .inl rfl) (.inr ⟨_, vs.toArray, _, hk, rfl, rfl, rfl, by rw [List.size_toArray, lenV]; exact hl, by simpa using rv⟩) (fun b u z => by have z' : (none : Option HO) = some u := z; cases z') (fun b z => absurd rfl z) fun z => absurd rfl z
 | none =>
  refine core (fun b => if b = a then some (.frz { cls := .type "list", data := .seq vs.toArray } (.lst (ns.map V.int))) else none) (fun b => ?_) (.inl (.inr ⟨{ cls := .type "list", data := .seq vs.toArray }, if_pos rfl⟩)) (fun b u z => ?_) (fun b z => ?_) fun _ => hk
  ·by_cases hb : b = a
   ·exact .inr ⟨_, _, if_pos hb⟩
   ·exact .inl (if_neg hb)
  ·by_cases hb : b = a
   ·have z' := (if_pos hb).symm.trans z
    cases z'
    subst hb
    exact ⟨ha, by rw [List.length_map]; exact hl, vs, _, rv, ha⟩
   ·have z' := (if_neg hb).symm.trans z
    cases z'
  ·by_cases hb : b = a
   ·exact hb
   ·exact absurd (if_neg hb) z
def inClass (s : Stmt) (j : Nat) : Stmt := match s with
 | .ClassDef _ _ _ body _ _ _ _ _ _ _ => body.getD j (.Pass ⟨0, 0, 0, 0⟩)
 | _ => .Pass ⟨0, 0, 0, 0⟩
def defArgs (s : Stmt) : Arguments := match s with
 | .FunctionDef _ a _ _ _ _ _ _ _ _ => a
 | _ => { posonlyargs := [], args := [], vararg := none, kwonlyargs := [], kw_defaults := [], kwarg := none, defaults := [] }
def defBody (s : Stmt) : List Stmt := match s with
 | .FunctionDef _ _ b _ _ _ _ _ _ _ => b
 | _ => []
def defScope (s : Stmt) : Scope := match s with
 | .FunctionDef _ _ _ _ _ _ sc _ _ _ => sc
 | _ => { kind := .function, names := [], isGenerator := false, isCoroutine := false }
abbrev E0 : XK := fun _ _ _ => False
structure Fun (K : W.Frag) (x qual : Str) (st : Stmt) (f : Addr) (fd : FuncData) : Prop where
 ex : ∃ (oc : Value) (od : Option Addr) (kV doc pm : Value) (an : Option Addr) (cdv ct : Value) (osl : Array (Option Value)),
  fd = W.fnOf x qual (defArgs st) (defBody st) (defScope st) .none kV doc pm an cdv ct ∧ K.lookup f = some ⟨oc, od, .func fd, osl⟩ ∧ W.codeIn K cdv qual = true
 kp : W.keepIn K (.ref f) = true
section
variable {P : Program} {w : World} {K : W.Frag} {mg : Str → Option Value} {base : Heap}
theorem Fun.binds {x qual : Str} {st : Stmt} {f : Addr} {fd : FuncData} {ps : List Str} (F : Fun K x qual st f fd)
  (h : ∀ (kV doc pm : Value) (an : Option Addr) (cdv ct : Value) (us : List Value), us.length = ps.length → bindArgs (W.fnOf x qual (defArgs st) (defBody st) (defScope st) .none kV doc pm an cdv ct) ⟨us, []⟩ = pure (ps.zip us)) : Binds K fd ps [] := by
 obtain ⟨oc, od, kV, doc, pm, an, cdv, ct, osl, rfl, lk, hcd⟩ := F.ex
 exact .all (h kV doc pm an cdv ct)
theorem fun_mk {x qual : Str} {st : Stmt} {f : Addr} {oc : Value} {od an : Option Addr} {osl : Array (Option Value)} {kV doc pm cdv ct : Value} (l : K.lookup f = some ⟨oc, od, .func (W.fnOf x qual (defArgs st) (defBody st) (defScope st) .none kV doc pm an cdv ct), osl⟩)
  (c : W.codeIn K cdv qual = true) (k : W.keepIn K (.ref f) = true) : Fun K x qual st f (W.fnOf x qual (defArgs st) (defBody st) (defScope st) .none kV doc pm an cdv ct) := ⟨⟨oc, od, kV, doc, pm, an, cdv, ct, osl, rfl, l, c⟩, k⟩
end
section
variable {X : Cx}
theorem pv (i : Nat) {x : Str} {pos : Pos} (hN : X.N[i]? = some x := by rfl) (hv : Vis X.env.scope x := by first | exact Or.inl rfl | exact Or.inr (Or.inl rfl) | exact Or.inr (Or.inr rfl)) (hd : (x == ("__debug__" : Str)) = false := by decide)
  (hcd : (x == ("__classdict__" : Str)) = false := by decide) : PE X (.Name x pos) (tVar i) := pe_var hN hv hd hcd
end
def Same (H H' : Hp) : Prop := ∀ b o, H b = some o → H' b = some o
theorem Same.refl (H : Hp) : Same H H := fun _ _ h => h
theorem Same.trans {H H1 H2 : Hp} (a : Same H H1) (b : Same H1 H2) : Same H H2 := fun c o h => b c o (a c o h)
theorem Same.free {H H' : Hp} (e : Same H H') {l : Addr} (h : H' l = Option.none) : H l = Option.none := by
 cases q : H l with
 | none => rfl
 | some o =>
  rw [e l o q] at h
  cases h
end L2
set_option maxHeartbeats 4000000
namespace L2
open PySem PySem.Spec PyProof.Rows
theorem ObjOk.there {P : Program} {w : World} {H : Hp} {h : Heap} {a : Addr} {o : HO} (x : ObjOk P w H h a o) : ∃ ob, h.get? a = some ob := by
 cases o with
 | lst xs => obtain ⟨_, _, _, _, e⟩ := x; exact ⟨_, e⟩
 | tup xs => obtain ⟨_, _, _, p⟩ := x; obtain ⟨o, e, _⟩ := p; exact ⟨_, e⟩
 | dK kvs => obtain ⟨_, _, _, _, o, _, _, e, _⟩ := x; exact ⟨_, e⟩
 | dT kvs => obtain ⟨_, _, _, _, o, _, _, e, _⟩ := x; exact ⟨_, e⟩
 | set S n => obtain ⟨o, _, _, _, e, _⟩ := x; exact ⟨_, e⟩
 | ins C dx fs => obtain ⟨_, _, _, e, _⟩ := x; exact ⟨_, e⟩
 | own y => obtain ⟨_, e⟩ := x; exact ⟨_, e⟩
 | xd fs => obtain ⟨_, ⟨_, _, _, e, _⟩, _⟩ := x; exact ⟨_, e⟩
 | rng lo hi => obtain ⟨_, _, _, e⟩ := x; exact ⟨_, e⟩
 | frz ob u => obtain ⟨e, _⟩ := x; exact ⟨_, e⟩
 | tbl ps => obtain ⟨_, e, _⟩ := x; exact ⟨_, e⟩
 | met f y => exact ⟨_, (show h.get? a = some _ from x)⟩
 | ext φ => obtain ⟨_, ⟨_, e⟩, _⟩ := x; exact ⟨_, e⟩
def Imp (X : Cx) (pins : List (Addr × Obj)) (H : Hp) (b : Addr) : Prop := H b ≠ none ∨ (b ∉ X.ex ∧ ∃ o, X.s₀.heap.get? b = some o) ∨ ∃ p ∈ X.pn ++ pins, p.1 = b
def ctxV : Option Addr → Value
 | none => .none
 | some n => if n % 2 = 0 then .ref (n / 2) else .none
def dicA : Option Addr → Option Addr
 | none => none
 | some n => if n % 2 = 0 then none else some (n / 2)
def TrX (h B : Heap) (e : Addr) (cls : Value) (cx : Option Addr) (fl : Value) : Prop :=
 ∃ oe vs T oT ts, (h.get? e = some oe ∧ oe.cls = cls ∧ oe.data = .fields vs ∧ oe.dict = dicA cx) ∧ (vs[1]? = some (.ref T) ∧ vs[2]? = some (ctxV cx)) ∧ (B.get? T = none ∧ T ≠ e) ∧ h.get? T = some oT ∧ oT.data = .fields ts ∧ ts[3]? = some fl
theorem Obj.dict_mapF (o : Obj) (g : Array Value → Array Value) : (Obj.mapFields g o).dict = o.dict := by
 obtain ⟨a, b, c, d⟩ := o
 cases c <;> rfl
theorem ref_not_none (T : Addr) : (Value.ref T != Value.none) = true := by simp
inductive Ph where | new | fly | any
def XTr (B h : Heap) (a : Addr) (cls : Value) (cx : Option Addr) : Ph → Prop
 | .new => ∃ oe vs, h.get? a = some oe ∧ oe.cls = cls ∧ oe.data = .fields vs ∧ vs[1]? = some .none ∧ vs[2]? = some (ctxV cx) ∧ oe.dict = dicA cx
 | .fly => TrX h B a cls cx .none
 | .any => ∃ fl, TrX h B a cls cx fl
theorem XTr.there {B h : Heap} {a : Addr} {cls : Value} {cx : Option Addr} {ph : Ph} (x : XTr B h a cls cx ph) : ∃ oe vs, h.get? a = some oe ∧ oe.cls = cls ∧ oe.data = .fields vs ∧ vs[2]? = some (ctxV cx) ∧ oe.dict = dicA cx := by
 cases ph with
 | new => obtain ⟨oe, vs, h1, h2, h3, _, h4, h5⟩ := x; exact ⟨oe, vs, h1, h2, h3, h4, h5⟩
 | fly => obtain ⟨oe, vs, _, _, _, ⟨h1, h2, h3, h5⟩, ⟨_, h4⟩, _⟩ := x; exact ⟨oe, vs, h1, h2, h3, h4, h5⟩
 | any => obtain ⟨_, oe, vs, _, _, _, ⟨h1, h2, h3, h5⟩, ⟨_, h4⟩, _⟩ := x; exact ⟨oe, vs, h1, h2, h3, h4, h5⟩
section
variable {M : Model} {A : Around} {E : Value → Shared → Prop} {s : Shared}
def NoteX (B : Heap) (l : List Env) (e : Addr) (cls : Value) (cx : Option Addr) (fl : Value) (h h' : Heap) : Prop := B.StaysIn h' ∧ h'.FunFrames B l ∧ TrX h' B e cls cx fl ∧ h.UpToSlots h'
theorem entry_x {B : Heap} {env : Env} {outer : List Env} {L e : Addr} {oe : Obj} {vs : Array Value} {head : Value} {cx : Option Addr} {nx : Bool} {Q : Unit → Shared → Prop} (fr : A.frames = some (env :: outer)) (ff : s.heap.FunFrames B (env :: outer)) (hf : env.frame = some L)
  (ge : s.heap.get? e = some oe) (st : B.StaysIn s.heap) (be : B.get? e = none) (de : oe.data = .fields vs) (z1 : 1 < vs.size) (z2 : vs[2]? = some (ctxV cx)) (z6 : oe.dict = dicA cx) (q : ∀ h', NoteX B (env :: outer) e oe.cls cx (rawInt L) s.heap h' → Q () { s with heap := h' }) :
  wpAny M A (do let a ← frameOf env; let pl ← entryPlaceOf L nx; let b ← EntryCells.newEntry head a .none (rawInt L) .none pl; setField (.ref e) 1 b) Q E s := by
 have nf : ∀ b o, s.heap.get? b = some o → (∀ ws, o.data ≠ .fields ws) → b ≠ e := fun b o gb nb zb => by subst zb; rw [ge] at gb; cases gb; exact nb vs de
 have out : e ∉ (env :: outer).filterMap (·.frame) := fun m => by obtain ⟨_, o, go, no⟩ := ff.mem m; exact nf e o go no rfl
 refine wpAny_bind (wpAny_frameOf_fun fr ff hf fun h1 only => wpAny_bind (wpAny_entryPlaceOf fun pl place => ?_))
 unfold EntryCells.newEntry newFields
 refine wpAny_bind (wpAny_newObj_type ?_ (place.sizeOk5 _ _ _ _ _))
 have ge1 : h1.get? e = some oe := (only.2.1 e out).trans ge
 have st1 : B.StaysIn h1 := fun b o gb => (only.2.1 b fun m => by have := (ff.mem m).1; rw [this] at gb; cases gb).trans (st b o gb)
 have ne1 : h1.objs.size ≠ e := fun z => absurd (Heap.lt_size ge1) (by rw [z]; exact Nat.lt_irrefl _)
 refine wpAny_setField (Heap.get?_push_of_some _ ge1) de z1 (q _ ?_)
 have far : ∀ {ob : Obj} {g : Obj → Obj} {b : Addr} {o : Obj}, b ≠ e → h1.get? b = some o → ((h1.push ob).update e g).get? b = some o := fun ne gb => (Heap.get?_update_other _ _ (Ne.symm ne)).trans (Heap.get?_push_of_some _ gb)
 refine ⟨fun b o gb => far (fun z => by rw [z, be] at gb; cases gb) (st1 b o gb), ff.of_keeps fun b o gb nb => ?_, ?_, fun b o gb nb => ?_⟩
 ·obtain ⟨sl, g⟩ := only.2.2 b o gb; exact ⟨_, far (nf b o gb nb) g, rfl⟩
 ·have dd := Obj.data_mapFields de (·.setIfInBounds 1 (Value.ref h1.objs.size))
  refine ⟨_, _, h1.objs.size, _, _, ⟨Heap.get?_update_self _ (Heap.get?_push_of_some _ ge1) (Obj.isFreed_of_fields dd), Obj.cls_mapFields _ _, dd, (Obj.dict_mapF _ _).trans z6⟩, ⟨by simp [z1], by rw [Array.getElem?_setIfInBounds_ne (by decide)]; exact z2⟩, ⟨st1.fresh, ne1⟩, (Heap.get?_update_other _ _ (Ne.symm ne1)).trans (Heap.get?_push_size h1 rfl), rfl, ?_⟩
  first | (simp; done) | (rcases place with rfl | ⟨_, _, _, _, _, _, _, rfl⟩ <;> simp)
 ·obtain ⟨sl, g⟩ := only.2.2 b o gb; exact ⟨sl, far (nf b o gb nb) g⟩
theorem note_first {B : Heap} {env : Env} {outer : List Env} {L e : Addr} {oe : Obj} {vs : Array Value} {cx : Option Addr} {Q : Unit → Shared → Prop} (fr : A.frames = some (env :: outer)) (ff : s.heap.FunFrames B (env :: outer)) (hf : env.frame = some L)
  (ge : s.heap.get? e = some oe) (st : B.StaysIn s.heap) (be : B.get? e = none) (de : oe.data = .fields vs) (z1 : vs[1]? = some .none) (z2 : vs[2]? = some (ctxV cx)) (z6 : oe.dict = dicA cx) (q : ∀ h', NoteX B (env :: outer) e oe.cls cx (rawInt L) s.heap h' → Q () { s with heap := h' }) : wpAny M A (noteFrame (.ref e) env) Q E s := by
 unfold noteFrame
 simp only [hf]
 refine wpAny_bind (wpAny_field ge de z1 ?_)
 rw [if_neg (by decide)]
 exact entry_x fr ff hf ge st be de (Array.getElem?_eq_some_iff.mp z1).1 z2 z6 q
theorem note_on {B : Heap} {env : Env} {outer : List Env} {L e : Addr} {cls : Value} {cx : Option Addr} {Q : Unit → Shared → Prop} (fr : A.frames = some (env :: outer)) (ff : s.heap.FunFrames B (env :: outer)) (hf : env.frame = some L)
  {fl : Value} (t : TrX s.heap B e cls cx fl) (nl : ¬ (fl == rawInt L) = true) (st : B.StaysIn s.heap) (be : B.get? e = none) (q : ∀ h', NoteX B (env :: outer) e cls cx (rawInt L) s.heap h' → Q () { s with heap := h' }) : wpAny M A (noteFrame (.ref e) env) Q E s := by
 obtain ⟨oe, vs, T, oT, ts, ⟨ge, rfl, de, z6⟩, ⟨z1, z2⟩, ⟨bT, nT⟩, gT, dT, z3⟩ := t
 unfold noteFrame
 simp only [hf]
 refine wpAny_bind (wpAny_field ge de z1 ?_)
 rw [if_pos (ref_not_none T)]
 refine wpAny_bind (wpAny_field gT dT z3 ?_)
 rw [if_neg nl]
 refine wpAny_bind (wpAny_setField gT dT (Array.getElem?_eq_some_iff.mp z3).1 ?_)
 have far : ∀ {g : Obj → Obj} b, b ≠ T → (s.heap.update T g).get? b = s.heap.get? b := fun b ne => Heap.get?_update_other _ _ (Ne.symm ne)
 have nf : ∀ b o, s.heap.get? b = some o → (∀ ws, o.data ≠ .fields ws) → b ≠ T := fun b o gb nb zb => by subst zb; rw [gT] at gb; cases gb; exact nb ts dT
 refine entry_x fr (ff.of_keeps fun b o gb nb => ⟨o, (far b (nf b o gb nb)).trans gb, rfl⟩) hf ((far e (Ne.symm nT)).trans ge) (fun b o gb => (far b fun z => by rw [z, bT] at gb; cases gb).trans (st b o gb)) be de (Array.getElem?_eq_some_iff.mp z1).1 z2 z6 fun h' x => q h' ⟨x.1, x.2.1, x.2.2.1, fun b o gb nb => ?_⟩
 exact x.2.2.2 b o ((far b (nf b o gb nb)).trans gb) nb
theorem note_again {B : Heap} {env : Env} {L e : Addr} {cls : Value} {cx : Option Addr} {fl : Value} {Q : Unit → Shared → Prop} (hf : env.frame = some L) (t : TrX s.heap B e cls cx fl) (el : (fl == rawInt L) = true) (q : Q () s) : wpAny M A (noteFrame (.ref e) env) Q E s := by
 obtain ⟨oe, vs, T, oT, ts, ⟨ge, rfl, de, z6⟩, ⟨z1, z2⟩, ⟨bT, nT⟩, gT, dT, z3⟩ := t
 unfold noteFrame
 simp only [hf]
 refine wpAny_bind (wpAny_field ge de z1 ?_)
 rw [if_pos (ref_not_none T)]
 refine wpAny_bind (wpAny_field gT dT z3 ?_)
 rw [if_pos el]
 exact wpAny_pure q
theorem flight_x {B : Heap} {l : List Env} {e : Addr} {cls fl : Value} {cx fr : Option Addr} {Q : Unit → Shared → Prop} (st : B.StaysIn s.heap) (ff : s.heap.FunFrames B l) (t : TrX s.heap B e cls cx fl)
  (q : ∀ h', NoteX B l e cls cx (fr.elim Value.none fun f => rawInt f) s.heap h' → Q () { s with heap := h' }) : wpAny M A (setFlight (.ref e) fr) Q E s := by
 obtain ⟨oe, vs, T, oT, ts, ⟨ge, rfl, de, z6⟩, ⟨z1, z2⟩, ⟨bT, nT⟩, gT, dT, z3⟩ := t
 have z4 : 3 < ts.size := (Array.getElem?_eq_some_iff.mp z3).1
 have far : ∀ {g : Obj → Obj} b, b ≠ T → (s.heap.update T g).get? b = s.heap.get? b := fun b ne => Heap.get?_update_other _ _ (Ne.symm ne)
 have nf : ∀ b o, s.heap.get? b = some o → (∀ ws, o.data ≠ .fields ws) → b ≠ T := fun b o gb nb zb => by subst zb; rw [gT] at gb; cases gb; exact nb ts dT
 unfold setFlight
 refine wpAny_bind (wpAny_field ge de z1 ?_)
 rw [if_pos (ref_not_none T)]
 refine wpAny_setField gT dT z4 (q _ ⟨fun b o gb => (far b fun z => by rw [z, bT] at gb; cases gb).trans (st b o gb), ff.of_keeps fun b o gb nb => ⟨o, (far b (nf b o gb nb)).trans gb, rfl⟩, ?_, fun b o gb nb => ⟨o.slots, (far b (nf b o gb nb)).trans gb⟩⟩)
 have dd := Obj.data_mapFields dT (·.setIfInBounds 3 (fr.elim Value.none fun f => rawInt f))
 exact ⟨oe, vs, T, _, _, ⟨(far e (Ne.symm nT)).trans ge, rfl, de, z6⟩, ⟨z1, z2⟩, ⟨bT, nT⟩, Heap.get?_update_self _ gT (Obj.isFreed_of_fields dd), dd, by simp [z4]⟩
end
structure XAt (X : Cx) (pins : List (Addr × Obj)) (H : Hp) (s : Shared) (a : Addr) (cls : Value) (cx : Option Addr) (B : Heap) (ph : Ph) : Prop where
 free : H a = none
 stays : B.StaysIn s.heap
 fresh : B.get? a = none
 frames : s.heap.FunFrames B X.stack
 cov : ∀ b o, s.heap.get? b = some o → Imp X pins H b → b ∉ frs X.stack → B.get? b = some o
 tr : XTr B s.heap a cls cx ph
section
variable {X : Cx} {pins : List (Addr × Obj)} {σ : St} {H : Hp} {s : Shared} {a : Addr} {cls : Value} {cx : Option Addr} {B h' : Heap} {ph : Ph}
theorem Imp.there (I : Inv X pins σ H s) {b : Addr} (i : Imp X pins H b) : ∃ o, s.heap.get? b = some o := by
 rcases i with i | ⟨hx, o, i⟩ | ⟨p, hp, e⟩
 ·cases q : H b with
  | none => exact absurd q i
  | some u => exact (I.hok b u q).there
 ·exact I.base.there b o i hx
 ·exact ⟨p.2, by rw [← e]; exact (I.pin p hp).1⟩
theorem Inv.exc (I : Inv X pins σ H s) (cov : ∀ b o, s.heap.get? b = some o → Imp X pins H b → b ∉ frs X.stack → B.get? b = some o) (st : B.StaysIn h') (ups : s.heap.UpToSlots h') :
  Inv X pins σ H { s with heap := h' } := by
 have fr : ∀ b, b ∈ frs X.stack → ∀ o, s.heap.get? b = some o → ∃ sl, h'.get? b = some { o with slots := sl } := fun b hb o e => by
  obtain ⟨_, o', e', d⟩ := I.stack.mem hb
  rw [e] at e'; cases e'
  exact ups b o e d
 have nfr : ∀ b, b ∉ X.fs → b ≠ X.env.locals → b ∉ frs X.stack := fun b h1 h2 z => (List.mem_cons.mp (I.stkSub b z)).elim h2 h1
 have neL : ∀ b o, X.s₀.heap.get? b = some o → b ≠ X.env.locals := fun b o e => Nat.ne_of_lt (Nat.lt_of_lt_of_le (Heap.lt_size e) I.ok.above)
 have cellK : ∀ c v, s.heap.IsCell c v → h'.IsCell c v := fun c v ⟨o, ho, hd⟩ => by
  obtain ⟨sl, q⟩ := ups c o ho (fun vs z => by rw [hd] at z; cases z)
  exact ⟨_, q, hd⟩
 refine ⟨I.ok, I.os, I.bare, ⟨fun b o e n hb hx => ?_, fun b o e n hb hx => ?_, I.base.free, fun b o e hx => ?_, I.base.tups, I.base.frzs, I.base.tbls⟩, ?_, fun x c e => ?_, I.free, I.freeC, fun p hp => ?_, ?_, I.len⟩
 ·exact st _ _ (cov b o (I.base.keep b o e n hb hx) (.inr (.inl ⟨hx, o, e⟩)) (nfr b hb (neL b o e)))
 ·obtain ⟨sl, e1⟩ := I.base.slot b o e n hb hx
  have hb' : b ∈ frs X.stack := by
   rcases I.ok.stk with q | ⟨q, hf⟩
   ·rw [q]; exact hb
   ·rw [q]; unfold frs; rw [List.filterMap_cons, hf]; exact List.mem_cons_of_mem _ hb
  obtain ⟨sl', e2⟩ := fr b hb' _ e1
  exact ⟨sl', e2⟩
 ·obtain ⟨o', e1⟩ := I.base.there b o e hx
  by_cases hb : b ∈ frs X.stack
  ·obtain ⟨sl, q⟩ := fr b hb _ e1
   exact ⟨_, q⟩
  ·exact ⟨o', st _ _ (cov b o' e1 (.inr (.inl ⟨hx, o, e⟩)) hb)⟩
 ·obtain ⟨m, hn, hl⟩ := I.loc
  refine ⟨m, ups.ns hn, fun i x v e1 e2 e3 => ?_⟩
  obtain ⟨u, r, l⟩ := hl i x v e1 e2 e3
  refine ⟨u, r, ?_⟩
  rcases l with l | ⟨k, c, e, z⟩
  ·exact .inl l
  ·exact .inr ⟨k, c, e, cellK c _ z⟩
 ·obtain ⟨v, z⟩ := I.cell x c e
  exact ⟨v, cellK c v z⟩
 ·obtain ⟨e, n, ne, nf, d⟩ := I.pin p hp
  exact ⟨st _ _ (cov p.1 p.2 e (.inr (.inr ⟨p, hp, rfl⟩)) (nfr p.1 nf ne)), n, ne, nf, d⟩
 ·intro b u e
  refine (I.hok b u e).stay (fun c v hc q => ?_) (fun _ q => q) (fun _ _ q => q) fun _ _ _ q => q
  have hc' : H c ≠ none := by
   rcases hc with z | z
   ·rw [z, e]; exact fun q => nomatch q
   ·rw [z]; exact fun q => nomatch q
  exact st _ _ (cov c v q (.inl hc') fun z => hc' (I.stkFree c z))
theorem XAt.cov' (x : XAt X pins H s a cls cx B ph) (I : Inv X pins σ H s) (st : B.StaysIn h') : ∀ b o, h'.get? b = some o → Imp X pins H b → b ∉ frs X.stack → B.get? b = some o := fun b o e i n => by
 obtain ⟨o1, e1⟩ := i.there I
 have q := x.cov b o1 e1 i n
 have q2 := st _ _ q
 rw [e] at q2; cases q2
 exact q
variable {M : Model} {A : Around} {E : Value → Shared → Prop} {Q : Unit → Shared → Prop}
theorem note_env {e : Value} {env env0 : Env} (h : env0.frame = env.frame) : noteFrame e env = noteFrame e env0 := by
 unfold noteFrame PySem.frameOf
 rw [h]
theorem note_ok {env0 : Env} {out0 : List Env} {F : Addr} (hA : A.frames = some X.stack) (hs : X.stack = env0 :: out0) (h0 : env0.frame = X.env.frame) (hf : X.env.frame = some F) (I : Inv X pins σ H s) (x : XAt X pins H s a cls cx B ph)
  (hQ : ∀ h', Inv X pins σ H { s with heap := h' } → XAt X pins H { s with heap := h' } a cls cx B .any → Q () { s with heap := h' }) : wpAny M A (noteFrame (.ref a) X.env) Q E s := by
 have hfr : A.frames = some (env0 :: out0) := by rw [hA, hs]
 have hl : s.heap.FunFrames B (env0 :: out0) := by rw [← hs]; exact x.frames
 rw [note_env h0]
 have hf : env0.frame = some F := h0.trans hf
 have fin : ∀ {fl : Value} h', NoteX B (env0 :: out0) a cls cx fl s.heap h' → Q () { s with heap := h' } := fun h' ⟨k1, k2, k3, k4⟩ =>
  hQ h' (I.exc x.cov k1 k4) ⟨x.free, k1, x.fresh, by rw [hs]; exact k2, x.cov' I k1, _, k3⟩
 have on : ∀ fl, TrX s.heap B a cls cx fl → wpAny M A (noteFrame (.ref a) env0) Q E s := fun fl t => by
  by_cases z : (fl == rawInt F) = true
  ·exact note_again hf t z (hQ s.heap I ⟨x.free, x.stays, x.fresh, x.frames, x.cov, fl, t⟩)
  ·exact note_on hfr hl hf t z x.stays x.fresh fin
 cases ph with
 | new =>
  obtain ⟨oe, vs, he, hc, hd, h1, h2, h6⟩ := x.tr
  refine note_first hfr hl hf he x.stays x.fresh hd h1 h2 h6 fun h' hN => ?_
  rw [hc] at hN
  exact fin h' hN
 | fly => exact on _ x.tr
 | any => obtain ⟨fl, t⟩ := x.tr; exact on fl t
theorem land_ok (I : Inv X pins σ H s) (x : XAt X pins H s a cls cx B ph) (hn : ph ≠ .new)
  (hQ : ∀ h', Inv X pins σ H { s with heap := h' } → XAt X pins H { s with heap := h' } a cls cx B .fly → Q () { s with heap := h' }) : wpAny M A (setFlight (.ref a) none) Q E s := by
 have go : ∀ fl, TrX s.heap B a cls cx fl → wpAny M A (setFlight (.ref a) none) Q E s := fun fl ht =>
  flight_x x.stays x.frames ht fun h' ⟨k1, k2, k3, k4⟩ => hQ h' (I.exc x.cov k1 k4) ⟨x.free, k1, x.fresh, k2, x.cov' I k1, k3⟩
 cases ph with
 | new => exact absurd rfl hn
 | fly => exact go _ x.tr
 | any => obtain ⟨fl, t⟩ := x.tr; exact go fl t
end
def CXe (P : Program) (w : World) : CXT := fun outer H s E e s' =>
 ∃ (a : Addr) (cls : Value) (cx : Option Addr) (H' : Hp) (B : Heap), e = .ref a ∧ s'.os = s.os ∧ AllBare s'.gens ∧ Un (frs outer) [] H H' s.heap s'.heap ∧ HOk P w H' s'.heap ∧ B.StaysIn s'.heap ∧ B.get? a = none ∧ s'.heap.FunFrames B outer ∧
  TrX s'.heap B a cls cx .none ∧ H' a = none ∧ (∀ b o, s'.heap.get? b = some o → (H' b ≠ none ∨ ∃ o', s.heap.get? b = some o') → b ∉ frs outer → B.get? b = some o) ∧ E cls cx H'
def XAcc (X : Cx) (E : XK) : Prop := ∀ (pins : List (Addr × Obj)) (σ : St) (H : Hp) (s : Shared) (a : Addr) (cls : Value) (cx : Option Addr) (B : Heap) (ph : Ph), Inv X pins σ H s → XAt X pins H s a cls cx B ph → E cls cx H → X.xe (.ref a) s
theorem acc_def {P : Program} {w : World} {K : W.Frag} {mg : Str → Option Value} {base : Heap} {N : List Str} {qual : Str} {scope : Scope} {f : Addr} {cd : Value} {A : Around} {outer : List Env} {s : Shared} {H : Hp} {E : XK} :
  XAcc (cxOf (CXe P w) P w K mg base N qual scope f cd A outer s H E) E := by
 intro pins σ H1 s1 a cls cx B ph I x e
 show wpAny (model P w) (A.deeper (envOfC qual scope s.heap.objs.size f cd)) (leaving (envOfC qual scope s.heap.objs.size f cd) (.ref a)) _ _ s1
 unfold leaving
 refine wpAny_bind (note_ok (X := cxOf (CXe P w) P w K mg base N qual scope f cd A outer s H E) I.ok.frames rfl rfl rfl I x fun h1 I1 x1 => ?_)
 refine land_ok I1 x1 (fun z => nomatch z) fun h2 I2 x2 => ?_
 refine ⟨a, cls, cx, H1, B, rfl, I2.os, I2.bare, I2.base, I2.hok, x2.stays, x2.fresh, x2.frames.2.2, x2.tr, x2.free, fun b o e1 i n => ?_, e⟩
 have nl : b ≠ (envOfC qual scope s.heap.objs.size f cd).locals := fun z => by
  rcases i with i | ⟨o', i⟩
  ·exact i (by rw [z]; exact I2.free)
  ·have := Heap.lt_size i
   rw [z] at this
   exact absurd this (Nat.lt_irrefl _)
 refine x2.cov b o e1 (i.elim .inl fun z => .inr (.inl ⟨List.not_mem_nil, z⟩)) fun z => ?_
 rcases List.mem_cons.mp (I2.stkSub b z) with q | q
 ·exact nl q
 ·exact n q
theorem XAcc.passes {X : Cx} {E : XK} (acc : XAcc X E) : Passes (CXe X.prog X.w) X E := by
 intro pins σ H s e s' I h
 obtain ⟨a, cls, cx, H', B, rfl, os, bare, un, hok, st, fr, ff, tr, free, cov, hE⟩ := h
 have I' : Inv X pins σ H' s' := I.call' (ch := []) os un hok bare (fun b z => absurd z (by simp))
 refine acc pins σ H' s' a cls cx B .fly I' ⟨free, st, fr, ff, fun b o e i n => cov b o e ?_ n, tr⟩ hE
 rcases i with i | ⟨hx, o', i⟩ | ⟨p, hp, q⟩
 ·exact .inl i
 ·exact .inr (I.base.there b o' i hx)
 ·exact .inr ⟨p.2, by rw [← q]; exact (I.pin p hp).1⟩
end L2
namespace PySem.W
open PySem PySem.Spec PySem.Calls PyProof.Rows
structure ExcT (K : Frag) (C : Addr) : Prop where
 ga : findIn K (.ref C) "__getattribute__" = some (some (.builtin "BaseException.__getattribute__"))
 gt : findIn K (.ref C) "__getattr__" = some none
 cl : findIn K (.ref C) "__class__" = some (some (.builtin "object.__class__"))
 mo : mroIn K C (.type "object") = some true
 sb : subIn K (.ref C) (.type "BaseException") = some true
section
variable {prog : Program} {w : World} {A : Around} {E : Value → Shared → Prop} {h : Heap} {g : Array GenState} {d : Drawn} {t : Nat} {os : OsState} {K : Frag} {x C : Addr} {o : Obj} {R : Result → Shared → Prop}
theorem exc_class_get {tp : Value} (X : K.In h) (hx : h.get? x = some o) (hc : o.cls = .ref C) (hm : mroIn K C (.type "object") = some true)
  (q : R (.ok (.ret (.ref C))) ⟨h, g, d, t, os⟩) : codeAny (model prog w) A (.call (.builtin "getset_descriptor.__get__") ⟨[.builtin "object.__class__", .ref x, tp], []⟩) R ⟨h, g, d, t, os⟩ := by
 have L0 : Looks (model prog w) h (typeOf (.ref x)) (.ref C) := hc ▸ (Looks.ld hx).andThen .now
 have L1 := looks_mroIn (M := model prog w) X hm
 refine codeAny_call_builtin KF.slot_gs.plain KF.entry_gs (KF.slot_gs.check _ _ _ _ _ _ _ _ KF.type_class (KF.args_gs _ _ _) ?_)
 unfold Builtin.«getset_descriptor.__get__» Builtin.Getset_descriptor.descrGet
 rw [dga_obj]
 refine wpAny_bind (wpAny_pure ?_)
 unfold Builtin.Getset_descriptor.descrGetter Builtin.Getset_descriptor.descrCheckInstance Builtin.Getset_descriptor.descrNameAndClass isInstance
 simp only [KF.owner_class]
 repeat lk
 refine ⟨Code.quiet_builtin _ (by decide +kernel), codeAny_builtin KF.entry_class ?_⟩
 unfold Builtin.«object.__class__» shownTypeOf
 repeat lk
 exact q
theorem exc_class_entry {tk : Tok} {Q : Fin → Shared → Prop} (X : K.In h) (T : ExcT K C) (hx : h.get? x = some o) (hc : o.cls = .ref C) (q : Q (.done (.ret (.ref C))) ⟨h, g, d, t, os⟩) :
  wpAny (model prog w) A (Builtin.«object.__getattribute__» ⟨[.ref x, .str "__class__" tk], []⟩) Q E ⟨h, g, d, t, os⟩ := by
 have L0 : Looks (model prog w) h (typeOf (.ref x)) (.ref C) := hc ▸ (Looks.ld hx).andThen .now
 have L1 := looks_findIn (M := model prog w) X T.cl
 have hT5 : (⟨h, g, d, t, os⟩ : Shared).TypeIs (.builtin "object.__class__") "getset_descriptor" := F.typeOf_object_class
 have f5 := F.typeOf_object_class
 have f6 := F.slot_gs_get.lookup
 have f7 := F.slot_gs_set.lookup
 repeat (any_goals (first | assumption | (with_reducible refine L0.at ?_) | (with_reducible refine wpAny_bind (L0.at ?_)) | (with_reducible refine L1.at ?_) | (with_reducible refine wpAny_bind (L1.at ?_)) | wp_step))
 refine exc_class_get X hx hc T.mo ?_
 repeat (any_goals (first | assumption | wp_step))
theorem exc_check_ga {M : Model} {nameV : Value} {Q : Unit → Shared → Prop} (X : K.In h) (T : ExcT K C) (hx : h.get? x = some o) (hc : o.cls = .ref C) (hq : Q () ⟨h, g, d, t, os⟩) : wpAny M A (checkBuiltinCall "BaseException.__getattribute__" ⟨[.ref x, nameV], []⟩) Q E ⟨h, g, d, t, os⟩ := by
 have hk : builtinKind "BaseException.__getattribute__" = some .slot := by decide +kernel
 have hsplit : splitId "BaseException.__getattribute__" = some ("BaseException", "__getattribute__") := by decide +kernel
 have L0 : Looks M h (typeOf (.ref x)) (.ref C) := hc ▸ (Looks.ld hx).andThen .now
 have L1 := looks_subIn (M := M) X T.sb
 have L2 : Looks M h (isInstance (.ref x) (.type "BaseException")) true := L0.andThen L1
 have ha := F.args_bexc_ga (.ref x) nameV
 simp only [checkBuiltinCall, hk, hsplit]
 refine wpAny_bind (L2.at ?_)
 repeat (first | assumption | wp_step)
theorem exc_class_by {tk : Tok} {Q : Value → Shared → Prop} (X : K.In h) (T : ExcT K C) (hx : h.get? x = some o) (hc : o.cls = .ref C) (hq : Q (.ref C) ⟨h, g, d, t, os⟩) : wpAny (model prog w) A (getAttrBy (.ref x) (.str "__class__" tk) false) Q E ⟨h, g, d, t, os⟩ := by
 have L0 : Looks (model prog w) h (typeOf (.ref x)) (.ref C) := hc ▸ (Looks.ld hx).andThen .now
 have L1 := looks_findIn (M := model prog w) X T.ga
 have L2 := looks_findIn (M := model prog w) X T.gt
 have f3 := F.attr_ValueError.ga.bind (.ref x)
 have hx2 : (Value.builtin "BaseException.__getattribute__" == Value.builtin "object.__getattribute__") = false := by decide +kernel
 have hx1 : (onTheHeap (Value.ref C) && Value.builtin "BaseException.__getattribute__" == Value.builtin "object.__getattribute__") = false := by rw [hx2]; rfl
 repeat (any_goals (first | assumption | (with_reducible refine L0.at ?_) | (with_reducible refine wpAny_bind (L0.at ?_)) | (with_reducible refine L1.at ?_) | (with_reducible refine wpAny_bind (L1.at ?_)) | (with_reducible refine L2.at ?_) | (with_reducible refine wpAny_bind (L2.at ?_)) | wp_step))
 refine codeAny_call_builtin F.attr_ValueError.ga.plain F.entry_bexc_ga (exc_check_ga X T hx hc (exc_class_entry X T hx hc ?_))
 repeat (any_goals (first | assumption | wp_step))
theorem exc_class_attr {Q : Option Value → Shared → Prop} (X : K.In h) (T : ExcT K C) (hx : h.get? x = some o) (hc : o.cls = .ref C) (hq : Q (some (.ref C)) ⟨h, g, d, t + 1, os⟩) : wpAny (model prog w) A (getAttr? (.ref x) "__class__") Q E ⟨h, g, d, t, os⟩ := by
 unfold getAttr? getAttrBy?
 repeat (any_goals (first | assumption | with_reducible apply exc_class_by X T hx hc | wp_step))
end
def ExcAtC (x C : Addr) (h : Heap) : Prop := ∃ o vs, h.get? x = some o ∧ o.cls = .ref C ∧ o.data = .fields vs
theorem kitx_exc {K : Frag} {x C : Addr} (T : ExcT K C) : KitX K (.ref x) (.ref C) (ExcAtC x C) where
 ty := fun _ _ _ ⟨_, _, hx, hc, _⟩ => hc ▸ (Looks.ld hx).andThen .now
 it := fun M h X _ => by
  have hm := T.mo
  unfold mroIn at hm
  obtain ⟨cd, hcd⟩ : ∃ cd, clsIn K C = some cd := by
   cases q : clsIn K C with
   | none => rw [q] at hm; cases hm
   | some cd => exact ⟨cd, rfl⟩
  unfold clsIn at hcd
  split at hcd
  ·rename_i c' d' cd' sl' ho
   intro A' Q' E' s' k q
   unfold isType loadHead
   exact wpAny_bind (wpAny_loadPart (k _ _ (X _ _ ho)) (wpAny_pure q))
  ·cases hcd
 ne := fun h tp dd its n sl X htp => by
  have hm := T.mo
  unfold mroIn at hm
  obtain ⟨cd, hcd⟩ : ∃ cd, clsIn K C = some cd := by
   cases q : clsIn K C with
   | none => rw [q] at hm; cases hm
   | some cd => exact ⟨cd, rfl⟩
  refine Bool.eq_false_iff.mpr fun q => ?_
  have e : C = tp := Value.ref.inj (beq_iff_eq.mp q)
  subst e
  unfold clsIn at hcd
  split at hcd
  ·rename_i c' d' cd' sl' ho
   have z := (X _ _ ho).symm.trans htp
   cases z
  ·cases hcd
 ca := fun {_ _ _ _ _ s} X ⟨_, _, hx, hc, _⟩ k => by
  obtain ⟨h, g, d, t, os⟩ := s
  exact exc_class_attr X T hx hc k
end PySem.W
namespace L2
open PySem PySem.Spec PyProof.Rows
abbrev TJ := St → Hp → Str → (Str → Hp → Prop) → Prop
def PJ (X : Cx) (es : List Expr) (t : TJ) : Prop :=
 ∀ (pins : List (Addr × Obj)) (s : Shared) (σ : St) (H : Hp) (acc : Str) (Q : VK), Inv X pins σ H s → t σ H acc (fun y H1 => Q (.str y) H1) → wpAny (model X.prog X.w) X.A (joinParts acc (evalEach es X.env)) (EP X pins σ Q) X.xe s
def tJNil : TJ := fun _ H acc Q => acc.length ≤ sizeLine ∧ Q acc H
def tJCons (te : TE) (tr : TJ) : TJ := fun σ H acc Q => te σ H fun x H1 => ∃ y, x = .str y ∧ (acc ++ y).length ≤ sizeLine ∧ tr σ H1 (acc ++ y) Q
section
variable {X : Cx} {e : Expr} {es : List Expr} {te : TE} {t : TJ} {pos : Pos}
theorem pj_nil : PJ X [] tJNil := fun pins s σ H acc Q I h => joinParts_nil ⟨.str acc, H, I.tok _, ⟨_, rfl⟩, h.2⟩ h.1
theorem pj_cons (he : PE X e te) (hr : PJ X es t) : PJ X (e :: es) (tJCons te t) := by
 intro pins s σ H acc Q I h
 refine joinParts_cons (thn (he pins s σ H _ I h) fun v s1 ⟨x, H1, I1, r1, q1⟩ => ?_)
 obtain ⟨y, rfl, z, q⟩ := q1
 obtain ⟨tk, rfl⟩ := r1
 exact ⟨z, hr pins s1 σ H1 _ Q I1 q⟩
def tJoin (t : TJ) : TE := fun σ H Q => t σ H Str.empty fun y H1 => Q (.str y) H1
theorem pe_joined {e2 : Expr} (h : PJ X (e :: e2 :: es) t) : PE X (.JoinedStr (e :: e2 :: es) pos) (tJoin t) := fun pins s σ H Q I hq => JoinedStr_many (h pins s σ H Str.empty Q I hq)
def tFmt (te : TE) : TE := fun σ H Q => te σ H fun x H1 => (∃ i : Int, x = .int i ∧ i.natAbs.log2 < 1920 ∧ Q (.str (toString i)) H1) ∨ ∃ y, x = .str y ∧ y.length ≤ sizeLine ∧ Q (.str y) H1
theorem pe_fmt (he : PE X e te) : PE X (.FormattedValue e (-1) none pos) (tFmt te) := by
 intro pins s σ H Q I h
 refine FormattedValue_plain (thn (he pins s σ H _ I h) fun v s1 ⟨x, H1, I1, r1, q1⟩ => ?_)
 rcases q1 with ⟨i, rfl, z, q⟩ | ⟨y, rfl, z, q⟩
 ·obtain ⟨tk, rfl⟩ := r1
  exact formatField_int_small z ⟨.str (toString i), H1, I1.tok _, ⟨_, rfl⟩, q⟩
 ·obtain ⟨tk, rfl⟩ := r1
  exact formatField_str (fun t' tk => ⟨.str y, H1, I1.tok _, ⟨_, rfl⟩, q⟩) z
end
def vErr : List Value := [.type "ValueError", .type "Exception", .type "BaseException", .type "object"]
theorem exc_obj {K : W.Frag} {h₀ : Heap} {C : Addr} (KX : K.In h₀) (q : W.excIn K C vErr "ValueError.__new__" = true) :
  ∃ bm N nm q bs hdct sn sub ab col dd k0 k1 k2 k3 k5 mN, h₀.get? C = some (excClassObj nm q C N bs bm hdct sn sub ab col dd k0 k1 k2 k3 k5 "ValueError.__new__") ∧ h₀.Ns N mN ∧ mN "__init__" = none ∧ OwnTail h₀ vErr bm := by
 unfold W.excIn at q
 split at q
 ·rename_i dd cd sl ho
  split at q
  ·rename_i C' bm k0 k1 k2 k3 n k5 hm hs
   simp only [Bool.and_eq_true, beq_iff_eq, Bool.not_eq_true'] at q
   obtain ⟨⟨⟨⟨⟨rfl, rfl⟩, hdel⟩, ht⟩, hok⟩, hni⟩ := q
   obtain ⟨nm, bs, mro, ns, qn, hd, sn, sub, ab, col, del⟩ := cd
   dsimp only at hm hdel hok hni
   subst hm hdel
   have hsl : sl = #[k0, k1, k2, k3, some (.builtin "ValueError.__new__"), k5] := by
    obtain ⟨l⟩ := sl
    simp only at hs
    rw [hs]
   subst hsl
   exact ⟨bm, ns, nm, qn, bs, hd, sn, sub, ab, col, dd, k0, k1, k2, k3, k5, _, KX _ _ ho, .of_isNs (W.isNs_of_in KX hok), W.nsMap_none_of_in KX hok hni, W.tail_of_in KX ht⟩
  ·cases q
 ·cases q
section
variable {X : Cx} {E : XK}
theorem XAt.first {pins : List (Addr × Obj)} {σ : St} {H : Hp} {s : Shared} {h' : Heap} {a : Addr} {cls : Value} {cx : Option Addr} {oe : Obj} {vs : Array Value} (I : Inv X pins σ H s) (k : ∀ b o, s.heap.get? b = some o → h'.get? b = some o)
  (n : s.heap.get? a = none) (g : h'.get? a = some oe) (hc : oe.cls = cls) (hd : oe.data = .fields vs) (z1 : vs[1]? = some .none) (z2 : vs[2]? = some (ctxV cx)) (z6 : oe.dict = dicA cx) :
  Inv X pins σ H { s with heap := h' } ∧ XAt X pins H { s with heap := h' } a cls cx (W.hideAll s.heap (frs X.stack)) .new := by
 have I' : Inv X pins σ H { s with heap := h' } := I.kept (t' := s.toks) k
 have fr : H a = none := by
  cases q : H a with
  | none => rfl
  | some u => obtain ⟨o, e⟩ := (I.hok a u q).there; rw [n] at e; cases e
 refine ⟨I', fr, fun b o e => k b o (W.of_hideAll _ e), ?_, (W.funFrames_hide I.stack fun env he b hb => List.mem_filterMap.mpr ⟨env, he, hb⟩).of_keeps fun b o e _ => ⟨o, k b o e, rfl⟩, fun b o e i n => ?_, ⟨oe, vs, g, hc, hd, z1, z2, z6⟩⟩
 ·cases q : (W.hideAll s.heap (frs X.stack)).get? a with
  | none => rfl
  | some o => have := W.of_hideAll _ q; rw [n] at this; cases this
 ·obtain ⟨o1, e1⟩ := i.there I
  have e2 := k _ _ e1
  rw [e] at e2; cases e2
  exact W.hideAll_get _ e1 n
theorem XAt.made {pins : List (Addr × Obj)} {σ : St} {H : Hp} {s : Shared} {h' : Heap} {a : Addr} {cls : Value} {vs : List Value} (I : Inv X pins σ H s) (m : Heap.MadeExcOf s.heap h' a cls vs) :
  Inv X pins σ H { s with heap := h' } ∧ XAt X pins H { s with heap := h' } a cls none (W.hideAll s.heap (frs X.stack)) .new := by
 obtain ⟨t, he, _, _⟩ := m.there
 exact XAt.first I m.keeps m.new he rfl rfl rfl rfl rfl
def tRaise (C : Addr) (E : XK) (ta : TA) : TS := fun _ σ H => ta σ H fun vs H1 => vs.length ≤ sizeLine ∧ E (.ref C) none H1
theorem ps_raise {x : Str} {C : Addr} {e₀ : Expr} {rest : List Expr} {np cpos pos : Pos} {ta : TA} (acc : XAcc X E) (q : W.excIn X.K C vErr "ValueError.__new__" = true) (hg : Gl X x) (hm : X.mg x = some (.ref C)) (ha : PA X (e₀ :: rest) ta)
  (hc : X.calm = true := by rfl) (hex : X.ex = [] := by rfl)
  (he : starEach (e₀ :: rest) X.env = (false, eval e₀ X.env) :: starEach rest X.env := by rfl) (hplain : (backTo cpos (starEach rest X.env)).any (·.1) = false := by rfl) (hd : (x == ("__debug__" : Str)) = false := by decide) :
  PS X (.Raise (some (.Call (.Name x np) (e₀ :: rest) [] cpos)) none pos) (tRaise C E ta) := by
 intro pins s σ H D I h
 obtain ⟨tl, N, nm, qn, bs, hdct, sn, sub, ab, col, dd, k0, k1, k2, k3, k5, mN, hC, hN, hni, T⟩ := exc_obj I.mod.kin q
 have hp := ha cpos pins s σ H _ I h
 rw [he] at hp
 refine wpAny_Raise_call_subT (C := C) (nm := nm) (q := qn) (N := N) (bs := bs) (bm := tl) (hdct := hdct) (sn := sn) (sub := sub) (ab := ab) (col := col) (dd := dd) (k0 := k0) (k1 := k1) (k2 := k2) (k3 := k3) (k5 := k5)
  PySem.F.excBase_ValueError (mN := mN) (T.hasType PySem.F.excBase_ValueError.hasBase) (I.ok.hd hc) (by rw [he]; show (false || (backTo cpos (starEach rest X.env)).any (·.1)) = false; rw [hplain]; rfl) hni (ld_glob I hg hm ⟨rfl, ?_⟩ hd)
 rw [he]
 refine Calls.evalArgs_plain (thn hp fun us s2 ⟨vs, H2, I2, rv, z, hE⟩ => ⟨rfl, by rw [← rv.length]; exact z, I2.bk _ _ hC, hN.keeps I2.bk, T.keeps I2.bk, fun h' e m => ?_⟩)
 obtain ⟨I3, x3⟩ := XAt.made I2 m
 exact acc pins σ H2 _ e _ none _ .new I3 x3 hE
end
def ExcO (a : Addr) (cls : Value) (cx : Option Addr) : HO := .ext fun h => ∃ o vs, h.get? a = some o ∧ o.cls = cls ∧ o.data = .fields vs ∧ vs[2]? = some (ctxV cx) ∧ o.dict = dicA cx
section
variable {X : Cx} {pins : List (Addr × Obj)} {σ : St} {H : Hp} {s : Shared} {a : Addr} {cls : Value} {cx : Option Addr} {B : Heap} {ph : Ph}
theorem XAt.nofr (x : XAt X pins H s a cls cx B ph) : a ∉ frs X.stack := fun z => by
 obtain ⟨oe, vs, e, _, d, _⟩ := x.tr.there
 obtain ⟨_, o, e', d'⟩ := x.frames.mem z
 rw [e] at e'; cases e'
 exact d' vs d
theorem XAt.noimp (x : XAt X pins H s a cls cx B ph) : ¬ Imp X pins H a := fun i => by
 obtain ⟨oe, vs, e, _, d, _⟩ := x.tr.there
 have := x.cov a oe e i x.nofr
 rw [x.fresh] at this; cases this
theorem Inv.track (I : Inv X pins σ H s) (x : XAt X pins H s a cls cx B ph) : Inv X pins σ (upd H a (ExcO a cls cx)) s := by
 obtain ⟨oe, vs, e, hc, d, d2⟩ := x.tr.there
 have ni := x.noimp
 refine ⟨I.ok, I.os, I.bare, ⟨I.base.keep, I.base.slot, fun b o e1 n hx => ?_, I.base.there, fun b xs q => ?_, fun b o u q => ?_, fun b ps q => ?_⟩, I.loc, I.cell, ?_, fun y c q => ?_, fun p hp => ?_, fun b u q => ?_, I.len⟩
 ·rw [upd_ne (fun z => ni (.inr (.inl ⟨by rw [← z]; exact hx, o, by rw [← z]; exact e1⟩)))]
  exact I.base.free b o e1 n hx
 ·have q1 := I.base.tups b xs q
  rw [upd_ne (ne_of_none q1 x.free)]; exact q1
 ·have q1 := I.base.frzs b o u q
  rw [upd_ne (ne_of_none q1 x.free)]; exact q1
 ·obtain ⟨more, q1⟩ := I.base.tbls b ps q
  exact ⟨more, by rw [upd_ne (ne_of_none q1 x.free)]; exact q1⟩
 ·rw [upd_ne fun z => ?_]
  ·exact I.free
  ·obtain ⟨m, ⟨o, es, ep, ho, hd, _⟩, _⟩ := I.loc
   rw [z, e] at ho; cases ho
   rw [d] at hd; cases hd
 ·rw [upd_ne fun z => ?_]
  ·exact I.freeC y c q
  ·obtain ⟨v, o, ho, hd⟩ := I.cell y c q
   rw [z, e] at ho; cases ho
   rw [d] at hd; cases hd
 ·obtain ⟨h1, h2, h3, h4, h5⟩ := I.pin p hp
  exact ⟨h1, by rw [upd_ne (fun z => ni (.inr (.inr ⟨p, hp, z⟩)))]; exact h2, h3, h4, h5⟩
 ·by_cases hb : b = a
  ·subst hb
   rw [upd_same] at q; cases q
   exact ⟨⟨oe, vs, e, hc, d, d2⟩, ⟨oe, e⟩, fun h1 h2 ⟨o, ws, z1, z2, z3⟩ k => ⟨o, ws, k o z1, z2, z3⟩⟩
  ·rw [upd_ne hb] at q
   refine (I.hok b u q).stay (fun _ _ _ z => z) (fun c z => ?_) (fun c xs z => ?_) fun c ob u z => ?_
   ·rw [upd_ne (ne_of_none z x.free)]; exact z
   ·rw [upd_ne (ne_of_none z x.free)]; exact z
   ·rw [upd_ne (ne_of_none z x.free)]; exact z
end
abbrev Cx.tryCx (X : Cx) (E2 : Value → Shared → Prop) (pins : List (Addr × Obj)) : Cx := { X with xe := E2, pn := X.pn ++ pins }
abbrev Cx.inExc (X : Cx) (a : Addr) : Cx := { X with A := X.A.mark (some (.ref a)), calm := false }
def blank (n : Nat) : St := List.replicate n none
section
variable {X : Cx} {pins : List (Addr × Obj)} {σ : St} {H : Hp} {s : Shared} {a : Addr} {E2 : Value → Shared → Prop}
theorem Cx.Ok.tryCx (ok : X.Ok) : (X.tryCx E2 pins).Ok := ⟨ok.mod, ok.kind, ok.glob, ok.blt, ok.above, ok.inj, ok.has, ok.cab, ok.hd, ok.frames, ok.stk, ok.exf, ok.bs, ok.bsz, ok.noex, ok.exfs, ok.funs, ok.frf⟩
theorem Cx.Ok.inExc (ok : X.Ok) : (X.inExc a).Ok := ⟨ok.mod, ok.kind, ok.glob, ok.blt, ok.above, ok.inj, ok.has, ok.cab, (fun z => nomatch z), ok.frames, ok.stk, ok.exf, ok.bs, ok.bsz, ok.noex, ok.exfs, ok.funs, ok.frf⟩
theorem Inv.toTry (I : Inv X pins σ H s) : Inv (X.tryCx E2 pins) [] σ H s :=
 ⟨I.ok.tryCx, I.os, I.bare, I.base, I.loc, I.cell, I.free, I.freeC, fun p hp => I.pin p (by rw [List.append_nil] at hp; exact hp), I.hok, I.len⟩
theorem Inv.ofTry {pins' : List (Addr × Obj)} (ok : X.Ok) (I : Inv (X.tryCx E2 pins) pins' σ H s) : Inv X pins σ H s :=
 ⟨ok, I.os, I.bare, I.base, I.loc, I.cell, I.free, I.freeC, fun p hp => I.pin p (List.mem_append_left _ hp), I.hok, I.len⟩
theorem Inv.toExc (I : Inv X pins σ H s) : Inv (X.inExc a) pins σ H s :=
 ⟨I.ok.inExc, I.os, I.bare, I.base, I.loc, I.cell, I.free, I.freeC, I.pin, I.hok, I.len⟩
theorem Inv.ofExc (ok : X.Ok) (I : Inv (X.inExc a) pins σ H s) : Inv X pins σ H s :=
 ⟨ok, I.os, I.bare, I.base, I.loc, I.cell, I.free, I.freeC, I.pin, I.hok, I.len⟩
theorem Inv.forget (I : Inv X pins σ H s) : Inv X pins (blank X.N.length) H s := I.weak (by unfold blank; rw [List.length_replicate, I.len]) fun i v q => by
 unfold blank at q
 rw [List.getElem?_replicate] at q
 split at q <;> cases q
theorem SP.ofTry {pins' : List (Addr × Obj)} {D : Ends} {f : Flow} {s' : Shared} (ok : X.Ok) (h : SP (X.tryCx E2 pins) pins' D f s') : SP X pins D f s' := by
 cases f with
 | next => obtain ⟨σ', H', I, q⟩ := h; exact ⟨σ', H', I.ofTry ok, q⟩
 | brk => obtain ⟨σ', H', I, q⟩ := h; exact ⟨σ', H', I.ofTry ok, q⟩
 | cont => obtain ⟨σ', H', I, q⟩ := h; exact ⟨σ', H', I.ofTry ok, q⟩
 | ret u => obtain ⟨v, σ', H', I, r, q⟩ := h; exact ⟨v, σ', H', I.ofTry ok, r, q⟩
theorem SP.ofExc {D : Ends} {f : Flow} {s' : Shared} (ok : X.Ok) (h : SP (X.inExc a) pins D f s') : SP X pins D f s' := by
 cases f with
 | next => obtain ⟨σ', H', I, q⟩ := h; exact ⟨σ', H', I.ofExc ok, q⟩
 | brk => obtain ⟨σ', H', I, q⟩ := h; exact ⟨σ', H', I.ofExc ok, q⟩
 | cont => obtain ⟨σ', H', I, q⟩ := h; exact ⟨σ', H', I.ofExc ok, q⟩
 | ret u => obtain ⟨v, σ', H', I, r, q⟩ := h; exact ⟨v, σ', H', I.ofExc ok, r, q⟩
theorem XAcc.inExc {E : XK} {a : Addr} (acc : XAcc X E) (ok : X.Ok) : XAcc (X.inExc a) E := fun pins σ H s b cls cx B ph I x e => acc pins σ H s b cls cx B ph (I.ofExc ok) ⟨x.free, x.stays, x.fresh, x.frames, x.cov, x.tr⟩ e
end
section
variable {M : Model} {A : Around} {E : Value → Shared → Prop} {env : Env}
variable {nm q : Str} {C N : Addr} {bs bm : List Value} {hdct : Bool} {sn : List Str} {sub : List Value} {ab : Bool} {col : Option Bool} {dd : Option Addr} {k0 k1 k2 k3 k5 : Option Value} {newId : String}
theorem raise_from {s : Shared} {x c : Sem Value} {a : Addr} {Q : Flow → Shared → Prop} (hbase : bm.contains (.type "BaseException") = true) (hh : A.handled = some (.ref a)) (hc : ∀ (R : Value → Shared → Prop) (s : Shared), R .none s → wpAny M A c R E s)
  (hu : ∀ (s : Shared) (e : Addr) (oa : Obj) (va : Array Value) (R : Value → Shared → Prop), s.heap.get? a = some oa → oa.data = .fields va → va[2]? = some .none → R .none s → wpAny M A (runValue (.builtin "proto.unchain" ⟨[.ref e, .ref a, .ref a, .bool false], []⟩)) R E s)
  (h : wpAny M A x (fun v s1 => ∃ e t oa va, v = .ref e ∧ e ≠ a ∧ s1.heap.get? C = some (excClassObj nm q C N bs bm hdct sn sub ab col dd k0 k1 k2 k3 k5 newId) ∧ s1.heap.get? e = some { cls := .ref C, data := .fields #[.ref t, .none, .none, .none, .bool false, .none] } ∧
   s1.heap.get? a = some oa ∧ oa.data = .fields va ∧ va[2]? = some .none ∧ ∀ h', (∀ b, b ≠ e → h'.get? b = s1.heap.get? b) → h'.get? e = some { cls := .ref C, data := .fields #[.ref t, .none, .ref a, .none, .bool true, .none] } → E (.ref e) { s1 with heap := h' }) E s) :
  wpAny M A (raiseStmt env (some x) (some c)) Q E s := by
 have hcB : (Value.ref C :: bm).contains (.type "BaseException") = true := by rw [List.contains_cons, hbase, Bool.or_true]
 unfold raiseStmt
 refine wpAny_bind (wpAny_mono h (fun v s1 h1 => ?_) fun _ _ x => x)
 obtain ⟨e, t, oa, va, rfl, ne, gC, ge, ga, da, za, hE⟩ := h1
 refine wpAny_bind (wpAny_holding (hc _ _ (wpAny_bind (wpAny_pure ?_))))
 obtain ⟨hp, g, d, tk, os⟩ := s1
 repeat (first | with_reducible refine wpAny_loadPart_at ge ?_ | with_reducible refine wpAny_loadPart_at gC ?_ | (with_reducible refine wpAny_isSubtype_exc gC ?_; rw [hcB]) | wp_step)
 have nC : C ≠ e := fun z => by rw [z, ge] at gC; injection gC with gC; injection gC with gC; cases gC
 have d3 := Obj.data_mapFields (o := { cls := .ref C, data := .fields #[.ref t, .none, .none, .none, .bool false, .none] }) rfl (·.setIfInBounds 3 Value.none)
 have g3 := Heap.get?_update_self (h := hp) (Obj.mapFields (·.setIfInBounds 3 Value.none)) ge (Obj.isFreed_of_fields d3)
 have d4 := Obj.data_mapFields d3 (·.setIfInBounds 4 (Value.bool true))
 have g4 := Heap.get?_update_self (Obj.mapFields (·.setIfInBounds 4 (Value.bool true))) g3 (Obj.isFreed_of_fields d4)
 have far : ∀ {f f' : Obj → Obj} b, b ≠ e → ((hp.update e f).update e f').get? b = hp.get? b := fun b n => (Heap.get?_update_other _ _ (Ne.symm n)).trans (Heap.get?_update_other _ _ (Ne.symm n))
 refine wpAny_loadPart_at ((far C nC).trans gC) (wpAny_pure ?_)
 rw [if_pos (show ((excClassObj nm q C N bs bm hdct sn sub ab col dd k0 k1 k2 k3 k5 newId).cls == Value.type "type") = true from by show (Value.type "type" == Value.type "type") = true; decide +kernel)]
 refine wpAny_pure ?_
 refine wpAny_bind ?_
 unfold setFlight
 refine wpAny_bind (wpAny_field g4 d4 (x := .none) rfl ?_)
 rw [if_neg (by decide)]
 refine wpAny_pure ?_
 unfold raiseNew
 refine wpAny_bind (wpAny_handled ?_)
 rw [hh]
 have nb : (Value.ref a != Value.ref e) = true := by
  have : Value.ref a ≠ Value.ref e := fun z => ne (by cases z; rfl)
  simp [this]
 dsimp only
 rw [if_pos nb]
 refine wpAny_bind (wpAny_holding (hu _ e oa va _ ((far a (Ne.symm ne)).trans ga) da za ?_))
 have d5 := Obj.data_mapFields d4 (·.setIfInBounds 2 (Value.ref a))
 have g5 := Heap.get?_update_self (Obj.mapFields (·.setIfInBounds 2 (Value.ref a))) g4 (Obj.isFreed_of_fields d5)
 refine wpAny_bind (wpAny_setField (a := e) g4 d4 (by simp) (wpAny_throw (hE _ (fun b n => (Heap.get?_update_other _ _ (Ne.symm n)).trans (far b n)) g5)))
theorem entry_unchain : entryFor table "proto.unchain" = some Builtin.«proto.unchain» := entryFor_of_fast (by kernel_rfl)
theorem unchain_none {prog : Program} {w : World} {s : Shared} {e a : Addr} {oa : Obj} {va : Array Value} {R : Value → Shared → Prop} (ga : s.heap.get? a = some oa) (da : oa.data = .fields va) (za : va[2]? = some .none) (r : R .none s) :
  wpAny (model prog w) A (runValue (.builtin "proto.unchain" ⟨[.ref e, .ref a, .ref a, .bool false], []⟩)) R E s := by
 refine wpAny_runValue (codeAny_builtin entry_unchain ?_)
 unfold Builtin.«proto.unchain»
 refine wpAny_bind (wpAny_field ga da za ?_)
 rw [if_pos (by decide)]
 repeat wp_step
 exact r
end
section
variable {X : Cx} {E : XK} {a : Addr}
def tRaiseN (a C : Addr) (E : XK) (ta : TA) : TS := fun _ σ H => ta σ H fun vs H1 => vs.length ≤ sizeLine ∧ (∃ cls, H1 a = some (ExcO a cls none)) ∧ E (.ref C) (some (2 * a)) H1
theorem ps_raiseN {x : Str} {C : Addr} {e₀ : Expr} {rest : List Expr} {np cpos pos jp : Pos} {jk : Nat} {ta : TA} (acc : XAcc (X.inExc a) E) (q : W.excIn X.K C vErr "ValueError.__new__" = true) (hg : Gl (X.inExc a) x) (hm : X.mg x = some (.ref C)) (ha : PA (X.inExc a) (e₀ :: rest) ta)
  (he : starEach (e₀ :: rest) X.env = (false, eval e₀ X.env) :: starEach rest X.env := by rfl) (hplain : (backTo cpos (starEach rest X.env)).any (·.1) = false := by rfl) (hd : (x == ("__debug__" : Str)) = false := by decide) :
  PS (X.inExc a) (.Raise (some (.Call (.Name x np) (e₀ :: rest) [] cpos)) (some (.Constant .none jk jp)) pos) (tRaiseN a C E ta) := by
 intro pins s σ H D I h
 obtain ⟨tl, N, nm, qn, bs, hdct, sn, sub, ab, col, dd, k0, k1, k2, k3, k5, mN, hC, hN, hni, T⟩ := exc_obj I.mod.kin q
 have hp := ha cpos pins s σ H _ I h
 rw [he] at hp
 have pl : (backTo cpos (starEach (e₀ :: rest) X.env)).any (·.1) = false := by rw [he]; show (false || (backTo cpos (starEach rest X.env)).any (·.1)) = false; rw [hplain]; rfl
 rw [arm_exec_Raise]
 simp only [evalOpt, Option.map]
 refine wpAny_bind (wpAny_standAt (raise_from (a := a) (C := C) (nm := nm) (q := qn) (N := N) (bs := bs) (bm := tl) (hdct := hdct) (sn := sn) (sub := sub) (ab := ab) (col := col) (dd := dd) (k0 := k0) (k1 := k1) (k2 := k2) (k3 := k3) (k5 := k5) (newId := "ValueError.__new__") (T.hasType PySem.F.excBase_ValueError.hasBase) rfl
  (fun R s r => wpAny_bind (Constant_none (wpAny_bind (wpAny_standAt (wpAny_pure r))))) (fun s e oa va R ga da za r => unchain_none ga da za r) ?_))
 refine wpAny_bind (wpAny_mono (wpAny_Call_ofName (wpAny_mono (ld_glob I hg hm (Q := fun f s1 => f = .ref C ∧ s1 = s) ⟨rfl, rfl⟩ hd) (fun f s1 h1 => ?_) fun _ _ x => x)) (fun v s3 h3 => wpAny_bind (wpAny_standAt (wpAny_pure h3))) fun _ _ x => x)
 obtain ⟨rfl, rfl⟩ := h1
 unfold callWith
 refine wpAny_bind (wpAny_holding (wpAny_mono (Q := fun us s2 => ∃ vs H2, us.kw = [] ∧ Inv (X.inExc a) pins σ H2 s2 ∧ Vals vs us.pos ∧ vs.length ≤ sizeLine ∧ (∃ cls, H2 a = some (ExcO a cls none)) ∧ E (.ref C) (some (2 * a)) H2) ?_ (fun us s2 h2 => wpAny_bind (wpAny_standAt ?_)) fun _ _ x => x))
 ·rw [he]
  exact Calls.evalArgs_plain (thn hp fun us s2 ⟨vs, H2, I2, rv, z, hx, hE⟩ => ⟨vs, H2, rfl, I2, rv, z, hx, hE⟩)
 obtain ⟨upos, ukw⟩ := us
 obtain ⟨vs, H2, ekw, I2, rv, z, ⟨cls, hx⟩, hE⟩ := h2
 obtain rfl : ukw = [] := ekw
 obtain ⟨⟨oa, va, ga, _, da, za, _⟩, _⟩ := (show ObjOk X.prog X.w H2 s2.heap a (ExcO a cls none) from I2.hok a _ hx)
 have C2 := I2.bk _ _ hC
 have N2 := hN.keeps I2.bk
 have T2 := T.keeps I2.bk
 have hlen : upos.length ≤ sizeLine := by rw [← rv.length]; exact z
 obtain ⟨hp2, g2, d2, tk2, os2⟩ := s2
 simp only [pl]
 refine wpAny_bind (wpAny_keeperOf_exc C2 ?_)
 refine wpAny_bind (wpAny_call_exc_subT (hrest := hlen) PySem.F.excBase_ValueError T2 C2 N2 hni fun h' e m => wpAny_bind (wpAny_holding (wpAny_point (wpAny_pure ?_))))
 obtain ⟨t, ht, _, _⟩ := m.there
 have ne : e ≠ a := fun z => by have := m.new; rw [z, ga] at this; cases this
 refine ⟨e, t, oa, va, rfl, ne, m.keeps _ _ C2, ht, m.keeps _ _ ga, da, za, fun h'' far ge => ?_⟩
 have k : ∀ b o, hp2.get? b = some o → h''.get? b = some o := fun b o gb => (far b fun z => by have := m.new; rw [← z, gb] at this; cases this).trans (m.keeps b o gb)
 obtain ⟨I3, x3⟩ := XAt.first (cx := some (2 * a)) I2 k m.new ge rfl rfl rfl (by show _ = some (if 2 * a % 2 = 0 then Value.ref (2 * a / 2) else _); rw [if_pos (Nat.mul_mod_right 2 a), Nat.mul_div_cancel_left _ (by decide)]; rfl) (by show none = (if 2 * a % 2 = 0 then none else _); rw [if_pos (Nat.mul_mod_right 2 a)])
 exact acc pins σ H2 _ e _ (some (2 * a)) _ .new I3 x3 hE
end
theorem pass0e {X : Cx} {P : Program} {w : World} : Passes (CXe P w) X E0 := fun _ _ _ _ _ _ _ h => by
 obtain ⟨_, _, _, _, _, _, _, _, _, _, _, _, _, _, _, _, hE⟩ := h
 exact hE.elim
section
variable {P : Program} {w : World} {K : W.Frag} {mg : Str → Option Value} {base : Heap}
theorem Fun.okE {x qual : Str} {st : Stmt} {f : Addr} {fd : FuncData} {N ps : List Str} {k : Nat} {sp : Sp} (F : Fun K x qual st f fd) (S : FnScope N ps (defScope st)) (len : ∀ vs H Q E, sp vs H Q E → vs.length = ps.length)
  (hbody : ∀ (cdv : Value) (A : Around) (outer : List Env) (s : Shared) (H : Hp) (vs : List V) (Q : VK) (E : XK), Room k (A.deeper (envOfC qual (defScope st) s.heap.objs.size f cdv)) → sp vs H Q E →
   ∃ t, PSs (cxOf (CXe P w) P w K mg base N qual (defScope st) f cdv A outer s H E) (defBody st) t ∧ t { nx := fun _ H' => Q .non H', rt := Q } (start N vs) H) : FnOk P w K mg base (CXe P w) (k + 1) f fd ps sp := by
 obtain ⟨oc, od, kV, doc, pm, an, cdv, ct, osl, rfl, lk, hcd⟩ := F.ex
 exact fn_of lk hcd S len fun A outer s H vs Q E hr hsp => hbody cdv A outer s H vs Q E hr hsp
structure FunD (K : W.Frag) (x qual : Str) (st : Stmt) (dT : Addr) (f : Addr) (fd : FuncData) : Prop where
 ex : ∃ (oc : Value) (od : Option Addr) (kV doc pm : Value) (an : Option Addr) (cdv ct : Value) (osl : Array (Option Value)),
  fd = W.fnOf x qual (defArgs st) (defBody st) (defScope st) (.ref dT) kV doc pm an cdv ct ∧ K.lookup f = some ⟨oc, od, .func fd, osl⟩ ∧ W.codeIn K cdv qual = true
 kp : W.keepIn K (.ref f) = true
theorem fund_mk {x qual : Str} {st : Stmt} {dT f : Addr} {oc : Value} {od an : Option Addr} {osl : Array (Option Value)} {kV doc pm cdv ct : Value} (l : K.lookup f = some ⟨oc, od, .func (W.fnOf x qual (defArgs st) (defBody st) (defScope st) (.ref dT) kV doc pm an cdv ct), osl⟩)
  (c : W.codeIn K cdv qual = true) (k : W.keepIn K (.ref f) = true) : FunD K x qual st dT f (W.fnOf x qual (defArgs st) (defBody st) (defScope st) (.ref dT) kV doc pm an cdv ct) := ⟨⟨oc, od, kV, doc, pm, an, cdv, ct, osl, rfl, l, c⟩, k⟩
theorem FunD.okE {x qual : Str} {st : Stmt} {dT f : Addr} {fd : FuncData} {N ps : List Str} {k : Nat} {sp : Sp} (F : FunD K x qual st dT f fd) (S : FnScope N ps (defScope st)) (len : ∀ vs H Q E, sp vs H Q E → vs.length = ps.length)
  (hbody : ∀ (cdv : Value) (A : Around) (outer : List Env) (s : Shared) (H : Hp) (vs : List V) (Q : VK) (E : XK), Room k (A.deeper (envOfC qual (defScope st) s.heap.objs.size f cdv)) → sp vs H Q E →
   ∃ t, PSs (cxOf (CXe P w) P w K mg base N qual (defScope st) f cdv A outer s H E) (defBody st) t ∧ t { nx := fun _ H' => Q .non H', rt := Q } (start N vs) H) : FnOk P w K mg base (CXe P w) (k + 1) f fd ps sp := by
 obtain ⟨oc, od, kV, doc, pm, an, cdv, ct, osl, rfl, lk, hcd⟩ := F.ex
 exact fn_of lk hcd S len fun A outer s H vs Q E hr hsp => hbody cdv A outer s H vs Q E hr hsp
theorem FunD.binds {x qual : Str} {st : Stmt} {dT f : Addr} {fd : FuncData} {ps : List Str} {ds : List Value} {items : List Value} {o : Obj} {nn : Nat} (F : FunD K x qual st dT f fd) (ho : K.lookup dT = some o) (hs : o.data = .seq items.toArray nn)
  (h : ∀ (kV doc pm : Value) (an : Option Addr) (cdv ct : Value) (us : List Value), (us ++ ds).length = ps.length → ∃ k : Option (Array Value) → Sem (List (Str × Value)),
   bindArgs (W.fnOf x qual (defArgs st) (defBody st) (defScope st) (.ref dT) kV doc pm an cdv ct) ⟨us, []⟩ = seqItems? (.ref dT) >>= k ∧ k (some items.toArray) = pure (ps.zip (us ++ ds))) : Binds K fd ps ds := by
 obtain ⟨oc, od, kV, doc, pm, an, cdv, ct, osl, rfl, lk, hcd⟩ := F.ex
 intro s us KX hl
 obtain ⟨k, h1, h2⟩ := h kV doc pm an cdv ct us hl
 exact W.binds_K KX rfl ho hs h1 h2
end
def clsV : V → Option Value
 | .ty n => some (.type n)
 | .ref a => some (.ref a)
 | _ => none
theorem clsV_of {y : V} {c u : Value} (e : clsV y = some c) (r : RelV y u) : u = c := by
 cases y with
 | ty n => cases e; exact r
 | ref a => cases e; exact r
 | _ => cases e
inductive TyX (K : W.Frag) (H : Hp) : V → Value → Prop where
 | of {x : V} {t : Value} (h : TyOf K H x t) : TyX K H x t
 | exc {a C : Addr} {cx : Option Addr} (h : H a = some (ExcO a (.ref C) cx)) (T : W.ExcT K C) : TyX K H (.ref a) (.ref C)
section
variable {X : Cx} {pins : List (Addr × Obj)} {σ : St} {H : Hp} {s : Shared} {A : Around} {E : Value → Shared → Prop} {Q : Value → Shared → Prop}
theorem TyX.kit {x : V} {u t : Value} (I : Inv X pins σ H s) (rx : RelV x u) (ty : TyX X.K H x t) : ∃ Φ : Heap → Prop, W.KitX X.K u t Φ ∧ Φ s.heap ∧ u ≠ .builtin "__main__.__loader__#opaque" := by
 cases ty with
 | @exc a C cx h T =>
  cases (show u = Value.ref a from rx)
  obtain ⟨⟨o, vs, h1, h2, h3, _⟩, _⟩ := (show ObjOk X.prog X.w H s.heap a (ExcO a (.ref C) cx) from I.hok a _ h)
  exact ⟨_, W.kitx_exc T, ⟨o, vs, h1, h2, h3⟩, fun z => nomatch z⟩
 | of h =>
 cases h with
 | non => cases (show u = Value.none from rx); exact ⟨_, W.kitx_none, True.intro, fun z => nomatch z⟩
 | bl y => cases (show u = Value.bool y from rx); exact ⟨_, W.kitx_bool, True.intro, fun z => nomatch z⟩
 | int i => obtain ⟨t, q⟩ := (show ∃ t, u = Value.int i t from rx); cases q; exact ⟨_, W.kitx_int, True.intro, fun z => nomatch z⟩
 | str y => obtain ⟨t, q⟩ := (show ∃ t, u = Value.str y t from rx); cases q; exact ⟨_, W.kitx_str, True.intro, fun z => nomatch z⟩
 | flt y => obtain ⟨t, q⟩ := (show ∃ t, u = Value.float y t from rx); cases q; exact ⟨_, W.kitx_float, True.intro, fun z => nomatch z⟩
 | @lst a xs ea =>
  cases (show u = Value.ref a from rx)
  obtain ⟨_, _, n, _, h1⟩ := (show ObjOk X.prog X.w H s.heap a (.lst xs) from I.hok a _ ea)
  exact ⟨_, W.kitx_list, ⟨_, h1, rfl⟩, fun z => nomatch z⟩
 | @frz a ob xs ea =>
  cases (show u = Value.ref a from rx)
  obtain ⟨_, _, _, n, _, h1⟩ := (show ObjOk X.prog X.w H s.heap a (.frz ob (.lst xs)) from I.hok a _ ea)
  exact ⟨_, W.kitx_list, ⟨_, h1, rfl⟩, fun z => nomatch z⟩
 | @tup a xs ea =>
  cases (show u = Value.ref a from rx)
  obtain ⟨_, _, _, p⟩ := (show ObjOk X.prog X.w H s.heap a (.tup xs) from I.hok a _ ea)
  obtain ⟨o, h1, h2, _⟩ := p
  exact ⟨_, W.kitx_tuple, ⟨o, h1, h2⟩, fun z => nomatch z⟩
 | @dK a kvs ea =>
  cases (show u = Value.ref a from rx)
  obtain ⟨_, _, vs, _, p⟩ := (show ObjOk X.prog X.w H s.heap a (.dK kvs) from I.hok a _ ea)
  obtain ⟨o, es, ep, h1, h2, _⟩ := p
  exact ⟨_, W.kitx_dict, ⟨o, h1, h2.1⟩, fun z => nomatch z⟩
 | @dT a kvs ea =>
  cases (show u = Value.ref a from rx)
  obtain ⟨_, _, xs, _, o, es, ep, h1, h2, _⟩ := (show ObjOk X.prog X.w H s.heap a (.dT kvs) from I.hok a _ ea)
  exact ⟨_, W.kitx_dict, ⟨o, h1, h2.1⟩, fun z => nomatch z⟩
 | @ins a C dx fs ea cl ha hn htk hm =>
  cases (show u = Value.ref a from rx)
  obtain ⟨mA, O, _⟩ := ins_get I.hok ea
  obtain ⟨od, J, _⟩ := O.look
  exact ⟨_, W.kitx_own (cl.get _) cl.hd ha hn htk hm, J, fun z => nomatch z⟩
def rIsi (K : W.Frag) : List V → Hp → VK → Prop := fun xs H Q => ∃ x y t c b, xs = [x, y] ∧ clsV y = some c ∧ TyX K H x t ∧ W.kitOne K t c = some b ∧ Q (.bl b) H
theorem call_isi : CallR X (.builtin "isinstance") (rIsi X.K) := by
 intro pins s σ H xs us Q I r h
 obtain ⟨x, y, t, c, b, rfl, e1, e2, e3, q⟩ := h
 obtain ⟨u, v, rfl, r1, r2⟩ := vals2 r
 obtain rfl := clsV_of e1 r2
 obtain ⟨Φ, Z, p, n⟩ := e2.kit I r1
 exact W.kia_one Z I.kIn p e3 n fun tk => ⟨.bl b, H, I.tok _, rfl, q⟩
end
section
variable {X : Cx} {pins : List (Addr × Obj)} {σ : St} {H : Hp} {s : Shared}
theorem op_mulB : OpR X (binaryOp .Mult) (rI IntMulOk fun i j => .int (i * j)) := opI fun _ _ _ _ _ _ _ hc q => mul_int q hc
theorem op_fdivB : OpR X (binaryOp .FloorDiv) (rI (fun _ j => 0 < j ∧ j.natAbs.log2 < 9000) fun i j => .int (i / j)) := opI fun i j _ _ _ _ _ hc q => by
 have h0 : j ≠ 0 := by have := hc.1; omega
 refine floordiv_int h0 ?_ (.inl (PyProof.noPylong_of_log2 hc.2))
 rw [Int.fdiv_eq_ediv_of_nonneg _ (Int.le_of_lt hc.1)]
 exact q
end
open PySem.W PySem.Calls
theorem script_bits {ns : List Int} (h : WData.layableAll [WData.list (ns.map WData.int)] = true) : ∀ n ∈ ns, Builtin.Int.intBits n ≤ 2 ^ 20 := fun n hn => by
 have h1 : (WData.list (ns.map WData.int)).layable = true := layableW_arg h _ (List.mem_singleton.mpr rfl)
 have h2 := layableW_item h1 (WData.int n) (List.mem_map.mpr ⟨n, hn, rfl⟩)
 have h3 := (layableW_iff.mp h2).2.2
 simpa only [WData.weight, Builtin.Int.intBits] using h3
theorem walk_ofB {l : OpenLaw} {n k : Nat} {q : Program} {loose : List Str} {XP : (Str → Option Value) → Heap → Prop} {YP : World → Heap → Prop} {d : DefRec} {K : Params → Frag} {CX : World → CXT} {sp : World → Sp} {x : Str}
  (hn : l.most = some n) (hn2 : n ≤ sizeLine) (hdf : d.params.defaults = []) (hr : Room k callerA)
  (hY : ∀ (w : World) (h : Heap), YP w h → (K w.params).In h)
  (F : ∀ (w : World) (mg : Str → Option Value) (fa : Addr) (h : Heap), (K w.params).In h → h.Ns mainGlobals mg → mg d.name = some (.ref fa) →
   ∃ fd : FuncData, (∀ (s : Shared) (u : Value), BindsTo s fd ⟨[u], []⟩ [(x, u)]) ∧
    ∀ base : Heap, (K w.params).In base → base.Ns mainGlobals mg → FnOk l.prog w (K w.params) mg base (CX w) k fa fd [x] (sp w))
  (hsp : ∀ (w : World) (H : Hp) (a : Addr) (ns : List Int), ns.length ≤ n → (∀ m ∈ ns, Builtin.Int.intBits m ≤ 2 ^ 20) → Only H → SqL (K w.params) H a (ns.map V.int) → sp w [.ref a] H (fun v _ => v = .bl true) fun _ _ _ => False)
  (hCX : ∀ (w : World) (H : Hp) (s : Shared) (e : Value) (s' : Shared), CX w [] H s (fun _ _ _ => False) e s' → False) :
  WalkO q loose XP YP l.row.toRowW d [] (fun f vs => PySem.call f vs) := by
 intro w s₀ s₁ mg mb G Y fa o pm cd doc dV kV ho hd hcd hD hmg hg args vals as hpre hlay hrd hwl hlo
 obtain rfl : dV = .none := Dflts.none hD hdf
 obtain rfl : kV = .none := Dflts.noKw hD
 obtain ⟨a, vs, ns, rfl, rfl, hobj, hints, hlen⟩ := Att.script_of hn hpre hwl
 have KX := hY w _ Y
 obtain ⟨fd, hb, hF⟩ := F w mg fa _ KX G.T.g hmg
 refine enter_call (codeAny_mono (law_call KX G.T.g G.T.b G.T.builtins G.T.nolimit hg hobj hints (Nat.le_trans hlen hn2) hr hF hb (fun H hO hS => hsp w H a ns hlen (script_bits hlay) hO hS) fun H e s' => hCX w H s₁ e s') fun r s' hq => ?_)
 obtain ⟨rfl, h2, h3, h4⟩ := hq
 exact ⟨.inl ⟨.bool true, .bool true, [], rfl, fun _ => rfl, .bool true, Att.post_true l _, fun _ => ⟨List.Pairwise.nil, fun _ hm => (nomatch hm)⟩⟩, h2, h3, h4⟩
theorem noCXe {P : Program} {w : World} {outer : List Env} (H : Hp) (s : Shared) (e : Value) (s' : Shared) (h : CXe P w outer H s (fun _ _ _ => False) e s') : False := by
 obtain ⟨_, _, _, _, _, _, _, _, _, _, _, _, _, _, _, _, hE⟩ := h
 exact hE
structure Own (P : Program) (w : World) (K : W.Frag) (mg : Str → Option Value) (base : Heap) (k : Nat) (x : Str) (ps : List Str) (sp : Sp) : Prop where
 ex : ∃ f fd, FnOk P w K mg base (CXe P w) k f fd ps sp ∧ Binds K fd ps [] ∧ W.keepIn K (.ref f) = true ∧ mg x = some (.ref f)
structure OwnD (P : Program) (w : World) (K : W.Frag) (mg : Str → Option Value) (base : Heap) (k : Nat) (x : Str) (ps : List Str) (sp : Sp) (d : V) : Prop where
 ex : ∃ f fd du, FnOk P w K mg base (CXe P w) k f fd ps sp ∧ Binds K fd ps [] ∧ Binds K fd ps [du] ∧ RelV d du ∧ W.keepIn K (.ref f) = true ∧ mg x = some (.ref f)
section
variable {X : Cx} {k k' : Nat} {ps : List Str} {sp : Sp} {x : Str} {p pos : Pos} {e : Expr} {es : List Expr} {t : TA} {E : XK} {d : V}
theorem pe_own (G : Own X.prog X.w X.K X.mg X.base k x ps sp) (hr : Room k' X.A) (hk : k ≤ k') (hx : Passes (CXe X.prog X.w) X E) (ha : PA X (e :: es) t) (hg : Gl X x := by rfl)
  (hdb : (x == ("__debug__" : Str)) = false := by decide) (he : starEach (e :: es) X.env = (false, eval e X.env) :: starEach es X.env := by rfl) (hpl : (backTo pos (starEach es X.env)).any (·.1) = false := by rfl) :
  PE X (.Call (.Name x p) (e :: es) [] pos) (tCall sp [] E t) := by
 obtain ⟨f, fd, F, b, kp, m⟩ := G.ex
 exact pe_call F (hr.mono hk) hg m kp b .nil hx ha hdb he hpl
end
theorem bt_int : bootBuiltins "int" = some (.type "int") := by decide +kernel
theorem bt_bool : bootBuiltins "bool" = some (.type "bool") := by decide +kernel
theorem bt_str : bootBuiltins "str" = some (.type "str") := by decide +kernel
theorem bt_list : bootBuiltins "list" = some (.type "list") := by decide +kernel
theorem bt_isinstance : bootBuiltins "isinstance" = some (.builtin "isinstance") := by decide +kernel
theorem bt_len : bootBuiltins "len" = some (.builtin "len") := by decide +kernel
theorem same_new {H : Hp} {p : Addr} (h : H p = none) (o : HO) : Same H (upd H p o) := fun b u q => by rw [upd_ne (ne_of_none q h)]; exact q
def Scr (K : W.Frag) (H : Hp) (a : Addr) (xs : List V) : Prop := (∃ o, H a = some (.frz o (.lst xs))) ∨
  ∃ (o : Obj) (its : Array Value) (n : Nat), K.lookup a = some o ∧ o.cls = .type "list" ∧ o.dict = none ∧ o.data = .seq its n ∧ its.size ≤ sizeLine ∧ Vals xs its.toList
theorem Scr.seq {K : W.Frag} {H : Hp} {a : Addr} {xs : List V} (h : Scr K H a xs) : SqL K H a xs := h.elim (fun z => .inl (.inr z)) .inr
theorem Scr.of {K : W.Frag} {H : Hp} {a : Addr} {xs : List V} (h : SqL K H a xs) (o : Only H) : Scr K H a xs := by
 rcases h with (h | h) | h
 ·rcases o a with z | ⟨o, ys, z⟩
  ·rw [h] at z; cases z
  ·rw [h] at z; cases z
 ·exact .inl h
 ·exact .inr h
theorem Scr.same {K : W.Frag} {H H' : Hp} {a : Addr} {xs : List V} (g : Same H H') (h : Scr K H a xs) : Scr K H' a xs := h.elim (fun ⟨o, z⟩ => .inl ⟨o, g _ _ z⟩) .inr
section
variable {prog : Program} {w : World} {A : Around} {R : Result → Shared → Prop} {s : Shared}
theorem compLoop_go {elt target iter : Expr} {ifs : List Expr} {scope : Scope} {pos : Pos} {it acc : Value} {env : Env} {N : Value → Shared → Prop} (hN : N = notedBy (model prog w) A env fun e s' => R (.error e) s') (I : Nat → Shared → Prop)
  (turn : ∀ n s, I n s → wpAny (model prog w) A (pyNext it) (fun r s₁ => match r with
   | none => R (.ok .next) s₁
   | some v => wpAny (model prog w) A (letOwnedTupleGo target it v) (fun _ s₁' => wpAny (model prog w) A (assign target env v) (fun _ s₂ =>
     wpAny (model prog w) A (forIn ifs true fun c r => if r = true then do let ok ← isTrue c env (eval c env); pure (ForInStep.yield ok) else pure (ForInStep.yield r)) (fun ok s₃ =>
      if ok = true then wpAny (model prog w) A (eval elt env) (fun x s₄ =>
       wpAny (model prog w) A (call (.builtin "list.append") [acc, x]) (fun _ s₅ => ∃ m, m < n ∧ I m s₅) N s₄) N s₃
      else ∃ m, m < n ∧ I m s₃) N s₂) N s₁') N s₁) N s)
  (n : Nat) (h : I n s) :
  codeAny (model prog w) A (.compLoop (.ListComp elt [⟨target, iter, ifs, 0⟩] scope pos) 0 it acc env) R s := by
 subst hN
 refine codeAny_loop rfl I (fun k z q => ?_) n h
 show wpAny _ A ((compTurn (.ListComp elt [⟨target, iter, ifs, 0⟩] scope pos) 0 it acc env).onRaise (fun ex => do noteFrame ex env; theTreesLotGoes ex)) _ _ z
 refine wpAny_noted ?_
 rw [compTurn_list]
 refine wpAny_bind (wpAny_standAt (wpAny_bind (thn (turn k z q) fun r z1 q1 => ?_)))
 cases r with
 | none => exact wpAny_pure q1
 | some v =>
  refine wpAny_bind (thn q1 fun _ z2 q2 => ?_)
  refine wpAny_bind (thn q2 fun _ z3 q3 => ?_)
  refine wpAny_bind (thn q3 fun ok z4 q4 => ?_)
  cases ok with
  | false => exact wpAny_pure ⟨rfl, q4⟩
  | true => exact wpAny_bind (wpAny_bind (thn q4 fun x z5 q5 => wpAny_bind (thn q5 fun _ z6 q6 => wpAny_pure (wpAny_pure ⟨rfl, q6⟩))))
end
def capOf (cells : List (Str × Addr)) : List (Str × NameKind) → List (Str × Addr) → List (Str × Addr)
 | [], acc => acc
 | (n, k) :: r, acc => if k == .free then (match cells.lookup n with
   | some c => capOf cells r ((n, c) :: acc)
   | none => capOf cells r acc) else capOf cells r acc
theorem capOf_acc {cells : List (Str × Addr)} {x : Str} {c : Addr} : ∀ {names : List (Str × NameKind)} {acc : List (Str × Addr)}, (∀ d, acc.lookup x = some d → cells.lookup x = some d) → (capOf cells names acc).lookup x = some c → cells.lookup x = some c
 | [], acc, h, e => h c e
 | (n, k) :: r, acc, h, e => by
  unfold capOf at e
  split at e
  ·split at e
   ·rename_i c' hc'
    refine capOf_acc (fun d q => ?_) e
    rw [List.lookup_cons] at q
    split at q
    ·rename_i hx
     have hx' : x = n := by simpa using hx
     cases q
     rw [hx']; exact hc'
    ·exact h d q
   ·exact capOf_acc h e
  ·exact capOf_acc h e
theorem capOf_keeps {cells : List (Str × Addr)} {x : Str} : ∀ {names : List (Str × NameKind)} {acc : List (Str × Addr)}, (∃ d, acc.lookup x = some d) → ∃ d, (capOf cells names acc).lookup x = some d
 | [], acc, h => h
 | (n, k) :: r, acc, h => by
  unfold capOf
  split
  ·split
   ·refine capOf_keeps ?_
    rw [List.lookup_cons]
    split
    ·exact ⟨_, rfl⟩
    ·exact h
   ·exact capOf_keeps h
  ·exact capOf_keeps h
theorem capOf_has {cells : List (Str × Addr)} {x : Str} : ∀ {names : List (Str × NameKind)} {acc : List (Str × Addr)}, (x, NameKind.free) ∈ names → (∃ c, cells.lookup x = some c) → ∃ d, (capOf cells names acc).lookup x = some d
 | [], acc, h, _ => by simp at h
 | (n, k) :: r, acc, h, hc => by
  unfold capOf
  rcases List.mem_cons.mp h with e | h
  ·cases e
   obtain ⟨c, hc⟩ := hc
   rw [if_pos (by rfl), hc]
   exact capOf_keeps ⟨c, by simp [List.lookup_cons]⟩
  ·split
   ·split
    ·exact capOf_has h hc
    ·exact capOf_has h hc
   ·exact capOf_has h hc
theorem closure_go {env : Env} : ∀ (names : List (Str × NameKind)) (acc : List (Str × Addr)), (∀ y ∈ names, y.2 = .free → ∃ c, env.cells.lookup y.1 = some c) →
  (forIn names acc fun (x : Str × NameKind) (cs : List (Str × Addr)) => if (x.2 == NameKind.free) = true then do let a ← cellOf env x.1; pure (ForInStep.yield ((x.1, a) :: cs)) else pure (ForInStep.yield cs) : Sem (List (Str × Addr))) = pure (capOf env.cells names acc)
 | [], acc, _ => rfl
 | (n, k) :: r, acc, h => by
  rw [List.forIn_cons]
  unfold capOf
  by_cases hk : (k == NameKind.free) = true
  ·obtain ⟨c, hc⟩ := h (n, k) List.mem_cons_self (by simpa using hk)
   have e : cellOf env n = pure c := by unfold cellOf; rw [hc]
   rw [if_pos hk, if_pos hk, hc, e]
   exact closure_go r _ fun y hy => h y (List.mem_cons_of_mem _ hy)
  ·rw [if_neg hk, if_neg hk]
   exact closure_go r acc fun y hy => h y (List.mem_cons_of_mem _ hy)
theorem closure_cap {scope : Scope} {env : Env} (h : ∀ y ∈ scope.names, y.2 = .free → ∃ c, env.cells.lookup y.1 = some c) : closureFor scope env = pure (capOf env.cells scope.names []) := by
 have := closure_go (env := env) scope.names [] h
 unfold closureFor
 exact (congrArg (· >>= pure) this).trans (by first | rfl | simp)
theorem lookup_relabel {env : Env} : ∀ {names : List (Str × NameKind)} {x : Str} {k' : NameKind},
  (names.map fun (n, k) => if (k == NameKind.free && env.scope.kind == .function && env.kindOf n == some .cell) then (n, NameKind.cell) else (n, k)).lookup x = some k' →
  ∃ k, names.lookup x = some k ∧ (k' = k ∨ (k = .free ∧ k' = .cell))
 | [], _, _, h => by simp at h
 | (n, k) :: r, x, k', h => by
  rw [List.map_cons] at h
  dsimp only at h
  by_cases hc : (k == NameKind.free && env.scope.kind == .function && env.kindOf n == some .cell) = true
  ·rw [if_pos hc, List.lookup_cons] at h
   rw [List.lookup_cons]
   split at h
   ·rename_i hx
    cases h
    have hk : k = .free := by
     have := (Bool.and_eq_true _ _ ▸ (Bool.and_eq_true _ _ ▸ hc).1).1
     simpa using this
    exact ⟨k, rfl, .inr ⟨hk, rfl⟩⟩
   ·rename_i hx
    obtain ⟨k2, q1, q2⟩ := lookup_relabel h
    exact ⟨k2, q1, q2⟩
  ·rw [if_neg hc, List.lookup_cons] at h
   rw [List.lookup_cons]
   split at h
   ·rename_i hx
    cases h
    exact ⟨k, rfl, .inl rfl⟩
   ·rename_i hx
    obtain ⟨k2, q1, q2⟩ := lookup_relabel h
    exact ⟨k2, q1, q2⟩
theorem lookup_relabel_free {env : Env} : ∀ {names : List (Str × NameKind)} {x : Str}, names.lookup x = some .free →
  (names.map fun (n, k) => if (k == NameKind.free && env.scope.kind == .function && env.kindOf n == some .cell) then (n, NameKind.cell) else (n, k)).lookup x = some .cell ∨
  (names.map fun (n, k) => if (k == NameKind.free && env.scope.kind == .function && env.kindOf n == some .cell) then (n, NameKind.cell) else (n, k)).lookup x = some .free
 | [], _, h => by simp at h
 | (n, k) :: r, x, h => by
  rw [List.map_cons]
  dsimp only
  rw [List.lookup_cons] at h
  by_cases hc : (k == NameKind.free && env.scope.kind == .function && env.kindOf n == some .cell) = true
  ·rw [if_pos hc, List.lookup_cons]
   split at h
   ·rename_i hx
    left; rfl
   ·rename_i hx
    exact lookup_relabel_free (env := env) h
  ·rw [if_neg hc, List.lookup_cons]
   split at h
   ·rename_i hx
    right; exact h
   ·rename_i hx
    exact lookup_relabel_free (env := env) h
structure CompSc (Sc scope : Scope) (N Nc : List Str) (k : Nat) (js : List Nat) : Prop where
 cell : ∀ y ∈ scope.names, y.2 ≠ .cell
 kind : scope.kind = .function
 names : ∀ y ∈ scope.names, y.2 = .local → scope.names.lookup y.1 = some .local
 free : ∀ y ∈ scope.names, y.2 = .free → Sc.names.lookup y.1 = some .cell ∨ Sc.names.lookup y.1 = some .free
 nd : Nc.Nodup
 len : Nc.length = k + js.length
 cap : (Nc.drop k).map some = js.map fun j => N[j]?
 caps : ∀ x ∈ Nc.drop k, scope.names.lookup x = some .free
def compSt (k : Nat) (js : List Nat) (σ : St) : St := List.replicate k none ++ js.map fun j => (σ[j]?).getD none
theorem mem_free {names : List (Str × NameKind)} {x : Str} {k : NameKind} (h : names.lookup x = some k) : (x, k) ∈ names := PySem.mem_of_lookup h
abbrev compCx (X : Cx) (scope : Scope) (Nc : List Str) (C : Addr) (s3 : Shared) (H3 : Hp) (fp : List Addr) (xe : Value → Shared → Prop) : Cx :=
 { X with N := Nc, s₀ := s3, H₀ := H3, env := compEnvC scope (capOf X.env.cells scope.names []) C X.env, outer := X.stack, ex := fp, fn := fun _ => false, pn := [], xe := xe }
section
variable {X : Cx} {pins : List (Addr × Obj)} {σ : St} {H3 : Hp} {s3 : Shared} {scope : Scope} {Nc : List Str} {k : Nat} {js : List Nat} {fp : List Addr} {xe : Value → Shared → Prop} {h₁ : Heap} {m₀ : Str → Option Value} {tk : Nat}
theorem comp_cells (I : Inv X pins σ H3 s3) (S : CompSc X.env.scope scope X.N Nc k js) : ∀ y ∈ scope.names, y.2 = .free → ∃ c, X.env.cells.lookup y.1 = some c := fun y hy hk => I.ok.has y.1 (S.free y hy hk)
theorem comp_sub {x : Str} {c : Addr} (e : (capOf X.env.cells scope.names []).lookup x = some c) : X.env.cells.lookup x = some c := capOf_acc (fun d q => by simp at q) e
theorem comp_inv (I : Inv X pins σ H3 s3) (S : CompSc X.env.scope scope X.N Nc k js) (hf : ∀ b ∈ fp, FpOk X pins H3 b) (hfo : ∀ b ∈ fp, b < s3.heap.objs.size) (hns : h₁.Ns s3.heap.objs.size m₀) (old : ∀ b o, s3.heap.get? b = some o → h₁.get? b = some o) :
  Inv (compCx X scope Nc s3.heap.objs.size s3 H3 fp xe) [] (compSt k js σ) H3 { s3 with heap := h₁, toks := tk } := by
 have ok := I.ok
 have hb0 : ∀ b o, X.base.get? b = some o → b < X.s₀.heap.objs.size := fun b o e => Nat.lt_of_lt_of_le (Heap.lt_size e) ok.bsz
 refine ⟨⟨ok.mod, S.kind, ok.glob, ok.blt, Nat.le_refl _, fun x y c h1 h2 => ok.inj x y c (comp_sub h1) (comp_sub h2), fun x hx => ?_, (fun x c z => nomatch z), ok.hd, ok.frames, .inl rfl, fun b hb => ⟨Nat.ne_of_lt (hfo b hb), fun x c e => (hf b hb).2.2.2.2.1 x c (comp_sub e)⟩, I.bs, Nat.le_trans ok.bsz I.sz, fun b o e hb => ?_, fun b hb z => ?_, I.stack, I.stkFree⟩,
  rfl, I.bare, Un.kept old, ⟨m₀, hns, fun i x v e1 e2 e3 => ?_⟩, fun x c e => ?_, I.hok.fresh (Nat.le_refl _), fun x c e => I.freeC x c (comp_sub e), fun p hp => absurd (show p ∈ ([] : List (Addr × Obj)) from hp) (by simp), I.hok.kept old, ?_⟩
 ·have hx : (relabel scope X.env).names.lookup x = some .cell ∨ (relabel scope X.env).names.lookup x = some .free := hx
  have hfree : scope.names.lookup x = some .free := by
   rcases hx with hx | hx
   ·obtain ⟨k2, q1, q2⟩ := lookup_relabel (env := X.env) hx
    rcases q2 with q2 | ⟨q2, _⟩
    ·subst q2; exact absurd rfl (S.cell _ (mem_free q1))
    ·rw [q2] at q1; exact q1
   ·obtain ⟨k2, q1, q2⟩ := lookup_relabel (env := X.env) hx
    rcases q2 with q2 | ⟨q2, q3⟩
    ·subst q2; exact q1
    ·cases q3
  exact capOf_has (mem_free hfree) (ok.has x (S.free _ (mem_free hfree) rfl))
 ·rcases (hf b hb).2.2.2.1 with z | z
  ·exact ok.noex b o e z
  ·exact absurd (Nat.lt_of_lt_of_le (hb0 b o e) z) (Nat.lt_irrefl _)
 ·rcases List.mem_cons.mp (I.stkSub b z) with q | q
  ·exact (hf b hb).2.1 q
  ·exact (hf b hb).2.2.1 q
 ·have hlen : (List.replicate k (none : Option V)).length = k := List.length_replicate
  by_cases hi : i < k
  ·unfold compSt at e2
   rw [List.getElem?_append_left (by omega), List.getElem?_replicate] at e2
   split at e2 <;> cases e2
  ·unfold compSt at e2
   rw [List.getElem?_append_right (by omega), hlen, List.getElem?_map] at e2
   cases hj : js[i - k]? with
   | none => rw [hj] at e2; cases e2
   | some j =>
    rw [hj] at e2
    have e2' : (σ[j]?).getD none = some v := Option.some.inj e2
    have hσ : σ[j]? = some (some v) := by
     cases q : σ[j]? with
     | none => rw [q] at e2'; cases e2'
     | some y => rw [q] at e2'; simp at e2'; rw [e2']
    have hx : (Nc.drop k)[i - k]? = some x := by rw [List.getElem?_drop]; rw [show k + (i - k) = i by omega]; exact e1
    have hNj : X.N[j]? = some x := by
     have := congrArg (fun l => l[i - k]?) S.cap
     simp only [List.getElem?_map, hx, hj, Option.map_some] at this
     exact (Option.some.inj this).symm
    have hfr : scope.names.lookup x = some .free := S.caps x (List.mem_of_getElem? hx)
    have hk := S.free _ (mem_free hfr) rfl
    obtain ⟨m, hn, hl⟩ := I.loc
    obtain ⟨u, r, l⟩ := hl j x v hNj hσ (.inr hk)
    refine ⟨u, r, .inr ⟨lookup_relabel_free hfr, ?_⟩⟩
    rcases l with ⟨l1, _⟩ | ⟨_, c, hc, hcell⟩
    ·have l1 : X.env.scope.names.lookup x = some .local := l1
     rcases hk with hk | hk
     ·rw [l1] at hk; cases hk
     ·rw [l1] at hk; cases hk
    ·obtain ⟨d, hd⟩ := capOf_has (cells := X.env.cells) (acc := []) (mem_free hfr) ⟨c, hc⟩
     have := comp_sub hd
     rw [hc] at this; cases this
     obtain ⟨o, ho, hdd⟩ := hcell
     exact ⟨c, hd, ⟨o, old _ _ ho, hdd⟩⟩
 ·obtain ⟨v, o, ho, hd⟩ := I.cell x c (comp_sub e)
  exact ⟨v, o, old _ _ ho, hd⟩
 ·unfold compSt
  rw [List.length_append, List.length_replicate, List.length_map]
  exact S.len.symm
end
def PF (X : Cx) (ifs : List Expr) (t : TT) : Prop :=
 ∀ (pins : List (Addr × Obj)) (s : Shared) (σ : St) (H : Hp) (Q : Bool → Hp → Prop), Inv X pins σ H s → t σ H Q →
  wpAny (model X.prog X.w) X.A (forIn ifs true fun c r => if r = true then do let ok ← isTrue c X.env (eval c X.env); pure (ForInStep.yield ok) else pure (ForInStep.yield r)) (TP X pins σ Q) X.xe s
def tTrue : TT := fun _ H Q => Q true H
theorem pf_nil {X : Cx} : PF X [] tTrue := fun pins s σ H Q I h => wpAny_tests_nil ⟨H, I, h⟩
def tCompR (J : It) (g : TG) (tf : TT) (te : TE) (k : Nat) (σ0 : St) (D : Addr) (Fin : Hp → Prop) (H1 : Hp) : Prop :=
 ∃ W : Nat → Nat → List V → Hp → Prop, (∃ m, W 0 m [] (upd H1 D (.lst []))) ∧ ∀ i m ys H, W i m ys H →
  (J.stop i H ∧ Fin H) ∨ (J.go i H ∧ ∃ N : List V → Hp → Prop, (∀ ys' H', N ys' H' → ∃ m', m' < m ∧ W (i + 1) m' ys' H') ∧ ∀ x H', J.yld i H x H' → g x σ0 H' fun σ2 H2 => (σ2.drop k = σ0.drop k ∧ σ2.length = σ0.length) ∧ tf σ2 H2 fun b H3 =>
   if b = true then te σ2 H3 fun y H4 => H4 D = some (.lst ys) ∧ ys.length < sizeLine ∧ N (ys ++ [y]) (upd H4 D (.lst (ys ++ [y]))) else N ys H3)
section
variable {X : Cx} {pins : List (Addr × Obj)} {σ : St} {H : Hp} {s : Shared} {elt tg iter : Expr} {ifs : List Expr} {scope : Scope} {pos : Pos} {Nc : List Str} {k : Nat} {js : List Nat} {g : TG} {tf : TT} {te : TE}
theorem comp_block {J : It} {fp : List Addr} {it : Addr} {tn : Nat → Heap → Prop} {E : Value → Shared → Prop} {RR : Value → Addr → Result → Shared → Prop} {Fin : Addr → Hp → Prop} (hc : X.calm = true) (S : CompSc X.env.scope scope X.N Nc k js)
  (hg : ∀ C s3 H3 fp xe, PG (compCx X scope Nc C s3 H3 fp xe) tg g) (hf : ∀ C s3 H3 fp xe, PF (compCx X scope Nc C s3 H3 fp xe) ifs tf)
  (he : ∀ C D H3, ∃ xe : Value → Shared → Prop, (∀ e s', xe e s' → notedBy (model X.prog X.w) X.A (compEnvC scope (capOf X.env.cells scope.names []) C X.env) (fun e s' => RR (.ref D) C (.error e) s') e s') ∧
   ∀ s3, Inv X pins σ H3 s3 → C = s3.heap.objs.size → (∀ b ∈ fp, FpOk X pins H3 b) → PE (compCx X scope Nc C s3 H3 fp xe) elt te)
  (I2 : Inv X pins σ H s) (T : Turn X.prog X.w X.K tg J fp it tn) (st2 : tn 0 s.heap) (f2 : ∀ b ∈ fp, FpOk X pins H b) (hR : ∀ D, H D = none → tCompR J g tf te k (compSt k js σ) D (Fin D) H)
  (hRR : ∀ D C H' s' m', Inv X pins σ H' s' → s'.heap.Ns C m' → H' C = none → C ≠ X.env.locals → X.s₀.heap.objs.size ≤ C → (∀ x c, X.env.cells.lookup x = some c → c ≠ C) → (∀ p ∈ X.pn ++ pins, p.1 ≠ C) → Fin D H' → RR (.ref D) C (.ok .next) s') :
  wpAny (model X.prog X.w) X.A (newList []) (fun acc s₃ => wpAny (model X.prog X.w) X.A (newFunctionEnv scope X.env.globals (capOf X.env.cells scope.names []) [] X.env.qual none .none (some X.env)) (fun cenv s₄ =>
   codeAny (model X.prog X.w) X.A (.compStart (.ListComp elt [⟨tg, iter, ifs, 0⟩] scope pos) 0 (.ref it) acc { cenv with scope := relabel scope X.env }) (RR acc cenv.locals) s₄) E s₃) E s := by
 refine wpAny_newObj_type (wpAny_newFunctionEnv S.cell (by intro y hy; simp at hy) (fun h₁ hns₁ hsb₁ => ?_) S.kind)
 dsimp only at hns₁ hsb₁ ⊢
 have I3 : Inv X pins σ (upd H s.heap.objs.size (.lst [])) { s with heap := s.heap.push { cls := .type "list", data := .seq ([] : List Value).toArray }, toks := s.toks } := I2.lnew (its := []) .nil (Nat.zero_le _)
 have hDn : H s.heap.objs.size = none := I2.fresh
 obtain ⟨W, ⟨m0, w0⟩, turn⟩ := hR _ hDn
 generalize hs3 : ({ s with heap := s.heap.push { cls := .type "list", data := .seq ([] : List Value).toArray }, toks := s.toks } : Shared) = s3 at I3
 have e3 : s3.heap = s.heap.push { cls := .type "list", dict := none, data := .seq ([] : List Value).toArray } := by rw [← hs3]
 rw [← e3] at hns₁ hsb₁ ⊢
 have fpo : ∀ b ∈ fp, b < s.heap.objs.size := fun b hb => by obtain ⟨o, e, _⟩ := T.obj _ _ st2 b hb; exact Heap.lt_size e
 have sz3 : s3.heap.objs.size = s.heap.objs.size + 1 := by rw [e3, Heap.size_push]
 have fpo3 : ∀ b ∈ fp, b < s3.heap.objs.size := fun b hb => by rw [sz3]; exact Nat.lt_succ_of_lt (fpo b hb)
 have f3 : ∀ b ∈ fp, FpOk X pins (upd H s.heap.objs.size (.lst [])) b := fun b hb => ⟨by rw [upd_ne (Nat.ne_of_lt (fpo b hb))]; exact (f2 b hb).1, (f2 b hb).2⟩
 have old : ∀ b o, s3.heap.get? b = some o → h₁.get? b = some o := fun b o e => hsb₁.extBut b o (Nat.ne_of_lt (Heap.lt_size e)) (Heap.get?_push_of_some _ e)
 have oldS : ∀ b o, s.heap.get? b = some o → h₁.get? b = some o := fun b o e => old b o (by rw [e3]; exact Heap.get?_push_of_some _ e)
 obtain ⟨xe, hxe, hel⟩ := he s3.heap.objs.size s.heap.objs.size (upd H s.heap.objs.size (.lst []))
 have hel := hel s3 I3 rfl f3
 have I4 : Inv (compCx X scope Nc s3.heap.objs.size s3 (upd H s.heap.objs.size (.lst [])) fp xe) [] (compSt k js σ) (upd H s.heap.objs.size (.lst [])) { s3 with heap := h₁, toks := s.toks + ([] : List (Str × Value)).length } :=
  comp_inv I3 S f3 fpo3 hns₁ old
 have st4 : tn 0 h₁ := T.keep _ _ _ st2 fun b hb o e => oldS b o e
 have es3 : ({ s3 with heap := h₁, toks := s.toks + ([] : List (Str × Value)).length } : Shared) = { s with heap := h₁, toks := s.toks + ([] : List (Str × Value)).length } := by rw [← hs3]
 rw [es3] at I4
 have ok := I2.ok
 have lk := I3.lt
 have hCL : s3.heap.objs.size ≠ X.env.locals := Nat.ne_of_gt lk
 have stat : ∀ {H' : Hp}, (∀ b ∈ fp, H' b = none) → ∀ b ∈ fp, FpOk (compCx X scope Nc s3.heap.objs.size s3 (upd H s.heap.objs.size (.lst [])) fp xe) [] H' b := fun hn b hb =>
  ⟨hn b hb, Nat.ne_of_lt (fpo3 b hb), fun z => (List.mem_cons.mp (I3.stkSub b z)).elim (fun q => (f3 b hb).2.1 q) fun q => (f3 b hb).2.2.1 q, .inl hb, fun x c e => (f3 b hb).2.2.2.2.1 x c (comp_sub e), fun p hp => absurd (show p ∈ ([] : List (Addr × Obj)) from hp) (by simp)⟩
 have loop : codeAny (model X.prog X.w) X.A (.compLoop (.ListComp elt [⟨tg, iter, ifs, 0⟩] scope pos) 0 (.ref it) (.ref s.heap.objs.size) (compEnvC scope (capOf X.env.cells scope.names []) s3.heap.objs.size X.env))
    (RR (.ref s.heap.objs.size) s3.heap.objs.size) { s with heap := h₁, toks := s.toks + ([] : List (Str × Value)).length } := by
  refine compLoop_go rfl (fun n s' => ∃ i ys H', Inv (compCx X scope Nc s3.heap.objs.size s3 (upd H s.heap.objs.size (.lst [])) fp xe) [] (compSt k js σ) H' s' ∧ tn i s'.heap ∧ (∀ b ∈ fp, H' b = none) ∧ W i n ys H') ?_ m0 ⟨0, [], _, I4, st4, fun b hb => (f3 b hb).1, w0⟩
  rintro n s5 ⟨i, ys, H5, I5, st5, fr5, w5⟩
  rcases turn i n ys H5 w5 with ⟨stop, fin⟩ | ⟨go, Nx, hNx, step⟩
  ·refine thn (T.done (compCx X scope Nc s3.heap.objs.size s3 (upd H s.heap.objs.size (.lst [])) fp xe) rfl rfl rfl hc i [] s5 (compSt k js σ) H5 _ I5 (stat fr5) st5 stop) fun r s6 ⟨hr, I6⟩ => ?_
   subst hr
   obtain ⟨m6, hn6, _⟩ := I6.loc
   have J : Inv X pins σ H5 s6 := I3.call' (ch := fp) (I6.os.trans rfl) I6.base I6.hok I6.bare fun b hb => ⟨(f3 b hb).2.2.2.1, (f3 b hb).2.1, (f3 b hb).2.2.2.2.1, (f3 b hb).2.2.2.2.2⟩
   refine hRR _ _ H5 s6 m6 J hn6 I6.free hCL (I3.sz) (fun x c e z => ?_) (fun p hp z => ?_) fin
   ·obtain ⟨v, q⟩ := I3.cell x c e
    exact absurd q.lt (by rw [z]; exact Nat.lt_irrefl _)
   ·exact absurd (Heap.lt_size (I3.pin p hp).1) (by rw [z]; exact Nat.lt_irrefl _)
  ·refine thn (T.item (compCx X scope Nc s3.heap.objs.size s3 (upd H s.heap.objs.size (.lst [])) fp xe) rfl rfl rfl hc i [] s5 (compSt k js σ) H5 _ I5 (stat fr5) st5 go) fun r s6 ⟨u, hr, h6⟩ => ?_
   subst hr
   refine thn h6 fun _ s7 ⟨x, H7, I7, r7, y7, st7, fr7⟩ => ?_
   have I7' := I7.pinned (stat fr7) (T.obj _ _ st7)
   refine wpAny_mono (hg _ _ _ _ _ _ s7 _ H7 x u _ I7' r7 (step x H7 y7)) (fun _ s8 ⟨σ8, H8, I8, ⟨d8, l8⟩, q8⟩ => ?_) fun e s' z => hxe e s' z
   refine wpAny_mono (hf _ _ _ _ _ _ s8 σ8 H8 _ I8 q8) (fun b s9 ⟨H9, I9, q9⟩ => ?_) fun e s' z => hxe e s' z
   have again : ∀ {H' : Hp} {s' : Shared} {ys' : List V}, Inv (compCx X scope Nc s3.heap.objs.size s3 (upd H s.heap.objs.size (.lst [])) fp xe) ([] ++ pinsAt fp s7.heap) σ8 H' s' → Nx ys' H' →
     ∃ m, m < n ∧ ∃ i ys H', Inv (compCx X scope Nc s3.heap.objs.size s3 (upd H s.heap.objs.size (.lst [])) fp xe) [] (compSt k js σ) H' s' ∧ tn i s'.heap ∧ (∀ b ∈ fp, H' b = none) ∧ W i m ys H' := fun {H' s' ys'} I' hw => by
    obtain ⟨m', hm, w'⟩ := hNx _ _ hw
    refine ⟨m', hm, i + 1, ys', H', (I'.unpinned).weak l8.symm fun j v e => ?_, T.keep _ _ _ st7 fun b hb o e => (I'.pin (b, o) (List.mem_append_right _ (List.mem_append_right _ (mem_pinsAt hb e)))).1, fun b hb => ?_, w'⟩
    ·by_cases hj : j < k
     ·unfold compSt at e
      rw [List.getElem?_append_left (by rw [List.length_replicate]; exact hj), List.getElem?_replicate] at e
      split at e <;> cases e
     ·have e' : ((compSt k js σ).drop k)[j - k]? = some (some v) := by rw [List.getElem?_drop, show k + (j - k) = j by omega]; exact e
      rw [← d8, List.getElem?_drop, show k + (j - k) = j by omega] at e'
      exact e'
    ·obtain ⟨o, e, d⟩ := T.obj _ _ st7 b hb
     exact (I'.pin (b, o) (List.mem_append_right _ (List.mem_append_right _ (mem_pinsAt hb e)))).2.1
   cases b with
   | false =>
    rw [if_neg Bool.false_ne_true] at q9 ⊢
    exact again I9 q9
   | true =>
    rw [if_pos rfl] at q9 ⊢
    refine wpAny_mono (hel _ s9 σ8 H9 _ I9 q9) (fun v s10 ⟨y, H10, I10, r10, hD, hz, w'⟩ => ?_) fun e s' z => hxe e s' z
    refine wpAny_mono (mt_append (X := compCx X scope Nc s3.heap.objs.size s3 (upd H s.heap.objs.size (.lst [])) fp xe) _ s10 σ8 H10 (.ref s.heap.objs.size) [y] (.ref s.heap.objs.size) [v] (fun _ H' => H' = upd H10 s.heap.objs.size (.lst (ys ++ [y]))) I10 rfl (.cons r10 .nil)
     ⟨_, ys, y, rfl, rfl, hD, hz, rfl⟩) (fun _ s11 ⟨_, H11, I11, _, q11⟩ => ?_) fun e s' z => hxe e s' z
    subst q11
    exact again I11 w'
 exact codeAny_compStart_list loop (T.self _ 0 _ _ _ st4 loop)
end
def tComp (wi : TI) (g : TG) (tf : TT) (te : TE) (k : Nat) (js : List Nat) : TE := fun σ H Q => wi σ H fun J H1 => ∀ D, H1 D = none → tCompR J g tf te k (compSt k js σ) D (fun H' => Q (.ref D) H') H1
def tCompSet (i : Nat) (wi : TI) (g : TG) (tf : TT) (te : TE) (k : Nat) (js : List Nat) : TS := fun N σ H => wi σ H fun J H1 => ∀ D, H1 D = none → tCompR J g tf te k (compSt k js σ) D (fun H' => N.nx (σ.set i (some (.ref D))) H') H1
section
variable {X : Cx} {elt tg iter : Expr} {ifs : List Expr} {scope : Scope} {pos : Pos} {Nc : List Str} {k : Nat} {js : List Nat} {wi : TI} {g : TG} {tf : TT} {te : TE}
theorem pe_comp (hc : X.calm = true) (S : CompSc X.env.scope scope X.N Nc k js) (hi : PI X tg iter wi) (hg : ∀ C s3 H3 fp xe, PG (compCx X scope Nc C s3 H3 fp xe) tg g) (hf : ∀ C s3 H3 fp xe, PF (compCx X scope Nc C s3 H3 fp xe) ifs tf)
  (he : ∀ C s3 H3 fp xe, PE (compCx X scope Nc C s3 H3 fp xe) elt te) (hs : ∀ x, foldedSetIterable iter X.env x = pure x := by intro _; rfl) : PE X (.ListComp elt [⟨tg, iter, ifs, 0⟩] scope pos) (tComp wi g tf te k js) := by
 intro pins s σ H Q I h
 rw [eval_ListComp]
 refine wpAny_comprehension_free (use := none) rfl hs (closure_cap (comp_cells I S)) S.kind S.names (thn (hi pins s σ H _ I h) fun v s1 h1 => thn h1 fun itv s2 h2 => ?_)
 obtain ⟨it, fp, tn, J, H2, rfl, I2, T, st2, f2, hR⟩ := h2
 refine comp_block (RR := fun acc C => compPost (model X.prog X.w) X.A X.xe none (EP X pins σ Q) acc C) (Fin := fun D H' => Q (.ref D) H') hc S hg hf (fun C D H3 => ⟨fun _ _ => False, fun _ _ z => z.elim, fun s3 _ _ _ => he _ _ _ _ _⟩) I2 T st2 f2 hR ?_
 intro D C H' s' m' I' hn hC hCL hsz hcl hpn q
 exact ⟨m', hn, fun h' hs' => ⟨.ref D, H', I'.turned (t' := s'.toks) (fun b o hb e => (hs'.2 b hb).trans e) hC hCL (.inr hsz) hcl hpn, rfl, q⟩⟩
theorem ps_compSet {i : Nat} {y : Str} {py spos : Pos} (hc : X.calm = true) (S : CompSc X.env.scope scope X.N Nc k js) (hN : X.N.Nodup) (hy : X.N[i]? = some y) (hi : PI X tg iter wi) (hg : ∀ C s3 H3 fp xe, PG (compCx X scope Nc C s3 H3 fp xe) tg g) (hf : ∀ C s3 H3 fp xe, PF (compCx X scope Nc C s3 H3 fp xe) ifs tf)
  (he : ∀ C s3 H3 fp xe, PE (compCx X scope Nc C s3 H3 fp xe) elt te) (hl : X.env.scope.names.lookup y = some .local := by rfl) (hs : ∀ x, foldedSetIterable iter X.env x = pure x := by intro _; rfl)
  (hsw : swapsWith (.ListComp elt [⟨tg, iter, ifs, 0⟩] scope pos) (some (.Name y py)) spos.line X.env = pure true := by rfl) : PS X (.Assign [.Name y py] (.ListComp elt [⟨tg, iter, ifs, 0⟩] scope pos) spos) (tCompSet i wi g tf te k js) := by
 intro pins s σ H N I h
 rw [exec_Assign_Name_used _ _ _ _ hsw]
 refine wpAny_bind (wpAny_standAt (wpAny_bind ?_))
 show wpAny _ X.A (do let _ ← comprehension (.ListComp elt [⟨tg, iter, ifs, 0⟩] scope pos) scope X.env _ (newList []) false (eval iter X.env) (some (assign (.Name y py) X.env))) _ _ s
 refine wpAny_bind (thn (wpAny_comprehension_free (use := some (assign (.Name y py) X.env)) (Q := fun _ z => SP X pins N .next z) rfl hs (closure_cap (comp_cells I S)) S.kind S.names
  (thn (hi pins s σ H _ I h) fun v s1 h1 => thn h1 fun itv s2 h2 => ?_)) fun _ z hq => wpAny_pure (wpAny_pure hq))
 obtain ⟨it, fp, tn, J, H2, rfl, I2, T, st2, f2, hR⟩ := h2
 refine comp_block (RR := fun acc C => compPost (model X.prog X.w) X.A X.xe (some (assign (.Name y py) X.env)) (fun _ z => SP X pins N .next z) acc C) (Fin := fun D H' => N.nx (σ.set i (some (.ref D))) H') hc S hg hf
  (fun C D H3 => ⟨fun _ _ => False, fun _ _ z => z.elim, fun s3 _ _ _ => he _ _ _ _ _⟩) I2 T st2 f2 hR ?_
 intro D C H' s' m' I' hn hC hCL hsz hcl hpn q
 show wpAny _ X.A (assign (.Name y py) X.env (.ref D)) _ _ s'
 refine wpAny_assign_Name (store_ok2 (v := .ref D) I' hN hy (.inl hl) rfl (fun s'' I'' ⟨a, hsb, ha⟩ => ?_) (.inr hl))
 have hCa : C ≠ a := by
  rcases ha with ha | ha
  ·rw [ha]; exact hCL
  ·exact fun z => hcl y a ha z.symm
 exact ⟨m', hn.sameBut hsb hCa, fun h' hs' => ⟨_, H', I''.turned (t' := s''.toks) (fun b o hb e => (hs'.2 b hb).trans e) hC hCL (.inr hsz) hcl hpn, q⟩⟩
end
theorem comp_list {K : W.Frag} {a : Addr} {xs : List V} {g : TG} {tf : TT} {te : TE} {k : Nat} {σ0 : St} {D : Addr} {Fin : Hp → Prop} {H1 : Hp} (Pv : Nat → List V → Hp → Prop) (h0 : Pv 0 [] (upd H1 D (.lst []))) (hl : ∀ i ys H, i ≤ xs.length → Pv i ys H → SqL K H a xs)
  (hs : ∀ i x ys H, xs[i]? = some x → Pv i ys H → g x σ0 H fun σ2 H2 => (σ2.drop k = σ0.drop k ∧ σ2.length = σ0.length) ∧ tf σ2 H2 fun b H3 =>
   if b = true then te σ2 H3 fun y H4 => H4 D = some (.lst ys) ∧ ys.length < sizeLine ∧ Pv (i + 1) (ys ++ [y]) (upd H4 D (.lst (ys ++ [y]))) else Pv (i + 1) ys H3)
  (hd : ∀ ys H, Pv xs.length ys H → Fin H) : tCompR (Itl K a) g tf te k σ0 D Fin H1 := by
 refine ⟨fun i m ys H => m = xs.length - i ∧ i ≤ xs.length ∧ Pv i ys H, ⟨xs.length, by simp, Nat.zero_le _, h0⟩, ?_⟩
 rintro i m ys H ⟨rfl, hi, p⟩
 have q := hl i ys H hi p
 by_cases hlt : i < xs.length
 ·refine .inr ⟨⟨xs, xs[i], q, by simp [hlt]⟩, Pv (i + 1), fun ys' H' z => ⟨xs.length - (i + 1), by omega, rfl, hlt, z⟩, fun x H' y => ?_⟩
  obtain ⟨e, y⟩ := y
  subst e
  exact hs i x ys _ (y xs q) p
 ·have e : i = xs.length := by omega
  subst e
  exact .inl ⟨⟨xs, q, Nat.le_refl _⟩, hd ys H p⟩
theorem comp_range {lo : Int} {n : Nat} {g : TG} {tf : TT} {te : TE} {k : Nat} {σ0 : St} {D : Addr} {Fin : Hp → Prop} {H1 : Hp} (Pv : Nat → List V → Hp → Prop) (h0 : Pv 0 [] (upd H1 D (.lst [])))
  (hs : ∀ i ys H, i < n → Pv i ys H → g (.int (lo + i)) σ0 H fun σ2 H2 => (σ2.drop k = σ0.drop k ∧ σ2.length = σ0.length) ∧ tf σ2 H2 fun b H3 =>
   if b = true then te σ2 H3 fun y H4 => H4 D = some (.lst ys) ∧ ys.length < sizeLine ∧ Pv (i + 1) (ys ++ [y]) (upd H4 D (.lst (ys ++ [y]))) else Pv (i + 1) ys H3)
  (hd : ∀ ys H, Pv n ys H → Fin H) : tCompR (Itr lo n) g tf te k σ0 D Fin H1 := by
 refine ⟨fun i m ys H => m = n - i ∧ i ≤ n ∧ Pv i ys H, ⟨n, by simp, Nat.zero_le _, h0⟩, ?_⟩
 rintro i m ys H ⟨rfl, hi, p⟩
 by_cases hlt : i < n
 ·refine .inr ⟨hlt, Pv (i + 1), fun ys' H' z => ⟨n - (i + 1), by omega, rfl, hlt, z⟩, fun x H' y => ?_⟩
  obtain ⟨e, y⟩ := y
  subst e y
  exact hs i ys _ hlt p
 ·have e : i = n := by omega
  subst e
  exact .inl ⟨Nat.le_refl _, hd ys H p⟩
section
variable {X : Cx}
theorem strsAre_of {ys : List Str} : ∀ {us : List Value}, Vals (ys.map V.str) us → StrsAre us ys := by
 induction ys with
 | nil => intro us r; rw [List.map_nil] at r; cases r; exact .nil
 | cons n ns ih =>
  intro us r
  rw [List.map_cons] at r
  cases r with
  | cons r1 r2 =>
   obtain ⟨t, e⟩ := r1
   subst e
   exact .cons n t (ih r2)
theorem mt_join : MtR X "str.join" (fun x vs H Q => ∃ z a ys, x = .str z ∧ vs = [.ref a] ∧ SqL X.K H a (ys.map V.str) ∧ (ys.map (·.length)).sum + ys.length * z.length ≤ 16777216 ∧ Q (.str (Txt.join z ys)) H) := by
 intro pins s σ H x vs v us Q I rx rv h
 obtain ⟨z, a, ys, rfl, rfl, hq, hp, q⟩ := h
 obtain ⟨t, rfl⟩ := rx
 obtain ⟨u, rfl, ru⟩ := rv.one
 cases (show u = Value.ref a from ru)
 obtain ⟨its, r, pl, hz⟩ := I.list hq
 exact join_list pl.isList (by simpa using strsAre_of r) hp fun t' k => ⟨.str (Txt.join z ys), H, I.tok _, ⟨_, rfl⟩, q⟩
end
section
variable {X : Cx} {K : W.Frag}
theorem ixK_list (hK : X.K = K := by rfl) : IxR X (rIxL K) := hK ▸ ix_list
theorem ixK_tup (hK : X.K = K := by rfl) : IxR X (rIxT K) := hK ▸ ix_tup
theorem slK_list (hK : X.K = K := by rfl) : SlR X (rSlL K) := hK ▸ sl_list
theorem opK_in (hK : X.K = K := by rfl) : OpR X (compareOp .In) (rIn K false) := hK ▸ op_in_seq
def rLenSeq (K : W.Frag) : List V → Hp → VK → Prop := fun xs H Q => ∃ p ys, xs = [.ref p] ∧ (SqL K H p ys ∨ SqT K H p ys) ∧ Q (.int ys.length) H
theorem callK_len_seq (hK : X.K = K := by rfl) : CallR X (.builtin "len") (rLenSeq K) := hK ▸ call_len_seq
def rListOf (K : W.Frag) : List V → Hp → VK → Prop := fun xs H Q => ∃ p ys, xs = [.ref p] ∧ (SqL K H p ys ∨ SqT K H p ys) ∧ ∀ l, H l = none → Q (.ref l) (upd H l (.lst ys))
theorem callK_list_of (hK : X.K = K := by rfl) : CallR X (.type "list") (rListOf K) := hK ▸ call_list_of
theorem callK_isi (hK : X.K = K := by rfl) : CallR X (.builtin "isinstance") (rIsi K) := hK ▸ call_isi
def rJoin (K : W.Frag) : V → List V → Hp → VK → Prop := fun x vs H Q => ∃ z a ys, x = .str z ∧ vs = [.ref a] ∧ SqL K H a (ys.map V.str) ∧ (ys.map (·.length)).sum + ys.length * z.length ≤ 16777216 ∧ Q (.str (Txt.join z ys)) H
theorem mtK_join (hK : X.K = K := by rfl) : MtR X "str.join" (rJoin K) := hK ▸ mt_join
theorem pgK_tup {es : List Expr} {k : Nat} {t : TGs} {n : Nat} {pos : Pos} (hc : X.calm = true) (h : PGs X es t) (hK : X.K = K := by rfl) (hn : (assignEach es X.env).length = n := by rfl) (hst : (assignEach es X.env).findIdx? (·.1) = none := by rfl) :
  PG X (.Tuple es k pos) (gTup K n t) := hK ▸ pg_tup hc h hn hst
variable {o e : Expr} {es : List Expr} {to : TE} {t : TA} {name : Str} {apos cpos : Pos} {T id : String} {r : V → List V → Hp → VK → Prop}
theorem pe_bmK0 (pa : PlainAttrs T) (slot : Slot T name id) (hty : typeOf (.builtin id) = pure (.type "method_descriptor")) (hm : MtR X id r) (ho : PE X o to) (hK : X.K = K := by rfl)
  (hbase : attributeBase o name X.env (eval o X.env) = eval o X.env := by rfl) (hline : (apos.endLine == cpos.line) = true := by rfl) : PE X (.Call (.Attribute o name apos) [] [] cpos) (tBM0 K T r to) := hK ▸ pe_bm0 pa slot hty hm ho hbase hline
theorem pe_bmK (pa : PlainAttrs T) (slot : Slot T name id) (hty : typeOf (.builtin id) = pure (.type "method_descriptor")) (hm : MtR X id r) (ho : PE X o to) (ha : PA X (e :: es) t) (hK : X.K = K := by rfl)
  (hbase : attributeBase o name X.env (eval o X.env) = eval o X.env := by rfl)
  (hfew : ((backTo cpos (starEach (e :: es) X.env)).all (fun x => !x.1) && (backToKw cpos (keywordEach [] X.env)).all (fun x => x.1.isSome)
   && decide ((e :: es).length + ([] : List Keyword).length + (if ([] : List Keyword).isEmpty then 0 else 1) < 30)) = true := by rfl)
  (hline : (apos.endLine == cpos.line) = true := by rfl) (hs : starEach (e :: es) X.env = (false, eval e X.env) :: starEach es X.env := by rfl) (hplain : (backTo cpos (starEach es X.env)).any (·.1) = false := by rfl) :
  PE X (.Call (.Attribute o name apos) (e :: es) [] cpos) (tBM K T r to t) := hK ▸ pe_bm pa slot hty hm ho ha hbase hfew hline hs hplain
end
section
variable {X : Cx}
theorem mt_endswith : MtR X "str.endswith" (fun x vs H Q => ∃ z y, x = .str z ∧ vs = [.str y] ∧ Q (.bl (Txt.endswith z y)) H) := by
 intro pins s σ H x vs v us Q I rx rv h
 obtain ⟨z, y, rfl, rfl, q⟩ := h
 obtain ⟨t, rfl⟩ := rx
 obtain ⟨u, rfl, ru⟩ := rv.one
 obtain ⟨t2, rfl⟩ := ru
 exact call_gives F.slot_str_endswith (typeIs_str _ _ _) F.entry_str_endswith (F.args_str_endswith_2 _ _) (gives_str_endswith z y t t2) (show EP X pins σ Q (.bool (Txt.endswith z y)) s from ⟨.bl _, H, I, rfl, q⟩)
def partV (p : Str × Str × Str) : List V := [.str p.1, .str p.2.1, .str p.2.2]
theorem mt_partition : MtR X "str.partition" (fun x vs H Q => ∃ z y, x = .str z ∧ vs = [.str y] ∧ (y.length == 0) = false ∧ z.length ≤ sizeLine ∧ ∀ p, H p = none → Q (.ref p) (upd H p (.tup (partV (Txt.partition z y))))) := by
 intro pins s σ H x vs v us Q I rx rv h
 obtain ⟨z, y, rfl, rfl, hy, hz, q⟩ := h
 obtain ⟨t, rfl⟩ := rx
 obtain ⟨u, rfl, ru⟩ := rv.one
 obtain ⟨t2, rfl⟩ := ru
 refine call_meets F.slot_str_partition (typeIs_str _ _ _) F.entry_str_partition (F.args_str_partition_2 _ _) (meets_str_partition z y t t2 hy hz) ?_
 have fin : ∀ (a b c : Str) (ta tb tc : Tok) (k : Nat), (a, b, c) = Txt.partition z y → EP X pins σ Q (.ref s.heap.objs.size) { s with toks := k, heap := s.heap.push { cls := .type "tuple", data := .seq [Value.str a ta, .str b tb, .str c tc].toArray } } := fun a b c ta tb tc k e => by
  refine ⟨.ref s.heap.objs.size, _, I.laid (o := .tup (partV (Txt.partition z y))) (fun b u e => Heap.get?_push_of_some _ e) (Nat.le_refl _) ?_, rfl, q _ I.fresh⟩
  rw [← e]
  exact ⟨by show 3 ≤ sizeLine; decide, _, .cons ⟨_, rfl⟩ (.cons ⟨_, rfl⟩ (.cons ⟨_, rfl⟩ .nil)), ⟨_, Heap.get?_push_size _ rfl, rfl, _, rfl⟩⟩
 show EP X pins σ Q (.ref s.heap.objs.size) _
 cases ho : Builtin.Str.occurrences z y 0 z.length 1 with
 | nil => exact fin z Str.empty Str.empty _ _ _ _ (by unfold Txt.partition; rw [ho])
 | cons i r => exact fin _ y _ _ _ _ _ (by unfold Txt.partition; rw [ho])
theorem mt_split : MtR X "str.split" (fun x vs H Q => ∃ z y, x = .str z ∧ vs = [.str y] ∧ (y.length == 0) = false ∧ z.length ≤ sizeLine ∧ (Txt.split z y).length ≤ sizeLine ∧ ∀ p, H p = none → Q (.ref p) (upd H p (.lst ((Txt.split z y).map V.str)))) := by
 intro pins s σ H x vs v us Q I rx rv h
 obtain ⟨z, y, rfl, rfl, hy, hz, hn, q⟩ := h
 obtain ⟨t, rfl⟩ := rx
 obtain ⟨u, rfl, ru⟩ := rv.one
 obtain ⟨t2, rfl⟩ := ru
 have fin : ∀ (its : List Value) (k : Nat), Vals ((Txt.split z y).map V.str) its → EP X pins σ Q (.ref s.heap.objs.size) { s with toks := k, heap := s.heap.push { cls := .type "list", data := .seq its.toArray } } := fun its k r =>
  ⟨.ref s.heap.objs.size, _, I.lnew r (by rw [List.length_map]; exact hn), rfl, q _ I.fresh⟩
 have one : Txt.split z y = [z] → EP X pins σ Q (.ref s.heap.objs.size) { s with toks := s.toks, heap := s.heap.push { cls := .type "list", data := .seq [Value.str z t].toArray } } := fun e => fin _ _ (by rw [e]; exact .cons ⟨_, rfl⟩ .nil)
 have vals : ∀ (ps : List Str) (k : Nat), Vals (ps.map V.str) (strsFrom k ps) := by
  intro ps
  induction ps with
  | nil => intro k; exact .nil
  | cons p r ih => intro k; exact .cons ⟨_, rfl⟩ (ih _)
 cases h1 : (decide (z.length < y.length) || decide (Builtin.Str.strKind z < Builtin.Str.strKind y)) with
 | true => exact call_meets F.slot_str_split (typeIs_str _ _ _) F.entry_str_split (F.args_str_split_2 _ _) (meets_str_split_cannot_occur z y t t2 h1) (one (by unfold Txt.split; rw [if_pos h1]))
 | false =>
  cases hf : (Builtin.Str.occurrences z y 0 z.length (z.length + 1)).isEmpty with
  | true => exact call_meets F.slot_str_split (typeIs_str _ _ _) F.entry_str_split (F.args_str_split_2 _ _) (meets_str_split_not_found z y t t2 h1 hy hf) (one (by unfold Txt.split; rw [if_neg (by rw [h1]; exact Bool.false_ne_true), if_pos hf]))
  | false =>
   have e : Txt.split z y = Builtin.Str.partsBetween z (Builtin.Str.occurrences z y 0 z.length (z.length + 1)) y.length := by unfold Txt.split; rw [if_neg (by rw [h1]; exact Bool.false_ne_true), if_neg (by rw [hf]; exact Bool.false_ne_true)]
   exact call_meets F.slot_str_split (typeIs_str _ _ _) F.entry_str_split (F.args_str_split_2 _ _) (meets_str_split_sep z y t t2 h1 hy hf hz (by rw [← e]; exact hn)) (fin _ _ (by rw [e]; exact vals _ _))
def rSlS : V → Option Int → Option Int → Hp → VK → Prop := fun x lo hi H Q => ∃ z, x = .str z ∧ z.length ≤ sizeLine ∧ Q (.str (Txt.slice z lo hi)) H
theorem sl_str : SlR X rSlS := by
 intro pins s σ H x v vl vu lo hi sl Q I rx hs pl pu h
 obtain ⟨z, rfl, hz, q⟩ := h
 obtain ⟨t, rfl⟩ := rx
 refine ⟨"str", _, F.slot_str_getitem.lookup, typeIs_str _ _ _, ?_⟩
 cases pl with
 | none =>
  cases pu with
  | none => exact wpAny_getItem_str_slice (l := none) (u := none) (st := none) hs rfl (post_val_or_str ⟨Nat.le_trans (Txt.slice_le z _ _) hz, fun t' k => ⟨.str _, H, I.tok _, ⟨_, rfl⟩, q⟩⟩)
  | int j uj => exact wpAny_getItem_str_slice (l := none) (u := some (j, uj)) (st := none) hs rfl (post_val_or_str ⟨Nat.le_trans (Txt.slice_le z _ _) hz, fun t' k => ⟨.str _, H, I.tok _, ⟨_, rfl⟩, q⟩⟩)
 | int i ui =>
  cases pu with
  | none => exact wpAny_getItem_str_slice (l := some (i, ui)) (u := none) (st := none) hs rfl (post_val_or_str ⟨Nat.le_trans (Txt.slice_le z _ _) hz, fun t' k => ⟨.str _, H, I.tok _, ⟨_, rfl⟩, q⟩⟩)
  | int j uj => exact wpAny_getItem_str_slice (l := some (i, ui)) (u := some (j, uj)) (st := none) hs rfl (post_val_or_str ⟨Nat.le_trans (Txt.slice_le z _ _) hz, fun t' k => ⟨.str _, H, I.tok _, ⟨_, rfl⟩, q⟩⟩)
theorem call_int_str : CallR X (.type "int") (fun xs H Q => ∃ z n, xs = [.str z] ∧ PySem.intText? z = some n ∧ z.length ≤ 640 ∧ Q (.int n) H) := by
 intro pins s σ H xs us Q I r h
 obtain ⟨z, n, rfl, hn, hl, q⟩ := h
 obtain ⟨u, rfl, ru⟩ := r.one
 obtain ⟨t, rfl⟩ := ru
 exact W.KIN.call_text hn hl ⟨.int n, H, I.tok _, ⟨_, rfl⟩, q⟩
def rAny (K : W.Frag) : List V → Hp → VK → Prop := fun xs H Q => ∃ (a : Addr) (bs : List Bool), xs = [.ref a] ∧ SqL K H a (bs.map V.bl) ∧ Q (.bl (bs.any id)) H
theorem any_range : ∀ (bs : List Bool), (List.range bs.length).any (fun i => bs.getD i false) = bs.any id
 | [] => rfl
 | b :: r => by
  rw [List.length_cons, List.range_succ_eq_map, List.any_cons, List.any_map, List.any_cons, ← any_range r]; rfl
theorem bools_at {bs : List Bool} {us : List Value} (r : Vals (bs.map V.bl) us) {i : Nat} {v : Value} (h : us.toArray[i]? = some v) : v = .bool (bs.getD i false) := by
 have h : us[i]? = some v := by simpa using h
 have hi : i < bs.length := by
  have := (List.getElem?_eq_some_iff.mp h).1
  rw [← r.length, List.length_map] at this; exact this
 obtain ⟨u, hu, ru⟩ := r.get (i := i) (x := .bl (bs.getD i false)) (by rw [List.getElem?_map, List.getElem?_eq_getElem hi]; simp [hi])
 rw [h] at hu; cases hu
 exact ru
theorem truth_bools {prog : Program} {w : World} {A : Around} {bs : List Bool} {us : List Value} (r : Vals (bs.map V.bl) us) : TruthOf prog w A (fun i v => us.toArray[i]? = some v) (fun i => bs.getD i false) := fun i v s Q E hP hQ => by
 rw [bools_at r hP]
 exact wpAny_truthy_bool hQ
theorem callK_any {K : W.Frag} (hc : X.calm = true := by rfl) (hK : X.K = K := by rfl) : CallR X (.builtin "any") (rAny K) := by
 subst hK
 intro pins s σ H xs us Q I r h
 obtain ⟨a, bs, rfl, hq, q⟩ := h
 obtain ⟨u, rfl, ru⟩ := r.one
 cases (show u = Value.ref a from ru)
 obtain ⟨its, rv, pl, hz⟩ := I.list hq
 have hlt : a < s.heap.objs.size := by obtain ⟨_, e, _⟩ := pl.isList; exact Heap.lt_size e
 refine call_any_walk (wpAny_pyIter_list pl.isList ⟨_, _, _, _, _, _, _, rfl, Walks.list (A := X.A.in1) (I.ok.hd hc) s.heap.objs.size a (Nat.ne_of_lt hlt) its.toArray, ⟨⟨_, Heap.get?_push_size _ rfl, rfl, rfl⟩, pl.isList.push _⟩, truth_bools rv, fun h' tk hk => ?_⟩)
 have I' : Inv X pins σ H { s with heap := h', toks := tk } := I.kept fun b o e => hk b o (by simpa using Nat.ne_of_lt (Heap.lt_size e)) (Heap.get?_push_of_some _ e)
 refine ⟨.bl _, H, I', rfl, ?_⟩
 rw [show its.toArray.size = bs.length by rw [List.size_toArray, ← rv.length, List.length_map], any_range]
 exact q
theorem bt_any : bootBuiltins "any" = some (.builtin "any") := by decide +kernel
end
def Its (z : Str) : It := ⟨fun i _ => i < z.length, fun i H v H' => H' = H ∧ ∃ c, z.cps[i]? = some c ∧ v = .str ⟨#[c]⟩, fun i _ => z.length ≤ i⟩
theorem str_walks {P : Program} {w : World} {A : Around} (hh : A.handled = none) (it : Addr) (z : Str) (t : Tok) : Walks P w A it [it] [it] z.cps.size (SignAt z) (fun i h => h.IsStrIter it (strIterType z) z t i) := by
 unfold strIterType
 cases ha : z.cps.all (· < 128) with
 | true => exact Walks.strAscii hh it z t
 | false => exact Walks.strWide hh it z t
theorem turn_str {P : Program} {w : World} {K : W.Frag} {tg : Expr} (z : Str) (t : Tok) (it : Addr) (hn : ["enumerate", "zip", "dict_itemiterator", "dict_reverseitemiterator", "odict_iterator", "itertools.zip_longest", "itertools.pairwise"].contains (strIterType z) = false) :
  Turn P w K tg (Its z) [it] it (fun i h => h.IsStrIter it (strIterType z) z t i) where
 mem := by simp
 obj := fun i h st b hb => by
  have e : b = it := by simpa using hb
  subst e
  obtain ⟨o, e, c, d⟩ := st
  exact ⟨o, e, fun v z => by rw [d] at z; cases z⟩
 keep := fun i h h' st k => let ⟨o, e, r⟩ := st; ⟨o, k it (by simp) o e, r⟩
 item := by
  intro X hP hw hK hc i pins s σ H E I hf st hg
  subst hP hw hK
  obtain ⟨f0, f1, f2, f3, f4, f5⟩ := hf it (by simp)
  refine (str_walks (P := X.prog) (w := X.w) (I.ok.hd hc) it z t).item i s _ _ hg st fun v h' tk hv st' kk => ?_
  obtain ⟨c, u, hc', rfl⟩ := hv
  have I1 : Inv X pins σ H { s with heap := h', toks := tk } := I.turned (fun b o hb e => kk b o (by simpa using hb) e) f0 f1 f3 f4 f5
  obtain ⟨o, e, ec, ed⟩ := id st'
  exact ⟨_, rfl, go_of (s := { s with heap := h', toks := tk }) e ec ed hn ⟨.str ⟨#[c]⟩, H, I1, ⟨u, rfl⟩, ⟨rfl, c, hc', rfl⟩, st', fun b hb => (hf b hb).1⟩⟩
 done := by
  intro X hP hw hK hc i pins s σ H E I hf st hg
  subst hP hw hK
  obtain ⟨f0, f1, f2, f3, f4, f5⟩ := hf it (by simp)
  have hx : z.cps[i]? = none := Array.getElem?_eq_none hg
  have fin : ∀ h' : Heap, Heap.ExtBut it s.heap h' → none = (none : Option Value) ∧ Inv X pins σ H { s with heap := h' } := fun h' eb => ⟨rfl, I.turned (t' := s.toks) (fun b o hb e => eb b o hb e) f0 f1 f3 f4 f5⟩
  unfold strIterType at st
  split at st
  ·exact wpAny_pyNext_ascii_end (I.ok.hd hc) st hx fin
  ·exact wpAny_pyNext_wide_end (I.ok.hd hc) st hx fin
 self := fun _ _ _ _ _ st h => by
  unfold strIterType at st
  split at st
  ·exact wpAny_pyIter_striter_ascii st h
  ·exact wpAny_pyIter_striter_wide st h
def iStr (te : TE) : TI := fun σ H R => te σ H fun x H1 => ∃ z, x = .str z ∧ R (Its z) H1
section
variable {X : Cx} {tg : Expr}
theorem pi_str {l : Expr} {tl : TE} (hl : PE X l tl) : PI X tg l (iStr tl) := by
 intro pins s σ H R I h
 refine thn (hl pins s σ H _ I h) fun v s1 ⟨x, H1, I1, r1, q1⟩ => ?_
 obtain ⟨z, rfl, q⟩ := q1
 obtain ⟨t, rfl⟩ := r1
 refine wpAny_pyIter_strU ?_
 refine ⟨s1.heap.objs.size, [s1.heap.objs.size], _, _, H1, rfl, I1.kept (t' := s1.toks) fun b o e => Heap.get?_push_of_some _ e, turn_str z t _ (by unfold strIterType; split <;> decide), ⟨_, Heap.get?_push_size _ rfl, rfl, rfl⟩, fun b hb => ?_, q⟩
 have e : b = s1.heap.objs.size := by simpa using hb
 subst e
 exact I1.fpOk (Nat.le_refl _) (I1.hok.fresh (Nat.le_refl _))
end
def signS (c : Nat) : Str := ⟨#[c]⟩
theorem comp_str {z : Str} {g : TG} {tf : TT} {te : TE} {k : Nat} {σ0 : St} {D : Addr} {Fin : Hp → Prop} {H1 : Hp} (Pv : Nat → List V → Hp → Prop) (h0 : Pv 0 [] (upd H1 D (.lst [])))
  (hs : ∀ i c ys H, z.cps.toList[i]? = some c → Pv i ys H → g (.str (signS c)) σ0 H fun σ2 H2 => (σ2.drop k = σ0.drop k ∧ σ2.length = σ0.length) ∧ tf σ2 H2 fun b H3 =>
   if b = true then te σ2 H3 fun y H4 => H4 D = some (.lst ys) ∧ ys.length < sizeLine ∧ Pv (i + 1) (ys ++ [y]) (upd H4 D (.lst (ys ++ [y]))) else Pv (i + 1) ys H3)
  (hd : ∀ ys H, Pv z.length ys H → Fin H) : tCompR (Its z) g tf te k σ0 D Fin H1 := by
 refine ⟨fun i m ys H => m = z.length - i ∧ i ≤ z.length ∧ Pv i ys H, ⟨z.length, by simp, Nat.zero_le _, h0⟩, ?_⟩
 rintro i m ys H ⟨rfl, hi, p⟩
 by_cases hlt : i < z.length
 ·refine .inr ⟨hlt, Pv (i + 1), fun ys' H' q => ⟨z.length - (i + 1), by omega, rfl, hlt, q⟩, fun x H' y => ?_⟩
  obtain ⟨rfl, c, hc, rfl⟩ := y
  exact hs i c ys _ (by simpa using hc) p
 ·have e : i = z.length := by omega
  subst e
  exact .inl ⟨Nat.le_refl _, hd ys H p⟩
theorem pe_gconst {X : Cx} {x : Str} {v : V} {pos : Pos} (hg : Gl X x) (hm : ∃ u, X.mg x = some u ∧ RelV v u) (hd : (x == ("__debug__" : Str)) = false := by decide) : PE X (.Name x pos) (tC v) := by
 obtain ⟨u, h1, h2⟩ := hm
 exact pe_glob hg h1 h2 hd
theorem frames_mono {h h' B B' : Heap} : ∀ {l : List Env}, h.FunFrames B l → (∀ b ∈ frs l, h'.get? b = h.get? b) → (∀ b, B.get? b = none → B'.get? b = none) → h'.FunFrames B' l
 | [], _, _, _ => trivial
 | env :: rest, ⟨k, ⟨L, o, f, b, g, n⟩, r⟩, hk, hb => by
  refine ⟨k, ⟨L, o, f, hb L b, (hk L ?_).trans g, n⟩, frames_mono r (fun c hc => hk c ?_) hb⟩
  ·exact List.mem_filterMap.mpr ⟨env, List.mem_cons_self, f⟩
  ·obtain ⟨e, he, q⟩ := List.mem_filterMap.mp hc
   exact List.mem_filterMap.mpr ⟨e, List.mem_cons_of_mem _ he, q⟩
section
variable {X : Cx} {E : XK} {pins pins' : List (Addr × Obj)} {σ σ' : St} {H3 H' : Hp} {s3 s' : Shared} {scope : Scope} {Nc : List Str} {C a : Addr} {fp : List Addr} {xe : Value → Shared → Prop} {cls : Value} {cx : Option Addr} {B : Heap}
theorem comp_error (acc : XAcc X E) (I3 : Inv X pins σ H3 s3) (hC : C = s3.heap.objs.size) (hfp : ∀ b ∈ fp, FpOk X pins H3 b) (I : Inv (compCx X scope Nc C s3 H3 fp xe) pins' σ' H' s') (x : XAt (compCx X scope Nc C s3 H3 fp xe) pins' H' s' a cls cx B .any) (hE : E cls cx H') :
  ∃ m, s'.heap.Ns C m ∧ ∀ h', Heap.SameBut C s'.heap h' → ∀ cenv : Env, cenv.locals = C → wpAny (model X.prog X.w) X.A (passOn "comprehension.variables-let-go" (.ref a) cenv : Sem Value) (fun _ _ => False) X.xe { s' with heap := h' } := by
 obtain ⟨m, hn, _⟩ := id I.loc
 refine ⟨m, hn, fun h' hs cenv _ => ?_⟩
 have J : Inv X pins σ H' s' := I3.call' (ch := fp) (I.os.trans rfl) I.base I.hok I.bare fun b hb => ⟨(hfp b hb).2.2.2.1, (hfp b hb).2.1, (hfp b hb).2.2.2.2.1, (hfp b hb).2.2.2.2.2⟩
 have lt3 : ∀ b o, s3.heap.get? b = some o → b ≠ C := fun b o g z => absurd (Heap.lt_size g) (by rw [z, hC]; exact Nat.lt_irrefl _)
 have hCL : C ≠ X.env.locals := by rw [hC]; exact Nat.ne_of_gt I3.lt
 have hsz : X.s₀.heap.objs.size ≤ C := by rw [hC]; exact I3.sz
 have hcl : ∀ y c, X.env.cells.lookup y = some c → c ≠ C := fun y c e z => by
  obtain ⟨v, o, ho, _⟩ := I3.cell y c e
  exact lt3 c o ho z
 have hpn : ∀ p ∈ X.pn ++ pins, p.1 ≠ C := fun p hp z => lt3 p.1 p.2 (I3.pin p hp).1 z
 have hC0 : H' C = none := I.free
 have J' : Inv X pins σ H' { s' with heap := h' } := J.turned (t' := s'.toks) (fun b o hb e => (hs.2 b hb).trans e) hC0 hCL (.inr hsz) hcl hpn
 have nC : ∀ b ∈ frs X.stack, b ≠ C := fun b hb => by
  obtain ⟨_, o, g, _⟩ := I3.stack.mem hb
  exact lt3 b o g
 obtain ⟨fl, oe, vs, T, oT, ts, ⟨ge, ec, de, z6⟩, ⟨z1, z2⟩, ⟨bT, nT⟩, gT, dT, z3⟩ := x.tr
 have nf : ∀ {b : Addr} {o : Obj} {ws : Array Value}, s'.heap.get? b = some o → o.data = .fields ws → b ≠ C := fun g d z => by
  obtain ⟨o, es, ep, ho, hd, _⟩ := id hn
  rw [z] at g
  have : s'.heap.get? C = some o := ho
  rw [g] at this; cases this
  rw [d] at hd; cases hd
 have ge' := (hs.2 a (nf ge de)).trans ge
 have gT' := (hs.2 T (nf gT dT)).trans gT
 have hid : ∀ {b : Addr}, B.get? b = none → (W.hideAll B [C]).get? b = none := fun {b} q => by
  cases w : (W.hideAll B [C]).get? b with
  | none => rfl
  | some o => rw [W.of_hideAll _ w] at q; cases q
 have st : (W.hideAll B [C]).StaysIn h' := fun b o e => by
  have hb : b ≠ C := fun z => by rw [z, W.hideAll_none [C] (by simp)] at e; cases e
  exact (hs.2 b hb).trans (x.stays b o (W.of_hideAll _ e))
 have ff : h'.FunFrames (W.hideAll B [C]) X.stack := frames_mono x.frames (fun b hb => hs.2 b (nC b hb)) fun b q => hid q
 have tr : TrX h' (W.hideAll B [C]) a cls cx fl := ⟨oe, vs, T, oT, ts, ⟨ge', ec, de, z6⟩, ⟨z1, z2⟩, ⟨hid bT, nT⟩, gT', dT, z3⟩
 have xx : XAt X pins H' { s' with heap := h' } a cls cx (W.hideAll B [C]) .any := by
  refine ⟨x.free, st, hid x.fresh, ff, fun b o e i n => ?_, fl, tr⟩
  have hb : b ≠ C := by
   rcases i with i | ⟨_, o', i⟩ | ⟨p, hp, q⟩
   ·exact fun z => i (by rw [z]; exact hC0)
   ·exact Nat.ne_of_lt (Nat.lt_of_lt_of_le (Heap.lt_size i) hsz)
   ·rw [← q]; exact hpn p hp
  refine W.hideAll_get _ (x.cov b o ((hs.2 b hb).symm.trans e) ?_ n) (by simpa using hb)
  by_cases hh : H' b = none
  ·refine .inr (.inl ⟨fun hf => ?_, ?_⟩)
   ·obtain ⟨_, _, _, f4, _, f6⟩ := hfp b hf
    rcases i with i | ⟨hx, o', i⟩ | ⟨p, hp, q⟩
    ·exact i hh
    ·rcases f4 with f4 | f4
     ·exact hx f4
     ·exact absurd (Nat.lt_of_lt_of_le (Heap.lt_size i) f4) (Nat.lt_irrefl _)
    ·exact f6 p hp q
   ·rcases i with i | ⟨hx, o', i⟩ | ⟨p, hp, q⟩
    ·exact absurd hh i
    ·exact I3.base.there b o' i hx
    ·exact ⟨p.2, by rw [← q]; exact (I3.pin p hp).1⟩
  ·exact .inl hh
 unfold PySem.passOn
 refine wpAny_bind (wpAny_field (s := { s' with heap := h' }) ge' de z1 ?_)
 rw [if_neg (by simp)]
 refine wpAny_bind (flight_x (s := { s' with heap := h' }) st ff tr fun h2 k => wpAny_throw ?_)
 exact acc pins σ H' _ a cls cx _ .any (J'.exc xx.cov k.1 k.2.2.2) ⟨xx.free, k.1, xx.fresh, k.2.1, xx.cov' J' k.1, _, k.2.2.1⟩ hE
end
def compXe (X : Cx) (scope : Scope) (Nc : List Str) (C : Addr) (H3 : Hp) (fp : List Addr) (pins : List (Addr × Obj)) (σ : St) (E : XK) : Value → Shared → Prop := fun e s' =>
 ∃ s3 a cls cx H' B ph pins' σ', e = .ref a ∧ Inv X pins σ H3 s3 ∧ C = s3.heap.objs.size ∧ (∀ b ∈ fp, FpOk X pins H3 b) ∧ Inv (compCx X scope Nc C s3 H3 fp fun _ _ => False) pins' σ' H' s' ∧ XAt (compCx X scope Nc C s3 H3 fp fun _ _ => False) pins' H' s' a cls cx B ph ∧ E cls cx H'
section
variable {X : Cx} {E : XK} {elt tg iter : Expr} {ifs : List Expr} {scope : Scope} {pos : Pos} {Nc : List Str} {k : Nat} {js : List Nat} {wi : TI} {g : TG} {tf : TT} {te : TE}
theorem comp_acc {pins : List (Addr × Obj)} {σ : St} {H3 : Hp} {s3 : Shared} {C : Addr} {fp : List Addr} (I3 : Inv X pins σ H3 s3) (hC : C = s3.heap.objs.size) (hfp : ∀ b ∈ fp, FpOk X pins H3 b) : XAcc (compCx X scope Nc C s3 H3 fp (compXe X scope Nc C H3 fp pins σ E)) E :=
 fun pins' σ' H' s' a cls cx B ph I x hE => ⟨s3, a, cls, cx, H', B, ph, pins', σ', rfl, I3, hC, hfp, I.wish _, ⟨x.free, x.stays, x.fresh, x.frames, x.cov, x.tr⟩, hE⟩
theorem comp_noted {pins : List (Addr × Obj)} {σ : St} {H3 : Hp} {C F : Addr} {fp : List Addr} {env0 : Env} {out0 : List Env} {R : Value → Shared → Prop} (acc : XAcc X E) (hs0 : X.stack = env0 :: out0) (h0 : env0.frame = X.env.frame) (hF : X.env.frame = some F)
  (hR : ∀ a s', (∃ m, s'.heap.Ns C m ∧ ∀ h', Heap.SameBut C s'.heap h' → ∀ cenv : Env, cenv.locals = C → wpAny (model X.prog X.w) X.A (passOn "comprehension.variables-let-go" (.ref a) cenv : Sem Value) (fun _ _ => False) X.xe { s' with heap := h' }) → R (.ref a) s') :
  ∀ e s', compXe X scope Nc C H3 fp pins σ E e s' → notedBy (model X.prog X.w) X.A (compEnvC scope (capOf X.env.cells scope.names []) C X.env) R e s' := by
 rintro e s' ⟨s3, a, cls, cx, H', B, ph, pins', σ', rfl, I3, hC, hfp, I, x, hE⟩
 unfold notedBy
 exact note_ok (X := compCx X scope Nc C s3 H3 fp fun _ _ => False) I.ok.frames hs0 h0 hF I x fun h1 I1 x1 => hR a _ (comp_error acc I3 hC hfp I1 x1 hE)
theorem pe_compX {env0 : Env} {out0 : List Env} {F : Addr} (acc : XAcc X E) (hc : X.calm = true) (S : CompSc X.env.scope scope X.N Nc k js) (hi : PI X tg iter wi) (hg : ∀ C s3 H3 fp xe, PG (compCx X scope Nc C s3 H3 fp xe) tg g) (hf : ∀ C s3 H3 fp xe, PF (compCx X scope Nc C s3 H3 fp xe) ifs tf)
  (he : ∀ C s3 H3 fp xe, XAcc (compCx X scope Nc C s3 H3 fp xe) E → PE (compCx X scope Nc C s3 H3 fp xe) elt te) (hs : ∀ x, foldedSetIterable iter X.env x = pure x := by intro _; rfl)
  (hs0 : X.stack = env0 :: out0 := by rfl) (h0 : env0.frame = X.env.frame := by rfl) (hF : X.env.frame = some F := by rfl) : PE X (.ListComp elt [⟨tg, iter, ifs, 0⟩] scope pos) (tComp wi g tf te k js) := by
 intro pins s σ H Q I h
 rw [eval_ListComp]
 refine wpAny_comprehension_free (use := none) rfl hs (closure_cap (comp_cells I S)) S.kind S.names (thn (hi pins s σ H _ I h) fun v s1 h1 => thn h1 fun itv s2 h2 => ?_)
 obtain ⟨it, fp, tn, J, H2, rfl, I2, T, st2, f2, hR⟩ := h2
 refine comp_block (RR := fun acc C => compPost (model X.prog X.w) X.A X.xe none (EP X pins σ Q) acc C) (Fin := fun D H' => Q (.ref D) H') hc S hg hf
  (fun C D H3 => ⟨compXe X scope Nc C H3 fp pins σ E, comp_noted acc hs0 h0 hF fun a s' z => z, fun s3 I3 hC hfp => he _ _ _ _ _ (comp_acc I3 hC hfp)⟩) I2 T st2 f2 hR ?_
 intro D C H' s' m' I' hn hC hCL hsz hcl hpn q
 exact ⟨m', hn, fun h' hs' => ⟨.ref D, H', I'.turned (t' := s'.toks) (fun b o hb e => (hs'.2 b hb).trans e) hC hCL (.inr hsz) hcl hpn, rfl, q⟩⟩
end
theorem pa_str {X : Cx} {x : Str} {j : Nat} {pos : Pos} {es : List Expr} {t : TA} (hr : PA X es t) : PA X (.Constant (.str x) j pos :: es) (tCons (tC (.str x)) t) := pa_cons pe_str hr
def ga (p : Array Nat) (k : Nat) : Nat := p.getD k 0
namespace F'
end F'
open PySem PySem.Spec PyProof.Rows PySem.W
abbrev TH := Value → Option Addr → Addr → Ends → St → Hp → Prop
def PH (X : Cx) (hs : List ExceptHandler) (th : TH) : Prop :=
 ∀ (pins : List (Addr × Obj)) (s : Shared) (σ : St) (H : Hp) (a : Addr) (cls : Value) (cx : Option Addr) (B : Heap) (D : Ends), Inv X pins σ H s → XAt X pins H s a cls cx B .fly → th cls cx a D σ H → wpAny (model X.prog X.w) X.A (handleBy (.ref a) X.env hs) (SP X pins D) X.xe s
def thNil : TH := fun _ _ _ _ _ _ => False
def thC (K : W.Frag) (C : Addr) (ts : Addr → TS) (rest : TH) : TH := fun cls cx a D σ H =>
 (W.exmOne K cls (.ref C) = some true ∧ ts a D σ (upd H a (ExcO a cls cx))) ∨ (W.exmOne K cls (.ref C) = some false ∧ rest cls cx a D σ H)
section
variable {X : Cx}
theorem ph_nil : PH X [] thNil := fun _ _ _ _ _ _ _ _ _ _ _ h => h.elim
def tTryH (n : Nat) (tb : XK → TS) (th : TH) : TS := fun D σ H => ∃ Eh : XK, tb Eh D σ H ∧ ∀ cls cx H', Eh cls cx H' → ∀ a, H' a = none → th cls cx a D (blank n) H'
theorem ps_tryH {body : List Stmt} {h₀ : ExceptHandler} {hs : List ExceptHandler} {pos : Pos} {tb : XK → TS} {th : TH}
  (hb : ∀ (Eh : XK) (E2 : Value → Shared → Prop) (pins : List (Addr × Obj)), XAcc (X.tryCx E2 pins) Eh → PassesOwn (model X.prog X.w) X.A X.env E2 → PSs (X.tryCx E2 pins) body (tb Eh))
  (hh : PH X (h₀ :: hs) th)
  (hst : X.stack = X.env :: X.outer := by rfl) (hf : X.env.frame = some X.env.locals := by rfl) (hex : X.ex = [] := by rfl) :
  PS X (.Try body (h₀ :: hs) [] [] pos) (tTryH X.N.length tb th) := by
 intro pins s σ H D I h
 obtain ⟨Eh, h1, h2⟩ := h
 refine wpAny_Try_except ?_
 have ok := I.ok
 have acc : XAcc (X.tryCx (fun e s₁ => wpAny (model X.prog X.w) X.A (noteFrame e X.env) (fun _ s₂ => wpAny (model X.prog X.w) X.A (setFlight e none) (fun _ s₃ =>
   wpAny (model X.prog X.w) X.A (handleBy e X.env (h₀ :: hs)) (SP X pins D) X.xe s₃) X.xe s₂) X.xe s₁) pins) Eh := by
  intro pins' σ' H' s1 a cls cx B ph I1 x1 hE
  have I2 : Inv X pins (blank X.N.length) H' s1 := (I1.ofTry ok).forget
  have x2 : XAt X pins H' s1 a cls cx B ph := ⟨x1.free, x1.stays, x1.fresh, x1.frames, fun b o e i n => x1.cov b o e (i.elim .inl fun z => .inr (z.elim .inl fun ⟨p, hp, q⟩ => .inr ⟨p, List.mem_append_left _ hp, q⟩)) n, x1.tr⟩
  refine note_ok ok.frames hst rfl hf I2 x2 fun h3 I3 x3 => ?_
  refine land_ok I3 x3 (fun z => nomatch z) fun h4 I4 x4 => ?_
  exact hh pins _ _ _ a cls cx B D I4 x4 (h2 cls cx H' hE a x4.free)
 refine wpAny_mono (hb Eh _ pins acc PassesOwn.looking [] s σ H D I.toTry h1) (fun f s1 q => ?_) fun e s1 q => q
 have q' := q.ofTry ok
 cases f with
 | next => exact wpAny_execs_nil q'
 | brk => exact q'
 | cont => exact q'
 | ret u => exact q'
end
section
variable {X : Cx} {CX : CXT} {k : Nat} {f C : Addr} {fd : FuncData} {ps : List Str} {sp : Sp} {dvs : List V} {ds : List Value} {E : XK} {x m : Str} {p pos apos : Pos} {e o : Expr} {es : List Expr} {ta : TE} {t : TA}
def tMethD (T : Addr → Sp → Prop) (m : Str) (E : XK) (ta : TE) (t : TA) : TE := fun σ H Q => ta σ H fun x H1 => ∃ a C dx fs sp, x = .ref a ∧ H1 a = some (.ins C dx fs) ∧ fs.lookup m = none ∧ T C sp ∧ t σ H1 fun vs H2 => sp (x :: vs) H2 Q E
def MethOk (X : Cx) (T : Addr → Sp → Prop) (m : Str) (E : XK) : Prop := ∀ C sp, T C sp → Cls X.K C ∧ ∃ (CX : CXT) (k : Nat) (f : Addr) (fd : FuncData) (ps : List Str), Meth X.K C m f ∧ FnOk X.prog X.w X.K X.mg X.base CX k f fd ps sp ∧ Room k X.A ∧ Binds X.K fd ps [] ∧ Passes CX X E
theorem pe_methD {T : Addr → Sp → Prop} {pl : Sem Bool} (he : PE X o ta) (hT : MethOk X T m E) (ha : PA X (e :: es) t)
  (hst : starEach (e :: es) X.env = (false, eval e X.env) :: starEach es X.env := by rfl) (hpl : (backTo pos (starEach es X.env)).any (·.1) = false := by rfl)
  (ht : eval (.Call (.Attribute o m apos) (e :: es) [] pos) X.env = (do
   let ov ← eval o X.env
   standAt apos.atName
   let (f, first) ← holding [ov] (getMethod ov m pl)
   callWith pos f first (backTo pos (starEach (e :: es) X.env)) (backToKw pos (keywordEach [] X.env))) := by rfl) :
  PE X (.Call (.Attribute o m apos) (e :: es) [] pos) (tMethD T m E ta t) := by
 intro pins s σ H Q I h
 refine W.methodCall_KW (pl := pl) (thn (he pins s σ H _ I h) fun u s1 ⟨x, H1, I1, rx, a, C, dx, fs, sp, ex, ea, l, hC, q⟩ => ?_) ht
 subst ex
 obtain rfl : u = Value.ref a := rx
 obtain ⟨c, CX, k, f, fd, ps, hm, F, hr, hb, hx⟩ := hT C sp hC
 refine getmeth_ok I1 ea c hm l ?_
 refine W.callWith_K (first := [.ref a]) (h₀ := X.base) I.ok.mod.kin hm.kp (thn (ha pos pins s1 σ H1 _ I1 q) fun us s2 ⟨vs, H2, I2, r, q2⟩ => ⟨I2.kIn, ?_⟩) hst hpl
 exact run_fn (us := .ref a :: us) (vs := .ref a :: vs) (dvs := []) F hr hb .nil hx I2 (.cons rfl r) (by rw [List.append_nil]; exact q2)
theorem pe_methD0 {T : Addr → Sp → Prop} {pl : Sem Bool} (he : PE X o ta) (hT : MethOk X T m E)
  (ht : eval (.Call (.Attribute o m apos) [] [] pos) X.env = (do
   let ov ← eval o X.env
   standAt apos.atName
   let (f, first) ← holding [ov] (getMethod ov m pl)
   callWith pos f first (backTo pos (starEach [] X.env)) (backToKw pos (keywordEach [] X.env))) := by rfl) :
  PE X (.Call (.Attribute o m apos) [] [] pos) (tMethD T m E ta tNil) := by
 intro pins s σ H Q I h
 refine W.methodCall_KW (pl := pl) (thn (he pins s σ H _ I h) fun u s1 ⟨x, H1, I1, rx, a, C, dx, fs, sp, ex, ea, l, hC, q⟩ => ?_) ht
 subst ex
 obtain rfl : u = Value.ref a := rx
 obtain ⟨c, CX, k, f, fd, ps, hm, F, hr, hb, hx⟩ := hT C sp hC
 refine getmeth_ok I1 ea c hm l ?_
 exact W.callWith_K0 (first := [.ref a]) I1.kIn hm.kp (run_fn (us := [.ref a]) (vs := [.ref a]) (dvs := []) F hr hb .nil hx I1 (.cons rfl .nil) q)
structure OwnM (P : Program) (w : World) (K : W.Frag) (mg : Str → Option Value) (base : Heap) (k : Nat) (C : Addr) (m : Str) (ps : List Str) (sp : Sp) : Prop where
 ex : ∃ f fd, FnOk P w K mg base (CXe P w) k f fd ps sp ∧ Binds K fd ps [] ∧ Meth K C m f
 cls : Cls K C
end
end L2
namespace HT
open PySem PyProof.Rows
end HT
namespace L2
open PySem PySem.Spec PyProof.Rows
open PySem.W
end L2
namespace HT
open PySem PyProof.Rows
end HT
namespace L2
open PySem PySem.Spec PyProof.Rows
open PySem.W
abbrev GS := Option (Array Keyed) × Array Keyed × Nat × Nat × Nat × Nat × Nat
section
variable {κ : Type} [DecidableEq κ]
def putK (kvs : List (κ × V)) (k : κ) (v : V) : List (κ × V) :=
 if (kvs.any fun kv => decide (kv.1 = k)) = true then kvs.map (fun kv => if kv.1 = k then (kv.1, v) else kv) else kvs ++ [(k, v)]
end
end L2
namespace PySem.W
open PySem PySem.Spec PySem.Calls PyProof.Rows
end PySem.W
namespace PySem.W
open PySem PySem.Spec PySem.Calls PyProof.Rows
end PySem.W
namespace L2
open PySem PySem.Spec PyProof.Rows
end L2
namespace PySem.W
open PySem PySem.Spec PySem.Calls PyProof.Rows
end PySem.W
namespace L2
open PySem PySem.Spec PyProof.Rows
open PySem.W
abbrev DK := Sum (List Key) (List (List Key))
def dkO (ks : DK) (xs : List V) : HO := match ks with
 | .inl ks => .dK (ks.zip xs)
 | .inr ks => .dT (ks.zip xs)
def dkN : DK → Nat
 | .inl ks => ks.length
 | .inr ks => ks.length
def NT (o : HO) : Prop := ∀ xs, o ≠ .tup xs
theorem nt_lst {xs : List V} : NT (.lst xs) := fun _ z => nomatch z
theorem nt_frz {ob : Obj} {u : HO} : NT (.frz ob u) := fun _ z => nomatch z
theorem nt_dkO {ks : DK} {xs : List V} : NT (dkO ks xs) := by cases ks <;> exact fun _ z => nomatch z
def Tu (H H' : Hp) : Prop := ∀ a xs, H a = some (.tup xs) → H' a = some (.tup xs)
theorem tu_refl {H : Hp} : Tu H H := fun _ _ h => h
theorem tu_new {H : Hp} {p : Addr} {o : HO} (hp : H p = none) : Tu H (upd H p o) := fun a xs h => by rw [upd_ne (fun z => by rw [z, hp] at h; cases h)]; exact h
theorem tu_upd {H : Hp} {p : Addr} {o o' : HO} (hp : H p = some o') (n : NT o') : Tu H (upd H p o) := fun a xs h => by rw [upd_ne (fun z => by rw [z, hp] at h; exact n xs (Option.some.inj h))]; exact h
theorem nt_of {H H' : Hp} {a : Addr} {o o' : HO} (t : Tu H H') (e : H a = some o) (e' : H' a = some o') (n : NT o') : NT o := fun ys z => by
 subst z
 have := t a ys e
 rw [e'] at this
 exact n ys (Option.some.inj this)
theorem dkO_lst {ks : DK} {xs ys : List V} : dkO ks xs ≠ .lst ys := by cases ks <;> exact fun z => nomatch z
inductive D where
 | non | bl (b : Bool) | int (i : Int) | str (x : Str) | ty (n : String) | cls (n : Str) | tup (ds : List D) | lst (ds : List D) | scr (ns : List Int) | exc (c : Str) | obj (c : Str) (ns : List Str) (ds : List D) | dic (ks : DK) (ds : List D) | exv (c f : Str) (d : D) | fdc (ks : DK) (ds : List D)
mutual
def Rp (K : W.Frag) (cl : Str → Addr) (F : Hp) : D → V → Prop
 | .non, v => v = .non
 | .bl b, v => v = .bl b
 | .int i, v => v = .int i
 | .str x, v => v = .str x
 | .ty n, v => v = .ty n
 | .cls n, v => v = .ref (cl n)
 | .tup ds, v => ∃ a xs, v = .ref a ∧ F a = some (.tup xs) ∧ Rps K cl F ds xs
 | .lst ds, v => ∃ a xs, v = .ref a ∧ F a = some (.lst xs) ∧ Rps K cl F ds xs
 | .scr ns, v => ∃ a, v = .ref a ∧ Scr K F a (ns.map V.int)
 | .exc c, v => ∃ a cx, v = .ref a ∧ F a = some (ExcO a (.ref (cl c)) cx)
 | .obj c ns ds, v => ∃ a dx xs, v = .ref a ∧ F a = some (.ins (cl c) dx (ns.zip xs)) ∧ ns.length = xs.length ∧ Rps K cl F ds xs
 | .dic ks ds, v => ∃ a xs, v = .ref a ∧ F a = some (dkO ks xs) ∧ dkN ks = xs.length ∧ Rps K cl F ds xs
 | .exv c f d, v => ∃ a dx y, v = .ref a ∧ F a = some (ExcO a (.ref (cl c)) (some (2 * dx + 1))) ∧ F dx = some (.xd [(f, y)]) ∧ Rp K cl F d y
 | .fdc ks ds, v => ∃ a o xs, v = .ref a ∧ F a = some (.frz o (dkO ks xs)) ∧ dkN ks = xs.length ∧ Rps K cl F ds xs
def Rps (K : W.Frag) (cl : Str → Addr) (F : Hp) : List D → List V → Prop
 | [], vs => vs = []
 | d :: ds, vs => ∃ v r, vs = v :: r ∧ Rp K cl F d v ∧ Rps K cl F ds r
end
section
variable {K : W.Frag} {cl : Str → Addr} {F F' H H' : Hp}
mutual
theorem Rp.mono (g : Same F F') : ∀ (d : D) (v : V), Rp K cl F d v → Rp K cl F' d v
 | .non, _, h => by simpa only [Rp] using h
 | .bl _, _, h => by simpa only [Rp] using h
 | .int _, _, h => by simpa only [Rp] using h
 | .str _, _, h => by simpa only [Rp] using h
 | .ty _, _, h => by simpa only [Rp] using h
 | .cls _, _, h => by simpa only [Rp] using h
 | .tup ds, v, h => by
  simp only [Rp] at h ⊢
  obtain ⟨a, xs, e, h1, h2⟩ := h
  exact ⟨a, xs, e, g _ _ h1, Rps.mono g ds xs h2⟩
 | .lst ds, v, h => by
  simp only [Rp] at h ⊢
  obtain ⟨a, xs, e, h1, h2⟩ := h
  exact ⟨a, xs, e, g _ _ h1, Rps.mono g ds xs h2⟩
 | .scr ns, v, h => by
  simp only [Rp] at h ⊢
  obtain ⟨a, e, h1⟩ := h
  exact ⟨a, e, h1.same g⟩
 | .exc c, v, h => by
  simp only [Rp] at h ⊢
  obtain ⟨a, cx, e, h1⟩ := h
  exact ⟨a, cx, e, g _ _ h1⟩
 | .obj c ns ds, v, h => by
  simp only [Rp] at h ⊢
  obtain ⟨a, dx, xs, e, h1, hl, h2⟩ := h
  exact ⟨a, dx, xs, e, g _ _ h1, hl, Rps.mono g ds xs h2⟩
 | .dic ks ds, v, h => by
  simp only [Rp] at h ⊢
  obtain ⟨a, xs, e, h1, hl, h2⟩ := h
  exact ⟨a, xs, e, g _ _ h1, hl, Rps.mono g ds xs h2⟩
 | .exv c f d, v, h => by
  simp only [Rp] at h ⊢
  obtain ⟨a, dx, y, e, h1, h2, h3⟩ := h
  exact ⟨a, dx, y, e, g _ _ h1, g _ _ h2, Rp.mono g d y h3⟩
 | .fdc ks ds, v, h => by
  simp only [Rp] at h ⊢
  obtain ⟨a, o, xs, e, h1, hl, h2⟩ := h
  exact ⟨a, o, xs, e, g _ _ h1, hl, Rps.mono g ds xs h2⟩
theorem Rps.mono (g : Same F F') : ∀ (ds : List D) (vs : List V), Rps K cl F ds vs → Rps K cl F' ds vs
 | [], _, h => by simpa only [Rps] using h
 | d :: ds, vs, h => by
  simp only [Rps] at h ⊢
  obtain ⟨v, r, e, h1, h2⟩ := h
  exact ⟨v, r, e, Rp.mono g d v h1, Rps.mono g ds r h2⟩
end
theorem Rps.nil : Rps K cl F [] [] := by simp only [Rps]
theorem Rps.cons {d : D} {v : V} {ds : List D} {vs : List V} (h : Rp K cl F d v) (t : Rps K cl F ds vs) : Rps K cl F (d :: ds) (v :: vs) := by simp only [Rps]; exact ⟨v, vs, rfl, h, t⟩
theorem Rps.inv {d : D} {ds : List D} {vs : List V} (h : Rps K cl F (d :: ds) vs) : ∃ v r, vs = v :: r ∧ Rp K cl F d v ∧ Rps K cl F ds r := by simpa only [Rps] using h
theorem Rps.inv0 {vs : List V} (h : Rps K cl F [] vs) : vs = [] := by simpa only [Rps] using h
theorem Rps.length : ∀ {ds : List D} {vs : List V}, Rps K cl F ds vs → ds.length = vs.length
 | [], vs, h => by rw [h.inv0]; rfl
 | d :: ds, vs, h => by obtain ⟨v, r, rfl, _, t⟩ := h.inv; simp [t.length]
theorem Rps.get : ∀ {ds : List D} {vs : List V} {i : Nat} {d : D}, Rps K cl F ds vs → ds[i]? = some d → ∃ v, vs[i]? = some v ∧ Rp K cl F d v
 | [], _, _, _, _, e => by simp at e
 | d :: ds, vs, 0, x, h, e => by
  obtain ⟨v, r, rfl, h1, _⟩ := h.inv
  simp at e; subst e
  exact ⟨v, rfl, h1⟩
 | d :: ds, vs, i + 1, x, h, e => by
  obtain ⟨v, r, rfl, _, t⟩ := h.inv
  obtain ⟨u, h1, h2⟩ := t.get (i := i) (d := x) (by simpa using e)
  exact ⟨u, by simpa using h1, h2⟩
theorem Rps.get' {ds : List D} {vs : List V} {i : Nat} {v : V} (h : Rps K cl F ds vs) (e : vs[i]? = some v) : ∃ d, ds[i]? = some d ∧ Rp K cl F d v := by
 have hi : i < ds.length := by
  have := (List.getElem?_eq_some_iff.mp e).1
  rw [h.length]; exact this
 obtain ⟨u, h1, h2⟩ := h.get (List.getElem?_eq_getElem hi)
 rw [e] at h1; cases h1
 exact ⟨_, List.getElem?_eq_getElem hi, h2⟩
theorem Rps.append : ∀ {ds es : List D} {vs us : List V}, Rps K cl F ds vs → Rps K cl F es us → Rps K cl F (ds ++ es) (vs ++ us)
 | [], _, _, _, h, t => by rw [h.inv0]; exact t
 | d :: ds, _, _, _, h, t => by obtain ⟨v, r, rfl, h1, h2⟩ := h.inv; exact .cons h1 (h2.append t)
theorem Rps.one {d : D} {v : V} (h : Rp K cl F d v) : Rps K cl F [d] [v] := .cons h .nil
theorem Rps.drop : ∀ {ds : List D} {vs : List V} (n : Nat), Rps K cl F ds vs → Rps K cl F (ds.drop n) (vs.drop n)
 | _, _, 0, h => h
 | [], _, _ + 1, h => by rw [h.inv0]; exact .nil
 | _ :: _, _, n + 1, h => by obtain ⟨_, _, rfl, _, h2⟩ := h.inv; exact h2.drop n
theorem Rps.take : ∀ {ds : List D} {vs : List V} (n : Nat), Rps K cl F ds vs → Rps K cl F (ds.take n) (vs.take n)
 | _, _, 0, h => .nil
 | [], _, _ + 1, h => by rw [h.inv0]; exact .nil
 | _ :: _, _, n + 1, h => by obtain ⟨_, _, rfl, h1, h2⟩ := h.inv; exact .cons h1 (h2.take n)
theorem Rps.ints : ∀ {ns : List Int} {vs : List V}, Rps K cl F (ns.map D.int) vs → vs = ns.map V.int
 | [], _, h => h.inv0
 | n :: ns, _, h => by
  obtain ⟨v, r, rfl, h1, h2⟩ := h.inv
  rw [h2.ints]
  simp only [Rp] at h1
  rw [h1]; rfl
theorem Rps.ofInts : ∀ {ns : List Int}, Rps K cl F (ns.map D.int) (ns.map V.int)
 | [] => .nil
 | _ :: _ => .cons (by simp only [Rp]) Rps.ofInts
theorem Rps.bls : ∀ {bs : List Bool} {vs : List V}, Rps K cl F (bs.map D.bl) vs → vs = bs.map V.bl
 | [], _, h => h.inv0
 | n :: ns, _, h => by
  obtain ⟨v, r, rfl, h1, h2⟩ := h.inv
  rw [h2.bls]
  simp only [Rp] at h1
  rw [h1]; rfl
end
inductive Sl where | no | fz (d : D) | ow (ds : List D) | hd (ds : List D) | od (ks : DK) (ds : List D) | hk (ks : DK) (ds : List D) | nk (p : Addr) (d : D)
abbrev DE := List Sl
def Mu (env : DE) (i : Nat) : Prop := ∃ ds : List D, env[i]? = some (.ow ds) ∨ env[i]? = some (.hd ds)
def isO : Sl → Prop
 | .ow _ => True
 | .od _ _ => True
 | .nk _ _ => True
 | _ => False
def Sl.pa : Sl → Option Addr
 | .nk p _ => some p
 | _ => none
def isD : Sl → DK → List D → Prop
 | .od ks ds, ks', ds' => ks = ks' ∧ ds = ds'
 | .hk ks ds, ks', ds' => ks = ks' ∧ ds = ds'
 | _, _, _ => False
def Ow (σ : St) (env : DE) (a : Addr) : Prop := ∃ (i : Nat) (s : Sl), isO s ∧ env[i]? = some s ∧ (σ[i]? = some (some (V.ref a)) ∨ s.pa = some a)
def Nl (σ : St) (env : DE) (a : Addr) : Prop := (∀ j, Mu env j → σ[j]? ≠ some (some (.ref a))) ∧ ∀ (i : Nat) (p : Addr) (d : D), env[i]? = some (.nk p d) → p ≠ a
def DeskAt (K : W.Frag) (cl : Str → Addr) (H F : Hp) (a p : Addr) (d : D) : Prop := ∃ x y ps dx bv wv xs, d = .tup [x, y, .lst ps, .int (a : Int)] ∧ H a = some (.ins (cl "Desk") dx [("box", bv), ("wares", wv), ("past", .ref p)]) ∧ F a = none ∧ H p = some (.lst xs) ∧ F p = none ∧ Rp K cl F x bv ∧ Rp K cl F y wv ∧ Rps K cl F ps xs
theorem nt_ins {c dx : Addr} {fs : List (Str × V)} : NT (.ins c dx fs) := fun _ z => nomatch z
theorem DeskAt.to {K : W.Frag} {cl : Str → Addr} {H F H' F' : Hp} {a p : Addr} {d : D} (h : DeskAt K cl H F a p d) (hh : ∀ b o, b = a ∨ b = p → NT o → H b = some o → F b = none → H' b = some o ∧ F' b = none) (sF : Same F F') : DeskAt K cl H' F' a p d := by
 obtain ⟨x, y, ps, dx, bv, wv, xs, e, h1, f1, h2, f2, r1, r2, r3⟩ := h
 obtain ⟨h1', f1'⟩ := hh a _ (.inl rfl) nt_ins h1 f1
 obtain ⟨h2', f2'⟩ := hh p _ (.inr rfl) nt_lst h2 f2
 exact ⟨x, y, ps, dx, bv, wv, xs, e, h1', f1', h2', f2', r1.mono sF, r2.mono sF, r3.mono sF⟩
structure RelOd (K : W.Frag) (cl : Str → Addr) (σ : St) (H F : Hp) (env : DE) : Prop where
 at_ : ∀ (i : Nat) (s : Sl) (ks : DK) (ds : List D), env[i]? = some s → isD s ks ds → ∃ a xs, σ[i]? = some (some (.ref a)) ∧ H a = some (dkO ks xs) ∧ F a = none ∧ dkN ks = xs.length ∧ Rps K cl F ds xs
 inj : ∀ (i j : Nat) (s t : Sl) (ks ls : DK) (ds es : List D) (a : Addr), env[i]? = some s → isD s ks ds → env[j]? = some t → isD t ls es → σ[i]? = some (some (.ref a)) → σ[j]? = some (some (.ref a)) → i = j
 dk : ∀ (i : Nat) (p : Addr) (d : D), env[i]? = some (.nk p d) → ∃ a, σ[i]? = some (some (.ref a)) ∧ DeskAt K cl H F a p d
 dj : ∀ (i j : Nat) (p q : Addr) (d e : D), env[i]? = some (.nk p d) → env[j]? = some (.nk q e) → p = q ∨ σ[i]? = σ[j]? → i = j
 dm : ∀ (i j : Nat) (p : Addr) (d : D), env[i]? = some (.nk p d) → Mu env j → σ[j]? ≠ some (some (.ref p))
structure Rel (K : W.Frag) (cl : Str → Addr) (σ : St) (H F : Hp) (env : DE) : Prop where
 sub : Same F H
 len : σ.length = env.length
 fz : ∀ (i : Nat) (d : D), env[i]? = some (.fz d) → ∃ v, σ[i]? = some (some v) ∧ Rp K cl F d v
 mu : ∀ (i : Nat) (ds : List D), (env[i]? = some (.ow ds) ∨ env[i]? = some (.hd ds)) → ∃ a xs, σ[i]? = some (some (.ref a)) ∧ H a = some (.lst xs) ∧ F a = none ∧ Rps K cl F ds xs
 inj : ∀ (i j : Nat) (a : Addr), Mu env i → Mu env j → σ[i]? = some (some (.ref a)) → σ[j]? = some (some (.ref a)) → i = j
 od : RelOd K cl σ H F env
structure Frm (σ : St) (H F : Hp) (env : DE) (σ' : St) (H' F' : Hp) (env' : DE) : Prop where
 fz : Same F F'
 hid : ∀ a o, H a = some o → F a = none → ¬ Ow σ env a → ∀ (m : NT o := by first | assumption | exact nt_lst | exact nt_dkO | exact nt_frz), H' a = some o ∧ F' a = none ∧ ¬ Ow σ' env' a
 keep : ∀ (i : Nat) (ds : List D), env[i]? = some (.hd ds) → env'[i]? = some (.hd ds) ∧ σ'[i]? = σ[i]?
 dom : ∀ a, H' a = none → H a = none
 tu : Tu H H'
structure Gr (H F H' F' : Hp) : Prop where
 fz : Same F F'
 sub : Same F' H'
 hid : ∀ a o, H a = some o → F a = none → ∀ (m : NT o := by first | assumption | exact nt_lst | exact nt_dkO | exact nt_frz), H' a = some o ∧ F' a = none
 dom : ∀ a, H' a = none → H a = none
 tu : Tu H H'
section
variable {K : W.Frag} {cl : Str → Addr} {σ σ' σ'' : St} {H H' H'' F F' F'' : Hp} {env env' env'' : DE}
theorem RelOd.to (R : RelOd K cl σ H F env) (he : ∀ (i : Nat) (s : Sl) (ks : DK) (ds : List D), env'[i]? = some s → isD s ks ds → ∃ t, env[i]? = some t ∧ isD t ks ds ∧ σ'[i]? = σ[i]?)
  (hh : ∀ (i : Nat) (a : Addr) (ks : DK) (xs : List V), σ[i]? = some (some (.ref a)) → H a = some (dkO ks xs) → F a = none → H' a = some (dkO ks xs) ∧ F' a = none) (sF : Same F F')
  (hk : ∀ (i : Nat) (p : Addr) (d : D), env'[i]? = some (.nk p d) → env[i]? = some (.nk p d) ∧ σ'[i]? = σ[i]?)
  (hp : ∀ (i : Nat) (p : Addr) (d : D) (a b : Addr) (o : HO), env[i]? = some (.nk p d) → σ[i]? = some (some (.ref a)) → b = a ∧ (∀ xs, o ≠ .lst xs) ∨ b = p → NT o → H b = some o → F b = none → H' b = some o ∧ F' b = none)
  (hm : ∀ (j : Nat) (b : Addr), Mu env' j → σ'[j]? = some (some (.ref b)) → (Mu env j ∧ σ[j]? = some (some (.ref b))) ∨ ∀ (i : Nat) (p : Addr) (d : D), env[i]? = some (.nk p d) → p ≠ b) : RelOd K cl σ' H' F' env' :=
 ⟨fun i s ks ds h d => by
  obtain ⟨t, h1, d1, e1⟩ := he i s ks ds h d
  obtain ⟨a, xs, e, hH, hF, hn, r⟩ := R.at_ i t ks ds h1 d1
  obtain ⟨h2, f2⟩ := hh i a ks xs e hH hF
  exact ⟨a, xs, by rw [e1]; exact e, h2, f2, hn, r.mono sF⟩,
  fun i j s t ks ls ds es a hi di hj dj ei ej => by
  obtain ⟨s1, h1, d1, e1⟩ := he i s ks ds hi di
  obtain ⟨t1, h2, d2, e2⟩ := he j t ls es hj dj
  exact R.inj i j s1 t1 ks ls ds es a h1 d1 h2 d2 (by rw [← e1]; exact ei) (by rw [← e2]; exact ej),
  fun i p d h => by
  obtain ⟨h1, e1⟩ := hk i p d h
  obtain ⟨a, e, x, y, ps, dx, bv, wv, xs, e0, g1, f1, g2, f2, r1, r2, r3⟩ := R.dk i p d h1
  obtain ⟨g1', f1'⟩ := hp i p d a a _ h1 e (.inl ⟨rfl, fun _ z => (by cases z)⟩) nt_ins g1 f1
  obtain ⟨g2', f2'⟩ := hp i p d a p _ h1 e (.inr rfl) nt_lst g2 f2
  exact ⟨a, by rw [e1]; exact e, x, y, ps, dx, bv, wv, xs, e0, g1', f1', g2', f2', r1.mono sF, r2.mono sF, r3.mono sF⟩,
  fun i j p q d e hi hj z => by
  obtain ⟨h1, e1⟩ := hk i p d hi
  obtain ⟨h2, e2⟩ := hk j q e hj
  exact R.dj i j p q d e h1 h2 (by rw [← e1, ← e2]; exact z),
  fun i j p d hi hj z => by
  obtain ⟨h1, e1⟩ := hk i p d hi
  rcases hm j p hj z with ⟨m, e⟩ | n
  ·exact R.dm i j p d h1 m e
  ·exact n i p d h1 rfl⟩
theorem RelOd.gr (R : RelOd K cl σ H F env) (g : Gr H F H' F') : RelOd K cl σ H' F' env := R.to (fun i s ks ds h d => ⟨s, h, d, rfl⟩) (fun _ a ks xs _ h f => g.hid a _ h f) g.fz (fun _ _ _ h => ⟨h, rfl⟩) (fun _ _ _ _ b o _ _ _ m h f => g.hid b o h f m) fun _ _ m e => .inl ⟨m, e⟩
theorem RelOd.set {i : Nat} {s : Sl} {v : Option V} (R : RelOd K cl σ H F env) (n : ∀ ks ds, ¬ isD s ks ds) (k : ∀ p d, s ≠ .nk p d := by intro _ _ z; cases z) (u : ∀ ds b, s = .ow ds ∨ s = .hd ds → v = some (.ref b) → ∀ (i : Nat) (p : Addr) (d : D), env[i]? = some (.nk p d) → p ≠ b := by intro ds b z; rcases z with z | z <;> cases z) : RelOd K cl (σ.set i v) H F (env.set i s) :=
 R.to (fun j t ks ds h d => by
  by_cases z : j = i
  ·subst z
   have hj : j < env.length := by have := (List.getElem?_eq_some_iff.mp h).1; rwa [List.length_set] at this
   rw [List.getElem?_set_self hj] at h; cases h; exact absurd d (n ks ds)
  ·rw [List.getElem?_set_ne (Ne.symm z)] at h
   exact ⟨t, h, d, List.getElem?_set_ne (Ne.symm z)⟩) (fun _ a ks xs _ h f => ⟨h, f⟩) (Same.refl _) (fun j p d h => by
  by_cases z : j = i
  ·subst z
   have hj : j < env.length := by have := (List.getElem?_eq_some_iff.mp h).1; rwa [List.length_set] at this
   rw [List.getElem?_set_self hj] at h; cases h; exact absurd rfl (k p d)
  ·rw [List.getElem?_set_ne (Ne.symm z)] at h
   exact ⟨h, List.getElem?_set_ne (Ne.symm z)⟩) (fun _ _ _ _ _ _ _ _ _ _ h f => ⟨h, f⟩) fun j b ⟨ds, q⟩ e => by
  by_cases z : j = i
  ·subst z
   have hj : j < env.length := by have := (List.getElem?_eq_some_iff.mp e).1; rcases q with q | q <;> (have := (List.getElem?_eq_some_iff.mp q).1; rwa [List.length_set] at this)
   have hs : j < σ.length := by have := (List.getElem?_eq_some_iff.mp e).1; rwa [List.length_set] at this
   rw [List.getElem?_set_self hj] at q
   rw [List.getElem?_set_self hs] at e
   exact .inr (u ds b (q.imp Option.some.inj Option.some.inj) (Option.some.inj e))
  ·rw [List.getElem?_set_ne (Ne.symm z)] at q e
   exact .inl ⟨⟨ds, q⟩, e⟩
theorem RelOd.setE {i : Nat} {s : Sl} (R : RelOd K cl σ H F env) (n : ∀ ks ds, ¬ isD s ks ds) (k : ∀ p d, s ≠ .nk p d := by intro _ _ z; cases z) (u : ∀ ds, s = .ow ds ∨ s = .hd ds → Mu env i := by intro ds z; rcases z with z | z <;> cases z) : RelOd K cl σ H F (env.set i s) :=
 R.to (fun j t ks ds h d => by
  by_cases z : j = i
  ·subst z
   have hj : j < env.length := by have := (List.getElem?_eq_some_iff.mp h).1; rwa [List.length_set] at this
   rw [List.getElem?_set_self hj] at h; cases h; exact absurd d (n ks ds)
  ·rw [List.getElem?_set_ne (Ne.symm z)] at h
   exact ⟨t, h, d, rfl⟩) (fun _ a ks xs _ h f => ⟨h, f⟩) (Same.refl _) (fun j p d h => by
  by_cases z : j = i
  ·subst z
   have hj : j < env.length := by have := (List.getElem?_eq_some_iff.mp h).1; rwa [List.length_set] at this
   rw [List.getElem?_set_self hj] at h; cases h; exact absurd rfl (k p d)
  ·rw [List.getElem?_set_ne (Ne.symm z)] at h
   exact ⟨h, rfl⟩) (fun _ _ _ _ _ _ _ _ _ _ h f => ⟨h, f⟩) fun j b ⟨ds, q⟩ e => by
  by_cases z : j = i
  ·subst z
   have hj : j < env.length := by rcases q with q | q <;> (have := (List.getElem?_eq_some_iff.mp q).1; rwa [List.length_set] at this)
   rw [List.getElem?_set_self hj] at q
   exact .inl ⟨u ds (q.imp Option.some.inj Option.some.inj), e⟩
  ·rw [List.getElem?_set_ne (Ne.symm z)] at q
   exact .inl ⟨⟨ds, q⟩, e⟩
theorem RelOd.lst (R : RelOd K cl σ H F env) (hh : ∀ (a : Addr) (o : HO), (∀ xs, o ≠ .lst xs) → NT o → H a = some o → F a = none → H' a = some o ∧ F' a = none) (sF : Same F F')
  (hp : ∀ (i : Nat) (p : Addr) (d : D), env[i]? = some (.nk p d) → ∀ xs, H p = some (.lst xs) → F p = none → H' p = some (.lst xs) ∧ F' p = none) : RelOd K cl σ H' F' env :=
 R.to (fun i s ks ds h d => ⟨s, h, d, rfl⟩) (fun _ a ks xs _ h f => hh a _ (fun _ => dkO_lst) nt_dkO h f) sF (fun _ _ _ h => ⟨h, rfl⟩) (fun i p d a b o h e z m g f => by
  rcases z with ⟨rfl, nl⟩ | rfl
  ·exact hh b o nl m g f
  ·obtain ⟨_, _, _, _, _, _, _, _, xs, _, _, _, g2, _⟩ := R.dk i b d h
   rw [g] at g2; cases g2
   exact hp i b d h xs g f) fun _ _ m e => .inl ⟨m, e⟩
theorem RelOd.frzL {a : Addr} {xs : List V} {o : HO} (R : RelOd K cl σ H F env) (hH : H a = some (.lst xs)) (hF : F a = none) (np : ∀ (i : Nat) (p : Addr) (d : D), env[i]? = some (.nk p d) → p ≠ a) : RelOd K cl σ H (upd F a o) env :=
 R.lst (fun c u n nt h f => ⟨h, by rw [upd_ne (fun z => by rw [z, hH] at h; exact n xs (Option.some.inj h).symm)]; exact f⟩) (same_new hF _) fun i p d q _ h f => ⟨h, by rw [upd_ne (np i p d q)]; exact f⟩
theorem RelOd.updL {a : Addr} {xs : List V} {o : HO} (R : RelOd K cl σ H F env) (hH : H a = some (.lst xs)) (np : ∀ (i : Nat) (p : Addr) (d : D), env[i]? = some (.nk p d) → p ≠ a) : RelOd K cl σ (upd H a o) F env :=
 R.lst (fun c u n nt h f => ⟨by rw [upd_ne (fun z => by rw [z, hH] at h; exact n xs (Option.some.inj h).symm)]; exact h, f⟩) (Same.refl _) fun i p d q _ h f => ⟨by rw [upd_ne (np i p d q)]; exact h, f⟩
theorem RelOd.newO {a : Addr} {o : HO} (R : RelOd K cl σ H F env) (hH : H a = none) : RelOd K cl σ (upd H a o) F env :=
 R.lst (fun c u n nt h f => ⟨by rw [upd_ne (fun z => by rw [z, hH] at h; cases h)]; exact h, f⟩) (Same.refl _) fun i p d q _ h f => ⟨by rw [upd_ne (fun z => by rw [z, hH] at h; cases h)]; exact h, f⟩
theorem RelOd.none (n : ∀ (i : Nat) (s : Sl) ks ds, env[i]? = some s → ¬ isD s ks ds) (m : ∀ (i : Nat) (p : Addr) (d : D), env[i]? ≠ some (.nk p d)) : RelOd K cl σ H F env := ⟨fun i s ks ds h d => absurd d (n i s ks ds h), fun i j s t ks ls ds es a h d => absurd d (n i s ks ds h), fun i p d h => absurd h (m i p d), fun i j p q d e h => absurd h (m i p d), fun i j p d h => absurd h (m i p d)⟩
theorem Rel.np {j : Nat} {a : Addr} (R : Rel K cl σ H F env) (m : Mu env j) (e : σ[j]? = some (some (.ref a))) : ∀ (i : Nat) (p : Addr) (d : D), env[i]? = some (.nk p d) → p ≠ a := fun i p d q z => R.od.dm i j p d q m (by rw [z]; exact e)
theorem Rel.npN {a : Addr} (R : Rel K cl σ H F env) (h : H a = none) : ∀ (i : Nat) (p : Addr) (d : D), env[i]? = some (.nk p d) → p ≠ a := fun i p d q z => by
 obtain ⟨_, _, _, _, _, _, _, _, _, _, _, _, g, _⟩ := R.od.dk i p d q
 rw [z, h] at g; cases g
theorem Rel.nl {a : Addr} (R : Rel K cl σ H F env) (h : H a = none) : Nl σ env a := ⟨fun j ⟨ds, q⟩ e => (by
 obtain ⟨b, xs, e1, g, _⟩ := R.mu j ds q
 rw [e] at e1; cases e1
 rw [h] at g; cases g), R.npN h⟩
theorem not_isD_fz {d : D} : ∀ ks ds, ¬ isD (.fz d) ks ds := fun _ _ h => h
theorem not_isD_ow {d : List D} : ∀ ks ds, ¬ isD (.ow d) ks ds := fun _ _ h => h
theorem not_isD_hd {d : List D} : ∀ ks ds, ¬ isD (.hd d) ks ds := fun _ _ h => h
theorem Frm.refl : Frm σ H F env σ H F env := ⟨Same.refl _, fun _ _ h f o _ => ⟨h, f, o⟩, fun _ _ h => ⟨h, rfl⟩, fun _ h => h, (by first | exact tu_refl | exact tu_new (by assumption) | exact tu_upd (by assumption) nt_lst | exact tu_upd (by assumption) nt_dkO | assumption)⟩
theorem Frm.trans (a : Frm σ H F env σ' H' F' env') (b : Frm σ' H' F' env' σ'' H'' F'' env'') : Frm σ H F env σ'' H'' F'' env'' :=
 ⟨a.fz.trans b.fz, fun x o h f w m => by obtain ⟨h1, f1, w1⟩ := a.hid x o h f w; exact b.hid x o h1 f1 w1,
  fun i ds h => by obtain ⟨h1, e1⟩ := a.keep i ds h; obtain ⟨h2, e2⟩ := b.keep i ds h1; exact ⟨h2, e2.trans e1⟩, fun x h => a.dom x (b.dom x h), fun x ys h => b.tu x ys (a.tu x ys h)⟩
theorem Rel.gr (R : Rel K cl σ H F env) (g : Gr H F H' F') : Rel K cl σ H' F' env :=
 ⟨g.sub, R.len, fun i d h => by obtain ⟨v, e, r⟩ := R.fz i d h; exact ⟨v, e, r.mono g.fz⟩,
  fun i ds h => by obtain ⟨a, xs, e, hH, hF, r⟩ := R.mu i ds h; obtain ⟨h1, f1⟩ := g.hid a _ hH hF; exact ⟨a, xs, e, h1, f1, r.mono g.fz⟩, R.inj, R.od.gr g⟩
theorem Rel.frm (R : Rel K cl σ H F env) (g : Gr H F H' F') : Frm σ H F env σ H' F' env :=
 ⟨g.fz, fun a o h f w m => by obtain ⟨h1, f1⟩ := g.hid a o h f; exact ⟨h1, f1, w⟩, fun _ _ h => ⟨h, rfl⟩, g.dom, g.tu⟩
theorem Gr.refl (s : Same F H) : Gr H F H F := ⟨Same.refl _, s, fun _ _ h f _ => ⟨h, f⟩, fun _ h => h, (by first | exact tu_refl | exact tu_new (by assumption) | exact tu_upd (by assumption) nt_lst | exact tu_upd (by assumption) nt_dkO | assumption)⟩
theorem Gr.new {p : Addr} {o : HO} (s : Same F H) (hp : H p = none) : Gr H F (upd H p o) (upd F p o) := by
 have fp : F p = none := s.free hp
 refine ⟨same_new fp o, fun b u e => ?_, fun a u e f m => ?_, fun b h => ?_, (by first | exact tu_refl | exact tu_new (by assumption) | exact tu_upd (by assumption) nt_lst | exact tu_upd (by assumption) nt_dkO | assumption)⟩
 ·by_cases z : b = p
  ·subst z; rw [upd_same] at e ⊢; exact e
  ·rw [upd_ne z] at e ⊢; exact s _ _ e
 ·have z : a ≠ p := fun z => by rw [z, hp] at e; cases e
  rw [upd_ne z, upd_ne z]; exact ⟨e, f⟩
 ·by_cases z : b = p
  ·rw [z]; exact hp
  ·rw [upd_ne z] at h; exact h
theorem Rel.freeze {i : Nat} {ds : List D} (R : Rel K cl σ H F env) (h : env[i]? = some (.ow ds)) : ∃ a F', σ[i]? = some (some (.ref a)) ∧ Frm σ H F env σ H F' (env.set i (.fz (.lst ds))) ∧ Rel K cl σ H F' (env.set i (.fz (.lst ds))) ∧ Rp K cl F' (.lst ds) (.ref a) := by
 obtain ⟨a, xs, e, hH, hF, r⟩ := R.mu i ds (.inl h)
 have hi : i < env.length := (List.getElem?_eq_some_iff.mp h).1
 have sF : Same F (upd F a (.lst xs)) := same_new hF _
 have oth : ∀ j, j ≠ i → (env.set i (.fz (.lst ds)))[j]? = env[j]? := fun j hj => List.getElem?_set_ne (Ne.symm hj)
 have self : (env.set i (.fz (.lst ds)))[i]? = some (.fz (.lst ds)) := List.getElem?_set_self hi
 have mui : ∀ j, Mu (env.set i (.fz (.lst ds))) j → j ≠ i ∧ Mu env j := fun j ⟨es, q⟩ => by
  by_cases z : j = i
  ·subst z; rw [self] at q; rcases q with q | q <;> cases q
  ·rw [oth j z] at q; exact ⟨z, es, q⟩
 have rl : Rp K cl (upd F a (.lst xs)) (.lst ds) (.ref a) := by simp only [Rp]; exact ⟨a, xs, rfl, upd_same, r.mono sF⟩
 refine ⟨a, upd F a (.lst xs), e, ⟨sF, fun b o hb fb w m => ?_, fun j es q => ?_, fun _ h => h, (by first | exact tu_refl | exact tu_new (by assumption) | exact tu_upd (by assumption) nt_lst | exact tu_upd (by assumption) nt_dkO | assumption)⟩, ⟨fun b o q => ?_, by rw [List.length_set]; exact R.len, fun j d q => ?_, fun j es q => ?_, fun j k b hj hk e1 e2 => R.inj j k b (mui j hj).2 (mui k hk).2 e1 e2, (R.od.lst (fun c u n nt h f => ⟨h, by rw [upd_ne (fun z => by rw [z, hH] at h; exact n xs (Option.some.inj h).symm)]; exact f⟩) sF fun i' p d q _ g f => ⟨g, by rw [upd_ne (R.np ⟨ds, .inl h⟩ e i' p d q)]; exact f⟩).setE not_isD_fz⟩, rl⟩
 ·have z : b ≠ a := fun z => w ⟨i, .ow ds, True.intro, h, .inl (by rw [z]; exact e)⟩
  refine ⟨hb, by rw [upd_ne z]; exact fb, fun ⟨j, es, oo, q, e1⟩ => ?_⟩
  by_cases y : j = i
  ·subst y; rw [self] at q; cases q; exact oo
  ·rw [oth j y] at q; exact w ⟨j, es, oo, q, e1⟩
 ·have z : j ≠ i := fun z => by subst z; rw [h] at q; cases q
  exact ⟨by rw [oth j z]; exact q, rfl⟩
 ·by_cases z : b = a
  ·subst z; rw [upd_same] at q; cases q; exact hH
  ·rw [upd_ne z] at q; exact R.sub _ _ q
 ·by_cases z : j = i
  ·subst z; rw [self] at q; cases q; exact ⟨_, e, rl⟩
  ·rw [oth j z] at q; obtain ⟨v, e1, r1⟩ := R.fz j d q; exact ⟨v, e1, r1.mono sF⟩
 ·have z : j ≠ i := (mui j ⟨es, q⟩).1
  rw [oth j z] at q
  obtain ⟨b, ys, e1, h1, f1, r1⟩ := R.mu j es q
  have nb : b ≠ a := fun y => z (R.inj j i b ⟨es, q⟩ ⟨ds, .inl h⟩ e1 (by rw [y]; exact e))
  exact ⟨b, ys, e1, h1, by rw [upd_ne nb]; exact f1, r1.mono sF⟩
theorem Rel.put {i : Nat} {d : D} {v : V} (R : Rel K cl σ H F env) (hi : i < env.length) (nh : ∀ ds, env[i]? ≠ some (.hd ds)) (r : Rp K cl F d v) : Rel K cl (σ.set i (some v)) H F (env.set i (.fz d)) := by
 refine ⟨R.sub, by rw [List.length_set, List.length_set]; exact R.len, fun j e q => ?_, fun j es q => ?_, fun j k b hj hk e1 e2 => ?_, R.od.set not_isD_fz⟩
 ·by_cases z : j = i
  ·subst z
   rw [List.getElem?_set_self hi] at q; cases q
   exact ⟨v, List.getElem?_set_self (by rw [R.len]; exact hi), r⟩
  ·rw [List.getElem?_set_ne (Ne.symm z)] at q
   obtain ⟨u, e1, r1⟩ := R.fz j e q
   exact ⟨u, by rw [List.getElem?_set_ne (Ne.symm z)]; exact e1, r1⟩
 ·have z : j ≠ i := fun z => by
   subst z
   rw [List.getElem?_set_self hi] at q
   rcases q with q | q <;> cases q
  rw [List.getElem?_set_ne (Ne.symm z)] at q
  obtain ⟨a, xs, e1, h1, f1, r1⟩ := R.mu j es q
  exact ⟨a, xs, by rw [List.getElem?_set_ne (Ne.symm z)]; exact e1, h1, f1, r1⟩
 ·have nz : ∀ j, Mu (env.set i (.fz d)) j → j ≠ i ∧ Mu env j := fun j ⟨es, q⟩ => by
   by_cases z : j = i
   ·subst z
    rw [List.getElem?_set_self hi] at q
    rcases q with q | q <;> cases q
   ·rw [List.getElem?_set_ne (Ne.symm z)] at q; exact ⟨z, es, q⟩
  obtain ⟨zj, mj⟩ := nz j hj
  obtain ⟨zk, mk⟩ := nz k hk
  rw [List.getElem?_set_ne (Ne.symm zj)] at e1
  rw [List.getElem?_set_ne (Ne.symm zk)] at e2
  exact R.inj j k b mj mk e1 e2
theorem Rel.putO {i : Nat} {ds : List D} {a : Addr} {xs : List V} (R : Rel K cl σ H F env) (hi : i < env.length) (hH : H a = some (.lst xs)) (hF : F a = none) (na : Nl σ env a) (r : Rps K cl F ds xs) : Rel K cl (σ.set i (some (.ref a))) H F (env.set i (.ow ds)) := by
 have his : i < σ.length := by rw [R.len]; exact hi
 have nz : ∀ j, j ≠ i → Mu (env.set i (.ow ds)) j → Mu env j := fun j z ⟨es, q⟩ => by
  rw [List.getElem?_set_ne (Ne.symm z)] at q; exact ⟨es, q⟩
 refine ⟨R.sub, by rw [List.length_set, List.length_set]; exact R.len, fun j e q => ?_, fun j es q => ?_, fun j k b hj hk e1 e2 => ?_, R.od.set not_isD_ow (u := fun _ b _ z => by cases z; exact na.2)⟩
 ·have z : j ≠ i := fun z => by subst z; rw [List.getElem?_set_self hi] at q; cases q
  rw [List.getElem?_set_ne (Ne.symm z)] at q
  obtain ⟨u, e1, r1⟩ := R.fz j e q
  exact ⟨u, by rw [List.getElem?_set_ne (Ne.symm z)]; exact e1, r1⟩
 ·by_cases z : j = i
  ·subst z
   rw [List.getElem?_set_self hi] at q
   rcases q with q | q
   ·cases q; exact ⟨a, xs, List.getElem?_set_self his, hH, hF, r⟩
   ·cases q
  ·rw [List.getElem?_set_ne (Ne.symm z)] at q
   obtain ⟨b, ys, e1, h1, f1, r1⟩ := R.mu j es q
   exact ⟨b, ys, by rw [List.getElem?_set_ne (Ne.symm z)]; exact e1, h1, f1, r1⟩
 ·by_cases zj : j = i
  ·by_cases zk : k = i
   ·rw [zj, zk]
   ·subst zj
    rw [List.getElem?_set_self his] at e1
    rw [List.getElem?_set_ne (Ne.symm zk)] at e2
    cases e1
    exact absurd e2 (na.1 k (nz k zk hk))
  ·rw [List.getElem?_set_ne (Ne.symm zj)] at e1
   by_cases zk : k = i
   ·subst zk
    rw [List.getElem?_set_self his] at e2
    cases e2
    exact absurd e1 (na.1 j (nz j zj hj))
   ·rw [List.getElem?_set_ne (Ne.symm zk)] at e2
    exact R.inj j k b (nz j zj hj) (nz k zk hk) e1 e2
theorem Frm.put {i : Nat} {d : D} {x : Option V} (nh : ∀ ds, env[i]? ≠ some (.hd ds)) : Frm σ H F env (σ.set i x) H F (env.set i (.fz d)) := by
 refine ⟨Same.refl _, fun a o h f w m => ⟨h, f, fun ⟨j, ds, oo, q, e⟩ => ?_⟩, fun j ds q => ?_, fun _ h => h, (by first | exact tu_refl | exact tu_new (by assumption) | exact tu_upd (by assumption) nt_lst | exact tu_upd (by assumption) nt_dkO | assumption)⟩
 ·by_cases z : j = i
  ·subst z
   have hj : j < env.length := by have := (List.getElem?_eq_some_iff.mp q).1; rwa [List.length_set] at this
   rw [List.getElem?_set_self hj] at q
   cases q; exact oo
  ·rw [List.getElem?_set_ne (Ne.symm z)] at q e
   exact w ⟨j, ds, oo, q, e⟩
 ·have z : j ≠ i := fun z => by subst z; exact nh ds q
  rw [List.getElem?_set_ne (Ne.symm z), List.getElem?_set_ne (Ne.symm z)]
  exact ⟨q, rfl⟩
theorem Frm.putO {i : Nat} {s0 : Sl} {a : Addr} (f : Frm σ H F env σ' H' F' env') (ha : H a = none) (nh : ∀ ds, env'[i]? ≠ some (.hd ds)) (n0 : s0.pa = none := by rfl) : Frm σ H F env (σ'.set i (some (.ref a))) H' F' (env'.set i s0) := by
 refine ⟨f.fz, fun b o h g w m => ?_, fun j ds q => ?_, f.dom, f.tu⟩
 ·obtain ⟨h1, f1, w1⟩ := f.hid b o h g w
  refine ⟨h1, f1, fun ⟨j, ds, oo, q, e⟩ => ?_⟩
  by_cases z : j = i
  ·subst z
   rcases e with e | e
   ·have hj : j < σ'.length := by have := (List.getElem?_eq_some_iff.mp e).1; rwa [List.length_set] at this
    rw [List.getElem?_set_self hj] at e
    cases e
    rw [ha] at h; cases h
   ·have hj : j < env'.length := by have := (List.getElem?_eq_some_iff.mp q).1; rwa [List.length_set] at this
    rw [List.getElem?_set_self hj] at q
    cases q; rw [n0] at e; cases e
  ·rw [List.getElem?_set_ne (Ne.symm z)] at q e
   exact w1 ⟨j, ds, oo, q, e⟩
 ·obtain ⟨q1, e1⟩ := f.keep j ds q
  have z : j ≠ i := fun z => by subst z; exact nh ds q1
  rw [List.getElem?_set_ne (Ne.symm z), List.getElem?_set_ne (Ne.symm z)]
  exact ⟨q1, e1⟩
end
inductive XN where | p (c : Str) | v (c f : Str) (d : D) | k (c : Str)
instance : Coe Str XN := ⟨.p⟩
def XN.nm : XN → Str
 | .p c => c
 | .v c _ _ => c
 | .k c => c
def Xf (K : W.Frag) (cl : Str → Addr) (F : Hp) : XN → Option Addr → Prop
 | .p _, cx => cx = none
 | .v _ f d, cx => ∃ dx y, cx = some (2 * dx + 1) ∧ F dx = some (.xd [(f, y)]) ∧ Rp K cl F d y
 | .k _, cx => ∃ a, cx = some (2 * a)
inductive R (α : Type) where | ok (a : α) (e : DE) | ex (c : XN)
inductive RS where | nx (e : DE) | rt (d : D) | ro (ds : List D) | rz (dss : List (List D)) | rp (n : Int) (ds : List D) | bk (e : DE) | ct (e : DE) | ex (c : XN)
def bnd {α β : Type} (x : Option (R α)) (k : α → DE → Option (R β)) : Option (R β) := match x with
 | none => none
 | some (.ok a e) => k a e
 | some (.ex c) => some (.ex c)
def sbn {α : Type} (x : Option (R α)) (k : α → DE → Option RS) : Option RS := match x with
 | none => none
 | some (.ok a e) => k a e
 | some (.ex c) => some (.ex c)
def opt {α : Type} (x : Option α) (e : DE) : Option (R α) := match x with
 | none => none
 | some a => some (.ok a e)
@[simp] theorem bnd_ok {α β : Type} (a : α) (e : DE) (k : α → DE → Option (R β)) : bnd (some (.ok a e)) k = k a e := rfl
@[simp] theorem bnd_ex {α β : Type} (c : XN) (k : α → DE → Option (R β)) : bnd (some (.ex c)) k = some (.ex c) := rfl
@[simp] theorem bnd_no {α β : Type} (k : α → DE → Option (R β)) : bnd (none : Option (R α)) k = none := rfl
@[simp] theorem sbn_ok {α : Type} (a : α) (e : DE) (k : α → DE → Option RS) : sbn (some (.ok a e)) k = k a e := rfl
@[simp] theorem sbn_ex {α : Type} (c : XN) (k : α → DE → Option RS) : sbn (some (.ex c)) k = some (.ex c) := rfl
@[simp] theorem sbn_no {α : Type} (k : α → DE → Option RS) : sbn (none : Option (R α)) k = none := rfl
@[simp] theorem opt_some {α : Type} (a : α) (e : DE) : opt (some a) e = some (.ok a e) := rfl
@[simp] theorem opt_none {α : Type} (e : DE) : opt (none : Option α) e = none := rfl
structure FX (σ : St) (H F : Hp) (env : DE) (H' F' : Hp) : Prop where
 fz : Same F F'
 sub : Same F' H'
 hid : ∀ a o, H a = some o → F a = none → ¬ Ow σ env a → ∀ (m : NT o := by first | assumption | exact nt_lst | exact nt_dkO | exact nt_frz), H' a = some o ∧ F' a = none
 dom : ∀ a, H' a = none → H a = none
 tu : Tu H H'
section
variable {K : W.Frag} {cl : Str → Addr} {E : XK} {σ σ' : St} {H H' H1 F F' F1 : Hp} {env env' env1 : DE} {α β γ δ : Type}
theorem Frm.fx {H2 F2 : Hp} (a : Frm σ H F env σ' H1 F1 env1) (b : FX σ' H1 F1 env1 H2 F2) : FX σ H F env H2 F2 :=
 ⟨a.fz.trans b.fz, b.sub, fun x o h f w m => by obtain ⟨h1, f1, w1⟩ := a.hid x o h f w; exact b.hid x o h1 f1 w1, fun x h => a.dom x (b.dom x h), fun x ys h => b.tu x ys (a.tu x ys h)⟩
theorem Frm.toFX (a : Frm σ H F env σ' H1 F1 env1) (s : Same F1 H1) : FX σ H F env H1 F1 := ⟨a.fz, s, fun x o h f w m => by obtain ⟨h1, f1, _⟩ := a.hid x o h f w; exact ⟨h1, f1⟩, a.dom, a.tu⟩
abbrev Py (α β : Type) := α → St → Hp → Hp → Hp → DE → β → Prop
def PM (P : Py α β) : Prop := ∀ a σ H0 H1 H' F' e b, (∀ x : Addr, H1 x = none → H0 x = none) → P a σ H1 H' F' e b → P a σ H0 H' F' e b
def Ct (K : W.Frag) (cl : Str → Addr) (E : XK) (P : Py α β) (r : Option (R α)) (σ : St) (H F : Hp) (env : DE) (Q : β → Hp → Prop) : Prop := match r with
 | none => False
 | some (.ok a e) => ∀ b H' F', Frm σ H F env σ H' F' e → Rel K cl σ H' F' e → P a σ H H' F' e b → Q b H'
 | some (.ex c) => ∀ H' F', FX σ H F env H' F' → ∀ cx, Xf K cl F' c cx → E (.ref (cl c.nm)) cx H'
def Rz (K : W.Frag) (cl : Str → Addr) (F' H' : Hp) (nw : Addr → Prop) (dss : List (List D)) (as : List Addr) : Prop := as.Nodup ∧ as.length = dss.length ∧ ∀ (k : Nat) (a : Addr) (ds : List D), as[k]? = some a → dss[k]? = some ds → ∃ xs, H' a = some (.lst xs) ∧ F' a = none ∧ nw a ∧ Rps K cl F' ds xs
theorem Rz.imp {nw nw' : Addr → Prop} {dss : List (List D)} {as : List Addr} (h : Rz K cl F' H' nw dss as) (i : ∀ a xs, H' a = some (.lst xs) → F' a = none → nw a → nw' a) : Rz K cl F' H' nw' dss as :=
 ⟨h.1, h.2.1, fun k a ds e1 e2 => by obtain ⟨xs, h1, h2, h3, h4⟩ := h.2.2 k a ds e1 e2; exact ⟨xs, h1, h2, i a xs h1 h2 h3, h4⟩⟩
def Cs (K : W.Frag) (cl : Str → Addr) (E : XK) (r : Option RS) (σ : St) (H F : Hp) (env : DE) (N : Ends) : Prop := match r with
 | none => False
 | some (.nx e) => ∀ σ' H' F', Frm σ H F env σ' H' F' e → Rel K cl σ' H' F' e → N.nx σ' H'
 | some (.bk e) => ∀ σ' H' F', Frm σ H F env σ' H' F' e → Rel K cl σ' H' F' e → N.bk σ' H'
 | some (.ct e) => ∀ σ' H' F', Frm σ H F env σ' H' F' e → Rel K cl σ' H' F' e → N.ct σ' H'
 | some (.rt d) => ∀ v H' F', FX σ H F env H' F' → Rp K cl F' d v → N.rt v H'
 | some (.ro ds) => ∀ a xs H' F', FX σ H F env H' F' → H' a = some (.lst xs) → F' a = none → (∀ o, H a = some o → Ow σ env a) → Rps K cl F' ds xs → N.rt (.ref a) H'
 | some (.rz dss) => ∀ p as H' F', FX σ H F env H' F' → H p = none → H' p = some (.tup (as.map V.ref)) → F' p = none → Rz K cl F' H' (fun a => ∀ o, H a = some o → Ow σ env a) dss as → N.rt (.ref p) H'
 | some (.rp n ds) => ∀ p a xs H' F', FX σ H F env H' F' → H p = none → H' p = some (.tup [.int n, .ref a]) → F' p = none → H' a = some (.lst xs) → F' a = none → (∀ o, H a = some o → Ow σ env a) → Rps K cl F' ds xs → N.rt (.ref p) H'
 | some (.ex c) => ∀ H' F', FX σ H F env H' F' → ∀ cx, Xf K cl F' c cx → E (.ref (cl c.nm)) cx H'
theorem Ct.mono {P : Py α β} {r : Option (R α)} {Q Q' : β → Hp → Prop} (h : Ct K cl E P r σ H F env Q) (q : ∀ b H', Q b H' → Q' b H') : Ct K cl E P r σ H F env Q' := by
 unfold Ct at h ⊢
 split at h
 ·exact h
 ·exact fun b H' F' f R p => q _ _ (h b H' F' f R p)
 ·exact h
theorem Ct.from {P2 : Py γ δ} {r : Option (R γ)} {Q : δ → Hp → Prop} (f : Frm σ H F env σ H1 F1 env1) (pm : PM P2) (h : Ct K cl E P2 r σ H F env Q) : Ct K cl E P2 r σ H1 F1 env1 Q := by
 unfold Ct at h ⊢
 split at h
 ·exact h
 ·exact fun b H' F' f2 R2 p2 => h b H' F' (f.trans f2) R2 (pm _ _ _ _ _ _ _ _ f.dom p2)
 ·exact fun H' F' x => h H' F' (f.fx x)
theorem Ct.bnd {P1 : Py α β} {P2 : Py γ δ} {r : Option (R α)} {k : α → DE → Option (R γ)} {Q : δ → Hp → Prop} (h : Ct K cl E P2 (bnd r k) σ H F env Q) (pm : PM P2) :
  Ct K cl E P1 r σ H F env fun b H1 => ∃ F1 env1 a, Same F F1 ∧ Rel K cl σ H1 F1 env1 ∧ P1 a σ H H1 F1 env1 b ∧ Ct K cl E P2 (k a env1) σ H1 F1 env1 Q := by
 unfold Ct
 rcases r with _ | ⟨a, e⟩ | c
 ·exact h
 ·intro b H1 F1 f R p
  refine ⟨F1, e, a, f.fz, R, p, ?_⟩
  have h : Ct K cl E P2 (k a e) σ H F env Q := h
  exact Ct.from f pm h
 ·exact h
theorem Cs.from {r : Option RS} {N : Ends} (f : Frm σ H F env σ' H1 F1 env1) (h : Cs K cl E r σ H F env N) : Cs K cl E r σ' H1 F1 env1 N := by
 unfold Cs at h ⊢
 split at h
 ·exact h
 ·exact fun σ' H' F' f2 R2 => h σ' H' F' (f.trans f2) R2
 ·exact fun σ' H' F' f2 R2 => h σ' H' F' (f.trans f2) R2
 ·exact fun σ' H' F' f2 R2 => h σ' H' F' (f.trans f2) R2
 ·exact fun v H' F' x p => h v H' F' (f.fx x) p
 ·refine fun a xs H' F' x ha fa nw p => h a xs H' F' (f.fx x) ha fa (fun o e => ?_) p
  refine Classical.byContradiction fun w => ?_
  cases q : F a with
  | none =>
   have nt : NT o := nt_of (fun b ys h => x.tu b ys (f.tu b ys h)) e ha nt_lst
   obtain ⟨h1, f1, w1⟩ := f.hid a o e q w
   exact w1 (nw o h1)
  | some u => rw [x.fz _ _ (f.fz _ _ q)] at fa; cases fa
 ·refine fun p as H' F' x hp ht fp rz => h p as H' F' (f.fx x) (f.dom p hp) ht fp (rz.imp fun a xs ha fa nw o e => ?_)
  refine Classical.byContradiction fun w => ?_
  cases q : F a with
  | none =>
   have nt : NT o := nt_of (fun b ys h => x.tu b ys (f.tu b ys h)) e ha nt_lst
   obtain ⟨h1, f1, w1⟩ := f.hid a o e q w
   exact w1 (nw o h1)
  | some u => rw [x.fz _ _ (f.fz _ _ q)] at fa; cases fa
 ·refine fun p a xs H' F' x hp ht fp ha fa nw r => h p a xs H' F' (f.fx x) (f.dom p hp) ht fp ha fa (fun o e => ?_) r
  refine Classical.byContradiction fun w => ?_
  cases q : F a with
  | none =>
   have nt : NT o := nt_of (fun b ys h => x.tu b ys (f.tu b ys h)) e ha nt_lst
   obtain ⟨h1, f1, w1⟩ := f.hid a o e q w
   exact w1 (nw o h1)
  | some u => rw [x.fz _ _ (f.fz _ _ q)] at fa; cases fa
 ·exact fun H' F' x => h H' F' (f.fx x)
theorem Cs.bnd {P1 : Py α β} {r : Option (R α)} {k : α → DE → Option RS} {N : Ends} (h : Cs K cl E (sbn r k) σ H F env N) :
  Ct K cl E P1 r σ H F env fun b H1 => ∃ F1 env1 a, Frm σ H F env σ H1 F1 env1 ∧ Rel K cl σ H1 F1 env1 ∧ P1 a σ H H1 F1 env1 b ∧ Cs K cl E (k a env1) σ H F env N := by
 unfold Ct
 rcases r with _ | ⟨a, e⟩ | c
 ·exact h
 ·intro b H1 F1 f R p
  exact ⟨F1, e, a, f, R, p, h⟩
 ·exact h
end
def PZ (K : W.Frag) (cl : Str → Addr) : Py D V := fun d _ _ _ F' _ v => Rp K cl F' d v
def PAs (K : W.Frag) (cl : Str → Addr) : Py (List D) (List V) := fun ds _ _ _ F' _ vs => Rps K cl F' ds vs
def PB : Py Bool Bool := fun b _ _ _ _ _ c => c = b
def PI' : Py (Option Int) (Option Int) := fun b _ _ _ _ _ c => c = b
def PN (K : W.Frag) (cl : Str → Addr) : Py (List D) V := fun ds σ H H' F' e v => ∃ a xs, v = .ref a ∧ H a = none ∧ H' a = some (.lst xs) ∧ F' a = none ∧ Nl σ e a ∧ Rps K cl F' ds xs
theorem pm_Z {K cl} : PM (PZ K cl) := fun _ _ _ _ _ _ _ _ _ h => h
theorem pm_A {K cl} : PM (PAs K cl) := fun _ _ _ _ _ _ _ _ _ h => h
theorem pm_B : PM PB := fun _ _ _ _ _ _ _ _ _ h => h
theorem pm_I : PM PI' := fun _ _ _ _ _ _ _ _ _ h => h
theorem pm_N {K cl} : PM (PN K cl) := fun _ _ _ _ _ _ _ _ g ⟨a, xs, e, h, r⟩ => ⟨a, xs, e, g a h, r⟩
abbrev ZF := DE → Option (R D)
abbrev NF := DE → Option (R (List D))
abbrev AF := DE → Option (R (List D))
abbrev BF := DE → Option (R Bool)
abbrev OF := DE → Option (R (Option Int))
abbrev SF := DE → Option RS
section
variable (K : W.Frag) (cl : Str → Addr) (E : XK)
def RfZ (t : TE) (f : ZF) : Prop := ∀ σ H Q env F, Rel K cl σ H F env → Ct K cl E (PZ K cl) (f env) σ H F env Q → t σ H Q
def RfN (t : TE) (f : NF) : Prop := ∀ σ H Q env F, Rel K cl σ H F env → Ct K cl E (PN K cl) (f env) σ H F env Q → t σ H Q
def RfA (t : TA) (f : AF) : Prop := ∀ σ H Q env F, Rel K cl σ H F env → Ct K cl E (PAs K cl) (f env) σ H F env Q → t σ H Q
def RfB (t : TT) (f : BF) : Prop := ∀ σ H Q env F, Rel K cl σ H F env → Ct K cl E PB (f env) σ H F env Q → t σ H Q
def RfO (t : TO) (f : OF) : Prop := ∀ σ H Q env F, Rel K cl σ H F env → Ct K cl E PI' (f env) σ H F env Q → t σ H Q
def RfS (t : TS) (f : SF) : Prop := ∀ (N : Ends) σ H env F, Rel K cl σ H F env → Cs K cl E (f env) σ H F env N → t N σ H
end
def eC (d : D) : ZF := fun e => some (.ok d e)
def eV (i : Nat) : ZF := fun e => match e[i]? with
 | some (.fz d) => some (.ok d e)
 | some (.ow ds) => some (.ok (.lst ds) (e.set i (.fz (.lst ds))))
 | _ => none
def look (e : DE) (i : Nat) : Option D := match e[i]? with
 | some (.fz d) => some d
 | some (.ow ds) => some (.lst ds)
 | some (.hd ds) => some (.lst ds)
 | _ => none
def Rb (K : W.Frag) (cl : Str → Addr) (F H : Hp) (d : D) (v : V) : Prop := Rp K cl F d v ∨ ∃ a xs ds, v = .ref a ∧ d = .lst ds ∧ H a = some (.lst xs) ∧ Rps K cl F ds xs
section
variable {K : W.Frag} {cl : Str → Addr} {E : XK} {σ : St} {H F : Hp} {env : DE}
theorem Rel.look {i : Nat} {d : D} (R : Rel K cl σ H F env) (h : look env i = some d) : ∃ v, σ[i]? = some (some v) ∧ Rb K cl F H d v := by
 unfold L2.look at h
 split at h
 ·rename_i q; cases h; obtain ⟨v, e, r⟩ := R.fz i d q; exact ⟨v, e, .inl r⟩
 ·rename_i ds q; cases h; obtain ⟨a, xs, e, hH, _, r⟩ := R.mu i ds (.inl q); exact ⟨_, e, .inr ⟨a, xs, ds, rfl, rfl, hH, r⟩⟩
 ·rename_i ds q; cases h; obtain ⟨a, xs, e, hH, _, r⟩ := R.mu i ds (.inr q); exact ⟨_, e, .inr ⟨a, xs, ds, rfl, rfl, hH, r⟩⟩
 ·cases h
theorem rf_c {v : V} {d : D} (h : ∀ F, Rp K cl F d v := by intro F; simp only [Rp]) : RfZ K cl E (tC v) (eC d) := fun σ H Q env F R h' => h' v H F Frm.refl R (h F)
theorem rf_v {i : Nat} : RfZ K cl E (tVar i) (eV i) := by
 intro σ H Q env F R h
 unfold eV at h
 split at h
 ·rename_i d q
  obtain ⟨v, e, r⟩ := R.fz i d q
  exact ⟨v, e, h v H F Frm.refl R r⟩
 ·rename_i ds q
  obtain ⟨a, F', e, fr, R', r⟩ := R.freeze q
  exact ⟨_, e, h _ H F' fr R' r⟩
 ·exact h.elim
end
def OpOk (K : W.Frag) (cl : Str → Addr) (r : R2) (g : D → D → Option D) : Prop := ∀ x y d e z H F Q, Same F H → Rb K cl F H d x → Rb K cl F H e y → g d e = some z → (∀ v H' F', Gr H F H' F' → Rp K cl F' z v → Q v H') → r x y H Q
def eB (g : D → D → Option D) (f k : ZF) : ZF := fun e => bnd (f e) fun d e1 => bnd (k e1) fun d' e2 => opt (g d d') e2
def eBV (g : D → D → Option D) (i : Nat) (k : ZF) : ZF := fun e => match look e i with
 | none => none
 | some _ => bnd (k e) fun d' e2 => match look e2 i with
  | some d => opt (g d d') e2
  | none => none
def eBVV (g : D → D → Option D) (i j : Nat) : ZF := fun e => match look e i, look e j with
 | some d, some d' => opt (g d d') e
 | _, _ => none
section
variable {K : W.Frag} {cl : Str → Addr} {E : XK} {r : R2} {g : D → D → Option D} {ta tb : TE} {f k : ZF} {i j : Nat}
theorem OpOk.fin {σ : St} {H F : Hp} {env : DE} {x y : V} {d e : D} {Q : VK} (ok : OpOk K cl r g) (R : Rel K cl σ H F env) (hx : Rb K cl F H d x) (hy : Rb K cl F H e y) (h : Ct K cl E (PZ K cl) (opt (g d e) env) σ H F env Q) : r x y H Q := by
 cases hz : g d e with
 | none => rw [hz] at h; exact h.elim
 | some z =>
  rw [hz] at h
  exact ok x y d e z H F Q R.sub hx hy hz fun v H' F' gr p => h v H' F' (R.frm gr) (R.gr gr) p
theorem rf_op (ok : OpOk K cl r g) (ha : RfZ K cl E ta f) (hb : RfZ K cl E tb k) : RfZ K cl E (tOp r ta tb) (eB g f k) := by
 intro σ H Q env F R h
 refine ha σ H _ env F R ((Ct.bnd h pm_Z).mono fun x H1 ⟨F1, e1, d, s1, R1, p1, h1⟩ => ?_)
 refine hb σ H1 _ e1 F1 R1 ((Ct.bnd h1 pm_Z).mono fun y H2 ⟨F2, e2, e, s2, R2, p2, h2⟩ => ?_)
 exact ok.fin R2 (.inl (Rp.mono s2 _ _ p1)) (.inl p2) h2
theorem rf_opV (ok : OpOk K cl r g) (hb : RfZ K cl E tb k) : RfZ K cl E (tOp r (tVar i) tb) (eBV g i k) := by
 intro σ H Q env F R h
 unfold eBV at h
 cases q : look env i with
 | none => rw [q] at h; exact h.elim
 | some d0 =>
  rw [q] at h
  obtain ⟨x, e0, _⟩ := R.look q
  refine ⟨x, e0, hb σ H _ env F R ((Ct.bnd h pm_Z).mono fun y H2 ⟨F2, e2, e, s2, R2, p2, h2⟩ => ?_)⟩
  cases q2 : look e2 i with
  | none => rw [q2] at h2; exact h2.elim
  | some d =>
   rw [q2] at h2
   obtain ⟨x', e', rb⟩ := R2.look q2
   rw [e0] at e'; cases e'
   exact ok.fin R2 rb (.inl p2) h2
theorem rf_opVV (ok : OpOk K cl r g) : RfZ K cl E (tOp r (tVar i) (tVar j)) (eBVV g i j) := by
 intro σ H Q env F R h
 unfold eBVV at h
 cases q : look env i with
 | none => rw [q] at h; exact h.elim
 | some d =>
  cases q2 : look env j with
  | none => rw [q, q2] at h; exact h.elim
  | some d' =>
   rw [q, q2] at h
   obtain ⟨x, e, rb⟩ := R.look q
   obtain ⟨y, e', rb'⟩ := R.look q2
   exact ⟨x, e, y, e', ok.fin R rb rb' h⟩
end
section
variable {K : W.Frag} {cl : Str → Addr} {E : XK}
theorem Rb.int {F H : Hp} {i : Int} {v : V} (h : Rb K cl F H (.int i) v) : v = .int i := by
 rcases h with h | ⟨_, _, _, _, z, _⟩
 ·simpa only [Rp] using h
 ·cases z
theorem Rb.bl {F H : Hp} {i : Bool} {v : V} (h : Rb K cl F H (.bl i) v) : v = .bl i := by
 rcases h with h | ⟨_, _, _, _, z, _⟩
 ·simpa only [Rp] using h
 ·cases z
theorem Rb.str {F H : Hp} {i : Str} {v : V} (h : Rb K cl F H (.str i) v) : v = .str i := by
 rcases h with h | ⟨_, _, _, _, z, _⟩
 ·simpa only [Rp] using h
 ·cases z
theorem Rb.non {F H : Hp} {v : V} (h : Rb K cl F H .non v) : v = .non := by
 rcases h with h | ⟨_, _, _, _, z, _⟩
 ·simpa only [Rp] using h
 ·cases z
theorem Rb.lst {F H : Hp} {ds : List D} {v : V} (s : Same F H) (h : Rb K cl F H (.lst ds) v) : ∃ a xs, v = .ref a ∧ H a = some (.lst xs) ∧ Rps K cl F ds xs := by
 rcases h with h | ⟨a, xs, ds', e, z, h, r⟩
 ·simp only [Rp] at h
  obtain ⟨a, xs, e, h, r⟩ := h
  exact ⟨a, xs, e, s _ _ h, r⟩
 ·cases z; exact ⟨a, xs, e, h, r⟩
theorem Rb.tup {F H : Hp} {ds : List D} {v : V} (s : Same F H) (h : Rb K cl F H (.tup ds) v) : ∃ a xs, v = .ref a ∧ H a = some (.tup xs) ∧ Rps K cl F ds xs := by
 rcases h with h | ⟨_, _, _, _, z, _⟩
 ·simp only [Rp] at h
  obtain ⟨a, xs, e, h, r⟩ := h
  exact ⟨a, xs, e, s _ _ h, r⟩
 ·cases z
theorem Rb.scr {F H : Hp} {ns : List Int} {v : V} (s : Same F H) (h : Rb K cl F H (.scr ns) v) : ∃ a, v = .ref a ∧ Scr K H a (ns.map V.int) := by
 rcases h with h | ⟨_, _, _, _, z, _⟩
 ·simp only [Rp] at h
  obtain ⟨a, e, h⟩ := h
  exact ⟨a, e, h.same s⟩
 ·cases z
def gI (C : Int → Int → Prop) [∀ i j, Decidable (C i j)] (g : Int → Int → D) : D → D → Option D
 | .int i, .int j => if C i j then some (g i j) else none
 | _, _ => none
def gI0 (g : Int → Int → D) : D → D → Option D
 | .int i, .int j => some (g i j)
 | _, _ => none
theorem ok_I {C : Int → Int → Prop} [∀ i j, Decidable (C i j)] {g : Int → Int → V} {g' : Int → Int → D} (hg : ∀ F i j, Rp K cl F (g' i j) (g i j)) : OpOk K cl (rI C g) (gI C g') := by
 intro x y d e z H F Q s hx hy h q
 unfold gI at h
 split at h
 ·rename_i i j
  split at h
  ·rename_i c; cases h
   exact ⟨i, j, hx.int, hy.int, c, q _ H F (.refl s) (hg F i j)⟩
  ·cases h
 ·cases h
theorem ok_I0 {g : Int → Int → V} {g' : Int → Int → D} (hg : ∀ F i j, Rp K cl F (g' i j) (g i j)) : OpOk K cl (rI0 g) (gI0 g') := by
 intro x y d e z H F Q s hx hy h q
 unfold gI0 at h
 split at h
 ·rename_i i j
  cases h
  exact ⟨i, j, hx.int, hy.int, q _ H F (.refl s) (hg F i j)⟩
 ·cases h
end
section
variable {K : W.Frag} {cl : Str → Addr} {E : XK} {σ : St} {H F : Hp} {env : DE}
theorem Rel.newN {p : Addr} {o : HO} (R : Rel K cl σ H F env) (hp : H p = none) : Rel K cl σ (upd H p o) F env ∧ Frm σ H F env σ (upd H p o) F env := by
 have fp : F p = none := R.sub.free hp
 have ne : ∀ a u, H a = some u → a ≠ p := fun a u h z => by rw [z, hp] at h; cases h
 refine ⟨⟨R.sub.trans (same_new hp _), R.len, R.fz, fun i ds h => ?_, R.inj, R.od.newO hp⟩, ⟨Same.refl _, fun a u h f w m => ?_, fun _ _ h => ⟨h, rfl⟩, fun a h => ?_, (by first | exact tu_refl | exact tu_new (by assumption) | exact tu_upd (by assumption) nt_lst | exact tu_upd (by assumption) nt_dkO | assumption)⟩⟩
 ·obtain ⟨a, xs, e, hH, hF, r⟩ := R.mu i ds h
  exact ⟨a, xs, e, by rw [upd_ne (ne _ _ hH)]; exact hH, hF, r⟩
 ·exact ⟨by rw [upd_ne (ne _ _ h)]; exact h, f, w⟩
 ·by_cases z : a = p
  ·rw [z]; exact hp
  ·rw [upd_ne z] at h; exact h
theorem Ct.newN {p : Addr} {xs : List V} {ds : List D} {Q : VK} (R : Rel K cl σ H F env) (hp : H p = none) (r : Rps K cl F ds xs) (h : Ct K cl E (PN K cl) (some (.ok ds env)) σ H F env Q) : Q (.ref p) (upd H p (.lst xs)) := by
 obtain ⟨R', f⟩ := R.newN (o := .lst xs) hp
 exact h _ _ F f R' ⟨p, xs, rfl, hp, upd_same, R.sub.free hp, R.nl hp, r⟩
def zN (f : NF) : ZF := fun e => bnd (f e) fun ds e1 => some (.ok (.lst ds) e1)
theorem rf_zN {t : TE} {f : NF} (h : RfN K cl E t f) : RfZ K cl E t (zN f) := by
 intro σ H Q env F R q
 refine h σ H Q env F R ?_
 unfold zN at q
 rcases hf : f env with _ | ⟨ds, e1⟩ | c
 ·rw [hf] at q; exact q
 ·rw [hf] at q
  rintro b H' F' fr R' ⟨a, xs, rfl, hn, hH, hF, nm, r⟩
  have sF : Same F' (upd F' a (.lst xs)) := same_new hF _
  refine q _ H' (upd F' a (.lst xs)) ⟨fr.fz.trans sF, fun b o hb fb w m => ?_, fr.keep, fr.dom, fr.tu⟩ ⟨fun b o z => ?_, R'.len, fun i d z => ?_, fun i es z => ?_, R'.inj, R'.od.frzL hH hF nm.2⟩ (by show Rp K cl _ (.lst ds) _; simp only [Rp]; exact ⟨a, xs, rfl, upd_same, r.mono sF⟩)
  ·obtain ⟨h1, f1, w1⟩ := fr.hid b o hb fb w
   have nb : b ≠ a := fun z => by rw [z, hn] at hb; cases hb
   exact ⟨h1, by rw [upd_ne nb]; exact f1, w1⟩
  ·by_cases y : b = a
   ·subst y; rw [upd_same] at z; cases z; exact hH
   ·rw [upd_ne y] at z; exact R'.sub _ _ z
  ·obtain ⟨v, e, r1⟩ := R'.fz i d z
   exact ⟨v, e, r1.mono sF⟩
  ·obtain ⟨b, ys, e, h1, f1, r1⟩ := R'.mu i es z
   have nb : b ≠ a := fun y => nm.1 i ⟨es, z⟩ (by rw [e, y])
   exact ⟨b, ys, e, h1, by rw [upd_ne nb]; exact f1, r1.mono sF⟩
 ·rw [hf] at q; exact q
def aN : AF := fun e => some (.ok [] e)
def aC (f : ZF) (k : AF) : AF := fun e => bnd (f e) fun d e1 => bnd (k e1) fun ds e2 => some (.ok (d :: ds) e2)
theorem rf_aN : RfA K cl E tNil aN := fun σ H Q env F R h => h [] H F Frm.refl R .nil
theorem rf_aC {te : TE} {ta : TA} {f : ZF} {k : AF} (hf : RfZ K cl E te f) (hk : RfA K cl E ta k) : RfA K cl E (tCons te ta) (aC f k) := by
 intro σ H Q env F R h
 refine hf σ H _ env F R ((Ct.bnd h pm_A).mono fun x H1 ⟨F1, e1, d, s1, R1, p1, h1⟩ => ?_)
 refine hk σ H1 _ e1 F1 R1 ((Ct.bnd h1 pm_A).mono fun xs H2 ⟨F2, e2, ds, s2, R2, p2, h2⟩ => ?_)
 exact h2 (x :: xs) H2 F2 Frm.refl R2 (.cons (Rp.mono s2 _ _ p1) p2)
def eT (f : AF) : ZF := fun e => bnd (f e) fun ds e1 => if ds.length ≤ sizeLine then some (.ok (.tup ds) e1) else none
def eL (f : AF) : NF := fun e => bnd (f e) fun ds e1 => if ds.length ≤ sizeLine then some (.ok ds e1) else none
theorem rf_T {ta : TA} {f : AF} (hf : RfA K cl E ta f) : RfZ K cl E (tTup ta) (eT f) := by
 intro σ H Q env F R h
 refine hf σ H _ env F R ((Ct.bnd h pm_Z).mono fun xs H1 ⟨F1, e1, ds, s1, R1, p1, h1⟩ => ?_)
 have hl : ds.length = xs.length := Rps.length p1
 split at h1
 ·rename_i z
  refine ⟨by rw [← hl]; exact z, fun p hp => ?_⟩
  have g : Gr H1 F1 (upd H1 p (.tup xs)) (upd F1 p (.tup xs)) := .new R1.sub hp
  exact h1 _ _ _ (R1.frm g) (R1.gr g) (by show Rp K cl _ (.tup ds) _; simp only [Rp]; exact ⟨p, xs, rfl, upd_same, Rps.mono g.fz _ _ p1⟩)
 ·exact h1.elim
theorem rf_L {ta : TA} {f : AF} (hf : RfA K cl E ta f) : RfN K cl E (tLst ta) (eL f) := by
 intro σ H Q env F R h
 refine hf σ H _ env F R ((Ct.bnd h pm_N).mono fun xs H1 ⟨F1, e1, ds, s1, R1, p1, h1⟩ => ?_)
 have hl : ds.length = xs.length := Rps.length p1
 split at h1
 ·rename_i z
  exact ⟨by rw [← hl]; exact z, fun p hp => Ct.newN R1 hp p1 h1⟩
 ·exact h1.elim
def bZ (f : ZF) : BF := fun e => bnd (f e) fun d e1 => match d with
 | .bl b => some (.ok b e1)
 | _ => none
theorem rf_bZ {t : TE} {f : ZF} (hf : RfZ K cl E t f) : RfB K cl E (tB t) (bZ f) := by
 intro σ H Q env F R h
 refine hf σ H _ env F R ((Ct.bnd h pm_B).mono fun x H1 ⟨F1, e1, d, s1, R1, p1, h1⟩ => ?_)
 split at h1
 ·rename_i b
  have : x = .bl b := by have := (show Rp K cl F1 (.bl b) x from p1); simpa only [Rp] using this
  exact ⟨b, this, h1 b H1 F1 Frm.refl R1 rfl⟩
 ·exact h1.elim
theorem rf_bT {t : TE} {f : ZF} (hf : RfZ K cl E t f) : RfB K cl E (tTest t) (bZ f) := rf_bZ hf
def bNot (f : BF) : BF := fun e => bnd (f e) fun b e1 => some (.ok (!b) e1)
def bAnd (f k : BF) : BF := fun e => bnd (f e) fun b e1 => if b = true then k e1 else some (.ok false e1)
def bOr (f k : BF) : BF := fun e => bnd (f e) fun b e1 => if b = true then some (.ok true e1) else k e1
theorem rf_bNot {t : TT} {f : BF} (hf : RfB K cl E t f) : RfB K cl E (tNot t) (bNot f) := by
 intro σ H Q env F R h
 refine hf σ H _ env F R ((Ct.bnd h pm_B).mono fun x H1 ⟨F1, e1, d, s1, R1, p1, h1⟩ => ?_)
 cases (show x = d from p1)
 exact h1 _ H1 F1 Frm.refl R1 rfl
theorem rf_bAnd {t u : TT} {f k : BF} (hf : RfB K cl E t f) (hk : RfB K cl E u k) : RfB K cl E (tAnd t u) (bAnd f k) := by
 intro σ H Q env F R h
 refine hf σ H _ env F R ((Ct.bnd h pm_B).mono fun x H1 ⟨F1, e1, d, s1, R1, p1, h1⟩ => ?_)
 cases (show x = d from p1)
 by_cases z : x = true
 ·rw [if_pos z] at h1 ⊢; exact hk σ H1 Q e1 F1 R1 h1
 ·rw [if_neg z] at h1 ⊢; exact h1 _ H1 F1 Frm.refl R1 rfl
theorem rf_bOr {t u : TT} {f k : BF} (hf : RfB K cl E t f) (hk : RfB K cl E u k) : RfB K cl E (tOr t u) (bOr f k) := by
 intro σ H Q env F R h
 refine hf σ H _ env F R ((Ct.bnd h pm_B).mono fun x H1 ⟨F1, e1, d, s1, R1, p1, h1⟩ => ?_)
 cases (show x = d from p1)
 by_cases z : x = true
 ·rw [if_pos z] at h1 ⊢; exact h1 _ H1 F1 Frm.refl R1 rfl
 ·rw [if_neg z] at h1 ⊢; exact hk σ H1 Q e1 F1 R1 h1
def eNot (f : ZF) : ZF := fun e => bnd (f e) fun d e1 => match d with
 | .bl b => some (.ok (.bl (!b)) e1)
 | _ => none
def eAnd (f k : ZF) : ZF := fun e => bnd (f e) fun d e1 => match d with
 | .bl b => if b = true then k e1 else some (.ok (.bl false) e1)
 | _ => none
def eIf (c : BF) (f k : ZF) : ZF := fun e => bnd (c e) fun b e1 => if b = true then f e1 else k e1
theorem rf_Not {t : TE} {f : ZF} (hf : RfZ K cl E t f) : RfZ K cl E (tNotV t) (eNot f) := by
 intro σ H Q env F R h
 refine hf σ H _ env F R ((Ct.bnd h pm_Z).mono fun x H1 ⟨F1, e1, d, s1, R1, p1, h1⟩ => ?_)
 split at h1
 ·rename_i b
  have : x = .bl b := by have := (show Rp K cl F1 (.bl b) x from p1); simpa only [Rp] using this
  exact ⟨b, this, h1 _ H1 F1 Frm.refl R1 (by show Rp K cl F1 (.bl _) _; simp only [Rp])⟩
 ·exact h1.elim
theorem rf_And {t u : TE} {f k : ZF} (hf : RfZ K cl E t f) (hk : RfZ K cl E u k) : RfZ K cl E (tAndV t u) (eAnd f k) := by
 intro σ H Q env F R h
 refine hf σ H _ env F R ((Ct.bnd h pm_Z).mono fun x H1 ⟨F1, e1, d, s1, R1, p1, h1⟩ => ?_)
 split at h1
 ·rename_i b
  have : x = .bl b := by have := (show Rp K cl F1 (.bl b) x from p1); simpa only [Rp] using this
  refine ⟨b, this, ?_⟩
  by_cases z : b = true
  ·rw [if_pos z] at h1 ⊢; exact hk σ H1 Q e1 F1 R1 h1
  ·rw [if_neg z] at h1 ⊢; exact h1 _ H1 F1 Frm.refl R1 (by show Rp K cl F1 (.bl _) _; simp only [Rp])
 ·exact h1.elim
theorem rf_If {c : TT} {t u : TE} {b : BF} {f k : ZF} (hc : RfB K cl E c b) (hf : RfZ K cl E t f) (hk : RfZ K cl E u k) : RfZ K cl E (tIf c t u) (eIf b f k) := by
 intro σ H Q env F R h
 refine hc σ H _ env F R ((Ct.bnd h pm_Z).mono fun x H1 ⟨F1, e1, d, s1, R1, p1, h1⟩ => ?_)
 cases (show x = d from p1)
 by_cases z : x = true
 ·rw [if_pos z] at h1 ⊢; exact hf σ H1 Q e1 F1 R1 h1
 ·rw [if_neg z] at h1 ⊢; exact hk σ H1 Q e1 F1 R1 h1
def UnOk (K : W.Frag) (cl : Str → Addr) (r : V → Hp → VK → Prop) (g : D → Option D) : Prop := ∀ x d z H F Q, Same F H → Rb K cl F H d x → g d = some z → (∀ v H' F', Gr H F H' F' → Rp K cl F' z v → Q v H') → r x H Q
def eU (g : D → Option D) (f : ZF) : ZF := fun e => bnd (f e) fun d e1 => opt (g d) e1
theorem rf_U {r : V → Hp → VK → Prop} {g : D → Option D} {t : TE} {f : ZF} (ok : UnOk K cl r g) (hf : RfZ K cl E t f) : RfZ K cl E (tUn r t) (eU g f) := by
 intro σ H Q env F R h
 refine hf σ H _ env F R ((Ct.bnd h pm_Z).mono fun x H1 ⟨F1, e1, d, s1, R1, p1, h1⟩ => ?_)
 cases hz : g d with
 | none => rw [hz] at h1; exact h1.elim
 | some z =>
  rw [hz] at h1
  exact ok x d z H1 F1 Q R1.sub (.inl p1) hz fun v H' F' gr p => h1 v H' F' (R1.frm gr) (R1.gr gr) p
def gNeg : D → Option D
 | .int i => some (.int (-i))
 | _ => none
theorem ok_neg : UnOk K cl (rU fun i => .int (-i)) gNeg := by
 intro x d z H F Q s hx h q
 unfold gNeg at h
 split at h
 ·rename_i i; cases h
  exact ⟨i, hx.int, q _ H F (.refl s) (by simp only [Rp])⟩
 ·cases h
def CbOk (K : W.Frag) (cl : Str → Addr) (r : List V → Hp → VK → Prop) (g : List D → Option D) : Prop := ∀ xs ds z H F Q, Same F H → Rps K cl F ds xs → g ds = some z → (∀ v H' F', Gr H F H' F' → Rp K cl F' z v → Q v H') → r xs H Q
def CbOk1 (K : W.Frag) (cl : Str → Addr) (r : List V → Hp → VK → Prop) (g : D → Option D) : Prop := ∀ x d z H F Q, Same F H → Rb K cl F H d x → g d = some z → (∀ v H' F', Gr H F H' F' → Rp K cl F' z v → Q v H') → r [x] H Q
def eCB (g : List D → Option D) (f : AF) : ZF := fun e => bnd (f e) fun ds e1 => opt (g ds) e1
def eCV (g : D → Option D) (i : Nat) : ZF := fun e => match look e i with
 | some d => opt (g d) e
 | none => none
theorem rf_CB {r : List V → Hp → VK → Prop} {g : List D → Option D} {t : TA} {f : AF} (ok : CbOk K cl r g) (hf : RfA K cl E t f) : RfZ K cl E (tCB r t) (eCB g f) := by
 intro σ H Q env F R h
 refine hf σ H _ env F R ((Ct.bnd h pm_Z).mono fun x H1 ⟨F1, e1, d, s1, R1, p1, h1⟩ => ?_)
 cases hz : g d with
 | none => rw [hz] at h1; exact h1.elim
 | some z =>
  rw [hz] at h1
  exact ok x d z H1 F1 Q R1.sub p1 hz fun v H' F' gr p => h1 v H' F' (R1.frm gr) (R1.gr gr) p
theorem rf_CV {r : List V → Hp → VK → Prop} {g : D → Option D} {i : Nat} (ok : CbOk1 K cl r g) : RfZ K cl E (tCB r (tCons (tVar i) tNil)) (eCV g i) := by
 intro σ H Q env F R h
 unfold eCV at h
 cases q : look env i with
 | none => rw [q] at h; exact h.elim
 | some d =>
  rw [q] at h
  obtain ⟨x, e, rb⟩ := R.look q
  refine ⟨x, e, ?_⟩
  cases hz : g d with
  | none => simp only [hz, opt_none] at h; exact h.elim
  | some z =>
   simp only [hz, opt_some] at h
   exact ok x d z H F Q R.sub rb hz fun v H' F' gr p => h v H' F' (R.frm gr) (R.gr gr) p
def g1 (g : D → Option D) : List D → Option D
 | [d] => g d
 | _ => none
theorem CbOk1.cb {r : List V → Hp → VK → Prop} {g : D → Option D} (ok : CbOk1 K cl r g) : CbOk K cl r (g1 g) := by
 intro xs ds z H F Q s hx h q
 unfold g1 at h
 split at h
 ·obtain ⟨v, r, rfl, h1, h2⟩ := hx.inv
  rw [h2.inv0]
  exact ok v _ z H F Q s (.inl h1) h q
 ·cases h
def CnOk (K : W.Frag) (cl : Str → Addr) (r : List V → Hp → VK → Prop) (g : D → Option (List D)) : Prop := ∀ x d zs H F Q, Same F H → Rb K cl F H d x → g d = some zs → (∀ p xs, H p = none → Rps K cl F zs xs → Q (.ref p) (upd H p (.lst xs))) → r [x] H Q
def nCV (g : D → Option (List D)) (i : Nat) : NF := fun e => match look e i with
 | some d => opt (g d) e
 | none => none
theorem rf_nCV {r : List V → Hp → VK → Prop} {g : D → Option (List D)} {i : Nat} (ok : CnOk K cl r g) : RfN K cl E (tCB r (tCons (tVar i) tNil)) (nCV g i) := by
 intro σ H Q env F R h
 unfold nCV at h
 cases q : look env i with
 | none => rw [q] at h; exact h.elim
 | some d =>
  rw [q] at h
  obtain ⟨x, e, rb⟩ := R.look q
  refine ⟨x, e, ?_⟩
  cases hz : g d with
  | none => simp only [hz, opt_none] at h; exact h.elim
  | some z =>
   simp only [hz, opt_some] at h
   exact ok x d z H F Q R.sub rb hz fun p xs hp r => Ct.newN R hp r h
def OnOk (K : W.Frag) (cl : Str → Addr) (r : R2) (g : D → D → Option (List D)) : Prop := ∀ x y d e zs H F Q, Same F H → Rb K cl F H d x → Rb K cl F H e y → g d e = some zs → (∀ p xs, H p = none → Rps K cl F zs xs → Q (.ref p) (upd H p (.lst xs))) → r x y H Q
def nB (g : D → D → Option (List D)) (f k : ZF) : NF := fun e => bnd (f e) fun d e1 => bnd (k e1) fun d' e2 => opt (g d d') e2
theorem rf_nB {r : R2} {g : D → D → Option (List D)} {ta tb : TE} {f k : ZF} (ok : OnOk K cl r g) (ha : RfZ K cl E ta f) (hb : RfZ K cl E tb k) : RfN K cl E (tOp r ta tb) (nB g f k) := by
 intro σ H Q env F R h
 refine ha σ H _ env F R ((Ct.bnd h pm_N).mono fun x H1 ⟨F1, e1, d, s1, R1, p1, h1⟩ => ?_)
 refine hb σ H1 _ e1 F1 R1 ((Ct.bnd h1 pm_N).mono fun y H2 ⟨F2, e2, e, s2, R2, p2, h2⟩ => ?_)
 cases hz : g d e with
 | none => rw [hz] at h2; exact h2.elim
 | some z =>
  rw [hz] at h2
  exact ok x y d e z H2 F2 Q R2.sub (.inl (Rp.mono s2 _ _ p1)) (.inl p2) hz fun p xs hp r => Ct.newN R2 hp r h2
end
section
variable {K : W.Frag} {cl : Str → Addr} {E : XK} {σ : St} {H F : Hp} {env : DE}
instance decMul (i j : Int) : Decidable (IntMulOk i j) := by unfold IntMulOk; infer_instance
instance decPow (i j : Int) : Decidable (CPow i j) := by unfold CPow; infer_instance
abbrev gAdd := gI0 fun i j => .int (i + j)
abbrev gSub' := gI0 fun i j => .int (i - j)
abbrev gMul := gI IntMulOk fun i j => .int (i * j)
abbrev gDiv := gI (fun _ j => 0 < j ∧ j.natAbs.log2 < 9000) fun i j => .int (i / j)
abbrev gMod := gI (fun _ j => 0 < j) fun i j => .int (i % j)
abbrev gPow := gI CPow fun i j => .int (i ^ j.toNat)
abbrev gLt := gI0 fun i j => .bl (decide (i < j))
abbrev gLe := gI0 fun i j => .bl (decide (i ≤ j))
abbrev gGt := gI0 fun i j => .bl (decide (j < i))
abbrev gGe := gI0 fun i j => .bl (decide (j ≤ i))
theorem ok_add : OpOk K cl (rI0 fun i j => .int (i + j)) gAdd := ok_I0 fun F i j => by simp only [Rp]
theorem ok_sub : OpOk K cl (rI0 fun i j => .int (i - j)) gSub' := ok_I0 fun F i j => by simp only [Rp]
theorem ok_mul : OpOk K cl (rI IntMulOk fun i j => .int (i * j)) gMul := ok_I fun F i j => by simp only [Rp]
theorem ok_div : OpOk K cl (rI (fun _ j => 0 < j ∧ j.natAbs.log2 < 9000) fun i j => .int (i / j)) gDiv := ok_I fun F i j => by simp only [Rp]
theorem ok_mod : OpOk K cl (rI (fun _ j => 0 < j) fun i j => .int (i % j)) gMod := ok_I fun F i j => by simp only [Rp]
theorem ok_pow : OpOk K cl (rI CPow fun i j => .int (i ^ j.toNat)) gPow := ok_I fun F i j => by simp only [Rp]
theorem ok_lt : OpOk K cl (rI0 fun i j => .bl (decide (i < j))) gLt := ok_I0 fun F i j => by simp only [Rp]
theorem ok_le : OpOk K cl (rI0 fun i j => .bl (decide (i ≤ j))) gLe := ok_I0 fun F i j => by simp only [Rp]
theorem ok_gt : OpOk K cl (rI0 fun i j => .bl (decide (j < i))) gGt := ok_I0 fun F i j => by simp only [Rp]
theorem ok_ge : OpOk K cl (rI0 fun i j => .bl (decide (j ≤ i))) gGe := ok_I0 fun F i j => by simp only [Rp]
def toV : D → Option V
 | .non => some .non
 | .bl b => some (.bl b)
 | .int i => some (.int i)
 | .str x => some (.str x)
 | _ => none
theorem Rb.toV {d : D} {v u : V} (h : Rb K cl F H d v) (e : toV d = some u) : v = u := by
 cases d with
 | non => cases e; exact h.non
 | bl b => cases e; exact h.bl
 | int i => cases e; exact h.int
 | str x => cases e; exact h.str
 | _ => cases e
def gEq (neg : Bool) (d e : D) : Option D := match toV d, toV e with
 | some x, some y => if scal x y = true then some (.bl (if neg then !decide (x = y) else decide (x = y))) else none
 | _, _ => none
theorem ok_eq : OpOk K cl rEq (gEq false) := by
 intro x y d e z H F Q s hx hy h q
 unfold gEq at h
 split at h
 ·rename_i u w hu hw
  split at h
  ·rename_i c; cases h
   rw [hx.toV hu, hy.toV hw]
   exact ⟨c, q _ H F (.refl s) (by simp only [Rp]; rfl)⟩
  ·cases h
 ·cases h
theorem ok_ne : OpOk K cl rNe (gEq true) := by
 intro x y d e z H F Q s hx hy h q
 unfold gEq at h
 split at h
 ·rename_i u w hu hw
  split at h
  ·rename_i c; cases h
   rw [hx.toV hu, hy.toV hw]
   exact ⟨c, q _ H F (.refl s) (by simp only [Rp]; rfl)⟩
  ·cases h
 ·cases h
@[simp] theorem gEq_int (neg : Bool) (a b : Int) : gEq neg (.int a) (.int b) = some (.bl (if neg then !decide (a = b) else decide (a = b))) := by
 unfold gEq toV
 simp only [scal, if_true, V.int.injEq]
@[simp] theorem gEq_str (neg : Bool) (a b : Str) : gEq neg (.str a) (.str b) = some (.bl (if neg then !decide (a = b) else decide (a = b))) := by
 unfold gEq toV
 simp only [scal, if_true, V.str.injEq]
theorem Rps.atI {ds : List D} {xs : List V} {i : Int} {d : D} (h : Rps K cl F ds xs) (e : atI ds i = some d) : ∃ v, L2.atI xs i = some v ∧ Rp K cl F d v := by
 unfold L2.atI at e ⊢
 rw [← h.length]
 cases q : ixN ds.length i with
 | none => rw [q] at e; cases e
 | some j => rw [q] at e; exact h.get e
def gIxL (d e : D) : Option D := match d, e with
 | .lst ds, .int i => atI ds i
 | .scr ns, .int i => (atI ns i).map .int
 | _, _ => none
def gIxT (d e : D) : Option D := match d, e with
 | .tup ds, .int i => atI ds i
 | _, _ => none
theorem atI_map {α β : Type} (f : α → β) (xs : List α) (i : Int) : atI (xs.map f) i = (atI xs i).map f := by
 unfold L2.atI
 rw [List.length_map]
 cases ixN xs.length i with
 | none => rfl
 | some j => simp
theorem ok_ixL : OpOk K cl (rIxL K) gIxL := by
 intro x y d e z H F Q s hx hy h q
 unfold gIxL at h
 split at h
 ·obtain ⟨a, xs, rfl, hH, r⟩ := hx.lst s
  obtain ⟨v, e, p⟩ := r.atI h
  exact ⟨a, xs, _, v, rfl, hy.int, .of hH, e, q v H F (.refl s) p⟩
 ·rename_i ns i
  obtain ⟨a, rfl, hS⟩ := hx.scr s
  cases hz : atI ns i with
  | none => rw [hz] at h; cases h
  | some n =>
   rw [hz] at h; cases h
   exact ⟨a, _, _, .int n, rfl, hy.int, hS.seq, by rw [atI_map, hz]; rfl, q _ H F (.refl s) (by simp only [Rp])⟩
 ·cases h
theorem ok_ixT : OpOk K cl (rIxT K) gIxT := by
 intro x y d e z H F Q s hx hy h q
 unfold gIxT at h
 split at h
 ·obtain ⟨a, xs, rfl, hH, r⟩ := hx.tup s
  obtain ⟨v, e, p⟩ := r.atI h
  exact ⟨a, xs, _, v, rfl, hy.int, .of hH, e, q v H F (.refl s) p⟩
 ·cases h
def eqD : D → D → Bool
 | .non, .non => true
 | .bl a, .bl b => a == b
 | .bl a, .int b => (if a then 1 else 0) == b
 | .int a, .bl b => a == (if b then 1 else 0)
 | .int a, .int b => a == b
 | .str a, .str b => a == b
 | _, _ => false
def flatD : D → Bool
 | .non => true
 | .bl _ => true
 | .int _ => true
 | .str _ => true
 | _ => false
theorem Rp.flat {d : D} {v : V} (h : Rp K cl F d v) (f : flatD d = true) : toV d = some v ∧ flatV v = true := by
 cases d <;> simp only [Rp] at h <;> first | (subst h; exact ⟨rfl, rfl⟩) | cases f
theorem Rps.flat : ∀ {ds : List D} {vs : List V}, Rps K cl F ds vs → ds.all flatD = true → vs.all flatV = true
 | [], _, h, _ => by rw [h.inv0]; rfl
 | d :: ds, _, h, f => by
  obtain ⟨v, r, rfl, h1, h2⟩ := h.inv
  rw [List.all_cons, Bool.and_eq_true] at f
  rw [List.all_cons, (h1.flat f.1).2, h2.flat f.2]; rfl
theorem Rp.eq {d e : D} {v u : V} (h : Rp K cl F d v) (g : Rp K cl F e u) (fd : flatD d = true) (fe : flatD e = true) : eqV v u = eqD d e := by
 have h1 := (h.flat fd).1
 have h2 := (g.flat fe).1
 cases d <;> cases e <;> first | (cases h1; cases h2; rfl) | (cases fd; done) | (cases fe; done)
def gCat (d e : D) : Option (List D) := match d, e with
 | .lst ds, .lst es => if ds.length + es.length ≤ sizeLine then some (ds ++ es) else none
 | _, _ => none
theorem ok_cat : OnOk K cl rCat gCat := by
 intro x y d e zs H F Q s hx hy h q
 unfold gCat at h
 split at h
 ·split at h
  ·rename_i c; cases h
   obtain ⟨a, xs, rfl, hH, r⟩ := hx.lst s
   obtain ⟨b, ys, rfl, hH', r'⟩ := hy.lst s
   exact ⟨a, b, xs, ys, rfl, rfl, hH, hH', by rw [← r.length, ← r'.length]; exact c, fun p hp => q p _ hp (r.append r')⟩
  ·cases h
 ·cases h
def gLen : D → Option D
 | .lst ds => some (.int ds.length)
 | .tup ds => some (.int ds.length)
 | .scr ns => some (.int ns.length)
 | _ => none
theorem ok_len : CbOk1 K cl (rLenSeq K) gLen := by
 intro x d z H F Q s hx h q
 unfold gLen at h
 split at h
 ·cases h
  obtain ⟨a, xs, rfl, hH, r⟩ := hx.lst s
  exact ⟨a, xs, rfl, .inl (.of hH), q _ H F (.refl s) (by simp only [Rp]; rw [r.length])⟩
 ·cases h
  obtain ⟨a, xs, rfl, hH, r⟩ := hx.tup s
  exact ⟨a, xs, rfl, .inr (.of hH), q _ H F (.refl s) (by simp only [Rp]; rw [r.length])⟩
 ·cases h
  obtain ⟨a, rfl, hS⟩ := hx.scr s
  exact ⟨a, _, rfl, .inl hS.seq, q _ H F (.refl s) (by simp only [Rp]; rw [List.length_map])⟩
 ·cases h
def gLenS : D → Option D
 | .str z => if z.length ≤ sizeLine then some (.int z.length) else none
 | _ => none
theorem ok_lenS : CbOk1 K cl (fun xs H Q => ∃ z, xs = [.str z] ∧ z.length ≤ sizeLine ∧ Q (.int z.length) H) gLenS := by
 intro x d z H F Q s hx h q
 unfold gLenS at h
 split at h
 ·split at h
  ·rename_i y c; cases h; rw [hx.str]; exact ⟨y, rfl, c, q _ H F (.refl s) (by simp only [Rp])⟩
  ·cases h
 ·cases h
def gList : D → Option (List D)
 | .lst ds => some ds
 | .tup ds => some ds
 | .scr ns => some (ns.map .int)
 | _ => none
theorem ok_list : CnOk K cl (rListOf K) gList := by
 intro x d zs H F Q s hx h q
 unfold gList at h
 split at h
 ·cases h
  obtain ⟨a, xs, rfl, hH, r⟩ := hx.lst s
  exact ⟨a, xs, rfl, .inl (.of hH), fun p hp => q p _ hp r⟩
 ·cases h
  obtain ⟨a, xs, rfl, hH, r⟩ := hx.tup s
  exact ⟨a, xs, rfl, .inr (.of hH), fun p hp => q p _ hp r⟩
 ·cases h
  obtain ⟨a, rfl, hS⟩ := hx.scr s
  exact ⟨a, _, rfl, .inl hS.seq, fun p hp => q p _ hp Rps.ofInts⟩
 ·cases h
def bools : List D → Option (List Bool)
 | [] => some []
 | .bl b :: ds => (bools ds).map (b :: ·)
 | _ => none
theorem bools_eq : ∀ {ds : List D} {bs : List Bool}, bools ds = some bs → ds = bs.map .bl
 | [], _, h => by cases h; rfl
 | .bl b :: ds, _, h => by
  unfold bools at h
  cases q : bools ds with
  | none => rw [q] at h; cases h
  | some bs => rw [q] at h; cases h; rw [bools_eq q]; rfl
 | .non :: _, _, h => by cases h
 | .int _ :: _, _, h => by cases h
 | .str _ :: _, _, h => by cases h
 | .ty _ :: _, _, h => by cases h
 | .cls _ :: _, _, h => by cases h
 | .tup _ :: _, _, h => by cases h
 | .lst _ :: _, _, h => by cases h
 | .scr _ :: _, _, h => by cases h
 | .exc _ :: _, _, h => by cases h
 | .obj _ _ _ :: _, _, h => by cases h
 | .dic _ _ :: _, _, h => by cases h
 | .exv _ _ _ :: _, _, h => by cases h
 | .fdc _ _ :: _, _, h => by cases h
def gAny : D → Option D
 | .lst ds => (bools ds).map fun bs => .bl (bs.any id)
 | _ => none
theorem ok_any : CbOk1 K cl (rAny K) gAny := by
 intro x d z H F Q s hx h q
 unfold gAny at h
 split at h
 ·rename_i ds
  cases hb : bools ds with
  | none => rw [hb] at h; cases h
  | some bs =>
   rw [hb] at h; cases h
   obtain ⟨a, xs, rfl, hH, r⟩ := hx.lst s
   rw [bools_eq hb] at r
   rw [r.bls] at hH
   exact ⟨a, bs, rfl, .of hH, q _ H F (.refl s) (by simp only [Rp])⟩
 ·cases h
end
inductive R1 where | ret (d : D) | own (ds : List D) | owz (dss : List (List D)) | owp (n : Int) (ds : List D) | ex (c : XN)
def spD (K : W.Frag) (cl : Str → Addr) (g : List D → Option R1) : Sp := fun vs H Q E => ∃ ds F, Same F H ∧ Rps K cl F ds vs ∧ match g ds with
 | none => False
 | some (.ret d) => ∀ v H' F', Gr H F H' F' → Rp K cl F' d v → Q v H'
 | some (.own es) => ∀ a xs H' F', Gr H F H' F' → H a = none → H' a = some (.lst xs) → F' a = none → Rps K cl F' es xs → Q (.ref a) H'
 | some (.owz dss) => ∀ p as H' F', Gr H F H' F' → H p = none → H' p = some (.tup (as.map V.ref)) → F' p = none → Rz K cl F' H' (fun a => H a = none) dss as → Q (.ref p) H'
 | some (.owp n es) => ∀ p a xs H' F', Gr H F H' F' → H p = none → H' p = some (.tup [.int n, .ref a]) → F' p = none → H a = none → H' a = some (.lst xs) → F' a = none → Rps K cl F' es xs → Q (.ref p) H'
 | some (.ex c) => ∀ H' F', Gr H F H' F' → ∀ cx, Xf K cl F' c cx → E (.ref (cl c.nm)) cx H'
def toZ (r : Option R1) (e : DE) : Option (R D) := match r with
 | none => none
 | some (.ret d) => some (.ok d e)
 | some (.own ds) => some (.ok (.lst ds) e)
 | some (.owz _) => none
 | some (.owp _ _) => none
 | some (.ex c) => some (.ex c)
def toZ0 (r : Option R1) (e : DE) : Option (R D) := match r with
 | some (.ret d) => some (.ok d e)
 | some (.own ds) => some (.ok (.lst ds) e)
 | _ => none
def eCall (g : List D → Option R1) (f : AF) : ZF := fun e => bnd (f e) fun ds e1 => toZ (g ds) e1
def eCall0 (g : List D → Option R1) (f : AF) : ZF := fun e => bnd (f e) fun ds e1 => toZ0 (g ds) e1
def put (i : Nat) (s : Sl) (e : DE) : Option RS := match e[i]? with
 | none => none
 | some (.hd _) => none
 | some _ => some (.nx (e.set i s))
def toSet (i : Nat) (r : Option R1) (e : DE) : Option RS := match r with
 | none => none
 | some (.ret d) => put i (.fz d) e
 | some (.own ds) => put i (.ow ds) e
 | some (.owz _) => none
 | some (.owp _ _) => none
 | some (.ex c) => some (.ex c)
def toSet0 (i : Nat) (r : Option R1) (e : DE) : Option RS := match r with
 | some (.ret d) => put i (.fz d) e
 | some (.own ds) => put i (.ow ds) e
 | _ => none
def toRet (r : Option R1) : Option RS := match r with
 | none => none
 | some (.ret d) => some (.rt d)
 | some (.own ds) => some (.ro ds)
 | some (.owz dss) => some (.rz dss)
 | some (.owp n ds) => some (.rp n ds)
 | some (.ex c) => some (.ex c)
def sNx : SF := fun e => some (.nx e)
def sSeq (f k : SF) : SF := fun e => match f e with
 | some (.nx e1) => k e1
 | r => r
def sSet (i : Nat) (f : ZF) : SF := fun e => sbn (f e) fun d e1 => put i (.fz d) e1
def sSetN (i : Nat) (f : NF) : SF := fun e => sbn (f e) fun ds e1 => put i (.ow ds) e1
def sSetC (i : Nat) (g : List D → Option R1) (f : AF) : SF := fun e => sbn (f e) fun ds e1 => toSet i (g ds) e1
def sSetC0 (i : Nat) (g : List D → Option R1) (f : AF) : SF := fun e => sbn (f e) fun ds e1 => toSet0 i (g ds) e1
def sRet (f : ZF) : SF := fun e => sbn (f e) fun d _ => some (.rt d)
def sRetC (g : List D → Option R1) (f : AF) : SF := fun e => sbn (f e) fun ds _ => toRet (g ds)
def sRetV (i : Nat) : SF := fun e => match e[i]? with
 | some (.fz d) => some (.rt d)
 | some (.ow ds) => some (.ro ds)
 | _ => none
def sIf (c : BF) (f k : SF) : SF := fun e => sbn (c e) fun b e1 => if b = true then f e1 else k e1
def sEx (f : ZF) : SF := fun e => sbn (f e) fun _ e1 => some (.nx e1)
def sRaise (c : Str) (f : AF) : SF := fun e => sbn (f e) fun ds _ => if ds.length ≤ sizeLine then some (.ex (.p c)) else none
def sApp (i : Nat) (f : ZF) : SF := fun e => match look e i with
 | some (.lst _) => sbn (f e) fun d e1 => match e1[i]? with
  | some (.ow ds) => if ds.length < sizeLine then some (.nx (e1.set i (.ow (ds ++ [d])))) else none
  | _ => none
 | _ => none
section
variable {K : W.Frag} {cl : Str → Addr} {E : XK} {σ : St} {H F : Hp} {env : DE}
theorem Gr.fx {H' F' : Hp} (g : Gr H F H' F') : FX σ H F env H' F' := ⟨g.fz, g.sub, fun a o h f _ m => g.hid a o h f, g.dom, g.tu⟩
theorem call_z {g : List D → Option R1} {ds : List D} {vs : List V} {Q : VK} (R : Rel K cl σ H F env) (p : Rps K cl F ds vs) (h : Ct K cl E (PZ K cl) (toZ (g ds) env) σ H F env Q) : spD K cl g (vs ++ []) H Q E := by
 rw [List.append_nil]
 refine ⟨ds, F, R.sub, p, ?_⟩
 unfold toZ at h
 split at h
 ·exact h.elim
 ·exact fun v H' F' gr r => h v H' F' (R.frm gr) (R.gr gr) r
 ·rename_i es _
  intro a xs H' F' gr ha hH hF r
  have sF : Same F' (upd F' a (.lst xs)) := same_new hF _
  have gr' : Gr H F H' (upd F' a (.lst xs)) := by
   refine ⟨gr.fz.trans sF, fun b o z => ?_, fun b o hb fb m => ?_, gr.dom, gr.tu⟩
   ·by_cases y : b = a
    ·subst y; rw [upd_same] at z; cases z; exact hH
    ·rw [upd_ne y] at z; exact gr.sub _ _ z
   ·obtain ⟨h1, f1⟩ := gr.hid b o hb fb
    have nb : b ≠ a := fun z => by rw [z, ha] at hb; cases hb
    exact ⟨h1, by rw [upd_ne nb]; exact f1⟩
  exact h _ H' _ (R.frm gr') (R.gr gr') (by show Rp K cl _ (.lst es) _; simp only [Rp]; exact ⟨a, xs, rfl, upd_same, r.mono sF⟩)
 ·exact h.elim
 ·exact h.elim
 ·exact fun H' F' gr => h H' F' gr.fx
theorem toZ_of0 {r : Option R1} {e : DE} {P : Py D V} {Q : VK} (h : Ct K cl E P (toZ0 r e) σ H F env Q) : toZ r e = toZ0 r e ∧ ∀ c, r ≠ some (.ex c) := by
 unfold toZ0 at h
 split at h
 ·exact ⟨rfl, fun c z => by cases z⟩
 ·exact ⟨rfl, fun c z => by cases z⟩
 ·exact h.elim
theorem rf_Call {g : List D → Option R1} {t : TA} {f : AF} (hf : RfA K cl E t f) : RfZ K cl E (tCall (spD K cl g) [] E t) (eCall g f) := by
 intro σ H Q env F R h
 refine hf σ H _ env F R ((Ct.bnd h pm_Z).mono fun vs H1 ⟨F1, e1, ds, s1, R1, p1, h1⟩ => call_z R1 p1 h1)
theorem rf_Call0 {g : List D → Option R1} {t : TA} {f : AF} (hf : RfA K cl E t f) : RfZ K cl E (tCall (spD K cl g) [] E0 t) (eCall0 g f) := by
 intro σ H Q env F R h
 refine hf σ H _ env F R ((Ct.bnd h pm_Z).mono fun vs H1 ⟨F1, e1, ds, s1, R1, p1, h1⟩ => ?_)
 refine call_z R1 p1 ?_
 obtain ⟨z, n⟩ := toZ_of0 h1
 rw [z]
 unfold Ct at h1 ⊢
 split at h1
 ·exact h1
 ·exact h1
 ·rename_i c q
  exact absurd q (by unfold toZ0; split <;> intro y <;> cases y)
theorem rf_Nx : RfS K cl E tNext sNx := fun N σ H env F R h => h σ H F Frm.refl R
theorem rf_Seq {t u : TS} {f k : SF} (hf : RfS K cl E t f) (hk : RfS K cl E u k) : RfS K cl E (tSeq t u) (sSeq f k) := by
 intro N σ H env F R h
 refine hf _ σ H env F R ?_
 unfold sSeq at h
 split at h
 ·rename_i e1 q
  rw [q]
  intro σ' H' F' fr R'
  exact hk N σ' H' e1 F' R' (h.from fr)
 ·rename_i n
  unfold Cs at h ⊢
  split at h
  ·exact h
  ·rename_i e q; exact absurd q (n e)
  all_goals exact h
theorem putS {i : Nat} {s : Sl} {e : DE} {N : Ends} {σ0 : St} {H0 F0 : Hp} {env0 : DE} (h : Cs K cl E (put i s e) σ0 H0 F0 env0 N) : i < e.length ∧ (∀ ds, e[i]? ≠ some (.hd ds)) ∧ Cs K cl E (some (.nx (e.set i s))) σ0 H0 F0 env0 N := by
 unfold put at h
 split at h
 ·exact h.elim
 ·exact h.elim
 ·rename_i z n q
  exact ⟨(List.getElem?_eq_some_iff.mp q).1, fun ds y => by rw [q] at y; cases y; exact n ds rfl, h⟩
theorem rf_Set {i : Nat} {t : TE} {f : ZF} (hf : RfZ K cl E t f) : RfS K cl E (tAsg t (gName i)) (sSet i f) := by
 intro N σ H env F R h
 refine hf σ H _ env F R ((Cs.bnd h).mono fun x H1 ⟨F1, e1, d, fr, R1, p1, h1⟩ => ?_)
 obtain ⟨hi, nh, h2⟩ := putS h1
 exact h2 _ H1 F1 (fr.trans (Frm.put nh)) (R1.put hi nh p1)
theorem rf_SetN {i : Nat} {t : TE} {f : NF} (hf : RfN K cl E t f) : RfS K cl E (tAsg t (gName i)) (sSetN i f) := by
 intro N σ H env F R h
 refine hf σ H _ env F R ((Cs.bnd h).mono fun x H1 ⟨F1, e1, ds, fr, R1, p1, h1⟩ => ?_)
 obtain ⟨a, xs, rfl, hn, hH, hF, nm, r⟩ := p1
 obtain ⟨hi, nh, h2⟩ := putS h1
 exact h2 _ H1 F1 (fr.putO hn nh) (R1.putO hi hH hF nm r)
theorem rf_Ret {t : TE} {f : ZF} (hf : RfZ K cl E t f) : RfS K cl E (tRet t) (sRet f) := by
 intro N σ H env F R h
 exact hf σ H _ env F R ((Cs.bnd h).mono fun x H1 ⟨F1, e1, d, fr, R1, p1, h1⟩ => h1 x H1 F1 (fr.toFX R1.sub) p1)
theorem rf_RetV {i : Nat} : RfS K cl E (tRet (tVar i)) (sRetV i) := by
 intro N σ H env F R h
 unfold sRetV at h
 split at h
 ·rename_i d q
  obtain ⟨v, e, r⟩ := R.fz i d q
  exact ⟨v, e, h v H F (Frm.refl.toFX R.sub) r⟩
 ·rename_i ds q
  obtain ⟨a, xs, e, hH, hF, r⟩ := R.mu i ds (.inl q)
  exact ⟨_, e, h a xs H F (Frm.refl.toFX R.sub) hH hF (fun o _ => ⟨i, .ow ds, True.intro, q, .inl e⟩) r⟩
 ·exact h.elim
theorem rf_If' {c : TT} {t u : TS} {b : BF} {f k : SF} (hc : RfB K cl E c b) (hf : RfS K cl E t f) (hk : RfS K cl E u k) : RfS K cl E (tIfS c t u) (sIf b f k) := by
 intro N σ H env F R h
 refine hc σ H _ env F R ((Cs.bnd h).mono fun x H1 ⟨F1, e1, d, fr, R1, p1, h1⟩ => ?_)
 cases (show x = d from p1)
 by_cases z : x = true
 ·rw [if_pos z] at h1 ⊢; exact hf N σ H1 e1 F1 R1 (h1.from fr)
 ·rw [if_neg z] at h1 ⊢; exact hk N σ H1 e1 F1 R1 (h1.from fr)
theorem rf_Ex {t : TE} {f : ZF} (hf : RfZ K cl E t f) : RfS K cl E (tDrop t) (sEx f) := by
 intro N σ H env F R h
 exact hf σ H _ env F R ((Cs.bnd h).mono fun x H1 ⟨F1, e1, d, fr, R1, p1, h1⟩ => h1 σ H1 F1 fr R1)
theorem rf_Raise {c : Str} {t : TA} {f : AF} (hf : RfA K cl E t f) : RfS K cl E (tRaise (cl c) E t) (sRaise c f) := by
 intro N σ H env F R h
 refine hf σ H _ env F R ((Cs.bnd h).mono fun xs H1 ⟨F1, e1, ds, fr, R1, p1, h1⟩ => ?_)
 have hl : ds.length = xs.length := Rps.length p1
 split at h1
 ·rename_i z
  exact ⟨by rw [← hl]; exact z, h1 H1 F1 (fr.toFX R1.sub) none rfl⟩
 ·exact h1.elim
theorem rf_SetC {i : Nat} {g : List D → Option R1} {t : TA} {f : AF} (hf : RfA K cl E t f) : RfS K cl E (tAsg (tCall (spD K cl g) [] E t) (gName i)) (sSetC i g f) := by
 intro N σ H env F R h
 refine hf σ H _ env F R ((Cs.bnd h).mono fun vs H1 ⟨F1, e1, ds, fr, R1, p1, h1⟩ => ?_)
 show spD K cl g (vs ++ []) H1 _ E
 rw [List.append_nil]
 refine ⟨ds, F1, R1.sub, p1, ?_⟩
 unfold toSet at h1
 split at h1
 ·exact h1.elim
 ·obtain ⟨hi, nh, h2⟩ := putS h1
  exact fun v H' F' gr r => h2 _ H' F' ((fr.trans (R1.frm gr)).trans (Frm.put nh)) ((R1.gr gr).put hi nh r)
 ·obtain ⟨hi, nh, h2⟩ := putS h1
  intro a xs H' F' gr ha hH hF r
  exact h2 _ H' F' ((fr.trans (R1.frm gr)).putO (fr.dom a ha) nh) ((R1.gr gr).putO hi hH hF (R1.nl ha) r)
 ·exact h1.elim
 ·exact h1.elim
 ·exact fun H' F' gr => h1 H' F' (fr.fx gr.fx)
theorem rf_SetC0 {i : Nat} {g : List D → Option R1} {t : TA} {f : AF} (hf : RfA K cl E t f) : RfS K cl E (tAsg (tCall (spD K cl g) [] E0 t) (gName i)) (sSetC0 i g f) := by
 intro N σ H env F R h
 refine hf σ H _ env F R ((Cs.bnd h).mono fun vs H1 ⟨F1, e1, ds, fr, R1, p1, h1⟩ => ?_)
 show spD K cl g (vs ++ []) H1 _ E0
 rw [List.append_nil]
 refine ⟨ds, F1, R1.sub, p1, ?_⟩
 unfold toSet0 at h1
 split at h1
 ·rename_i q; rw [q]
  obtain ⟨hi, nh, h2⟩ := putS h1
  exact fun v H' F' gr r => h2 _ H' F' ((fr.trans (R1.frm gr)).trans (Frm.put nh)) ((R1.gr gr).put hi nh r)
 ·rename_i q; rw [q]
  obtain ⟨hi, nh, h2⟩ := putS h1
  intro a xs H' F' gr ha hH hF r
  exact h2 _ H' F' ((fr.trans (R1.frm gr)).putO (fr.dom a ha) nh) ((R1.gr gr).putO hi hH hF (R1.nl ha) r)
 ·exact h1.elim
theorem rf_RetC {g : List D → Option R1} {t : TA} {f : AF} (hf : RfA K cl E t f) : RfS K cl E (tRet (tCall (spD K cl g) [] E t)) (sRetC g f) := by
 intro N σ H env F R h
 refine hf σ H _ env F R ((Cs.bnd h).mono fun vs H1 ⟨F1, e1, ds, fr, R1, p1, h1⟩ => ?_)
 show spD K cl g (vs ++ []) H1 _ E
 rw [List.append_nil]
 refine ⟨ds, F1, R1.sub, p1, ?_⟩
 unfold toRet at h1
 split at h1
 ·exact h1.elim
 ·exact fun v H' F' gr r => h1 v H' F' (fr.fx gr.fx) r
 ·exact fun a xs H' F' gr ha hH hF r => h1 a xs H' F' (fr.fx gr.fx) hH hF (fun o e => by rw [fr.dom a ha] at e; cases e) r
 ·exact fun p as H' F' gr hp ht fp rz => h1 p as H' F' (fr.fx gr.fx) (fr.dom p hp) ht fp (rz.imp fun a xs _ _ ha o e => by rw [fr.dom a ha] at e; cases e)
 ·exact fun p a xs H' F' gr hp ht fp ha hH hF r => h1 p a xs H' F' (fr.fx gr.fx) (fr.dom p hp) ht fp hH hF (fun o e => by rw [fr.dom a ha] at e; cases e) r
 ·exact fun H' F' gr => h1 H' F' (fr.fx gr.fx)
theorem Rel.change {i : Nat} {ds es : List D} {a : Addr} {ys : List V} (R : Rel K cl σ H F env) (h : env[i]? = some (.ow ds)) (e : σ[i]? = some (some (.ref a))) (r : Rps K cl F es ys) :
  Rel K cl σ (upd H a (.lst ys)) F (env.set i (.ow es)) ∧ Frm σ H F env σ (upd H a (.lst ys)) F (env.set i (.ow es)) := by
 obtain ⟨a', xs, e', hH, hF, _⟩ := R.mu i ds (.inl h)
 rw [e] at e'; cases e'
 have hi : i < env.length := (List.getElem?_eq_some_iff.mp h).1
 have self : (env.set i (.ow es))[i]? = some (.ow es) := List.getElem?_set_self hi
 have oth : ∀ j, j ≠ i → (env.set i (.ow es))[j]? = env[j]? := fun j hj => List.getElem?_set_ne (Ne.symm hj)
 have mui : ∀ j, Mu (env.set i (.ow es)) j → Mu env j := fun j ⟨fs, q⟩ => by
  by_cases z : j = i
  ·subst z; exact ⟨ds, .inl h⟩
  ·rw [oth j z] at q; exact ⟨fs, q⟩
 refine ⟨⟨fun b o q => ?_, by rw [List.length_set]; exact R.len, fun j d q => ?_, fun j fs q => ?_, fun j k b hj hk => R.inj j k b (mui j hj) (mui k hk), (R.od.updL hH (R.np ⟨ds, .inl h⟩ e)).setE not_isD_ow (u := fun _ _ => ⟨ds, .inl h⟩)⟩, ⟨Same.refl _, fun b o hb fb w m => ?_, fun j fs q => ?_, fun b q => ?_, (by first | exact tu_refl | exact tu_new (by assumption) | exact tu_upd (by assumption) nt_lst | exact tu_upd (by assumption) nt_dkO | assumption)⟩⟩
 ·have z : b ≠ a := fun z => by rw [z, hF] at q; cases q
  rw [upd_ne z]; exact R.sub _ _ q
 ·have z : j ≠ i := fun z => by subst z; rw [self] at q; cases q
  rw [oth j z] at q; exact R.fz j d q
 ·by_cases z : j = i
  ·subst z
   rw [self] at q
   rcases q with q | q
   ·cases q; exact ⟨a, ys, e, upd_same, hF, r⟩
   ·cases q
  ·rw [oth j z] at q
   obtain ⟨b, zs, e1, h1, f1, r1⟩ := R.mu j fs q
   have nb : b ≠ a := fun y => z (R.inj j i b ⟨fs, q⟩ ⟨ds, .inl h⟩ e1 (by rw [y]; exact e))
   exact ⟨b, zs, e1, by rw [upd_ne nb]; exact h1, f1, r1⟩
 ·have z : b ≠ a := fun z => w ⟨i, .ow ds, True.intro, h, .inl (by rw [z]; exact e)⟩
  refine ⟨by rw [upd_ne z]; exact hb, fb, fun ⟨j, fs, oo, q, e1⟩ => ?_⟩
  by_cases y : j = i
  ·subst y; rw [self] at q; cases q; have e1 := e1.resolve_right fun z => nomatch z; rw [e] at e1; cases e1; exact z rfl
  ·rw [oth j y] at q; exact w ⟨j, fs, oo, q, e1⟩
 ·have z : j ≠ i := fun z => by subst z; rw [h] at q; cases q
  exact ⟨by rw [oth j z]; exact q, rfl⟩
 ·by_cases z : b = a
  ·rw [z, upd_same] at q; cases q
  ·rw [upd_ne z] at q; exact q
theorem rf_App {i : Nat} {t : TE} {f : ZF} (hf : RfZ K cl E t f) : RfS K cl E (tDrop (tBM K "list" rAppend (tVar i) (tCons t tNil))) (sApp i f) := by
 intro N σ H env F R h
 unfold sApp at h
 split at h
 ·rename_i ds0 q
  obtain ⟨x, e0, rb⟩ := R.look q
  obtain ⟨a0, xs0, rfl, hH0, _⟩ := rb.lst R.sub
  refine ⟨_, e0, .inl ⟨rfl, xs0, .of hH0⟩, ?_⟩
  ·refine hf σ H _ env F R ((Cs.bnd h).mono fun y H1 ⟨F1, e1, d, fr, R1, p1, h1⟩ => ?_)
   split at h1
   ·rename_i ds q1
    split at h1
    ·rename_i c
     obtain ⟨a, xs, e, hH, hF, r⟩ := R1.mu i ds (.inl q1)
     rw [e0] at e; cases e
     obtain ⟨R2, f2⟩ := R1.change q1 e0 (r.append (.one p1))
     exact ⟨_, xs, y, rfl, rfl, hH, by rw [← r.length]; exact c, h1 σ _ F1 (fr.trans f2) R2⟩
    ·exact h1.elim
   ·exact h1.elim
 ·exact h.elim
end
abbrev GF := D → DE → Option DE
def bName (i : Nat) : GF := fun d e => match e[i]? with
 | none => none
 | some (.hd _) => none
 | some _ => some (e.set i (.fz d))
def bEach : List GF → List D → DE → Option DE
 | [], [], e => some e
 | b :: bs, d :: ds, e => match b d e with
  | none => none
  | some e1 => bEach bs ds e1
 | _, _, _ => none
def bTup (bs : List GF) : GF := fun d e => match d with
 | .tup ds => bEach bs ds e
 | _ => none
section
variable (K : W.Frag) (cl : Str → Addr)
def RfG (k : Nat) (g : TG) (b : GF) : Prop := ∀ v σ H Q d env env' F, Rel K cl σ H F env → Rp K cl F d v → b d env = some env' → (∀ σ', σ'.drop k = σ.drop k → σ'.length = σ.length → Frm σ H F env σ' H F env' → Rel K cl σ' H F env' → Q σ' H) → g v σ H Q
def RfGs (k : Nat) (t : TGs) (bs : List GF) : Prop := ∀ vs σ H Q ds env env' F, Rel K cl σ H F env → Rps K cl F ds vs → bEach bs ds env = some env' → (∀ σ', σ'.drop k = σ.drop k → σ'.length = σ.length → Frm σ H F env σ' H F env' → Rel K cl σ' H F env' → Q σ' H) → t vs σ H Q
end
section
variable {K : W.Frag} {cl : Str → Addr} {E : XK} {σ : St} {H F : Hp} {env : DE} {k : Nat}
theorem drop_set {α : Type} {l : List α} {i k : Nat} {x : α} (h : i < k) : (l.set i x).drop k = l.drop k := by
 apply List.ext_getElem?
 intro j
 rw [List.getElem?_drop, List.getElem?_drop, List.getElem?_set_ne (by omega)]
theorem rf_gName {i : Nat} (hi : i < k) : RfG K cl k (gName i) (bName i) := by
 intro v σ H Q d env env' F R p h q
 unfold bName at h
 split at h
 ·cases h
 ·cases h
 ·rename_i z n e
  cases h
  have nh : ∀ ds, env[i]? ≠ some (.hd ds) := fun ds y => by rw [e] at y; cases y; exact n ds rfl
  exact q _ (drop_set hi) List.length_set (Frm.put nh) (R.put (List.getElem?_eq_some_iff.mp e).1 nh p)
theorem rf_gNil : RfGs K cl k gNil [] := by
 intro vs σ H Q ds env env' F R p h q
 cases ds with
 | nil => cases h; exact ⟨p.inv0, q σ rfl rfl Frm.refl R⟩
 | cons _ _ => cases h
theorem rf_gCons {t : TG} {u : TGs} {b : GF} {bs : List GF} (h1 : RfG K cl k t b) (h2 : RfGs K cl k u bs) : RfGs K cl k (gCons t u) (b :: bs) := by
 intro vs σ H Q ds env env' F R p h q
 cases ds with
 | nil => cases h
 | cons d ds =>
  obtain ⟨v, r, rfl, p1, p2⟩ := p.inv
  unfold bEach at h
  split at h
  ·cases h
  ·rename_i e1 hb
   refine ⟨v, r, rfl, h1 v σ H _ d env e1 F R p1 hb fun σ1 d1 l1 f1 R1 => ?_⟩
   exact h2 r σ1 H _ ds e1 env' F R1 p2 h fun σ2 d2 l2 f2 R2 => q σ2 (d2.trans d1) (l2.trans l1) (f1.trans f2) R2
theorem bEach_len : ∀ {bs : List GF} {ds : List D} {e e' : DE}, bEach bs ds e = some e' → ds.length = bs.length
 | [], [], _, _, _ => rfl
 | [], _ :: _, _, _, h => by cases h
 | _ :: _, [], _, _, h => by cases h
 | b :: bs, d :: ds, e, e', h => by
  unfold bEach at h
  split at h
  ·cases h
  ·simp [bEach_len h]
theorem rf_gTup {t : TGs} {bs : List GF} {n : Nat} (h : RfGs K cl k t bs) (hn : bs.length = n) : RfG K cl k (gTup K n t) (bTup bs) := by
 intro v σ H Q d env env' F R p e q
 unfold bTup at e
 split at e
 ·rename_i ds
  simp only [Rp] at p
  obtain ⟨a, xs, rfl, hF, r⟩ := p
  exact ⟨a, xs, rfl, .of (R.sub _ _ hF), by rw [← r.length, bEach_len e, hn], h xs σ H Q ds env env' F R r e q⟩
 ·cases e
def sAsg (f : ZF) (b : GF) : SF := fun e => sbn (f e) fun d e1 => match b d e1 with
 | none => none
 | some e2 => some (.nx e2)
theorem rf_Asg {t : TE} {g : TG} {f : ZF} {b : GF} (hf : RfZ K cl E t f) (hg : RfG K cl k g b) : RfS K cl E (tAsg t g) (sAsg f b) := by
 intro N σ H env F R h
 refine hf σ H _ env F R ((Cs.bnd h).mono fun x H1 ⟨F1, e1, d, fr, R1, p1, h1⟩ => ?_)
 split at h1
 ·exact h1.elim
 ·rename_i e2 hb
  exact hg x σ H1 _ d e1 e2 F1 R1 p1 hb fun σ' _ _ f2 R2 => h1 σ' H1 F1 (fr.trans f2) R2
def forD (b : GF) (body : SF) : List D → DE → Option RS
 | [], e => some (.nx e)
 | d :: ds, e => match b d e with
  | none => none
  | some e1 => match body e1 with
   | some (.nx e2) => forD b body ds e2
   | some (.ct e2) => forD b body ds e2
   | some (.bk e2) => some (.nx e2)
   | r => r
theorem for_turn {b : GF} {body : SF} {g : TG} {tb : TS} {d : D} {x : V} {ds : List D} {e1 : DE} {N : Ends} {σ1 : St} {H1 F1 : Hp} {Pv : St → Hp → Prop} (hb : RfS K cl E tb body) (hg : RfG K cl k g b)
  (f1 : Frm σ H F env σ1 H1 F1 e1) (R1 : Rel K cl σ1 H1 F1 e1) (p : Rp K cl F1 d x) (h : Cs K cl E (forD b body (d :: ds) e1) σ H F env N)
  (hP : ∀ σ' H' F' e', Frm σ H F env σ' H' F' e' → Rel K cl σ' H' F' e' → Cs K cl E (forD b body ds e') σ H F env N → Pv σ' H') :
  g x σ1 H1 fun σ2 H2 => tb { N with nx := Pv, ct := Pv, bk := N.nx } σ2 H2 := by
 unfold forD at h
 split at h
 ·exact h.elim
 ·rename_i e2 hbd
  refine hg x σ1 H1 _ d e1 e2 F1 R1 p hbd fun σ2 _ _ f2 R2 => ?_
  refine hb _ σ2 H1 e2 F1 R2 ?_
  split at h
  ·rename_i e3 q; rw [q]
   exact fun σ' H' F' f3 R3 => hP σ' H' F' e3 ((f1.trans f2).trans f3) R3 h
  ·rename_i e3 q; rw [q]
   exact fun σ' H' F' f3 R3 => hP σ' H' F' e3 ((f1.trans f2).trans f3) R3 h
  ·rename_i e3 q; rw [q]
   exact fun σ' H' F' f3 R3 => h σ' H' F' ((f1.trans f2).trans f3) R3
  ·rename_i n1 n2 n3
   have h2 := h.from (f1.trans f2)
   unfold Cs at h2 ⊢
   split at h2
   ·exact h2
   ·rename_i e q; exact absurd q (n1 e)
   ·rename_i e q; exact absurd q (n3 e)
   ·rename_i e q; exact absurd q (n2 e)
   ·exact h2
   ·exact h2
   ·exact h2
   ·exact h2
   ·exact h2
theorem drop_cons {α : Type} {l : List α} {i : Nat} {x : α} (h : l[i]? = some x) : l.drop i = x :: l.drop (i + 1) := by
 obtain ⟨hi, e⟩ := List.getElem?_eq_some_iff.mp h
 rw [← e]; exact List.drop_eq_getElem_cons hi
theorem forL {b : GF} {body : SF} {g : TG} {tb : TS} {ds : List D} {xs : List V} {a : Addr} {N : Ends} (hb : RfS K cl E tb body) (hg : RfG K cl k g b) (R : Rel K cl σ H F env)
  (hl : ∀ σ' H' F' e', Frm σ H F env σ' H' F' e' → Rel K cl σ' H' F' e' → SqL K H' a xs) (r : Rps K cl F ds xs) (h : Cs K cl E (forD b body ds env) σ H F env N) :
  ∃ W : Nat → Nat → St → Hp → Prop, (∃ m, W 0 m σ H) ∧ ∀ i m σ H, W i m σ H →
   ((Itl K a).stop i H ∧ N.nx σ H) ∨ ((Itl K a).go i H ∧ ∃ M : St → Hp → Prop, (∀ σ' H', M σ' H' → ∃ m', m' < m ∧ W (i + 1) m' σ' H') ∧ ∀ x H', (Itl K a).yld i H x H' → g x σ H' fun σ2 H2 => tb { N with nx := M, ct := M, bk := N.nx } σ2 H2) := by
 refine for_list (xs := xs) (fun i σ' H' => ∃ F' e', Frm σ H F env σ' H' F' e' ∧ Rel K cl σ' H' F' e' ∧ Cs K cl E (forD b body (ds.drop i) e') σ H F env N) ⟨F, env, Frm.refl, R, h⟩ (fun i σ' H' _ ⟨F', e', f, R', _⟩ => hl σ' H' F' e' f R') (fun i x σ' H' hx ⟨F', e', f, R', h'⟩ => ?_) (fun σ' H' ⟨F', e', f, R', h'⟩ => ?_)
 ·obtain ⟨d, hd, p⟩ := r.get' hx
  rw [drop_cons hd] at h'
  exact for_turn hb hg f R' (Rp.mono f.fz _ _ p) h' fun σ2 H2 F2 e2 f2 R2 h2 => ⟨F2, e2, f2, R2, h2⟩
 ·rw [← r.length, List.drop_length] at h'
  exact h' σ' H' F' f R'
def seqL : D → Option (List D)
 | .lst ds => some ds
 | .scr ns => some (ns.map .int)
 | _ => none
theorem Rp.seqL {d : D} {ds : List D} {v : V} (p : Rp K cl F d v) (s : L2.seqL d = some ds) : ∃ a xs, v = .ref a ∧ Rps K cl F ds xs ∧ ∀ H', Same F H' → SqL K H' a xs := by
 unfold L2.seqL at s
 split at s
 ·cases s; simp only [Rp] at p
  obtain ⟨a, xs, e, h, r⟩ := p
  exact ⟨a, xs, e, r, fun H' g => .of (g _ _ h)⟩
 ·cases s; simp only [Rp] at p
  obtain ⟨a, e, h⟩ := p
  exact ⟨a, _, e, Rps.ofInts, fun H' g => (h.same g).seq⟩
 ·cases s
def sFor (f : ZF) (b : GF) (body : SF) : SF := fun e => sbn (f e) fun d e1 => match seqL d with
 | none => none
 | some ds => forD b body ds e1
theorem rf_For {t : TE} {g : TG} {tb : TS} {f : ZF} {b : GF} {body : SF} (hf : RfZ K cl E t f) (hg : RfG K cl k g b) (hb : RfS K cl E tb body) : RfS K cl E (tFor (iList K t) g tb) (sFor f b body) := by
 intro N σ H env F R h
 refine hf σ H _ env F R ((Cs.bnd h).mono fun x H1 ⟨F1, e1, d, fr, R1, p1, h1⟩ => ?_)
 split at h1
 ·exact h1.elim
 ·rename_i ds hs
  obtain ⟨a, xs, rfl, r, hl⟩ := Rp.seqL p1 hs
  exact ⟨a, rfl, ⟨xs, hl H1 R1.sub⟩, forL hb hg R1 (fun σ' H' F' e' f2 R2 => hl H' (f2.fz.trans R2.sub)) r (h1.from fr)⟩
def rngD (lo : Int) (n : Nat) : List D := (List.range n).map fun (i : Nat) => .int (lo + (i : Int))
theorem rngD_drop {lo : Int} {n i : Nat} (h : i < n) : (rngD lo n).drop i = .int (lo + i) :: (rngD lo n).drop (i + 1) := drop_cons (by unfold rngD; rw [List.getElem?_map, List.getElem?_range h]; rfl)
theorem rngD_len {lo : Int} {n : Nat} : (rngD lo n).length = n := by unfold rngD; rw [List.length_map, List.length_range]
theorem forR {b : GF} {body : SF} {g : TG} {tb : TS} {lo : Int} {n : Nat} {N : Ends} (hb : RfS K cl E tb body) (hg : RfG K cl k g b) (R : Rel K cl σ H F env) (h : Cs K cl E (forD b body (rngD lo n) env) σ H F env N) :
  ∃ W : Nat → Nat → St → Hp → Prop, (∃ m, W 0 m σ H) ∧ ∀ i m σ H, W i m σ H →
   ((Itr lo n).stop i H ∧ N.nx σ H) ∨ ((Itr lo n).go i H ∧ ∃ M : St → Hp → Prop, (∀ σ' H', M σ' H' → ∃ m', m' < m ∧ W (i + 1) m' σ' H') ∧ ∀ x H', (Itr lo n).yld i H x H' → g x σ H' fun σ2 H2 => tb { N with nx := M, ct := M, bk := N.nx } σ2 H2) := by
 refine for_range (fun i σ' H' => ∃ F' e', Frm σ H F env σ' H' F' e' ∧ Rel K cl σ' H' F' e' ∧ Cs K cl E (forD b body ((rngD lo n).drop i) e') σ H F env N) ⟨F, env, Frm.refl, R, h⟩ (fun i σ' H' hx ⟨F', e', f, R', h'⟩ => ?_) (fun σ' H' ⟨F', e', f, R', h'⟩ => ?_)
 ·rw [rngD_drop hx] at h'
  exact for_turn hb hg f R' (by simp only [Rp]) h' fun σ2 H2 F2 e2 f2 R2 h2 => ⟨F2, e2, f2, R2, h2⟩
 ·rw [show (rngD lo n).drop n = [] from List.drop_eq_nil_of_le (by rw [rngD_len]; exact Nat.le_refl _)] at h'
  exact h' σ' H' F' f R'
def rng1 (ds : List D) : Option (Int × Nat) := match ds with
 | [.int j] => if -(2 ^ 62) ≤ j ∧ j < 2 ^ 62 then some (0, j.toNat) else none
 | _ => none
theorem rng1_of {ds : List D} {vs : List V} {lo : Int} {n : Nat} (h : rng1 ds = some (lo, n)) (p : Rps K cl F ds vs) : ∃ j : Int, vs = [.int j] ∧ -(2 ^ 62) ≤ j ∧ j < 2 ^ 62 ∧ lo = 0 ∧ n = j.toNat := by
 unfold rng1 at h
 split at h
 ·rename_i j
  split at h
  ·rename_i c; cases h
   exact ⟨j, (Rps.ints (ns := [j]) p), c.1, c.2, rfl, rfl⟩
  ·cases h
 ·cases h
def sForR (rg : List D → Option (Int × Nat)) (f : AF) (b : GF) (body : SF) : SF := fun e => sbn (f e) fun ds e1 => match rg ds with
 | none => none
 | some (lo, n) => forD b body (rngD lo n) e1
theorem rf_ForR1 {t : TA} {g : TG} {tb : TS} {f : AF} {b : GF} {body : SF} (hf : RfA K cl E t f) (hg : RfG K cl k g b) (hb : RfS K cl E tb body) : RfS K cl E (tFor (iRng1 t) g tb) (sForR rng1 f b body) := by
 intro N σ H env F R h
 refine hf σ H _ env F R ((Cs.bnd h).mono fun x H1 ⟨F1, e1, ds, fr, R1, p1, h1⟩ => ?_)
 split at h1
 ·exact h1.elim
 ·rename_i lo n hs
  obtain ⟨j, e, c1, c2, rfl, rfl⟩ := rng1_of hs p1
  exact ⟨j, e, c1, c2, forR hb hg R1 (h1.from fr)⟩
end
section
variable {K : W.Frag} {cl : Str → Addr} {E : XK} {σ : St} {H F : Hp} {env : DE} {k : Nat}
def unhide (i : Nat) (ds : List D) (r : Option RS) : Option RS := match r with
 | some (.nx e) => some (.nx (e.set i (.ow ds)))
 | some (.bk _) => none
 | some (.ct _) => none
 | r => r
theorem Rel.hide {i : Nat} {ds : List D} (R : Rel K cl σ H F env) (h : env[i]? = some (.ow ds)) : Rel K cl σ H F (env.set i (.hd ds)) := by
 have hi : i < env.length := (List.getElem?_eq_some_iff.mp h).1
 have self : (env.set i (.hd ds))[i]? = some (.hd ds) := List.getElem?_set_self hi
 have oth : ∀ j, j ≠ i → (env.set i (.hd ds))[j]? = env[j]? := fun j hj => List.getElem?_set_ne (Ne.symm hj)
 have mui : ∀ (j : Nat) (fs : List D), (env.set i (.hd ds))[j]? = some (.ow fs) ∨ (env.set i (.hd ds))[j]? = some (.hd fs) → env[j]? = some (.ow fs) ∨ env[j]? = some (.hd fs) := fun j fs q => by
  by_cases z : j = i
  ·subst z; rw [self] at q; rcases q with q | q <;> cases q; exact .inl h
  ·rw [oth j z] at q; exact q
 refine ⟨R.sub, by rw [List.length_set]; exact R.len, fun j d q => ?_, fun j fs q => R.mu j fs (mui j fs q), fun j l b ⟨fs, q⟩ ⟨gs, q'⟩ => R.inj j l b ⟨fs, mui j fs q⟩ ⟨gs, mui l gs q'⟩, R.od.setE not_isD_hd (u := fun _ _ => ⟨ds, .inl h⟩)⟩
 have z : j ≠ i := fun z => by subst z; rw [self] at q; cases q
 rw [oth j z] at q; exact R.fz j d q
theorem Ow.hide {i : Nat} {ds : List D} {a : Addr} (w : Ow σ (env.set i (.hd ds)) a) : Ow σ env a := by
 obtain ⟨j, fs, oo, q, e⟩ := w
 by_cases z : j = i
 ·subst z
  have hj : j < env.length := by have := (List.getElem?_eq_some_iff.mp q).1; rwa [List.length_set] at this
  rw [List.getElem?_set_self hj] at q; cases q; exact oo.elim
 ·rw [List.getElem?_set_ne (Ne.symm z)] at q; exact ⟨j, fs, oo, q, e⟩
theorem Rel.unhide {i : Nat} {ds : List D} (R : Rel K cl σ H F env) (h : env[i]? = some (.hd ds)) : Rel K cl σ H F (env.set i (.ow ds)) := by
 have hi : i < env.length := (List.getElem?_eq_some_iff.mp h).1
 have self : (env.set i (.ow ds))[i]? = some (.ow ds) := List.getElem?_set_self hi
 have oth : ∀ j, j ≠ i → (env.set i (.ow ds))[j]? = env[j]? := fun j hj => List.getElem?_set_ne (Ne.symm hj)
 have mui : ∀ (j : Nat) (fs : List D), (env.set i (.ow ds))[j]? = some (.ow fs) ∨ (env.set i (.ow ds))[j]? = some (.hd fs) → env[j]? = some (.ow fs) ∨ env[j]? = some (.hd fs) := fun j fs q => by
  by_cases z : j = i
  ·subst z; rw [self] at q; rcases q with q | q <;> cases q; exact .inr h
  ·rw [oth j z] at q; exact q
 refine ⟨R.sub, by rw [List.length_set]; exact R.len, fun j d q => ?_, fun j fs q => R.mu j fs (mui j fs q), fun j l b ⟨fs, q⟩ ⟨gs, q'⟩ => R.inj j l b ⟨fs, mui j fs q⟩ ⟨gs, mui l gs q'⟩, R.od.setE not_isD_ow (u := fun _ _ => ⟨ds, .inr h⟩)⟩
 have z : j ≠ i := fun z => by subst z; rw [self] at q; cases q
 rw [oth j z] at q; exact R.fz j d q
theorem Cs.hide {i : Nat} {ds : List D} {r : Option RS} {N : Ends} (R : Rel K cl σ H F env) (h : env[i]? = some (.ow ds)) (c : Cs K cl E (unhide i ds r) σ H F env N) : Cs K cl E r σ H F (env.set i (.hd ds)) N := by
 have hi : i < env.length := (List.getElem?_eq_some_iff.mp h).1
 have self : (env.set i (.hd ds))[i]? = some (.hd ds) := List.getElem?_set_self hi
 have fx : ∀ {H' F'}, FX σ H F (env.set i (.hd ds)) H' F' → FX σ H F env H' F' := fun x => ⟨x.fz, x.sub, fun a o h f w m => x.hid a o h f fun y => w y.hide, x.dom, x.tu⟩
 rcases r with _ | r
 ·exact c
 cases r with
 | nx e =>
  intro σ' H' F' f R'
  obtain ⟨q, eσ⟩ := f.keep i ds self
  refine c σ' H' F' ⟨f.fz, fun a o ha fa w m => ?_, fun j fs q' => ?_, f.dom, f.tu⟩ (R'.unhide q)
  ·obtain ⟨h1, f1, w1⟩ := f.hid a o ha fa fun y => w y.hide
   refine ⟨h1, f1, fun ⟨j, fs, oo, q2, e2⟩ => ?_⟩
   by_cases z : j = i
   ·subst z
    rw [eσ] at e2
    rw [List.getElem?_set_self (List.getElem?_eq_some_iff.mp q).1] at q2; cases q2
    exact w ⟨j, .ow ds, True.intro, h, e2⟩
   ·rw [List.getElem?_set_ne (Ne.symm z)] at q2
    exact w1 ⟨j, fs, oo, q2, e2⟩
  ·have z : j ≠ i := fun z => by subst z; rw [h] at q'; cases q'
   obtain ⟨q2, e2⟩ := f.keep j fs (by rw [List.getElem?_set_ne (Ne.symm z)]; exact q')
   exact ⟨by rw [List.getElem?_set_ne (Ne.symm z)]; exact q2, e2⟩
 | bk e => exact c.elim
 | ct e => exact c.elim
 | rt d => exact fun v H' F' x p => c v H' F' (fx x) p
 | ro es => exact fun a xs H' F' x ha fa nw p => c a xs H' F' (fx x) ha fa (fun o e => (nw o e).hide) p
 | rp n es => exact fun p a xs H' F' x hp ht fp ha fa nw r => c p a xs H' F' (fx x) hp ht fp ha fa (fun o e => (nw o e).hide) r
 | rz dss => exact fun p as H' F' x hp ht fp rz => c p as H' F' (fx x) hp ht fp (rz.imp fun a xs ha fa nw o e => (nw o e).hide)
 | ex n => exact fun H' F' x => c H' F' (fx x)
def sForV (i : Nat) (b : GF) (body : SF) : SF := fun e => match e[i]? with
 | some (.fz d) => (match seqL d with
  | none => none
  | some ds => forD b body ds e)
 | some (.ow ds) => unhide i ds (forD b body ds (e.set i (.hd ds)))
 | some (.hd ds) => forD b body ds e
 | _ => none
theorem Rel.hid_stays {i : Nat} {ds : List D} (R : Rel K cl σ H F env) (h : env[i]? = some (.hd ds)) : ∃ a xs, σ[i]? = some (some (.ref a)) ∧ Rps K cl F ds xs ∧ H a = some (.lst xs) ∧ ∀ σ' H' F' e', Frm σ H F env σ' H' F' e' → H' a = some (.lst xs) := by
 obtain ⟨a, xs, e, hH, hF, r⟩ := R.mu i ds (.inr h)
 refine ⟨a, xs, e, r, hH, fun σ' H' F' e' f => (f.hid a _ hH hF fun ⟨j, fs, oo, q, e'⟩ => ?_).1⟩
 cases fs with
 | ow fs =>
  have z : i = j := R.inj i j a ⟨ds, .inr h⟩ ⟨fs, .inl q⟩ e (e'.resolve_right fun z => nomatch z)
  subst z; rw [h] at q; cases q
 | nk p d =>
  rcases e' with e' | e'
  ·obtain ⟨b, e1, _, _, _, _, _, _, _, _, h1, _⟩ := R.od.dk j p d q
   rw [e'] at e1; cases e1
   rw [hH] at h1; cases h1
  ·exact R.np ⟨ds, .inr h⟩ e j p d q (Option.some.inj e')
 | od ks fs =>
  have e' := e'.resolve_right fun z => nomatch z
  obtain ⟨a', xs', e2, h2, _⟩ := R.od.at_ j _ ks fs q ⟨rfl, rfl⟩
  rw [e'] at e2; cases e2
  rw [hH] at h2
  exact dkO_lst (Option.some.inj h2).symm
 | no => exact oo
 | fz _ => exact oo
 | hd _ => exact oo
 | hk _ _ => exact oo
theorem rf_ForV {i : Nat} {g : TG} {tb : TS} {b : GF} {body : SF} (hg : RfG K cl k g b) (hb : RfS K cl E tb body) : RfS K cl E (tFor (iList K (tVar i)) g tb) (sForV i b body) := by
 intro N σ H env F R h
 unfold sForV at h
 split at h
 ·rename_i d q
  split at h
  ·exact h.elim
  ·rename_i ds hs
   obtain ⟨v, e, p⟩ := R.fz i d q
   obtain ⟨a, xs, rfl, r, hl⟩ := Rp.seqL p hs
   exact ⟨_, e, a, rfl, ⟨xs, hl H R.sub⟩, forL hb hg R (fun σ' H' F' e' f2 R2 => hl H' (f2.fz.trans R2.sub)) r h⟩
 ·rename_i ds q
  have hi : i < env.length := (List.getElem?_eq_some_iff.mp q).1
  have R' := R.hide q
  obtain ⟨a, xs, e, r, hH, st⟩ := R'.hid_stays (i := i) (ds := ds) (List.getElem?_set_self hi)
  exact ⟨_, e, a, rfl, ⟨xs, .of hH⟩, forL hb hg R' (fun σ' H' F' e' f2 R2 => .of (st σ' H' F' e' f2)) r (h.hide R q)⟩
 ·rename_i ds q
  obtain ⟨a, xs, e, r, hH, st⟩ := R.hid_stays q
  exact ⟨_, e, a, rfl, ⟨xs, .of hH⟩, forL hb hg R (fun σ' H' F' e' f2 R2 => .of (st σ' H' F' e' f2)) r h⟩
 ·exact h.elim
def noHd (e : DE) : Bool := e.all fun s => match s with
 | .hd _ => false
 | _ => true
theorem noHd_of {e : DE} (h : noHd e = true) (i : Nat) (ds : List D) : e[i]? ≠ some (.hd ds) := fun q => by
 have := List.all_eq_true.mp h _ (List.mem_of_getElem? q)
 cases this
end
section
variable {K : W.Frag} {cl : Str → Addr} {E : XK} {σ : St} {H F : Hp} {env : DE} {k : Nat}
def capS : Option Sl → Sl
 | some (.fz d) => .fz d
 | some (.ow ds) => .hd ds
 | some (.hd ds) => .hd ds
 | some (.od ks ds) => .hk ks ds
 | some (.hk ks ds) => .hk ks ds
 | _ => .no
def compE (k : Nat) (js : List Nat) (e : DE) : DE := List.replicate k .no ++ js.map fun j => capS e[j]?
def compD (b : GF) (c : BF) (el : ZF) (ec : DE) (eo : DE) : List D → List D → Option (R (List D))
 | [], acc => some (.ok acc eo)
 | d :: ds, acc => match b d ec with
  | none => none
  | some e1 => bnd (c e1) fun t e2 => if t = true then bnd (el e2) fun y _ => if acc.length < sizeLine then compD b c el ec eo ds (acc ++ [y]) else none
   else compD b c el ec eo ds acc
theorem compE_get {js : List Nat} {e : DE} {i : Nat} {s : Sl} (h : (compE k js e)[i]? = some s) (n : s ≠ .no) : k ≤ i ∧ ∃ j, js[i - k]? = some j ∧ capS e[j]? = s := by
 unfold compE at h
 by_cases z : i < k
 ·rw [List.getElem?_append_left (by rw [List.length_replicate]; exact z), List.getElem?_replicate, if_pos z] at h
  cases h; exact absurd rfl n
 ·rw [List.getElem?_append_right (by rw [List.length_replicate]; omega), List.length_replicate, List.getElem?_map] at h
  cases q : js[i - k]? with
  | none => rw [q] at h; cases h
  | some j => rw [q] at h; cases h; exact ⟨by omega, j, rfl, rfl⟩
theorem compSt_get {js : List Nat} {i j : Nat} {v : V} (hk : k ≤ i) (hj : js[i - k]? = some j) (h : σ[j]? = some (some v)) : (compSt k js σ)[i]? = some (some v) := by
 unfold compSt
 rw [List.getElem?_append_right (by rw [List.length_replicate]; exact hk), List.length_replicate, List.getElem?_map, hj]
 simp [h]
theorem RelOd.comp {js : List Nat} (R : RelOd K cl σ H F env) (nd : js.Nodup) : RelOd K cl (compSt k js σ) H F (compE k js env) := by
 have cap : ∀ {j : Nat} {s : Sl} {ks : DK} {ds : List D}, capS env[j]? = s → isD s ks ds → ∃ t, env[j]? = some t ∧ isD t ks ds := fun {j s ks ds} h d => by
  unfold capS at h
  split at h <;> subst h
  ·exact d.elim
  ·exact d.elim
  ·exact d.elim
  ·rename_i q; exact ⟨_, q, d⟩
  ·rename_i q; exact ⟨_, q, d⟩
  ·exact d.elim
 have get : ∀ (i : Nat) (s : Sl) (ks : DK) (ds : List D), (compE k js env)[i]? = some s → isD s ks ds → k ≤ i ∧ ∃ j t, js[i - k]? = some j ∧ env[j]? = some t ∧ isD t ks ds := fun i s ks ds h d => by
  obtain ⟨hk, j, hj, c⟩ := compE_get h (fun z => by subst z; exact d)
  obtain ⟨t, q, dt⟩ := cap c d
  exact ⟨hk, j, t, hj, q, dt⟩
 have nn : ∀ (i : Nat) (p : Addr) (d : D), (compE k js env)[i]? ≠ some (.nk p d) := fun i p d h => by
  obtain ⟨_, j, _, c⟩ := compE_get h (fun z => by cases z)
  unfold capS at c
  split at c <;> cases c
 refine ⟨fun i s ks ds h d => ?_, fun i l s t ks ls ds es b hi di hl dl ei el => ?_, fun i p d h => absurd h (nn i p d), fun i j p q d e h => absurd h (nn i p d), fun i j p d h => absurd h (nn i p d)⟩
 ·obtain ⟨hk, j, t, hj, q, dt⟩ := get i s ks ds h d
  obtain ⟨a, xs, e, r⟩ := R.at_ j t ks ds q dt
  exact ⟨a, xs, compSt_get hk hj e, r⟩
 ·obtain ⟨hk, j, s', hj, q, dt⟩ := get i s ks ds hi di
  obtain ⟨hk', m, t', hm, q', dt'⟩ := get l t ls es hl dl
  obtain ⟨a, xs, e, _⟩ := R.at_ j s' ks ds q dt
  obtain ⟨a', xs', e', _⟩ := R.at_ m t' ls es q' dt'
  have h1 := compSt_get (k := k) hk hj e
  have h2 := compSt_get (k := k) hk' hm e'
  rw [ei] at h1; cases h1
  rw [el] at h2; cases h2
  have jm : j = m := R.inj j m s' t' ks ls ds es b q dt q' dt' e e'
  subst jm
  obtain ⟨hi', ej⟩ := List.getElem?_eq_some_iff.mp hj
  obtain ⟨hl', em⟩ := List.getElem?_eq_some_iff.mp hm
  have : i - k = l - k := (List.getElem_inj nd).mp (ej.trans em.symm)
  omega
theorem Rel.comp {js : List Nat} (R : Rel K cl σ H F env) (nd : js.Nodup) : Rel K cl (compSt k js σ) H F (compE k js env) := by
 have cap : ∀ {j : Nat} {ds : List D}, capS env[j]? = .hd ds → env[j]? = some (.ow ds) ∨ env[j]? = some (.hd ds) := fun {j ds} h => by
  unfold capS at h
  split at h
  ·cases h
  ·rename_i q; cases h; exact .inl q
  ·rename_i q; cases h; exact .inr q
  ·cases h
  ·cases h
  ·cases h
 have noow : ∀ {j : Nat} {ds : List D}, capS env[j]? ≠ .ow ds := fun {j ds} h => by
  unfold capS at h
  split at h <;> cases h
 have mu' : ∀ (i : Nat) (ds : List D), ((compE k js env)[i]? = some (.ow ds) ∨ (compE k js env)[i]? = some (.hd ds)) → k ≤ i ∧ ∃ j, js[i - k]? = some j ∧ (env[j]? = some (.ow ds) ∨ env[j]? = some (.hd ds)) := fun i ds q => by
  rcases q with q | q
  ·obtain ⟨hk, j, hj, c⟩ := compE_get q (fun z => by cases z); exact absurd c noow
  ·obtain ⟨hk, j, hj, c⟩ := compE_get q (fun z => by cases z); exact ⟨hk, j, hj, cap c⟩
 refine ⟨R.sub, ?_, fun i d q => ?_, fun i ds q => ?_, fun i l b ⟨ds, q⟩ ⟨es, q'⟩ e1 e2 => ?_, R.od.comp nd⟩
 ·unfold compSt compE
  rw [List.length_append, List.length_append, List.length_replicate, List.length_replicate, List.length_map, List.length_map]
 ·obtain ⟨hk, j, hj, c⟩ := compE_get q (fun z => by cases z)
  have : env[j]? = some (.fz d) := by
   unfold capS at c
   split at c
   ·rename_i q; cases c; exact q
   all_goals cases c
  obtain ⟨v, e, p⟩ := R.fz j d this
  exact ⟨v, compSt_get hk hj e, p⟩
 ·obtain ⟨hk, j, hj, c⟩ := mu' i ds q
  obtain ⟨a, xs, e, r⟩ := R.mu j ds c
  exact ⟨a, xs, compSt_get hk hj e, r⟩
 ·obtain ⟨hk, j, hj, c⟩ := mu' i ds q
  obtain ⟨hl, m, hm, c'⟩ := mu' l es q'
  obtain ⟨a, xs, e, _⟩ := R.mu j ds c
  obtain ⟨a', xs', e', _⟩ := R.mu m es c'
  have h1 := compSt_get (k := k) hk hj e
  have h2 := compSt_get (k := k) hl hm e'
  rw [e1] at h1; cases h1
  rw [e2] at h2; cases h2
  have jm : j = m := R.inj j m b ⟨ds, c⟩ ⟨es, c'⟩ e e'
  subst jm
  obtain ⟨hi', ei⟩ := List.getElem?_eq_some_iff.mp hj
  obtain ⟨hl', el⟩ := List.getElem?_eq_some_iff.mp hm
  have : i - k = l - k := (List.getElem_inj nd).mp (ei.trans el.symm)
  omega
def NoOw (e : DE) : Prop := ∀ (i : Nat) (s : Sl), isO s → e[i]? ≠ some s
theorem noow_comp {js : List Nat} {e : DE} : NoOw (compE k js e) := fun i s oo q => by
 obtain ⟨hk, j, hj, c⟩ := compE_get q (fun z => by subst z; exact oo)
 unfold capS at c
 split at c <;> subst c <;> exact oo
theorem NoOw.not {e : DE} (n : NoOw e) {σ : St} {a : Addr} : ¬ Ow σ e a := fun ⟨i, ds, oo, q, _⟩ => n i ds oo q
theorem Frm.gr {σ' : St} {H' F' : Hp} {env' : DE} (f : Frm σ H F env σ' H' F' env') (n : NoOw env) (s : Same F' H') : Gr H F H' F' := ⟨f.fz, s, fun a o h g m => by obtain ⟨h1, f1, _⟩ := f.hid a o h g n.not; exact ⟨h1, f1⟩, f.dom, f.tu⟩
theorem FX.gr {H' F' : Hp} (f : FX σ H F env H' F') (n : NoOw env) : Gr H F H' F' := ⟨f.fz, f.sub, fun a o h g m => f.hid a o h g n.not, f.dom, f.tu⟩
structure Grow (K : W.Frag) (cl : Str → Addr) (σ : St) (H0 F0 : Hp) (env : DE) (B : Addr) (acc : List D) (ys : List V) (H F : Hp) : Prop where
 rel : Rel K cl σ H F env
 frm : Frm σ H0 F0 env σ H F env
 new : H0 B = none
 at_ : H B = some (.lst ys)
 un : F B = none
 far : Nl σ env B
 rps : Rps K cl F acc ys
 stay : ∀ a o, H0 a = some o → F0 a = none → ∀ (m : NT o := by first | assumption | exact nt_lst | exact nt_dkO | exact nt_frz), H a = some o ∧ F a = none
theorem Grow.start {B : Addr} (R : Rel K cl σ H F env) (hB : H B = none) : Grow K cl σ H F env B [] [] (upd H B (.lst [])) F := by
 obtain ⟨R', f⟩ := R.newN (o := .lst []) hB
 exact ⟨R', f, hB, upd_same, R.sub.free hB, R.nl hB, .nil, fun a o h f m => ⟨by rw [upd_ne (fun z => by rw [z, hB] at h; cases h)]; exact h, f⟩⟩
theorem Grow.gr {B : Addr} {acc : List D} {ys : List V} {H0 F0 H' F' : Hp} (g : Grow K cl σ H0 F0 env B acc ys H F) (r : Gr H F H' F') : Grow K cl σ H0 F0 env B acc ys H' F' :=
 ⟨g.rel.gr r, g.frm.trans (g.rel.frm r), g.new, (r.hid B _ g.at_ g.un).1, (r.hid B _ g.at_ g.un).2, g.far, g.rps.mono r.fz, fun a o h f m => by obtain ⟨h1, f1⟩ := g.stay a o h f; exact r.hid a o h1 f1⟩
theorem Grow.push {B : Addr} {acc : List D} {ys : List V} {H0 F0 : Hp} {d : D} {y : V} (g : Grow K cl σ H0 F0 env B acc ys H F) (p : Rp K cl F d y) : Grow K cl σ H0 F0 env B (acc ++ [d]) (ys ++ [y]) (upd H B (.lst (ys ++ [y]))) F := by
 have ne : ∀ a o, F a = some o → a ≠ B := fun a o h z => by rw [z, g.un] at h; cases h
 refine ⟨⟨fun a o h => by rw [upd_ne (ne a o h)]; exact g.rel.sub _ _ h, g.rel.len, g.rel.fz, fun j ds q => ?_, g.rel.inj, g.rel.od.updL g.at_ g.far.2⟩, ⟨g.frm.fz, fun a o h f w m => ?_, g.frm.keep, fun a h => ?_, fun b1 y1 h1 => tu_upd g.at_ nt_lst b1 y1 (g.frm.tu b1 y1 h1)⟩, g.new, upd_same, g.un, g.far, g.rps.append (.one p), fun a o h f m => by rw [upd_ne (fun z => by rw [z, g.new] at h; cases h)]; exact g.stay a o h f⟩
 ·obtain ⟨a, xs, e, hH, r⟩ := g.rel.mu j ds q
  have z : a ≠ B := fun z => g.far.1 j ⟨ds, q⟩ (by rw [e, z])
  exact ⟨a, xs, e, by rw [upd_ne z]; exact hH, r⟩
 ·have z : a ≠ B := fun z => by rw [z, g.new] at h; cases h
  rw [upd_ne z]; exact g.frm.hid a o h f w
 ·by_cases z : a = B
  ·rw [z, upd_same] at h; cases h
  ·rw [upd_ne z] at h; exact g.frm.dom a h
theorem comp_turn {b : GF} {c : BF} {el : ZF} {g : TG} {tf : TT} {te : TE} {js : List Nat} {B : Addr} {d : D} {x : V} {ds acc : List D} {ys : List V} {H0 F0 : Hp} {Q : VK} {Pv : List V → Hp → Prop} (nd : js.Nodup)
  (hg : RfG K cl k g b) (hc : RfB K cl E tf c) (he : RfZ K cl E te el) (gw : Grow K cl σ H0 F0 env B acc ys H F) (p : Rp K cl F d x)
  (h : Ct K cl E (PN K cl) (compD b c el (compE k js env) env (d :: ds) acc) σ H0 F0 env Q)
  (hP : ∀ acc' ys' H' F', Grow K cl σ H0 F0 env B acc' ys' H' F' → Ct K cl E (PN K cl) (compD b c el (compE k js env) env ds acc') σ H0 F0 env Q → Pv ys' H') :
  g x (compSt k js σ) H fun σ2 H2 => (σ2.drop k = (compSt k js σ).drop k ∧ σ2.length = (compSt k js σ).length) ∧ tf σ2 H2 fun t H3 =>
   if t = true then te σ2 H3 fun y H4 => H4 B = some (.lst ys) ∧ ys.length < sizeLine ∧ Pv (ys ++ [y]) (upd H4 B (.lst (ys ++ [y]))) else Pv ys H3 := by
 unfold compD at h
 have Rc : Rel K cl (compSt k js σ) H F (compE k js env) := gw.rel.comp nd
 split at h
 ·exact h.elim
 ·rename_i e1 hb
  refine hg x _ H _ d _ e1 F Rc p hb fun σ2 d2 l2 f2 R2 => ⟨⟨d2, l2⟩, ?_⟩
  have n1 : NoOw (compE k js env) := noow_comp
  -- ways out by an exception
  have exc : ∀ {H' F' : Hp} {σ' : St} {e' : DE} {H'' F'' : Hp} {n : XN}, Frm (compSt k js σ) H F (compE k js env) σ' H' F' e' → FX σ' H' F' e' H'' F'' → (∀ H' F', FX σ H0 F0 env H' F' → ∀ cx, Xf K cl F' n cx → E (.ref (cl n.nm)) cx H') → ∀ cx, Xf K cl F'' n cx → E (.ref (cl n.nm)) cx H'' := fun {H' F' σ' e' H'' F'' n} f fx q => by
   have gr : Gr H F H'' F'' := (f.fx fx).gr n1
   exact q _ _ (gw.frm.fx gr.fx)
  refine hc σ2 H _ e1 F R2 ?_
  cases hce : c e1 with
  | none => rw [hce] at h; exact h.elim
  | some rc =>
   rw [hce] at h
   cases rc with
   | ex n => exact fun H' F' fx => exc f2 fx h
   | ok t e2 =>
    intro t' H3 F3 f3 R3 ht
    have ht : t' = t := ht
    subst ht
    have h : Ct K cl E (PN K cl) (if t' = true then bnd (el e2) fun y _ => if acc.length < sizeLine then compD b c el (compE k js env) env ds (acc ++ [y]) else none else compD b c el (compE k js env) env ds acc) σ H0 F0 env Q := h
    have gr3 : Gr H F H3 F3 := (f2.trans f3).gr n1 R3.sub
    by_cases z : t' = true
    ·rw [if_pos z] at h ⊢
     refine he σ2 H3 _ e2 F3 R3 ?_
     cases hel : el e2 with
     | none => rw [hel] at h; exact h.elim
     | some re =>
      rw [hel] at h
      cases re with
      | ex n => exact fun H' F' fx => exc (f2.trans f3) fx h
      | ok y e3 =>
       intro v H4 F4 f4 R4 hv
       have h : Ct K cl E (PN K cl) (if acc.length < sizeLine then compD b c el (compE k js env) env ds (acc ++ [y]) else none) σ H0 F0 env Q := h
       split at h
       ·rename_i hlen
        have gr4 : Gr H F H4 F4 := ((f2.trans f3).trans f4).gr n1 R4.sub
        have gw4 := gw.gr gr4
        exact ⟨gw4.at_, by rw [← gw4.rps.length]; exact hlen, hP _ _ _ _ (gw4.push hv) h⟩
       ·exact h.elim
    ·rw [if_neg z] at h ⊢
     exact hP _ _ _ _ (gw.gr gr3) h
theorem comp_fin {b : GF} {c : BF} {el : ZF} {js : List Nat} {B : Addr} {acc : List D} {ys : List V} {H0 F0 : Hp} {Q : VK} (gw : Grow K cl σ H0 F0 env B acc ys H F) (h : Ct K cl E (PN K cl) (compD b c el (compE k js env) env [] acc) σ H0 F0 env Q) : Q (.ref B) H :=
 h _ H F gw.frm gw.rel ⟨B, ys, rfl, gw.new, gw.at_, gw.un, gw.far, gw.rps⟩
theorem compL {b : GF} {c : BF} {el : ZF} {g : TG} {tf : TT} {te : TE} {js : List Nat} {ds : List D} {xs : List V} {a B : Addr} {Q : VK} (nd : js.Nodup) (hg : RfG K cl k g b) (hc : RfB K cl E tf c) (he : RfZ K cl E te el) (R : Rel K cl σ H F env) (hB : H B = none)
  (hl : ∀ H' F', Same F F' → Same F' H' → (∀ a o, H a = some o → F a = none → ∀ (m : NT o := by first | assumption | exact nt_lst | exact nt_dkO | exact nt_frz), H' a = some o ∧ F' a = none) → SqL K H' a xs) (r : Rps K cl F ds xs) (h : Ct K cl E (PN K cl) (compD b c el (compE k js env) env ds []) σ H F env Q) :
  tCompR (Itl K a) g tf te k (compSt k js σ) B (fun H' => Q (.ref B) H') H := by
 refine comp_list (xs := xs) (fun i ys H' => ∃ F' acc, Grow K cl σ H F env B acc ys H' F' ∧ Ct K cl E (PN K cl) (compD b c el (compE k js env) env (ds.drop i) acc) σ H F env Q) ⟨F, [], .start R hB, h⟩ (fun i ys H' _ ⟨F', acc, gw, _⟩ => hl H' F' gw.frm.fz gw.rel.sub (fun a o h f m => gw.stay a o h f m)) (fun i x ys H' hx ⟨F', acc, gw, h'⟩ => ?_) (fun ys H' ⟨F', acc, gw, h'⟩ => ?_)
 ·obtain ⟨d, hd, p⟩ := r.get' hx
  rw [drop_cons hd] at h'
  exact comp_turn (Pv := fun ys' H2 => ∃ F' acc, Grow K cl σ H F env B acc ys' H2 F' ∧ Ct K cl E (PN K cl) (compD b c el (compE k js env) env (ds.drop (i + 1)) acc) σ H F env Q) nd hg hc he gw (Rp.mono gw.frm.fz _ _ p) h' fun acc' ys' H2 F2 gw2 h2 => ⟨F2, acc', gw2, h2⟩
 ·rw [← r.length, List.drop_length] at h'
  exact comp_fin gw h'
theorem compRg {b : GF} {c : BF} {el : ZF} {g : TG} {tf : TT} {te : TE} {js : List Nat} {lo : Int} {n : Nat} {B : Addr} {Q : VK} (nd : js.Nodup) (hg : RfG K cl k g b) (hc : RfB K cl E tf c) (he : RfZ K cl E te el) (R : Rel K cl σ H F env) (hB : H B = none)
  (h : Ct K cl E (PN K cl) (compD b c el (compE k js env) env (rngD lo n) []) σ H F env Q) :
  tCompR (Itr lo n) g tf te k (compSt k js σ) B (fun H' => Q (.ref B) H') H := by
 refine comp_range (fun i ys H' => ∃ F' acc, Grow K cl σ H F env B acc ys H' F' ∧ Ct K cl E (PN K cl) (compD b c el (compE k js env) env ((rngD lo n).drop i) acc) σ H F env Q) ⟨F, [], .start R hB, h⟩ (fun i ys H' hx ⟨F', acc, gw, h'⟩ => ?_) (fun ys H' ⟨F', acc, gw, h'⟩ => ?_)
 ·rw [rngD_drop hx] at h'
  exact comp_turn (Pv := fun ys' H2 => ∃ F' acc, Grow K cl σ H F env B acc ys' H2 F' ∧ Ct K cl E (PN K cl) (compD b c el (compE k js env) env ((rngD lo n).drop (i + 1)) acc) σ H F env Q) nd hg hc he gw (by simp only [Rp]) h' fun acc' ys' H2 F2 gw2 h2 => ⟨F2, acc', gw2, h2⟩
 ·rw [show (rngD lo n).drop n = [] from List.drop_eq_nil_of_le (by rw [rngD_len]; exact Nat.le_refl _)] at h'
  exact comp_fin gw h'
def bTrue : BF := fun e => some (.ok true e)
theorem rf_bTrue : RfB K cl E tTrue bTrue := fun σ H Q env F R h => h true H F Frm.refl R rfl
def nComp (k : Nat) (js : List Nat) (f : ZF) (b : GF) (c : BF) (el : ZF) : NF := fun e => bnd (f e) fun d e1 => match seqL d with
 | none => none
 | some ds => compD b c el (compE k js e1) e1 ds []
def nCompV (i : Nat) (k : Nat) (js : List Nat) (b : GF) (c : BF) (el : ZF) : NF := fun e => match look e i with
 | some d => (match seqL d with
  | none => none
  | some ds => compD b c el (compE k js e) e ds [])
 | none => none
def nCompR (rg : List D → Option (Int × Nat)) (k : Nat) (js : List Nat) (f : AF) (b : GF) (c : BF) (el : ZF) : NF := fun e => bnd (f e) fun ds e1 => match rg ds with
 | none => none
 | some (lo, n) => compD b c el (compE k js e1) e1 (rngD lo n) []
theorem rf_Comp {t : TE} {g : TG} {tf : TT} {te : TE} {js : List Nat} {f : ZF} {b : GF} {c : BF} {el : ZF} (nd : js.Nodup) (hf : RfZ K cl E t f) (hg : RfG K cl k g b) (hc : RfB K cl E tf c) (he : RfZ K cl E te el) : RfN K cl E (tComp (iList K t) g tf te k js) (nComp k js f b c el) := by
 intro σ H Q env F R h
 refine hf σ H _ env F R ((Ct.bnd h pm_N).mono fun x H1 ⟨F1, e1, d, s1, R1, p1, h1⟩ => ?_)
 split at h1
 ·exact h1.elim
 ·rename_i ds hs
  obtain ⟨a, xs, rfl, r, hl⟩ := Rp.seqL p1 hs
  exact ⟨a, rfl, ⟨xs, hl H1 R1.sub⟩, fun B hB => compL nd hg hc he R1 hB (fun H' F' f2 s2 _ => hl H' (f2.trans s2)) r h1⟩
theorem rf_CompV {i : Nat} {g : TG} {tf : TT} {te : TE} {js : List Nat} {b : GF} {c : BF} {el : ZF} (nd : js.Nodup) (hg : RfG K cl k g b) (hc : RfB K cl E tf c) (he : RfZ K cl E te el) : RfN K cl E (tComp (iList K (tVar i)) g tf te k js) (nCompV i k js b c el) := by
 intro σ H Q env F R h
 unfold nCompV look at h
 cases q : env[i]? with
 | none => rw [q] at h; exact h.elim
 | some s =>
  rw [q] at h
  cases s with
  | no => exact h.elim
  | od _ _ => exact h.elim
  | nk _ _ => exact h.elim
  | hk _ _ => exact h.elim
  | fz d =>
   have h : Ct K cl E (PN K cl) (match seqL d with
    | none => none
    | some ds => compD b c el (compE k js env) env ds []) σ H F env Q := h
   split at h
   ·exact h.elim
   ·rename_i ds hs
    obtain ⟨v, e, p⟩ := R.fz i d q
    obtain ⟨a, xs, rfl, r, hl⟩ := Rp.seqL p hs
    exact ⟨_, e, a, rfl, ⟨xs, hl H R.sub⟩, fun B hB => compL nd hg hc he R hB (fun H' F' f2 s2 _ => hl H' (f2.trans s2)) r h⟩
  | ow ds =>
   have h : Ct K cl E (PN K cl) (compD b c el (compE k js env) env ds []) σ H F env Q := h
   obtain ⟨a, xs, e, hH, hF, r⟩ := R.mu i ds (.inl q)
   exact ⟨_, e, a, rfl, ⟨xs, .of hH⟩, fun B hB => compL nd hg hc he R hB (fun H' F' _ _ st => .of (st a _ hH hF).1) r h⟩
  | hd ds =>
   have h : Ct K cl E (PN K cl) (compD b c el (compE k js env) env ds []) σ H F env Q := h
   obtain ⟨a, xs, e, hH, hF, r⟩ := R.mu i ds (.inr q)
   exact ⟨_, e, a, rfl, ⟨xs, .of hH⟩, fun B hB => compL nd hg hc he R hB (fun H' F' _ _ st => .of (st a _ hH hF).1) r h⟩
theorem rf_CompR1 {t : TA} {g : TG} {tf : TT} {te : TE} {js : List Nat} {f : AF} {b : GF} {c : BF} {el : ZF} (nd : js.Nodup) (hf : RfA K cl E t f) (hg : RfG K cl k g b) (hc : RfB K cl E tf c) (he : RfZ K cl E te el) : RfN K cl E (tComp (iRng1 t) g tf te k js) (nCompR rng1 k js f b c el) := by
 intro σ H Q env F R h
 refine hf σ H _ env F R ((Ct.bnd h pm_N).mono fun x H1 ⟨F1, e1, ds, s1, R1, p1, h1⟩ => ?_)
 split at h1
 ·exact h1.elim
 ·rename_i lo n hs
  obtain ⟨j, e, c1, c2, rfl, rfl⟩ := rng1_of hs p1
  exact ⟨j, e, c1, c2, fun B hB => compRg nd hg hc he R1 hB h1⟩
theorem rf_SetComp {i : Nat} {wi : TI} {g : TG} {tf : TT} {te : TE} {js : List Nat} {f : NF} (h : RfN K cl E (tComp wi g tf te k js) f) : RfS K cl E (tCompSet i wi g tf te k js) (sSetN i f) := fun N σ H env F R q => rf_SetN h N σ H env F R q
end
def fD (n m : Nat) (body : SF) (ds : List D) : Option R1 := if ds.length = m then (match body (ds.map .fz ++ List.replicate (n - ds.length) .no) with
 | some (.nx _) => some (.ret .non)
 | some (.rt d) => some (.ret d)
 | some (.ro es) => some (.own es)
 | some (.rz dss) => some (.owz dss)
 | some (.rp n es) => some (.owp n es)
 | some (.ex c) => some (.ex c)
 | _ => none) else none
section
variable {P : Program} {w : World} {K : W.Frag} {mg : Str → Option Value} {base : Heap} {cl : Str → Addr}
theorem start_rel {N : List Str} {vs : List V} {ds : List D} {H F : Hp} (s : Same F H) (p : Rps K cl F ds vs) : Rel K cl (start N vs) H F (ds.map .fz ++ List.replicate (N.length - ds.length) .no) ∧ NoOw (ds.map .fz ++ List.replicate (N.length - ds.length) .no) := by
 have key : ∀ (i : Nat) (t : Sl), (ds.map Sl.fz ++ List.replicate (N.length - ds.length) .no)[i]? = some t → t ≠ .no → ∃ d, ds[i]? = some d ∧ t = .fz d := fun i t q n => by
  by_cases z : i < ds.length
  ·rw [List.getElem?_append_left (by rw [List.length_map]; exact z), List.getElem?_map] at q
   cases hd : ds[i]? with
   | none => rw [hd] at q; cases q
   | some d => rw [hd] at q; cases q; exact ⟨d, rfl, rfl⟩
  ·rw [List.getElem?_append_right (by rw [List.length_map]; omega), List.getElem?_replicate] at q
   split at q
   ·cases q; exact absurd rfl n
   ·cases q
 have no : NoOw (ds.map .fz ++ List.replicate (N.length - ds.length) .no) := fun i es oo q => by
  obtain ⟨d, _, z⟩ := key i _ q (fun z => by subst z; exact oo)
  subst z; exact oo
 refine ⟨⟨s, ?_, fun i d q => ?_, fun i es q => ?_, fun i j b ⟨es, q⟩ _ _ _ => ?_, .none (fun j s ks ds q d => by obtain ⟨_, _, rfl⟩ := key j s q (fun z => by subst z; exact d); exact d) fun j p d q => (by obtain ⟨_, _, z⟩ := key j _ q (fun z => by cases z); cases z)⟩, no⟩
 ·unfold start
  rw [List.length_append, List.length_append, List.length_map, List.length_map, List.length_replicate, List.length_replicate, p.length]
 ·obtain ⟨d', hd, z⟩ := key i _ q (fun z => by cases z)
  cases z
  obtain ⟨v, hv, r⟩ := p.get hd
  refine ⟨v, ?_, r⟩
  unfold start
  rw [List.getElem?_append_left (by rw [List.length_map]; exact (List.getElem?_eq_some_iff.mp hv).1), List.getElem?_map, hv]; rfl
 ·rcases q with q | q
  ·obtain ⟨d, _, z⟩ := key i _ q (fun z => by cases z); cases z
  ·obtain ⟨d, _, z⟩ := key i _ q (fun z => by cases z); cases z
 ·rcases q with q | q
  ·obtain ⟨d, _, z⟩ := key i _ q (fun z => by cases z); cases z
  ·obtain ⟨d, _, z⟩ := key i _ q (fun z => by cases z); cases z
theorem spD_len {n m : Nat} {body : SF} {vs : List V} {H : Hp} {Q : VK} {E : XK} (h : spD K cl (fD n m body) vs H Q E) : vs.length = m := by
 obtain ⟨ds, F, s, p, h⟩ := h
 unfold fD at h
 by_cases z : ds.length = m
 ·rw [← p.length]; exact z
 ·rw [if_neg z] at h; exact h.elim
theorem body_reads {N : List Str} {m : Nat} {body : SF} {t : TS} {vs : List V} {H : Hp} {Q : VK} {E : XK} (hb : RfS K cl E t body) (h : spD K cl (fD N.length m body) vs H Q E) : t { nx := fun _ H' => Q .non H', rt := Q } (start N vs) H := by
 obtain ⟨ds, F, s, p, h⟩ := h
 obtain ⟨R, no⟩ := start_rel (N := N) s p
 refine hb _ _ H _ F R ?_
 unfold fD at h
 by_cases z : ds.length = m
 ·rw [if_pos z] at h
  cases r : body (ds.map .fz ++ List.replicate (N.length - ds.length) .no) with
  | none => rw [r] at h; exact h.elim
  | some rs =>
   rw [r] at h
   cases rs with
   | nx e => exact fun σ' H' F' f R' => h .non H' F' (f.gr no R'.sub) (by simp only [Rp])
   | rt d => exact fun v H' F' x q => h v H' F' (x.gr no) q
   | ro es =>
    refine fun a xs H' F' x ha fa nw q => h a xs H' F' (x.gr no) ?_ ha fa q
    cases e : H a with
    | none => rfl
    | some o => exact absurd (nw o e) no.not
   | rz dss =>
    refine fun p as H' F' x hp ht fp rz => h p as H' F' (x.gr no) hp ht fp (rz.imp fun a xs ha fa nw => ?_)
    cases e : H a with
    | none => rfl
    | some o => exact absurd (nw o e) no.not
   | rp n es =>
    refine fun p a xs H' F' x hp ht fp ha fa nw q => h p a xs H' F' (x.gr no) hp ht fp ?_ ha fa q
    cases e : H a with
    | none => rfl
    | some o => exact absurd (nw o e) no.not
   | bk e => exact h.elim
   | ct e => exact h.elim
   | ex c => exact fun H' F' x => h H' F' (x.gr no)
 ·rw [if_neg z] at h; exact h.elim
theorem Fun.okD {x qual : Str} {st : Stmt} {f : Addr} {fd : FuncData} {N ps : List Str} {k : Nat} {body : SF} (F : Fun K x qual st f fd) (S : FnScope N ps (defScope st))
  (hbody : ∀ (cdv : Value) (A : Around) (outer : List Env) (s : Shared) (H : Hp) (E : XK), Room k (A.deeper (envOfC qual (defScope st) s.heap.objs.size f cdv)) →
   ∃ t, PSs (cxOf (CXe P w) P w K mg base N qual (defScope st) f cdv A outer s H E) (defBody st) t ∧ RfS K cl E t body) : FnOk P w K mg base (CXe P w) (k + 1) f fd ps (spD K cl (fD N.length ps.length body)) :=
 F.okE S (fun vs H Q E h => spD_len h) fun cdv A outer s H vs Q E hr h => by
  obtain ⟨t, h1, h2⟩ := hbody cdv A outer s H E hr
  exact ⟨t, h1, body_reads h2 h⟩
theorem FunD.okD {x qual : Str} {st : Stmt} {dT f : Addr} {fd : FuncData} {N ps : List Str} {k : Nat} {body : SF} (F : FunD K x qual st dT f fd) (S : FnScope N ps (defScope st))
  (hbody : ∀ (cdv : Value) (A : Around) (outer : List Env) (s : Shared) (H : Hp) (E : XK), Room k (A.deeper (envOfC qual (defScope st) s.heap.objs.size f cdv)) →
   ∃ t, PSs (cxOf (CXe P w) P w K mg base N qual (defScope st) f cdv A outer s H E) (defBody st) t ∧ RfS K cl E t body) : FnOk P w K mg base (CXe P w) (k + 1) f fd ps (spD K cl (fD N.length ps.length body)) :=
 F.okE S (fun vs H Q E h => spD_len h) fun cdv A outer s H vs Q E hr h => by
  obtain ⟨t, h1, h2⟩ := hbody cdv A outer s H E hr
  exact ⟨t, h1, body_reads h2 h⟩
theorem spD_law {g : List D → Option R1} {vs : List V} {H : Hp} {Q : VK} {E : XK} {a : Addr} {ns : List Int} (e : vs = [.ref a]) (h : Scr K H a (ns.map V.int)) (q : ∀ H', Q (.bl true) H') (m : g [.scr ns] = some (.ret (.bl true))) : spD K cl g vs H Q E := by
 refine ⟨[.scr ns], H, Same.refl _, ?_, ?_⟩
 ·rw [e]; exact .one (by simp only [Rp]; exact ⟨a, rfl, h⟩)
 ·rw [m]
  intro v H' F' _ p
  have p : Rp K cl F' (.bl true) v := p
  simp only [Rp] at p
  rw [p]; exact q H'
def tyN : D → Option String
 | .non => some "NoneType"
 | .bl _ => some "bool"
 | .int _ => some "int"
 | .str _ => some "str"
 | .lst _ => some "list"
 | .tup _ => some "tuple"
 | _ => none
theorem kit_tab {K : W.Frag} (t n : String) (ht : t ∈ ["NoneType", "bool", "int", "str", "list", "tuple"]) (hn : n ∈ ["bool", "int", "str", "list", "tuple"]) : W.kitOne K (.type t) (.type n) = some (t == n || (t == "bool" && n == "int")) := by
 simp only [List.mem_cons, List.not_mem_nil, or_false] at ht hn
 rcases ht with rfl | rfl | rfl | rfl | rfl | rfl <;> rcases hn with rfl | rfl | rfl | rfl | rfl <;> first | rfl | with_unfolding_all rfl
def gIsi : List D → Option D
 | [d, .ty n] => match tyN d with
  | some t => if n ∈ ["bool", "int", "str", "list", "tuple"] then some (.bl (t == n || (t == "bool" && n == "int"))) else none
  | none => none
 | _ => none
theorem tyN_mem {d : D} {t : String} (h : tyN d = some t) : t ∈ ["NoneType", "bool", "int", "str", "list", "tuple"] := by
 cases d <;> cases h <;> decide
theorem tyN_of {F H : Hp} {d : D} {t : String} {v : V} (s : Same F H) (p : Rp K cl F d v) (h : tyN d = some t) : TyX K H v (.type t) := by
 cases d <;> cases h <;> simp only [Rp] at p
 ·subst p; exact .of .non
 ·subst p; exact .of (.bl _)
 ·subst p; exact .of (.int _)
 ·subst p; exact .of (.str _)
 ·obtain ⟨a, xs, rfl, h, _⟩ := p; exact .of (.tup (s _ _ h))
 ·obtain ⟨a, xs, rfl, h, _⟩ := p; exact .of (.lst (s _ _ h))
def gIsiV (n : String) (d : D) : Option D := match tyN d with
 | some t => if n ∈ ["bool", "int", "str", "list", "tuple"] then some (.bl (t == n || (t == "bool" && n == "int"))) else none
 | none => none
def eIsiV (i : Nat) (n : String) : ZF := fun e => match look e i with
 | some d => opt (gIsiV n d) e
 | none => none
theorem rf_IsiV {E : XK} {i : Nat} {n : String} {t : TE} (ht : t = tC (.ty n) := by rfl) : RfZ K cl E (tCB (rIsi K) (tCons (tVar i) (tCons t tNil))) (eIsiV i n) := by
 subst ht
 intro σ H Q env F R h
 unfold eIsiV at h
 cases q : look env i with
 | none => rw [q] at h; exact h.elim
 | some d =>
  rw [q] at h
  obtain ⟨x, e, rb⟩ := R.look q
  refine ⟨x, e, ?_⟩
  cases hz : gIsiV n d with
  | none => simp only [hz, opt_none] at h; exact h.elim
  | some z =>
   simp only [hz, opt_some] at h
   unfold gIsiV at hz
   split at hz
   ·rename_i t ht
    split at hz
    ·rename_i hn; cases hz
     refine ⟨x, _, _, _, _, rfl, rfl, ?_, kit_tab t n (tyN_mem ht) hn, h _ H F Frm.refl R (by show Rp K cl F (.bl _) _; simp only [Rp])⟩
     rcases rb with p | ⟨a, xs, ds, rfl, rfl, hH, _⟩
     ·exact tyN_of R.sub p ht
     ·cases ht; exact .of (.lst hH)
    ·cases hz
   ·cases hz
end
section
variable {α β : Type}
def seqR (r : Option RS) (k : SF) : Option RS := match r with
 | some (.nx e) => k e
 | r => r
theorem sSeq_eq {f k : SF} {e : DE} : sSeq f k e = seqR (f e) k := rfl
theorem seqR_nx {e : DE} {k : SF} : seqR (some (.nx e)) k = k e := rfl
theorem seqR_rt {d : D} {k : SF} : seqR (some (.rt d)) k = some (.rt d) := rfl
theorem seqR_ro {d : List D} {k : SF} : seqR (some (.ro d)) k = some (.ro d) := rfl
theorem seqR_ex {d : XN} {k : SF} : seqR (some (.ex d)) k = some (.ex d) := rfl
theorem seqR_bk {e : DE} {k : SF} : seqR (some (.bk e)) k = some (.bk e) := rfl
theorem seqR_ct {e : DE} {k : SF} : seqR (some (.ct e)) k = some (.ct e) := rfl
theorem seqR_no {k : SF} : seqR none k = none := rfl
theorem seqR_ite {c : Prop} [Decidable c] {a b : Option RS} {k : SF} : seqR (if c then a else b) k = if c then seqR a k else seqR b k := by split <;> rfl
theorem toZ_ret {d : D} {e : DE} : toZ (some (.ret d)) e = some (.ok d e) := rfl
theorem toZ_own {d : List D} {e : DE} : toZ (some (.own d)) e = some (.ok (.lst d) e) := rfl
theorem toZ_ex {d : XN} {e : DE} : toZ (some (.ex d)) e = some (.ex d) := rfl
theorem toZ0_ret {d : D} {e : DE} : toZ0 (some (.ret d)) e = some (.ok d e) := rfl
theorem toZ0_own {d : List D} {e : DE} : toZ0 (some (.own d)) e = some (.ok (.lst d) e) := rfl
theorem toSet_ret {i : Nat} {d : D} {e : DE} : toSet i (some (.ret d)) e = put i (.fz d) e := rfl
theorem toSet_own {i : Nat} {d : List D} {e : DE} : toSet i (some (.own d)) e = put i (.ow d) e := rfl
theorem toSet_ex {i : Nat} {d : XN} {e : DE} : toSet i (some (.ex d)) e = some (.ex d) := rfl
theorem toSet0_ret {i : Nat} {d : D} {e : DE} : toSet0 i (some (.ret d)) e = put i (.fz d) e := rfl
theorem toSet0_own {i : Nat} {d : List D} {e : DE} : toSet0 i (some (.own d)) e = put i (.ow d) e := rfl
theorem toRet_ret {d : D} : toRet (some (.ret d)) = some (.rt d) := rfl
theorem toRet_own {d : List D} : toRet (some (.own d)) = some (.ro d) := rfl
theorem toRet_ex {d : XN} : toRet (some (.ex d)) = some (.ex d) := rfl
def finR (r : Option RS) : Option R1 := match r with
 | some (.nx _) => some (.ret .non)
 | some (.rt d) => some (.ret d)
 | some (.ro es) => some (.own es)
 | some (.rz dss) => some (.owz dss)
 | some (.rp n es) => some (.owp n es)
 | some (.ex c) => some (.ex c)
 | _ => none
theorem fD_eq {n m : Nat} {body : SF} {ds : List D} (h : ds.length = m) : fD n m body ds = finR (body (ds.map .fz ++ List.replicate (n - m) .no)) := by
 unfold fD; rw [if_pos h, h]; rfl
theorem finR_nx {e : DE} : finR (some (.nx e)) = some (.ret .non) := rfl
theorem finR_rt {d : D} : finR (some (.rt d)) = some (.ret d) := rfl
theorem finR_rz {d : List (List D)} : finR (some (.rz d)) = some (.owz d) := rfl
theorem seqR_rz {d : List (List D)} {k : SF} : seqR (some (.rz d)) k = some (.rz d) := rfl
theorem toRet_owz {d : List (List D)} : toRet (some (.owz d)) = some (.rz d) := rfl
theorem finR_ro {d : List D} : finR (some (.ro d)) = some (.own d) := rfl
theorem finR_ex {d : XN} : finR (some (.ex d)) = some (.ex d) := rfl
theorem finR_ite {c : Prop} [Decidable c] {a b : Option RS} : finR (if c then a else b) = if c then finR a else finR b := by split <;> rfl
def forK (r : Option RS) (k : SF) : Option RS := match r with
 | some (.nx e) => k e
 | some (.ct e) => k e
 | some (.bk e) => some (.nx e)
 | r => r
theorem forK_nx {e : DE} {k : SF} : forK (some (.nx e)) k = k e := rfl
theorem forK_ct {e : DE} {k : SF} : forK (some (.ct e)) k = k e := rfl
theorem forK_bk {e : DE} {k : SF} : forK (some (.bk e)) k = some (.nx e) := rfl
theorem forK_rt {d : D} {k : SF} : forK (some (.rt d)) k = some (.rt d) := rfl
theorem forK_rz {d : List (List D)} {k : SF} : forK (some (.rz d)) k = some (.rz d) := rfl
theorem forK_ro {d : List D} {k : SF} : forK (some (.ro d)) k = some (.ro d) := rfl
theorem forK_ex {d : XN} {k : SF} : forK (some (.ex d)) k = some (.ex d) := rfl
theorem forD_nil {b : GF} {body : SF} {e : DE} : forD b body [] e = some (.nx e) := rfl
def optR (x : Option DE) (k : SF) : Option RS := match x with
 | none => none
 | some e => k e
theorem forD_step {b : GF} {body : SF} {d : D} {ds : List D} {e : DE} : forD b body (d :: ds) e = optR (b d e) fun e1 => forK (body e1) (forD b body ds) := by
 rw [forD]; cases b d e <;> rfl
theorem optR_some {e : DE} {k : SF} : optR (some e) k = k e := rfl
theorem gAdd_eq (a b : Int) : gAdd (.int a) (.int b) = some (.int (a + b)) := rfl
theorem gSub_eq (a b : Int) : gSub' (.int a) (.int b) = some (.int (a - b)) := rfl
theorem gLt_eq (a b : Int) : gLt (.int a) (.int b) = some (.bl (decide (a < b))) := rfl
theorem gLe_eq (a b : Int) : gLe (.int a) (.int b) = some (.bl (decide (a ≤ b))) := rfl
theorem gGt_eq (a b : Int) : gGt (.int a) (.int b) = some (.bl (decide (b < a))) := rfl
theorem gGe_eq (a b : Int) : gGe (.int a) (.int b) = some (.bl (decide (b ≤ a))) := rfl
theorem gMul_eq {a b : Int} (h : IntMulOk a b) : gMul (.int a) (.int b) = some (.int (a * b)) := by show (if _ then _ else _) = _; rw [if_pos h]
theorem gDiv_eq {a b : Int} (h : 0 < b ∧ b.natAbs.log2 < 9000) : gDiv (.int a) (.int b) = some (.int (a / b)) := by show (if _ then _ else _) = _; rw [if_pos h]
theorem gMod_eq {a b : Int} (h : 0 < b) : gMod (.int a) (.int b) = some (.int (a % b)) := by show (if _ then _ else _) = _; rw [if_pos h]
theorem gPow_eq {a b : Int} (h : CPow a b) : gPow (.int a) (.int b) = some (.int (a ^ b.toNat)) := by show (if _ then _ else _) = _; rw [if_pos h]
end
theorem mul_small {a b : Int} (h : a.natAbs < 2 ^ 64) : IntMulOk a b := IntMulOk.of_left (intBits_le_64 (by omega) (by omega))
theorem mul_small' {a b : Int} (h : b.natAbs < 2 ^ 64) : IntMulOk a b := IntMulOk.of_right (intBits_le_64 (by omega) (by omega))
theorem gMul_l {a b : Int} (h : a.natAbs < 2 ^ 64) : gMul (.int a) (.int b) = some (.int (a * b)) := gMul_eq (mul_small h)
theorem gMul_r {a b : Int} (h : b.natAbs < 2 ^ 64) : gMul (.int a) (.int b) = some (.int (a * b)) := gMul_eq (mul_small' h)
section
variable {α : Type}
theorem atI_0 {a : α} {l : List α} : atI (a :: l) 0 = some a := by unfold atI ixN; simp
theorem atI_s {a : α} {l : List α} {n : Nat} : atI (a :: l) ((n : Int) + 1) = atI l n := by
 unfold atI ixN
 have h1 : (0 : Int) ≤ (n : Int) + 1 := by omega
 have h2 : (0 : Int) ≤ (n : Int) := by omega
 rw [if_pos h1, if_pos h2]
 by_cases z : (n : Int) < (l.length : Int)
 ·rw [if_pos z, if_pos (by rw [List.length_cons]; push_cast; omega)]
  show (a :: l)[((n : Int) + 1).toNat]? = l[((n : Int)).toNat]?
  rw [show ((n : Int) + 1).toNat = n + 1 by omega, show ((n : Int)).toNat = n by omega]
  rfl
 ·rw [if_neg z, if_neg (by rw [List.length_cons]; push_cast; omega)]
  rfl
theorem atI_1 {a b : α} {l : List α} : atI (a :: b :: l) 1 = some b := (atI_s (n := 0)).trans atI_0
theorem atI_2 {a b c : α} {l : List α} : atI (a :: b :: c :: l) 2 = some c := (atI_s (n := 1)).trans atI_1
end
def cellAt (ns : List Int) (k : Int) : Int := ns.getD k.toNat 0
theorem cell_eq {ns : List Int} {k : Int} (hk : 0 ≤ k) : (if k < (ns.length : Int) then (match atI ns k with
  | none => none
  | some n => some (R1.ret (D.int n))) else some (R1.ret (D.int 0))) = some (R1.ret (D.int (cellAt ns k))) := by
 unfold cellAt
 by_cases z : k < (ns.length : Int)
 ·rw [if_pos z]
  have h : k.toNat < ns.length := by omega
  have e : atI ns k = some ns[k.toNat] := by
   unfold atI ixN
   rw [if_pos hk, if_pos z]
   exact List.getElem?_eq_getElem h
  rw [e, List.getD_eq_getElem?_getD, List.getElem?_eq_getElem h]; rfl
 ·rw [if_neg z, List.getD_eq_getElem?_getD, List.getElem?_eq_none (by omega)]; rfl
theorem rng1_eq {j : Int} (h : -(2 ^ 62) ≤ j ∧ j < 2 ^ 62) : rng1 [.int j] = some (0, j.toNat) := by
 show (if _ then _ else _) = _
 rw [if_pos h]
section
variable {K : W.Frag} {cl : Str → Addr} {E : XK} {σ : St} {H F : Hp} {env : DE} {k : Nat}
def oN : OF := fun e => some (.ok none e)
def oS (f : ZF) : OF := fun e => bnd (f e) fun d e1 => match d with
 | .int i => some (.ok (some i) e1)
 | _ => none
theorem rf_oN : RfO K cl E tNoPart oN := fun σ H Q env F R h => h none H F Frm.refl R rfl
theorem rf_oS {t : TE} {f : ZF} (hf : RfZ K cl E t f) : RfO K cl E (tPart t) (oS f) := by
 intro σ H Q env F R h
 refine hf σ H _ env F R ((Ct.bnd h pm_I).mono fun x H1 ⟨F1, e1, d, s1, R1, p1, h1⟩ => ?_)
 split at h1
 ·rename_i i
  have : x = .int i := by have := (show Rp K cl F1 (.int i) x from p1); simpa only [Rp] using this
  exact ⟨i, this, h1 _ H1 F1 Frm.refl R1 rfl⟩
 ·exact h1.elim
def cutD (xs : List D) (lo hi : Option Int) : List D := (xs.drop (HT.sIx xs.length 0 lo)).take (HT.sIx xs.length xs.length hi - HT.sIx xs.length 0 lo)
theorem Rps.cut {ds : List D} {xs : List V} (h : Rps K cl F ds xs) (lo hi : Option Int) : Rps K cl F (cutD ds lo hi) (cutV xs lo hi) := by
 unfold cutD cutV
 rw [h.length]
 exact (h.drop _).take _
def nSl (f : ZF) (l u : OF) : NF := fun e => bnd (f e) fun d e1 => bnd (l e1) fun lo e2 => bnd (u e2) fun hi e3 => match seqL d with
 | some ds => some (.ok (cutD ds lo hi) e3)
 | none => none
def nSlV (i : Nat) (l u : OF) : NF := fun e => match look e i with
 | none => none
 | some _ => bnd (l e) fun lo e2 => bnd (u e2) fun hi e3 => match look e3 i with
  | some d => (match seqL d with
   | some ds => some (.ok (cutD ds lo hi) e3)
   | none => none)
  | none => none
theorem rf_Sl {t : TE} {tl tu : TO} {f : ZF} {l u : OF} (hf : RfZ K cl E t f) (hl : RfO K cl E tl l) (hu : RfO K cl E tu u) : RfN K cl E (tSl (rSlL K) t tl tu) (nSl f l u) := by
 intro σ H Q env F R h
 refine hf σ H _ env F R ((Ct.bnd h pm_N).mono fun x H1 ⟨F1, e1, d, s1, R1, p1, h1⟩ => ?_)
 refine hl σ H1 _ e1 F1 R1 ((Ct.bnd h1 pm_N).mono fun lo H2 ⟨F2, e2, lo', s2, R2, p2, h2⟩ => ?_)
 refine hu σ H2 _ e2 F2 R2 ((Ct.bnd h2 pm_N).mono fun hi H3 ⟨F3, e3, hi', s3, R3, p3, h3⟩ => ?_)
 cases (show lo = lo' from p2)
 cases (show hi = hi' from p3)
 split at h3
 ·rename_i ds hs
  obtain ⟨a, xs, rfl, r, hq⟩ := Rp.seqL (Rp.mono (s2.trans s3) _ _ p1) hs
  exact ⟨a, xs, rfl, hq H3 R3.sub, fun p hp => Ct.newN R3 hp (r.cut _ _) h3⟩
 ·exact h3.elim
theorem Rb.seqL {d : D} {ds : List D} {v : V} (s : Same F H) (p : Rb K cl F H d v) (q : L2.seqL d = some ds) : ∃ a xs, v = .ref a ∧ Rps K cl F ds xs ∧ SqL K H a xs := by
 rcases p with p | ⟨a, xs, es, e, rfl, h, r⟩
 ·obtain ⟨a, xs, e, r, l⟩ := Rp.seqL p q; exact ⟨a, xs, e, r, l H s⟩
 ·cases q; exact ⟨a, xs, e, r, .of h⟩
theorem rf_SlV {i : Nat} {tl tu : TO} {l u : OF} (hl : RfO K cl E tl l) (hu : RfO K cl E tu u) : RfN K cl E (tSl (rSlL K) (tVar i) tl tu) (nSlV i l u) := by
 intro σ H Q env F R h
 unfold nSlV at h
 cases q : look env i with
 | none => rw [q] at h; exact h.elim
 | some d0 =>
  rw [q] at h
  obtain ⟨x, e0, _⟩ := R.look q
  refine ⟨x, e0, ?_⟩
  refine hl σ H _ env F R ((Ct.bnd h pm_N).mono fun lo H2 ⟨F2, e2, lo', s2, R2, p2, h2⟩ => ?_)
  refine hu σ H2 _ e2 F2 R2 ((Ct.bnd h2 pm_N).mono fun hi H3 ⟨F3, e3, hi', s3, R3, p3, h3⟩ => ?_)
  cases (show lo = lo' from p2)
  cases (show hi = hi' from p3)
  cases q2 : look e3 i with
  | none => simp only [q2] at h3; exact h3.elim
  | some d =>
   simp only [q2] at h3
   obtain ⟨x', e', rb⟩ := R3.look q2
   rw [e0] at e'; cases e'
   split at h3
   ·rename_i ds hs
    obtain ⟨a, xs, rfl, r, hq⟩ := rb.seqL R3.sub hs
    exact ⟨a, xs, rfl, hq, fun p hp => Ct.newN R3 hp (r.cut _ _) h3⟩
   ·exact h3.elim
end
def optB (x : Option DE) (k : DE → Option (R (List D))) : Option (R (List D)) := match x with
 | none => none
 | some e => k e
theorem optB_some {e : DE} {k : DE → Option (R (List D))} : optB (some e) k = k e := rfl
theorem compD_nil {b : GF} {c : BF} {el : ZF} {ec eo : DE} {acc : List D} : compD b c el ec eo [] acc = some (.ok acc eo) := rfl
theorem compD_cons {b : GF} {c : BF} {el : ZF} {ec eo : DE} {d : D} {ds acc : List D} : compD b c el ec eo (d :: ds) acc = optB (b d ec) fun e1 => bnd (c e1) fun t e2 => if t = true then bnd (el e2) fun y _ => if acc.length < sizeLine then compD b c el ec eo ds (acc ++ [y]) else none else compD b c el ec eo ds acc := by
 rw [compD]; cases b d ec <;> rfl
section
variable {K : W.Frag} {cl : Str → Addr} {E : XK} {σ : St} {H F : Hp} {env : DE} {k : Nat}
def inD (d : D) (es : List D) : Bool := es.any fun e => eqD e d
theorem Rps.inV {d : D} {v : V} (p : Rp K cl F d v) (f : flatD d = true) : ∀ {es : List D} {us : List V}, Rps K cl F es us → es.all flatD = true → L2.inV v us = inD d es
 | [], _, h, _ => by rw [h.inv0]; rfl
 | e :: es, _, h, fe => by
  obtain ⟨u, r, rfl, h1, h2⟩ := h.inv
  rw [List.all_cons, Bool.and_eq_true] at fe
  have := Rps.inV p f h2 fe.2
  unfold L2.inV inD at this ⊢
  rw [List.any_cons, List.any_cons, h1.eq p fe.1 f, this]
def gIn (neg : Bool) (d e : D) : Option D := match e with
 | .lst es => if (flatD d && es.all flatD) = true then some (.bl (if neg then !inD d es else inD d es)) else none
 | .tup es => if (flatD d && es.all flatD) = true then some (.bl (if neg then !inD d es else inD d es)) else none
 | _ => none
theorem Rb.flat {d : D} {v : V} (h : Rb K cl F H d v) (f : flatD d = true) : Rp K cl F d v := by
 rcases h with h | ⟨_, _, _, _, rfl, _⟩
 ·exact h
 ·cases f
theorem ok_in {neg : Bool} : OpOk K cl (rIn K neg) (gIn neg) := by
 intro x y d e z H F Q s hx hy h q
 unfold gIn at h
 split at h
 ·split at h
  ·rename_i c; cases h
   rw [Bool.and_eq_true] at c
   obtain ⟨a, xs, rfl, hH, r⟩ := hy.lst s
   have px := hx.flat c.1
   refine ⟨a, xs, rfl, .inl (.of hH), (px.flat c.1).2, r.flat c.2, q _ H F (.refl s) ?_⟩
   simp only [Rp]; rw [r.inV px c.1 c.2]
  ·cases h
 ·split at h
  ·rename_i c; cases h
   rw [Bool.and_eq_true] at c
   obtain ⟨a, xs, rfl, hH, r⟩ := hy.tup s
   have px := hx.flat c.1
   refine ⟨a, xs, rfl, .inr (.of hH), (px.flat c.1).2, r.flat c.2, q _ H F (.refl s) ?_⟩
   simp only [Rp]; rw [r.inV px c.1 c.2]
  ·cases h
 ·cases h
def gAddS (d e : D) : Option D := match d, e with
 | .str i, .str j => if i.length + j.length ≤ sizeLine then some (.str (i ++ j)) else none
 | _, _ => none
theorem ok_addS : OpOk K cl (fun x y H Q => ∃ i j, x = .str i ∧ y = .str j ∧ i.length + j.length ≤ sizeLine ∧ Q (.str (i ++ j)) H) gAddS := by
 intro x y d e z H F Q s hx hy h q
 unfold gAddS at h
 split at h
 ·rename_i i j
  split at h
  ·rename_i c; cases h
   exact ⟨i, j, hx.str, hy.str, c, q _ H F (.refl s) (by simp only [Rp])⟩
  ·cases h
 ·cases h
def gStr1 : D → Option D
 | .int i => if i.natAbs.log2 < 1920 then some (.str (toString i)) else none
 | _ => none
theorem ok_str1 : CbOk1 K cl (fun xs H Q => ∃ i, xs = [.int i] ∧ i.natAbs.log2 < 1920 ∧ Q (.str (toString i)) H) gStr1 := by
 intro x d z H F Q s hx h q
 unfold gStr1 at h
 split at h
 ·split at h
  ·rename_i i c; cases h; rw [hx.int]; exact ⟨i, rfl, c, q _ H F (.refl s) (by simp only [Rp])⟩
  ·cases h
 ·cases h
abbrev JF := DE → Str → Option (R Str)
def PJs : Py Str Str := fun b _ _ _ _ _ c => c = b
theorem pm_J : PM PJs := fun _ _ _ _ _ _ _ _ _ h => h
def RfJ (K : W.Frag) (cl : Str → Addr) (E : XK) (t : TJ) (f : JF) : Prop := ∀ σ H acc Q env F, Rel K cl σ H F env → Ct K cl E PJs (f env acc) σ H F env Q → t σ H acc Q
def jN : JF := fun e acc => if acc.length ≤ sizeLine then some (.ok acc e) else none
def jC (f : ZF) (k : JF) : JF := fun e acc => bnd (f e) fun d e1 => match d with
 | .str y => if (acc ++ y).length ≤ sizeLine then k e1 (acc ++ y) else none
 | _ => none
theorem rf_jN : RfJ K cl E tJNil jN := by
 intro σ H acc Q env F R h
 unfold jN at h
 split at h
 ·rename_i c; exact ⟨c, h acc H F Frm.refl R rfl⟩
 ·exact h.elim
theorem rf_jC {t : TE} {u : TJ} {f : ZF} {k : JF} (hf : RfZ K cl E t f) (hk : RfJ K cl E u k) : RfJ K cl E (tJCons t u) (jC f k) := by
 intro σ H acc Q env F R h
 refine hf σ H _ env F R ((Ct.bnd h pm_J).mono fun x H1 ⟨F1, e1, d, s1, R1, p1, h1⟩ => ?_)
 split at h1
 ·rename_i y
  split at h1
  ·rename_i c
   have hx : x = .str y := by have := (show Rp K cl F1 (.str y) x from p1); simpa only [Rp] using this
   exact ⟨y, hx, c, hk σ H1 _ Q e1 F1 R1 h1⟩
  ·exact h1.elim
 ·exact h1.elim
def eJ (f : JF) : ZF := fun e => bnd (f e Str.empty) fun y e1 => some (.ok (.str y) e1)
theorem rf_J {t : TJ} {f : JF} (hf : RfJ K cl E t f) : RfZ K cl E (tJoin t) (eJ f) := by
 intro σ H Q env F R h
 refine hf σ H _ _ env F R ((Ct.bnd h pm_Z).mono fun x H1 ⟨F1, e1, y, s1, R1, p1, h1⟩ => ?_)
 cases (show x = y from p1)
 exact h1 _ H1 F1 Frm.refl R1 (by show Rp K cl F1 (.str _) _; simp only [Rp])
def eFmt (f : ZF) : ZF := fun e => bnd (f e) fun d e1 => match d with
 | .int i => if i.natAbs.log2 < 1920 then some (.ok (.str (toString i)) e1) else none
 | .str y => if y.length ≤ sizeLine then some (.ok (.str y) e1) else none
 | _ => none
theorem rf_Fmt {t : TE} {f : ZF} (hf : RfZ K cl E t f) : RfZ K cl E (tFmt t) (eFmt f) := by
 intro σ H Q env F R h
 refine hf σ H _ env F R ((Ct.bnd h pm_Z).mono fun x H1 ⟨F1, e1, d, s1, R1, p1, h1⟩ => ?_)
 split at h1
 ·rename_i i
  split at h1
  ·rename_i c
   have hx : x = .int i := by have := (show Rp K cl F1 (.int i) x from p1); simpa only [Rp] using this
   exact .inl ⟨i, hx, c, h1 _ H1 F1 Frm.refl R1 (by show Rp K cl F1 (.str _) _; simp only [Rp])⟩
  ·exact h1.elim
 ·rename_i y
  split at h1
  ·rename_i c
   have hx : x = .str y := by have := (show Rp K cl F1 (.str y) x from p1); simpa only [Rp] using this
   exact .inr ⟨y, hx, c, h1 _ H1 F1 Frm.refl R1 (by show Rp K cl F1 (.str _) _; simp only [Rp])⟩
  ·exact h1.elim
 ·exact h1.elim
end
mutual
def eqB : D → D → Bool
 | .tup ds, e => (match e with
  | .tup es => eqBs ds es
  | _ => false)
 | .lst ds, e => (match e with
  | .lst es => eqBs ds es
  | _ => false)
 | d, e => eqD d e
def eqBs : List D → List D → Bool
 | [], es => es.isEmpty
 | d :: ds, es => (match es with
  | [] => false
  | e :: es => eqB d e && eqBs ds es)
end
mutual
def plainD : D → Bool
 | .tup ds => plainDs ds
 | .lst ds => plainDs ds
 | d => flatD d
def plainDs : List D → Bool
 | [] => true
 | d :: ds => plainD d && plainDs ds
end
mutual
def depD : D → Nat
 | .tup ds => depDs ds + 1
 | .lst ds => depDs ds + 1
 | _ => 0
def depDs : List D → Nat
 | [] => 0
 | d :: ds => max (depD d) (depDs ds)
end
def eAtD (ds es : List D) (j : Nat) : Bool := match ds[j]?, es[j]? with
 | some d, some e => eqB d e
 | _, _ => true
theorem eqBs_range : ∀ {ds es : List D}, ds.length = es.length → (List.range ds.length).all (eAtD ds es) = eqBs ds es
 | [], [], _ => by simp [eqBs]
 | d :: ds, e :: es, h => by
  have h' : ds.length = es.length := by simpa using h
  simp only [eqBs]
  show (List.range (ds.length + 1)).all _ = (eqB d e && eqBs ds es)
  rw [List.range_succ_eq_map, List.all_cons, List.all_map, ← eqBs_range h']
  rfl
theorem eqBs_len : ∀ {ds es : List D}, ds.length ≠ es.length → eqBs ds es = false
 | [], [], h => absurd rfl h
 | _ :: _, [], _ => by simp [eqBs]
 | [], _ :: _, _ => by simp [eqBs]
 | d :: ds, e :: es, h => by
  simp only [eqBs]
  rw [eqBs_len (fun q => h (by simp [q])), Bool.and_false]
section
variable {K : W.Frag} {cl : Str → Addr} {F : Hp}
theorem eqD_flat {d e : D} {v : V} (fd : flatD d = true) (p : Rp K cl F d v) (q : Rp K cl F e v) (pe : plainD e = true) : eqD d e = true := by
 cases d <;> first | (cases fd; done) | skip
 all_goals simp only [Rp] at p; subst p
 all_goals cases e <;> simp only [Rp] at q <;> first | (cases q; done) | (cases q; simp [eqD]; done) | (obtain ⟨_, _, z, _⟩ := q; cases z; done) | (obtain ⟨_, z, _⟩ := q; cases z; done) | (simp [plainD, flatD] at pe; done)
mutual
theorem same_eq : ∀ (d e : D) (v : V), Rp K cl F d v → Rp K cl F e v → plainD d = true → plainD e = true → eqB d e = true
 | .tup ds, e, v, p, q, pd, pe => by
  simp only [Rp] at p
  obtain ⟨a, xs, rfl, ha, r⟩ := p
  cases e <;> simp only [Rp] at q
  case tup es =>
   obtain ⟨a', ys, z, ha', r'⟩ := q
   cases z; rw [ha] at ha'; cases ha'
   simp only [plainD] at pd pe
   simp only [eqB]
   exact sames_eq ds es xs r r' pd pe
  case lst es =>
   obtain ⟨a', ys, z, ha', r'⟩ := q
   cases z; rw [ha] at ha'; cases ha'
  all_goals first | (cases q; done) | (simp [plainD, flatD] at pe; done)
 | .lst ds, e, v, p, q, pd, pe => by
  simp only [Rp] at p
  obtain ⟨a, xs, rfl, ha, r⟩ := p
  cases e <;> simp only [Rp] at q
  case lst es =>
   obtain ⟨a', ys, z, ha', r'⟩ := q
   cases z; rw [ha] at ha'; cases ha'
   simp only [plainD] at pd pe
   simp only [eqB]
   exact sames_eq ds es xs r r' pd pe
  case tup es =>
   obtain ⟨a', ys, z, ha', r'⟩ := q
   cases z; rw [ha] at ha'; cases ha'
  all_goals first | (cases q; done) | (simp [plainD, flatD] at pe; done)
 | .non, e, v, p, q, pd, pe => by simp only [eqB]; exact eqD_flat rfl p q pe
 | .bl _, e, v, p, q, pd, pe => by simp only [eqB]; exact eqD_flat rfl p q pe
 | .int _, e, v, p, q, pd, pe => by simp only [eqB]; exact eqD_flat rfl p q pe
 | .str _, e, v, p, q, pd, pe => by simp only [eqB]; exact eqD_flat rfl p q pe
 | .ty _, e, v, p, q, pd, pe => by simp [plainD, flatD] at pd
 | .cls _, e, v, p, q, pd, pe => by simp [plainD, flatD] at pd
 | .scr _, e, v, p, q, pd, pe => by simp [plainD, flatD] at pd
 | .exc _, e, v, p, q, pd, pe => by simp [plainD, flatD] at pd
 | .obj _ _ _, e, v, p, q, pd, pe => by simp [plainD, flatD] at pd
 | .dic _ _, e, v, p, q, pd, pe => by simp [plainD, flatD] at pd
 | .exv _ _ _, e, v, p, q, pd, pe => by simp [plainD, flatD] at pd
 | .fdc _ _, e, v, p, q, pd, pe => by simp [plainD, flatD] at pd
theorem sames_eq : ∀ (ds es : List D) (vs : List V), Rps K cl F ds vs → Rps K cl F es vs → plainDs ds = true → plainDs es = true → eqBs ds es = true
 | [], es, vs, p, q, _, _ => by
  rw [p.inv0] at q
  cases es with
  | nil => simp [eqBs]
  | cons e es => obtain ⟨_, _, z, _⟩ := q.inv; cases z
 | d :: ds, es, vs, p, q, pd, pe => by
  obtain ⟨v, r, rfl, p1, p2⟩ := p.inv
  cases es with
  | nil => have := q.inv0; cases this
  | cons e es =>
   obtain ⟨v', r', z, q1, q2⟩ := q.inv
   cases z
   simp only [plainDs, Bool.and_eq_true] at pd pe
   simp only [eqBs]
   rw [same_eq d e v p1 q1 pd.1 pe.1, sames_eq ds es r p2 q2 pd.2 pe.2]; rfl
end
end
section
variable {X : Cx} {cl : Str → Addr} {F : Hp} {pins : List (Addr × Obj)} {σ : St} {H : Hp} {s : Shared}
theorem ref_flat {a : Addr} {d : D} {v : V} {u : Value} {A : Around} (hu : A.units < cLine) (hl : (∃ xs, SqL X.K H a xs) ∨ ∃ xs, SqT X.K H a xs) (I : Inv X pins σ H s) (f : flatD d = true) (p : Rp X.K cl F d v) (r : RelV v u) : SeqAt.EqAt A s (.ref a) u false ∧ SeqAt.EqAt A s u (.ref a) false := by
 rcases hl with ⟨xs, h⟩ | ⟨xs, h⟩
 ·obtain ⟨us, r1, p1, z1⟩ := I.list h
  have q := p1.isList
  cases d <;> first | (cases f; done) | skip
  all_goals simp only [Rp] at p; subst p
  ·cases r; exact ⟨.list_none q hu, .none_list q hu⟩
  ·cases r; exact ⟨.list_bool _ q hu, .bool_list _ q hu⟩
  ·obtain ⟨t, rfl⟩ := r; exact ⟨.list_int _ _ q hu, .int_list _ _ q hu⟩
  ·obtain ⟨t, rfl⟩ := r; exact ⟨.list_str _ _ q hu, .str_list _ _ q hu⟩
 ·obtain ⟨us, r1, q, z1⟩ := I.tuple h
  cases d <;> first | (cases f; done) | skip
  all_goals simp only [Rp] at p; subst p
  ·cases r; exact ⟨.tuple_none q hu, .none_tuple q hu⟩
  ·cases r; exact ⟨.tuple_bool _ q hu, .bool_tuple _ q hu⟩
  ·obtain ⟨t, rfl⟩ := r; exact ⟨.tuple_int _ _ q hu, .int_tuple _ _ q hu⟩
  ·obtain ⟨t, rfl⟩ := r; exact ⟨.tuple_str _ _ q hu, .str_tuple _ _ q hu⟩
theorem flat_plain {d : D} (p : plainD d = true) : flatD d = true ∨ (∃ ds, d = .tup ds) ∨ ∃ ds, d = .lst ds := by
 cases d <;> first | exact .inl rfl | exact .inr (.inl ⟨_, rfl⟩) | exact .inr (.inr ⟨_, rfl⟩) | (simp [plainD, flatD] at p; done)
theorem eqB_flat {d e : D} (f : flatD d = true) : eqB d e = eqD d e := by cases d <;> first | (cases f; done) | simp only [eqB]
theorem flat_deep {d e : D} {v u : V} {a b : Value} {A : Around} (I : Inv X pins σ H s) (sF : Same F H) (hu : A.units < cLine) (f : flatD d = true) (p : Rp X.K cl F d v) (q : Rp X.K cl F e u) (rv : RelV v a) (ru : RelV u b) (pe : plainD e = true) : SeqAt.EqAt A s a b (eqB d e) := by
 rw [eqB_flat f]
 rcases flat_plain pe with fe | ⟨es, rfl⟩ | ⟨es, rfl⟩
 ·rw [← p.eq q f fe]
  exact eqAt_V rv ru (p.flat f).2 (q.flat fe).2
 ·simp only [Rp] at q
  obtain ⟨c, ys, rfl, hb, r'⟩ := q
  cases ru
  have := (ref_flat (A := A) hu (.inr ⟨ys, .of (sF _ _ hb)⟩) I f p rv).2
  have z : eqD d (.tup es) = false := by cases d <;> first | (cases f; done) | rfl
  rw [z]; exact this
 ·simp only [Rp] at q
  obtain ⟨c, ys, rfl, hb, r'⟩ := q
  cases ru
  have := (ref_flat (A := A) hu (.inl ⟨ys, .of (sF _ _ hb)⟩) I f p rv).2
  have z : eqD d (.lst es) = false := by cases d <;> first | (cases f; done) | rfl
  rw [z]; exact this
mutual
theorem deep_eq (I : Inv X pins σ H s) (sF : Same F H) : ∀ (d e : D) (v u : V) (a b : Value) (A : Around), A.units + depD d < cLine → Rp X.K cl F d v → Rp X.K cl F e u → RelV v a → RelV u b → plainD d = true → plainD e = true → SeqAt.EqAt A s a b (eqB d e)
 | .tup ds, e, v, u, va, ua, A, hu, p, q, rv, ru, pd, pe => by
  have p0 := p
  have hu' : A.units < cLine := by omega
  simp only [depD] at hu
  simp only [Rp] at p
  obtain ⟨a, xs, rfl, ha, r⟩ := p
  cases rv
  have ha' := sF _ _ ha
  rcases flat_plain pe with f | ⟨es, rfl⟩ | ⟨es, rfl⟩
  ·have := (ref_flat (A := A) hu' (.inr ⟨xs, .of ha'⟩) I f q ru).1
   have z : eqB (.tup ds) e = false := by cases e <;> first | (cases f; done) | simp only [eqB]
   rw [z]; exact this
  ·have q0 := q
   simp only [Rp] at q
   obtain ⟨b, ys, rfl, hb, r'⟩ := q
   cases ru
   have hb' := sF _ _ hb
   by_cases z : a = b
   ·subst z
    rw [same_eq _ _ _ p0 q0 pd pe]
    exact .same _
   ·obtain ⟨us, r1, p1, _⟩ := I.tuple (.of ha')
    obtain ⟨ws, r2, p2, _⟩ := I.tuple (.of hb')
    simp only [plainD] at pd pe
    have he : ∀ j (h1 : j < us.toArray.size) (h2 : j < ws.toArray.size), SeqAt.EqAt A.in1 s us.toArray[j] ws.toArray[j] (eAtD ds es j) := deep_eqs I sF ds es xs ys us ws A.in1 (by show A.units + 1 + depDs ds < cLine; omega) r r' r1 r2 pd pe
    have := SeqAt.EqAt.of_refs z (SeqAt.RcAt.tuples p1 p2 hu' he)
    have e1 : us.toArray.size = ds.length := by simp [← r1.length, r.length]
    have e2 : ws.toArray.size = es.length := by simp [← r2.length, r'.length]
    rw [e1, e2] at this
    simp only [eqB]
    by_cases hl : ds.length = es.length
    ·rw [← hl, Nat.min_self, eqBs_range hl, beq_self_eq_true, Bool.and_true] at this
     exact this
    ·rw [eqBs_len hl]
     rw [beq_eq_false_iff_ne.mpr hl, Bool.and_false] at this
     exact this
  ·simp only [Rp] at q
   obtain ⟨b, ys, rfl, hb, r'⟩ := q
   cases ru
   obtain ⟨us, r1, p1, _⟩ := I.tuple (.of ha')
   obtain ⟨ws, r2, p2, _⟩ := I.list (.of (sF _ _ hb))
   simp only [eqB]
   exact .tuple_list p1 p2.isList hu'
 | .lst ds, e, v, u, va, ua, A, hu, p, q, rv, ru, pd, pe => by
  have p0 := p
  have hu' : A.units < cLine := by omega
  simp only [depD] at hu
  simp only [Rp] at p
  obtain ⟨a, xs, rfl, ha, r⟩ := p
  cases rv
  have ha' := sF _ _ ha
  rcases flat_plain pe with f | ⟨es, rfl⟩ | ⟨es, rfl⟩
  ·have := (ref_flat (A := A) hu' (.inl ⟨xs, .of ha'⟩) I f q ru).1
   have z : eqB (.lst ds) e = false := by cases e <;> first | (cases f; done) | simp only [eqB]
   rw [z]; exact this
  ·simp only [Rp] at q
   obtain ⟨b, ys, rfl, hb, r'⟩ := q
   cases ru
   obtain ⟨us, r1, p1, _⟩ := I.list (.of ha')
   obtain ⟨ws, r2, p2, _⟩ := I.tuple (.of (sF _ _ hb))
   simp only [eqB]
   exact .list_tuple p1.isList p2 hu'
  ·have q0 := q
   simp only [Rp] at q
   obtain ⟨b, ys, rfl, hb, r'⟩ := q
   cases ru
   have hb' := sF _ _ hb
   by_cases z : a = b
   ·subst z
    rw [same_eq _ _ _ p0 q0 pd pe]
    exact .same _
   ·obtain ⟨us, r1, p1, _⟩ := I.list (.of ha')
    obtain ⟨ws, r2, p2, _⟩ := I.list (.of hb')
    simp only [plainD] at pd pe
    have he : ∀ j (h1 : j < us.toArray.size) (h2 : j < ws.toArray.size), SeqAt.EqAt A.in1 s us.toArray[j] ws.toArray[j] (eAtD ds es j) := deep_eqs I sF ds es xs ys us ws A.in1 (by show A.units + 1 + depDs ds < cLine; omega) r r' r1 r2 pd pe
    have e1 : us.toArray.size = ds.length := by simp [← r1.length, r.length]
    have e2 : ws.toArray.size = es.length := by simp [← r2.length, r'.length]
    simp only [eqB]
    by_cases hl : ds.length = es.length
    ·have := SeqAt.EqAt.of_refs z (SeqAt.RcAt.lists p1.isList p2.isList (by rw [e1, e2, hl]) hu' he)
     rw [e1, eqBs_range hl] at this
     exact this
    ·rw [eqBs_len hl]
     exact SeqAt.EqAt.of_refs z (SeqAt.RcAt.lists_lengths p1.isList p2.isList (by rw [e1, e2]; simp [hl]) hu')
 | .non, e, v, u, va, ua, A, hu, p, q, rv, ru, pd, pe => flat_deep I sF (by omega) rfl p q rv ru pe
 | .bl _, e, v, u, va, ua, A, hu, p, q, rv, ru, pd, pe => flat_deep I sF (by omega) rfl p q rv ru pe
 | .int _, e, v, u, va, ua, A, hu, p, q, rv, ru, pd, pe => flat_deep I sF (by omega) rfl p q rv ru pe
 | .str _, e, v, u, va, ua, A, hu, p, q, rv, ru, pd, pe => flat_deep I sF (by omega) rfl p q rv ru pe
 | .ty _, e, v, u, va, ua, A, hu, p, q, rv, ru, pd, pe => by simp [plainD, flatD] at pd
 | .cls _, e, v, u, va, ua, A, hu, p, q, rv, ru, pd, pe => by simp [plainD, flatD] at pd
 | .scr _, e, v, u, va, ua, A, hu, p, q, rv, ru, pd, pe => by simp [plainD, flatD] at pd
 | .exc _, e, v, u, va, ua, A, hu, p, q, rv, ru, pd, pe => by simp [plainD, flatD] at pd
 | .obj _ _ _, e, v, u, va, ua, A, hu, p, q, rv, ru, pd, pe => by simp [plainD, flatD] at pd
 | .dic _ _, e, v, u, va, ua, A, hu, p, q, rv, ru, pd, pe => by simp [plainD, flatD] at pd
 | .exv _ _ _, e, v, u, va, ua, A, hu, p, q, rv, ru, pd, pe => by simp [plainD, flatD] at pd
 | .fdc _ _, e, v, u, va, ua, A, hu, p, q, rv, ru, pd, pe => by simp [plainD, flatD] at pd
theorem deep_eqs (I : Inv X pins σ H s) (sF : Same F H) : ∀ (ds es : List D) (xs ys : List V) (us ws : List Value) (A : Around), A.units + depDs ds < cLine → Rps X.K cl F ds xs → Rps X.K cl F es ys → Vals xs us → Vals ys ws → plainDs ds = true → plainDs es = true → ∀ j (h1 : j < us.toArray.size) (h2 : j < ws.toArray.size), SeqAt.EqAt A s us.toArray[j] ws.toArray[j] (eAtD ds es j)
 | [], es, xs, ys, us, ws, A, hu, p, q, rv, rw', pd, pe => fun j h1 h2 => by
  rw [p.inv0] at rv; cases rv; simp at h1
 | d :: ds, es, xs, ys, us, ws, A, hu, p, q, rv, rw', pd, pe => fun j h1 h2 => by
  obtain ⟨x, xs', rfl, p1, p2⟩ := p.inv
  cases rv with
  | cons r1 t1 =>
   cases es with
   | nil => rw [q.inv0] at rw'; cases rw'; simp at h2
   | cons e es =>
    obtain ⟨y, ys', rfl, q1, q2⟩ := q.inv
    cases rw' with
    | cons r2 t2 =>
     simp only [plainDs, Bool.and_eq_true] at pd pe
     simp only [depDs] at hu
     cases j with
     | zero => exact deep_eq I sF d e x y _ _ A (by omega) p1 q1 r1 r2 pd.1 pe.1
     | succ j =>
      have := deep_eqs I sF ds es xs' ys' _ _ A (by omega) p2 q2 t1 t2 pd.2 pe.2 j (by simpa using h1) (by simpa using h2)
      simpa [eAtD] using this
end
end
theorem hu40 {A : Around} {k : Nat} (hr : Room k A) : A.units + 41 < cLine := Nat.lt_of_le_of_lt (Nat.add_le_add_left (by decide : 41 ≤ 64) _) hr.units
def seqD? : D → Bool
 | .tup _ => true
 | .lst _ => true
 | _ => false
theorem Rb.toRp {K : W.Frag} {cl : Str → Addr} {F H : Hp} {d : D} {v : V} (s : Same F H) (h : Rb K cl F H d v) : ∃ F', Same F F' ∧ Same F' H ∧ Rp K cl F' d v := by
 rcases h with h | ⟨a, xs, ds, rfl, rfl, ha, r⟩
 ·exact ⟨F, Same.refl _, s, h⟩
 ·have g : Same F (upd F a (.lst xs)) := fun b o q => by
   by_cases z : b = a
   ·subst z; have := s _ _ q; rw [ha] at this; cases this; exact upd_same
   ·rw [upd_ne z]; exact q
  refine ⟨upd F a (.lst xs), g, fun b o q => ?_, ?_⟩
  ·by_cases z : b = a
   ·subst z; rw [upd_same] at q; cases q; exact ha
   ·rw [upd_ne z] at q; exact s _ _ q
  ·simp only [Rp]; exact ⟨a, xs, rfl, upd_same, r.mono g⟩
section
variable {X : Cx} {cl : Str → Addr} {F : Hp} {pins : List (Addr × Obj)} {σ : St} {H : Hp} {s : Shared}
theorem rc_flat {a : Addr} {d : D} {v : V} {u : Value} {A : Around} (hu : A.units < cLine) (hl : (∃ xs, SqL X.K H a xs) ∨ ∃ xs, SqT X.K H a xs) (I : Inv X pins σ H s) (f : flatD d = true) (p : Rp X.K cl F d v) (r : RelV v u) :
  (SeqAt.RcAt A s (.ref a) u false ∧ SeqAt.RcAt A s u (.ref a) false) ∧ SeqAt.RcNeAt A s (.ref a) u true ∧ SeqAt.RcNeAt A s u (.ref a) true := by
 rcases hl with ⟨xs, h⟩ | ⟨xs, h⟩
 ·obtain ⟨us, r1, p1, z1⟩ := I.list h
  have q := p1.isList
  cases d <;> first | (cases f; done) | skip
  all_goals simp only [Rp] at p; subst p
  ·cases r; exact ⟨⟨.list_none q hu, .none_list q hu⟩, .list_none q hu, .none_list q hu⟩
  ·cases r; exact ⟨⟨.list_bool _ q hu, .bool_list _ q hu⟩, .list_bool _ q hu, .bool_list _ q hu⟩
  ·obtain ⟨t, rfl⟩ := r; exact ⟨⟨.list_int _ _ q hu, .int_list _ _ q hu⟩, .list_int _ _ q hu, .int_list _ _ q hu⟩
  ·obtain ⟨t, rfl⟩ := r; exact ⟨⟨.list_str _ _ q hu, .str_list _ _ q hu⟩, .list_str _ _ q hu, .str_list _ _ q hu⟩
 ·obtain ⟨us, r1, q, z1⟩ := I.tuple h
  cases d <;> first | (cases f; done) | skip
  all_goals simp only [Rp] at p; subst p
  ·cases r; exact ⟨⟨.tuple_none q hu, .none_tuple q hu⟩, .tuple_none q hu, .none_tuple q hu⟩
  ·cases r; exact ⟨⟨.tuple_bool _ q hu, .bool_tuple _ q hu⟩, .tuple_bool _ q hu, .bool_tuple _ q hu⟩
  ·obtain ⟨t, rfl⟩ := r; exact ⟨⟨.tuple_int _ _ q hu, .int_tuple _ _ q hu⟩, .tuple_int _ _ q hu, .int_tuple _ _ q hu⟩
  ·obtain ⟨t, rfl⟩ := r; exact ⟨⟨.tuple_str _ _ q hu, .str_tuple _ _ q hu⟩, .tuple_str _ _ q hu, .str_tuple _ _ q hu⟩
theorem rc_deep {d e : D} {v u : V} {a b : Value} {A : Around} (I : Inv X pins σ H s) (sF : Same F H) (hu : A.units + depD d < cLine) (p : Rp X.K cl F d v) (q : Rp X.K cl F e u) (rv : RelV v a) (ru : RelV u b) (pd : plainD d = true) (pe : plainD e = true) (hs : seqD? d = true ∨ seqD? e = true) :
  SeqAt.RcAt A s a b (eqB d e) ∧ SeqAt.RcNeAt A s a b (!eqB d e) := by
 have hu' : A.units < cLine := by omega
 rcases flat_plain pd with fd | ⟨ds, rfl⟩ | ⟨ds, rfl⟩
 ·have se : seqD? e = true := hs.resolve_left (by cases d <;> first | (cases fd; done) | simp [seqD?])
  rcases flat_plain pe with fe | ⟨es, rfl⟩ | ⟨es, rfl⟩
  ·cases e <;> first | (cases fe; done) | (cases se; done)
  ·simp only [Rp] at q
   obtain ⟨c, ys, rfl, hb, r'⟩ := q
   cases ru
   have := rc_flat (A := A) hu' (.inr ⟨ys, .of (sF _ _ hb)⟩) I fd p rv
   have z : eqB d (.tup es) = false := by cases d <;> first | (cases fd; done) | simp [eqB, eqD]
   rw [z]; exact ⟨this.1.2, this.2.2⟩
  ·simp only [Rp] at q
   obtain ⟨c, ys, rfl, hb, r'⟩ := q
   cases ru
   have := rc_flat (A := A) hu' (.inl ⟨ys, .of (sF _ _ hb)⟩) I fd p rv
   have z : eqB d (.lst es) = false := by cases d <;> first | (cases fd; done) | simp [eqB, eqD]
   rw [z]; exact ⟨this.1.2, this.2.2⟩
 ·simp only [depD] at hu
  simp only [Rp] at p
  obtain ⟨l, xs, rfl, ha, r⟩ := p
  cases rv
  have ha' := sF _ _ ha
  obtain ⟨us, r1, p1, _⟩ := I.tuple (.of ha')
  rcases flat_plain pe with fe | ⟨es, rfl⟩ | ⟨es, rfl⟩
  ·have := rc_flat (A := A) hu' (.inr ⟨xs, .of ha'⟩) I fe q ru
   have z : eqB (.tup ds) e = false := by cases e <;> first | (cases fe; done) | simp only [eqB]
   rw [z]; exact ⟨this.1.1, this.2.1⟩
  ·simp only [Rp] at q
   obtain ⟨c, ys, rfl, hb, r'⟩ := q
   cases ru
   obtain ⟨ws, r2, p2, _⟩ := I.tuple (.of (sF _ _ hb))
   simp only [plainD] at pd pe
   have he := deep_eqs I sF ds es xs ys us ws A.in1 (by show A.units + 1 + depDs ds < cLine; omega) r r' r1 r2 pd pe
   have h1 := SeqAt.RcAt.tuples p1 p2 hu' he
   have h2 := SeqAt.RcNeAt.tuples p1 p2 hu' he
   have e1 : us.toArray.size = ds.length := by simp [← r1.length, r.length]
   have e2 : ws.toArray.size = es.length := by simp [← r2.length, r'.length]
   rw [e1, e2] at h1 h2
   simp only [eqB]
   by_cases hl : ds.length = es.length
   ·rw [← hl, Nat.min_self, eqBs_range hl, beq_self_eq_true, Bool.and_true] at h1 h2
    exact ⟨h1, h2⟩
   ·rw [eqBs_len hl]
    rw [beq_eq_false_iff_ne.mpr hl, Bool.and_false] at h1 h2
    exact ⟨h1, h2⟩
  ·simp only [Rp] at q
   obtain ⟨c, ys, rfl, hb, r'⟩ := q
   cases ru
   obtain ⟨ws, r2, p2, _⟩ := I.list (.of (sF _ _ hb))
   simp only [eqB]
   exact ⟨.tuple_list p1 p2.isList hu', .tuple_list p1 p2.isList hu'⟩
 ·simp only [depD] at hu
  simp only [Rp] at p
  obtain ⟨l, xs, rfl, ha, r⟩ := p
  cases rv
  have ha' := sF _ _ ha
  obtain ⟨us, r1, p1, _⟩ := I.list (.of ha')
  rcases flat_plain pe with fe | ⟨es, rfl⟩ | ⟨es, rfl⟩
  ·have := rc_flat (A := A) hu' (.inl ⟨xs, .of ha'⟩) I fe q ru
   have z : eqB (.lst ds) e = false := by cases e <;> first | (cases fe; done) | simp only [eqB]
   rw [z]; exact ⟨this.1.1, this.2.1⟩
  ·simp only [Rp] at q
   obtain ⟨c, ys, rfl, hb, r'⟩ := q
   cases ru
   obtain ⟨ws, r2, p2, _⟩ := I.tuple (.of (sF _ _ hb))
   simp only [eqB]
   exact ⟨.list_tuple p1.isList p2 hu', .list_tuple p1.isList p2 hu'⟩
  ·simp only [Rp] at q
   obtain ⟨c, ys, rfl, hb, r'⟩ := q
   cases ru
   obtain ⟨ws, r2, p2, _⟩ := I.list (.of (sF _ _ hb))
   simp only [plainD] at pd pe
   have he := deep_eqs I sF ds es xs ys us ws A.in1 (by show A.units + 1 + depDs ds < cLine; omega) r r' r1 r2 pd pe
   have e1 : us.toArray.size = ds.length := by simp [← r1.length, r.length]
   have e2 : ws.toArray.size = es.length := by simp [← r2.length, r'.length]
   simp only [eqB]
   by_cases hl : ds.length = es.length
   ·have h1 := SeqAt.RcAt.lists p1.isList p2.isList (by rw [e1, e2, hl]) hu' he
    have h2 := SeqAt.RcNeAt.lists p1.isList p2.isList (by rw [e1, e2, hl]) hu' he
    rw [e1, eqBs_range hl] at h1 h2
    exact ⟨h1, h2⟩
   ·rw [eqBs_len hl]
    exact ⟨SeqAt.RcAt.lists_lengths p1.isList p2.isList (by rw [e1, e2]; simp [hl]) hu', SeqAt.RcNeAt.lists_lengths p1.isList p2.isList (by rw [e1, e2]; simp [hl]) hu'⟩
end
def rEqT (K : W.Frag) (cl : Str → Addr) (neg : Bool) : R2 := fun x y H Q => ∃ F d e, Same F H ∧ Rp K cl F d x ∧ Rp K cl F e y ∧ plainD d = true ∧ plainD e = true ∧ depD d ≤ 40 ∧ (seqD? d = true ∨ seqD? e = true) ∧ Q (.bl (if neg then !eqB d e else eqB d e)) H
theorem opK_neT {X : Cx} {K : W.Frag} {cl : Str → Addr} (hu : X.A.units + 41 < cLine) (hK : X.K = K := by rfl) : OpR X (compareOp .NotEq) (rEqT K cl true) := by
 subst hK
 intro pins s σ H x y v u Q I rx ry h
 obtain ⟨F, d, e, sF, p, q, pd, pe, hd, hs, hQ⟩ := h
 exact (rc_deep I sF (by omega) p q rx ry pd pe hs).2 X.prog X.w _ _ ⟨.bl _, H, I, rfl, hQ⟩
def gEqT (neg : Bool) (d e : D) : Option D := if (plainD d && plainD e && decide (depD d ≤ 40) && (seqD? d || seqD? e)) = true then some (.bl (if neg then !eqB d e else eqB d e)) else none
theorem ok_eqT {K : W.Frag} {cl : Str → Addr} {neg : Bool} : OpOk K cl (rEqT K cl neg) (gEqT neg) := by
 intro x y d e z H F Q s hx hy h q
 unfold gEqT at h
 split at h
 ·rename_i c; cases h
  simp only [Bool.and_eq_true, Bool.or_eq_true, decide_eq_true_eq] at c
  obtain ⟨F1, g1, s1, p1⟩ := hx.toRp s
  have hy1 : Rb K cl F1 H e y := by
   rcases hy with hy | ⟨a, xs, ds, e1, e2, ha, r⟩
   ·exact .inl (hy.mono g1)
   ·exact .inr ⟨a, xs, ds, e1, e2, ha, r.mono g1⟩
  obtain ⟨F2, g2, s2, p2⟩ := hy1.toRp s1
  exact ⟨F2, d, e, s2, p1.mono g2, p2, c.1.1.1, c.1.1.2, c.1.2, c.2, q _ H F (.refl s) (by simp only [Rp])⟩
 ·cases h
mutual
theorem eqB_refl : ∀ (d : D), plainD d = true → eqB d d = true
 | .tup ds, h => by simp only [plainD] at h; simp only [eqB]; exact eqBs_refl ds h
 | .lst ds, h => by simp only [plainD] at h; simp only [eqB]; exact eqBs_refl ds h
 | .non, _ => by simp [eqB, eqD]
 | .bl _, _ => by simp [eqB, eqD]
 | .int _, _ => by simp [eqB, eqD]
 | .str _, _ => by simp [eqB, eqD]
 | .ty _, h => by simp [plainD, flatD] at h
 | .cls _, h => by simp [plainD, flatD] at h
 | .scr _, h => by simp [plainD, flatD] at h
 | .exc _, h => by simp [plainD, flatD] at h
 | .obj _ _ _, h => by simp [plainD, flatD] at h
 | .dic _ _, h => by simp [plainD, flatD] at h
 | .exv _ _ _, h => by simp [plainD, flatD] at h
 | .fdc _ _, h => by simp [plainD, flatD] at h
theorem eqBs_refl : ∀ (ds : List D), plainDs ds = true → eqBs ds ds = true
 | [], _ => by simp [eqBs]
 | d :: ds, h => by
  simp only [plainDs, Bool.and_eq_true] at h
  simp only [eqBs]
  rw [eqB_refl d h.1, eqBs_refl ds h.2]; rfl
end
theorem gEqT_refl {d : D} (neg : Bool) (h1 : plainD d = true) (h2 : depD d ≤ 40) (h3 : seqD? d = true) : gEqT neg d d = some (.bl (!neg)) := by
 unfold gEqT
 rw [if_pos (by simp [h1, h2, h3]), eqB_refl d h1]
 cases neg <;> rfl
section
variable {K : W.Frag} {cl : Str → Addr} {E : XK} {σ : St} {H F : Hp} {env : DE} {k : Nat}
def RfSx (K : W.Frag) (cl : Str → Addr) (E : XK) (a : Addr) (t : TS) (f : SF) : Prop := ∀ (N : Ends) σ H env F, Rel K cl σ H F env → (∃ cls, F a = some (ExcO a cls none)) → Cs K cl E (f env) σ H F env N → t N σ H
theorem rel_blank {n : Nat} (sub : Same F H) : Rel K cl (blank n) H F (List.replicate n Sl.no) := by
 have no : ∀ (j : Nat) (s : Sl), (List.replicate n Sl.no)[j]? = some s → s = .no := fun j s q => by
  rw [List.getElem?_replicate] at q
  split at q <;> cases q; rfl
 refine ⟨sub, by unfold blank; rw [List.length_replicate, List.length_replicate], fun j e q => ?_, fun j ds q => ?_, fun j l b ⟨ds, q⟩ _ _ _ => ?_, .none (fun j s ks ds q d => by cases no j s q; exact d) fun j p d q => nomatch no j _ q⟩
 ·cases no j _ q
 ·rcases q with q | q <;> cases no j _ q
 ·rcases q with q | q <;> cases no j _ q
theorem not_ow_blank {n : Nat} {σ : St} {a : Addr} : ¬ Ow σ (List.replicate n Sl.no) a := fun ⟨j, ds, oo, q, _⟩ => by
 rw [List.getElem?_replicate] at q
 split at q <;> cases q
 exact oo
end
def un : Option D → Sl
 | none => .no
 | some d => .fz d
def notHd : Sl → Bool
 | .hd _ => false
 | _ => true
def okS : Option Sl → Bool
 | none => false
 | some s => notHd s
theorem notHd_un (o : Option D) : notHd (un o) = true := by cases o <;> rfl
theorem notHd_no : notHd .no = true := rfl
theorem notHd_fz (d : D) : notHd (.fz d) = true := rfl
theorem notHd_ow (d : List D) : notHd (.ow d) = true := rfl
theorem notHd_hd (d : List D) : notHd (.hd d) = false := rfl
theorem okS_some (s : Sl) : okS (some s) = notHd s := rfl
theorem okS_none : okS none = false := rfl
theorem put_eq (i : Nat) (s : Sl) (e : DE) : put i s e = if okS e[i]? = true then some (.nx (e.set i s)) else none := by
 unfold put okS
 cases e[i]? with
 | none => rfl
 | some t => cases t <;> rfl
theorem bName_eq (i : Nat) (d : D) (e : DE) : bName i d e = if okS e[i]? = true then some (e.set i (.fz d)) else none := by
 unfold bName okS
 cases e[i]? with
 | none => rfl
 | some t => cases t <;> rfl
theorem noHd_nil : noHd [] = true := rfl
theorem noHd_cons (s : Sl) (e : DE) : noHd (s :: e) = (notHd s && noHd e) := by cases s <;> rfl
theorem comp_map {α : Type} {b : GF} {c : BF} {el : ZF} {ec eo : DE} (f : α → D) (g : α → D) (q : α → Bool) : ∀ (l : List α) (acc : List D), acc.length + l.length ≤ sizeLine → (∀ x ∈ l, ∃ e1 e2, b (f x) ec = some e1 ∧ c e1 = some (.ok (q x) e2) ∧ (q x = true → ∃ e3, el e2 = some (.ok (g x) e3))) → compD b c el ec eo (l.map f) acc = some (.ok (acc ++ (l.filter q).map g) eo)
 | [], acc, _, _ => by simp only [List.filter_nil, List.map_nil, List.append_nil]; rfl
 | x :: l, acc, hl, h => by
  obtain ⟨e1, e2, h1, h2, h3⟩ := h x List.mem_cons_self
  have hl' : acc.length < sizeLine := by rw [List.length_cons] at hl; omega
  rw [List.map_cons, compD_cons, h1, optB_some, h2, bnd_ok]
  by_cases z : q x = true
  ·obtain ⟨e3, h4⟩ := h3 z
   rw [if_pos z, h4, bnd_ok, if_pos hl', comp_map f g q l (acc ++ [g x]) (by rw [List.length_append, List.length_cons, List.length_nil]; rw [List.length_cons] at hl; omega) (fun y m => h y (List.mem_cons_of_mem _ m)), List.filter_cons_of_pos z, List.map_cons, List.append_assoc]; rfl
  ·rw [if_neg z, comp_map f g q l acc (by rw [List.length_cons] at hl; omega) (fun y m => h y (List.mem_cons_of_mem _ m)), List.filter_cons_of_neg z]
theorem rngD_map (lo : Int) (n : Nat) : rngD lo n = (List.range n).map fun i => .int (lo + i) := rfl
theorem ixN_nat {n k : Nat} (h : k < n) : ixN n (k : Int) = some k := by
 unfold ixN; rw [if_pos (by omega), if_pos (by omega), Int.toNat_natCast]
theorem atI_natD {α : Type} {l : List α} {k : Nat} {a : α} (h : l[k]? = some a) : atI l (k : Int) = some a := by
 have hk := (List.getElem?_eq_some_iff.mp h).1
 unfold atI
 rw [ixN_nat hk]; exact h
section
variable {K : W.Frag} {cl : Str → Addr} {E : XK} {σ : St} {H F : Hp} {env : DE}
abbrev HF := XN → SF
def RfH (K : W.Frag) (cl : Str → Addr) (E : XK) (th : TH) (f : HF) : Prop := ∀ (N : Ends) σ H env F a c cx, Rel K cl σ H F env → H a = none → Xf K cl F c cx → Cs K cl E (f c env) σ H F env N → th (.ref (cl c.nm)) cx a N σ H
def hN : HF := fun _ _ => none
def hC (exm : Str → Option Bool) (suite : SF) (rest : HF) : HF := fun c e => match exm c.nm with
 | some true => suite e
 | some false => rest c e
 | none => none
theorem rf_hN : RfH K cl E thNil hN := fun _ _ _ _ _ _ _ _ _ _ _ h => h
def sTryH (n : Nat) (body : SF) (fh : HF) : SF := fun e => match body e with
 | some (.ex c) => if noHd e = true then fh c (List.replicate n Sl.no) else none
 | r => r
theorem rf_TryH {n : Nat} {tb : XK → TS} {th : TH} {body : SF} {fh : HF} (hb : ∀ Eh, RfS K cl Eh (tb Eh) body) (hh : RfH K cl E th fh) : RfS K cl E (tTryH n tb th) (sTryH n body fh) := by
 intro N σ H env F R h
 refine ⟨fun cls cx H' => ∃ c F', cls = .ref (cl c.nm) ∧ Xf K cl F' c cx ∧ body env = some (.ex c) ∧ FX σ H F env H' F', ?_, ?_⟩
 ·refine hb _ N σ H env F R ?_
  unfold sTryH at h
  split at h
  ·rename_i c q; rw [q]
   exact fun H' F' x cx e => ⟨c, F', rfl, e, rfl, x⟩
  ·rename_i n1
   unfold Cs at h ⊢
   split at h
   ·exact h
   ·exact h
   ·exact h
   ·exact h
   ·exact h
   ·exact h
   ·exact h
   ·exact h
   ·rename_i c q; exact absurd q (n1 c)
 ·rintro cls cx H' ⟨c, F', rfl, xf, q, x⟩ a ha
  unfold sTryH at h
  rw [q] at h
  dsimp only at h
  split at h
  ·rename_i hc
   have f1 : Frm σ H F env (blank n) H' F' (List.replicate n Sl.no) :=
    ⟨x.fz, fun b o hb fb w m => by obtain ⟨h1, f1⟩ := x.hid b o hb fb w; exact ⟨h1, f1, not_ow_blank⟩, fun j ds z => absurd z (noHd_of hc j ds), fun b z => x.dom b z, x.tu⟩
   exact hh N _ _ _ _ a c cx (rel_blank x.sub) ha xf (h.from f1)
  ·exact h.elim
end
def okK (ks : List (List Int)) : Bool := decide ks.Nodup && ks.all fun k => k.length == (ks.headD []).length
theorem ps_dead {X : Cx} {st : Stmt} : PS X st (fun _ _ _ => False) := fun _ _ _ _ _ _ h => h.elim
section
variable {P : Program} {w : World} {K : W.Frag} {mg : Str → Option Value} {base : Heap} {cl : Str → Addr} {TB : List (Addr × Str)}
variable {X : Cx} {k k' : Nat} {x : Str} {ps : List Str} {sp : Sp} {E : XK} {e : Expr} {es : List Expr} {t : TA} {p pos : Pos} {d : V}
theorem OwnD.own (G : OwnD P w K mg base k x ps sp d) : Own P w K mg base k x ps sp := by
 obtain ⟨f, fd, du, F, b, bd, rd, kp, m⟩ := G.ex
 exact ⟨f, fd, F, b, kp, m⟩
end
section
variable {K : W.Frag} {cl : Str → Addr} {E : XK}
def gIxS (d e : D) : Option D := match d, e with
 | .str z, .int i => if z.length ≤ sizeLine then (atI z.cps.toList i).map fun c => .str ⟨#[c]⟩ else none
 | _, _ => none
theorem ok_ixS : OpOk K cl rIxS gIxS := by
 intro x y d e z H F Q s hx hy h q
 unfold gIxS at h
 split at h
 ·rename_i zz i
  split at h
  ·rename_i hz
   cases hc : atI zz.cps.toList i with
   | none => rw [hc] at h; cases h
   | some c =>
    rw [hc] at h
    cases h
    have : x = .str zz := hx.str
    exact ⟨zz, i, c, this, hy.int, hz, hc, q _ H F (.refl s) (by simp only [Rp])⟩
  ·cases h
 ·cases h
def zSM (g : Str → Str → D) (f h : ZF) : ZF := fun e => bnd (f e) fun d e1 => match d with
 | .str z => bnd (h e1) fun d2 e2 => match d2 with
  | .str y => some (.ok (g z y) e2)
  | _ => none
 | _ => none
theorem rf_SM {g : Str → Str → D} {v : Str → Str → V} (hg : ∀ z y F, Rp K cl F (g z y) (v z y)) {t u : TE} {f h : ZF} (hf : RfZ K cl E t f) (hh : RfZ K cl E u h) : RfZ K cl E (tBM K "str" (fun x vs H Q => ∃ z y, x = .str z ∧ vs = [.str y] ∧ Q (v z y) H) t (tCons u tNil)) (zSM g f h) := by
 intro σ H Q env F R h0
 refine hf σ H _ env F R ((Ct.bnd h0 pm_Z).mono fun x H1 ⟨F1, e1, d, s1, R1, p1, h1⟩ => ?_)
 split at h1
 ·rename_i z
  have ex : x = .str z := by have := (show Rp K cl F1 (.str z) x from p1); simpa only [Rp] using this
  subst ex
  refine ⟨rfl, ?_⟩
  refine hh σ H1 _ e1 F1 R1 ((Ct.bnd h1 pm_Z).mono fun x2 H2 ⟨F2, e2, d2, s2, R2, p2, h2⟩ => ?_)
  split at h2
  ·rename_i y
   have ey : x2 = .str y := by have := (show Rp K cl F2 (.str y) x2 from p2); simpa only [Rp] using this
   subst ey
   exact ⟨z, y, rfl, rfl, h2 _ H2 F2 Frm.refl R2 (hg z y F2)⟩
  ·exact h2.elim
 ·exact h1.elim
end
section
variable {K : W.Frag} {cl : Str → Addr} {E : XK} {σ : St} {H F : Hp} {env : DE} {k : Nat}
def sgD (z : Str) : List D := z.cps.toList.map fun c => .str (signS c)
theorem sgD_len (z : Str) : (sgD z).length = z.length := by unfold sgD; rw [List.length_map]; simp [Str.length]
theorem sgD_get {z : Str} {i c : Nat} (h : z.cps.toList[i]? = some c) : (sgD z)[i]? = some (.str (signS c)) := by unfold sgD; rw [List.getElem?_map, h]; rfl
theorem compS {b : GF} {c : BF} {el : ZF} {g : TG} {tf : TT} {te : TE} {js : List Nat} {z : Str} {B : Addr} {Q : VK} (nd : js.Nodup) (hg : RfG K cl k g b) (hc : RfB K cl E tf c) (he : RfZ K cl E te el) (R : Rel K cl σ H F env) (hB : H B = none)
  (h : Ct K cl E (PN K cl) (compD b c el (compE k js env) env (sgD z) []) σ H F env Q) : tCompR (Its z) g tf te k (compSt k js σ) B (fun H' => Q (.ref B) H') H := by
 refine comp_str (z := z) (fun i zs H' => ∃ F' acc, Grow K cl σ H F env B acc zs H' F' ∧ Ct K cl E (PN K cl) (compD b c el (compE k js env) env ((sgD z).drop i) acc) σ H F env Q) ⟨F, [], .start R hB, h⟩ (fun i c zs H' hc' ⟨F', acc, gw, h'⟩ => ?_) (fun zs H' ⟨F', acc, gw, h'⟩ => ?_)
 ·rw [drop_cons (sgD_get hc')] at h'
  refine comp_turn (Pv := fun zs' H2 => ∃ F' acc, Grow K cl σ H F env B acc zs' H2 F' ∧ Ct K cl E (PN K cl) (compD b _ el (compE k js env) env ((sgD z).drop (i + 1)) acc) σ H F env Q) nd hg hc he gw ?_ h' fun acc' ys' H2 F2 gw2 h2 => ⟨F2, acc', gw2, h2⟩
  simp only [Rp]
 ·rw [List.drop_eq_nil_of_le (by rw [sgD_len]; exact Nat.le_refl _)] at h'
  exact comp_fin gw h'
def nCompS (k : Nat) (js : List Nat) (f : ZF) (b : GF) (c : BF) (el : ZF) : NF := fun e => bnd (f e) fun d e1 => match d with
 | .str z => compD b c el (compE k js e1) e1 (sgD z) []
 | _ => none
theorem rf_CompS {t : TE} {g : TG} {tf : TT} {te : TE} {js : List Nat} {f : ZF} {b : GF} {c : BF} {el : ZF} (nd : js.Nodup) (hf : RfZ K cl E t f) (hg : RfG K cl k g b) (hc : RfB K cl E tf c) (he : RfZ K cl E te el) : RfN K cl E (tComp (iStr t) g tf te k js) (nCompS k js f b c el) := by
 intro σ H Q env F R h
 refine hf σ H _ env F R ((Ct.bnd h pm_N).mono fun x H1 ⟨F1, e1, d, s1, R1, p1, h1⟩ => ?_)
 split at h1
 ·rename_i z
  have ex : x = .str z := by have := (show Rp K cl F1 (.str z) x from p1); simpa only [Rp] using this
  exact ⟨z, ex, fun B hB => compS nd hg hc he R1 hB h1⟩
 ·exact h1.elim
def zSlS (f : ZF) (l u : OF) : ZF := fun e => bnd (f e) fun d e1 => bnd (l e1) fun lo e2 => bnd (u e2) fun hi e3 => match d with
 | .str z => if z.length ≤ sizeLine then some (.ok (.str (Txt.slice z lo hi)) e3) else none
 | _ => none
theorem rf_SlS {t : TE} {tl tu : TO} {f : ZF} {l u : OF} (hf : RfZ K cl E t f) (hl : RfO K cl E tl l) (hu : RfO K cl E tu u) : RfZ K cl E (tSl rSlS t tl tu) (zSlS f l u) := by
 intro σ H Q env F R h
 refine hf σ H _ env F R ((Ct.bnd h pm_Z).mono fun x H1 ⟨F1, e1, d, s1, R1, p1, h1⟩ => ?_)
 refine hl σ H1 _ e1 F1 R1 ((Ct.bnd h1 pm_Z).mono fun lo H2 ⟨F2, e2, lo', s2, R2, p2, h2⟩ => ?_)
 refine hu σ H2 _ e2 F2 R2 ((Ct.bnd h2 pm_Z).mono fun hi H3 ⟨F3, e3, hi', s3, R3, p3, h3⟩ => ?_)
 cases (show lo = lo' from p2)
 cases (show hi = hi' from p3)
 split at h3
 ·rename_i z _ _
  have ex : x = .str z := by have := (show Rp K cl F1 (.str z) x from p1); simpa only [Rp] using this
  split at h3
  ·rename_i hz
   exact ⟨z, ex, hz, h3 _ H3 F3 Frm.refl R3 (by simp only [PZ, Rp])⟩
  ·exact h3.elim
 ·exact h3.elim
def gNiS (d e : D) : Option D := match d, e with
 | .str i, .str j => some (.bl (!(!(Builtin.Str.occurrences j i 0 j.length 1).isEmpty)))
 | _, _ => none
theorem ok_niS : OpOk K cl (fun x y H Q => ∃ i j, x = .str i ∧ y = .str j ∧ Q (.bl (!(!(Builtin.Str.occurrences j i 0 j.length 1).isEmpty))) H) gNiS := by
 intro x y d e z H F Q s hx hy h q
 unfold gNiS at h
 split at h
 ·rename_i i j
  cases h
  exact ⟨i, j, hx.str, hy.str, q _ H F (.refl s) (by simp only [Rp])⟩
 ·cases h
end
section
variable {K : W.Frag} {cl : Str → Addr} {E : XK} {F : Hp}
def strsD : List D → Option (List Str)
 | [] => some []
 | .str z :: ds => (strsD ds).map (z :: ·)
 | _ :: _ => none
theorem strsD_of : ∀ {ds : List D} {ys : List Str} {us : List V}, strsD ds = some ys → Rps K cl F ds us → us = ys.map V.str
 | [], _, us, h, r => by
  cases h
  exact r.inv0
 | .str z :: ds, ys, us, h, r => by
  unfold strsD at h
  cases h1 : strsD ds with
  | none => rw [h1] at h; cases h
  | some ys' =>
   rw [h1] at h
   cases h
   obtain ⟨u, r', rfl, p1, p2⟩ := r.inv
   have e : u = .str z := by simpa only [Rp] using p1
   rw [e, strsD_of h1 p2]
   rfl
 | .non :: _, _, _, h, _ => by cases h
 | .bl _ :: _, _, _, h, _ => by cases h
 | .int _ :: _, _, _, h, _ => by cases h
 | .ty _ :: _, _, _, h, _ => by cases h
 | .cls _ :: _, _, _, h, _ => by cases h
 | .tup _ :: _, _, _, h, _ => by cases h
 | .lst _ :: _, _, _, h, _ => by cases h
 | .scr _ :: _, _, _, h, _ => by cases h
 | .exc _ :: _, _, _, h, _ => by cases h
 | .obj _ _ _ :: _, _, _, h, _ => by cases h
 | .dic _ _ :: _, _, _, h, _ => by cases h
 | .exv _ _ _ :: _, _, _, h, _ => by cases h
 | .fdc _ _ :: _, _, _, h, _ => by cases h
def zJoin (f h : ZF) : ZF := fun e => bnd (f e) fun d e1 => match d with
 | .str z => bnd (h e1) fun d2 e2 => match seqL d2 with
  | some ds => match strsD ds with
   | some ys => if (ys.map (·.length)).sum + ys.length * z.length ≤ 16777216 then some (.ok (.str (Txt.join z ys)) e2) else none
   | none => none
  | none => none
 | _ => none
theorem rf_Join {t u : TE} {f h : ZF} (hf : RfZ K cl E t f) (hh : RfZ K cl E u h) : RfZ K cl E (tBM K "str" (rJoin K) t (tCons u tNil)) (zJoin f h) := by
 intro σ H Q env F R h0
 refine hf σ H _ env F R ((Ct.bnd h0 pm_Z).mono fun x H1 ⟨F1, e1, d, s1, R1, p1, h1⟩ => ?_)
 split at h1
 ·rename_i z
  have ex : x = .str z := by have := (show Rp K cl F1 (.str z) x from p1); simpa only [Rp] using this
  subst ex
  refine ⟨rfl, ?_⟩
  refine hh σ H1 _ e1 F1 R1 ((Ct.bnd h1 pm_Z).mono fun x2 H2 ⟨F2, e2, d2, s2, R2, p2, h2⟩ => ?_)
  split at h2
  ·rename_i ds hs
   split at h2
   ·rename_i ys hy
    split at h2
    ·rename_i hz
     obtain ⟨a, us, rfl, q1, l1⟩ := Rp.seqL p2 hs
     have e := strsD_of hy q1
     subst e
     exact ⟨z, a, ys, rfl, rfl, l1 H2 R2.sub, hz, h2 _ H2 F2 Frm.refl R2 (by simp only [PZ, Rp])⟩
    ·exact h2.elim
   ·exact h2.elim
  ·exact h2.elim
 ·exact h1.elim
end
section
variable {K : W.Frag} {cl : Str → Addr} {E : XK} {σ : St} {H F : Hp} {env : DE}
theorem DeskAt.neD {a b p : Addr} {d : D} {ks : DK} {xs : List V} (D : DeskAt K cl H F b p d) (ha : H a = some (dkO ks xs)) : ∀ c, c = b ∨ c = p → c ≠ a := fun c z y => by
 obtain ⟨_, _, _, _, _, _, _, _, g1, _, g2, _⟩ := D
 subst y
 rcases z with rfl | rfl
 ·rw [ha] at g1; cases ks <;> cases g1
 ·rw [ha] at g2; exact dkO_lst (Option.some.inj g2)
end
@[simp] theorem notHd_od (ks : DK) (ds : List D) : notHd (.od ks ds) = true := rfl
def rPart : V → List V → Hp → VK → Prop := fun x vs H Q => ∃ z y, x = .str z ∧ vs = [.str y] ∧ (y.length == 0) = false ∧ z.length ≤ sizeLine ∧ ∀ p, H p = none → Q (.ref p) (upd H p (.tup (partV (Txt.partition z y))))
def rSplit : V → List V → Hp → VK → Prop := fun x vs H Q => ∃ z y, x = .str z ∧ vs = [.str y] ∧ (y.length == 0) = false ∧ z.length ≤ sizeLine ∧ (Txt.split z y).length ≤ sizeLine ∧ ∀ p, H p = none → Q (.ref p) (upd H p (.lst ((Txt.split z y).map V.str)))
section
variable {X : Cx}
theorem mt_part : MtR X "str.partition" rPart := mt_partition
theorem mt_spl : MtR X "str.split" rSplit := mt_split
end
section
variable {K : W.Frag} {cl : Str → Addr} {E : XK}
def gEndswith (z y : Str) : D := .bl (Txt.endswith z y)
theorem rf_Endswith {t u : TE} {f h : ZF} (hf : RfZ K cl E t f) (hh : RfZ K cl E u h) : RfZ K cl E (tBM K "str" (fun x vs H Q => ∃ z y, x = .str z ∧ vs = [.str y] ∧ Q (.bl (Txt.endswith z y)) H) t (tCons u tNil)) (zSM gEndswith f h) := rf_SM (v := fun z y => .bl (Txt.endswith z y)) (fun z y F => by simp only [gEndswith, Rp]) hf hh
def partD (p : Str × Str × Str) : D := .tup [.str p.1, .str p.2.1, .str p.2.2]
def zPart (f h : ZF) : ZF := fun e => bnd (f e) fun d e1 => match d with
 | .str z => bnd (h e1) fun d2 e2 => match d2 with
  | .str y => if (y.length == 0) = false ∧ z.length ≤ sizeLine then some (.ok (partD (Txt.partition z y)) e2) else none
  | _ => none
 | _ => none
theorem rf_Part {t u : TE} {f h : ZF} (hf : RfZ K cl E t f) (hh : RfZ K cl E u h) : RfZ K cl E (tBM K "str" rPart t (tCons u tNil)) (zPart f h) := by
 intro σ H Q env F R h0
 refine hf σ H _ env F R ((Ct.bnd h0 pm_Z).mono fun x H1 ⟨F1, e1, d, s1, R1, p1, h1⟩ => ?_)
 split at h1
 ·rename_i z
  have ex : x = .str z := by have := (show Rp K cl F1 (.str z) x from p1); simpa only [Rp] using this
  subst ex
  refine ⟨rfl, ?_⟩
  refine hh σ H1 _ e1 F1 R1 ((Ct.bnd h1 pm_Z).mono fun x2 H2 ⟨F2, e2, d2, s2, R2, p2, h2⟩ => ?_)
  split at h2
  ·rename_i y
   have ey : x2 = .str y := by have := (show Rp K cl F2 (.str y) x2 from p2); simpa only [Rp] using this
   subst ey
   split at h2
   ·rename_i hz
    refine ⟨z, y, rfl, rfl, hz.1, hz.2, fun p hp => ?_⟩
    have g : Gr H2 F2 (upd H2 p (.tup (partV (Txt.partition z y)))) (upd F2 p (.tup (partV (Txt.partition z y)))) := .new R2.sub hp
    refine h2 _ _ _ (R2.frm g) (R2.gr g) ?_
    show Rp K cl _ (partD _) _
    unfold partD
    simp only [Rp]
    exact ⟨p, _, rfl, upd_same, by unfold partV; simp only [Rps, Rp]; exact ⟨_, _, rfl, rfl, _, _, rfl, rfl, _, _, rfl, rfl, rfl⟩⟩
   ·exact h2.elim
  ·exact h2.elim
 ·exact h1.elim
def nSplit (f h : ZF) : NF := fun e => bnd (f e) fun d e1 => match d with
 | .str z => bnd (h e1) fun d2 e2 => match d2 with
  | .str y => if (y.length == 0) = false ∧ z.length ≤ sizeLine ∧ (Txt.split z y).length ≤ sizeLine then some (.ok ((Txt.split z y).map .str) e2) else none
  | _ => none
 | _ => none
theorem rps_strs (F : Hp) : ∀ l : List Str, Rps K cl F (l.map .str) (l.map V.str)
 | [] => by simp only [List.map_nil, Rps]
 | x :: l => by
  have := rps_strs F l
  simp only [List.map_cons, Rps, Rp]
  exact ⟨_, _, rfl, rfl, this⟩
theorem rf_Split {t u : TE} {f h : ZF} (hf : RfZ K cl E t f) (hh : RfZ K cl E u h) : RfN K cl E (tBM K "str" rSplit t (tCons u tNil)) (nSplit f h) := by
 intro σ H Q env F R h0
 refine hf σ H _ env F R ((Ct.bnd h0 pm_N).mono fun x H1 ⟨F1, e1, d, s1, R1, p1, h1⟩ => ?_)
 split at h1
 ·rename_i z
  have ex : x = .str z := by have := (show Rp K cl F1 (.str z) x from p1); simpa only [Rp] using this
  subst ex
  refine ⟨rfl, ?_⟩
  refine hh σ H1 _ e1 F1 R1 ((Ct.bnd h1 pm_N).mono fun x2 H2 ⟨F2, e2, d2, s2, R2, p2, h2⟩ => ?_)
  split at h2
  ·rename_i y
   have ey : x2 = .str y := by have := (show Rp K cl F2 (.str y) x2 from p2); simpa only [Rp] using this
   subst ey
   split at h2
   ·rename_i hz
    exact ⟨z, y, rfl, rfl, hz.1, hz.2.1, hz.2.2, fun p hp => Ct.newN R2 hp (rps_strs F2 _) h2⟩
   ·exact h2.elim
  ·exact h2.elim
 ·exact h1.elim
def gIntS : D → Option D
 | .str z => if z.length ≤ 640 then (PySem.intText? z).map .int else none
 | _ => none
theorem ok_intS : CbOk1 K cl (fun xs H Q => ∃ z n, xs = [.str z] ∧ PySem.intText? z = some n ∧ z.length ≤ 640 ∧ Q (.int n) H) gIntS := by
 intro x d z H F Q s hx h q
 unfold gIntS at h
 split at h
 ·rename_i u
  split at h
  ·rename_i hl
   cases hn : PySem.intText? u with
   | none => rw [hn] at h; cases h
   | some n =>
    rw [hn] at h
    cases h
    have ex : x = .str u := hx.str
    exact ⟨u, n, by rw [ex], hn, hl, q _ H F (.refl s) (by simp only [Rp])⟩
  ·cases h
 ·cases h
end
section
variable {X : Cx}
theorem ph_cK {x : Str} {C : Addr} {suite : List Stmt} {b₀ : Stmt} {np hpos : Pos} {hs : List ExceptHandler} {ts : Addr → TS} {rest : TH} (hg : Gl X x) (hm : X.mg x = some (.ref C)) (hpo : ∀ hd, PassesOwnAt (model X.prog X.w) (X.A.mark hd) X.A X.env X.xe) (hh : ∀ a, X.Ok → PSs (X.inExc a) (b₀ :: suite) (ts a)) (hr : PH X hs rest)
  (hd : (x == ("__debug__" : Str)) = false := by decide) : PH X (.ExceptHandler (some (.Name x np)) none (b₀ :: suite) hpos :: hs) (thC X.K C ts rest) := by
 intro pins s σ H a cls cx B D I x4 h
 have ok := I.ok
 refine wpAny_handleBy_cons (codeAny_handlers_test (ld_glob (I.toExc (a := a)) hg hm ?_ hd)) (by intro q; cases q)
 obtain ⟨oe, vs, e, hc, d, _⟩ := x4.tr.there
 have LT : W.Looks (model X.prog X.w) s.heap (typeOf (.ref a)) cls := hc ▸ (W.Looks.ld e).andThen .now
 rcases h with ⟨hx, hsu⟩ | ⟨hx, hn⟩
 ·refine (W.exm_one I.kIn LT hx).here ?_
  refine codeAny_handlers_suite ?_
  refine land_ok I x4 (fun z => nomatch z) fun h5 I5 x5 => ?_
  refine wpAny_passesOwnAt (hpo (some (.ref a))) ?_
  refine thn (hh a ok pins _ _ _ D (I5.track x5).toExc hsu) fun f s6 q => q.ofExc ok
 ·refine (W.exm_one I.kIn LT hx).here ?_
  exact hr pins s σ H a cls cx B D I x4 hn
end
section
variable {K : W.Frag} {cl : Str → Addr} {E : XK}
def sRaiseK (c : Str) (f : AF) : SF := fun e => sbn (f e) fun ds _ => if ds.length ≤ sizeLine then some (.ex (.k c)) else none
theorem rf_RaiseK {a : Addr} {c : Str} {t : TA} {f : AF} (hf : RfA K cl E t f) : RfSx K cl E a (tRaiseN a (cl c) E t) (sRaiseK c f) := by
 intro N σ H env F R ⟨cls, x⟩ h
 refine hf σ H _ env F R ((Cs.bnd h).mono fun xs H1 ⟨F1, e1, ds, fr, R1, p1, h1⟩ => ?_)
 have hl : ds.length = xs.length := Rps.length p1
 split at h1
 ·rename_i z
  exact ⟨by rw [← hl]; exact z, ⟨cls, R1.sub _ _ (fr.fz _ _ x)⟩, h1 H1 F1 (fr.toFX R1.sub) (some (2 * a)) ⟨a, rfl⟩⟩
 ·exact h1.elim
def hCp (exm : Str → Option Bool) (suite : SF) (rest : HF) : HF := fun c e => match exm c.nm with
 | some true => (match c with
  | .p _ => suite e
  | _ => none)
 | some false => rest c e
 | none => none
theorem rf_hCp {C : Addr} {exm : Str → Option Bool} {ts : Addr → TS} {suite : SF} {rt : TH} {rest : HF} (hx : ∀ c b, exm c = some b → W.exmOne K (.ref (cl c)) (.ref C) = some b) (hs : ∀ a, RfSx K cl E a (ts a) suite) (hr : RfH K cl E rt rest) : RfH K cl E (thC K C ts rt) (hCp exm suite rest) := by
 intro N σ H env F a c cx R ha xf h
 unfold hCp at h
 split at h
 ·rename_i q
  cases c with
  | p c =>
   have xf : cx = none := xf
   subst xf
   have gr : Gr H F (upd H a (ExcO a (.ref (cl c)) none)) (upd F a (ExcO a (.ref (cl c)) none)) := .new R.sub ha
   exact .inl ⟨hx c true q, hs a N _ _ _ _ (R.gr gr) ⟨_, upd_same⟩ (h.from (R.frm gr))⟩
  | v c f d => exact h.elim
  | k c => exact h.elim
 ·rename_i q
  exact .inr ⟨hx c.nm false q, hr N σ H env F a c cx R ha xf h⟩
 ·exact h.elim
end
section
variable {α : Type} {p : List α → Prop}
theorem us0 (h : p []) (us : List α) (hl : us.length = 0) : p us := by
 cases us with
 | nil => exact h
 | cons a us => cases hl
theorem usS {n : Nat} (h : ∀ a us, us.length = n → p (a :: us)) (us : List α) (hl : us.length = n + 1) : p us := by
 cases us with
 | nil => cases hl
 | cons a us => exact h a us (Nat.succ.inj hl)
theorem us1 (h : ∀ a, p [a]) : ∀ us : List α, us.length = 1 → p us := usS fun a => us0 (h a)
theorem us2 (h : ∀ a b, p [a, b]) : ∀ us : List α, us.length = 2 → p us := usS fun a => usS fun b => us0 (h a b)
theorem us3 (h : ∀ a b c, p [a, b, c]) : ∀ us : List α, us.length = 3 → p us := usS fun a => usS fun b => usS fun c => us0 (h a b c)
end
def Fxd (K : W.Frag) (n : Str) (st : Stmt) : Prop := ∃ (f : Addr) (oc : Value) (od an : Option Addr) (sl : Array (Option Value)) (kV dc pm cd ct : Value), W.nsIn K mainGlobals n = some (some (.ref f)) ∧ K.lookup f = some ⟨oc, od, .func (W.fnOf n n (defArgs st) (defBody st) (defScope st) .none kV dc pm an cd ct), sl⟩ ∧ W.codeIn K cd n = true ∧ W.keepIn K (.ref f) = true
theorem fxd_mk {K : W.Frag} {n : Str} {st : Stmt} {f : Addr} {oc : Value} {od an : Option Addr} {sl : Array (Option Value)} {kV dc pm cd ct : Value} (a : W.nsIn K mainGlobals n = some (some (.ref f))) (l : K.lookup f = some ⟨oc, od, .func (W.fnOf n n (defArgs st) (defBody st) (defScope st) .none kV dc pm an cd ct), sl⟩) (c : W.codeIn K cd n = true) (k : W.keepIn K (.ref f) = true) : Fxd K n st := ⟨f, oc, od, an, sl, kV, dc, pm, cd, ct, a, l, c, k⟩
theorem ow_mk {P : Program} {w : World} {K : W.Frag} {mg : Str → Option Value} {base h : Heap} {n : Str} {st : Stmt} {d : Nat} {ps : List Str} {sp : Sp} (X : K.In h) (G : h.Ns mainGlobals mg) (z : Fxd K n st) (hb : ∀ (kV doc pm : Value) (an : Option Addr) (cdv ct : Value) (us : List Value), us.length = ps.length → bindArgs (W.fnOf n n (defArgs st) (defBody st) (defScope st) .none kV doc pm an cdv ct) ⟨us, []⟩ = pure (ps.zip us)) (ok : ∀ {f : Addr} {fd : FuncData}, Fun K n n st f fd → FnOk P w K mg base (CXe P w) d f fd ps sp) : Own P w K mg base d n ps sp := by
 obtain ⟨f, oc, od, an, sl, kV, dc, pm, cd, ct, a, l, c, k⟩ := z
 exact ⟨_, _, ok (fun_mk l c k), (fun_mk l c k).binds hb, k, W.mg_of X G a⟩
abbrev QK := List (Int × List D)
structure GrK (a p : Addr) (H F H' F' : Hp) : Prop where
 fz : Same F F'
 sub : Same F' H'
 hid : ∀ b o, b ≠ a → b ≠ p → H b = some o → F b = none → ∀ (m : NT o := by first | assumption | exact nt_lst | exact nt_dkO | exact nt_frz | exact nt_ins), H' b = some o ∧ F' b = none
 dom : ∀ b, H' b = none → H b = none
 tu : Tu H H'
section
variable {K : W.Frag} {cl : Str → Addr} {E : XK} {σ : St} {H F H' F' : Hp} {env : DE}
theorem GrK.upd {a p b : Addr} {o o' : HO} (s : Same F H) (hb : H b = some o) (n : NT o) (fb : F b = none) (z : b = a ∨ b = p) : GrK a p H F (upd H b o') F :=
 ⟨Same.refl _, fun c u h => by rw [upd_ne (fun y => by rw [y, fb] at h; cases h)]; exact s _ _ h,
  fun c u n1 n2 h f _ => ⟨by rw [upd_ne (fun y => by rcases z with z | z; exact n1 (y.trans z); exact n2 (y.trans z))]; exact h, f⟩,
  fun c h => by
  by_cases y : c = b
  ·rw [y, upd_same] at h; cases h
  ·rw [upd_ne y] at h; exact h, tu_upd hb n⟩
theorem Rel.grK {i : Nat} {a p : Addr} {d d' : D} (R : Rel K cl σ H F env) (h : env[i]? = some (.nk p d)) (e : σ[i]? = some (some (.ref a))) (g : GrK a p H F H' F') (D' : DeskAt K cl H' F' a p d') :
  Rel K cl σ H' F' (env.set i (.nk p d')) ∧ Frm σ H F env σ H' F' (env.set i (.nk p d')) := by
 obtain ⟨a', e', D0⟩ := R.od.dk i p d h
 rw [e] at e'; cases e'
 obtain ⟨_, _, _, _, _, _, xs, _, ga, fa, gp, fp, _⟩ := id D0
 have hi : i < env.length := (List.getElem?_eq_some_iff.mp h).1
 have self : (env.set i (.nk p d'))[i]? = some (.nk p d') := List.getElem?_set_self hi
 have oth : ∀ j, j ≠ i → (env.set i (.nk p d'))[j]? = env[j]? := fun j hj => List.getElem?_set_ne (Ne.symm hj)
 have muo : ∀ (j : Nat) (fs : List D), ((env.set i (.nk p d'))[j]? = some (.ow fs) ∨ (env.set i (.nk p d'))[j]? = some (.hd fs)) → env[j]? = some (.ow fs) ∨ env[j]? = some (.hd fs) := fun j fs q => by
  by_cases z : j = i
  ·subst z; rw [self] at q; rcases q with q | q <;> cases q
  ·rw [oth j z] at q; exact q
 have dko : ∀ (j : Nat) (s : Sl) (ks : DK) (ds : List D), (env.set i (.nk p d'))[j]? = some s → isD s ks ds → env[j]? = some s := fun j s ks ds q dd => by
  by_cases z : j = i
  ·subst z; rw [self] at q; cases q; exact dd.elim
  ·rw [oth j z] at q; exact q
 have nko : ∀ (j : Nat) (q : Addr) (d1 : D), (env.set i (.nk p d'))[j]? = some (.nk q d1) → ∃ d2, env[j]? = some (.nk q d2) ∧ (j ≠ i → d2 = d1) ∧ (j = i → q = p ∧ d1 = d') := fun j q d1 z => by
  by_cases y : j = i
  ·subst y; rw [self] at z; cases z; exact ⟨d, h, fun z => absurd rfl z, fun _ => ⟨rfl, rfl⟩⟩
  ·rw [oth j y] at z; exact ⟨d1, z, fun _ => rfl, fun z => absurd z y⟩
 refine ⟨⟨g.sub, by rw [List.length_set]; exact R.len, fun j d1 q => ?_, fun j fs q => ?_, fun j k b ⟨fs, q⟩ ⟨gs, q'⟩ => R.inj j k b ⟨fs, muo j fs q⟩ ⟨gs, muo k gs q'⟩, ⟨fun j s ks ds q dd => ?_, fun j k s t ks ls ds es b q dd q' dd' => R.od.inj j k s t ks ls ds es b (dko j s ks ds q dd) dd (dko k t ls es q' dd') dd', fun j q d1 z => ?_, fun j k q q' d1 d2 z z' y => ?_, fun j k q d1 z ⟨fs, z'⟩ => ?_⟩⟩, ⟨g.fz, fun b o hb fb w m => ?_, fun j fs q => ?_, g.dom, g.tu⟩⟩
 ·have z : j ≠ i := fun z => by subst z; rw [self] at q; cases q
  rw [oth j z] at q
  obtain ⟨v, e1, r1⟩ := R.fz j d1 q
  exact ⟨v, e1, r1.mono g.fz⟩
 ·have q := muo j fs q
  obtain ⟨b, zs, e1, h1, f1, r1⟩ := R.mu j fs q
  obtain ⟨h2, f2⟩ := g.hid b _ (fun y => by rw [y, ga] at h1; cases h1) (fun y => R.od.dm i j p d h ⟨fs, q⟩ (by rw [e1, y])) h1 f1
  exact ⟨b, zs, e1, h2, f2, r1.mono g.fz⟩
 ·obtain ⟨b, zs, e1, h1, f1, n1, r1⟩ := R.od.at_ j s ks ds (dko j s ks ds q dd) dd
  obtain ⟨h2, f2⟩ := g.hid b _ (fun y => D0.neD h1 a (.inl rfl) y.symm) (fun y => D0.neD h1 p (.inr rfl) y.symm) h1 f1
  exact ⟨b, zs, e1, h2, f2, n1, r1.mono g.fz⟩
 ·obtain ⟨d2, z1, z2, z3⟩ := nko j q d1 z
  by_cases y : j = i
  ·obtain ⟨rfl, rfl⟩ := z3 y
   subst y; exact ⟨a, e, D'⟩
  ·cases z2 y
   obtain ⟨b, e1, D1⟩ := R.od.dk j q d1 z1
   refine ⟨b, e1, D1.to (fun c o hc m h1 f1 => g.hid c o (fun x => ?_) (fun x => ?_) h1 f1 m) g.fz⟩
   ·obtain ⟨_, _, _, _, _, _, _, _, ka, _, kp, _⟩ := D1
    rcases hc with rfl | rfl
    ·exact y (R.od.dj j i q p d1 d z1 h (.inr (by rw [e1, e, x])))
    ·rw [x, ga] at kp; cases kp
   ·obtain ⟨_, _, _, _, _, _, _, _, ka, _, kp, _⟩ := D1
    rcases hc with rfl | rfl
    ·rw [x, gp] at ka; cases ka
    ·exact y (R.od.dj j i c p d1 d z1 h (.inl x))
 ·obtain ⟨d3, z1, _⟩ := nko j q d1 z
  obtain ⟨d4, z2, _⟩ := nko k q' d2 z'
  exact R.od.dj j k q q' d3 d4 z1 z2 y
 ·obtain ⟨d3, z1, _⟩ := nko j q d1 z
  exact R.od.dm j k q d3 z1 ⟨fs, muo k fs z'⟩
 ·have n1 : b ≠ a := fun y => w ⟨i, .nk p d, True.intro, h, .inl (by rw [y]; exact e)⟩
  have n2 : b ≠ p := fun y => w ⟨i, .nk p d, True.intro, h, .inr (by rw [y]; rfl)⟩
  obtain ⟨h2, f2⟩ := g.hid b o n1 n2 hb fb m
  refine ⟨h2, f2, fun ⟨j, s, oo, q, e1⟩ => ?_⟩
  by_cases y : j = i
  ·subst y; rw [self] at q; cases q
   rcases e1 with e1 | e1
   ·rw [e] at e1; cases e1; exact n1 rfl
   ·exact n2 (Option.some.inj e1).symm
  ·rw [oth j y] at q; exact w ⟨j, s, oo, q, e1⟩
 ·have z : j ≠ i := fun z => by subst z; rw [h] at q; cases q
  exact ⟨by rw [oth j z]; exact q, rfl⟩
end
theorem lk_box {x y z : V} : List.lookup ("box" : Str) [("box", x), ("wares", y), ("past", z)] = some x := rfl
theorem lk_wares {x y z : V} : List.lookup ("wares" : Str) [("box", x), ("wares", y), ("past", z)] = some y := rfl
theorem lk_past {x y z : V} : List.lookup ("past" : Str) [("box", x), ("wares", y), ("past", z)] = some z := rfl
theorem pf_wares {x y z u : V} : putF "wares" u [("box", x), ("wares", y), ("past", z)] = ([("box", x), ("wares", u), ("past", z)] : List (Str × V)) := by
 unfold putF; rw [if_neg (by decide +kernel)]; unfold putF; rw [if_pos rfl]
def eFK (i : Nat) (b : Bool) : ZF := fun e => match e[i]? with
 | some (.nk _ (.tup [x, y, _, _])) => some (.ok (if b = true then x else y) e)
 | _ => none
def eLnK (i : Nat) : ZF := fun e => match e[i]? with
 | some (.nk _ (.tup [_, _, .lst ps, _])) => some (.ok (.int ps.length) e)
 | _ => none
def ePoK (i : Nat) : ZF := fun e => match e[i]? with
 | some (.nk p (.tup [x, y, .lst ps, z])) => (match ps[ps.length - 1]? with
  | some d => some (.ok d (e.set i (.nk p (.tup [x, y, .lst ps.dropLast, z]))))
  | none => none)
 | _ => none
def sPuK (i : Nat) (f : ZF) : SF := fun e => match e[i]? with
 | some (.nk p _) => sbn (f e) fun d e1 => (match e1[i]? with
  | some (.nk q (.tup [x, y, .lst ps, z])) => if q = p ∧ ps.length < sizeLine then some (.nx (e1.set i (.nk p (.tup [x, y, .lst (ps ++ [d]), z])))) else none
  | _ => none)
 | _ => none
def sFK (i : Nat) (b : Bool) (f : ZF) : SF := fun e => sbn (f e) fun d e1 => match e1[i]? with
 | some (.nk p (.tup [x, y, ps, z])) => some (.nx (e1.set i (.nk p (if b = true then .tup [d, y, ps, z] else .tup [x, d, ps, z]))))
 | _ => none
def fnK (b : Bool) : Str := if b = true then "box" else "wares"
section
variable {K : W.Frag} {cl : Str → Addr} {E : XK} {σ : St} {H F H' F' : Hp} {env : DE} {i : Nat}
theorem rf_FK {b : Bool} (c : Cls K (cl "Desk")) (n : NoAttr K (cl "Desk") (fnK b)) : RfZ K cl E (tFld K (tVar i) (fnK b)) (eFK i b) := by
 intro σ H Q env F R h
 unfold eFK at h
 split at h
 ·rename_i p x y z w q
  obtain ⟨a, e, x', y', ps, dx, bv, wv, xs, e0, g1, f1, g2, f2, r1, r2, r3⟩ := R.od.dk i p _ q
  cases e0
  cases b with
  | true => exact ⟨_, e, a, _, dx, _, bv, rfl, g1, c, n, lk_box, h _ H F Frm.refl R r1⟩
  | false => exact ⟨_, e, a, _, dx, _, wv, rfl, g1, c, n, lk_wares, h _ H F Frm.refl R r2⟩
 ·exact h.elim
theorem rf_LnK (c : Cls K (cl "Desk")) (n : NoAttr K (cl "Desk") "past") : RfZ K cl E (tCB (rLenSeq K) (tCons (tFld K (tVar i) "past") tNil)) (eLnK i) := by
 intro σ H Q env F R h
 unfold eLnK at h
 split at h
 ·rename_i p x y ps w q
  obtain ⟨a, e, x', y', ps', dx, bv, wv, xs, e0, g1, f1, g2, f2, r1, r2, r3⟩ := R.od.dk i p _ q
  cases e0
  exact ⟨_, e, a, _, dx, _, _, rfl, g1, c, n, lk_past, p, xs, rfl, .inl (.of g2), h _ H F Frm.refl R (by show Rp K cl F (.int ps.length) (.int xs.length); simp only [Rp, r3.length])⟩
 ·exact h.elim
theorem rf_PoK (c : Cls K (cl "Desk")) (n : NoAttr K (cl "Desk") "past") : RfZ K cl E (tBM0 K "list" rPop (tFld K (tVar i) "past")) (ePoK i) := by
 intro σ H Q env F R h
 unfold ePoK at h
 split at h
 ·rename_i p x y ps w q
  obtain ⟨a, e, x', y', ps', dx, bv, wv, xs, e0, g1, f1, g2, f2, r1, r2, r3⟩ := R.od.dk i p _ q
  cases e0
  split at h
  ·rename_i d hd
   obtain ⟨v, hv, rv⟩ := r3.get hd
   have ap : a ≠ p := fun z => by rw [z, g2] at g1; cases g1
   have g : GrK a p H F (upd H p (.lst xs.dropLast)) F := .upd R.sub g2 nt_lst f2 (.inr rfl)
   obtain ⟨R2, f⟩ := R.grK q e g (d' := .tup [x, y, .lst ps.dropLast, .int (a : Int)]) ⟨x, y, ps.dropLast, dx, bv, wv, xs.dropLast, rfl, by rw [upd_ne ap]; exact g1, f1, upd_same, f2, r1, r2, by rw [List.dropLast_eq_take, List.dropLast_eq_take, r3.length]; exact r3.take _⟩
   exact ⟨_, e, a, _, dx, _, _, rfl, g1, c, n, lk_past, .inl ⟨rfl, xs, .of g2⟩, p, xs, v, rfl, rfl, g2, by rw [← r3.length]; exact hv, h v _ F f R2 rv⟩
  ·exact h.elim
 ·exact h.elim
theorem rf_PuK {t : TE} {f : ZF} (c : Cls K (cl "Desk")) (n : NoAttr K (cl "Desk") "past") (hf : RfZ K cl E t f) : RfS K cl E (tDrop (tBM K "list" rAppend (tFld K (tVar i) "past") (tCons t tNil))) (sPuK i f) := by
 intro N σ H env F R h
 unfold sPuK at h
 split at h
 ·rename_i p d0 q
  obtain ⟨a, e, x', y', ps', dx, bv, wv, xs, e0, g1, f1, g2, f2, r1, r2, r3⟩ := R.od.dk i p _ q
  refine ⟨_, e, a, _, dx, _, _, rfl, g1, c, n, lk_past, .inl ⟨rfl, xs, .of g2⟩, hf σ H _ env F R ((Cs.bnd h).mono fun y H1 ⟨F1, e1, d, fr, R1, p1, h1⟩ => ?_)⟩
  split at h1
  ·rename_i p' x2 y2 ps2 w2 q2
   split at h1
   ·rename_i z
    obtain ⟨rfl, hl⟩ := z
    obtain ⟨a2, k0, x3, y3, ps3, dx3, bv3, wv3, xs3, k1, k2, k3, k4, k5, k6, k7, k8⟩ := R1.od.dk i _ _ q2
    cases k1
    have ap : a2 ≠ p' := fun z => by rw [z, k4] at k2; cases k2
    have g : GrK a2 p' H1 F1 (upd H1 p' (.lst (xs3 ++ [y]))) F1 := .upd R1.sub k4 nt_lst k5 (.inr rfl)
    obtain ⟨R2, f2⟩ := R1.grK q2 k0 g (d' := .tup [x2, y2, .lst (ps2 ++ [d]), .int (a2 : Int)]) ⟨x2, y2, ps2 ++ [d], dx3, bv3, wv3, xs3 ++ [y], rfl, by rw [upd_ne ap]; exact k2, k3, upd_same, k5, k6, k7, k8.append (.one p1)⟩
    exact ⟨p', xs3, y, rfl, rfl, k4, by rw [← k8.length]; exact hl, h1 σ _ F1 (fr.trans f2) R2⟩
   ·exact h1.elim
  ·exact h1.elim
 ·exact h.elim
theorem rf_SFK {b : Bool} {t : TE} {f : ZF} (c : Cls K (cl "Desk")) (n : NoAttr K (cl "Desk") (fnK b)) (hf : RfZ K cl E t f) : RfS K cl E (sFld K (tVar i) t (fnK b)) (sFK i b f) := by
 intro N σ H env F R h
 refine hf σ H _ env F R ((Cs.bnd h).mono fun v H1 ⟨F1, e1, d, fr, R1, p1, h1⟩ => ?_)
 split at h1
 ·rename_i p x y ps w q
  obtain ⟨a, e, x', y', ps', dx, bv, wv, xs, e0, g1, f1, g2, f2, r1, r2, r3⟩ := R1.od.dk i p _ q
  cases e0
  have pa : p ≠ a := fun z => by rw [z, g1] at g2; cases g2
  cases b with
  | true =>
   have g : GrK a p H1 F1 (upd H1 a (.ins (cl "Desk") dx [("box", v), ("wares", wv), ("past", .ref p)])) F1 := .upd R1.sub g1 nt_ins f1 (.inl rfl)
   obtain ⟨R2, f⟩ := R1.grK q e g (d' := .tup [d, y, .lst ps', .int (a : Int)]) ⟨d, y, ps', dx, v, wv, xs, rfl, upd_same, f1, by rw [upd_ne pa]; exact g2, f2, p1, r2, r3⟩
   exact ⟨_, e, a, _, dx, _, rfl, g1, c, n, by show 3 < 1000; decide, h1 σ _ F1 (fr.trans f) R2⟩
  | false =>
   have g : GrK a p H1 F1 (upd H1 a (.ins (cl "Desk") dx [("box", bv), ("wares", v), ("past", .ref p)])) F1 := .upd R1.sub g1 nt_ins f1 (.inl rfl)
   obtain ⟨R2, f⟩ := R1.grK q e g (d' := .tup [x, d, .lst ps', .int (a : Int)]) ⟨x, d, ps', dx, bv, v, xs, rfl, upd_same, f1, by rw [upd_ne pa]; exact g2, f2, r1, p1, r3⟩
   refine ⟨_, e, a, _, dx, _, rfl, g1, c, n, by show 3 < 1000; decide, ?_⟩
   show N.nx σ (upd H1 a (.ins (cl "Desk") dx (putF "wares" v _)))
   rw [pf_wares]
   exact h1 σ _ F1 (fr.trans f) R2
 ·exact h1.elim
end
def spK (K : W.Frag) (cl : Str → Addr) (g : Addr → D → List D → Option (D × D)) : Sp := fun vs H Q _ => ∃ F a p d ds rest r d', vs = .ref a :: rest ∧ Same F H ∧ DeskAt K cl H F a p d ∧ Rps K cl F ds rest ∧ g p d ds = some (r, d') ∧
 ∀ v H' F', GrK a p H F H' F' → DeskAt K cl H' F' a p d' → Rp K cl F' r v → Q v H'
def TK (K : W.Frag) (cl : Str → Addr) (g : Addr → D → List D → Option (D × D)) : Addr → Sp → Prop := fun C sp => C = cl "Desk" ∧ sp = spK K cl g
def callK (i : Nat) (g : Addr → D → List D → Option (D × D)) (f : AF) : ZF := fun e => match e[i]? with
 | some (.nk p _) => bnd (f e) fun ds e1 => (match e1[i]? with
  | some (.nk q d) => if q = p then (match g p d ds with
   | some (r, d') => some (.ok r (e1.set i (.nk p d')))
   | none => none) else none
  | _ => none)
 | _ => none
section
variable {K : W.Frag} {cl : Str → Addr} {E : XK} {σ : St} {H F H' F' : Hp} {env : DE} {i : Nat} {g : Addr → D → List D → Option (D × D)} {u : TA} {f : AF}
theorem callK_fin {p : Addr} {d : D} {ds : List D} {v : V} {vs : List V} {Q : VK} (R : Rel K cl σ H F env) (q : env[i]? = some (.nk p d)) (e : σ[i]? = some (some v)) (r : Rps K cl F ds vs) (h : Ct K cl E (PZ K cl) (match g p d ds with
   | some (r, d') => some (.ok r (env.set i (.nk p d')))
   | none => none) σ H F env Q) : spK K cl g (v :: vs) H Q E := by
 obtain ⟨a, e', D0⟩ := R.od.dk i p d q
 rw [e] at e'; cases e'
 split at h
 ·rename_i r1 d' hg
  refine ⟨F, a, p, d, ds, vs, r1, d', rfl, R.sub, D0, r, hg, fun v H' F' gk D1 rp => ?_⟩
  obtain ⟨R2, fr⟩ := R.grK q e gk D1
  exact h v H' F' fr R2 rp
 ·exact h.elim
theorem rf_CallK {E' : XK} (hf : RfA K cl E u f) : RfZ K cl E (tCall (spK K cl g) [] E' (tCons (tVar i) u)) (callK i g f) := by
 intro σ H Q env F R h
 unfold callK at h
 split at h
 ·rename_i p d0 q
  obtain ⟨a, e, _⟩ := R.od.dk i p _ q
  refine ⟨_, e, hf σ H _ env F R ((Ct.bnd h pm_Z).mono fun vs H1 ⟨F1, e1, ds, s1, R1, p1, h1⟩ => ?_)⟩
  split at h1
  ·rename_i p' d q2
   split at h1
   ·rename_i z; subst z
    show spK K cl g (.ref a :: vs ++ []) H1 Q E'
    rw [List.append_nil]
    obtain ⟨F, a', p, d, ds, rest, r, d', w⟩ := callK_fin (E := E) R1 q2 e p1 h1
    exact ⟨F, a', p, d, ds, rest, r, d', w⟩
   ·exact h1.elim
  ·exact h1.elim
 ·exact h.elim
theorem rf_MethK {m : Str} (hm : ∀ x y z : V, List.lookup m [("box", x), ("wares", y), ("past", z)] = none) (hf : RfA K cl E u f) : RfZ K cl E (tMethD (TK K cl g) m E (tVar i) u) (callK i g f) := by
 intro σ H Q env F R h
 unfold callK at h
 split at h
 ·rename_i p d0 q
  obtain ⟨a, e, x', y', ps', dx, bv, wv, xs, e0, g1, _⟩ := R.od.dk i p _ q
  refine ⟨_, e, a, _, dx, _, _, rfl, g1, hm _ _ _, ⟨rfl, rfl⟩, hf σ H _ env F R ((Ct.bnd h pm_Z).mono fun vs H1 ⟨F1, e1, ds, s1, R1, p1, h1⟩ => ?_)⟩
  split at h1
  ·rename_i p' d q2
   split at h1
   ·rename_i z; subst z
    exact callK_fin R1 q2 e p1 h1
   ·exact h1.elim
  ·exact h1.elim
 ·exact h.elim
end
abbrev KF := DE → Option (D × DE)
def RfK (K : W.Frag) (cl : Str → Addr) (E : XK) (t : TS) (f : KF) : Prop := ∀ (N : Ends) σ H env F, Rel K cl σ H F env → (match f env with
 | none => False
 | some (d, e) => ∀ v σ' H' F', Frm σ H F env σ' H' F' e → Rel K cl σ' H' F' e → Rp K cl F' d v → N.rt v H') → t N σ H
def kRet (f : ZF) : KF := fun e => match f e with
 | some (.ok d e1) => some (d, e1)
 | _ => none
def kSeq (f : SF) (k : KF) : KF := fun e => match f e with
 | some (.nx e1) => k e1
 | _ => none
def kIf (b : BF) (f k : KF) : KF := fun e => match b e with
 | some (.ok c e1) => if c = true then f e1 else k e1
 | _ => none
section
variable {K : W.Frag} {cl : Str → Addr} {E : XK}
theorem rk_Ret {t : TE} {f : ZF} (hf : RfZ K cl E t f) : RfK K cl E (tRet t) (kRet f) := by
 intro N σ H env F R h
 refine hf σ H _ env F R ?_
 unfold kRet at h
 rcases q : f env with _ | ⟨d, e⟩ | c
 ·rw [q] at h; exact h.elim
 ·rw [q] at h; exact fun v H' F' fr R' p => h v σ H' F' fr R' p
 ·rw [q] at h; exact h.elim
theorem rk_Seq {t u : TS} {f : SF} {k : KF} (hf : RfS K cl E t f) (hk : RfK K cl E u k) : RfK K cl E (tSeq t u) (kSeq f k) := by
 intro N σ H env F R h
 refine hf _ σ H env F R ?_
 unfold kSeq at h
 cases q : f env with
 | none => rw [q] at h; exact h.elim
 | some r =>
  rw [q] at h
  cases r with
  | nx e1 =>
   intro σ1 H1 F1 fr R1
   refine hk N σ1 H1 e1 F1 R1 ?_
   have h : (match k e1 with
    | none => False
    | some (d, e) => ∀ v σ' H' F', Frm σ H F env σ' H' F' e → Rel K cl σ' H' F' e → Rp K cl F' d v → N.rt v H') := h
   split at h
   ·exact h.elim
   ·rename_i d e qk; (try rw [qk]); exact fun v σ' H' F' f2 R2 p => h v σ' H' F' (fr.trans f2) R2 p
  | _ => exact h.elim
theorem rk_If {c : TT} {t u : TS} {b : BF} {f k : KF} (hc : RfB K cl E c b) (hf : RfK K cl E t f) (hk : RfK K cl E u k) : RfK K cl E (tSeq (tIfS c t tNext) u) (kIf b f k) := by
 intro N σ H env F R h
 refine hc σ H _ env F R ?_
 unfold kIf at h
 rcases q : b env with _ | ⟨x, e1⟩ | c
 ·rw [q] at h; exact h.elim
 ·rw [q] at h
  intro y H1 F1 fr R1 p1
  cases (show y = x from p1)
  have fin : ∀ {w : KF}, (match w e1 with
    | none => False
    | some (d, e) => ∀ v σ' H' F', Frm σ H F env σ' H' F' e → Rel K cl σ' H' F' e → Rp K cl F' d v → N.rt v H') → (match w e1 with
    | none => False
    | some (d, e) => ∀ v σ' H' F', Frm σ H1 F1 e1 σ' H' F' e → Rel K cl σ' H' F' e → Rp K cl F' d v → N.rt v H') := fun {w} h => by
   split at h
   ·exact h.elim
   ·rename_i d e qk; (try rw [qk]); exact fun v σ' H' F' f2 R2 p => h v σ' H' F' (fr.trans f2) R2 p
  by_cases z : x = true
  ·simp only [if_pos z] at h ⊢; exact hf _ σ H1 e1 F1 R1 (fin h)
  ·simp only [if_neg z] at h ⊢; exact hk N σ H1 e1 F1 R1 (fin h)
 ·rw [q] at h; exact h.elim
theorem rk_dead : RfK K cl E (fun _ _ _ => False) (fun _ => none) := fun _ _ _ _ _ _ h => h
theorem rf_dead : RfZ K cl E (fun _ _ _ => False) (fun _ => none) := fun _ _ _ _ _ _ h => h
end
def aK : D → Option Int
 | .tup [_, _, _, .int a] => some a
 | _ => none
def kD (n m : Nat) (body : KF) (p : Addr) (d : D) (ds : List D) : Option (D × D) := if ds.length + 1 = m then (match body (.nk p d :: (ds.map .fz ++ List.replicate (n - (ds.length + 1)) .no)) with
 | some (r, e) => (match (e : List Sl)[0]? with
  | some (Sl.nk q d') => if q = p ∧ aK d' = aK d then some (r, d') else none
  | _ => none)
 | none => none) else none
section
variable {P : Program} {w : World} {K : W.Frag} {mg : Str → Option Value} {base : Heap} {cl : Str → Addr} {E : XK} {σ : St} {H F H' F' : Hp} {env : DE}
theorem start_relK {N : List Str} {a p : Addr} {d : D} {vs : List V} {ds : List D} (s : Same F H) (D0 : DeskAt K cl H F a p d) (q : Rps K cl F ds vs) : Rel K cl (start N (.ref a :: vs)) H F (.nk p d :: (ds.map .fz ++ List.replicate (N.length - (ds.length + 1)) .no)) := by
 have st : start N (.ref a :: vs) = some (.ref a) :: (vs.map some ++ List.replicate (N.length - (vs.length + 1)) none) := rfl
 have key : ∀ (i : Nat) (t : Sl), (ds.map Sl.fz ++ List.replicate (N.length - (ds.length + 1)) .no)[i]? = some t → t ≠ .no → ∃ d, ds[i]? = some d ∧ t = .fz d := fun i t q n => by
  by_cases z : i < ds.length
  ·rw [List.getElem?_append_left (by rw [List.length_map]; exact z), List.getElem?_map] at q
   cases hd : ds[i]? with
   | none => rw [hd] at q; cases q
   | some d => rw [hd] at q; cases q; exact ⟨d, rfl, rfl⟩
  ·rw [List.getElem?_append_right (by rw [List.length_map]; omega), List.getElem?_replicate] at q
   split at q
   ·cases q; exact absurd rfl n
   ·cases q
 have nm : ∀ j, ¬ Mu (.nk p d :: (ds.map .fz ++ List.replicate (N.length - (ds.length + 1)) .no)) j := fun j ⟨fs, z⟩ => by
  cases j with
  | zero => rcases z with z | z <;> cases z
  | succ j =>
   rcases z with z | z
   ·obtain ⟨_, _, y⟩ := key j _ z (fun z => by cases z); cases y
   ·obtain ⟨_, _, y⟩ := key j _ z (fun z => by cases z); cases y
 have nk : ∀ (j : Nat) (p' : Addr) (d' : D), (Sl.nk p d :: (ds.map .fz ++ List.replicate (N.length - (ds.length + 1)) .no))[j]? = some (.nk p' d') → j = 0 ∧ p' = p ∧ d' = d := fun j p' d' z => by
  cases j with
  | zero => cases z; exact ⟨rfl, rfl, rfl⟩
  | succ j => obtain ⟨_, _, y⟩ := key j _ z (fun z => by cases z); cases y
 have nd : ∀ (j : Nat) (s : Sl) (ks : DK) (es : List D), (Sl.nk p d :: (ds.map .fz ++ List.replicate (N.length - (ds.length + 1)) .no))[j]? = some s → ¬ isD s ks es := fun j s ks es z dd => by
  cases j with
  | zero => cases z; exact dd
  | succ j => obtain ⟨_, _, y⟩ := key j _ z (fun z => by subst z; exact dd); subst y; exact dd
 refine ⟨s, ?_, fun i d1 z => ?_, fun i fs z => absurd ⟨fs, z⟩ (nm i), fun i j b hi => absurd hi (nm i), ⟨fun i s ks es z dd => absurd dd (nd i s ks es z), fun i j s t ks ls es fs b z dd => absurd dd (nd i s ks es z), fun i p' d' z => ?_, fun i j p1 p2 d1 d2 z1 z2 _ => ?_, fun i j p1 d1 _ m => absurd m (nm j)⟩⟩
 ·rw [st]; simp only [List.length_cons, List.length_append, List.length_map, List.length_replicate, q.length]
 ·cases i with
  | zero => cases z
  | succ i =>
   obtain ⟨d2, hd, y⟩ := key i _ z (fun z => by cases z)
   cases y
   obtain ⟨v, hv, r⟩ := q.get hd
   refine ⟨v, ?_, r⟩
   rw [st]
   show (vs.map some ++ _)[i]? = _
   rw [List.getElem?_append_left (by rw [List.length_map]; exact (List.getElem?_eq_some_iff.mp hv).1), List.getElem?_map, hv]; rfl
 ·obtain ⟨rfl, rfl, rfl⟩ := nk i p' d' z
  exact ⟨a, by rw [st]; rfl, D0⟩
 ·rw [(nk i p1 d1 z1).1, (nk j p2 d2 z2).1]
theorem DeskAt.aK {a p : Addr} {d : D} (h : DeskAt K cl H F a p d) : L2.aK d = some (a : Int) := by
 obtain ⟨_, _, _, _, _, _, _, rfl, _⟩ := h; rfl
theorem body_readsK {N : List Str} {m : Nat} {body : KF} {t : TS} {vs : List V} {Q : VK} (hb : RfK K cl E t body) (h : spK K cl (kD N.length m body) vs H Q E) : t { nx := fun _ H' => Q .non H', rt := Q } (start N vs) H := by
 obtain ⟨F, a, p, d, ds, rest, r, d', rfl, s, D0, rp, hg, k⟩ := h
 unfold kD at hg
 split at hg
 ·split at hg
  ·rename_i r1 e1 q
   split at hg
   ·rename_i q' d1 q0
    split at hg
    ·rename_i z
     obtain ⟨rfl, z⟩ := z
     cases hg
     refine hb _ _ H _ F (start_relK s D0 rp) ?_
     rw [q]
     intro v σ' H' F' fr R' pv
     obtain ⟨a', _, D1⟩ := R'.od.dk 0 _ _ q0
     have ea : a' = a := by have := D1.aK.symm.trans (z.trans D0.aK); exact Int.ofNat.inj (Option.some.inj this)
     subst ea
     refine k v H' F' ⟨fr.fz, R'.sub, fun b o n1 n2 hb fb mm => ?_, fr.dom, fr.tu⟩ D1 pv
     obtain ⟨h1, f1, _⟩ := fr.hid b o hb fb (fun ⟨j, s, oo, qj, e⟩ => by
      cases j with
      | zero =>
       cases qj
       rcases e with e | e
       ·cases (show some (some (V.ref a')) = some (some (V.ref b)) from e); exact n1 rfl
       ·exact n2 (Option.some.inj e).symm
      | succ j =>
       have : ∃ d, s = .fz d ∨ s = .no := by
        have qj : (ds.map Sl.fz ++ List.replicate (N.length - (ds.length + 1)) Sl.no)[j]? = some s := qj
        have mem := List.mem_of_getElem? qj
        rw [List.mem_append, List.mem_map, List.mem_replicate] at mem
        rcases mem with ⟨d, _, rfl⟩ | ⟨_, rfl⟩
        ·exact ⟨d, .inl rfl⟩
        ·exact ⟨.non, .inr rfl⟩
       obtain ⟨_, y | y⟩ := this <;> (subst y; exact oo)) mm
     exact ⟨h1, f1⟩
    ·cases hg
   ·cases hg
  ·cases hg
 ·cases hg
theorem spK_len {n m : Nat} {body : KF} {vs : List V} {Q : VK} (h : spK K cl (kD n m body) vs H Q E) : vs.length = m := by
 obtain ⟨F, a, p, d, ds, rest, r, d', rfl, s, D0, rp, hg, k⟩ := h
 unfold kD at hg
 split at hg
 ·rename_i z; rw [List.length_cons, ← rp.length]; exact z
 ·cases hg
theorem Fun.okK {x qual : Str} {st : Stmt} {f : Addr} {fd : FuncData} {N ps : List Str} {k : Nat} {body : KF} (F : Fun K x qual st f fd) (S : FnScope N ps (defScope st))
  (hbody : ∀ (cdv : Value) (A : Around) (outer : List Env) (s : Shared) (H : Hp) (E : XK), Room k (A.deeper (envOfC qual (defScope st) s.heap.objs.size f cdv)) →
   ∃ t, PSs (cxOf (CXe P w) P w K mg base N qual (defScope st) f cdv A outer s H E) (defBody st) t ∧ RfK K cl E t body) : FnOk P w K mg base (CXe P w) (k + 1) f fd ps (spK K cl (kD N.length ps.length body)) :=
 F.okE S (fun vs H Q E h => spK_len h) fun cdv A outer s H vs Q E hr h => by
  obtain ⟨t, h1, h2⟩ := hbody cdv A outer s H E hr
  exact ⟨t, h1, body_readsK h2 h⟩
end
structure OwnND (P : Program) (w : World) (K : W.Frag) (mg : Str → Option Value) (base : Heap) (k : Nat) (x : Str) (C : Addr) (ps : List Str) (sp : Sp) (d : V) : Prop where
 ex : ∃ f fd du, FnOk P w K mg base (CXe P w) k f fd ps sp ∧ Binds K fd ps [] ∧ Binds K fd ps [du] ∧ RelV d du ∧ Mk K C f ∧ mg x = some (.ref C)
section
variable {X : Cx} {k k' : Nat} {ps : List Str} {sp : Sp} {x : Str} {p pos : Pos} {e : Expr} {es : List Expr} {t : TA} {E : XK} {d : V} {C : Addr}
theorem pe_ownND (G : OwnND X.prog X.w X.K X.mg X.base k x C ps sp d) (hr : Room k' X.A) (hk : k + 1 ≤ k') (hx : Passes (CXe X.prog X.w) X E) (ha : PA X (e :: es) t) (hg : Gl X x := by rfl)
  (hdb : (x == ("__debug__" : Str)) = false := by decide) (hst : starEach (e :: es) X.env = (false, eval e X.env) :: starEach es X.env := by rfl) (hpl : (backTo pos (starEach es X.env)).any (·.1) = false := by rfl) :
  PE X (.Call (.Name x p) (e :: es) [] pos) (tMake C sp [] E t) := by
 obtain ⟨f, fd, du, F, b, bd, rd, M, hm⟩ := G.ex
 exact pe_make M F (hr.mono hk) hg hm b .nil hx ha hdb hst hpl
theorem pe_ownND0 (G : OwnND X.prog X.w X.K X.mg X.base k x C ps sp d) (hr : Room k' X.A) (hk : k + 1 ≤ k') (hx : Passes (CXe X.prog X.w) X E) (hg : Gl X x := by rfl)
  (hdb : (x == ("__debug__" : Str)) = false := by decide) : PE X (.Call (.Name x p) [] [] pos) (tMake C sp [d] E tNil) := by
 obtain ⟨f, fd, du, F, b, bd, rd, M, hm⟩ := G.ex
 exact pe_make0 M F (hr.mono hk) hg hm bd (.cons rd .nil) hx hdb
end
def spKI (K : W.Frag) (cl : Str → Addr) (g : List D → Option R1) : Sp := fun vs H Q _ => ∃ F a dx v x y d, vs = [.ref a, v] ∧ Same F H ∧ H a = some (.ins (cl "Desk") dx []) ∧ F a = none ∧ Rp K cl F d v ∧ g [d] = some (.ret (.tup [x, y])) ∧
 ∀ p H' F', H p = none → Same F F' → Same F' H' → (∀ b o, b ≠ a → H b = some o → F b = none → NT o → H' b = some o ∧ F' b = none) → (∀ b, H' b = none → H b = none) → Tu H H' → DeskAt K cl H' F' a p (.tup [x, y, .lst [], .int (a : Int)]) → Q .non H'
section
variable {K : W.Frag} {cl : Str → Addr} {E : XK} {σ : St} {H F H' F' : Hp} {env : DE}
theorem spKI_len {g : List D → Option R1} {vs : List V} {Q : VK} (h : spKI K cl g vs H Q E) : vs.length = 2 := by
 obtain ⟨_, _, _, _, _, _, _, rfl, _⟩ := h; rfl
theorem initK_reads {g : List D → Option R1} {vs : List V} {Q : VK} {E' : XK} (c : Cls K (cl "Desk")) (n1 : NoAttr K (cl "Desk") "box") (n2 : NoAttr K (cl "Desk") "wares") (n3 : NoAttr K (cl "Desk") "past")
  (h : spKI K cl g vs H Q E) : (tSeq (tAsg (tCall (spD K cl g) [] E' (tCons (tVar 1) tNil)) (gTup K 2 (gCons (gName 2) (gCons (gName 3) gNil)))) (tSeq (sFld K (tVar 0) (tVar 2) "box") (tSeq (sFld K (tVar 0) (tVar 3) "wares") (sFld K (tVar 0) (tLst tNil) "past")))) { nx := fun _ H' => Q .non H', rt := Q } (start ["self", "start", "box", "wares"] vs) H := by
 obtain ⟨F, a, dx, v, x, y, d, rfl, s, ha, fa, r, hg, k⟩ := h
 refine ⟨v, rfl, [d], F, s, .one r, ?_⟩
 rw [hg]
 intro u H1 F1 gr ru
 have ru : Rp K cl F1 (.tup [x, y]) u := ru
 simp only [Rp] at ru
 obtain ⟨q, xs, rfl, hq, rs⟩ := ru
 obtain ⟨bv, t1, rfl, rb, rs⟩ := rs.inv
 obtain ⟨wv, t2, rfl, rw', rs⟩ := rs.inv
 cases rs.inv0
 obtain ⟨ha1, fa1⟩ := gr.hid a _ ha fa nt_ins
 refine ⟨q, _, rfl, .of (gr.sub _ _ hq), rfl, _, _, rfl, _, _, rfl, rfl, ?_⟩
 refine ⟨bv, rfl, _, rfl, a, _, dx, [], rfl, ha1, c, n1, by decide, ?_⟩
 refine ⟨wv, rfl, _, rfl, a, _, dx, [("box", bv)], rfl, upd_same, c, n2, by show 1 < 1000; decide, ?_⟩
 refine ⟨by show 0 ≤ sizeLine; exact Nat.zero_le _, fun p hp => ⟨_, rfl, a, _, dx, [("box", bv), ("wares", wv)], rfl, ?_, c, n3, by show 2 < 1000; decide, ?_⟩⟩
 ·rw [upd_ne (fun z => by rw [← z, upd_same] at hp; cases hp), upd_same]; rfl
 ·have pa : p ≠ a := fun z => by rw [z, upd_same] at hp; cases hp
  have hp1 : H1 p = none := by rw [upd_ne pa, upd_ne pa] at hp; exact hp
  have fp : F1 p = none := gr.sub.free hp1
  have old : ∀ b o, b ≠ a → H1 b = some o → upd (upd (upd (upd H1 a (.ins (cl "Desk") dx (putF "box" bv []))) a (.ins (cl "Desk") dx (putF "wares" wv [("box", bv)]))) p (.lst [])) a (.ins (cl "Desk") dx (putF "past" (.ref p) [("box", bv), ("wares", wv)])) b = some o := fun b o na hb => by
   rw [upd_ne na, upd_ne (fun z => by rw [z, hp1] at hb; cases hb), upd_ne na, upd_ne na]; exact hb
  refine k p _ F1 (gr.dom p hp1) gr.fz (fun b o hb => old b o (fun z => by rw [z, fa1] at hb; cases hb) (gr.sub _ _ hb)) (fun b o na hb fb m => ?_) (fun b hb => ?_) (fun b ys hb => ?_) ⟨x, y, [], dx, bv, wv, [], rfl, ?_, fa1, ?_, fp, rb, rw', .nil⟩
  ·obtain ⟨h1, f1⟩ := gr.hid b o hb fb m
   exact ⟨old b o na h1, f1⟩
  ·by_cases z : b = a
   ·rw [z, upd_same] at hb; cases hb
   ·rw [upd_ne z] at hb
    by_cases z2 : b = p
    ·rw [z2, upd_same] at hb; cases hb
    ·rw [upd_ne z2, upd_ne z, upd_ne z] at hb; exact gr.dom b hb
  ·exact old b _ (fun z => by rw [z, ha] at hb; cases hb) (gr.tu b ys hb)
  ·rw [upd_same]; rfl
  ·rw [upd_ne pa, upd_same]
end
abbrev NkE := DE → Option (R (D × D))
def PDk (K : W.Frag) (cl : Str → Addr) : Py (D × D) V := fun d _ H H' F' _ v => ∃ a p, v = .ref a ∧ H a = none ∧ H p = none ∧ DeskAt K cl H' F' a p (.tup [d.1, d.2, .lst [], .int (a : Int)])
theorem pm_Dk {K cl} : PM (PDk K cl) := fun _ _ _ _ _ _ _ _ g ⟨a, p, e, h1, h2, r⟩ => ⟨a, p, e, g a h1, g p h2, r⟩
def RfDk (K : W.Frag) (cl : Str → Addr) (E : XK) (t : TE) (f : NkE) : Prop := ∀ σ H Q env F, Rel K cl σ H F env → Ct K cl E (PDk K cl) (f env) σ H F env Q → t σ H Q
def nkNew (g : List D → Option R1) (dv : List D) (f : AF) : NkE := fun e => bnd (f e) fun ds e1 => match g (ds ++ dv) with
 | some (.ret (.tup [x, y])) => if ds.length + dv.length = 1 then some (.ok (x, y) e1) else none
 | _ => none
section
variable {K : W.Frag} {cl : Str → Addr} {E : XK} {σ : St} {H F H' F' : Hp} {env : DE}
theorem rq_New {g : List D → Option R1} {dv : List D} {dvs : List V} {t : TA} {f : AF} {E' : XK} (hd : ∀ F, Rps K cl F dv dvs) (hf : RfA K cl E t f) : RfDk K cl E (tMake (cl "Desk") (spKI K cl g) dvs E' t) (nkNew g dv f) := by
 intro σ H Q env F R h
 refine hf σ H _ env F R ((Ct.bnd h pm_Dk).mono fun vs H1 ⟨F1, e1, ds, s1, R1, p1, h1⟩ => ?_)
 intro a dx ha hdx ne
 split at h1
 ·rename_i x y hg
  split at h1
  ·rename_i hl
   have fa : F1 a = none := R1.sub.free ha
   have rr := p1.append (hd F1)
   obtain ⟨d, hds⟩ : ∃ d, ds ++ dv = [d] := by
    have : (ds ++ dv).length = 1 := by rw [List.length_append]; exact hl
    exact List.length_eq_one_iff.mp this
   rw [hds] at rr hg
   obtain ⟨v, r, hv, rv, r0⟩ := rr.inv
   cases r0.inv0
   have up : ∀ b o, H1 b = some o → upd (upd H1 dx (.own a)) a (.ins (cl "Desk") dx []) b = some o := fun b o hb => by
    rw [upd_ne (fun z => by rw [z, ha] at hb; cases hb), upd_ne (fun z => by rw [z, hdx] at hb; cases hb)]; exact hb
   refine ⟨F1, a, dx, v, x, y, d, by rw [hv], fun b o hb => up b o (R1.sub _ _ hb), upd_same, fa, rv, hg, fun p H' F' hp fz sub hid dom tu D0 => ⟨rfl, ?_⟩⟩
   have pa : p ≠ a := fun z => by rw [z, upd_same] at hp; cases hp
   have hp1 : H1 p = none := by
    rw [upd_ne pa] at hp
    by_cases z : p = dx
    ·rw [z, upd_same] at hp; cases hp
    ·rw [upd_ne z] at hp; exact hp
   have gr : Gr H1 F1 H' F' := ⟨fz, sub, fun b o hb fb m => hid b o (fun z => by rw [z, ha] at hb; cases hb) (up b o hb) fb m, fun b hb => by
    have := dom b hb
    by_cases z : b = a
    ·rw [z]; exact ha
    ·rw [upd_ne z] at this
     by_cases z2 : b = dx
     ·rw [z2]; exact hdx
     ·rw [upd_ne z2] at this; exact this, fun b ys hb => tu b ys (up b _ hb)⟩
   exact h1 _ H' F' (R1.frm gr) (R1.gr gr) ⟨a, p, rfl, ha, hp1, D0⟩
  ·exact h1.elim
 ·exact h1.elim
theorem Rel.putK {i : Nat} {a p : Addr} {d : D} {H0 F0 : Hp} (R : Rel K cl σ H F env) (hi : env[i]? = some .no) (D0 : DeskAt K cl H F a p d) (R0 : Rel K cl σ H0 F0 env) (ha : H0 a = none) (hp : H0 p = none) : Rel K cl (σ.set i (some (.ref a))) H F (env.set i (.nk p d)) := by
 have il : i < env.length := (List.getElem?_eq_some_iff.mp hi).1
 have is : i < σ.length := by rw [R.len]; exact il
 have self : (env.set i (.nk p d))[i]? = some (.nk p d) := List.getElem?_set_self il
 have oth : ∀ j, j ≠ i → (env.set i (.nk p d))[j]? = env[j]? := fun j hj => List.getElem?_set_ne (Ne.symm hj)
 have soth : ∀ j, j ≠ i → (σ.set i (some (.ref a)))[j]? = σ[j]? := fun j hj => List.getElem?_set_ne (Ne.symm hj)
 have muo : ∀ (j : Nat) (fs : List D), ((env.set i (.nk p d))[j]? = some (.ow fs) ∨ (env.set i (.nk p d))[j]? = some (.hd fs)) → j ≠ i ∧ (env[j]? = some (.ow fs) ∨ env[j]? = some (.hd fs)) := fun j fs q => by
  by_cases z : j = i
  ·subst z; rw [self] at q; rcases q with q | q <;> cases q
  ·rw [oth j z] at q; exact ⟨z, q⟩
 have dko : ∀ (j : Nat) (s : Sl) (ks : DK) (ds : List D), (env.set i (.nk p d))[j]? = some s → isD s ks ds → j ≠ i ∧ env[j]? = some s := fun j s ks ds q dd => by
  by_cases z : j = i
  ·subst z; rw [self] at q; cases q; exact dd.elim
  ·rw [oth j z] at q; exact ⟨z, q⟩
 have nko : ∀ (j : Nat) (q : Addr) (d1 : D), (env.set i (.nk p d))[j]? = some (.nk q d1) → j = i ∧ q = p ∧ d1 = d ∨ j ≠ i ∧ env[j]? = some (.nk q d1) := fun j q d1 z => by
  by_cases y : j = i
  ·subst y; rw [self] at z; cases z; exact .inl ⟨rfl, rfl, rfl⟩
  ·rw [oth j y] at z; exact .inr ⟨y, z⟩
 have far : ∀ (j : Nat) (q : Addr) (d1 : D), env[j]? = some (.nk q d1) → q ≠ p ∧ σ[j]? ≠ some (some (.ref a)) := fun j q d1 z => by
  obtain ⟨b, e, _, _, _, _, _, _, _, _, g1, _, g2, _⟩ := R0.od.dk j q d1 z
  exact ⟨fun y => (by rw [y, hp] at g2; cases g2), fun y => (by rw [e] at y; cases y; rw [ha] at g1; cases g1)⟩
 refine ⟨R.sub, by rw [List.length_set, List.length_set]; exact R.len, fun j d1 q => ?_, fun j fs q => ?_, fun j l b ⟨fs, q⟩ ⟨gs, q'⟩ e1 e2 => ?_, ⟨fun j s ks ds q dd => ?_, fun j l s t ks ls ds es b q dd q' dd' e1 e2 => ?_, fun j q d1 z => ?_, fun j l q q' d1 d2 z z' y => ?_, fun j l q d1 z ⟨fs, z'⟩ => ?_⟩⟩
 ·have z : j ≠ i := fun z => by subst z; rw [self] at q; cases q
  rw [oth j z] at q; rw [soth j z]; exact R.fz j d1 q
 ·obtain ⟨z, q⟩ := muo j fs q
  rw [soth j z]; exact R.mu j fs q
 ·obtain ⟨z, q⟩ := muo j fs q
  obtain ⟨z', q'⟩ := muo l gs q'
  rw [soth j z] at e1; rw [soth l z'] at e2
  exact R.inj j l b ⟨fs, q⟩ ⟨gs, q'⟩ e1 e2
 ·obtain ⟨z, q⟩ := dko j s ks ds q dd
  rw [soth j z]; exact R.od.at_ j s ks ds q dd
 ·obtain ⟨z, q⟩ := dko j s ks ds q dd
  obtain ⟨z', q'⟩ := dko l t ls es q' dd'
  rw [soth j z] at e1; rw [soth l z'] at e2
  exact R.od.inj j l s t ks ls ds es b q dd q' dd' e1 e2
 ·rcases nko j q d1 z with ⟨rfl, rfl, rfl⟩ | ⟨y, z⟩
  ·exact ⟨a, List.getElem?_set_self is, D0⟩
  ·rw [soth j y]; exact R.od.dk j q d1 z
 ·rcases nko j q d1 z with ⟨rfl, rfl, rfl⟩ | ⟨y1, z1⟩
  ·rcases nko l q' d2 z' with ⟨rfl, rfl, rfl⟩ | ⟨y2, z2⟩
   ·rfl
   ·obtain ⟨f1, f2⟩ := far l q' d2 z2
    rw [List.getElem?_set_self is, soth l y2] at y
    rcases y with y | y
    ·exact absurd y.symm f1
    ·exact absurd y.symm f2
  ·rcases nko l q' d2 z' with ⟨rfl, rfl, rfl⟩ | ⟨y2, z2⟩
   ·obtain ⟨f1, f2⟩ := far j q d1 z1
    rw [List.getElem?_set_self is, soth j y1] at y
    rcases y with y | y
    ·exact absurd y f1
    ·exact absurd y f2
   ·rw [soth j y1, soth l y2] at y
    exact R.od.dj j l q q' d1 d2 z1 z2 y
 ·obtain ⟨y2, z2⟩ := muo l fs z'
  rw [soth l y2]
  rcases nko j q d1 z with ⟨rfl, rfl, rfl⟩ | ⟨y1, z1⟩
  ·intro e1
   obtain ⟨b, xs, e, g, _⟩ := R0.mu l fs z2
   rw [e1] at e; cases e
   rw [hp] at g; cases g
  ·exact R.od.dm j l q d1 z1 ⟨fs, z2⟩
def spKN (K : W.Frag) (cl : Str → Addr) (g : List D → Option (D × D)) : Sp := fun vs H Q _ => ∃ ds F x y, Same F H ∧ Rps K cl F ds vs ∧ g ds = some (x, y) ∧
 ∀ a p H' F', Gr H F H' F' → H a = none → H p = none → DeskAt K cl H' F' a p (.tup [x, y, .lst [], .int (a : Int)]) → Q (.ref a) H'
abbrev NkF := DE → Option (D × D)
def RfKN (K : W.Frag) (cl : Str → Addr) (E : XK) (t : TS) (f : NkF) : Prop := ∀ (N : Ends) σ H env F, Rel K cl σ H F env → (match f env with
 | none => False
 | some (x, y) => ∀ a p H' F', FX σ H F env H' F' → H a = none → H p = none → DeskAt K cl H' F' a p (.tup [x, y, .lst [], .int (a : Int)]) → N.rt (.ref a) H') → t N σ H
def nkRet (f : NkE) : NkF := fun e => match f e with
 | some (.ok d _) => some d
 | _ => none
def nkIf (b : BF) (f k : NkF) : NkF := fun e => match b e with
 | some (.ok c e1) => if c = true then f e1 else k e1
 | _ => none
theorem rn_Ret {t : TE} {f : NkE} (hf : RfDk K cl E t f) : RfKN K cl E (tRet t) (nkRet f) := by
 intro N σ H env F R h
 refine hf σ H _ env F R ?_
 unfold nkRet at h
 rcases q : f env with _ | ⟨d, e⟩ | c
 ·rw [q] at h; exact h.elim
 ·rw [q] at h
  rintro v H' F' fr R' ⟨a, p, rfl, ha, hp, D0⟩
  exact h a p H' F' (fr.toFX R'.sub) ha hp D0
 ·rw [q] at h; exact h.elim
theorem rn_If {c : TT} {t u : TS} {b : BF} {f k : NkF} (hc : RfB K cl E c b) (hf : RfKN K cl E t f) (hk : RfKN K cl E u k) : RfKN K cl E (tSeq (tIfS c t tNext) u) (nkIf b f k) := by
 intro N σ H env F R h
 refine hc σ H _ env F R ?_
 unfold nkIf at h
 rcases q : b env with _ | ⟨x, e1⟩ | c
 ·rw [q] at h; exact h.elim
 ·rw [q] at h
  intro y H1 F1 fr R1 p1
  cases (show y = x from p1)
  have fin : ∀ {w : NkF}, (match w e1 with
    | none => False
    | some (x, y) => ∀ a p H' F', FX σ H F env H' F' → H a = none → H p = none → DeskAt K cl H' F' a p (.tup [x, y, .lst [], .int (a : Int)]) → N.rt (.ref a) H') → (match w e1 with
    | none => False
    | some (x, y) => ∀ a p H' F', FX σ H1 F1 e1 H' F' → H1 a = none → H1 p = none → DeskAt K cl H' F' a p (.tup [x, y, .lst [], .int (a : Int)]) → N.rt (.ref a) H') := fun {w} h => by
   split at h
   ·exact h.elim
   ·rename_i x y qk; (try rw [qk]); exact fun a p H' F' fx ha hp D0 => h a p H' F' (fr.fx fx) (fr.dom a ha) (fr.dom p hp) D0
  by_cases z : x = true
  ·simp only [if_pos z] at h ⊢; exact hf _ σ H1 e1 F1 R1 (fin h)
  ·simp only [if_neg z] at h ⊢; exact hk N σ H1 e1 F1 R1 (fin h)
 ·rw [q] at h; exact h.elim
def nkD (n m : Nat) (body : NkF) (ds : List D) : Option (D × D) := if ds.length = m then body (ds.map .fz ++ List.replicate (n - ds.length) .no) else none
theorem body_readsN {N : List Str} {m : Nat} {body : NkF} {t : TS} {vs : List V} {Q : VK} (hb : RfKN K cl E t body) (h : spKN K cl (nkD N.length m body) vs H Q E) : t { nx := fun _ H' => Q .non H', rt := Q } (start N vs) H := by
 obtain ⟨ds, F, x, y, s, p, hg, k⟩ := h
 obtain ⟨R, no⟩ := start_rel (N := N) s p
 refine hb _ _ H _ F R ?_
 unfold nkD at hg
 split at hg
 ·rw [hg]; exact fun a p H' F' fx ha hp D0 => k a p H' F' (fx.gr no) ha hp D0
 ·cases hg
theorem spKN_len {n m : Nat} {body : NkF} {vs : List V} {Q : VK} (h : spKN K cl (nkD n m body) vs H Q E) : vs.length = m := by
 obtain ⟨ds, F, x, y, s, p, hg, k⟩ := h
 unfold nkD at hg
 split at hg
 ·rename_i z; rw [← p.length]; exact z
 ·cases hg
theorem Fun.okKN {P : Program} {w : World} {mg : Str → Option Value} {base : Heap} {x qual : Str} {st : Stmt} {f : Addr} {fd : FuncData} {N ps : List Str} {k : Nat} {body : NkF} (F : Fun K x qual st f fd) (S : FnScope N ps (defScope st))
  (hbody : ∀ (cdv : Value) (A : Around) (outer : List Env) (s : Shared) (H : Hp) (E : XK), Room k (A.deeper (envOfC qual (defScope st) s.heap.objs.size f cdv)) →
   ∃ t, PSs (cxOf (CXe P w) P w K mg base N qual (defScope st) f cdv A outer s H E) (defBody st) t ∧ RfKN K cl E t body) : FnOk P w K mg base (CXe P w) (k + 1) f fd ps (spKN K cl (nkD N.length ps.length body)) :=
 F.okE S (fun vs H Q E h => spKN_len h) fun cdv A outer s H vs Q E hr h => by
  obtain ⟨t, h1, h2⟩ := hbody cdv A outer s H E hr
  exact ⟨t, h1, body_readsN h2 h⟩
noncomputable def oneR (h : Addr → Addr → Option RS) : Option RS := open Classical in if c : ∃ d, ∀ a p, h a p = some (.rt d) then some (.rt c.choose) else none
theorem oneR_eq {h : Addr → Addr → Option RS} {d : D} (e : ∀ a p, h a p = some (.rt d)) : oneR h = some (.rt d) := by
 have c : ∃ d, ∀ a p, h a p = some (.rt d) := ⟨d, e⟩
 unfold oneR
 rw [dif_pos c]
 have := c.choose_spec 0 0
 rw [e 0 0] at this
 exact this.symm
noncomputable def sNewDk (i : Nat) (g : List D → Option (D × D)) (f : AF) (k : SF) : SF := fun e => match f e with
 | some (.ok ds e1) => (match e1[i]?, g ds with
  | some .no, some (x, y) => oneR fun a p => k (e1.set i (.nk p (.tup [x, y, .lst [], .int (a : Int)])))
  | _, _ => none)
 | _ => none
theorem rf_NewDk {i : Nat} {g : List D → Option (D × D)} {t : TA} {u : TS} {f : AF} {k : SF} {E' : XK} (hf : RfA K cl E t f) (hk : RfS K cl E u k) : RfS K cl E (tSeq (tAsg (tCall (spKN K cl g) [] E' t) (gName i)) u) (sNewDk i g f k) := by
 intro N σ H env F R h
 refine hf σ H _ env F R ?_
 unfold sNewDk at h
 rcases q : f env with _ | ⟨ds, e1⟩ | c
 ·rw [q] at h; exact h.elim
 ·rw [q] at h
  intro vs H1 F1 fr R1 p1
  have h : Cs K cl E (match e1[i]?, g ds with
   | some .no, some (x, y) => oneR fun a p => k (e1.set i (.nk p (.tup [x, y, .lst [], .int (a : Int)])))
   | _, _ => none) σ H F env N := h
  split at h
  ·rename_i x y hi hg
   unfold oneR at h
   split at h
   ·rename_i c
    refine ⟨ds, F1, x, y, R1.sub, by rw [List.append_nil]; exact p1, hg, fun a p H' F' gr ha hp D0 => ?_⟩
    have R2 := (R1.gr gr).putK hi D0 R1 ha hp
    refine hk N _ H' _ F' R2 ?_
    have cs : k (e1.set i (.nk p (.tup [x, y, .lst [], .int (a : Int)]))) = some (.rt c.choose) := c.choose_spec a p
    rw [cs]
    intro v H2 F2 fx r
    refine h v H2 F2 ?_ r
    have f1 := fr.trans (R1.frm gr)
    refine ⟨f1.fz.trans fx.fz, fx.sub, fun b o hb fb w m => ?_, fun b hb => f1.dom b (fx.dom b hb), fun b ys hb => fx.tu b ys (f1.tu b ys hb)⟩
    obtain ⟨h1, g1, w1⟩ := f1.hid b o hb fb w m
    refine fx.hid b o h1 g1 (fun ⟨j, s, oo, qj, e⟩ => ?_) m
    have il : i < e1.length := (List.getElem?_eq_some_iff.mp hi).1
    by_cases z : j = i
    ·subst z
     rw [List.getElem?_set_self il] at qj; cases qj
     rcases e with e | e
     ·rw [List.getElem?_set_self (by rw [R1.len]; exact il)] at e; cases e
      rw [fr.dom a ha] at hb; cases hb
     ·cases e; rw [fr.dom p hp] at hb; cases hb
    ·rw [List.getElem?_set_ne (Ne.symm z)] at qj
     rw [List.getElem?_set_ne (Ne.symm z)] at e
     exact w1 ⟨j, s, oo, qj, e⟩
   ·exact h.elim
  ·exact h.elim
 ·rw [q] at h; exact h.elim
end
theorem pe_deadE {X : Cx} {e : Expr} : PE X e (fun _ _ _ => False) := fun _ _ _ _ _ _ h => h.elim
theorem mo_K {X : Cx} {E : XK} {k k' : Nat} {m : Str} {ps : List Str} {cl : Str → Addr} {g : Addr → D → List D → Option (D × D)} (hr : Room k' X.A) (hx : Passes (CXe X.prog X.w) X E) (hk : k ≤ k') (O : OwnM X.prog X.w X.K X.mg X.base k (cl "Desk") m ps (spK X.K cl g)) : MethOk X (TK X.K cl g) m E := by
 rintro C sp ⟨rfl, rfl⟩
 obtain ⟨⟨f, fd, F, b, M⟩, c⟩ := O
 exact ⟨c, CXe X.prog X.w, k, f, fd, ps, M, F, hr.mono hk, b, hx⟩
end L2
namespace Law
open PySem L2 PyProof.Rows
def top (i : Nat) : Stmt := PySem.Challenge.pw_cratefit_k76_deeds_at_the_desk.main.body.getD i (.Pass ⟨0, 0, 0, 0⟩)
abbrev s_is_whole : Stmt := top 15
abbrev s_check_side : Stmt := top 16
abbrev s_is_number_of : Stmt := top 18
abbrev s_made_ware : Stmt := top 19
abbrev s_made_box : Stmt := top 20
abbrev s_shown_ware : Stmt := top 87
abbrev s_shown_case : Stmt := top 88
abbrev s_read_number : Stmt := top 89
abbrev s_read_sides : Stmt := top 90
abbrev s_read_ware : Stmt := top 91
abbrev s_read_box : Stmt := top 92
abbrev s_read_case : Stmt := top 93
abbrev s_read_rest : Stmt := top 100
abbrev s_l_cell : Stmt := top 109
abbrev s_l_whole : Stmt := top 110
abbrev s_l_ware_row : Stmt := top 111
abbrev s_l_case_row : Stmt := top 112
abbrev s_l_side : Stmt := top 113
abbrev s_l_drawn_ware : Stmt := top 114
abbrev s_l_start : Stmt := top 115
abbrev s_Desk___init__ : Stmt := inClass (top 107) 0
abbrev s_l_begun : Stmt := top 116
abbrev s_l_deed : Stmt := top 117
abbrev s_Desk_steps : Stmt := inClass (top 107) 2
abbrev s_Desk_case : Stmt := inClass (top 107) 1
abbrev s_l_seen : Stmt := top 118
abbrev s_Desk_changed : Stmt := inClass (top 107) 5
abbrev s_Desk_done : Stmt := inClass (top 107) 4
abbrev s_Desk_undone : Stmt := inClass (top 107) 6
abbrev s_Desk_do : Stmt := inClass (top 107) 3
abbrev s_law : Stmt := top 119
variable {P : Program} {w : World} {K : PySem.W.Frag} {mg : Str → Option Value} {base : Heap} {c : Str → Addr}
structure Txt (K : PySem.W.Frag) (mg : Str → Option Value) (c : Str → Addr) : Prop where
 z_any : mg "any" = none
 z_bool : mg "bool" = none
 z_int : mg "int" = none
 z_isinstance : mg "isinstance" = none
 z_len : mg "len" = none
 z_list : mg "list" = none
 z_range : mg "range" = none
 z_str : mg "str" = none
 m_BadSide : mg "BadSide" = some (.ref (c "BadSide"))
 m_NoDeed : mg "NoDeed" = some (.ref (c "NoDeed"))
 m_NoText : mg "NoText" = some (.ref (c "NoText"))
 x_BadSide : PySem.W.excIn K (c "BadSide") vErr "ValueError.__new__" = true
 x_NoDeed : PySem.W.excIn K (c "NoDeed") vErr "ValueError.__new__" = true
 x_NoText : PySem.W.excIn K (c "NoText") vErr "ValueError.__new__" = true
 v_FIGURES : ∃ u, mg "FIGURES" = some u ∧ RelV (.str "0123456789") u
 v_MOST_FIGURES_desk : ∃ u, mg "MOST_FIGURES_desk" = some u ∧ RelV (.int 6) u
 v_MOST_FIGURES_texts : ∃ u, mg "MOST_FIGURES_texts" = some u ∧ RelV (.int 43) u
 v_MOST_WARES_desk : ∃ u, mg "MOST_WARES_desk" = some u ∧ RelV (.int 20) u
 t_exo_BadSide_BadSide : PySem.W.exmOne K (.ref (c "BadSide")) (.ref (c "BadSide")) = some true
 t_exo_BadSide_NoText : PySem.W.exmOne K (.ref (c "BadSide")) (.ref (c "NoText")) = some false
 t_exo_Full_BadSide : PySem.W.exmOne K (.ref (c "Full")) (.ref (c "BadSide")) = some false
 t_exo_Full_NoText : PySem.W.exmOne K (.ref (c "Full")) (.ref (c "NoText")) = some false
 t_exo_NoDeed_BadSide : PySem.W.exmOne K (.ref (c "NoDeed")) (.ref (c "BadSide")) = some false
 t_exo_NoDeed_NoText : PySem.W.exmOne K (.ref (c "NoDeed")) (.ref (c "NoText")) = some false
 t_exo_NoText_BadSide : PySem.W.exmOne K (.ref (c "NoText")) (.ref (c "BadSide")) = some false
 t_exo_NoText_NoText : PySem.W.exmOne K (.ref (c "NoText")) (.ref (c "NoText")) = some true
 t_exo_NoWare_BadSide : PySem.W.exmOne K (.ref (c "NoWare")) (.ref (c "BadSide")) = some false
 t_exo_NoWare_NoText : PySem.W.exmOne K (.ref (c "NoWare")) (.ref (c "NoText")) = some false
 t_exo_NothingDone_BadSide : PySem.W.exmOne K (.ref (c "NothingDone")) (.ref (c "BadSide")) = some false
 t_exo_NothingDone_NoText : PySem.W.exmOne K (.ref (c "NothingDone")) (.ref (c "NoText")) = some false
 cl_Weighing : Cls K (c "Weighing")
 n_Weighing_side : NoAttr K (c "Weighing") "side"
 cl_Floors : Cls K (c "Floors")
 n_Floors_side : NoAttr K (c "Floors") "side"
 n_Floors_step : NoAttr K (c "Floors") "step"
 cl_Heavy : Cls K (c "Heavy")
 n_Heavy_side : NoAttr K (c "Heavy") "side"
 n_Heavy_step : NoAttr K (c "Heavy") "step"
 cl_Parts : Cls K (c "Parts")
 n_Parts_side : NoAttr K (c "Parts") "side"
 n_Parts_step : NoAttr K (c "Parts") "step"
 cl_Matched : Cls K (c "Matched")
 n_Matched_side : NoAttr K (c "Matched") "side"
 n_Matched_step : NoAttr K (c "Matched") "step"
 cl_Nested : Cls K (c "Nested")
 n_Nested_side : NoAttr K (c "Nested") "side"
 n_Nested_inner : NoAttr K (c "Nested") "inner"
 n_Nested_outer : NoAttr K (c "Nested") "outer"
 cl_Way : Cls K (c "Way")
 n_Way_lies : NoAttr K (c "Way") "lies"
 n_Way_across : NoAttr K (c "Way") "across"
 n_Way_up : NoAttr K (c "Way") "up"
 cl_Shelver : Cls K (c "Shelver")
 cl_FirstShelver : Cls K (c "FirstShelver")
 cl_BestShelver : Cls K (c "BestShelver")
 cl_Desk : Cls K (c "Desk")
 n_Desk_box : NoAttr K (c "Desk") "box"
 n_Desk_wares : NoAttr K (c "Desk") "wares"
 n_Desk_past : NoAttr K (c "Desk") "past"
def xo_BadSide (n : Str) : Option Bool := if n = "BadSide" then some true else if n = "Full" then some false else if n = "NoDeed" then some false else if n = "NoText" then some false else if n = "NoWare" then some false else if n = "NothingDone" then some false else none
theorem xo_BadSide_ok (T : Txt K mg c) : ∀ n b, xo_BadSide n = some b → PySem.W.exmOne K (.ref (c n)) (.ref (c "BadSide")) = some b := by
 intro n b h
 unfold xo_BadSide at h
 split at h
 ·rename_i z; subst z; cases h; exact T.t_exo_BadSide_BadSide
 split at h
 ·rename_i z; subst z; cases h; exact T.t_exo_Full_BadSide
 split at h
 ·rename_i z; subst z; cases h; exact T.t_exo_NoDeed_BadSide
 split at h
 ·rename_i z; subst z; cases h; exact T.t_exo_NoText_BadSide
 split at h
 ·rename_i z; subst z; cases h; exact T.t_exo_NoWare_BadSide
 split at h
 ·rename_i z; subst z; cases h; exact T.t_exo_NothingDone_BadSide
 cases h
def xo_NoText (n : Str) : Option Bool := if n = "BadSide" then some false else if n = "Full" then some false else if n = "NoDeed" then some false else if n = "NoText" then some true else if n = "NoWare" then some false else if n = "NothingDone" then some false else none
theorem xo_NoText_ok (T : Txt K mg c) : ∀ n b, xo_NoText n = some b → PySem.W.exmOne K (.ref (c n)) (.ref (c "NoText")) = some b := by
 intro n b h
 unfold xo_NoText at h
 split at h
 ·rename_i z; subst z; cases h; exact T.t_exo_BadSide_NoText
 split at h
 ·rename_i z; subst z; cases h; exact T.t_exo_Full_NoText
 split at h
 ·rename_i z; subst z; cases h; exact T.t_exo_NoDeed_NoText
 split at h
 ·rename_i z; subst z; cases h; exact T.t_exo_NoText_NoText
 split at h
 ·rename_i z; subst z; cases h; exact T.t_exo_NoWare_NoText
 split at h
 ·rename_i z; subst z; cases h; exact T.t_exo_NothingDone_NoText
 cases h
def b_is_whole : SF := (sRet (eAnd (eIsiV 0 "int") (eNot (eIsiV 0 "bool"))))
def d_is_whole : List D → Option R1 := fD 1 1 b_is_whole
theorem sc_is_whole : FnScope ["value"] ["value"] (defScope s_is_whole) := ⟨rfl, rfl, rfl, by decide +kernel, rfl, by decide +kernel, by decide +kernel⟩
seal PSs PS PE PA PT
theorem ok_is_whole {f : Addr} {fd : FuncData} (F : Fun K "is_whole" "is_whole" s_is_whole f fd) (T : Txt K mg c)  : FnOk P w K mg base (CXe P w) 3 f fd ["value"] (spD K c d_is_whole) :=
 F.okD (k := 2) sc_is_whole fun cdv A outer s H E hr => ⟨_, (pss_one (ps_ret (pe_and (pe_callB (callK_isi (K := K)) rfl T.z_isinstance bt_isinstance (pa_cons (pv 0) (pa_cons (pe_bltn (v := .ty "int") rfl T.z_int bt_int rfl) pa_nil))) (pe_one (pe_not (pe_callB (callK_isi (K := K)) rfl T.z_isinstance bt_isinstance (pa_cons (pv 0) (pa_cons (pe_bltn (v := .ty "bool") rfl T.z_bool bt_bool rfl) pa_nil)))))))), (rf_Ret (rf_And rf_IsiV (rf_Not rf_IsiV)))⟩
def b_check_side : SF := (sIf (bOr (bNot (bZ (eCall0 d_is_whole (aC (eV 0) aN)))) (bOr (bZ (eB gLt (eV 0) (eV 1))) (bZ (eB gGt (eV 0) (eV 2))))) (sRaise "BadSide" (aC (eJ (jC (eC (.str "a side is a whole number from ")) (jC (eFmt (eV 1)) (jC (eC (.str " to ")) (jC (eFmt (eV 2)) jN))))) aN)) sNx)
def d_check_side : List D → Option R1 := fD 3 3 b_check_side
theorem sc_check_side : FnScope ["side", "least", "most"] ["side", "least", "most"] (defScope s_check_side) := ⟨rfl, rfl, rfl, by decide +kernel, rfl, by decide +kernel, by decide +kernel⟩
theorem ok_check_side {f : Addr} {fd : FuncData} (F : Fun K "check_side" "check_side" s_check_side f fd) (T : Txt K mg c) (G_is_whole : Own P w K mg base 3 "is_whole" ["value"] (spD K c d_is_whole)) : FnOk P w K mg base (CXe P w) 5 f fd ["side", "least", "most"] (spD K c d_check_side) :=
 F.okD (k := 4) sc_check_side fun cdv A outer s H E hr => ⟨_, (pss_one (ps_if (PW.pt (pw_or (pt_not (pt_val (pe_own G_is_whole hr (by decide) pass0e (pa_cons (pv 0) pa_nil)))) (pw_or (pt_cmpR op_lt (pv 0) (pv 1) (nomark _)) (pw_or1 (pt_cmpR op_gt (pv 0) (pv 2) (nomark _)))))) (pss_one (ps_raise acc_def T.x_BadSide rfl T.m_BadSide (pa_cons (pe_joined (pj_cons pe_str (pj_cons (pe_fmt (pv 1)) (pj_cons pe_str (pj_cons (pe_fmt (pv 2)) pj_nil))))) pa_nil))) pss_nil)), (rf_If' (rf_bOr (rf_bNot (rf_bZ (rf_Call0 (rf_aC rf_v rf_aN)))) (rf_bOr (rf_bT (rf_op ok_lt rf_v rf_v)) (rf_bT (rf_op ok_gt rf_v rf_v)))) (rf_Raise (rf_aC (rf_J (rf_jC rf_c (rf_jC (rf_Fmt rf_v) (rf_jC rf_c (rf_jC (rf_Fmt rf_v) rf_jN))))) rf_aN)) rf_Nx)⟩
def b_is_number_of : SF := (sRet (eAnd (eB gGe (eV 1) (eC (.int 0))) (eB gLt (eV 1) (eCV gLen 0))))
def d_is_number_of : List D → Option R1 := fD 2 2 b_is_number_of
theorem sc_is_number_of : FnScope ["wares", "k"] ["wares", "k"] (defScope s_is_number_of) := ⟨rfl, rfl, rfl, by decide +kernel, rfl, by decide +kernel, by decide +kernel⟩
theorem ok_is_number_of {f : Addr} {fd : FuncData} (F : Fun K "is_number_of" "is_number_of" s_is_number_of f fd) (T : Txt K mg c)  : FnOk P w K mg base (CXe P w) 3 f fd ["wares", "k"] (spD K c d_is_number_of) :=
 F.okD (k := 2) sc_is_number_of fun cdv A outer s H E hr => ⟨_, (pss_one (ps_ret (pe_and (pe_cmpR op_ge (pv 1) pe_int (nomark _)) (pe_one (pe_cmpR op_lt (pv 1) (pe_callB (callK_len_seq (K := K)) rfl T.z_len bt_len (pa_cons (pv 0) pa_nil)) (nomark _)))))), (rf_Ret (rf_And (rf_op ok_ge rf_v rf_c) (rf_op ok_lt rf_v (rf_CV ok_len))))⟩
def b_made_ware : SF := (sSeq (sEx (eCall d_check_side (aC (eV 0) (aC (eC (.int 1)) (aC (eB gPow (eC (.int 10)) (eC (.int 40))) aN))))) (sSeq (sEx (eCall d_check_side (aC (eV 1) (aC (eC (.int 1)) (aC (eB gPow (eC (.int 10)) (eC (.int 40))) aN))))) (sRet (eT (aC (eV 0) (aC (eV 1) (aC (eV 2) aN)))))))
def d_made_ware : List D → Option R1 := fD 3 3 b_made_ware
theorem sc_made_ware : FnScope ["w", "h", "turns"] ["w", "h", "turns"] (defScope s_made_ware) := ⟨rfl, rfl, rfl, by decide +kernel, rfl, by decide +kernel, by decide +kernel⟩
theorem ok_made_ware {f : Addr} {fd : FuncData} {dT : Addr} (F : FunD K "made_ware" "made_ware" s_made_ware dT f fd) (T : Txt K mg c) (G_check_side : Own P w K mg base 5 "check_side" ["side", "least", "most"] (spD K c d_check_side)) : FnOk P w K mg base (CXe P w) 7 f fd ["w", "h", "turns"] (spD K c d_made_ware) :=
 F.okD (k := 6) sc_made_ware fun cdv A outer s H E hr => ⟨_, (pss_cons (ps_expr (pe_own G_check_side hr (by decide) (XAcc.passes acc_def) (pa_cons (pv 0) (pa_cons pe_int (pa_cons (pe_op op_pow pe_int pe_int) pa_nil))))) (pss_cons (ps_expr (pe_own G_check_side hr (by decide) (XAcc.passes acc_def) (pa_cons (pv 1) (pa_cons pe_int (pa_cons (pe_op op_pow pe_int pe_int) pa_nil))))) (pss_one (ps_ret (pe_tup (pa_cons (pv 0) (pa_cons (pv 1) (pa_cons (pv 2) pa_nil)))))))), (rf_Seq (rf_Ex (rf_Call (rf_aC rf_v (rf_aC rf_c (rf_aC (rf_op ok_pow rf_c rf_c) rf_aN))))) (rf_Seq (rf_Ex (rf_Call (rf_aC rf_v (rf_aC rf_c (rf_aC (rf_op ok_pow rf_c rf_c) rf_aN))))) (rf_Ret (rf_T (rf_aC rf_v (rf_aC rf_v (rf_aC rf_v rf_aN)))))))⟩
def b_made_box : SF := (sSeq (sEx (eCall d_check_side (aC (eV 0) (aC (eC (.int 0)) (aC (eB gPow (eC (.int 10)) (eC (.int 42))) aN))))) (sSeq (sEx (eCall d_check_side (aC (eV 1) (aC (eC (.int 0)) (aC (eB gPow (eC (.int 10)) (eC (.int 42))) aN))))) (sRet (eT (aC (eV 0) (aC (eV 1) aN))))))
def d_made_box : List D → Option R1 := fD 2 2 b_made_box
theorem sc_made_box : FnScope ["w", "h"] ["w", "h"] (defScope s_made_box) := ⟨rfl, rfl, rfl, by decide +kernel, rfl, by decide +kernel, by decide +kernel⟩
theorem ok_made_box {f : Addr} {fd : FuncData} (F : Fun K "made_box" "made_box" s_made_box f fd) (T : Txt K mg c) (G_check_side : Own P w K mg base 5 "check_side" ["side", "least", "most"] (spD K c d_check_side)) : FnOk P w K mg base (CXe P w) 7 f fd ["w", "h"] (spD K c d_made_box) :=
 F.okD (k := 6) sc_made_box fun cdv A outer s H E hr => ⟨_, (pss_cons (ps_expr (pe_own G_check_side hr (by decide) (XAcc.passes acc_def) (pa_cons (pv 0) (pa_cons pe_int (pa_cons (pe_op op_pow pe_int pe_int) pa_nil))))) (pss_cons (ps_expr (pe_own G_check_side hr (by decide) (XAcc.passes acc_def) (pa_cons (pv 1) (pa_cons pe_int (pa_cons (pe_op op_pow pe_int pe_int) pa_nil))))) (pss_one (ps_ret (pe_tup (pa_cons (pv 0) (pa_cons (pv 1) pa_nil))))))), (rf_Seq (rf_Ex (rf_Call (rf_aC rf_v (rf_aC rf_c (rf_aC (rf_op ok_pow rf_c rf_c) rf_aN))))) (rf_Seq (rf_Ex (rf_Call (rf_aC rf_v (rf_aC rf_c (rf_aC (rf_op ok_pow rf_c rf_c) rf_aN))))) (rf_Ret (rf_T (rf_aC rf_v (rf_aC rf_v rf_aN))))))⟩
def b_shown_ware : SF := (sSeq (sAsg (eV 0) (bTup [(bName 1), (bName 2), (bName 3)])) (sSeq (sSet 4 (eIf (bZ (eV 3)) (eC (.str "+")) (eC (.str "")))) (sRet (eJ (jC (eFmt (eV 1)) (jC (eC (.str "x")) (jC (eFmt (eV 2)) (jC (eFmt (eV 4)) jN))))))))
def d_shown_ware : List D → Option R1 := fD 5 1 b_shown_ware
theorem sc_shown_ware : FnScope ["ware", "w", "h", "turns", "mark"] ["ware"] (defScope s_shown_ware) := ⟨rfl, rfl, rfl, by decide +kernel, rfl, by decide +kernel, by decide +kernel⟩
theorem ok_shown_ware {f : Addr} {fd : FuncData} (F : Fun K "shown_ware" "shown_ware" s_shown_ware f fd) (T : Txt K mg c)  : FnOk P w K mg base (CXe P w) 3 f fd ["ware"] (spD K c d_shown_ware) :=
 F.okD (k := 2) sc_shown_ware fun cdv A outer s H E hr => ⟨_, (pss_cons (ps_asg (pv 0) (pgK_tup (K := K) (n := 3) rfl (pgs_cons (pg_name (i := 1) sc_shown_ware.nd rfl (Or.inl rfl)) (pgs_cons (pg_name (i := 2) sc_shown_ware.nd rfl (Or.inl rfl)) (pgs_cons (pg_name (i := 3) sc_shown_ware.nd rfl (Or.inl rfl)) pgs_nil))))) (pss_cons (ps_set (i := 4) sc_shown_ware.nd rfl (Or.inl rfl) (pe_ifExp (pt_val (pv 3)) pe_str pe_str)) (pss_one (ps_ret (pe_joined (pj_cons (pe_fmt (pv 1)) (pj_cons pe_str (pj_cons (pe_fmt (pv 2)) (pj_cons (pe_fmt (pv 4)) pj_nil))))))))), (rf_Seq (rf_Asg rf_v (rf_gTup (rf_gCons (rf_gName (k := 5) (by decide)) (rf_gCons (rf_gName (k := 5) (by decide)) (rf_gCons (rf_gName (k := 5) (by decide)) rf_gNil))) rfl)) (rf_Seq (rf_Set (rf_If (rf_bZ rf_v) rf_c rf_c)) (rf_Ret (rf_J (rf_jC (rf_Fmt rf_v) (rf_jC rf_c (rf_jC (rf_Fmt rf_v) (rf_jC (rf_Fmt rf_v) rf_jN))))))))⟩
def b_shown_case : SF := (sSeq (sAsg (eV 0) (bTup [(bName 2), (bName 3)])) (sRet (zJoin (eC (.str " ")) (zN (nB gCat (zN (eL (aC (eJ (jC (eFmt (eV 2)) (jC (eC (.str "x")) (jC (eFmt (eV 3)) (jC (eC (.str ":")) jN))))) aN))) (zN (nCompV 1 1 [] (bName 0) bTrue (eCall0 d_shown_ware (aC (eV 0) aN)))))))))
def d_shown_case : List D → Option R1 := fD 4 2 b_shown_case
theorem sc_shown_case : FnScope ["box", "wares", "w", "h"] ["box", "wares"] (defScope s_shown_case) := ⟨rfl, rfl, rfl, by decide +kernel, rfl, by decide +kernel, by decide +kernel⟩
theorem ok_shown_case {f : Addr} {fd : FuncData} (F : Fun K "shown_case" "shown_case" s_shown_case f fd) (T : Txt K mg c) (G_shown_ware : Own P w K mg base 3 "shown_ware" ["ware"] (spD K c d_shown_ware)) : FnOk P w K mg base (CXe P w) 5 f fd ["box", "wares"] (spD K c d_shown_case) :=
 F.okD (k := 4) sc_shown_case fun cdv A outer s H E hr => ⟨_, (pss_cons (ps_asg (pv 0) (pgK_tup (K := K) (n := 2) rfl (pgs_cons (pg_name (i := 2) sc_shown_case.nd rfl (Or.inl rfl)) (pgs_cons (pg_name (i := 3) sc_shown_case.nd rfl (Or.inl rfl)) pgs_nil)))) (pss_one (ps_ret (pe_bmK (K := K) PySem.F.plainAttrs_str PySem.F.slot_str_join PySem.F.type_str_join (mtK_join (K := K)) pe_str (pa_cons (pe_op op_cat (pe_lst (pa_cons (pe_joined (pj_cons (pe_fmt (pv 2)) (pj_cons pe_str (pj_cons (pe_fmt (pv 3)) (pj_cons pe_str pj_nil))))) pa_nil)) (pe_comp (Nc := ["ware"]) (k := 1) (js := []) rfl ⟨by decide +kernel, rfl, by decide +kernel, (by change ∀ y ∈ Scope.names _, y.2 = NameKind.free → (defScope s_shown_case).names.lookup y.1 = some .cell ∨ (defScope s_shown_case).names.lookup y.1 = some .free; decide +kernel), by decide +kernel, rfl, rfl, by decide +kernel⟩ (pi_list (pv 1)) (fun _ _ _ _ _ => (pg_name (i := 0) (by show List.Nodup [("ware" : Str)]; decide +kernel) rfl (Or.inl rfl))) (fun _ _ _ _ _ => pf_nil) (fun _ _ _ _ _ => (pe_own G_shown_ware hr (by decide) pass0e (pa_cons (pv 0) pa_nil))))) pa_nil))))), (rf_Seq (rf_Asg rf_v (rf_gTup (rf_gCons (rf_gName (k := 4) (by decide)) (rf_gCons (rf_gName (k := 4) (by decide)) rf_gNil)) rfl)) (rf_Ret (rf_Join rf_c (rf_zN (rf_nB ok_cat (rf_zN (rf_L (rf_aC (rf_J (rf_jC (rf_Fmt rf_v) (rf_jC rf_c (rf_jC (rf_Fmt rf_v) (rf_jC rf_c rf_jN))))) rf_aN))) (rf_zN (rf_CompV (by decide) (rf_gName (k := 1) (by decide)) rf_bTrue (rf_Call0 (rf_aC rf_v rf_aN)))))))))⟩
def b_read_number : SF := (sSeq (sIf (bOr (bZ (eB (gEq false) (eCB (g1 gLenS) (aC (eV 0) aN)) (eC (.int 0)))) (bZ (eB gGt (eCB (g1 gLenS) (aC (eV 0) aN)) (eC (.int 43))))) (sRaise "NoText" (aC (eC (.str "a number is missing or too long")) aN)) sNx) (sSeq (sIf (bZ (eCB (g1 gAny) (aC (zN (nCompS 1 [] (eV 0) (bName 0) bTrue (eB gNiS (eV 0) (eC (.str "0123456789"))))) aN))) (sRaise "NoText" (aC (eC (.str "a number has figures alone")) aN)) sNx) (sSeq (sIf (bAnd (bZ (eB (gEq false) (eB gIxS (eV 0) (eC (.int 0))) (eC (.str "0")))) (bZ (eB (gEq true) (eV 0) (eC (.str "0"))))) (sRaise "NoText" (aC (eC (.str "a number has no 0 ahead")) aN)) sNx) (sRet (eCB (g1 gIntS) (aC (eV 0) aN))))))
def d_read_number : List D → Option R1 := fD 1 1 b_read_number
theorem sc_read_number : FnScope ["text"] ["text"] (defScope s_read_number) := ⟨rfl, rfl, rfl, by decide +kernel, rfl, by decide +kernel, by decide +kernel⟩
theorem ok_read_number {f : Addr} {fd : FuncData} (F : Fun K "read_number" "read_number" s_read_number f fd) (T : Txt K mg c)  : FnOk P w K mg base (CXe P w) 3 f fd ["text"] (spD K c d_read_number) :=
 F.okD (k := 2) sc_read_number fun cdv A outer s H E hr => ⟨_, (pss_cons (ps_if (PW.pt (pw_or (pt_cmpR op_eq (pe_callB call_len_str rfl T.z_len bt_len (pa_cons (pv 0) pa_nil)) pe_int (nomark _)) (pw_or1 (pt_cmpR op_gt (pe_callB call_len_str rfl T.z_len bt_len (pa_cons (pv 0) pa_nil)) (pe_gconst rfl T.v_MOST_FIGURES_texts) (nomark _))))) (pss_one (ps_raise acc_def T.x_NoText rfl T.m_NoText (pa_cons pe_str pa_nil))) pss_nil) (pss_cons (ps_if (pt_val (pe_callB (callK_any (K := K)) rfl T.z_any bt_any (pa_cons (pe_comp (Nc := ["sign"]) (k := 1) (js := []) rfl ⟨by decide +kernel, rfl, by decide +kernel, (by change ∀ y ∈ Scope.names _, y.2 = NameKind.free → (defScope s_read_number).names.lookup y.1 = some .cell ∨ (defScope s_read_number).names.lookup y.1 = some .free; decide +kernel), by decide +kernel, rfl, rfl, by decide +kernel⟩ (pi_str (pv 0)) (fun _ _ _ _ _ => (pg_name (i := 0) (by show List.Nodup [("sign" : Str)]; decide +kernel) rfl (Or.inl rfl))) (fun _ _ _ _ _ => pf_nil) (fun _ _ _ _ _ => (pe_cmpR op_notIn_str (pv 0) (pe_gconst rfl T.v_FIGURES) (by with_unfolding_all rfl)))) pa_nil))) (pss_one (ps_raise acc_def T.x_NoText rfl T.m_NoText (pa_cons pe_str pa_nil))) pss_nil) (pss_cons (ps_if (PW.pt (pw_and (pt_cmpR op_eq (pe_ix ix_str (pv 0) pe_int (fun _ _ => rfl)) pe_str (nomark _)) (pw_and1 (pt_cmpR op_ne (pv 0) pe_str (nomark _))))) (pss_one (ps_raise acc_def T.x_NoText rfl T.m_NoText (pa_cons pe_str pa_nil))) pss_nil) (pss_one (ps_ret (pe_callTy call_int_str rfl T.z_int bt_int (pa_cons (pv 0) pa_nil))))))), (rf_Seq (rf_If' (rf_bOr (rf_bT (rf_op ok_eq (rf_CB ok_lenS.cb (rf_aC rf_v rf_aN)) rf_c)) (rf_bT (rf_op ok_gt (rf_CB ok_lenS.cb (rf_aC rf_v rf_aN)) rf_c))) (rf_Raise (rf_aC rf_c rf_aN)) rf_Nx) (rf_Seq (rf_If' (rf_bZ (rf_CB ok_any.cb (rf_aC (rf_zN (rf_CompS (by decide) rf_v (rf_gName (k := 1) (by decide)) rf_bTrue (rf_op ok_niS rf_v rf_c))) rf_aN))) (rf_Raise (rf_aC rf_c rf_aN)) rf_Nx) (rf_Seq (rf_If' (rf_bAnd (rf_bT (rf_op ok_eq (rf_op ok_ixS rf_v rf_c) rf_c)) (rf_bT (rf_op ok_ne rf_v rf_c))) (rf_Raise (rf_aC rf_c rf_aN)) rf_Nx) (rf_Ret (rf_CB ok_intS.cb (rf_aC rf_v rf_aN))))))⟩
def b_read_sides : SF := (sSeq (sAsg (zPart (eV 0) (eC (.str "x"))) (bTup [(bName 1), (bName 2), (bName 3)])) (sRet (eT (aC (eCall d_read_number (aC (eV 1) aN)) (aC (eCall d_read_number (aC (eV 3) aN)) aN)))))
def d_read_sides : List D → Option R1 := fD 4 1 b_read_sides
theorem sc_read_sides : FnScope ["text", "across", "cross", "up"] ["text"] (defScope s_read_sides) := ⟨rfl, rfl, rfl, by decide +kernel, rfl, by decide +kernel, by decide +kernel⟩
theorem ok_read_sides {f : Addr} {fd : FuncData} (F : Fun K "read_sides" "read_sides" s_read_sides f fd) (T : Txt K mg c) (G_read_number : Own P w K mg base 3 "read_number" ["text"] (spD K c d_read_number)) : FnOk P w K mg base (CXe P w) 5 f fd ["text"] (spD K c d_read_sides) :=
 F.okD (k := 4) sc_read_sides fun cdv A outer s H E hr => ⟨_, (pss_cons (ps_asg (pe_bmK (K := K) PySem.F.plainAttrs_str PySem.F.slot_str_partition PySem.F.type_str_partition mt_part (pv 0) (pa_cons pe_str pa_nil)) (pgK_tup (K := K) (n := 3) rfl (pgs_cons (pg_name (i := 1) sc_read_sides.nd rfl (Or.inl rfl)) (pgs_cons (pg_name (i := 2) sc_read_sides.nd rfl (Or.inl rfl)) (pgs_cons (pg_name (i := 3) sc_read_sides.nd rfl (Or.inl rfl)) pgs_nil))))) (pss_one (ps_ret (pe_tup (pa_cons (pe_own G_read_number hr (by decide) (XAcc.passes acc_def) (pa_cons (pv 1) pa_nil)) (pa_cons (pe_own G_read_number hr (by decide) (XAcc.passes acc_def) (pa_cons (pv 3) pa_nil)) pa_nil)))))), (rf_Seq (rf_Asg (rf_Part rf_v rf_c) (rf_gTup (rf_gCons (rf_gName (k := 4) (by decide)) (rf_gCons (rf_gName (k := 4) (by decide)) (rf_gCons (rf_gName (k := 4) (by decide)) rf_gNil))) rfl)) (rf_Ret (rf_T (rf_aC (rf_Call (rf_aC rf_v rf_aN)) (rf_aC (rf_Call (rf_aC rf_v rf_aN)) rf_aN)))))⟩
def b_read_ware : SF := (sSeq (sSet 1 (zSM gEndswith (eV 0) (eC (.str "+")))) (sSeq (sAsg (eCall d_read_sides (aC (eIf (bZ (eV 1)) (zSlS (eV 0) oN (oS (eU gNeg (eC (.int 1))))) (eV 0)) aN)) (bTup [(bName 2), (bName 3)])) (sTryH 4 (sRetC d_made_ware (aC (eV 2) (aC (eV 3) (aC (eV 1) aN)))) (hCp xo_BadSide (sRaiseK "NoText" (aC (eC (.str "a ware's side is out of its range")) aN)) hN))))
def d_read_ware : List D → Option R1 := fD 4 1 b_read_ware
theorem sc_read_ware : FnScope ["text", "turns", "w", "h"] ["text"] (defScope s_read_ware) := ⟨rfl, rfl, rfl, by decide +kernel, rfl, by decide +kernel, by decide +kernel⟩
theorem ok_read_ware {f : Addr} {fd : FuncData} (F : Fun K "read_ware" "read_ware" s_read_ware f fd) (T : Txt K mg c) (G_read_sides : Own P w K mg base 5 "read_sides" ["text"] (spD K c d_read_sides)) (G_made_ware : OwnD P w K mg base 7 "made_ware" ["w", "h", "turns"] (spD K c d_made_ware) (.bl false)) : FnOk P w K mg base (CXe P w) 9 f fd ["text"] (spD K c d_read_ware) :=
 F.okD (k := 8) sc_read_ware fun cdv A outer s H E hr => ⟨_, (pss_cons (ps_set (i := 1) sc_read_ware.nd rfl (Or.inl rfl) (pe_bmK (K := K) PySem.F.plainAttrs_str PySem.F.slot_str_endswith PySem.F.type_str_endswith mt_endswith (pv 0) (pa_cons pe_str pa_nil))) (pss_cons (ps_asg (pe_own G_read_sides hr (by decide) (XAcc.passes acc_def) (pa_cons (pe_ifExp (pt_val (pv 1)) (pe_slice sl_str (pv 0) po_none (po_some (pe_un un_neg pe_int))) (pv 0)) pa_nil)) (pgK_tup (K := K) (n := 2) rfl (pgs_cons (pg_name (i := 2) sc_read_ware.nd rfl (Or.inl rfl)) (pgs_cons (pg_name (i := 3) sc_read_ware.nd rfl (Or.inl rfl)) pgs_nil)))) (pss_one (ps_tryH (fun Eh E2 pins acc po => (pss_one (ps_ret (pe_own G_made_ware.own hr (by decide) (XAcc.passes acc) (pa_cons (pv 2) (pa_cons (pv 3) (pa_cons (pv 1) pa_nil))))))) (ph_cK rfl T.m_BadSide (fun _ => PassesOwnAt.leaving) (fun a ok => (pss_one (ps_raiseN (XAcc.inExc acc_def ok) T.x_NoText rfl T.m_NoText (pa_cons pe_str pa_nil)))) ph_nil))))), (rf_Seq (rf_Set (rf_Endswith rf_v rf_c)) (rf_Seq (rf_Asg (rf_Call (rf_aC (rf_If (rf_bZ rf_v) (rf_SlS rf_v rf_oN (rf_oS (rf_U ok_neg rf_c))) rf_v) rf_aN)) (rf_gTup (rf_gCons (rf_gName (k := 4) (by decide)) (rf_gCons (rf_gName (k := 4) (by decide)) rf_gNil)) rfl)) (rf_TryH (fun Eh => (rf_RetC (rf_aC rf_v (rf_aC rf_v (rf_aC rf_v rf_aN))))) (rf_hCp (xo_BadSide_ok T) (fun a => (rf_RaiseK (rf_aC rf_c rf_aN))) rf_hN))))⟩
def b_read_box : SF := (sSeq (sAsg (eCall d_read_sides (aC (eV 0) aN)) (bTup [(bName 1), (bName 2)])) (sTryH 3 (sRetC d_made_box (aC (eV 1) (aC (eV 2) aN))) (hCp xo_BadSide (sRaiseK "NoText" (aC (eC (.str "a box's side is out of its range")) aN)) hN)))
def d_read_box : List D → Option R1 := fD 3 1 b_read_box
theorem sc_read_box : FnScope ["text", "w", "h"] ["text"] (defScope s_read_box) := ⟨rfl, rfl, rfl, by decide +kernel, rfl, by decide +kernel, by decide +kernel⟩
theorem ok_read_box {f : Addr} {fd : FuncData} (F : Fun K "read_box" "read_box" s_read_box f fd) (T : Txt K mg c) (G_read_sides : Own P w K mg base 5 "read_sides" ["text"] (spD K c d_read_sides)) (G_made_box : Own P w K mg base 7 "made_box" ["w", "h"] (spD K c d_made_box)) : FnOk P w K mg base (CXe P w) 9 f fd ["text"] (spD K c d_read_box) :=
 F.okD (k := 8) sc_read_box fun cdv A outer s H E hr => ⟨_, (pss_cons (ps_asg (pe_own G_read_sides hr (by decide) (XAcc.passes acc_def) (pa_cons (pv 0) pa_nil)) (pgK_tup (K := K) (n := 2) rfl (pgs_cons (pg_name (i := 1) sc_read_box.nd rfl (Or.inl rfl)) (pgs_cons (pg_name (i := 2) sc_read_box.nd rfl (Or.inl rfl)) pgs_nil)))) (pss_one (ps_tryH (fun Eh E2 pins acc po => (pss_one (ps_ret (pe_own G_made_box hr (by decide) (XAcc.passes acc) (pa_cons (pv 1) (pa_cons (pv 2) pa_nil)))))) (ph_cK rfl T.m_BadSide (fun _ => PassesOwnAt.leaving) (fun a ok => (pss_one (ps_raiseN (XAcc.inExc acc_def ok) T.x_NoText rfl T.m_NoText (pa_cons pe_str pa_nil)))) ph_nil)))), (rf_Seq (rf_Asg (rf_Call (rf_aC rf_v rf_aN)) (rf_gTup (rf_gCons (rf_gName (k := 3) (by decide)) (rf_gCons (rf_gName (k := 3) (by decide)) rf_gNil)) rfl)) (rf_TryH (fun Eh => (rf_RetC (rf_aC rf_v (rf_aC rf_v rf_aN)))) (rf_hCp (xo_BadSide_ok T) (fun a => (rf_RaiseK (rf_aC rf_c rf_aN))) rf_hN)))⟩
def b_read_case : SF := (sSeq (sAsg (zPart (eV 0) (eC (.str ":"))) (bTup [(bName 1), (bName 2), (bName 3)])) (sSeq (sIf (bZ (eB (gEq false) (eV 2) (eC (.str "")))) (sRaise "NoText" (aC (eC (.str "a case has a colon behind its box")) aN)) sNx) (sSeq (sSetC 4 d_read_box (aC (eV 1) aN)) (sSeq (sSetN 5 (nSplit (eV 3) (eC (.str " ")))) (sSeq (sIf (bZ (eB (gEq true) (eBV gIxL 5 (eC (.int 0))) (eC (.str "")))) (sRaise "NoText" (aC (eC (.str "a ware has a blank ahead of it")) aN)) sNx) (sRet (eT (aC (eV 4) (aC (zN (nComp 1 [] (zN (nSlV 5 (oS (eC (.int 1))) oN)) (bName 0) bTrue (eCall d_read_ware (aC (eV 0) aN)))) aN)))))))))
def d_read_case : List D → Option R1 := fD 6 1 b_read_case
theorem sc_read_case : FnScope ["text", "head", "colon", "tail", "box", "words"] ["text"] (defScope s_read_case) := ⟨rfl, rfl, rfl, by decide +kernel, rfl, by decide +kernel, by decide +kernel⟩
theorem ok_read_case {f : Addr} {fd : FuncData} (F : Fun K "read_case" "read_case" s_read_case f fd) (T : Txt K mg c) (G_read_box : Own P w K mg base 9 "read_box" ["text"] (spD K c d_read_box)) (G_read_ware : Own P w K mg base 9 "read_ware" ["text"] (spD K c d_read_ware)) : FnOk P w K mg base (CXe P w) 11 f fd ["text"] (spD K c d_read_case) :=
 F.okD (k := 10) sc_read_case fun cdv A outer s H E hr => ⟨_, (pss_cons (ps_asg (pe_bmK (K := K) PySem.F.plainAttrs_str PySem.F.slot_str_partition PySem.F.type_str_partition mt_part (pv 0) (pa_cons pe_str pa_nil)) (pgK_tup (K := K) (n := 3) rfl (pgs_cons (pg_name (i := 1) sc_read_case.nd rfl (Or.inl rfl)) (pgs_cons (pg_name (i := 2) sc_read_case.nd rfl (Or.inl rfl)) (pgs_cons (pg_name (i := 3) sc_read_case.nd rfl (Or.inl rfl)) pgs_nil))))) (pss_cons (ps_if (pt_cmpR op_eq (pv 2) pe_str (nomark _)) (pss_one (ps_raise acc_def T.x_NoText rfl T.m_NoText (pa_cons pe_str pa_nil))) pss_nil) (pss_cons (ps_set (i := 4) sc_read_case.nd rfl (Or.inl rfl) (pe_own G_read_box hr (by decide) (XAcc.passes acc_def) (pa_cons (pv 1) pa_nil))) (pss_cons (ps_set (i := 5) sc_read_case.nd rfl (Or.inl rfl) (pe_bmK (K := K) PySem.F.plainAttrs_str PySem.F.slot_str_split PySem.F.type_str_split mt_spl (pv 3) (pa_cons pe_str pa_nil))) (pss_cons (ps_if (pt_cmpR op_ne (pe_ix (ixK_list (K := K)) (pv 5) pe_int (fun _ _ => rfl)) pe_str (nomark _)) (pss_one (ps_raise acc_def T.x_NoText rfl T.m_NoText (pa_cons pe_str pa_nil))) pss_nil) (pss_one (ps_ret (pe_tup (pa_cons (pv 4) (pa_cons (pe_compX (Nc := ["word"]) (k := 1) (js := []) acc_def rfl ⟨by decide +kernel, rfl, by decide +kernel, (by change ∀ y ∈ Scope.names _, y.2 = NameKind.free → (defScope s_read_case).names.lookup y.1 = some .cell ∨ (defScope s_read_case).names.lookup y.1 = some .free; decide +kernel), by decide +kernel, rfl, rfl, by decide +kernel⟩ (pi_list (pe_slice (slK_list (K := K)) (pv 5) (po_some pe_int) po_none)) (fun _ _ _ _ _ => (pg_name (i := 0) (by show List.Nodup [("word" : Str)]; decide +kernel) rfl (Or.inl rfl))) (fun _ _ _ _ _ => pf_nil) (fun _ _ _ _ _ ac => (pe_own G_read_ware hr (by decide) (XAcc.passes ac) (pa_cons (pv 0) pa_nil)))) pa_nil)))))))))), (rf_Seq (rf_Asg (rf_Part rf_v rf_c) (rf_gTup (rf_gCons (rf_gName (k := 6) (by decide)) (rf_gCons (rf_gName (k := 6) (by decide)) (rf_gCons (rf_gName (k := 6) (by decide)) rf_gNil))) rfl)) (rf_Seq (rf_If' (rf_bT (rf_op ok_eq rf_v rf_c)) (rf_Raise (rf_aC rf_c rf_aN)) rf_Nx) (rf_Seq (rf_SetC (rf_aC rf_v rf_aN)) (rf_Seq (rf_SetN (rf_Split rf_v rf_c)) (rf_Seq (rf_If' (rf_bT (rf_op ok_ne (rf_opV ok_ixL rf_c) rf_c)) (rf_Raise (rf_aC rf_c rf_aN)) rf_Nx) (rf_Ret (rf_T (rf_aC rf_v (rf_aC (rf_zN (rf_Comp (by decide) (rf_zN (rf_SlV (rf_oS rf_c) rf_oN)) (rf_gName (k := 1) (by decide)) rf_bTrue (rf_Call (rf_aC rf_v rf_aN)))) rf_aN)))))))))⟩
def b_read_rest : SF := (sSeq (sTryH 2 (sSeq (sIf (bZ (eB (gEq false) (eV 0) (eC (.str "box")))) (sRetC d_read_box (aC (eV 1) aN)) sNx) (sSeq (sIf (bZ (eB (gEq false) (eV 0) (eC (.str "put")))) (sRetC d_read_ware (aC (eV 1) aN)) sNx) (sIf (bAnd (bZ (eB (gEq false) (eV 0) (eC (.str "drop")))) (bZ (eB gLe (eCB (g1 gLenS) (aC (eV 1) aN)) (eC (.int 6))))) (sRetC d_read_number (aC (eV 1) aN)) sNx))) (hCp xo_NoText (sRaiseK "NoDeed" (aC (eC (.str "what stands behind the word is not written as it should be")) aN)) hN)) (sRaise "NoDeed" (aC (eC (.str "there is no such row")) aN)))
def d_read_rest : List D → Option R1 := fD 2 2 b_read_rest
theorem sc_read_rest : FnScope ["word", "rest"] ["word", "rest"] (defScope s_read_rest) := ⟨rfl, rfl, rfl, by decide +kernel, rfl, by decide +kernel, by decide +kernel⟩
theorem ok_read_rest {f : Addr} {fd : FuncData} (F : Fun K "read_rest" "read_rest" s_read_rest f fd) (T : Txt K mg c) (G_read_box : Own P w K mg base 9 "read_box" ["text"] (spD K c d_read_box)) (G_read_ware : Own P w K mg base 9 "read_ware" ["text"] (spD K c d_read_ware)) (G_read_number : Own P w K mg base 3 "read_number" ["text"] (spD K c d_read_number)) : FnOk P w K mg base (CXe P w) 11 f fd ["word", "rest"] (spD K c d_read_rest) :=
 F.okD (k := 10) sc_read_rest fun cdv A outer s H E hr => ⟨_, (pss_cons (ps_tryH (fun Eh E2 pins acc po => (pss_cons (ps_if (pt_cmpR op_eq (pv 0) pe_str (nomark _)) (pss_one (ps_ret (pe_own G_read_box hr (by decide) (XAcc.passes acc) (pa_cons (pv 1) pa_nil)))) pss_nil) (pss_cons (ps_if (pt_cmpR op_eq (pv 0) pe_str (nomark _)) (pss_one (ps_ret (pe_own G_read_ware hr (by decide) (XAcc.passes acc) (pa_cons (pv 1) pa_nil)))) pss_nil) (pss_one (ps_if (PW.pt (pw_and (pt_cmpR op_eq (pv 0) pe_str (nomark _)) (pw_and1 (pt_cmpR op_le (pe_callB call_len_str rfl T.z_len bt_len (pa_cons (pv 1) pa_nil)) (pe_gconst rfl T.v_MOST_FIGURES_desk) (nomark _))))) (pss_one (ps_ret (pe_own G_read_number hr (by decide) (XAcc.passes acc) (pa_cons (pv 1) pa_nil)))) pss_nil))))) (ph_cK rfl T.m_NoText (fun _ => PassesOwnAt.leaving) (fun a ok => (pss_one (ps_raiseN (XAcc.inExc acc_def ok) T.x_NoDeed rfl T.m_NoDeed (pa_cons pe_str pa_nil)))) ph_nil)) (pss_one (ps_raise acc_def T.x_NoDeed rfl T.m_NoDeed (pa_cons pe_str pa_nil)))), (rf_Seq (rf_TryH (fun Eh => (rf_Seq (rf_If' (rf_bT (rf_op ok_eq rf_v rf_c)) (rf_RetC (rf_aC rf_v rf_aN)) rf_Nx) (rf_Seq (rf_If' (rf_bT (rf_op ok_eq rf_v rf_c)) (rf_RetC (rf_aC rf_v rf_aN)) rf_Nx) (rf_If' (rf_bAnd (rf_bT (rf_op ok_eq rf_v rf_c)) (rf_bT (rf_op ok_le (rf_CB ok_lenS.cb (rf_aC rf_v rf_aN)) rf_c))) (rf_RetC (rf_aC rf_v rf_aN)) rf_Nx)))) (rf_hCp (xo_NoText_ok T) (fun a => (rf_RaiseK (rf_aC rf_c rf_aN))) rf_hN)) (rf_Raise (rf_aC rf_c rf_aN)))⟩
def b_l_cell : SF := (sSeq (sIf (bZ (eB gLt (eV 1) (eCV gLen 0))) (sRet (eBV gIxL 0 (eV 1))) sNx) (sRet (eC (.int 0))))
def d_l_cell : List D → Option R1 := fD 2 2 b_l_cell
theorem sc_l_cell : FnScope ["_law_script", "_law_k"] ["_law_script", "_law_k"] (defScope s_l_cell) := ⟨rfl, rfl, rfl, by decide +kernel, rfl, by decide +kernel, by decide +kernel⟩
theorem ok_l_cell {f : Addr} {fd : FuncData} (F : Fun K "_law_cell" "_law_cell" s_l_cell f fd) (T : Txt K mg c)  : FnOk P w K mg base (CXe P w) 3 f fd ["_law_script", "_law_k"] (spD K c d_l_cell) :=
 F.okD (k := 2) sc_l_cell fun cdv A outer s H E hr => ⟨_, (pss_cons (ps_if (pt_cmpR op_lt (pv 1) (pe_callB (callK_len_seq (K := K)) rfl T.z_len bt_len (pa_cons (pv 0) pa_nil)) (nomark _)) (pss_one (ps_ret (pe_ix (ixK_list (K := K)) (pv 0) (pv 1) (fun _ _ => rfl)))) pss_nil) (pss_one (ps_ret pe_int))), (rf_Seq (rf_If' (rf_bT (rf_op ok_lt rf_v (rf_CV ok_len))) (rf_Ret (rf_opV ok_ixL rf_v)) rf_Nx) (rf_Ret rf_c))⟩
def b_l_whole : SF := (sRet (eAnd (eIsiV 0 "int") (eNot (eIsiV 0 "bool"))))
def d_l_whole : List D → Option R1 := fD 1 1 b_l_whole
theorem sc_l_whole : FnScope ["_law_found"] ["_law_found"] (defScope s_l_whole) := ⟨rfl, rfl, rfl, by decide +kernel, rfl, by decide +kernel, by decide +kernel⟩
theorem ok_l_whole {f : Addr} {fd : FuncData} (F : Fun K "_law_whole" "_law_whole" s_l_whole f fd) (T : Txt K mg c)  : FnOk P w K mg base (CXe P w) 3 f fd ["_law_found"] (spD K c d_l_whole) :=
 F.okD (k := 2) sc_l_whole fun cdv A outer s H E hr => ⟨_, (pss_one (ps_ret (pe_and (pe_callB (callK_isi (K := K)) rfl T.z_isinstance bt_isinstance (pa_cons (pv 0) (pa_cons (pe_bltn (v := .ty "int") rfl T.z_int bt_int rfl) pa_nil))) (pe_one (pe_not (pe_callB (callK_isi (K := K)) rfl T.z_isinstance bt_isinstance (pa_cons (pv 0) (pa_cons (pe_bltn (v := .ty "bool") rfl T.z_bool bt_bool rfl) pa_nil)))))))), (rf_Ret (rf_And rf_IsiV (rf_Not rf_IsiV)))⟩
def b_l_ware_row : SF := (sSeq (sSet 1 (eB gAddS (eB gAddS (eCB (g1 gStr1) (aC (eB gIxT (eV 0) (eC (.int 0))) aN)) (eC (.str "x"))) (eCB (g1 gStr1) (aC (eB gIxT (eV 0) (eC (.int 1))) aN)))) (sSeq (sIf (bZ (eB gIxT (eV 0) (eC (.int 2)))) (sSet 1 (eB gAddS (eV 1) (eC (.str "+")))) sNx) (sRetV 1)))
def d_l_ware_row : List D → Option R1 := fD 2 1 b_l_ware_row
theorem sc_l_ware_row : FnScope ["_law_ware", "_law_row"] ["_law_ware"] (defScope s_l_ware_row) := ⟨rfl, rfl, rfl, by decide +kernel, rfl, by decide +kernel, by decide +kernel⟩
theorem ok_l_ware_row {f : Addr} {fd : FuncData} (F : Fun K "_law_ware_row" "_law_ware_row" s_l_ware_row f fd) (T : Txt K mg c)  : FnOk P w K mg base (CXe P w) 3 f fd ["_law_ware"] (spD K c d_l_ware_row) :=
 F.okD (k := 2) sc_l_ware_row fun cdv A outer s H E hr => ⟨_, (pss_cons (ps_set (i := 1) sc_l_ware_row.nd rfl (Or.inl rfl) (pe_op op_add_str (pe_op op_add_str (pe_callTy call_str_int rfl T.z_str bt_str (pa_cons (pe_ix (ixK_tup (K := K)) (pv 0) pe_int (fun _ _ => rfl)) pa_nil)) pe_str) (pe_callTy call_str_int rfl T.z_str bt_str (pa_cons (pe_ix (ixK_tup (K := K)) (pv 0) pe_int (fun _ _ => rfl)) pa_nil)))) (pss_cons (ps_if (pt_val (pe_ix (ixK_tup (K := K)) (pv 0) pe_int (fun _ _ => rfl))) (pss_one (ps_set (i := 1) sc_l_ware_row.nd rfl (Or.inl rfl) (pe_op op_add_str (pv 1) pe_str))) pss_nil) (pss_one (ps_ret (pv 1))))), (rf_Seq (rf_Set (rf_op ok_addS (rf_op ok_addS (rf_CB ok_str1.cb (rf_aC (rf_op ok_ixT rf_v rf_c) rf_aN)) rf_c) (rf_CB ok_str1.cb (rf_aC (rf_op ok_ixT rf_v rf_c) rf_aN)))) (rf_Seq (rf_If' (rf_bZ (rf_op ok_ixT rf_v rf_c)) (rf_Set (rf_op ok_addS rf_v rf_c)) rf_Nx) rf_RetV))⟩
def b_l_case_row : SF := (sRet (zJoin (eC (.str " ")) (zN (nB gCat (zN (eL (aC (eB gAddS (eB gAddS (eB gAddS (eCB (g1 gStr1) (aC (eB gIxT (eV 0) (eC (.int 0))) aN)) (eC (.str "x"))) (eCB (g1 gStr1) (aC (eB gIxT (eV 0) (eC (.int 1))) aN))) (eC (.str ":"))) aN))) (zN (nCompV 1 1 [] (bName 0) bTrue (eCall0 d_l_ware_row (aC (eV 0) aN))))))))
def d_l_case_row : List D → Option R1 := fD 2 2 b_l_case_row
theorem sc_l_case_row : FnScope ["_law_box", "_law_wares"] ["_law_box", "_law_wares"] (defScope s_l_case_row) := ⟨rfl, rfl, rfl, by decide +kernel, rfl, by decide +kernel, by decide +kernel⟩
theorem ok_l_case_row {f : Addr} {fd : FuncData} (F : Fun K "_law_case_row" "_law_case_row" s_l_case_row f fd) (T : Txt K mg c) (G_l_ware_row : Own P w K mg base 3 "_law_ware_row" ["_law_ware"] (spD K c d_l_ware_row)) : FnOk P w K mg base (CXe P w) 5 f fd ["_law_box", "_law_wares"] (spD K c d_l_case_row) :=
 F.okD (k := 4) sc_l_case_row fun cdv A outer s H E hr => ⟨_, (pss_one (ps_ret (pe_bmK (K := K) PySem.F.plainAttrs_str PySem.F.slot_str_join PySem.F.type_str_join (mtK_join (K := K)) pe_str (pa_cons (pe_op op_cat (pe_lst (pa_cons (pe_op op_add_str (pe_op op_add_str (pe_op op_add_str (pe_callTy call_str_int rfl T.z_str bt_str (pa_cons (pe_ix (ixK_tup (K := K)) (pv 0) pe_int (fun _ _ => rfl)) pa_nil)) pe_str) (pe_callTy call_str_int rfl T.z_str bt_str (pa_cons (pe_ix (ixK_tup (K := K)) (pv 0) pe_int (fun _ _ => rfl)) pa_nil))) pe_str) pa_nil)) (pe_comp (Nc := ["_law_ware"]) (k := 1) (js := []) rfl ⟨by decide +kernel, rfl, by decide +kernel, (by change ∀ y ∈ Scope.names _, y.2 = NameKind.free → (defScope s_l_case_row).names.lookup y.1 = some .cell ∨ (defScope s_l_case_row).names.lookup y.1 = some .free; decide +kernel), by decide +kernel, rfl, rfl, by decide +kernel⟩ (pi_list (pv 1)) (fun _ _ _ _ _ => (pg_name (i := 0) (by show List.Nodup [("_law_ware" : Str)]; decide +kernel) rfl (Or.inl rfl))) (fun _ _ _ _ _ => pf_nil) (fun _ _ _ _ _ => (pe_own G_l_ware_row hr (by decide) pass0e (pa_cons (pv 0) pa_nil))))) pa_nil)))), (rf_Ret (rf_Join rf_c (rf_zN (rf_nB ok_cat (rf_zN (rf_L (rf_aC (rf_op ok_addS (rf_op ok_addS (rf_op ok_addS (rf_CB ok_str1.cb (rf_aC (rf_op ok_ixT rf_v rf_c) rf_aN)) rf_c) (rf_CB ok_str1.cb (rf_aC (rf_op ok_ixT rf_v rf_c) rf_aN))) rf_c) rf_aN))) (rf_zN (rf_CompV (by decide) (rf_gName (k := 1) (by decide)) rf_bTrue (rf_Call0 (rf_aC rf_v rf_aN))))))))⟩
def b_l_side : SF := (sSeq (sIf (bZ (eB (gEq false) (eB gMod (eV 0) (eC (.int 3))) (eC (.int 0)))) (sRet (eB gAdd (eC (.int 1)) (eB gMod (eB gDiv (eV 0) (eC (.int 3))) (eV 1)))) sNx) (sRet (eB gAdd (eC (.int 1)) (eB gMod (eB gDiv (eV 0) (eC (.int 3))) (eC (.int 30))))))
def d_l_side : List D → Option R1 := fD 2 2 b_l_side
theorem sc_l_side : FnScope ["_law_cell_here", "_law_most"] ["_law_cell_here", "_law_most"] (defScope s_l_side) := ⟨rfl, rfl, rfl, by decide +kernel, rfl, by decide +kernel, by decide +kernel⟩
theorem ok_l_side {f : Addr} {fd : FuncData} (F : Fun K "_law_side" "_law_side" s_l_side f fd) (T : Txt K mg c)  : FnOk P w K mg base (CXe P w) 3 f fd ["_law_cell_here", "_law_most"] (spD K c d_l_side) :=
 F.okD (k := 2) sc_l_side fun cdv A outer s H E hr => ⟨_, (pss_cons (ps_if (pt_cmpR op_eq (pe_op op_mod (pv 0) pe_int) pe_int (nomark _)) (pss_one (ps_ret (pe_op op_add pe_int (pe_op op_mod (pe_op op_fdivB (pv 0) pe_int) (pv 1))))) pss_nil) (pss_one (ps_ret (pe_op op_add pe_int (pe_op op_mod (pe_op op_fdivB (pv 0) pe_int) pe_int))))), (rf_Seq (rf_If' (rf_bT (rf_op ok_eq (rf_op ok_mod rf_v rf_c) rf_c)) (rf_Ret (rf_op ok_add rf_c (rf_op ok_mod (rf_op ok_div rf_v rf_c) rf_v))) rf_Nx) (rf_Ret (rf_op ok_add rf_c (rf_op ok_mod (rf_op ok_div rf_v rf_c) rf_c))))⟩
def b_l_drawn_ware : SF := (sSeq (sSetC0 1 d_l_side (aC (eB gDiv (eV 0) (eC (.int 2))) (aC (eB gPow (eC (.int 10)) (eC (.int 40))) aN))) (sSeq (sSetC0 2 d_l_side (aC (eB gAdd (eB gMod (eB gMul (eB gDiv (eV 0) (eC (.int 2))) (eC (.int 48271))) (eC (.int 1000003))) (eB gDiv (eV 0) (eC (.int 7)))) (aC (eB gPow (eC (.int 10)) (eC (.int 40))) aN))) (sRet (eT (aC (eV 1) (aC (eV 2) (aC (eB (gEq false) (eB gMod (eV 0) (eC (.int 2))) (eC (.int 1))) aN)))))))
def d_l_drawn_ware : List D → Option R1 := fD 3 1 b_l_drawn_ware
theorem sc_l_drawn_ware : FnScope ["_law_cell_here", "_law_w", "_law_h"] ["_law_cell_here"] (defScope s_l_drawn_ware) := ⟨rfl, rfl, rfl, by decide +kernel, rfl, by decide +kernel, by decide +kernel⟩
theorem ok_l_drawn_ware {f : Addr} {fd : FuncData} (F : Fun K "_law_drawn_ware" "_law_drawn_ware" s_l_drawn_ware f fd) (T : Txt K mg c) (G_l_side : Own P w K mg base 3 "_law_side" ["_law_cell_here", "_law_most"] (spD K c d_l_side)) : FnOk P w K mg base (CXe P w) 5 f fd ["_law_cell_here"] (spD K c d_l_drawn_ware) :=
 F.okD (k := 4) sc_l_drawn_ware fun cdv A outer s H E hr => ⟨_, (pss_cons (ps_set (i := 1) sc_l_drawn_ware.nd rfl (Or.inl rfl) (pe_own G_l_side hr (by decide) pass0e (pa_cons (pe_op op_fdivB (pv 0) pe_int) (pa_cons (pe_op op_pow pe_int pe_int) pa_nil)))) (pss_cons (ps_set (i := 2) sc_l_drawn_ware.nd rfl (Or.inl rfl) (pe_own G_l_side hr (by decide) pass0e (pa_cons (pe_op op_add (pe_op op_mod (pe_op op_mulB (pe_op op_fdivB (pv 0) pe_int) pe_int) pe_int) (pe_op op_fdivB (pv 0) pe_int)) (pa_cons (pe_op op_pow pe_int pe_int) pa_nil)))) (pss_one (ps_ret (pe_tup (pa_cons (pv 1) (pa_cons (pv 2) (pa_cons (pe_cmpR op_eq (pe_op op_mod (pv 0) pe_int) pe_int (nomark _)) pa_nil)))))))), (rf_Seq (rf_SetC0 (rf_aC (rf_op ok_div rf_v rf_c) (rf_aC (rf_op ok_pow rf_c rf_c) rf_aN))) (rf_Seq (rf_SetC0 (rf_aC (rf_op ok_add (rf_op ok_mod (rf_op ok_mul (rf_op ok_div rf_v rf_c) rf_c) rf_c) (rf_op ok_div rf_v rf_c)) (rf_aC (rf_op ok_pow rf_c rf_c) rf_aN))) (rf_Ret (rf_T (rf_aC rf_v (rf_aC rf_v (rf_aC (rf_op ok_eq (rf_op ok_mod rf_v rf_c) rf_c) rf_aN)))))))⟩
def b_l_start : SF := (sSeq (sSetN 1 (eL aN)) (sSeq (sSetC0 2 d_l_cell (aC (eV 0) (aC (eC (.int 0)) aN))) (sSeq (sIf (bZ (eB (gEq false) (eB gMod (eV 2) (eC (.int 3))) (eC (.int 1)))) (sSetN 1 (nCompR rng1 1 [2] (aC (eB gMod (eB gDiv (eV 2) (eC (.int 3))) (eC (.int 23))) aN) (bName 0) bTrue (eCall0 d_l_drawn_ware (aC (eB gAdd (eB gDiv (eV 1) (eC (.int 9))) (eB gMul (eB gMul (eC (.int 977)) (eV 0)) (eV 0))) aN)))) sNx) (sSeq (sIf (bZ (eB (gEq false) (eB gMod (eV 2) (eC (.int 3))) (eC (.int 0)))) (sRet (eT (aC (eT (aC (eC (.int 10)) (aC (eC (.int 10)) aN))) (aC (eV 1) aN)))) sNx) (sRet (eT (aC (eT (aC (eB gSub' (eCall0 d_l_side (aC (eB gDiv (eV 2) (eC (.int 3))) (aC (eB gPow (eC (.int 10)) (eC (.int 42))) aN))) (eC (.int 1))) (aC (eCall0 d_l_side (aC (eB gDiv (eV 2) (eC (.int 5))) (aC (eB gPow (eC (.int 10)) (eC (.int 42))) aN))) aN))) (aC (eV 1) aN))))))))
def d_l_start : List D → Option R1 := fD 3 1 b_l_start
theorem sc_l_start : FnScope ["_law_script", "_law_wares", "_law_cell_here"] ["_law_script"] (defScope s_l_start) := ⟨rfl, rfl, rfl, by decide +kernel, rfl, by decide +kernel, by decide +kernel⟩
theorem ok_l_start {f : Addr} {fd : FuncData} (F : Fun K "_law_start" "_law_start" s_l_start f fd) (T : Txt K mg c) (G_l_cell : Own P w K mg base 3 "_law_cell" ["_law_script", "_law_k"] (spD K c d_l_cell)) (G_l_drawn_ware : Own P w K mg base 5 "_law_drawn_ware" ["_law_cell_here"] (spD K c d_l_drawn_ware)) (G_l_side : Own P w K mg base 3 "_law_side" ["_law_cell_here", "_law_most"] (spD K c d_l_side)) : FnOk P w K mg base (CXe P w) 7 f fd ["_law_script"] (spD K c d_l_start) :=
 F.okD (k := 6) sc_l_start fun cdv A outer s H E hr => ⟨_, (pss_cons (ps_set (i := 1) sc_l_start.nd rfl (Or.inl rfl) (pe_lst pa_nil)) (pss_cons (ps_set (i := 2) sc_l_start.nd rfl (Or.inr rfl) (pe_own G_l_cell hr (by decide) pass0e (pa_cons (pv 0) (pa_cons pe_int pa_nil)))) (pss_cons (ps_if (pt_cmpR op_eq (pe_op op_mod (pv 2) pe_int) pe_int (nomark _)) (pss_one (ps_compSet (i := 1) (Nc := ["_law_k", "_law_cell_here"]) (k := 1) (js := [2]) rfl ⟨by decide +kernel, rfl, by decide +kernel, (by change ∀ y ∈ Scope.names _, y.2 = NameKind.free → (defScope s_l_start).names.lookup y.1 = some .cell ∨ (defScope s_l_start).names.lookup y.1 = some .free; decide +kernel), by decide +kernel, rfl, rfl, by decide +kernel⟩ sc_l_start.nd rfl (pi_range1 rfl T.z_range (pa_cons (pe_op op_mod (pe_op op_fdivB (pv 2) pe_int) pe_int) pa_nil)) (fun _ _ _ _ _ => (pg_name (i := 0) (by show List.Nodup [("_law_k" : Str), ("_law_cell_here" : Str)]; decide +kernel) rfl (Or.inl rfl))) (fun _ _ _ _ _ => pf_nil) (fun _ _ _ _ _ => (pe_own G_l_drawn_ware hr (by decide) pass0e (pa_cons (pe_op op_add (pe_op op_fdivB (pv 1) pe_int) (pe_op op_mulB (pe_op op_mulB pe_int (pv 0)) (pv 0))) pa_nil))))) pss_nil) (pss_cons (ps_if (pt_cmpR op_eq (pe_op op_mod (pv 2) pe_int) pe_int (nomark _)) (pss_one (ps_ret (pe_tup (pa_cons (pe_tup (pa_cons pe_int (pa_cons pe_int pa_nil))) (pa_cons (pv 1) pa_nil))))) pss_nil) (pss_one (ps_ret (pe_tup (pa_cons (pe_tup (pa_cons (pe_op op_sub (pe_own G_l_side hr (by decide) pass0e (pa_cons (pe_op op_fdivB (pv 2) pe_int) (pa_cons (pe_op op_pow pe_int pe_int) pa_nil))) pe_int) (pa_cons (pe_own G_l_side hr (by decide) pass0e (pa_cons (pe_op op_fdivB (pv 2) pe_int) (pa_cons (pe_op op_pow pe_int pe_int) pa_nil))) pa_nil))) (pa_cons (pv 1) pa_nil))))))))), (rf_Seq (rf_SetN (rf_L rf_aN)) (rf_Seq (rf_SetC0 (rf_aC rf_v (rf_aC rf_c rf_aN))) (rf_Seq (rf_If' (rf_bT (rf_op ok_eq (rf_op ok_mod rf_v rf_c) rf_c)) (rf_SetComp (rf_CompR1 (by decide) (rf_aC (rf_op ok_mod (rf_op ok_div rf_v rf_c) rf_c) rf_aN) (rf_gName (k := 1) (by decide)) rf_bTrue (rf_Call0 (rf_aC (rf_op ok_add (rf_op ok_div rf_v rf_c) (rf_op ok_mul (rf_op ok_mul rf_c rf_v) rf_v)) rf_aN)))) rf_Nx) (rf_Seq (rf_If' (rf_bT (rf_op ok_eq (rf_op ok_mod rf_v rf_c) rf_c)) (rf_Ret (rf_T (rf_aC (rf_T (rf_aC rf_c (rf_aC rf_c rf_aN))) (rf_aC rf_v rf_aN)))) rf_Nx) (rf_Ret (rf_T (rf_aC (rf_T (rf_aC (rf_op ok_sub (rf_Call0 (rf_aC (rf_op ok_div rf_v rf_c) (rf_aC (rf_op ok_pow rf_c rf_c) rf_aN))) rf_c) (rf_aC (rf_Call0 (rf_aC (rf_op ok_div rf_v rf_c) (rf_aC (rf_op ok_pow rf_c rf_c) rf_aN))) rf_aN))) (rf_aC rf_v rf_aN))))))))⟩
theorem sc_Desk___init__ : FnScope ["self", "start", "box", "wares"] ["self", "start"] (defScope s_Desk___init__) := ⟨rfl, rfl, rfl, by decide +kernel, rfl, by decide +kernel, by decide +kernel⟩
theorem ok_Desk___init__ {f dT : Addr} {fd : FuncData} (F : FunD K "__init__" "Desk.__init__" s_Desk___init__ dT f fd) (T : Txt K mg c) (G_read_case : Own P w K mg base 11 "read_case" ["text"] (spD K c d_read_case)) : FnOk P w K mg base (CXe P w) 13 f fd ["self", "start"] (spKI K c d_read_case) :=
 F.okE (k := 12) sc_Desk___init__ (fun vs H Q E h => spKI_len h) fun cdv A outer s H vs Q E hr h => ⟨_, pss_cons (ps_asg (pe_own G_read_case hr (by decide) (XAcc.passes acc_def) (pa_cons (pv 1) pa_nil)) (pgK_tup (K := K) (n := 2) rfl (pgs_cons (pg_name (i := 2) sc_Desk___init__.nd rfl (Or.inl rfl)) (pgs_cons (pg_name (i := 3) sc_Desk___init__.nd rfl (Or.inl rfl)) pgs_nil)))) (pss_cons (ps_fld (pv 0) (pv 2) rfl) (pss_cons (ps_fld (pv 0) (pv 3) rfl) (pss_one (ps_fld (pv 0) (pe_lst pa_nil) rfl)))), initK_reads T.cl_Desk T.n_Desk_box T.n_Desk_wares T.n_Desk_past h⟩
def b_l_begun : NkF := (nkIf (bZ (eB (gEq false) (eB gMod (eCall0 d_l_cell (aC (eV 0) (aC (eC (.int 0)) aN))) (eC (.int 3))) (eC (.int 0)))) (nkRet (nkNew d_read_case [.str "10x10:"] aN)) (nkRet (nkNew d_read_case [] (aC (eCall0 d_l_case_row (aC (eB gIxT (eV 1) (eC (.int 0))) (aC (eB gIxT (eV 1) (eC (.int 1))) aN))) aN))))
def d_l_begun : List D → Option (D × D) := nkD 2 2 b_l_begun
theorem sc_l_begun : FnScope ["_law_script", "_law_start_here"] ["_law_script", "_law_start_here"] (defScope s_l_begun) := ⟨rfl, rfl, rfl, by decide +kernel, rfl, by decide +kernel, by decide +kernel⟩
theorem ok_l_begun {f : Addr} {fd : FuncData} (F : Fun K "_law_begun" "_law_begun" s_l_begun f fd) (T : Txt K mg c) (G_l_cell : Own P w K mg base 3 "_law_cell" ["_law_script", "_law_k"] (spD K c d_l_cell)) (G_l_case_row : Own P w K mg base 5 "_law_case_row" ["_law_box", "_law_wares"] (spD K c d_l_case_row)) (N_Desk : OwnND P w K mg base 13 "Desk" (c "Desk") ["self", "start"] (spKI K c d_read_case) (.str "10x10:")) : FnOk P w K mg base (CXe P w) 15 f fd ["_law_script", "_law_start_here"] (spKN K c d_l_begun) :=
 F.okKN (k := 14) sc_l_begun fun cdv A outer s H E hr => ⟨_, (pss_cons (ps_if (pt_cmpR op_eq (pe_op op_mod (pe_own G_l_cell hr (by decide) pass0e (pa_cons (pv 0) (pa_cons pe_int pa_nil))) pe_int) pe_int (nomark _)) (pss_one (ps_ret (pe_ownND0 N_Desk hr (by decide) pass0e))) pss_nil) (pss_one (ps_ret (pe_ownND N_Desk hr (by decide) pass0e (pa_cons (pe_own G_l_case_row hr (by decide) pass0e (pa_cons (pe_ix (ixK_tup (K := K)) (pv 1) pe_int (fun _ _ => rfl)) (pa_cons (pe_ix (ixK_tup (K := K)) (pv 1) pe_int (fun _ _ => rfl)) pa_nil))) pa_nil))))), (rn_If (rf_bT (rf_op ok_eq (rf_op ok_mod (rf_Call0 (rf_aC rf_v (rf_aC rf_c rf_aN))) rf_c) rf_c)) (rn_Ret (rq_New (fun F => .one (by simp only [Rp])) rf_aN)) (rn_Ret (rq_New (fun F => .nil) (rf_aC (rf_Call0 (rf_aC (rf_op ok_ixT rf_v rf_c) (rf_aC (rf_op ok_ixT rf_v rf_c) rf_aN))) rf_aN))))⟩
def b_l_deed : SF := (sSeq (sSet 2 (eB gMod (eV 0) (eC (.int 8)))) (sSeq (sSet 0 (eB gDiv (eV 0) (eC (.int 8)))) (sSeq (sIf (bAnd (bZ (eB (gEq false) (eV 2) (eC (.int 7)))) (bZ (eB gGt (eCB (g1 gLen) (aC (eB gIxT (eV 1) (eC (.int 2))) aN)) (eC (.int 0))))) (sRet (eT (aC (eC (.str "undo")) (aC (eB gIxT (eB gIxL (eB gIxT (eV 1) (eC (.int 2))) (eU gNeg (eC (.int 1)))) (eC (.int 0))) (aC (eB gIxT (eB gIxL (eB gIxT (eV 1) (eC (.int 2))) (eU gNeg (eC (.int 1)))) (eC (.int 1))) aN))))) sNx) (sSeq (sIf (bAnd (bZ (eB (gIn false) (eV 2) (eT (aC (eC (.int 5)) (aC (eC (.int 6)) aN))))) (bZ (eB gGt (eCB (g1 gLen) (aC (eB gIxT (eV 1) (eC (.int 1))) aN)) (eC (.int 0))))) (sSeq (sSet 3 (eB gMod (eV 0) (eCB (g1 gLen) (aC (eB gIxT (eV 1) (eC (.int 1))) aN)))) (sRet (eT (aC (eB gAddS (eC (.str "drop ")) (eCB (g1 gStr1) (aC (eV 3) aN))) (aC (eB gIxT (eV 1) (eC (.int 0))) (aC (zN (nB gCat (zN (nSl (eB gIxT (eV 1) (eC (.int 1))) oN (oS (eV 3)))) (zN (nSl (eB gIxT (eV 1) (eC (.int 1))) (oS (eB gAdd (eV 3) (eC (.int 1)))) oN)))) aN)))))) sNx) (sSeq (sIf (bAnd (bZ (eB gLt (eV 2) (eC (.int 5)))) (bAnd (bZ (eB gGt (eV 2) (eC (.int 0)))) (bZ (eB gLt (eCB (g1 gLen) (aC (eB gIxT (eV 1) (eC (.int 1))) aN)) (eC (.int 20)))))) (sSeq (sSetC0 4 d_l_drawn_ware (aC (eV 0) aN)) (sRet (eT (aC (eB gAddS (eC (.str "put ")) (eCall0 d_l_ware_row (aC (eV 4) aN))) (aC (eB gIxT (eV 1) (eC (.int 0))) (aC (zN (nB gCat (eB gIxT (eV 1) (eC (.int 1))) (zN (eL (aC (eV 4) aN))))) aN)))))) sNx) (sSeq (sSet 5 (eT (aC (eB gSub' (eCall0 d_l_side (aC (eV 0) (aC (eB gPow (eC (.int 10)) (eC (.int 42))) aN))) (eB gMod (eB gDiv (eV 0) (eC (.int 7))) (eC (.int 2)))) (aC (eCall0 d_l_side (aC (eB gDiv (eV 0) (eC (.int 5))) (aC (eB gPow (eC (.int 10)) (eC (.int 42))) aN))) aN)))) (sRet (eT (aC (eB gAddS (eB gAddS (eB gAddS (eC (.str "box ")) (eCB (g1 gStr1) (aC (eB gIxT (eV 5) (eC (.int 0))) aN))) (eC (.str "x"))) (eCB (g1 gStr1) (aC (eB gIxT (eV 5) (eC (.int 1))) aN))) (aC (eV 5) (aC (eB gIxT (eV 1) (eC (.int 1))) aN)))))))))))
def d_l_deed : List D → Option R1 := fD 6 2 b_l_deed
theorem sc_l_deed : FnScope ["_law_cell_here", "_law_state", "_law_kind", "_law_at", "_law_ware", "_law_box"] ["_law_cell_here", "_law_state"] (defScope s_l_deed) := ⟨rfl, rfl, rfl, by decide +kernel, rfl, by decide +kernel, by decide +kernel⟩
theorem ok_l_deed {f : Addr} {fd : FuncData} (F : Fun K "_law_deed" "_law_deed" s_l_deed f fd) (T : Txt K mg c) (G_l_drawn_ware : Own P w K mg base 5 "_law_drawn_ware" ["_law_cell_here"] (spD K c d_l_drawn_ware)) (G_l_ware_row : Own P w K mg base 3 "_law_ware_row" ["_law_ware"] (spD K c d_l_ware_row)) (G_l_side : Own P w K mg base 3 "_law_side" ["_law_cell_here", "_law_most"] (spD K c d_l_side)) : FnOk P w K mg base (CXe P w) 7 f fd ["_law_cell_here", "_law_state"] (spD K c d_l_deed) :=
 F.okD (k := 6) sc_l_deed fun cdv A outer s H E hr => ⟨_, (pss_cons (ps_set (i := 2) sc_l_deed.nd rfl (Or.inl rfl) (pe_op op_mod (pv 0) pe_int)) (pss_cons (ps_set (i := 0) sc_l_deed.nd rfl (Or.inl rfl) (pe_op op_fdivB (pv 0) pe_int)) (pss_cons (ps_if (PW.pt (pw_and (pt_cmpR op_eq (pv 2) pe_int (nomark _)) (pw_and1 (pt_cmpR op_gt (pe_callB (callK_len_seq (K := K)) rfl T.z_len bt_len (pa_cons (pe_ix (ixK_tup (K := K)) (pv 1) pe_int (fun _ _ => rfl)) pa_nil)) pe_int (nomark _))))) (pss_one (ps_ret (pe_tup (pa_str (pa_cons (pe_ix (ixK_tup (K := K)) (pe_ix (ixK_list (K := K)) (pe_ix (ixK_tup (K := K)) (pv 1) pe_int (fun _ _ => rfl)) (pe_un un_neg pe_int) (fun _ _ => rfl)) pe_int (fun _ _ => rfl)) (pa_cons (pe_ix (ixK_tup (K := K)) (pe_ix (ixK_list (K := K)) (pe_ix (ixK_tup (K := K)) (pv 1) pe_int (fun _ _ => rfl)) (pe_un un_neg pe_int) (fun _ _ => rfl)) pe_int (fun _ _ => rfl)) pa_nil)))))) pss_nil) (pss_cons (ps_if (PW.pt (pw_and (pt_cmpR (opK_in (K := K)) (pv 2) (pe_tup (pa_cons pe_int (pa_cons pe_int pa_nil))) (by with_unfolding_all rfl)) (pw_and1 (pt_cmpR op_gt (pe_callB (callK_len_seq (K := K)) rfl T.z_len bt_len (pa_cons (pe_ix (ixK_tup (K := K)) (pv 1) pe_int (fun _ _ => rfl)) pa_nil)) pe_int (nomark _))))) (pss_cons (ps_set (i := 3) sc_l_deed.nd rfl (Or.inl rfl) (pe_op op_mod (pv 0) (pe_callB (callK_len_seq (K := K)) rfl T.z_len bt_len (pa_cons (pe_ix (ixK_tup (K := K)) (pv 1) pe_int (fun _ _ => rfl)) pa_nil)))) (pss_one (ps_ret (pe_tup (pa_cons (pe_op op_add_str pe_str (pe_callTy call_str_int rfl T.z_str bt_str (pa_cons (pv 3) pa_nil))) (pa_cons (pe_ix (ixK_tup (K := K)) (pv 1) pe_int (fun _ _ => rfl)) (pa_cons (pe_op op_cat (pe_slice (slK_list (K := K)) (pe_ix (ixK_tup (K := K)) (pv 1) pe_int (fun _ _ => rfl)) po_none (po_some (pv 3))) (pe_slice (slK_list (K := K)) (pe_ix (ixK_tup (K := K)) (pv 1) pe_int (fun _ _ => rfl)) (po_some (pe_op op_add (pv 3) pe_int)) po_none)) pa_nil))))))) pss_nil) (pss_cons (ps_if (PW.pt (pw_and (pt_cmpR op_lt (pv 2) pe_int (nomark _)) (pw_and (pt_cmpR op_gt (pv 2) pe_int (nomark _)) (pw_and1 (pt_cmpR op_lt (pe_callB (callK_len_seq (K := K)) rfl T.z_len bt_len (pa_cons (pe_ix (ixK_tup (K := K)) (pv 1) pe_int (fun _ _ => rfl)) pa_nil)) pe_int (nomark _)))))) (pss_cons (ps_set (i := 4) sc_l_deed.nd rfl (Or.inl rfl) (pe_own G_l_drawn_ware hr (by decide) pass0e (pa_cons (pv 0) pa_nil))) (pss_one (ps_ret (pe_tup (pa_cons (pe_op op_add_str pe_str (pe_own G_l_ware_row hr (by decide) pass0e (pa_cons (pv 4) pa_nil))) (pa_cons (pe_ix (ixK_tup (K := K)) (pv 1) pe_int (fun _ _ => rfl)) (pa_cons (pe_op op_cat (pe_ix (ixK_tup (K := K)) (pv 1) pe_int (fun _ _ => rfl)) (pe_lst (pa_cons (pv 4) pa_nil))) pa_nil))))))) pss_nil) (pss_cons (ps_set (i := 5) sc_l_deed.nd rfl (Or.inl rfl) (pe_tup (pa_cons (pe_op op_sub (pe_own G_l_side hr (by decide) pass0e (pa_cons (pv 0) (pa_cons (pe_op op_pow pe_int pe_int) pa_nil))) (pe_op op_mod (pe_op op_fdivB (pv 0) pe_int) pe_int)) (pa_cons (pe_own G_l_side hr (by decide) pass0e (pa_cons (pe_op op_fdivB (pv 0) pe_int) (pa_cons (pe_op op_pow pe_int pe_int) pa_nil))) pa_nil)))) (pss_one (ps_ret (pe_tup (pa_cons (pe_op op_add_str (pe_op op_add_str (pe_op op_add_str pe_str (pe_callTy call_str_int rfl T.z_str bt_str (pa_cons (pe_ix (ixK_tup (K := K)) (pv 5) pe_int (fun _ _ => rfl)) pa_nil))) pe_str) (pe_callTy call_str_int rfl T.z_str bt_str (pa_cons (pe_ix (ixK_tup (K := K)) (pv 5) pe_int (fun _ _ => rfl)) pa_nil))) (pa_cons (pv 5) (pa_cons (pe_ix (ixK_tup (K := K)) (pv 1) pe_int (fun _ _ => rfl)) pa_nil)))))))))))), (rf_Seq (rf_Set (rf_op ok_mod rf_v rf_c)) (rf_Seq (rf_Set (rf_op ok_div rf_v rf_c)) (rf_Seq (rf_If' (rf_bAnd (rf_bT (rf_op ok_eq rf_v rf_c)) (rf_bT (rf_op ok_gt (rf_CB ok_len.cb (rf_aC (rf_op ok_ixT rf_v rf_c) rf_aN)) rf_c))) (rf_Ret (rf_T (rf_aC rf_c (rf_aC (rf_op ok_ixT (rf_op ok_ixL (rf_op ok_ixT rf_v rf_c) (rf_U ok_neg rf_c)) rf_c) (rf_aC (rf_op ok_ixT (rf_op ok_ixL (rf_op ok_ixT rf_v rf_c) (rf_U ok_neg rf_c)) rf_c) rf_aN))))) rf_Nx) (rf_Seq (rf_If' (rf_bAnd (rf_bT (rf_op ok_in rf_v (rf_T (rf_aC rf_c (rf_aC rf_c rf_aN))))) (rf_bT (rf_op ok_gt (rf_CB ok_len.cb (rf_aC (rf_op ok_ixT rf_v rf_c) rf_aN)) rf_c))) (rf_Seq (rf_Set (rf_op ok_mod rf_v (rf_CB ok_len.cb (rf_aC (rf_op ok_ixT rf_v rf_c) rf_aN)))) (rf_Ret (rf_T (rf_aC (rf_op ok_addS rf_c (rf_CB ok_str1.cb (rf_aC rf_v rf_aN))) (rf_aC (rf_op ok_ixT rf_v rf_c) (rf_aC (rf_zN (rf_nB ok_cat (rf_zN (rf_Sl (rf_op ok_ixT rf_v rf_c) rf_oN (rf_oS rf_v))) (rf_zN (rf_Sl (rf_op ok_ixT rf_v rf_c) (rf_oS (rf_op ok_add rf_v rf_c)) rf_oN)))) rf_aN)))))) rf_Nx) (rf_Seq (rf_If' (rf_bAnd (rf_bT (rf_op ok_lt rf_v rf_c)) (rf_bAnd (rf_bT (rf_op ok_gt rf_v rf_c)) (rf_bT (rf_op ok_lt (rf_CB ok_len.cb (rf_aC (rf_op ok_ixT rf_v rf_c) rf_aN)) rf_c)))) (rf_Seq (rf_SetC0 (rf_aC rf_v rf_aN)) (rf_Ret (rf_T (rf_aC (rf_op ok_addS rf_c (rf_Call0 (rf_aC rf_v rf_aN))) (rf_aC (rf_op ok_ixT rf_v rf_c) (rf_aC (rf_zN (rf_nB ok_cat (rf_op ok_ixT rf_v rf_c) (rf_zN (rf_L (rf_aC rf_v rf_aN))))) rf_aN)))))) rf_Nx) (rf_Seq (rf_Set (rf_T (rf_aC (rf_op ok_sub (rf_Call0 (rf_aC rf_v (rf_aC (rf_op ok_pow rf_c rf_c) rf_aN))) (rf_op ok_mod (rf_op ok_div rf_v rf_c) rf_c)) (rf_aC (rf_Call0 (rf_aC (rf_op ok_div rf_v rf_c) (rf_aC (rf_op ok_pow rf_c rf_c) rf_aN))) rf_aN)))) (rf_Ret (rf_T (rf_aC (rf_op ok_addS (rf_op ok_addS (rf_op ok_addS rf_c (rf_CB ok_str1.cb (rf_aC (rf_op ok_ixT rf_v rf_c) rf_aN))) rf_c) (rf_CB ok_str1.cb (rf_aC (rf_op ok_ixT rf_v rf_c) rf_aN))) (rf_aC rf_v (rf_aC (rf_op ok_ixT rf_v rf_c) rf_aN)))))))))))⟩
def b_Desk_steps : KF := (kRet (eLnK 0))
def d_Desk_steps : Addr → D → List D → Option (D × D) := kD 1 1 b_Desk_steps
theorem sc_Desk_steps : FnScope ["self"] ["self"] (defScope s_Desk_steps) := ⟨rfl, rfl, rfl, by decide +kernel, rfl, by decide +kernel, by decide +kernel⟩
theorem ok_Desk_steps {f : Addr} {fd : FuncData} (F : Fun K "steps" "Desk.steps" s_Desk_steps f fd) (T : Txt K mg c)  : FnOk P w K mg base (CXe P w) 3 f fd ["self"] (spK K c d_Desk_steps) :=
 F.okK (k := 2) sc_Desk_steps fun cdv A outer s H E hr => ⟨_, (pss_one (ps_ret (pe_callB (callK_len_seq (K := K)) rfl T.z_len bt_len (pa_cons (pe_fld (pv 0) rfl) pa_nil)))), (rk_Ret (rf_LnK T.cl_Desk T.n_Desk_past))⟩
def b_Desk_case : KF := (kRet (eCall0 d_shown_case (aC (eFK 0 true) (aC (eFK 0 false) aN))))
def d_Desk_case : Addr → D → List D → Option (D × D) := kD 1 1 b_Desk_case
theorem sc_Desk_case : FnScope ["self"] ["self"] (defScope s_Desk_case) := ⟨rfl, rfl, rfl, by decide +kernel, rfl, by decide +kernel, by decide +kernel⟩
theorem ok_Desk_case {f : Addr} {fd : FuncData} (F : Fun K "case" "Desk.case" s_Desk_case f fd) (T : Txt K mg c) (G_shown_case : Own P w K mg base 5 "shown_case" ["box", "wares"] (spD K c d_shown_case)) : FnOk P w K mg base (CXe P w) 7 f fd ["self"] (spK K c d_Desk_case) :=
 F.okK (k := 6) sc_Desk_case fun cdv A outer s H E hr => ⟨_, (pss_one (ps_ret (pe_own G_shown_case hr (by decide) pass0e (pa_cons (pe_fld (pv 0) rfl) (pa_cons (pe_fld (pv 0) rfl) pa_nil))))), (rk_Ret (rf_Call0 (rf_aC (rf_FK (b := true) T.cl_Desk T.n_Desk_box) (rf_aC (rf_FK (b := false) T.cl_Desk T.n_Desk_wares) rf_aN))))⟩
def b_l_seen : KF := (kSeq (sSetC0 2 d_l_case_row (aC (eB gIxT (eV 1) (eC (.int 0))) (aC (eB gIxT (eV 1) (eC (.int 1))) aN))) (kSeq (sForR rng1 (aC (eC (.int 2)) aN) (bName 3) (sSeq (sSet 4 (callK 0 d_Desk_case aN)) (sIf (bOr (bNot (bZ (eIsiV 4 "str"))) (bZ (eB (gEq true) (eV 4) (eV 2)))) (sRet (eC (.bl false))) sNx))) (kSeq (sSet 5 (callK 0 d_Desk_steps aN)) (kRet (eAnd (eCall0 d_l_whole (aC (eV 5) aN)) (eB (gEq false) (eV 5) (eCB (g1 gLen) (aC (eB gIxT (eV 1) (eC (.int 2))) aN))))))))
def d_l_seen : Addr → D → List D → Option (D × D) := kD 6 2 b_l_seen
theorem sc_l_seen : FnScope ["_law_desk", "_law_state", "_law_due", "_law_turn", "_law_found", "_law_many"] ["_law_desk", "_law_state"] (defScope s_l_seen) := ⟨rfl, rfl, rfl, by decide +kernel, rfl, by decide +kernel, by decide +kernel⟩
theorem ok_l_seen {f : Addr} {fd : FuncData} (F : Fun K "_law_seen" "_law_seen" s_l_seen f fd) (T : Txt K mg c) (G_l_whole : Own P w K mg base 3 "_law_whole" ["_law_found"] (spD K c d_l_whole)) (G_l_case_row : Own P w K mg base 5 "_law_case_row" ["_law_box", "_law_wares"] (spD K c d_l_case_row)) (OM_Desk_steps : OwnM P w K mg base 3 (c "Desk") "steps" ["self"] (spK K c d_Desk_steps)) (OM_Desk_case : OwnM P w K mg base 7 (c "Desk") "case" ["self"] (spK K c d_Desk_case)) : FnOk P w K mg base (CXe P w) 9 f fd ["_law_desk", "_law_state"] (spK K c d_l_seen) :=
 F.okK (k := 8) sc_l_seen fun cdv A outer s H E hr => ⟨_, (pss_cons (ps_set (i := 2) sc_l_seen.nd rfl (Or.inl rfl) (pe_own G_l_case_row hr (by decide) pass0e (pa_cons (pe_ix (ixK_tup (K := K)) (pv 1) pe_int (fun _ _ => rfl)) (pa_cons (pe_ix (ixK_tup (K := K)) (pv 1) pe_int (fun _ _ => rfl)) pa_nil)))) (pss_cons (ps_for PassesOwn.leaving rfl (pi_range1 rfl T.z_range (pa_cons pe_int pa_nil)) (pg_name (i := 3) sc_l_seen.nd rfl (Or.inl rfl)) (pss_cons (ps_set (i := 4) sc_l_seen.nd rfl (Or.inl rfl) (pe_methD0 (pv 0) (mo_K hr (XAcc.passes acc_def) (by decide) OM_Desk_case))) (pss_one (ps_if (PW.pt (pw_or (pt_not (pt_val (pe_callB (callK_isi (K := K)) rfl T.z_isinstance bt_isinstance (pa_cons (pv 4) (pa_cons (pe_bltn (v := .ty "str") rfl T.z_str bt_str rfl) pa_nil))))) (pw_or1 (pt_cmpR op_ne (pv 4) (pv 2) (nomark _))))) (pss_one (ps_ret pe_bl)) pss_nil)))) (pss_cons (ps_set (i := 5) sc_l_seen.nd rfl (Or.inl rfl) (pe_methD0 (pv 0) (mo_K hr (XAcc.passes acc_def) (by decide) OM_Desk_steps))) (pss_one (ps_ret (pe_and (pe_own G_l_whole hr (by decide) pass0e (pa_cons (pv 5) pa_nil)) (pe_one (pe_cmpR op_eq (pv 5) (pe_callB (callK_len_seq (K := K)) rfl T.z_len bt_len (pa_cons (pe_ix (ixK_tup (K := K)) (pv 1) pe_int (fun _ _ => rfl)) pa_nil)) (nomark _))))))))), (rk_Seq (rf_SetC0 (rf_aC (rf_op ok_ixT rf_v rf_c) (rf_aC (rf_op ok_ixT rf_v rf_c) rf_aN))) (rk_Seq (rf_ForR1 (rf_aC rf_c rf_aN) (rf_gName (k := 6) (by decide)) (rf_Seq (rf_Set (rf_MethK (fun _ _ _ => rfl) rf_aN)) (rf_If' (rf_bOr (rf_bNot (rf_bZ rf_IsiV)) (rf_bT (rf_op ok_ne rf_v rf_v))) (rf_Ret rf_c) rf_Nx))) (rk_Seq (rf_Set (rf_MethK (fun _ _ _ => rfl) rf_aN)) (rk_Ret (rf_And (rf_Call0 (rf_aC rf_v rf_aN)) (rf_op ok_eq rf_v (rf_CB ok_len.cb (rf_aC (rf_op ok_ixT rf_v rf_c) rf_aN))))))))⟩
def b_Desk_changed : KF := (kSeq (sPuK 0 (eT (aC (eFK 0 true) (aC (eFK 0 false) aN)))) (kSeq (sFK 0 true (eV 1)) (kSeq (sFK 0 false (eV 2)) (kRet (zN (eL (aC (callK 0 d_Desk_case aN) aN)))))))
def d_Desk_changed : Addr → D → List D → Option (D × D) := kD 3 3 b_Desk_changed
theorem sc_Desk_changed : FnScope ["self", "box", "wares"] ["self", "box", "wares"] (defScope s_Desk_changed) := ⟨rfl, rfl, rfl, by decide +kernel, rfl, by decide +kernel, by decide +kernel⟩
theorem ok_Desk_changed {f : Addr} {fd : FuncData} (F : Fun K "changed" "Desk.changed" s_Desk_changed f fd) (T : Txt K mg c) (OM_Desk_case : OwnM P w K mg base 7 (c "Desk") "case" ["self"] (spK K c d_Desk_case)) : FnOk P w K mg base (CXe P w) 9 f fd ["self", "box", "wares"] (spK K c d_Desk_changed) :=
 F.okK (k := 8) sc_Desk_changed fun cdv A outer s H E hr => ⟨_, (pss_cons (ps_expr (pe_bmK (K := K) PySem.F.plainAttrs_list PySem.F.slot_list_append PySem.F.type_list_append mt_append (pe_fld (pv 0) rfl) (pa_cons (pe_tup (pa_cons (pe_fld (pv 0) rfl) (pa_cons (pe_fld (pv 0) rfl) pa_nil))) pa_nil))) (pss_cons (ps_fld (pv 0) (pv 1) rfl) (pss_cons (ps_fld (pv 0) (pv 2) rfl) (pss_one (ps_ret (pe_lst (pa_cons (pe_methD0 (pv 0) (mo_K hr (XAcc.passes acc_def) (by decide) OM_Desk_case)) pa_nil))))))), (rk_Seq (rf_PuK T.cl_Desk T.n_Desk_past (rf_T (rf_aC (rf_FK (b := true) T.cl_Desk T.n_Desk_box) (rf_aC (rf_FK (b := false) T.cl_Desk T.n_Desk_wares) rf_aN)))) (rk_Seq (rf_SFK (b := true) T.cl_Desk T.n_Desk_box rf_v) (rk_Seq (rf_SFK (b := false) T.cl_Desk T.n_Desk_wares rf_v) (rk_Ret (rf_zN (rf_L (rf_aC (rf_MethK (fun _ _ _ => rfl) rf_aN) rf_aN)))))))⟩
def b_Desk_done : KF := (kIf (bZ (eB (gEq false) (eV 1) (eC (.str "box")))) (kRet (callK 0 d_Desk_changed (aC (eV 2) (aC (eFK 0 false) aN)))) (kIf (bZ (eB (gEq false) (eV 1) (eC (.str "put")))) (kIf (bZ (eB gGe (eCB (g1 gLen) (aC (eFK 0 false) aN)) (eC (.int 20)))) (fun _ => none) (kRet (callK 0 d_Desk_changed (aC (eFK 0 true) (aC (zN (nB gCat (eFK 0 false) (zN (eL (aC (eV 2) aN))))) aN))))) (kIf (bNot (bZ (eCall0 d_is_number_of (aC (eFK 0 false) (aC (eV 2) aN))))) (fun _ => none) (kRet (callK 0 d_Desk_changed (aC (eFK 0 true) (aC (zN (nB gCat (zN (nSl (eFK 0 false) oN (oS (eV 2)))) (zN (nSl (eFK 0 false) (oS (eB gAdd (eV 2) (eC (.int 1)))) oN)))) aN)))))))
def d_Desk_done : Addr → D → List D → Option (D × D) := kD 3 3 b_Desk_done
theorem sc_Desk_done : FnScope ["self", "word", "thing"] ["self", "word", "thing"] (defScope s_Desk_done) := ⟨rfl, rfl, rfl, by decide +kernel, rfl, by decide +kernel, by decide +kernel⟩
theorem ok_Desk_done {f : Addr} {fd : FuncData} (F : Fun K "done" "Desk.done" s_Desk_done f fd) (T : Txt K mg c) (G_is_number_of : Own P w K mg base 3 "is_number_of" ["wares", "k"] (spD K c d_is_number_of)) (OM_Desk_changed : OwnM P w K mg base 9 (c "Desk") "changed" ["self", "box", "wares"] (spK K c d_Desk_changed)) : FnOk P w K mg base (CXe P w) 11 f fd ["self", "word", "thing"] (spK K c d_Desk_done) :=
 F.okK (k := 10) sc_Desk_done fun cdv A outer s H E hr => ⟨_, (pss_cons (ps_if (pt_cmpR op_eq (pv 1) pe_str (nomark _)) (pss_one (ps_ret (pe_methD (pv 0) (mo_K hr (XAcc.passes acc_def) (by decide) OM_Desk_changed) (pa_cons (pv 2) (pa_cons (pe_fld (pv 0) rfl) pa_nil))))) pss_nil) (pss_cons (ps_if (pt_cmpR op_eq (pv 1) pe_str (nomark _)) (pss_cons (ps_if (pt_cmpR op_ge (pe_callB (callK_len_seq (K := K)) rfl T.z_len bt_len (pa_cons (pe_fld (pv 0) rfl) pa_nil)) (pe_gconst rfl T.v_MOST_WARES_desk) (nomark _)) (pss_one ps_dead) pss_nil) (pss_one (ps_ret (pe_methD (pv 0) (mo_K hr (XAcc.passes acc_def) (by decide) OM_Desk_changed) (pa_cons (pe_fld (pv 0) rfl) (pa_cons (pe_op op_cat (pe_fld (pv 0) rfl) (pe_lst (pa_cons (pv 2) pa_nil))) pa_nil)))))) pss_nil) (pss_cons (ps_if (pt_not (pt_val (pe_own G_is_number_of hr (by decide) pass0e (pa_cons (pe_fld (pv 0) rfl) (pa_cons (pv 2) pa_nil))))) (pss_one ps_dead) pss_nil) (pss_one (ps_ret (pe_methD (pv 0) (mo_K hr (XAcc.passes acc_def) (by decide) OM_Desk_changed) (pa_cons (pe_fld (pv 0) rfl) (pa_cons (pe_op op_cat (pe_slice (slK_list (K := K)) (pe_fld (pv 0) rfl) po_none (po_some (pv 2))) (pe_slice (slK_list (K := K)) (pe_fld (pv 0) rfl) (po_some (pe_op op_add (pv 2) pe_int)) po_none)) pa_nil)))))))), (rk_If (rf_bT (rf_op ok_eq rf_v rf_c)) (rk_Ret (rf_MethK (fun _ _ _ => rfl) (rf_aC rf_v (rf_aC (rf_FK (b := false) T.cl_Desk T.n_Desk_wares) rf_aN)))) (rk_If (rf_bT (rf_op ok_eq rf_v rf_c)) (rk_If (rf_bT (rf_op ok_ge (rf_CB ok_len.cb (rf_aC (rf_FK (b := false) T.cl_Desk T.n_Desk_wares) rf_aN)) rf_c)) rk_dead (rk_Ret (rf_MethK (fun _ _ _ => rfl) (rf_aC (rf_FK (b := true) T.cl_Desk T.n_Desk_box) (rf_aC (rf_zN (rf_nB ok_cat (rf_FK (b := false) T.cl_Desk T.n_Desk_wares) (rf_zN (rf_L (rf_aC rf_v rf_aN))))) rf_aN))))) (rk_If (rf_bNot (rf_bZ (rf_Call0 (rf_aC (rf_FK (b := false) T.cl_Desk T.n_Desk_wares) (rf_aC rf_v rf_aN))))) rk_dead (rk_Ret (rf_MethK (fun _ _ _ => rfl) (rf_aC (rf_FK (b := true) T.cl_Desk T.n_Desk_box) (rf_aC (rf_zN (rf_nB ok_cat (rf_zN (rf_Sl (rf_FK (b := false) T.cl_Desk T.n_Desk_wares) rf_oN (rf_oS rf_v))) (rf_zN (rf_Sl (rf_FK (b := false) T.cl_Desk T.n_Desk_wares) (rf_oS (rf_op ok_add rf_v rf_c)) rf_oN)))) rf_aN)))))))⟩
def b_Desk_undone : KF := (kIf (bZ (eB (gEq false) (eLnK 0) (eC (.int 0)))) (fun _ => none) (kSeq (sAsg (ePoK 0) (bTup [(bName 1), (bName 2)])) (kSeq (sFK 0 true (eV 1)) (kSeq (sFK 0 false (eV 2)) (kRet (zN (eL (aC (callK 0 d_Desk_case aN) aN))))))))
def d_Desk_undone : Addr → D → List D → Option (D × D) := kD 3 1 b_Desk_undone
theorem sc_Desk_undone : FnScope ["self", "box", "wares"] ["self"] (defScope s_Desk_undone) := ⟨rfl, rfl, rfl, by decide +kernel, rfl, by decide +kernel, by decide +kernel⟩
theorem ok_Desk_undone {f : Addr} {fd : FuncData} (F : Fun K "undone" "Desk.undone" s_Desk_undone f fd) (T : Txt K mg c) (OM_Desk_case : OwnM P w K mg base 7 (c "Desk") "case" ["self"] (spK K c d_Desk_case)) : FnOk P w K mg base (CXe P w) 9 f fd ["self"] (spK K c d_Desk_undone) :=
 F.okK (k := 8) sc_Desk_undone fun cdv A outer s H E hr => ⟨_, (pss_cons (ps_if (pt_cmpR op_eq (pe_callB (callK_len_seq (K := K)) rfl T.z_len bt_len (pa_cons (pe_fld (pv 0) rfl) pa_nil)) pe_int (nomark _)) (pss_one ps_dead) pss_nil) (pss_cons (ps_asg (pe_bmK0 (K := K) PySem.F.plainAttrs_list PySem.F.slot_list_pop PySem.F.type_list_pop mt_pop (pe_fld (pv 0) rfl)) (pgK_tup (K := K) (n := 2) rfl (pgs_cons (pg_name (i := 1) sc_Desk_undone.nd rfl (Or.inl rfl)) (pgs_cons (pg_name (i := 2) sc_Desk_undone.nd rfl (Or.inl rfl)) pgs_nil)))) (pss_cons (ps_fld (pv 0) (pv 1) rfl) (pss_cons (ps_fld (pv 0) (pv 2) rfl) (pss_one (ps_ret (pe_lst (pa_cons (pe_methD0 (pv 0) (mo_K hr (XAcc.passes acc_def) (by decide) OM_Desk_case)) pa_nil)))))))), (rk_If (rf_bT (rf_op ok_eq (rf_LnK T.cl_Desk T.n_Desk_past) rf_c)) rk_dead (rk_Seq (rf_Asg (rf_PoK T.cl_Desk T.n_Desk_past) (rf_gTup (rf_gCons (rf_gName (k := 3) (by decide)) (rf_gCons (rf_gName (k := 3) (by decide)) rf_gNil)) rfl)) (rk_Seq (rf_SFK (b := true) T.cl_Desk T.n_Desk_box rf_v) (rk_Seq (rf_SFK (b := false) T.cl_Desk T.n_Desk_wares rf_v) (rk_Ret (rf_zN (rf_L (rf_aC (rf_MethK (fun _ _ _ => rfl) rf_aN) rf_aN))))))))⟩
def b_Desk_do : KF := (kSeq (sAsg (zPart (eV 1) (eC (.str " "))) (bTup [(bName 2), (bName 3), (bName 4)])) (kIf (bZ (eB (gEq false) (eV 3) (eC (.str "")))) (kRet (eIf (bZ (eB (gEq false) (eV 2) (eC (.str "undo")))) (callK 0 d_Desk_undone aN) (fun _ => none))) (kIf (bZ (eB (gEq false) (eV 2) (eC (.str "shelf")))) (kRet (fun _ => none)) (kRet (callK 0 d_Desk_done (aC (eV 2) (aC (eCall d_read_rest (aC (eV 2) (aC (eV 4) aN))) aN)))))))
def d_Desk_do : Addr → D → List D → Option (D × D) := kD 5 2 b_Desk_do
theorem sc_Desk_do : FnScope ["self", "line", "word", "blank", "rest"] ["self", "line"] (defScope s_Desk_do) := ⟨rfl, rfl, rfl, by decide +kernel, rfl, by decide +kernel, by decide +kernel⟩
theorem ok_Desk_do {f : Addr} {fd : FuncData} (F : Fun K "do" "Desk.do" s_Desk_do f fd) (T : Txt K mg c) (G_read_rest : Own P w K mg base 11 "read_rest" ["word", "rest"] (spD K c d_read_rest)) (OM_Desk_done : OwnM P w K mg base 11 (c "Desk") "done" ["self", "word", "thing"] (spK K c d_Desk_done)) (OM_Desk_undone : OwnM P w K mg base 9 (c "Desk") "undone" ["self"] (spK K c d_Desk_undone)) : FnOk P w K mg base (CXe P w) 13 f fd ["self", "line"] (spK K c d_Desk_do) :=
 F.okK (k := 12) sc_Desk_do fun cdv A outer s H E hr => ⟨_, (pss_cons (ps_asg (pe_bmK (K := K) PySem.F.plainAttrs_str PySem.F.slot_str_partition PySem.F.type_str_partition mt_part (pv 1) (pa_cons pe_str pa_nil)) (pgK_tup (K := K) (n := 3) rfl (pgs_cons (pg_name (i := 2) sc_Desk_do.nd rfl (Or.inl rfl)) (pgs_cons (pg_name (i := 3) sc_Desk_do.nd rfl (Or.inl rfl)) (pgs_cons (pg_name (i := 4) sc_Desk_do.nd rfl (Or.inl rfl)) pgs_nil))))) (pss_cons (ps_if (pt_cmpR op_eq (pv 3) pe_str (nomark _)) (pss_one (ps_ret (pe_ifExp (pt_cmpR op_eq (pv 2) pe_str (nomark _)) (pe_methD0 (pv 0) (mo_K hr (XAcc.passes acc_def) (by decide) OM_Desk_undone)) pe_deadE))) pss_nil) (pss_cons (ps_if (pt_cmpR op_eq (pv 2) pe_str (nomark _)) (pss_one (ps_ret pe_deadE)) pss_nil) (pss_one (ps_ret (pe_methD (pv 0) (mo_K hr (XAcc.passes acc_def) (by decide) OM_Desk_done) (pa_cons (pv 2) (pa_cons (pe_own G_read_rest hr (by decide) (XAcc.passes acc_def) (pa_cons (pv 2) (pa_cons (pv 4) pa_nil))) pa_nil)))))))), (rk_Seq (rf_Asg (rf_Part rf_v rf_c) (rf_gTup (rf_gCons (rf_gName (k := 5) (by decide)) (rf_gCons (rf_gName (k := 5) (by decide)) (rf_gCons (rf_gName (k := 5) (by decide)) rf_gNil))) rfl)) (rk_If (rf_bT (rf_op ok_eq rf_v rf_c)) (rk_Ret (rf_If (rf_bT (rf_op ok_eq rf_v rf_c)) (rf_MethK (fun _ _ _ => rfl) rf_aN) rf_dead)) (rk_If (rf_bT (rf_op ok_eq rf_v rf_c)) (rk_Ret rf_dead) (rk_Ret (rf_MethK (fun _ _ _ => rfl) (rf_aC rf_v (rf_aC (rf_Call (rf_aC rf_v (rf_aC rf_v rf_aN))) rf_aN)))))))⟩
noncomputable def b_law : SF := (sSeq (sSetC0 1 d_l_start (aC (eV 0) aN)) (sNewDk 2 d_l_begun (aC (eV 0) (aC (eV 1) aN)) (sNewDk 3 d_l_begun (aC (eV 0) (aC (eV 1) aN)) (sSeq (sSet 4 (eT (aC (eB gIxT (eV 1) (eC (.int 0))) (aC (eB gIxT (eV 1) (eC (.int 1))) (aC (zN (eL aN)) aN))))) (sSeq (sSetN 5 (eL aN)) (sSeq (sFor (zN (nSlV 0 (oS (eC (.int 1))) (oS (eC (.int 61)))))  (bName 6) (sSeq (sSetC0 7 d_l_deed (aC (eV 6) (aC (eV 4) aN))) (sSeq (sSetN 8 (nB gCat (eB gIxT (eV 4) (eC (.int 2))) (zN (eL (aC (eT (aC (eB gIxT (eV 4) (eC (.int 0))) (aC (eB gIxT (eV 4) (eC (.int 1))) aN))) aN))))) (sSeq (sIf (bZ (eB (gEq false) (eB gIxT (eV 7) (eC (.int 0))) (eC (.str "undo")))) (sSetN 8 (nSl (eB gIxT (eV 4) (eC (.int 2))) oN (oS (eU gNeg (eC (.int 1)))))) sNx) (sSeq (sSet 9 (callK 2 d_Desk_do (aC (eB gIxT (eV 7) (eC (.int 0))) aN))) (sSeq (sSet 4 (eT (aC (eB gIxT (eV 7) (eC (.int 1))) (aC (eB gIxT (eV 7) (eC (.int 2))) (aC (eV 8) aN))))) (sSeq (sIf (bOr (bNot (bZ (eIsiV 9 "list"))) (bOr (bZ (eBV (gEqT true) 9 (zN (eL (aC (eCall0 d_l_case_row (aC (eB gIxT (eV 4) (eC (.int 0))) (aC (eB gIxT (eV 4) (eC (.int 1))) aN))) aN))))) (bNot (bZ (callK 2 d_l_seen (aC (eV 4) aN)))))) (sRet (eC (.bl false))) sNx) (sApp 5 (eT (aC (eV 9) (aC (zN (nCV gList 9)) aN))))))))))) (sSeq (sForV 5 (bTup [(bName 9), (bName 10)]) (sIf (bZ (eBVV (gEqT true) 9 10)) (sRet (eC (.bl false))) sNx)) (sRet (eAnd (callK 2 d_l_seen (aC (eV 4) aN)) (callK 3 d_l_seen (aC (eT (aC (eB gIxT (eV 1) (eC (.int 0))) (aC (eB gIxT (eV 1) (eC (.int 1))) (aC (zN (eL aN)) aN)))) aN)))))))))))
noncomputable def d_law : List D → Option R1 := fD 11 1 b_law
theorem sc_law : FnScope ["_law_script", "_law_start_here", "_law_desk", "_law_beside", "_law_state", "_law_held", "_law_cell_here", "_law_deed_here", "_law_past", "_law_told", "_law_kept"] ["_law_script"] (defScope s_law) := ⟨rfl, rfl, rfl, by decide +kernel, rfl, by decide +kernel, by decide +kernel⟩
theorem ok_law0 {f : Addr} {fd : FuncData} (F : Fun K "law" "law" s_law f fd) (T : Txt K mg c) (G_l_start : Own P w K mg base 7 "_law_start" ["_law_script"] (spD K c d_l_start)) (G_l_begun : Own P w K mg base 15 "_law_begun" ["_law_script", "_law_start_here"] (spKN K c d_l_begun)) (G_l_deed : Own P w K mg base 7 "_law_deed" ["_law_cell_here", "_law_state"] (spD K c d_l_deed)) (G_l_seen : Own P w K mg base 9 "_law_seen" ["_law_desk", "_law_state"] (spK K c d_l_seen)) (G_l_case_row : Own P w K mg base 5 "_law_case_row" ["_law_box", "_law_wares"] (spD K c d_l_case_row)) (OM_Desk_do : OwnM P w K mg base 13 (c "Desk") "do" ["self", "line"] (spK K c d_Desk_do)) : FnOk P w K mg base (CXe P w) 17 f fd ["_law_script"] (spD K c d_law) :=
 F.okD (k := 16) sc_law fun cdv A outer s H E hr => ⟨_, (pss_cons (ps_set (i := 1) sc_law.nd rfl (Or.inl rfl) (pe_own G_l_start hr (by decide) pass0e (pa_cons (pv 0) pa_nil))) (pss_cons (ps_set (i := 2) sc_law.nd rfl (Or.inl rfl) (pe_own G_l_begun hr (by decide) pass0e (pa_cons (pv 0) (pa_cons (pv 1) pa_nil)))) (pss_cons (ps_set (i := 3) sc_law.nd rfl (Or.inl rfl) (pe_own G_l_begun hr (by decide) pass0e (pa_cons (pv 0) (pa_cons (pv 1) pa_nil)))) (pss_cons (ps_set (i := 4) sc_law.nd rfl (Or.inl rfl) (pe_tup (pa_cons (pe_ix (ixK_tup (K := K)) (pv 1) pe_int (fun _ _ => rfl)) (pa_cons (pe_ix (ixK_tup (K := K)) (pv 1) pe_int (fun _ _ => rfl)) (pa_cons (pe_lst pa_nil) pa_nil))))) (pss_cons (ps_set (i := 5) sc_law.nd rfl (Or.inl rfl) (pe_lst pa_nil)) (pss_cons (ps_for PassesOwn.leaving rfl (pi_list (pe_slice (slK_list (K := K)) (pv 0) (po_some pe_int) (po_some pe_int))) (pg_name (i := 6) sc_law.nd rfl (Or.inl rfl)) (pss_cons (ps_set (i := 7) sc_law.nd rfl (Or.inl rfl) (pe_own G_l_deed hr (by decide) pass0e (pa_cons (pv 6) (pa_cons (pv 4) pa_nil)))) (pss_cons (ps_set (i := 8) sc_law.nd rfl (Or.inl rfl) (pe_op op_cat (pe_ix (ixK_tup (K := K)) (pv 4) pe_int (fun _ _ => rfl)) (pe_lst (pa_cons (pe_tup (pa_cons (pe_ix (ixK_tup (K := K)) (pv 4) pe_int (fun _ _ => rfl)) (pa_cons (pe_ix (ixK_tup (K := K)) (pv 4) pe_int (fun _ _ => rfl)) pa_nil))) pa_nil)))) (pss_cons (ps_if (pt_cmpR op_eq (pe_ix (ixK_tup (K := K)) (pv 7) pe_int (fun _ _ => rfl)) pe_str (nomark _)) (pss_one (ps_set (i := 8) sc_law.nd rfl (Or.inl rfl) (pe_slice (slK_list (K := K)) (pe_ix (ixK_tup (K := K)) (pv 4) pe_int (fun _ _ => rfl)) po_none (po_some (pe_un un_neg pe_int))))) pss_nil) (pss_cons (ps_set (i := 9) sc_law.nd rfl (Or.inl rfl) (pe_methD (pv 2) (mo_K hr (XAcc.passes acc_def) (by decide) OM_Desk_do) (pa_cons (pe_ix (ixK_tup (K := K)) (pv 7) pe_int (fun _ _ => rfl)) pa_nil))) (pss_cons (ps_set (i := 4) sc_law.nd rfl (Or.inl rfl) (pe_tup (pa_cons (pe_ix (ixK_tup (K := K)) (pv 7) pe_int (fun _ _ => rfl)) (pa_cons (pe_ix (ixK_tup (K := K)) (pv 7) pe_int (fun _ _ => rfl)) (pa_cons (pv 8) pa_nil))))) (pss_cons (ps_if (PW.pt (pw_or (pt_not (pt_val (pe_callB (callK_isi (K := K)) rfl T.z_isinstance bt_isinstance (pa_cons (pv 9) (pa_cons (pe_bltn (v := .ty "list") rfl T.z_list bt_list rfl) pa_nil))))) (pw_or (pt_cmpR (opK_neT (K := K) (cl := c) (hu40 hr)) (pv 9) (pe_lst (pa_cons (pe_own G_l_case_row hr (by decide) pass0e (pa_cons (pe_ix (ixK_tup (K := K)) (pv 4) pe_int (fun _ _ => rfl)) (pa_cons (pe_ix (ixK_tup (K := K)) (pv 4) pe_int (fun _ _ => rfl)) pa_nil))) pa_nil)) (nomark _)) (pw_or1 (pt_not (pt_val (pe_own G_l_seen hr (by decide) pass0e (pa_cons (pv 2) (pa_cons (pv 4) pa_nil))))))))) (pss_one (ps_ret pe_bl)) pss_nil) (pss_one (ps_expr (pe_bmK (K := K) PySem.F.plainAttrs_list PySem.F.slot_list_append PySem.F.type_list_append mt_append (pv 5) (pa_cons (pe_tup (pa_cons (pv 9) (pa_cons (pe_callTy (callK_list_of (K := K)) rfl T.z_list bt_list (pa_cons (pv 9) pa_nil)) pa_nil))) pa_nil))))))))))) (pss_cons (ps_for PassesOwn.leaving rfl (pi_list (pv 5)) (pgK_tup (K := K) (n := 2) rfl (pgs_cons (pg_name (i := 9) sc_law.nd rfl (Or.inl rfl)) (pgs_cons (pg_name (i := 10) sc_law.nd rfl (Or.inl rfl)) pgs_nil))) (pss_one (ps_if (pt_cmpR (opK_neT (K := K) (cl := c) (hu40 hr)) (pv 9) (pv 10) (nomark _)) (pss_one (ps_ret pe_bl)) pss_nil))) (pss_one (ps_ret (pe_and (pe_own G_l_seen hr (by decide) pass0e (pa_cons (pv 2) (pa_cons (pv 4) pa_nil))) (pe_one (pe_own G_l_seen hr (by decide) pass0e (pa_cons (pv 3) (pa_cons (pe_tup (pa_cons (pe_ix (ixK_tup (K := K)) (pv 1) pe_int (fun _ _ => rfl)) (pa_cons (pe_ix (ixK_tup (K := K)) (pv 1) pe_int (fun _ _ => rfl)) (pa_cons (pe_lst pa_nil) pa_nil)))) pa_nil)))))))))))))), (rf_Seq (rf_SetC0 (rf_aC rf_v rf_aN)) (rf_NewDk (rf_aC rf_v (rf_aC rf_v rf_aN)) (rf_NewDk (rf_aC rf_v (rf_aC rf_v rf_aN)) (rf_Seq (rf_Set (rf_T (rf_aC (rf_op ok_ixT rf_v rf_c) (rf_aC (rf_op ok_ixT rf_v rf_c) (rf_aC (rf_zN (rf_L rf_aN)) rf_aN))))) (rf_Seq (rf_SetN (rf_L rf_aN)) (rf_Seq (rf_For (rf_zN (rf_SlV (rf_oS rf_c) (rf_oS rf_c))) (rf_gName (k := 11) (by decide)) (rf_Seq (rf_SetC0 (rf_aC rf_v (rf_aC rf_v rf_aN))) (rf_Seq (rf_SetN (rf_nB ok_cat (rf_op ok_ixT rf_v rf_c) (rf_zN (rf_L (rf_aC (rf_T (rf_aC (rf_op ok_ixT rf_v rf_c) (rf_aC (rf_op ok_ixT rf_v rf_c) rf_aN))) rf_aN))))) (rf_Seq (rf_If' (rf_bT (rf_op ok_eq (rf_op ok_ixT rf_v rf_c) rf_c)) (rf_SetN (rf_Sl (rf_op ok_ixT rf_v rf_c) rf_oN (rf_oS (rf_U ok_neg rf_c)))) rf_Nx) (rf_Seq (rf_Set (rf_MethK (fun _ _ _ => rfl) (rf_aC (rf_op ok_ixT rf_v rf_c) rf_aN))) (rf_Seq (rf_Set (rf_T (rf_aC (rf_op ok_ixT rf_v rf_c) (rf_aC (rf_op ok_ixT rf_v rf_c) (rf_aC rf_v rf_aN))))) (rf_Seq (rf_If' (rf_bOr (rf_bNot (rf_bZ rf_IsiV)) (rf_bOr (rf_bT (rf_opV ok_eqT (rf_zN (rf_L (rf_aC (rf_Call0 (rf_aC (rf_op ok_ixT rf_v rf_c) (rf_aC (rf_op ok_ixT rf_v rf_c) rf_aN))) rf_aN))))) (rf_bNot (rf_bZ (rf_CallK (rf_aC rf_v rf_aN)))))) (rf_Ret rf_c) rf_Nx) (rf_App (rf_T (rf_aC rf_v (rf_aC (rf_zN (rf_nCV ok_list)) rf_aN))))))))))) (rf_Seq (rf_ForV (rf_gTup (rf_gCons (rf_gName (k := 11) (by decide)) (rf_gCons (rf_gName (k := 11) (by decide)) rf_gNil)) rfl) (rf_If' (rf_bT (rf_opVV ok_eqT)) (rf_Ret rf_c) rf_Nx)) (rf_Ret (rf_And (rf_CallK (rf_aC rf_v rf_aN)) (rf_CallK (rf_aC (rf_T (rf_aC (rf_op ok_ixT rf_v rf_c) (rf_aC (rf_op ok_ixT rf_v rf_c) (rf_aC (rf_zN (rf_L rf_aN)) rf_aN)))) rf_aN)))))))))))⟩
end Law
namespace Law
open PySem L2 PyProof.Rows
variable {P : Program} {w : World} {K : PySem.W.Frag} {mg : Str → Option Value} {base : Heap} {c : Str → Addr}
local macro_rules | `(tactic| walk_at "ev") => `(tactic| simp (decide := true) only [fD_eq, sSeq_eq, kD, kSeq, kIf, kRet, callK, eFK, eLnK, ePoK, sPuK, sFK, aK, seqR_nx, seqR_rt, seqR_ro, seqR_rz, seqR_ex, seqR_bk, seqR_ct, seqR_no, seqR_ite, toZ_ret, toZ_own, toZ_ex, toZ0_ret, toZ0_own, toSet_ret, toSet_own, toSet_ex, toSet0_ret, toSet0_own, toRet_ret, toRet_own, toRet_owz, toRet_ex, finR_nx, finR_rt, finR_ro, finR_rz, finR_ex, finR_ite, forK_nx, forK_ct, forK_bk, forK_rt, forK_ro, forK_rz, forK_ex, forD_nil, forD_step, optR_some, optB_some, compD_nil, compD_cons, compE, capS, nCompR, nComp, nCompV, nSl, nSlV, oN, oS, sForV, unhide, eqD, gEqT, eqB, eqBs, plainD, plainDs, depD, depDs, seqD?, Nat.max_self, Nat.zero_max, Nat.max_zero, decide_true, Bool.or_true, Bool.true_or, Bool.or_false, List.isEmpty_nil, gIn, inD, List.any_cons, List.any_nil, gAddS, flatD, List.all_cons, List.all_nil, Bool.and_self, Bool.and_true, Bool.true_and, beq_self_eq_true, gAdd_eq, gSub_eq, gLt_eq, gLe_eq, gGt_eq, gGe_eq, gMul_l, gMul_r, gDiv_eq, gMod_eq, gPow_eq, sIf, sSet, sSetN, sSetC, sSetC0, sRet, sRetC, sRetV, sNx, sAsg, sRaise, XN.nm, sEx, sApp, notHd_od, sFor, sForR, put_eq, okS_some, okS_none, notHd_no, notHd_fz, notHd_ow, notHd_hd, notHd_un, noHd_nil, noHd_cons, eC, eV, eB, eBV, eBVV, eT, eL, zN, aN, aC, eCall, eCall0, eNot, eAnd, eIf, eU, gNeg, eCB, eCV, nCV, nB, gCat, g1, gLen, gList, bZ, bNot, bAnd, bOr, bTrue, bName_eq, bTup, bEach, bnd_ok, bnd_ex, bnd_no, sbn_ok, sbn_ex, sbn_no, opt_some, opt_none, look, gIxT, gIxL, gEq_int, gEq_str, eIsiV, gIsiV, tyN, seqL, atI_0, atI_1, atI_2, List.map_cons, List.map_nil, List.length_cons, List.length_nil, List.cons_append, List.nil_append, List.replicate_succ, List.replicate_zero, List.getElem?_cons_zero, List.getElem?_cons_succ, List.set_cons_zero, List.set_cons_succ, Nat.reduceAdd, Nat.reduceSub, if_true, if_false, Bool.not_true, Bool.not_false, Bool.not_not, Nat.zero_add, Bool.false_eq_true, decide_eq_true_eq, Bool.not_eq_true', decide_eq_false_iff_not, Option.map_some, Option.map_none, ite_self, xo_BadSide, xo_NoText])
local macro_rules | `(tactic| walk_at "eh") => `(tactic| simp (decide := true) only [fD_eq, sSeq_eq, kD, kSeq, kIf, kRet, callK, eFK, eLnK, ePoK, sPuK, sFK, aK, seqR_nx, seqR_rt, seqR_ro, seqR_rz, seqR_ex, seqR_bk, seqR_ct, seqR_no, seqR_ite, toZ_ret, toZ_own, toZ_ex, toZ0_ret, toZ0_own, toSet_ret, toSet_own, toSet_ex, toSet0_ret, toSet0_own, toRet_ret, toRet_own, toRet_owz, toRet_ex, finR_nx, finR_rt, finR_ro, finR_rz, finR_ex, finR_ite, forK_nx, forK_ct, forK_bk, forK_rt, forK_ro, forK_rz, forK_ex, forD_nil, forD_step, optR_some, optB_some, compD_nil, compD_cons, compE, capS, nCompR, nComp, nCompV, nSl, nSlV, oN, oS, sForV, unhide, eqD, gEqT, eqB, eqBs, plainD, plainDs, depD, depDs, seqD?, Nat.max_self, Nat.zero_max, Nat.max_zero, decide_true, Bool.or_true, Bool.true_or, Bool.or_false, List.isEmpty_nil, gIn, inD, List.any_cons, List.any_nil, gAddS, flatD, List.all_cons, List.all_nil, Bool.and_self, Bool.and_true, Bool.true_and, beq_self_eq_true, gAdd_eq, gSub_eq, gLt_eq, gLe_eq, gGt_eq, gGe_eq, gMul_l, gMul_r, gDiv_eq, gMod_eq, gPow_eq, sIf, sSet, sSetN, sSetC, sSetC0, sRet, sRetC, sRetV, sNx, sAsg, sRaise, XN.nm, sEx, sApp, notHd_od, sFor, sForR, put_eq, okS_some, okS_none, notHd_no, notHd_fz, notHd_ow, notHd_hd, notHd_un, noHd_nil, noHd_cons, eC, eV, eB, eBV, eBVV, eT, eL, zN, aN, aC, eCall, eCall0, eNot, eAnd, eIf, eU, gNeg, eCB, eCV, nCV, nB, gCat, g1, gLen, gList, bZ, bNot, bAnd, bOr, bTrue, bName_eq, bTup, bEach, bnd_ok, bnd_ex, bnd_no, sbn_ok, sbn_ex, sbn_no, opt_some, opt_none, look, gIxT, gIxL, gEq_int, gEq_str, eIsiV, gIsiV, tyN, seqL, atI_0, atI_1, atI_2, List.map_cons, List.map_nil, List.length_cons, List.length_nil, List.cons_append, List.nil_append, List.replicate_succ, List.replicate_zero, List.getElem?_cons_zero, List.getElem?_cons_succ, List.set_cons_zero, List.set_cons_succ, Nat.reduceAdd, Nat.reduceSub, if_true, if_false, Bool.not_true, Bool.not_false, Bool.not_not, Nat.zero_add, Bool.false_eq_true, decide_eq_true_eq, Bool.not_eq_true', decide_eq_false_iff_not, Option.map_some, Option.map_none, ite_self, xo_BadSide, xo_NoText, *])
open PySem.NumText
theorem str_ext {x y : Str} (h : x.cps.toList = y.cps.toList) : x = y := by
 obtain ⟨⟨a⟩⟩ := x; obtain ⟨⟨b⟩⟩ := y
 have h : a = b := h
 rw [h]
theorem app_list (x y : Str) : (x ++ y).cps.toList = x.cps.toList ++ y.cps.toList := by
 obtain ⟨⟨a⟩⟩ := x; obtain ⟨⟨b⟩⟩ := y
 show (Array.toList (Array.mk a ++ Array.mk b)) = _
 simp
theorem len_list (x : Str) : x.cps.toList.length = x.length := by simp [Str.length]
def nl (i : Int) : List Nat := (Str.ofString (toString i)).cps.toList
theorem nl_nat {i : Int} (h : 0 ≤ i) : nl i = (Nat.toDigits 10 i.toNat).map Char.toNat := by
 obtain ⟨m, rfl⟩ := Int.eq_ofNat_of_zero_le h
 exact PySem.W.KIN.signs_num m
theorem dig_split {m : Nat} (h : ¬ m < 10) : Nat.toDigits 10 m = Nat.toDigits 10 (m / 10) ++ [Nat.digitChar (m % 10)] := by
 have hm : m % 10 < 10 := Nat.mod_lt m (by decide)
 have t : Nat.toDigits 10 (m / 10) ++ Nat.toDigits 10 (m % 10) = Nat.toDigits 10 (10 * (m / 10) + m % 10) := Nat.toDigits_append_toDigits (by decide) (by omega) hm
 rw [Nat.div_add_mod, Nat.toDigits_of_lt_base hm] at t
 exact t.symm
theorem dig_len (m : Nat) : ∀ k, 0 < k → m < 10 ^ k → (Nat.toDigits 10 m).length ≤ k := by
 induction m using Nat.strongRecOn with
 | _ m ih =>
  intro k hk h
  by_cases hm : m < 10
  ·rw [Nat.toDigits_of_lt_base hm]; exact hk
  ·rw [dig_split hm, List.length_append]
   match k, hk, h with
   | 1, _, h => exact absurd h (by omega)
   | k + 2, _, h =>
    have e : (10 : Nat) ^ (k + 2) = 10 ^ (k + 1) * 10 := Nat.pow_succ ..
    have := ih (m / 10) (by omega) (k + 1) (by omega) (by omega)
    simp only [List.length_singleton]; omega
theorem dig_head (m : Nat) (h : 0 < m) : ∃ c r, Nat.toDigits 10 m = c :: r ∧ c.toNat ≠ 48 := by
 induction m using Nat.strongRecOn with
 | _ m ih =>
  by_cases hm : m < 10
  ·refine ⟨Nat.digitChar m, [], Nat.toDigits_of_lt_base hm, ?_⟩
   have : ∀ d : Nat, d < 10 → 0 < d → (Nat.digitChar d).toNat ≠ 48 := by decide
   exact this m hm h
  ·obtain ⟨c, r, e, hc⟩ := ih (m / 10) (by omega) (by omega)
   exact ⟨c, r ++ [Nat.digitChar (m % 10)], by rw [dig_split hm, e]; rfl, hc⟩
theorem nl_digits {i : Int} (h : 0 ≤ i) : ∀ c ∈ nl i, 48 ≤ c ∧ c ≤ 57 := fun c hc => by
 by_cases z : 48 ≤ c ∧ c ≤ 57
 ·exact z
 ·by_cases y : c = 45
  ·subst y
   rw [nl_nat h] at hc
   obtain ⟨ch, hch, e⟩ := List.mem_map.mp hc
   have d := Nat.isDigit_of_mem_toDigits (by decide) (by decide) hch
   have r := PyProof.Rows.digit_range d
   rw [e] at r
   exact absurd r.1 (by decide)
  ·exact absurd hc (int_text_free' c ⟨y, by omega⟩ i)
theorem nl_len {i : Int} (h0 : 0 ≤ i) (h1 : i ≤ 10 ^ 42) : (nl i).length ≤ 43 := by
 rw [nl_nat h0, List.length_map]
 refine dig_len _ 43 (by decide) ?_
 have : i.toNat ≤ 10 ^ 42 := by
  have e : ((10 : Int) ^ 42).toNat = 10 ^ 42 := by decide +kernel
  rw [← e]; exact Int.toNat_le_toNat h1
 exact Nat.lt_of_le_of_lt this (by decide +kernel)
theorem nl_zero : nl 0 = [48] := by decide +kernel
theorem nl_cons {i : Int} (h : 0 ≤ i) : ∃ c r, nl i = c :: r ∧ (c = 48 → i = 0) := by
 by_cases z : i = 0
 ·subst z; exact ⟨48, [], nl_zero, fun _ => rfl⟩
 ·obtain ⟨c, r, e, hc⟩ := dig_head i.toNat (by omega)
  exact ⟨c.toNat, r.map Char.toNat, by rw [nl_nat h, e]; rfl, fun y => absurd y hc⟩
theorem nl_back {x : Str} {i : Int} (h : x.cps.toList = nl i) (h0 : 0 ≤ i) (h1 : i ≤ 10 ^ 42) : PySem.intText? x = some i := by
 have hl := nl_len h0 h1
 have e := intText_digits (x := x) (by rw [h]; exact nl_digits h0) (by rw [h]; obtain ⟨c, r, e, _⟩ := nl_cons h0; rw [e]; exact List.cons_ne_nil _ _) (by rw [← len_list, h]; omega)
 rw [e, h, nl_nat h0, PySem.W.KIN.val_back]
 congr 1
 omega
theorem nl_free {i : Int} {k : Nat} (hk : k ≠ 45 ∧ (k < 48 ∨ 57 < k)) : k ∉ nl i := int_text_free' k hk i
theorem sub_list (x : Str) (i j : Nat) : (Builtin.Str.strSub x i j).cps.toList = (x.cps.toList.drop i).take (j - i) := by
 unfold Builtin.Str.strSub; simp [List.take_drop, List.extract_eq_drop_take]
theorem part_one {x : Str} {c : Nat} {a b : List Nat} (h : x.cps.toList = a ++ c :: b) (ha : c ∉ a) : Txt.partition x ⟨#[c]⟩ = (⟨a.toArray⟩, ⟨#[c]⟩, ⟨b.toArray⟩) := by
 have at' : x.cps.toList[a.length]? = some c := by rw [h]; simp
 rcases partition_whole x ⟨#[c]⟩ with ⟨_, hn⟩ | ⟨i, hp, hi, hn⟩
 ·exact absurd ((StrLaws.subAt_one x c _).mpr at') (hn a.length)
 ·have hi := (StrLaws.subAt_one x c i).mp hi
  have e : i = a.length := by
   rcases Nat.lt_trichotomy i a.length with z | z | z
   ·rw [h, List.getElem?_append_left z] at hi
    exact absurd (List.mem_of_getElem? hi) ha
   ·exact z
   ·exact absurd ((StrLaws.subAt_one x c _).mpr at') (hn _ z)
  subst e
  have hl : x.length = a.length + (b.length + 1) := by rw [← len_list, h]; simp
  have e1 : Builtin.Str.strSub x 0 a.length = ⟨a.toArray⟩ := str_ext (by rw [sub_list, h]; simp)
  have e2 : Builtin.Str.strSub x (a.length + (⟨#[c]⟩ : Str).length) x.length = ⟨b.toArray⟩ := str_ext (by
   rw [sub_list, h, show (⟨#[c]⟩ : Str).length = 1 from rfl, hl, show a ++ c :: b = (a ++ [c]) ++ b by simp, List.drop_append, List.drop_eq_nil_of_le (by simp), List.nil_append, show a.length + 1 - (a ++ [c]).length = 0 by simp, List.drop_zero, List.take_of_length_le (by omega)])
  rw [hp, e1, e2]
theorem cut_one {c : Nat} {a b a' b' : List Nat} (h : a ++ c :: b = a' ++ c :: b') (ha : c ∉ a) (ha' : c ∉ a') : a = a' ∧ b = b' := by
 induction a generalizing a' with
 | nil =>
  cases a' with
  | nil => exact ⟨rfl, (List.cons.inj h).2⟩
  | cons x r => exact absurd (by rw [(List.cons.inj h).1]; simp) ha'
 | cons x r ih =>
  cases a' with
  | nil => exact absurd (by rw [← (List.cons.inj h).1]; simp) ha
  | cons y r' =>
   obtain ⟨e1, e2⟩ := List.cons.inj h
   obtain ⟨e3, e4⟩ := ih e2 (fun z => ha (List.mem_cons_of_mem _ z)) (fun z => ha' (List.mem_cons_of_mem _ z))
   exact ⟨by rw [e1, e3], e4⟩
theorem join_one (c : Nat) : ∀ (x : Str) (xs : List Str), (Str.join ⟨#[c]⟩ (x :: xs)).cps.toList = x.cps.toList ++ xs.flatMap fun y => c :: y.cps.toList
 | x, [] => by show x.cps.toList = _; simp
 | x, y :: r => by
  show (x ++ ⟨#[c]⟩ ++ Str.join ⟨#[c]⟩ (y :: r)).cps.toList = _
  rw [app_list, app_list, join_one c y r]; simp
theorem flat_inj (c : Nat) : ∀ (x y : Str) (xs ys : List Str), (∀ p ∈ x :: xs, c ∉ p.cps.toList) → (∀ p ∈ y :: ys, c ∉ p.cps.toList) → (x.cps.toList ++ xs.flatMap fun y => c :: y.cps.toList) = (y.cps.toList ++ ys.flatMap fun y => c :: y.cps.toList) → x :: xs = y :: ys
 | x, y, [], [], _, _, h => by rw [show x = y from str_ext (by simpa using h)]
 | x, y, [], q :: s, hx, hy, h => by
  have : c ∈ x.cps.toList := by simp at h; rw [h]; simp
  exact absurd this (hx x (by simp))
 | x, y, p :: r, [], hx, hy, h => by
  have : c ∈ y.cps.toList := by simp at h; rw [← h]; simp
  exact absurd this (hy y (by simp))
 | x, y, p :: r, q :: s, hx, hy, h => by
  rw [List.flatMap_cons, List.flatMap_cons, List.cons_append, List.cons_append] at h
  obtain ⟨e1, e2⟩ := cut_one h (hx x (by simp)) (hy y (by simp))
  rw [str_ext e1, flat_inj c p q r s (fun z hz => hx z (List.mem_cons_of_mem _ hz)) (fun z hz => hy z (List.mem_cons_of_mem _ hz)) e2]
theorem split_ne (x y : Str) : ∃ p r, Txt.split x y = p :: r := by
 unfold Txt.split
 split
 ·exact ⟨_, _, rfl⟩
 ·split
  ·exact ⟨_, _, rfl⟩
  ·rw [StrLaws.partsBetween_eq]; exact StrLaws.partsFrom_ne _ _ _ _
theorem split_one {x : Str} {c : Nat} {p : Str} {r : List Str} (h : x.cps.toList = p.cps.toList ++ r.flatMap fun y => c :: y.cps.toList) (hf : ∀ q ∈ p :: r, c ∉ q.cps.toList) : Txt.split x ⟨#[c]⟩ = p :: r := by
 obtain ⟨p', r', e⟩ := split_ne x ⟨#[c]⟩
 have j := StrLaws.join_split x ⟨#[c]⟩
 have f := StrLaws.split_free x c
 rw [e] at j f
 rw [e]
 refine flat_inj c p' p r' r f hf ?_
 rw [← join_one, j, h]
theorem ends_one (x : Str) (c : Nat) (r : List Nat) (d : Nat) (h : x.cps.toList = r ++ [d]) : Txt.endswith x ⟨#[c]⟩ = decide (d = c) := by
 have hl : x.length = r.length + 1 := by rw [← len_list, h]; simp
 have e := StrLaws.subAt_one x c (x.length - 1)
 have e2 : x.cps.toList[x.length - 1]? = some d := by rw [h, hl]; simp
 rw [e2] at e
 unfold Txt.endswith
 have l1 : (⟨#[c]⟩ : Str).length = 1 := rfl
 rw [l1] at e ⊢
 have h1 : decide (0 + 1 ≤ x.length) = true := decide_eq_true (by omega)
 rw [h1, Bool.true_and]
 by_cases z : d = c
 ·rw [decide_eq_true z]; exact (e.mpr (by rw [z])).2
 ·rw [decide_eq_false z]
  exact Bool.eq_false_iff.mpr fun y => z (Option.some.inj (e.mp ⟨by omega, y⟩))
theorem cut_last (x : Str) (r : List Nat) (d : Nat) (h : x.cps.toList = r ++ [d]) : (Txt.slice x none (some (-1))).cps.toList = r := by
 have hl : x.length = r.length + 1 := by rw [← len_list, h]; simp
 have e := slice_closes_to_neg (x := x) (j := -1) (k := -1 + x.length) (by decide) (by omega) rfl
 have e := eq_of_beq e
 rw [e, h, hl]
 show List.take (-1 + ((r.length + 1 : Nat) : Int) - 0).toNat (r ++ [d]) = r
 rw [show (-1 + ((r.length + 1 : Nat) : Int) - 0).toNat = r.length by omega]
 simp
def strOf (l : List Nat) : Str := ⟨l.toArray⟩
theorem strOf_list (l : List Nat) : (strOf l).cps.toList = l := rfl
def Dig (c : Nat) : Prop := 48 ≤ c ∧ c ≤ 57
instance (c : Nat) : Decidable (Dig c) := by unfold Dig; exact inferInstance
def numOf (l : List Nat) : Option Int := if l.length = 0 ∨ 43 < l.length then none else if ∃ c ∈ l, ¬ Dig c then none else if l.head? = some 48 ∧ l ≠ [48] then none else some (digitsVal l : Nat)
def cutAt (c : Nat) : List Nat → List Nat × List Nat
 | [] => ([], [])
 | d :: r => if d = c then ([], r) else (d :: (cutAt c r).1, (cutAt c r).2)
theorem cutAt_has {c : Nat} : ∀ {l : List Nat}, c ∈ l → l = (cutAt c l).1 ++ c :: (cutAt c l).2 ∧ c ∉ (cutAt c l).1
 | d :: r, h => by
  unfold cutAt
  by_cases z : d = c
  ·rw [if_pos z, z]; exact ⟨rfl, by simp⟩
  ·rw [if_neg z]
   have hr : c ∈ r := by rcases List.mem_cons.mp h with q | q; exact absurd q.symm z; exact q
   obtain ⟨e1, e2⟩ := cutAt_has hr
   refine ⟨?_, fun q => ?_⟩
   ·show d :: r = d :: ((cutAt c r).1 ++ c :: (cutAt c r).2)
    rw [← e1]
   ·rcases List.mem_cons.mp q with q | q
    ·exact z q.symm
    ·exact e2 q
theorem cutAt_not {c : Nat} : ∀ {l : List Nat}, c ∉ l → cutAt c l = (l, [])
 | [], _ => rfl
 | d :: r, h => by
  unfold cutAt
  rw [if_neg (fun z => h (by simp [z])), cutAt_not (fun z => h (List.mem_cons_of_mem _ z))]
theorem cutAt_len {c : Nat} : ∀ (l : List Nat), (cutAt c l).1.length ≤ l.length ∧ (cutAt c l).2.length ≤ l.length
 | [] => ⟨Nat.le_refl _, Nat.le_refl _⟩
 | d :: r => by
  unfold cutAt
  have := cutAt_len (c := c) r
  split
  ·simp
  ·simp; omega
theorem part_any (c : Nat) (x : Str) : Txt.partition x ⟨#[c]⟩ = (strOf (cutAt c x.cps.toList).1, (Txt.partition x ⟨#[c]⟩).2.1, strOf (cutAt c x.cps.toList).2) := by
 by_cases h : c ∈ x.cps.toList
 ·obtain ⟨e1, e2⟩ := cutAt_has h
  rw [part_one e1 e2]; rfl
 ·rw [cutAt_not h]
  rcases partition_whole x ⟨#[c]⟩ with ⟨hp, _⟩ | ⟨i, _, hi, _⟩
  ·rw [hp]
   have e0 : (Str.empty : Str) = strOf [] := by decide +kernel
   have e1 : x = strOf x.cps.toList := str_ext rfl
   rw [← e1, e0]
  ·exact absurd (List.mem_of_getElem? ((StrLaws.subAt_one x c i).mp hi)) h
theorem nil_or (l : List Nat) : l = [] ∨ ∃ r d, l = r ++ [d] := by
 rcases List.eq_nil_or_concat l with h | ⟨r, d, h⟩
 ·exact .inl h
 ·exact .inr ⟨r, d, by rw [h, List.concat_eq_append]⟩
def lastC (k : Nat) (l : List Nat) : Bool := decide (l.getLast? = some k)
abbrev lastPlus (l : List Nat) : Bool := lastC 43 l
def bodyOf (l : List Nat) : List Nat := if lastPlus l = true then l.dropLast else l
theorem ends_any (x : Str) : Txt.endswith x ⟨#[43]⟩ = lastPlus x.cps.toList := by
 unfold lastPlus lastC
 rcases nil_or x.cps.toList with h | ⟨r, d, h⟩
 ·rw [h]
  unfold Txt.endswith
  have hl : x.length = 0 := by rw [← len_list, h]; rfl
  rw [hl]; rfl
 ·rw [ends_one x 43 r d h, h]; simp
theorem cut_any (x : Str) (h : lastPlus x.cps.toList = true) : Txt.slice x none (some (-1)) = strOf (bodyOf x.cps.toList) := by
 unfold bodyOf
 rw [if_pos h]
 unfold lastPlus lastC at h
 rcases nil_or x.cps.toList with q | ⟨r, d, q⟩
 ·rw [q] at h; simp at h
 ·refine str_ext ?_
  rw [cut_last x r d q, strOf_list, q]; simp
abbrev Sm (i : Int) : Prop := i.natAbs.log2 < 1920
theorem sm_of {i : Int} (h : i.natAbs ≤ 10 ^ 43) : Sm i := by
 show i.natAbs.log2 < 1920
 by_cases z : i.natAbs = 0
 ·rw [z]; decide
 ·exact (Nat.log2_lt z).mpr (Nat.lt_of_le_of_lt h (by decide +kernel))
theorem lnS {n : Nat} (h : n ≤ 100000) : n ≤ sizeLine := Nat.le_trans h (by decide)
theorem app_len (x y : Str) : (x ++ y).length = x.length + y.length := by
 rw [← len_list, app_list, List.length_append, len_list, len_list]
theorem num_len {i : Int} (h0 : 0 ≤ i) (h1 : i ≤ 10 ^ 42) : (toString i : Str).length ≤ 43 := by
 rw [← len_list]; exact nl_len h0 h1
theorem x_is : ("x" : Str) = ⟨#[120]⟩ := by decide +kernel
theorem c_is : (":" : Str) = ⟨#[58]⟩ := by decide +kernel
theorem s_is : (" " : Str) = ⟨#[32]⟩ := by decide +kernel
theorem p_is : ("+" : Str) = ⟨#[43]⟩ := by decide +kernel
theorem zero_is : ("0" : Str) = ⟨#[48]⟩ := by decide +kernel
theorem n_list : ("" : Str).cps.toList = [] := by decide +kernel
theorem fig_list : ("0123456789" : Str).cps.toList = [48, 49, 50, 51, 52, 53, 54, 55, 56, 57] := by decide +kernel
theorem strOf_len (l : List Nat) : (strOf l).length = l.length := by rw [← len_list]; rfl
theorem strOf_self (x : Str) : strOf x.cps.toList = x := str_ext rfl
theorem fig_mem {c : Nat} : c ∈ ("0123456789" : Str).cps.toList ↔ Dig c := by
 rw [fig_list]
 unfold Dig
 simp only [List.mem_cons, List.not_mem_nil, or_false]
 omega
def notFig (c : Nat) : Bool := !decide (c ∈ ("0123456789" : Str).cps.toList)
theorem notFig_is {c : Nat} : notFig c = true ↔ ¬ Dig c := by
 unfold notFig
 rw [Bool.not_eq_true', decide_eq_false_iff_not, fig_mem]
theorem num_in {l : List Nat} (h0 : l.length ≠ 0) (h1 : ¬ 43 < l.length) (h2 : ¬ ∃ c ∈ l, ¬ Dig c) (h3 : ¬ (l.head? = some 48 ∧ l ≠ [48])) : numOf l = some ((digitsVal l : Nat) : Int) := by
 unfold numOf; rw [if_neg (by omega), if_neg h2, if_neg h3]
theorem num_out {l : List Nat} (h : (l.length = 0 ∨ 43 < l.length) ∨ (∃ c ∈ l, ¬ Dig c) ∨ (l.head? = some 48 ∧ l ≠ [48])) : numOf l = none := by
 unfold numOf
 split
 ·rfl
 ·split
  ·rfl
  ·split
   ·rfl
   ·rename_i a1 a2 a3
    rcases h with h | h | h
    ·exact absurd h a1
    ·exact absurd h a2
    ·exact absurd h a3
theorem reads {x : Str} (h0 : x.cps.toList ≠ []) (h2 : ¬ ∃ c ∈ x.cps.toList, ¬ Dig c) (hl : x.length ≤ 50) : PySem.intText? x = some ((digitsVal x.cps.toList : Nat) : Int) :=
 intText_digits (fun c hc => Classical.byContradiction fun z => h2 ⟨c, hc, z⟩) h0 (by omega)
theorem ni_fig (c : Nat) : gNiS (.str (signS c)) (.str "0123456789") = some (.bl (notFig c)) := by
 show some (D.bl (!(!(Builtin.Str.occurrences ("0123456789" : Str) ⟨#[c]⟩ 0 ("0123456789" : Str).length 1).isEmpty))) = _
 have e := StrLaws.found_one ("0123456789" : Str) c
 rw [e]
 rfl
theorem bools_map {α : Type} (f : α → Bool) : ∀ l : List α, bools (l.map fun c => D.bl (f c)) = some (l.map f)
 | [] => rfl
 | a :: l => by
  have := bools_map f l
  show (bools (l.map fun c => D.bl (f c))).map (f a :: ·) = _
  rw [this]; rfl
theorem any_map {α : Type} (f : α → Bool) (l : List α) : gAny (.lst (l.map fun c => D.bl (f c))) = some (.bl (l.any f)) := by
 show (bools (l.map fun c => D.bl (f c))).map _ = _
 rw [bools_map]
 show some (D.bl ((l.map f).any id)) = _
 rw [List.any_map]; rfl
abbrev rnC : NF := (nCompS 1 [] (eV 0) (bName 0) bTrue (eB gNiS (eV 0) (eC (.str "0123456789"))))
theorem rnC_ok (x : Str) (hx : x.length ≤ 5000) : rnC [.fz (.str x)] = some (.ok (x.cps.toList.map fun c => D.bl (notFig c)) [.fz (.str x)]) := by
 have e : rnC [.fz (.str x)] = compD (bName 0) bTrue (eB gNiS (eV 0) (eC (.str "0123456789"))) (compE 1 [] [.fz (.str x)]) [.fz (.str x)] (x.cps.toList.map fun c => D.str (signS c)) [] := rfl
 have h := comp_map (b := bName 0) (c := bTrue) (el := eB gNiS (eV 0) (eC (.str "0123456789"))) (ec := compE 1 [] [.fz (.str x)]) (eo := [.fz (.str x)]) (fun c => D.str (signS c)) (fun c => D.bl (notFig c)) (fun _ => true) x.cps.toList [] (by
  rw [len_list]; show 0 + _ ≤ sizeLine; rw [Nat.zero_add]; exact lnS (by omega)) (fun c _ => ⟨_, _, rfl, rfl, fun _ => ⟨_, by
   show bnd (some (L2.R.ok (D.str (signS c)) [Sl.fz (D.str (signS c))])) _ = _
   rw [bnd_ok]
   show opt (gNiS (.str (signS c)) (.str "0123456789")) _ = _
   rw [ni_fig]; rfl⟩⟩)
 rw [e, h, List.nil_append, List.filter_eq_self.mpr (fun _ _ => rfl)]
theorem rn_a (GL GA GI : D → Option D) (GX GE0 GE1 GT : D → D → Option D) (NC : NF) (x : Str) (n : Int) (b0 b1 : Bool) (hl : GL (.str x) = some (.int n)) (h0 : GE0 (.int n) (.int 0) = some (.bl b0)) (h1 : GT (.int n) (.int 43) = some (.bl b1)) (hb : (b0 || b1) = true) :
  fD 1 1 (sSeq (sIf (bOr (bZ (eB GE0 (eCB (g1 GL) (aC (eV 0) aN)) (eC (.int 0)))) (bZ (eB GT (eCB (g1 GL) (aC (eV 0) aN)) (eC (.int 43))))) (sRaise "NoText" (aC (eC (.str "a number is missing or too long")) aN)) sNx) (sSeq (sIf (bZ (eCB (g1 GA) (aC (zN NC) aN))) (sRaise "NoText" (aC (eC (.str "a number has figures alone")) aN)) sNx) (sSeq (sIf (bAnd (bZ (eB GE0 (eB GX (eV 0) (eC (.int 0))) (eC (.str "0")))) (bZ (eB GE1 (eV 0) (eC (.str "0"))))) (sRaise "NoText" (aC (eC (.str "a number has no 0 ahead")) aN)) sNx) (sRet (eCB (g1 GI) (aC (eV 0) aN)))))) [.str x] = some (.ex (.p "NoText")) := by
 cases b0
 ·cases b1
  ·cases hb
  ·clear hb; walk_at "eh"
 ·clear hb h1; walk_at "eh"
theorem rn_b (GL GA GI : D → Option D) (GX GE0 GE1 GT : D → D → Option D) (NC : NF) (x : Str) (n : Int) (bs : List D) (b2 : Bool) (R : Option R1) (hl : GL (.str x) = some (.int n)) (h0 : GE0 (.int n) (.int 0) = some (.bl false)) (h1 : GT (.int n) (.int 43) = some (.bl false)) (hc : NC [.fz (.str x)] = some (.ok bs [.fz (.str x)])) (ha : GA (.lst bs) = some (.bl b2)) (hr : b2 = false → fD 1 1 (sSeq (sIf (bAnd (bZ (eB GE0 (eB GX (eV 0) (eC (.int 0))) (eC (.str "0")))) (bZ (eB GE1 (eV 0) (eC (.str "0"))))) (sRaise "NoText" (aC (eC (.str "a number has no 0 ahead")) aN)) sNx) (sRet (eCB (g1 GI) (aC (eV 0) aN)))) [.str x] = R) :
  fD 1 1 (sSeq (sIf (bOr (bZ (eB GE0 (eCB (g1 GL) (aC (eV 0) aN)) (eC (.int 0)))) (bZ (eB GT (eCB (g1 GL) (aC (eV 0) aN)) (eC (.int 43))))) (sRaise "NoText" (aC (eC (.str "a number is missing or too long")) aN)) sNx) (sSeq (sIf (bZ (eCB (g1 GA) (aC (zN NC) aN))) (sRaise "NoText" (aC (eC (.str "a number has figures alone")) aN)) sNx) (sSeq (sIf (bAnd (bZ (eB GE0 (eB GX (eV 0) (eC (.int 0))) (eC (.str "0")))) (bZ (eB GE1 (eV 0) (eC (.str "0"))))) (sRaise "NoText" (aC (eC (.str "a number has no 0 ahead")) aN)) sNx) (sRet (eCB (g1 GI) (aC (eV 0) aN)))))) [.str x] = if b2 = true then some (.ex (.p "NoText")) else R := by
 generalize hK : (sSeq (sIf (bAnd (bZ (eB GE0 (eB GX (eV 0) (eC (.int 0))) (eC (.str "0")))) (bZ (eB GE1 (eV 0) (eC (.str "0"))))) (sRaise "NoText" (aC (eC (.str "a number has no 0 ahead")) aN)) sNx) (sRet (eCB (g1 GI) (aC (eV 0) aN)))) = K at hr ⊢
 clear hK
 cases b2
 ·have hr : finR (K [.fz (.str x)]) = R := hr rfl
  rw [if_neg (by decide)]
  generalize hk : K [.fz (.str x)] = r at hr
  rw [← hr]
  clear hr
  walk_at "eh"
 ·clear hr
  walk_at "eh"
  try rfl
theorem rn_c (GI : D → Option D) (GX GE0 GE1 : D → D → Option D) (x y : Str) (b3 b4 : Bool) (r : D) (hx : GX (.str x) (.int 0) = some (.str y)) (h3 : GE0 (.str y) (.str "0") = some (.bl b3)) (h4 : GE1 (.str x) (.str "0") = some (.bl b4)) (hi : GI (.str x) = some r) : fD 1 1 (sSeq (sIf (bAnd (bZ (eB GE0 (eB GX (eV 0) (eC (.int 0))) (eC (.str "0")))) (bZ (eB GE1 (eV 0) (eC (.str "0"))))) (sRaise "NoText" (aC (eC (.str "a number has no 0 ahead")) aN)) sNx) (sRet (eCB (g1 GI) (aC (eV 0) aN)))) [.str x] = if (b3 && b4) = true then some (.ex (.p "NoText")) else some (.ret r) := by
 cases b3 <;> cases b4 <;> walk_at "eh" <;> rfl
def nR : Option Int → R1
 | some i => .ret (.int i)
 | none => .ex (.p "NoText")
theorem lenS_ok {x : Str} (h : x.length ≤ 5000) : gLenS (.str x) = some (.int x.length) := if_pos (lnS (by omega))
theorem read_number_ok (x : Str) (hx : x.length ≤ 5000) : d_read_number [.str x] = some (nR (numOf x.cps.toList)) := by
 have ll := len_list x
 by_cases h0 : x.length = 0 ∨ 43 < x.length
 ·rw [num_out (.inl (by rw [ll]; exact h0))]
  exact rn_a gLenS gAny gIntS gIxS (gEq false) (gEq true) gGt rnC x x.length (decide ((x.length : Int) = 0)) (decide ((43 : Int) < x.length)) (lenS_ok hx) (by rw [gEq_int]; rfl) (by rw [gGt_eq]) (by
   rw [Bool.or_eq_true, decide_eq_true_iff, decide_eq_true_iff]; omega)
 ·have key := rn_b gLenS gAny gIntS gIxS (gEq false) (gEq true) gGt rnC x x.length (x.cps.toList.map fun c => D.bl (notFig c)) (x.cps.toList.any notFig) (some (nR (numOf x.cps.toList))) (lenS_ok hx) (by rw [gEq_int, decide_eq_false (by omega)]; rfl) (by rw [gGt_eq, decide_eq_false (by omega)]) (rnC_ok x hx) (any_map _ _) (fun hn => by
   have h2 : ¬ ∃ c ∈ x.cps.toList, ¬ Dig c := fun ⟨c, hc, hd⟩ => by
    have : x.cps.toList.any notFig = true := List.any_eq_true.mpr ⟨c, hc, notFig_is.mpr hd⟩
    rw [hn] at this; cases this
   obtain ⟨c0, r0, ec⟩ : ∃ c0 r0, x.cps.toList = c0 :: r0 := by
    cases q : x.cps.toList with
    | nil => rw [q] at ll; exact absurd (.inl (by rw [← ll]; rfl)) h0
    | cons a b => exact ⟨a, b, rfl⟩
   have hix : gIxS (.str x) (.int 0) = some (.str (signS c0)) := by
    show (if x.length ≤ sizeLine then (atI x.cps.toList 0).map fun c => D.str ⟨#[c]⟩ else none) = _
    rw [if_pos (lnS (by omega)), ec, show atI (c0 :: r0) 0 = some c0 from atI_natD (show (c0 :: r0)[0]? = some c0 from rfl)]
    rfl
   have i1 := reads (by rw [ec]; exact List.cons_ne_nil _ _) h2 (by omega)
   have hi : gIntS (.str x) = some (.int ((digitsVal x.cps.toList : Nat) : Int)) := by
    show (if x.length ≤ 640 then (PySem.intText? x).map D.int else none) = _
    rw [if_pos (by omega), i1]; rfl
   rw [rn_c gIntS gIxS (gEq false) (gEq true) x (signS c0) (decide (signS c0 = "0")) (!decide (x = "0")) _ hix (by rw [gEq_str]; rfl) (by rw [gEq_str]; rfl) hi]
   have e1 : signS c0 = ("0" : Str) ↔ x.cps.toList.head? = some 48 := by
    rw [zero_is, ec]
    constructor
    ·intro q
     have : [c0] = [48] := congrArg (fun z : Str => z.cps.toList) q
     rw [(List.cons.inj this).1]; rfl
    ·intro q
     have : c0 = 48 := Option.some.inj q
     rw [this]; rfl
   have e2 : x = ("0" : Str) ↔ x.cps.toList = [48] := by
    rw [zero_is]
    exact ⟨fun q => by rw [q], fun q => str_ext q⟩
   by_cases h3 : x.cps.toList.head? = some 48 ∧ x.cps.toList ≠ [48]
   ·rw [num_out (.inr (.inr h3)), if_pos (by rw [Bool.and_eq_true, decide_eq_true (e1.mpr h3.1), decide_eq_false (fun q => h3.2 (e2.mp q))]; exact ⟨rfl, rfl⟩)]
    rfl
   ·rw [num_in (by omega) (by omega) h2 h3, if_neg (fun q => h3 (by
     rw [Bool.and_eq_true, decide_eq_true_iff, Bool.not_eq_true', decide_eq_false_iff_not] at q
     exact ⟨e1.mp q.1, fun z => q.2 (e2.mpr z)⟩))]
    rfl)
  refine Eq.trans key ?_
  by_cases hn : x.cps.toList.any notFig = true
  ·rw [if_pos hn]
   obtain ⟨c, hc, hd⟩ := List.any_eq_true.mp hn
   rw [num_out (.inr (.inl ⟨c, hc, notFig_is.mp hd⟩))]
   rfl
  ·rw [if_neg hn]
def sR : Option (Int × Int) → R1
 | some p => .ret (.tup [.int p.1, .int p.2])
 | none => .ex (.p "NoText")
def sidesOf (l : List Nat) : Option (Int × Int) := (numOf (cutAt 120 l).1).bind fun i => (numOf (cutAt 120 l).2).bind fun j => some (i, j)
theorem zPart_ok {k : Str} {x : Str} {e : DE} (h : e[0]? = some (.fz (.str x))) (hx : x.length ≤ 5000) (hk : (k.length == 0) = false) : zPart (eV 0) (eC (.str k)) e = some (.ok (partD (Txt.partition x k)) e) := by
 unfold zPart
 have e1 : eV 0 e = some (.ok (.str x) e) := by unfold eV; rw [h]
 rw [e1, bnd_ok]
 show (if (k.length == 0) = false ∧ x.length ≤ sizeLine then some (L2.R.ok (partD (Txt.partition x k)) e) else none) = _
 exact if_pos ⟨hk, lnS (by omega)⟩
theorem rs_run (RN : List D → Option R1) (ZP : ZF) (x a m b : Str) (o1 o2 : Option Int) (hz : ZP [.fz (.str x), .no, .no, .no] = some (.ok (.tup [.str a, .str m, .str b]) [.fz (.str x), .no, .no, .no])) (h1 : RN [.str a] = some (nR o1)) (h2 : RN [.str b] = some (nR o2)) :
  fD 4 1 (sSeq (sAsg ZP (bTup [(bName 1), (bName 2), (bName 3)])) (sRet (eT (aC (eCall RN (aC (eV 1) aN)) (aC (eCall RN (aC (eV 3) aN)) aN))))) [.str x] = some (sR (o1.bind fun i => o2.bind fun j => some (i, j))) := by
 cases o1 with
 | none =>
  clear h2
  unfold nR at h1
  show _ = some (R1.ex (.p "NoText"))
  walk_at "eh"
 | some i =>
  cases o2 with
  | none =>
   unfold nR at h1 h2
   show _ = some (R1.ex (.p "NoText"))
   walk_at "eh"
  | some j =>
   unfold nR at h1 h2
   show _ = some (R1.ret (.tup [.int i, .int j]))
   walk_at "eh"
theorem read_sides_ok (x : Str) (hx : x.length ≤ 5000) : d_read_sides [.str x] = some (sR (sidesOf x.cps.toList)) := by
 have cl := cutAt_len (c := 120) x.cps.toList
 have ll := len_list x
 refine rs_run d_read_number (zPart (eV 0) (eC (.str "x"))) x (strOf (cutAt 120 x.cps.toList).1) (Txt.partition x ⟨#[120]⟩).2.1 (strOf (cutAt 120 x.cps.toList).2) _ _ ?_ (read_number_ok _ (by rw [strOf_len]; omega)) (read_number_ok _ (by rw [strOf_len]; omega))
 rw [zPart_ok rfl hx (by rw [x_is]; rfl), x_is, part_any 120 x]
 rfl
theorem zSl_ok {x : Str} {e e1 e2 : DE} {l u : OF} {lo hi : Option Int} (h : e[0]? = some (.fz (.str x))) (hx : x.length ≤ 5000) (h1 : l e = some (.ok lo e1)) (h2 : u e1 = some (.ok hi e2)) : zSlS (eV 0) l u e = some (.ok (.str (Txt.slice x lo hi)) e2) := by
 unfold zSlS
 have e1 : eV 0 e = some (.ok (.str x) e) := by unfold eV; rw [h]
 rw [e1, bnd_ok, h1, bnd_ok, h2, bnd_ok]
 exact if_pos (lnS (by omega))
def rg (lo hi i : Int) : Bool := decide (lo ≤ i) && decide (i ≤ hi)
def csR (b : Bool) : R1 := if b = true then .ret .non else .ex (.p "BadSide")
theorem cs_run (IW : List D → Option R1) (RA : AF) (GL GG : D → D → Option D) (i lo hi : Int) (s : D) (b1 b2 : Bool) (hw : IW [.int i] = some (.ret (.bl true))) (h1 : GL (.int i) (.int lo) = some (.bl b1)) (h2 : GG (.int i) (.int hi) = some (.bl b2)) (hr : RA [.fz (.int i), .fz (.int lo), .fz (.int hi)] = some (.ok [s] [.fz (.int i), .fz (.int lo), .fz (.int hi)])) : fD 3 3 (sIf (bOr (bNot (bZ (eCall0 IW (aC (eV 0) aN)))) (bOr (bZ (eB GL (eV 0) (eV 1))) (bZ (eB GG (eV 0) (eV 2))))) (sRaise "BadSide" RA) sNx) [.int i, .int lo, .int hi] = some (csR (!b1 && !b2)) := by
 cases b1
 ·cases b2
  ·clear hr
   walk_at "eh"
   try rfl
  ·walk_at "eh"
   try rfl
 ·clear h2
  walk_at "eh"
  rfl
theorem whole_ok (i : Int) : d_is_whole [.int i] = some (.ret (.bl true)) := by
 have e : d_is_whole [.int i] = fD 1 1 (sRet (eAnd (eIsiV 0 "int") (eNot (eIsiV 0 "bool")))) [.int i] := rfl
 rw [e]
 walk_at "ev"
 rfl
abbrev csA : AF := (aC (eJ (jC (eC (.str "a side is a whole number from ")) (jC (eFmt (eV 1)) (jC (eC (.str " to ")) (jC (eFmt (eV 2)) jN))))) aN)
theorem csA_ok (i lo hi : Int) (h1 : 0 ≤ lo ∧ lo ≤ 10 ^ 42) (h2 : 0 ≤ hi ∧ hi ≤ 10 ^ 42) : ∃ s : Str, csA [.fz (.int i), .fz (.int lo), .fz (.int hi)] = some (.ok [.str s] [.fz (.int i), .fz (.int lo), .fz (.int hi)]) := by
 have e43 : (10 : Int) ^ 42 ≤ ((10 ^ 43 : Nat) : Int) := by decide +kernel
 have s1 : Sm lo := sm_of (by omega)
 have s2 : Sm hi := sm_of (by omega)
 have l1 := num_len h1.1 h1.2
 have l2 := num_len h2.1 h2.2
 have f1 : ∀ e : DE, e[1]? = some (.fz (.int lo)) → eFmt (eV 1) e = some (.ok (.str (toString lo)) e) := fun e q => by
  unfold eFmt
  have : eV 1 e = some (.ok (.int lo) e) := by unfold eV; rw [q]
  rw [this, bnd_ok]
  exact if_pos s1
 have f2 : ∀ e : DE, e[2]? = some (.fz (.int hi)) → eFmt (eV 2) e = some (.ok (.str (toString hi)) e) := fun e q => by
  unfold eFmt
  have : eV 2 e = some (.ok (.int hi) e) := by unfold eV; rw [q]
  rw [this, bnd_ok]
  exact if_pos s2
 have jc : ∀ (f : ZF) (k : JF) (e : DE) (acc y : Str), f e = some (.ok (.str y) e) → (acc ++ y).length ≤ 1000 → jC f k e acc = k e (acc ++ y) := fun f k e acc y hf hl => by
  unfold jC
  rw [hf, bnd_ok]
  exact if_pos (lnS (by omega))
 have k1 : ("a side is a whole number from " : Str).length = 30 := by decide +kernel
 have k2 : (" to " : Str).length = 4 := by decide +kernel
 have k0 : (Str.empty : Str).length = 0 := by decide +kernel
 refine ⟨((((Str.empty ++ "a side is a whole number from ") ++ toString lo) ++ " to ") ++ toString hi), ?_⟩
 have ej : eJ (jC (eC (.str "a side is a whole number from ")) (jC (eFmt (eV 1)) (jC (eC (.str " to ")) (jC (eFmt (eV 2)) jN)))) [.fz (.int i), .fz (.int lo), .fz (.int hi)] = some (.ok (.str ((((Str.empty ++ "a side is a whole number from ") ++ toString lo) ++ " to ") ++ toString hi)) [.fz (.int i), .fz (.int lo), .fz (.int hi)]) := by
  unfold eJ
  rw [jc _ _ _ _ _ rfl (by simp only [app_len]; omega), jc _ _ _ _ _ (f1 _ rfl) (by simp only [app_len]; omega), jc _ _ _ _ _ rfl (by simp only [app_len]; omega), jc _ _ _ _ _ (f2 _ rfl) (by simp only [app_len]; omega)]
  show bnd (if _ ≤ sizeLine then _ else _) _ = _
  rw [if_pos (lnS (by simp only [app_len]; omega)), bnd_ok]
 show bnd (eJ _ _) _ = _
 rw [ej, bnd_ok]
 rfl
theorem check_side_ok (i lo hi : Int) (h1 : 0 ≤ lo ∧ lo ≤ 10 ^ 42) (h2 : 0 ≤ hi ∧ hi ≤ 10 ^ 42) : d_check_side [.int i, .int lo, .int hi] = some (csR (rg lo hi i)) := by
 obtain ⟨s, hs⟩ := csA_ok i lo hi h1 h2
 have := cs_run d_is_whole csA gLt gGt i lo hi (.str s) (decide (i < lo)) (decide (hi < i)) (whole_ok i) (gLt_eq _ _) (gGt_eq _ _) hs
 refine Eq.trans this ?_
 have e : (!decide (i < lo) && !decide (hi < i)) = rg lo hi i := by
  unfold rg
  by_cases a : i < lo <;> by_cases b : hi < i <;> simp [a, b] <;> omega
 rw [e]
theorem mw_run (CS : List D → Option R1) (GP : D → D → Option D) (w h B : Int) (t : D) (b1 b2 : Bool) (hp : GP (.int 10) (.int 40) = some (.int B)) (h1 : CS [.int w, .int 1, .int B] = some (csR b1)) (h2 : CS [.int h, .int 1, .int B] = some (csR b2)) : fD 3 3 (sSeq (sEx (eCall CS (aC (eV 0) (aC (eC (.int 1)) (aC (eB GP (eC (.int 10)) (eC (.int 40))) aN))))) (sSeq (sEx (eCall CS (aC (eV 1) (aC (eC (.int 1)) (aC (eB GP (eC (.int 10)) (eC (.int 40))) aN))))) (sRet (eT (aC (eV 0) (aC (eV 1) (aC (eV 2) aN))))))) [.int w, .int h, t] = some (if (b1 && b2) = true then .ret (.tup [.int w, .int h, t]) else .ex (.p "BadSide")) := by
 cases b1
 ·clear h2
  unfold csR at h1
  rw [if_neg (by decide)] at h1
  walk_at "eh"
  rfl
 ·unfold csR at h1 h2
  rw [if_pos rfl] at h1
  cases b2
  ·rw [if_neg (by decide)] at h2
   walk_at "eh"
   try rfl
  ·rw [if_pos rfl] at h2
   walk_at "eh"
   try rfl
theorem mb_run (CS : List D → Option R1) (GP : D → D → Option D) (w h B : Int) (b1 b2 : Bool) (hp : GP (.int 10) (.int 42) = some (.int B)) (h1 : CS [.int w, .int 0, .int B] = some (csR b1)) (h2 : CS [.int h, .int 0, .int B] = some (csR b2)) : fD 2 2 (sSeq (sEx (eCall CS (aC (eV 0) (aC (eC (.int 0)) (aC (eB GP (eC (.int 10)) (eC (.int 42))) aN))))) (sSeq (sEx (eCall CS (aC (eV 1) (aC (eC (.int 0)) (aC (eB GP (eC (.int 10)) (eC (.int 42))) aN))))) (sRet (eT (aC (eV 0) (aC (eV 1) aN)))))) [.int w, .int h] = some (if (b1 && b2) = true then .ret (.tup [.int w, .int h]) else .ex (.p "BadSide")) := by
 cases b1
 ·clear h2
  unfold csR at h1
  rw [if_neg (by decide)] at h1
  walk_at "eh"
  rfl
 ·unfold csR at h1 h2
  rw [if_pos rfl] at h1
  cases b2
  ·rw [if_neg (by decide)] at h2
   walk_at "eh"
   try rfl
  ·rw [if_pos rfl] at h2
   walk_at "eh"
   try rfl
theorem pow40 : gPow (.int 10) (.int 40) = some (.int (10 ^ 40)) := gPow_eq (by decide +kernel)
theorem pow42 : gPow (.int 10) (.int 42) = some (.int (10 ^ 42)) := gPow_eq (by decide +kernel)
theorem made_ware_ok (w h : Int) (t : D) : d_made_ware [.int w, .int h, t] = some (if (rg 1 (10 ^ 40) w && rg 1 (10 ^ 40) h) = true then .ret (.tup [.int w, .int h, t]) else .ex (.p "BadSide")) :=
 mw_run d_check_side gPow w h (10 ^ 40) t _ _ pow40 (check_side_ok _ _ _ (by decide +kernel) (by decide +kernel)) (check_side_ok _ _ _ (by decide +kernel) (by decide +kernel))
theorem made_box_ok (w h : Int) : d_made_box [.int w, .int h] = some (if (rg 0 (10 ^ 42) w && rg 0 (10 ^ 42) h) = true then .ret (.tup [.int w, .int h]) else .ex (.p "BadSide")) :=
 mb_run d_check_side gPow w h (10 ^ 42) _ _ pow42 (check_side_ok _ _ _ (by decide +kernel) (by decide +kernel)) (check_side_ok _ _ _ (by decide +kernel) (by decide +kernel))
abbrev Wr := Int × Int × Bool
def wrD (p : Wr) : D := .tup [.int p.1, .int p.2.1, .bl p.2.2]
def wareOf (l : List Nat) : Option Wr := (sidesOf (bodyOf l)).bind fun p => if (rg 1 (10 ^ 40) p.1 && rg 1 (10 ^ 40) p.2) = true then some (p.1, p.2, lastPlus l) else none
def IsNo (c : XN) : Prop := c = .p "NoText" ∨ c = .k "NoText"
def OkW {α : Type} (f : α → D) (o : Option α) (r : R1) : Prop := match o with
 | some p => r = .ret (f p)
 | none => ∃ c, r = .ex c ∧ IsNo c
theorem body_len (l : List Nat) : (bodyOf l).length ≤ l.length := by
 unfold bodyOf; split
 ·rw [List.length_dropLast]; omega
 ·exact Nat.le_refl _
theorem rw_a (RS : List D → Option R1) (ZE ZS : ZF) (T : SF) (x y : Str) (t : Bool) (o : Option (Int × Int)) (r : Option R1) (he : ZE [.fz (.str x), .no, .no, .no] = some (.ok (.bl t) [.fz (.str x), .no, .no, .no])) (hs : t = true → ZS [.fz (.str x), .fz (.bl t), .no, .no] = some (.ok (.str y) [.fz (.str x), .fz (.bl t), .no, .no])) (hy : t = false → y = x) (h : RS [.str y] = some (sR o)) (hn : o = none → r = some (.ex (.p "NoText"))) (ht : ∀ i j, o = some (i, j) → finR (T [.fz (.str x), .fz (.bl t), .fz (.int i), .fz (.int j)]) = r) :
  fD 4 1 (sSeq (sSet 1 ZE) (sSeq (sAsg (eCall RS (aC (eIf (bZ (eV 1)) ZS (eV 0)) aN)) (bTup [(bName 2), (bName 3)])) T)) [.str x] = r := by
 have e1 : fD 4 1 (sSeq (sSet 1 ZE) (sSeq (sAsg (eCall RS (aC (eIf (bZ (eV 1)) ZS (eV 0)) aN)) (bTup [(bName 2), (bName 3)])) T)) [.str x] = finR (seqR ((sAsg (eCall RS (aC (eIf (bZ (eV 1)) ZS (eV 0)) aN)) (bTup [(bName 2), (bName 3)])) [.fz (.str x), .fz (.bl t), .no, .no]) T) := by
  generalize (sAsg (eCall RS (aC (eIf (bZ (eV 1)) ZS (eV 0)) aN)) (bTup [(bName 2), (bName 3)])) = G
  clear hs hy h hn ht
  walk_at "eh"
 have e2 : (eCall RS (aC (eIf (bZ (eV 1)) ZS (eV 0)) aN)) [.fz (.str x), .fz (.bl t), .no, .no] = toZ (RS [.str y]) [.fz (.str x), .fz (.bl t), .no, .no] := by
  cases t
  ·have hy := hy rfl
   subst hy
   rfl
  ·have hs := hs rfl
   unfold eCall
   have : (aC (eIf (bZ (eV 1)) ZS (eV 0)) aN) [.fz (.str x), .fz (.bl true), .no, .no] = some (.ok [.str y] [.fz (.str x), .fz (.bl true), .no, .no]) := by
    clear e1 h hn ht
    walk_at "eh"
   rw [this]
   rfl
 rw [e1]
 unfold sAsg
 rw [e2, h]
 cases o with
 | none =>
  rw [hn rfl]
  rfl
 | some p =>
  rw [← ht p.1 p.2 rfl]
  rfl
abbrev rwH : HF := (hCp xo_BadSide (sRaiseK "NoText" (aC (eC (.str "a ware's side is out of its range")) aN)) hN)
abbrev rbH : HF := (hCp xo_BadSide (sRaiseK "NoText" (aC (eC (.str "a box's side is out of its range")) aN)) hN)
theorem raiseK_ok (c : Str) (d : D) (e : DE) : sRaiseK c (aC (eC d) aN) e = some (.ex (.k c)) := by
 show (if [d].length ≤ sizeLine then some (RS.ex (.k c)) else none) = _
 exact if_pos (by show 1 ≤ sizeLine; decide)
theorem hCp_ok {xo : Str → Option Bool} {s : SF} {r : HF} {c : Str} {e : DE} (h : xo c = some true) : hCp xo s r (.p c) e = s e := by
 show (match xo c with
  | some true => s e
  | some false => r (.p c) e
  | none => none) = _
 rw [h]
theorem rwT (MW : List D → Option R1) (S : SF) (x : D) (t i j r : D) (b : Bool) (h : MW [i, j, t] = some (if b = true then .ret r else .ex (.p "BadSide"))) (hs : S (List.replicate 4 Sl.no) = some (.ex (.k "NoText"))) : finR (sTryH 4 (sRetC MW (aC (eV 2) (aC (eV 3) (aC (eV 1) aN)))) (hCp xo_BadSide S hN) [.fz x, .fz t, .fz i, .fz j]) = some (if b = true then .ret r else .ex (.k "NoText")) := by
 have e1 : (sRetC MW (aC (eV 2) (aC (eV 3) (aC (eV 1) aN)))) [.fz x, .fz t, .fz i, .fz j] = toRet (MW [i, j, t]) := rfl
 unfold sTryH
 rw [e1, h]
 cases b
 ·show finR (if noHd _ = true then hCp xo_BadSide S hN (.p "BadSide") (List.replicate 4 Sl.no) else none) = _
  rw [if_pos (show noHd _ = true from rfl), hCp_ok (by unfold xo_BadSide; rw [if_pos rfl]), hs]
  rfl
 ·rfl
theorem zEnds_ok {k : Str} {x : Str} {e : DE} (h : e[0]? = some (.fz (.str x))) : zSM gEndswith (eV 0) (eC (.str k)) e = some (.ok (.bl (Txt.endswith x k)) e) := by
 unfold zSM
 have e1 : eV 0 e = some (.ok (.str x) e) := by unfold eV; rw [h]
 rw [e1, bnd_ok]
 rfl
theorem read_ware_ok (x : Str) (hx : x.length ≤ 5000) : ∃ r, d_read_ware [.str x] = some r ∧ OkW wrD (wareOf x.cps.toList) r := by
 have ll := len_list x
 have bl := body_len x.cps.toList
 have key : ∀ r, (sidesOf (bodyOf x.cps.toList) = none → r = some (.ex (.p "NoText"))) → (∀ i j, sidesOf (bodyOf x.cps.toList) = some (i, j) → finR (sTryH 4 (sRetC d_made_ware (aC (eV 2) (aC (eV 3) (aC (eV 1) aN)))) rwH [.fz (.str x), .fz (.bl (lastPlus x.cps.toList)), .fz (.int i), .fz (.int j)]) = r) → d_read_ware [.str x] = r := fun r h1 h2 =>
  rw_a d_read_sides (zSM gEndswith (eV 0) (eC (.str "+"))) (zSlS (eV 0) oN (oS (eU gNeg (eC (.int 1))))) _ x (strOf (bodyOf x.cps.toList)) (lastPlus x.cps.toList) (sidesOf (bodyOf x.cps.toList)) r (by rw [zEnds_ok rfl, p_is, ends_any]) (fun ht => by
   rw [zSl_ok rfl hx rfl rfl]
   show some (L2.R.ok (D.str (Txt.slice x none (some (-1)))) _) = _
   rw [cut_any x ht]) (fun hf => by
   unfold bodyOf
   rw [if_neg (by rw [hf]; decide)]
   exact strOf_self x) (read_sides_ok _ (by rw [strOf_len]; omega)) h1 h2
 unfold wareOf
 cases q : sidesOf (bodyOf x.cps.toList) with
 | none => exact ⟨_, key _ (fun _ => rfl) (fun i j h => by rw [q] at h; cases h), _, rfl, .inl rfl⟩
 | some p =>
  have := key (some (if (rg 1 (10 ^ 40) p.1 && rg 1 (10 ^ 40) p.2) = true then .ret (wrD (p.1, p.2, lastPlus x.cps.toList)) else .ex (.k "NoText"))) (fun h => by rw [q] at h; cases h) (fun i j h => by
   rw [q] at h
   cases h
   exact rwT d_made_ware _ (.str x) (.bl (lastPlus x.cps.toList)) (.int i) (.int j) (wrD (i, j, lastPlus x.cps.toList)) _ (made_ware_ok i j _) (raiseK_ok _ _ _))
  refine ⟨_, this, ?_⟩
  show OkW wrD (if (rg 1 (10 ^ 40) p.1 && rg 1 (10 ^ 40) p.2) = true then some (p.1, p.2, lastPlus x.cps.toList) else none) _
  by_cases h : (rg 1 (10 ^ 40) p.1 && rg 1 (10 ^ 40) p.2) = true
  ·rw [if_pos h, if_pos h]; rfl
  ·rw [if_neg h, if_neg h]; exact ⟨_, rfl, .inr rfl⟩
def boxOf (l : List Nat) : Option (Int × Int) := (sidesOf l).bind fun p => if (rg 0 (10 ^ 42) p.1 && rg 0 (10 ^ 42) p.2) = true then some p else none
def boxD (p : Int × Int) : D := .tup [.int p.1, .int p.2]
theorem rb_a (RS : List D → Option R1) (T : SF) (x : Str) (o : Option (Int × Int)) (r : Option R1) (h : RS [.str x] = some (sR o)) (hn : o = none → r = some (.ex (.p "NoText"))) (ht : ∀ i j, o = some (i, j) → finR (T [.fz (.str x), .fz (.int i), .fz (.int j)]) = r) :
  fD 3 1 (sSeq (sAsg (eCall RS (aC (eV 0) aN)) (bTup [(bName 1), (bName 2)])) T) [.str x] = r := by
 have e1 : fD 3 1 (sSeq (sAsg (eCall RS (aC (eV 0) aN)) (bTup [(bName 1), (bName 2)])) T) [.str x] = finR (seqR ((sAsg (eCall RS (aC (eV 0) aN)) (bTup [(bName 1), (bName 2)])) [.fz (.str x), .no, .no]) T) := rfl
 have e2 : (eCall RS (aC (eV 0) aN)) [.fz (.str x), .no, .no] = toZ (RS [.str x]) [.fz (.str x), .no, .no] := rfl
 rw [e1]
 unfold sAsg
 rw [e2, h]
 cases o with
 | none =>
  rw [hn rfl]
  rfl
 | some p =>
  rw [← ht p.1 p.2 rfl]
  rfl
theorem rbT (MW : List D → Option R1) (S : SF) (x : D) (i j r : D) (b : Bool) (h : MW [i, j] = some (if b = true then .ret r else .ex (.p "BadSide"))) (hs : S (List.replicate 3 Sl.no) = some (.ex (.k "NoText"))) : finR (sTryH 3 (sRetC MW (aC (eV 1) (aC (eV 2) aN))) (hCp xo_BadSide S hN) [.fz x, .fz i, .fz j]) = some (if b = true then .ret r else .ex (.k "NoText")) := by
 have e1 : (sRetC MW (aC (eV 1) (aC (eV 2) aN))) [.fz x, .fz i, .fz j] = toRet (MW [i, j]) := rfl
 unfold sTryH
 rw [e1, h]
 cases b
 ·show finR (if noHd _ = true then hCp xo_BadSide S hN (.p "BadSide") (List.replicate 3 Sl.no) else none) = _
  rw [if_pos (show noHd _ = true from rfl), hCp_ok (by unfold xo_BadSide; rw [if_pos rfl]), hs]
  rfl
 ·rfl
theorem read_box_ok (x : Str) (hx : x.length ≤ 5000) : ∃ r, d_read_box [.str x] = some r ∧ OkW boxD (boxOf x.cps.toList) r := by
 have key : ∀ r, (sidesOf x.cps.toList = none → r = some (.ex (.p "NoText"))) → (∀ i j, sidesOf x.cps.toList = some (i, j) → finR (sTryH 3 (sRetC d_made_box (aC (eV 1) (aC (eV 2) aN))) rbH [.fz (.str x), .fz (.int i), .fz (.int j)]) = r) → d_read_box [.str x] = r := fun r h1 h2 =>
  rb_a d_read_sides _ x (sidesOf x.cps.toList) r (read_sides_ok x hx) h1 h2
 unfold boxOf
 cases q : sidesOf x.cps.toList with
 | none => exact ⟨_, key _ (fun _ => rfl) (fun i j h => by rw [q] at h; cases h), _, rfl, .inl rfl⟩
 | some p =>
  have := key (some (if (rg 0 (10 ^ 42) p.1 && rg 0 (10 ^ 42) p.2) = true then .ret (boxD p) else .ex (.k "NoText"))) (fun h => by rw [q] at h; cases h) (fun i j h => by
   rw [q] at h
   cases h
   exact rbT d_made_box _ (.str x) (.int i) (.int j) (boxD (i, j)) _ (made_box_ok i j) (raiseK_ok _ _ _))
  refine ⟨_, this, ?_⟩
  show OkW boxD (if (rg 0 (10 ^ 42) p.1 && rg 0 (10 ^ 42) p.2) = true then some p else none) _
  by_cases h : (rg 0 (10 ^ 42) p.1 && rg 0 (10 ^ 42) p.2) = true
  ·rw [if_pos h, if_pos h]; rfl
  ·rw [if_neg h, if_neg h]; exact ⟨_, rfl, .inr rfl⟩
def allW : List (List Nat) → Option (List Wr)
 | [] => some []
 | w :: r => (wareOf w).bind fun p => (allW r).bind fun ps => some (p :: ps)
abbrev lst (x : Str) : List Nat := x.cps.toList
theorem spl_any (x : Str) : ∃ (p : Str) (r : List Str), Txt.split x ⟨#[32]⟩ = p :: r ∧ lst x = lst p ++ r.flatMap (fun y => 32 :: lst y) ∧ (∀ q ∈ p :: r, 32 ∉ lst q) := by
 obtain ⟨p, r, e⟩ := split_ne x ⟨#[32]⟩
 have j := StrLaws.join_split x ⟨#[32]⟩
 have f := StrLaws.split_free x 32
 rw [e] at j f
 refine ⟨p, r, e, ?_, f⟩
 rw [← join_one, j]
theorem flat_len : ∀ (r : List Str), r.length ≤ (r.flatMap (fun y => 32 :: lst y)).length ∧ ∀ q ∈ r, q.length ≤ (r.flatMap (fun y => 32 :: lst y)).length
 | [] => ⟨Nat.le_refl _, fun _ m => by cases m⟩
 | y :: r => by
  obtain ⟨h1, h2⟩ := flat_len r
  rw [List.flatMap_cons, List.length_append, List.length_cons, List.length_cons, len_list]
  refine ⟨by omega, fun q m => ?_⟩
  rcases List.mem_cons.mp m with rfl | m
  ·omega
  ·have := h2 q m; omega
theorem spl_len {x p : Str} {r : List Str} (h : lst x = lst p ++ r.flatMap (fun y => 32 :: lst y)) : p.length ≤ x.length ∧ r.length ≤ x.length ∧ ∀ q ∈ r, q.length ≤ x.length := by
 have e := congrArg List.length h
 rw [List.length_append, len_list, len_list] at e
 obtain ⟨h1, h2⟩ := flat_len r
 exact ⟨by omega, by omega, fun q m => by have := h2 q m; omega⟩
theorem cw_comp : ∀ (ws : List Str) (acc : List D) (eo : DE), (∀ q ∈ ws, q.length ≤ 5000) → acc.length + ws.length ≤ 10000 → (∃ ps, allW (ws.map lst) = some ps ∧ compD (bName 0) bTrue (eCall d_read_ware (aC (eV 0) aN)) [Sl.no] eo (ws.map D.str) acc = some (.ok (acc ++ ps.map wrD) eo)) ∨ (allW (ws.map lst) = none ∧ ∃ c, IsNo c ∧ compD (bName 0) bTrue (eCall d_read_ware (aC (eV 0) aN)) [Sl.no] eo (ws.map D.str) acc = some (.ex c))
 | [], acc, eo, _, _ => .inl ⟨[], rfl, by rw [List.map_nil, List.map_nil, List.append_nil]; rfl⟩
 | w :: ws, acc, eo, hq, hl => by
  obtain ⟨r, e1, e2⟩ := read_ware_ok w (hq w List.mem_cons_self)
  rw [List.length_cons] at hl
  have b1 : bName 0 (D.str w) [Sl.no] = some [Sl.fz (.str w)] := rfl
  have el : (eCall d_read_ware (aC (eV 0) aN)) [Sl.fz (.str w)] = toZ (d_read_ware [.str w]) [Sl.fz (.str w)] := rfl
  have hlen : acc.length < sizeLine := by show _ < 2 ^ 24; omega
  rw [List.map_cons, List.map_cons, compD_cons, b1, optB_some, show bTrue [Sl.fz (D.str w)] = some (.ok true [Sl.fz (.str w)]) from rfl, bnd_ok, if_pos rfl, el, e1]
  show (∃ ps, ((wareOf (lst w)).bind fun p => (allW (ws.map lst)).bind fun ps => some (p :: ps)) = some ps ∧ _) ∨ (((wareOf (lst w)).bind fun p => (allW (ws.map lst)).bind fun ps => some (p :: ps)) = none ∧ _)
  cases hw : wareOf (lst w) with
  | none =>
   rw [hw] at e2
   obtain ⟨c, rfl, hc⟩ := e2
   exact .inr ⟨rfl, c, hc, rfl⟩
  | some p =>
   rw [hw] at e2
   have e2 : r = .ret (wrD p) := e2
   subst e2
   show (∃ ps, ((allW (ws.map lst)).bind fun ps => some (p :: ps)) = some ps ∧ bnd (some (L2.R.ok (wrD p) [Sl.fz (.str w)])) _ = _) ∨ (((allW (ws.map lst)).bind fun ps => some (p :: ps)) = none ∧ ∃ c, IsNo c ∧ bnd (some (L2.R.ok (wrD p) [Sl.fz (.str w)])) _ = _)
   rw [bnd_ok, if_pos hlen]
   rcases cw_comp ws (acc ++ [wrD p]) eo (fun q m => hq q (List.mem_cons_of_mem _ m)) (by rw [List.length_append, List.length_singleton]; omega) with ⟨ps, h1, h2⟩ | ⟨h1, c, h2, h3⟩
   ·refine .inl ⟨p :: ps, by rw [h1]; rfl, ?_⟩
    rw [h2, List.map_cons, List.append_assoc]
    rfl
   ·exact .inr ⟨by rw [h1]; rfl, c, h2, h3⟩
def caseD (q : (Int × Int) × List Wr) : D := .tup [boxD q.1, .lst (q.2.map wrD)]
def caseOf (l : List Nat) (w0 : Str) (ws : List Str) : Option ((Int × Int) × List Wr) := (boxOf (cutAt 58 l).1).bind fun bx => if lst w0 = [] then (allW (ws.map lst)).bind fun ps => some (bx, ps) else none
abbrev rcC : NF := (nComp 1 [] (zN (nSlV 5 (oS (eC (.int 1))) oN)) (bName 0) bTrue (eCall d_read_ware (aC (eV 0) aN)))
abbrev rcA (ZP : ZF) (RB : List D → Option R1) (NS NC : NF) (GE0 GE1 : D → D → Option D) : SF := (sSeq (sAsg ZP (bTup [(bName 1), (bName 2), (bName 3)])) (sSeq (sIf (bZ (eB GE0 (eV 2) (eC (.str "")))) (sRaise "NoText" (aC (eC (.str "a case has a colon behind its box")) aN)) sNx) (sSeq (sSetC 4 RB (aC (eV 1) aN)) (sSeq (sSetN 5 NS) (sSeq (sIf (bZ (eB GE1 (eBV gIxL 5 (eC (.int 0))) (eC (.str "")))) (sRaise "NoText" (aC (eC (.str "a ware has a blank ahead of it")) aN)) sNx) (sRet (eT (aC (eV 4) (aC (zN NC) aN)))))))))
theorem rc_1 (ZP : ZF) (RB : List D → Option R1) (NS NC : NF) (GE0 GE1 : D → D → Option D) (x a m t : D) (hz : ZP [.fz x, .no, .no, .no, .no, .no] = some (.ok (.tup [a, m, t]) [.fz x, .no, .no, .no, .no, .no])) (h : GE0 m (.str "") = some (.bl true)) : fD 6 1 (rcA ZP RB NS NC GE0 GE1) [x] = some (.ex (.p "NoText")) := by
 unfold rcA
 walk_at "eh"
theorem rc_2 (ZP : ZF) (RB : List D → Option R1) (NS NC : NF) (GE0 GE1 : D → D → Option D) (x a m t : D) (c : XN) (hz : ZP [.fz x, .no, .no, .no, .no, .no] = some (.ok (.tup [a, m, t]) [.fz x, .no, .no, .no, .no, .no])) (h : GE0 m (.str "") = some (.bl false)) (hb : RB [a] = some (.ex c)) : fD 6 1 (rcA ZP RB NS NC GE0 GE1) [x] = some (.ex c) := by
 unfold rcA
 walk_at "eh"
theorem rc_3 (ZP : ZF) (RB : List D → Option R1) (NS NC : NF) (GE0 GE1 : D → D → Option D) (x a m t bx w0 : D) (ws : List D) (hz : ZP [.fz x, .no, .no, .no, .no, .no] = some (.ok (.tup [a, m, t]) [.fz x, .no, .no, .no, .no, .no])) (h : GE0 m (.str "") = some (.bl false)) (hb : RB [a] = some (.ret bx)) (hn : NS [.fz x, .fz a, .fz m, .fz t, .fz bx, .no] = some (.ok (w0 :: ws) [.fz x, .fz a, .fz m, .fz t, .fz bx, .no])) (h0 : atI (w0 :: ws) 0 = some w0) (hg : GE1 w0 (.str "") = some (.bl true)) : fD 6 1 (rcA ZP RB NS NC GE0 GE1) [x] = some (.ex (.p "NoText")) := by
 unfold rcA
 walk_at "eh"
theorem rc_4 (ZP : ZF) (RB : List D → Option R1) (NS NC : NF) (GE0 GE1 : D → D → Option D) (x a m t bx w0 : D) (ws : List D) (c : XN) (hz : ZP [.fz x, .no, .no, .no, .no, .no] = some (.ok (.tup [a, m, t]) [.fz x, .no, .no, .no, .no, .no])) (h : GE0 m (.str "") = some (.bl false)) (hb : RB [a] = some (.ret bx)) (hn : NS [.fz x, .fz a, .fz m, .fz t, .fz bx, .no] = some (.ok (w0 :: ws) [.fz x, .fz a, .fz m, .fz t, .fz bx, .no])) (h0 : atI (w0 :: ws) 0 = some w0) (hg : GE1 w0 (.str "") = some (.bl false)) (hc : NC [.fz x, .fz a, .fz m, .fz t, .fz bx, .ow (w0 :: ws)] = some (.ex c)) : fD 6 1 (rcA ZP RB NS NC GE0 GE1) [x] = some (.ex c) := by
 unfold rcA
 walk_at "eh"
theorem rc_5 (ZP : ZF) (RB : List D → Option R1) (NS NC : NF) (GE0 GE1 : D → D → Option D) (x a m t bx w0 : D) (ws ds : List D) (hz : ZP [.fz x, .no, .no, .no, .no, .no] = some (.ok (.tup [a, m, t]) [.fz x, .no, .no, .no, .no, .no])) (h : GE0 m (.str "") = some (.bl false)) (hb : RB [a] = some (.ret bx)) (hn : NS [.fz x, .fz a, .fz m, .fz t, .fz bx, .no] = some (.ok (w0 :: ws) [.fz x, .fz a, .fz m, .fz t, .fz bx, .no])) (h0 : atI (w0 :: ws) 0 = some w0) (hg : GE1 w0 (.str "") = some (.bl false)) (hc : NC [.fz x, .fz a, .fz m, .fz t, .fz bx, .ow (w0 :: ws)] = some (.ok ds [.fz x, .fz a, .fz m, .fz t, .fz bx, .ow (w0 :: ws)])) : fD 6 1 (rcA ZP RB NS NC GE0 GE1) [x] = some (.ret (.tup [bx, .lst ds])) := by
 unfold rcA
 walk_at "eh"
theorem nSplit_ok {z : ZF} {x : Str} {e : DE} (h : z e = some (.ok (.str x) e)) (hx : x.length ≤ 5000) (hs : (Txt.split x " ").length ≤ 100000) : nSplit z (eC (.str " ")) e = some (.ok ((Txt.split x " ").map .str) e) := by
 unfold nSplit
 rw [h, bnd_ok]
 show (if ((" " : Str).length == 0) = false ∧ x.length ≤ sizeLine ∧ (Txt.split x " ").length ≤ sizeLine then some (L2.R.ok ((Txt.split x " ").map D.str) e) else none) = _
 exact if_pos ⟨by rw [s_is]; rfl, lnS (by omega), lnS hs⟩
theorem cut_tail (w0 : D) (ws : List D) : L2.cutD (w0 :: ws) (some 1) none = ws := by
 unfold L2.cutD
 have e : HT.sIx (w0 :: ws).length 0 (some 1) = min 1 (w0 :: ws).length := HT.sIx_nat (w0 :: ws).length 0 1
 rw [e, HT.sIx_none, List.length_cons, show min 1 (ws.length + 1) = 1 by omega]
 simp
theorem read_case_ok (x : Str) (hx : x.length ≤ 5000) : (58 ∉ lst x ∧ ∃ c, IsNo c ∧ d_read_case [.str x] = some (.ex c)) ∨ (58 ∈ lst x ∧ ∃ t w0 ws r, lst t = (cutAt 58 (lst x)).2 ∧ Txt.split t ⟨#[32]⟩ = w0 :: ws ∧ d_read_case [.str x] = some r ∧ OkW caseD (caseOf (lst x) w0 ws) r) := by
 have ll := len_list x
 have st : d_read_case [.str x] = fD 6 1 (rcA (zPart (eV 0) (eC (.str ":"))) d_read_box (nSplit (eV 3) (eC (.str " "))) rcC (gEq false) (gEq true)) [.str x] := rfl
 have n_is : ("" : Str) = Str.empty := by decide +kernel
 by_cases h : 58 ∈ lst x
 ·right
  refine ⟨h, strOf (cutAt 58 (lst x)).2, ?_⟩
  obtain ⟨c1, c2⟩ := cutAt_has h
  have cl := cutAt_len (c := 58) (lst x)
  have ll : (lst x).length = x.length := ll
  obtain ⟨w0, ws, e, e1, e2⟩ := spl_any (strOf (cutAt 58 (lst x)).2)
  obtain ⟨l1, l2, l3⟩ := spl_len e1
  rw [strOf_len] at l1 l2 l3
  obtain ⟨rb, b1, b2⟩ := read_box_ok (strOf (cutAt 58 (lst x)).1) (by rw [strOf_len]; omega)
  have hz : zPart (eV 0) (eC (.str ":")) [.fz (.str x), .no, .no, .no, .no, .no] = some (.ok (.tup [.str (strOf (cutAt 58 (lst x)).1), .str ⟨#[58]⟩, .str (strOf (cutAt 58 (lst x)).2)]) [.fz (.str x), .no, .no, .no, .no, .no]) := by
   rw [zPart_ok rfl hx (by rw [c_is]; rfl), c_is, part_one c1 c2]
   rfl
  have hg : gEq false (.str ⟨#[58]⟩) (.str "") = some (.bl false) := by
   rw [gEq_str, decide_eq_false (fun q => by have := congrArg (fun z : Str => z.cps.toList) q; rw [n_list] at this; cases this)]; rfl
  refine ⟨w0, ws, ?_⟩
  rw [st]
  unfold caseOf
  have b2 : OkW boxD (boxOf (cutAt 58 (lst x)).1) rb := b2
  cases hb : boxOf (cutAt 58 (lst x)).1 with
  | none =>
   rw [hb] at b2
   obtain ⟨c, rfl, hc⟩ := b2
   exact ⟨_, rfl, e, rc_2 _ _ _ _ _ _ _ _ _ _ c hz hg b1, c, rfl, hc⟩
  | some bx =>
   rw [hb] at b2
   have b2 : rb = .ret (boxD bx) := b2
   subst b2
   have hn : nSplit (eV 3) (eC (.str " ")) [.fz (.str x), .fz (.str (strOf (cutAt 58 (lst x)).1)), .fz (.str ⟨#[58]⟩), .fz (.str (strOf (cutAt 58 (lst x)).2)), .fz (boxD bx), .no] = some (.ok (.str w0 :: ws.map .str) [.fz (.str x), .fz (.str (strOf (cutAt 58 (lst x)).1)), .fz (.str ⟨#[58]⟩), .fz (.str (strOf (cutAt 58 (lst x)).2)), .fz (boxD bx), .no]) := by
    rw [nSplit_ok (x := strOf (cutAt 58 (lst x)).2) rfl (by rw [strOf_len]; omega) (by rw [s_is, e, List.length_cons]; omega), s_is, e]
    rfl
   have h0 : atI (D.str w0 :: ws.map .str) 0 = some (D.str w0) := atI_natD (show (D.str w0 :: ws.map .str)[0]? = some (D.str w0) from rfl)
   show ∃ r, _ ∧ _ ∧ _ ∧ OkW caseD (if lst w0 = [] then (allW (ws.map lst)).bind fun ps => some (bx, ps) else none) r
   by_cases hw : lst w0 = []
   ·rw [if_pos hw]
    have hg1 : gEq true (.str w0) (.str "") = some (.bl false) := by
     rw [gEq_str, decide_eq_true (str_ext (by rw [n_list]; exact hw))]; rfl
    have cc : ∀ r, compD (bName 0) bTrue (eCall d_read_ware (aC (eV 0) aN)) [Sl.no] [.fz (.str x), .fz (.str (strOf (cutAt 58 (lst x)).1)), .fz (.str ⟨#[58]⟩), .fz (.str (strOf (cutAt 58 (lst x)).2)), .fz (boxD bx), .ow (.str w0 :: ws.map .str)] (ws.map D.str) [] = r → rcC [.fz (.str x), .fz (.str (strOf (cutAt 58 (lst x)).1)), .fz (.str ⟨#[58]⟩), .fz (.str (strOf (cutAt 58 (lst x)).2)), .fz (boxD bx), .ow (.str w0 :: ws.map .str)] = r := fun r hr => by
     rw [← hr]
     show compD (bName 0) bTrue (eCall d_read_ware (aC (eV 0) aN)) [Sl.no] _ (L2.cutD (D.str w0 :: ws.map .str) (some 1) none) [] = _
     rw [cut_tail]
    rcases cw_comp ws [] [.fz (.str x), .fz (.str (strOf (cutAt 58 (lst x)).1)), .fz (.str ⟨#[58]⟩), .fz (.str (strOf (cutAt 58 (lst x)).2)), .fz (boxD bx), .ow (.str w0 :: ws.map .str)] (fun q m => by have := l3 q m; omega) (by show 0 + _ ≤ _; omega) with ⟨ps, p1, p2⟩ | ⟨p1, c, p2, p3⟩
    ·rw [p1]
     exact ⟨_, rfl, e, rc_5 _ _ _ _ _ _ _ _ _ _ _ _ _ _ hz hg b1 hn h0 hg1 (cc _ p2), rfl⟩
    ·rw [p1]
     exact ⟨_, rfl, e, rc_4 _ _ _ _ _ _ _ _ _ _ _ _ _ c hz hg b1 hn h0 hg1 (cc _ p3), c, rfl, p2⟩
   ·rw [if_neg hw]
    have hg1 : gEq true (.str w0) (.str "") = some (.bl true) := by
     rw [gEq_str, decide_eq_false (fun q => hw (by rw [q]; exact n_list))]; rfl
    exact ⟨_, rfl, e, rc_3 _ _ _ _ _ _ _ _ _ _ _ _ _ hz hg b1 hn h0 hg1, _, rfl, .inl rfl⟩
 ·left
  refine ⟨h, _, .inl rfl, ?_⟩
  rw [st]
  have hz : zPart (eV 0) (eC (.str ":")) [.fz (.str x), .no, .no, .no, .no, .no] = some (.ok (.tup [.str x, .str Str.empty, .str Str.empty]) [.fz (.str x), .no, .no, .no, .no, .no]) := by
   rw [zPart_ok rfl hx (by rw [c_is]; rfl), c_is]
   rcases partition_whole x ⟨#[58]⟩ with ⟨hp, _⟩ | ⟨i, _, hi, _⟩
   ·rw [hp]; rfl
   ·exact absurd (List.mem_of_getElem? ((StrLaws.subAt_one x 58 i).mp hi)) h
  exact rc_1 _ _ _ _ _ _ _ _ _ _ hz (by rw [gEq_str, decide_eq_true n_is.symm]; rfl)
theorem lwhole_ok (i : Int) : d_l_whole [.int i] = some (.ret (.bl true)) := by
 have e : d_l_whole [.int i] = fD 1 1 (sRet (eAnd (eIsiV 0 "int") (eNot (eIsiV 0 "bool")))) [.int i] := rfl
 rw [e]
 walk_at "ev"
 rfl
theorem addS_ok {a b : Str} (h : a.length + b.length ≤ 100000) : gAddS (.str a) (.str b) = some (.str (a ++ b)) := if_pos (lnS h)
theorem str1_ok {i : Int} (h0 : 0 ≤ i) (h1 : i ≤ 10 ^ 43) : gStr1 (.int i) = some (.str (toString i)) := by
 have e43 : (10 : Int) ^ 43 = ((10 ^ 43 : Nat) : Int) := by decide +kernel
 have : Sm i := sm_of (by omega)
 exact if_pos this
def GB (b : Int × Int) : Prop := (0 ≤ b.1 ∧ b.1 ≤ 10 ^ 42) ∧ 0 ≤ b.2 ∧ b.2 ≤ 10 ^ 42
def GW (p : Wr) : Prop := (1 ≤ p.1 ∧ p.1 ≤ 10 ^ 40) ∧ 1 ≤ p.2.1 ∧ p.2.1 ≤ 10 ^ 40
def sideT (i j : Int) : Str := (toString i : Str) ++ "x" ++ (toString j : Str)
def wareT (p : Wr) : Str := if p.2.2 = true then sideT p.1 p.2.1 ++ "+" else sideT p.1 p.2.1
def caseT (b : Int × Int) (ws : List Wr) : Str := Txt.join " " ((sideT b.1 b.2 ++ ":") :: ws.map wareT)
theorem e40 : (10 : Int) ^ 40 ≤ 10 ^ 42 := by decide +kernel
theorem x_len : ("x" : Str).length = 1 := by decide +kernel
theorem p_len : ("+" : Str).length = 1 := by decide +kernel
theorem c_len : (":" : Str).length = 1 := by decide +kernel
theorem s_len : (" " : Str).length = 1 := by decide +kernel
theorem emp_len : (Str.empty : Str).length = 0 := by decide +kernel
theorem emp_list : (Str.empty : Str).cps.toList = [] := by decide +kernel
theorem side_len {i j : Int} (h1 : 0 ≤ i ∧ i ≤ 10 ^ 42) (h2 : 0 ≤ j ∧ j ≤ 10 ^ 42) : (sideT i j).length ≤ 87 := by
 have l1 := num_len h1.1 h1.2
 have l2 := num_len h2.1 h2.2
 unfold sideT; simp only [app_len, x_len]; omega
theorem GW.s {p : Wr} (h : GW p) : (0 ≤ p.1 ∧ p.1 ≤ 10 ^ 42) ∧ 0 ≤ p.2.1 ∧ p.2.1 ≤ 10 ^ 42 := by
 have := e40
 obtain ⟨⟨a, b⟩, c, d⟩ := h
 exact ⟨⟨by omega, Int.le_trans b this⟩, by omega, Int.le_trans d this⟩
theorem ware_len {p : Wr} (h : GW p) : (wareT p).length ≤ 88 := by
 have := side_len h.s.1 h.s.2
 unfold wareT; split
 ·rw [app_len, p_len]; omega
 ·omega
theorem jc_ok {f : ZF} {k : JF} {e : DE} {acc y : Str} (hf : f e = some (.ok (.str y) e)) (hl : (acc ++ y).length ≤ 1000) : jC f k e acc = k e (acc ++ y) := by
 unfold jC
 rw [hf, bnd_ok]
 exact if_pos (lnS (by omega))
theorem fmt_i {i : Int} {k : Nat} {e : DE} (h : 0 ≤ i ∧ i ≤ 10 ^ 42) (q : e[k]? = some (.fz (.int i))) : eFmt (eV k) e = some (.ok (.str (toString i)) e) := by
 have e43 : (10 : Int) ^ 42 ≤ ((10 ^ 43 : Nat) : Int) := by decide +kernel
 have s1 : Sm i := sm_of (by omega)
 unfold eFmt
 have : eV k e = some (.ok (.int i) e) := by unfold eV; rw [q]
 rw [this, bnd_ok]
 exact if_pos s1
theorem fmt_s {x : Str} {k : Nat} {e : DE} (h : x.length ≤ 1000) (q : e[k]? = some (.fz (.str x))) : eFmt (eV k) e = some (.ok (.str x) e) := by
 unfold eFmt
 have : eV k e = some (.ok (.str x) e) := by unfold eV; rw [q]
 rw [this, bnd_ok]
 exact if_pos (lnS (by omega))
abbrev swJ : ZF := (eJ (jC (eFmt (eV 1)) (jC (eC (.str "x")) (jC (eFmt (eV 2)) (jC (eFmt (eV 4)) jN)))))
theorem sw_run (EJ : ZF) (w h : Int) (t : Bool) (s : Str) (hj : EJ [.fz (.tup [.int w, .int h, .bl t]), .fz (.int w), .fz (.int h), .fz (.bl t), .fz (.str (if t = true then "+" else ""))] = some (.ok (.str s) [.fz (.tup [.int w, .int h, .bl t]), .fz (.int w), .fz (.int h), .fz (.bl t), .fz (.str (if t = true then "+" else ""))])) :
  fD 5 1 (sSeq (sAsg (eV 0) (bTup [(bName 1), (bName 2), (bName 3)])) (sSeq (sSet 4 (eIf (bZ (eV 3)) (eC (.str "+")) (eC (.str "")))) (sRet EJ))) [.tup [.int w, .int h, .bl t]] = some (.ret (.str s)) := by
 cases t <;> (simp only [if_true, if_false, Bool.false_eq_true] at hj; walk_at "ev"; rw [hj]; rfl)
theorem shown_ware_ok {p : Wr} (h : GW p) : d_shown_ware [wrD p] = some (.ret (.str (wareT p))) := by
 obtain ⟨h1, h2⟩ := h.s
 have l1 := num_len h1.1 h1.2
 have l2 := num_len h2.1 h2.2
 have m : (if p.2.2 = true then ("+" : Str) else ("" : Str)).length ≤ 1 := by split <;> decide +kernel
 refine sw_run swJ p.1 p.2.1 p.2.2 (wareT p) ?_
 show bnd (jC _ _ _ _) _ = _
 rw [jc_ok (fmt_i h1 rfl) (by simp only [app_len, emp_len]; omega), jc_ok (y := "x") rfl (by simp only [app_len, emp_len, x_len]; omega), jc_ok (fmt_i h2 rfl) (by simp only [app_len, emp_len, x_len]; omega), jc_ok (fmt_s (by omega) rfl) (by simp only [app_len, emp_len, x_len]; omega)]
 show bnd (if _ ≤ sizeLine then _ else _) _ = _
 rw [if_pos (lnS (by simp only [app_len, emp_len, x_len]; omega)), bnd_ok]
 have : Str.empty ++ (toString p.1 : Str) ++ "x" ++ (toString p.2.1 : Str) ++ (if p.2.2 = true then ("+" : Str) else ("" : Str)) = wareT p := str_ext (by
  unfold wareT sideT
  split <;> simp only [app_list, emp_list, n_list, List.nil_append, List.append_nil])
 rw [← this]
theorem wr_run (GA : D → D → Option D) (GS : D → Option D) (w h : Int) (t : Bool) (s1 s2 s3 s4 s5 : Str) (h1 : GS (.int w) = some (.str s1)) (h2 : GS (.int h) = some (.str s2)) (h3 : GA (.str s1) (.str "x") = some (.str s3)) (h4 : GA (.str s3) (.str s2) = some (.str s4)) (h5 : GA (.str s4) (.str "+") = some (.str s5)) :
  fD 2 1 (sSeq (sSet 1 (eB GA (eB GA (eCB (g1 GS) (aC (eB gIxT (eV 0) (eC (.int 0))) aN)) (eC (.str "x"))) (eCB (g1 GS) (aC (eB gIxT (eV 0) (eC (.int 1))) aN)))) (sSeq (sIf (bZ (eB gIxT (eV 0) (eC (.int 2)))) (sSet 1 (eB GA (eV 1) (eC (.str "+")))) sNx) (sRetV 1))) [.tup [.int w, .int h, .bl t]] = some (.ret (.str (if t = true then s5 else s4))) := by
 cases t <;> walk_at "eh"
theorem e42_43 {i : Int} (h : i ≤ 10 ^ 42) : i ≤ 10 ^ 43 := Int.le_trans h (by decide +kernel)
theorem l_ware_row_ok {p : Wr} (h : GW p) : d_l_ware_row [wrD p] = some (.ret (.str (wareT p))) := by
 obtain ⟨h1, h2⟩ := h.s
 have l1 := num_len h1.1 h1.2
 have l2 := num_len h2.1 h2.2
 exact wr_run gAddS gStr1 p.1 p.2.1 p.2.2 _ _ _ _ _ (str1_ok h1.1 (e42_43 h1.2)) (str1_ok h2.1 (e42_43 h2.2)) (addS_ok (by rw [x_len]; omega)) (addS_ok (by rw [app_len, x_len]; omega)) (addS_ok (by have := side_len h1 h2; show (sideT p.1 p.2.1).length + _ ≤ _; rw [p_len]; omega))
theorem strs_map : ∀ l : List Str, strsD (l.map D.str) = some l
 | [] => rfl
 | x :: l => by show (strsD (l.map D.str)).map (x :: ·) = _; rw [strs_map l]; rfl
theorem rows_comp (F : List D → Option R1) (hF : ∀ p, GW p → F [wrD p] = some (.ret (.str (wareT p)))) : ∀ (ws : List Wr) (acc : List D) (eo : DE), (∀ p ∈ ws, GW p) → acc.length + ws.length ≤ 10000 → compD (bName 0) bTrue (eCall0 F (aC (eV 0) aN)) [Sl.no] eo (ws.map wrD) acc = some (.ok (acc ++ ws.map fun p => D.str (wareT p)) eo)
 | [], acc, eo, _, _ => by rw [List.map_nil, compD_nil, List.map_nil, List.append_nil]
 | p :: ws, acc, eo, h, hl => by
  have hp := hF p (h p List.mem_cons_self)
  have hs : acc.length < sizeLine := Nat.lt_of_lt_of_le (by rw [List.length_cons] at hl; omega) (lnS (n := 100000) (Nat.le_refl _))
  have ih := rows_comp F hF ws (acc ++ [D.str (wareT p)]) eo (fun q m => h q (List.mem_cons_of_mem _ m)) (by rw [List.length_append, List.length_cons, List.length_nil]; rw [List.length_cons] at hl; omega)
  rw [List.map_cons, List.map_cons]
  have : eCall0 F (aC (eV 0) aN) [Sl.fz (wrD p)] = some (.ok (.str (wareT p)) [Sl.fz (wrD p)]) := by
   show bnd (some (R.ok [wrD p] [Sl.fz (wrD p)])) (fun ds e1 => toZ0 (F ds) e1) = _
   rw [bnd_ok, hp]; rfl
  rw [compD_cons, show bName 0 (wrD p) [Sl.no] = some [Sl.fz (wrD p)] from rfl, optB_some]
  show bnd (some (R.ok true [Sl.fz (wrD p)])) _ = _
  rw [bnd_ok, if_pos rfl, this, bnd_ok, if_pos hs, ih, List.append_assoc]; rfl
theorem rg_iff {lo hi i : Int} : rg lo hi i = true ↔ lo ≤ i ∧ i ≤ hi := by unfold rg; rw [Bool.and_eq_true, decide_eq_true_iff, decide_eq_true_iff]
theorem join_ok {f : ZF} {e : DE} {ys : List Str} (h : f e = some (.ok (.lst (ys.map .str)) e)) (hl : (ys.map (·.length)).sum + ys.length ≤ 16777216) : zJoin (eC (.str " ")) f e = some (.ok (.str (Txt.join " " ys)) e) := by
 show bnd (f e) _ = _
 rw [h, bnd_ok]
 show (match strsD (ys.map .str) with
  | some (ys : List Str) => if (ys.map (fun y : Str => y.length)).sum + ys.length * (" " : Str).length ≤ 16777216 then some (R.ok (D.str (Txt.join " " ys)) e) else none
  | none => none) = _
 rw [strs_map]
 exact if_pos (by rw [s_len, Nat.mul_one]; exact hl)
theorem cat_ok {A : ZF} {NC : NF} {e : DE} {s : D} {cs : List D} (hA : A e = some (.ok s e)) (hN : NC e = some (.ok cs e)) (hl : cs.length ≤ 1000) : (zN (nB gCat (zN (eL (aC A aN))) (zN NC))) e = some (.ok (.lst (s :: cs)) e) := by
 have h1 : (zN (eL (aC A aN))) e = some (.ok (.lst [s]) e) := by
  simp only [zN, eL, aC, aN, hA, bnd_ok]
  rfl
 have h2 : (zN NC) e = some (.ok (.lst cs) e) := by simp only [zN, hN, bnd_ok]
 have h3 : nB gCat (zN (eL (aC A aN))) (zN NC) e = some (.ok (s :: cs) e) := by
  show bnd _ _ = _
  rw [h1, bnd_ok, h2, bnd_ok]
  show opt (if _ ≤ sizeLine then _ else _) e = _
  rw [if_pos (lnS (by show 1 + cs.length ≤ _; omega))]; rfl
 show bnd _ _ = _
 rw [h3, bnd_ok]
theorem compV_ok (F : List D → Option R1) (hF : ∀ p, GW p → F [wrD p] = some (.ret (.str (wareT p)))) {e : DE} {ws : List Wr} (q : e[1]? = some (.fz (.lst (ws.map wrD)))) (h : ∀ p ∈ ws, GW p) (hl : ws.length ≤ 1000) : nCompV 1 1 [] (bName 0) bTrue (eCall0 F (aC (eV 0) aN)) e = some (.ok (ws.map fun p => D.str (wareT p)) e) := by
 unfold nCompV look
 rw [q]
 show compD _ _ _ [Sl.no] e (ws.map wrD) [] = _
 rw [rows_comp F hF ws [] e h (by rw [List.length_nil]; omega), List.nil_append]
theorem sum_le {ws : List Wr} (h : ∀ p ∈ ws, GW p) : ((ws.map wareT).map (·.length)).sum ≤ 88 * ws.length := by
 induction ws with
 | nil => simp
 | cons p ws ih =>
  have := ware_len (h p List.mem_cons_self)
  have := ih fun q m => h q (List.mem_cons_of_mem _ m)
  simp only [List.map_cons, List.sum_cons, List.length_cons]; omega
theorem str_map (ws : List Wr) (s : Str) : D.str s :: (ws.map fun p => D.str (wareT p)) = (s :: ws.map wareT).map D.str := by rw [List.map_cons, List.map_map]; rfl
abbrev crA (GA : D → D → Option D) (GS : D → Option D) : ZF := (eB GA (eB GA (eB GA (eCB (g1 GS) (aC (eB gIxT (eV 0) (eC (.int 0))) aN)) (eC (.str "x"))) (eCB (g1 GS) (aC (eB gIxT (eV 0) (eC (.int 1))) aN))) (eC (.str ":")))
theorem crA_run (GA : D → D → Option D) (GS : D → Option D) (w h : Int) (L : D) (s1 s2 s3 s4 s5 : Str) (h1 : GS (.int w) = some (.str s1)) (h2 : GS (.int h) = some (.str s2)) (h3 : GA (.str s1) (.str "x") = some (.str s3)) (h4 : GA (.str s3) (.str s2) = some (.str s4)) (h5 : GA (.str s4) (.str ":") = some (.str s5)) :
  crA GA GS [.fz (.tup [.int w, .int h]), .fz L] = some (.ok (.str s5) [.fz (.tup [.int w, .int h]), .fz L]) := by
 unfold crA; walk_at "eh"
theorem case_row_ok {b : Int × Int} {ws : List Wr} (hb : GB b) (h : ∀ p ∈ ws, GW p) (hl : ws.length ≤ 100) : d_l_case_row [boxD b, .lst (ws.map wrD)] = some (.ret (.str (caseT b ws))) := by
 have l1 := num_len hb.1.1 hb.1.2
 have l2 := num_len hb.2.1 hb.2.2
 have sl := side_len hb.1 hb.2
 have hA := crA_run gAddS gStr1 b.1 b.2 (.lst (ws.map wrD)) _ _ _ _ _ (str1_ok hb.1.1 (e42_43 hb.1.2)) (str1_ok hb.2.1 (e42_43 hb.2.2)) (addS_ok (by rw [x_len]; omega)) (addS_ok (by rw [app_len, x_len]; omega)) (addS_ok (by show (sideT b.1 b.2).length + _ ≤ _; rw [c_len]; omega))
 have hN := compV_ok d_l_ware_row (fun p => l_ware_row_ok) (e := [.fz (.tup [.int b.1, .int b.2]), .fz (.lst (ws.map wrD))]) rfl h (by omega)
 have hC := cat_ok hA hN (by rw [List.length_map]; omega)
 rw [str_map] at hC
 have hJ := join_ok hC (by have := sum_le h; simp only [List.map_cons, List.sum_cons, List.length_cons, List.length_map, app_len, x_len, c_len] at *; omega)
 have hR : sRet (zJoin (eC (.str " ")) (zN (nB gCat (zN (eL (aC (crA gAddS gStr1) aN))) (zN (nCompV 1 1 [] (bName 0) bTrue (eCall0 d_l_ware_row (aC (eV 0) aN))))))) [.fz (.tup [.int b.1, .int b.2]), .fz (.lst (ws.map wrD))] = some (.rt (.str (caseT b ws))) := by
  unfold sRet; rw [hJ]; rfl
 exact (congrArg finR hR).trans rfl
abbrev scJ : ZF := (eJ (jC (eFmt (eV 2)) (jC (eC (.str "x")) (jC (eFmt (eV 3)) (jC (eC (.str ":")) jN)))))
theorem sc_run (ZJ : ZF) (w h : Int) (L : D) (s : Str) (hj : ZJ [.fz (.tup [.int w, .int h]), .fz L, .fz (.int w), .fz (.int h)] = some (.ok (.str s) [.fz (.tup [.int w, .int h]), .fz L, .fz (.int w), .fz (.int h)])) :
  fD 4 2 (sSeq (sAsg (eV 0) (bTup [(bName 2), (bName 3)])) (sRet ZJ)) [.tup [.int w, .int h], L] = some (.ret (.str s)) := by
 walk_at "ev"; rw [hj]; rfl
theorem shown_case_ok {b : Int × Int} {ws : List Wr} (hb : GB b) (h : ∀ p ∈ ws, GW p) (hl : ws.length ≤ 100) : d_shown_case [boxD b, .lst (ws.map wrD)] = some (.ret (.str (caseT b ws))) := by
 have l1 := num_len hb.1.1 hb.1.2
 have l2 := num_len hb.2.1 hb.2.2
 refine sc_run _ b.1 b.2 (.lst (ws.map wrD)) _ ?_
 have hA : scJ [.fz (.tup [.int b.1, .int b.2]), .fz (.lst (ws.map wrD)), .fz (.int b.1), .fz (.int b.2)] = some (.ok (.str (sideT b.1 b.2 ++ ":")) [.fz (.tup [.int b.1, .int b.2]), .fz (.lst (ws.map wrD)), .fz (.int b.1), .fz (.int b.2)]) := by
  show bnd (jC _ _ _ _) _ = _
  rw [jc_ok (fmt_i hb.1 rfl) (by simp only [app_len, emp_len]; omega), jc_ok (y := "x") rfl (by simp only [app_len, emp_len, x_len]; omega), jc_ok (fmt_i hb.2 rfl) (by simp only [app_len, emp_len, x_len]; omega), jc_ok (y := ":") rfl (by simp only [app_len, emp_len, x_len, c_len]; omega)]
  show bnd (if _ ≤ sizeLine then _ else _) _ = _
  rw [if_pos (lnS (by simp only [app_len, emp_len, x_len, c_len]; omega)), bnd_ok]
  have : Str.empty ++ (toString b.1 : Str) ++ "x" ++ (toString b.2 : Str) ++ ":" = sideT b.1 b.2 ++ ":" := str_ext (by
   unfold sideT
   simp only [app_list, emp_list, List.nil_append])
  rw [← this]
 have hN := compV_ok d_shown_ware (fun p => shown_ware_ok) (e := [.fz (.tup [.int b.1, .int b.2]), .fz (.lst (ws.map wrD)), .fz (.int b.1), .fz (.int b.2)]) rfl h (by omega)
 have hC := cat_ok hA hN (by rw [List.length_map]; omega)
 rw [str_map] at hC
 exact join_ok hC (by have := sum_le h; have := side_len hb.1 hb.2; simp only [List.map_cons, List.sum_cons, List.length_cons, List.length_map, app_len, c_len] at *; omega)
theorem num_nl {i : Int} (h : 0 ≤ i ∧ i ≤ 10 ^ 42) : numOf (nl i) = some i := by
 obtain ⟨c, r, e, hc⟩ := nl_cons h.1
 have hl := nl_len h.1 h.2
 have hd := nl_digits h.1
 have nd : ¬ ∃ c ∈ nl i, ¬ Dig c := fun ⟨c, m, n⟩ => n (hd c m)
 have hn := num_in (l := nl i) (by rw [e]; simp) (by omega) nd (fun ⟨a, b⟩ => by
  rw [e] at a; cases (Option.some.inj a)
  have := hc rfl
  subst this
  exact b nl_zero)
 have h1 := reads (x := strOf (nl i)) (by rw [strOf_list, e]; exact List.cons_ne_nil _ _) (by rw [strOf_list]; exact nd) (by rw [strOf_len]; omega)
 have h2 := nl_back (x := strOf (nl i)) rfl h.1 h.2
 rw [h1] at h2
 rw [strOf_list] at h2
 rw [hn, h2]
theorem cut_at {c : Nat} {a b : List Nat} (h : c ∉ a) : cutAt c (a ++ c :: b) = (a, b) := by
 obtain ⟨h1, h2⟩ := cutAt_has (c := c) (l := a ++ c :: b) (by simp)
 obtain ⟨e1, e2⟩ := cut_one h1 h h2
 rw [Prod.ext_iff]; exact ⟨e1.symm, e2.symm⟩
theorem nl_no {i : Int} {k : Nat} (hk : k = 120 ∨ k = 58 ∨ k = 32 ∨ k = 43) : k ∉ nl i := nl_free (by omega)
theorem sides_nl {i j : Int} (h1 : 0 ≤ i ∧ i ≤ 10 ^ 42) (h2 : 0 ≤ j ∧ j ≤ 10 ^ 42) : sidesOf (nl i ++ 120 :: nl j) = some (i, j) := by
 unfold sidesOf
 rw [cut_at (nl_no (.inl rfl))]
 show (numOf (nl i)).bind _ = _
 rw [num_nl h1]
 show (numOf (nl j)).bind _ = _
 rw [num_nl h2]; rfl
theorem x_list : ("x" : Str).cps.toList = [120] := by decide +kernel
theorem p_list : ("+" : Str).cps.toList = [43] := by decide +kernel
theorem c_list : (":" : Str).cps.toList = [58] := by decide +kernel
theorem side_list (i j : Int) : lst (sideT i j) = nl i ++ 120 :: nl j := by
 show (sideT i j).cps.toList = _
 unfold sideT nl
 rw [app_list, app_list, x_list, List.append_assoc]; rfl
theorem box_nl {b : Int × Int} (h : GB b) : boxOf (nl b.1 ++ 120 :: nl b.2) = some b := by
 unfold boxOf
 rw [sides_nl h.1 h.2]
 show (if _ then _ else _) = _
 rw [if_pos (by rw [Bool.and_eq_true, rg_iff, rg_iff]; exact h)]
theorem ware_list (p : Wr) : lst (wareT p) = (nl p.1 ++ 120 :: nl p.2.1) ++ (if p.2.2 = true then [43] else []) := by
 unfold wareT
 split
 ·rename_i z
  show (sideT p.1 p.2.1 ++ "+").cps.toList = _
  rw [app_list, p_list]
  show lst (sideT p.1 p.2.1) ++ _ = _
  rw [side_list]
 ·show lst (sideT p.1 p.2.1) = _
  rw [side_list, List.append_nil]
theorem body_ware (p : Wr) : bodyOf (lst (wareT p)) = nl p.1 ++ 120 :: nl p.2.1 ∧ lastPlus (lst (wareT p)) = p.2.2 := by
 rw [ware_list]
 unfold bodyOf lastPlus lastC
 by_cases z : p.2.2 = true
 ·rw [if_pos z]
  have e1 : ((nl p.1 ++ 120 :: nl p.2.1) ++ [43]).getLast? = some 43 := by rw [List.getLast?_append]; rfl
  rw [e1, decide_eq_true rfl, if_pos rfl, List.dropLast_concat, z]; exact ⟨rfl, rfl⟩
 ·rw [if_neg z, List.append_nil]
  have e1 : (nl p.1 ++ 120 :: nl p.2.1).getLast? ≠ some 43 := fun e => by
   have m := List.mem_of_getLast? e
   rw [List.mem_append, List.mem_cons] at m
   rcases m with m | m | m
   ·exact nl_no (by omega) m
   ·omega
   ·exact nl_no (by omega) m
  rw [decide_eq_false e1, if_neg (by decide)]
  exact ⟨rfl, by cases h : p.2.2 <;> simp_all⟩
theorem ware_back {p : Wr} (h : GW p) : wareOf (lst (wareT p)) = some p := by
 obtain ⟨e1, e2⟩ := body_ware p
 unfold wareOf
 rw [e1, e2, sides_nl h.s.1 h.s.2]
 show (if _ then _ else _) = _
 rw [if_pos (by rw [Bool.and_eq_true, rg_iff, rg_iff]; exact h)]
theorem all_back : ∀ {ws : List Wr}, (∀ p ∈ ws, GW p) → allW ((ws.map wareT).map lst) = some ws
 | [], _ => rfl
 | p :: ws, h => by
  show (wareOf (lst (wareT p))).bind _ = _
  rw [ware_back (h p List.mem_cons_self)]
  show (allW ((ws.map wareT).map lst)).bind _ = _
  rw [all_back fun q m => h q (List.mem_cons_of_mem _ m)]; rfl
theorem ware_no (p : Wr) {k : Nat} (hk : k = 32 ∨ k = 58) : k ∉ lst (wareT p) := fun m => by
 rw [ware_list, List.mem_append, List.mem_append, List.mem_cons] at m
 rcases m with (m | m | m) | m
 ·exact nl_no (by omega) m
 ·omega
 ·exact nl_no (by omega) m
 ·split at m
  ·rw [List.mem_singleton] at m; omega
  ·cases m
theorem case_list (b : Int × Int) (ws : List Wr) : lst (caseT b ws) = (nl b.1 ++ 120 :: nl b.2) ++ 58 :: (ws.map wareT).flatMap fun y => 32 :: lst y := by
 unfold caseT Txt.join
 rw [StrLaws.glued_eq_join]
 show (Str.join " " _).cps.toList = _
 rw [s_is, join_one, app_list, c_list, List.append_assoc]
 show lst (sideT b.1 b.2) ++ _ = _
 rw [side_list]; rfl
theorem case_len {b : Int × Int} {ws : List Wr} (hb : GB b) (h : ∀ p ∈ ws, GW p) (hl : ws.length ≤ 40) : (caseT b ws).length ≤ 5000 := by
 have e := case_list b ws
 have l := congrArg List.length e
 have h1 := nl_len hb.1.1 hb.1.2
 have h2 := nl_len hb.2.1 hb.2.2
 have fl : ∀ {ws : List Wr}, (∀ p ∈ ws, GW p) → ((ws.map wareT).flatMap fun y => 32 :: lst y).length ≤ 89 * ws.length := fun {ws} h => by
  induction ws with
  | nil => simp
  | cons p ws ih =>
   have a := ware_len (h p List.mem_cons_self)
   have b := ih fun q m => h q (List.mem_cons_of_mem _ m)
   have c : (lst (wareT p)).length = (wareT p).length := len_list _
   rw [List.map_cons, List.flatMap_cons, List.length_append, List.length_cons, List.length_cons, c]; omega
 have f := fl h
 rw [show (lst (caseT b ws)).length = (caseT b ws).length from len_list _] at l
 rw [l]
 simp only [List.length_append, List.length_cons]; omega
theorem read_back {b : Int × Int} {ws : List Wr} (hb : GB b) (h : ∀ p ∈ ws, GW p) (hl : ws.length ≤ 40) : d_read_case [.str (caseT b ws)] = some (.ret (caseD (b, ws))) := by
 have e := case_list b ws
 have hc : cutAt 58 (lst (caseT b ws)) = (nl b.1 ++ 120 :: nl b.2, (ws.map wareT).flatMap fun y => 32 :: lst y) := by
  rw [e]
  exact cut_at fun m => by
   rw [List.mem_append, List.mem_cons] at m
   rcases m with m | m | m
   ·exact nl_no (by omega) m
   ·omega
   ·exact nl_no (by omega) m
 rcases read_case_ok (caseT b ws) (case_len hb h hl) with ⟨n, _⟩ | ⟨_, t, w0, vs, r, e1, e2, e3, ok⟩
 ·exact absurd (by rw [e]; simp) n
 ·rw [hc] at e1
  have sp := split_one (x := t) (c := 32) (p := Str.empty) (r := ws.map wareT) (by rw [emp_list, List.nil_append]; exact e1) (fun q m => by
   rcases List.mem_cons.mp m with rfl | m
   ·rw [emp_list]; exact List.not_mem_nil
   ·obtain ⟨p, _, rfl⟩ := List.mem_map.mp m; exact ware_no p (.inl rfl))
  rw [sp] at e2
  cases e2
  have co : caseOf (lst (caseT b ws)) Str.empty (ws.map wareT) = some (b, ws) := by
   unfold caseOf
   rw [hc]
   show (boxOf (nl b.1 ++ 120 :: nl b.2)).bind _ = _
   rw [box_nl hb]
   show (if lst Str.empty = [] then (allW ((ws.map wareT).map lst)).bind fun ps => some (b, ps) else none) = _
   rw [if_pos emp_list]
   show (allW ((ws.map wareT).map lst)).bind _ = _
   rw [all_back h]; rfl
  rw [co] at ok
  rw [e3, show r = .ret (caseD (b, ws)) from ok]
theorem start_text : ("10x10:" : Str) = caseT (10, 10) [] := by decide +kernel
theorem box_side {b : Int × Int} (hb : GB b) : d_read_box [.str (sideT b.1 b.2)] = some (.ret (boxD b)) := by
 obtain ⟨r, h1, h2⟩ := read_box_ok (sideT b.1 b.2) (Nat.le_trans (side_len hb.1 hb.2) (by decide))
 rw [show (sideT b.1 b.2).cps.toList = _ from side_list b.1 b.2, box_nl hb] at h2
 rw [h1, show r = .ret (boxD b) from h2]
theorem ware_side {p : Wr} (h : GW p) : d_read_ware [.str (wareT p)] = some (.ret (wrD p)) := by
 obtain ⟨r, h1, h2⟩ := read_ware_ok (wareT p) (Nat.le_trans (ware_len h) (by decide))
 rw [show wareOf (wareT p).cps.toList = _ from ware_back h] at h2
 rw [h1, show r = .ret (wrD p) from h2]
theorem num_side {i : Int} (h : 0 ≤ i ∧ i ≤ 10 ^ 42) : d_read_number [.str (toString i)] = some (.ret (.int i)) := by
 have := num_len h.1 h.2
 rw [read_number_ok _ (by omega), show numOf (Str.ofString (toString i)).cps.toList = some i from num_nl h]; rfl
theorem try_rt {n : Nat} {B T2 : SF} {H : HF} {e : DE} {r : D} (h : B e = some (.rt r)) : (sSeq (sTryH n B H) T2) e = some (.rt r) := by
 unfold sSeq sTryH; rw [h]
abbrev rrB (RB RW RN : List D → Option R1) (GE GL : D → D → Option D) (LS : D → Option D) : SF := (sSeq (sIf (bZ (eB GE (eV 0) (eC (.str "box")))) (sRetC RB (aC (eV 1) aN)) sNx) (sSeq (sIf (bZ (eB GE (eV 0) (eC (.str "put")))) (sRetC RW (aC (eV 1) aN)) sNx) (sIf (bAnd (bZ (eB GE (eV 0) (eC (.str "drop")))) (bZ (eB GL (eCB (g1 LS) (aC (eV 1) aN)) (eC (.int 6))))) (sRetC RN (aC (eV 1) aN)) sNx)))
theorem rr_box (RB RW RN : List D → Option R1) (GE GL : D → D → Option D) (LS : D → Option D) (w x r : D) (hg : GE w (.str "box") = some (.bl true)) (h : RB [x] = some (.ret r)) : rrB RB RW RN GE GL LS [.fz w, .fz x] = some (.rt r) := by
 unfold rrB; walk_at "eh"
theorem rr_put (RB RW RN : List D → Option R1) (GE GL : D → D → Option D) (LS : D → Option D) (w x r : D) (hg : GE w (.str "box") = some (.bl false)) (hg2 : GE w (.str "put") = some (.bl true)) (h : RW [x] = some (.ret r)) : rrB RB RW RN GE GL LS [.fz w, .fz x] = some (.rt r) := by
 unfold rrB; walk_at "eh"
theorem rr_drop (RB RW RN : List D → Option R1) (GE GL : D → D → Option D) (LS : D → Option D) (w x r n : D) (hg : GE w (.str "box") = some (.bl false)) (hg2 : GE w (.str "put") = some (.bl false)) (hg3 : GE w (.str "drop") = some (.bl true)) (hl : LS x = some n) (h6 : GL n (.int 6) = some (.bl true)) (h : RN [x] = some (.ret r)) : rrB RB RW RN GE GL LS [.fz w, .fz x] = some (.rt r) := by
 unfold rrB; walk_at "eh"
theorem gs (a b : Str) (t : Bool) (h : decide (a = b) = t) : gEq false (.str a) (.str b) = some (.bl t) := by rw [gEq_str, h]; cases t <;> rfl
theorem rest_box {b : Int × Int} (hb : GB b) : d_read_rest [.str "box", .str (sideT b.1 b.2)] = some (.ret (boxD b)) := by
 have h := try_rt (n := 2) (T2 := (sRaise "NoDeed" (aC (eC (.str "there is no such row")) aN))) (H := (hCp xo_NoText (sRaiseK "NoDeed" (aC (eC (.str "what stands behind the word is not written as it should be")) aN)) hN)) (rr_box d_read_box d_read_ware d_read_number (gEq false) gLe gLenS (.str "box") (.str (sideT b.1 b.2)) (boxD b) (gs _ _ _ (by decide +kernel)) (box_side hb))
 exact (congrArg finR h).trans rfl
theorem rest_put {p : Wr} (hp : GW p) : d_read_rest [.str "put", .str (wareT p)] = some (.ret (wrD p)) := by
 have h := try_rt (n := 2) (T2 := (sRaise "NoDeed" (aC (eC (.str "there is no such row")) aN))) (H := (hCp xo_NoText (sRaiseK "NoDeed" (aC (eC (.str "what stands behind the word is not written as it should be")) aN)) hN)) (rr_put d_read_box d_read_ware d_read_number (gEq false) gLe gLenS (.str "put") (.str (wareT p)) (wrD p) (gs _ _ _ (by decide +kernel)) (gs _ _ _ (by decide +kernel)) (ware_side hp))
 exact (congrArg finR h).trans rfl
theorem small_len {i : Int} (h : 0 ≤ i ∧ i < 1000) : (toString i : Str).length ≤ 3 := by
 have e : (toString i : Str).length = (nl i).length := (len_list _).symm
 rw [e, nl_nat h.1, List.length_map]
 exact dig_len i.toNat 3 (by decide) (by omega)
theorem rest_drop {i : Int} (h : 0 ≤ i ∧ i < 1000) : d_read_rest [.str "drop", .str (toString i)] = some (.ret (.int i)) := by
 have l := small_len h
 have e3 : (1000 : Int) ≤ 10 ^ 42 := by decide +kernel
 have hh := try_rt (n := 2) (T2 := (sRaise "NoDeed" (aC (eC (.str "there is no such row")) aN))) (H := (hCp xo_NoText (sRaiseK "NoDeed" (aC (eC (.str "what stands behind the word is not written as it should be")) aN)) hN)) (rr_drop d_read_box d_read_ware d_read_number (gEq false) gLe gLenS (.str "drop") (.str (toString i)) (.int i) _ (gs _ _ _ (by decide +kernel)) (gs _ _ _ (by decide +kernel)) (gs _ _ _ (by decide +kernel)) (lenS_ok (by omega)) (by rw [gLe_eq, decide_eq_true (by omega)]) (num_side ⟨h.1, by omega⟩))
 exact (congrArg finR hh).trans rfl
theorem part_ok {e : DE} {l : Str} {w r : Str} (q : e[1]? = some (.fz (.str l))) (hl : l.length ≤ 5000) (hw : 32 ∉ lst w) (h : lst l = lst w ++ 32 :: lst r) : zPart (eV 1) (eC (.str " ")) e = some (.ok (.tup [.str w, .str " ", .str r]) e) := by
 have ep := part_one (x := l) (c := 32) (a := lst w) (b := lst r) h hw
 unfold zPart
 have e1 : eV 1 e = some (.ok (.str l) e) := by unfold eV; rw [q]
 rw [e1, bnd_ok]
 show (if ((" " : Str).length == 0) = false ∧ l.length ≤ sizeLine then some (L2.R.ok (partD (Txt.partition l " ")) e) else none) = _
 rw [if_pos ⟨by rw [s_len]; rfl, lnS (by omega)⟩, s_is, ep]
 show some (R.ok (D.tup [.str (strOf (lst w)), _, .str (strOf (lst r))]) e) = _
 rw [strOf_self, strOf_self]
theorem part_undo {e : DE} (q : e[1]? = some (.fz (.str "undo"))) : zPart (eV 1) (eC (.str " ")) e = some (.ok (.tup [.str "undo", .str "", .str ""]) e) := by
 unfold zPart
 have e1 : eV 1 e = some (.ok (.str "undo") e) := by unfold eV; rw [q]
 rw [e1, bnd_ok]
 show (if ((" " : Str).length == 0) = false ∧ ("undo" : Str).length ≤ sizeLine then some (L2.R.ok (partD (Txt.partition "undo" " ")) e) else none) = _
 rw [if_pos ⟨by rw [s_len]; rfl, lnS (by decide +kernel)⟩, show Txt.partition "undo" " " = (("undo" : Str), ("" : Str), ("" : Str)) by decide +kernel]; rfl
abbrev St := (Int × Int) × List Wr
def stK (q : St) : D := .tup [boxD q.1, .lst (q.2.map wrD)]
def dk (q : St) (ps : List St) (a : Int) : D := .tup [boxD q.1, .lst (q.2.map wrD), .lst (ps.map stK), .int a]
def GS (q : St) : Prop := GB q.1 ∧ (∀ p ∈ q.2, GW p) ∧ q.2.length ≤ 23
theorem cK_run (SC : List D → Option R1) (p : Addr) (a : Int) (x y z s : D) (h : SC [x, y] = some (.ret s)) : kD 1 1 (kRet (eCall0 SC (aC (eFK 0 true) (aC (eFK 0 false) aN)))) p (.tup [x, y, z, .int a]) [] = some (s, .tup [x, y, z, .int a]) := by
 walk_at "eh"
theorem case_K {q : St} (hq : GS q) (ps : List St) (p : Addr) (a : Int) : d_Desk_case p (dk q ps a) [] = some (.str (caseT q.1 q.2), dk q ps a) :=
 cK_run d_shown_case p a _ _ _ _ (shown_case_ok hq.1 hq.2.1 (Nat.le_trans hq.2.2 (by decide)))
theorem steps_K (q : St) (ps : List St) (p : Addr) (a : Int) : d_Desk_steps p (dk q ps a) [] = some (.int ps.length, dk q ps a) := by
 show kD 1 1 (kRet (eLnK 0)) p (.tup [boxD q.1, .lst (q.2.map wrD), .lst (ps.map stK), .int a]) [] = _
 walk_at "eh"
 rw [List.length_map]; rfl
abbrev chB (CK : Addr → D → List D → Option (D × D)) : KF := (kSeq (sPuK 0 (eT (aC (eFK 0 true) (aC (eFK 0 false) aN)))) (kSeq (sFK 0 true (eV 1)) (kSeq (sFK 0 false (eV 2)) (kRet (zN (eL (aC (callK 0 CK aN) aN)))))))
theorem ch_run (CK : Addr → D → List D → Option (D × D)) (p : Addr) (a : Int) (x y x' y' s : D) (ps : List D) (hl : ps.length < sizeLine) (h : CK p (.tup [x', y', .lst (ps ++ [.tup [x, y]]), .int a]) [] = some (s, .tup [x', y', .lst (ps ++ [.tup [x, y]]), .int a])) :
  kD 3 3 (chB CK) p (.tup [x, y, .lst ps, .int a]) [x', y'] = some (.lst [s], .tup [x', y', .lst (ps ++ [.tup [x, y]]), .int a]) := by
 unfold chB
 walk_at "eh"
theorem changed_K {q q' : St} (hq : GS q') (ps : List St) (hl : ps.length ≤ 1000) (p : Addr) (a : Int) : d_Desk_changed p (dk q ps a) [boxD q'.1, .lst (q'.2.map wrD)] = some (.lst [.str (caseT q'.1 q'.2)], dk q' (ps ++ [q]) a) := by
 have e : dk q' (ps ++ [q]) a = .tup [boxD q'.1, .lst (q'.2.map wrD), .lst (ps.map stK ++ [.tup [boxD q.1, .lst (q.2.map wrD)]]), .int a] := by unfold dk; rw [List.map_append]; rfl
 rw [e]
 refine ch_run d_Desk_case p a (boxD q.1) (.lst (q.2.map wrD)) (boxD q'.1) (.lst (q'.2.map wrD)) _ (ps.map stK) (Nat.lt_of_lt_of_le (by rw [List.length_map]; omega) (lnS (n := 100000) (Nat.le_refl _))) ?_
 rw [← e]
 exact case_K hq _ p a
abbrev doB (CH : Addr → D → List D → Option (D × D)) (IN : List D → Option R1) (GE GG : D → D → Option D) : KF := (kIf (bZ (eB GE (eV 1) (eC (.str "box")))) (kRet (callK 0 CH (aC (eV 2) (aC (eFK 0 false) aN)))) (kIf (bZ (eB GE (eV 1) (eC (.str "put")))) (kIf (bZ (eB GG (eCB (g1 gLen) (aC (eFK 0 false) aN)) (eC (.int 20)))) (fun _ => none) (kRet (callK 0 CH (aC (eFK 0 true) (aC (zN (nB gCat (eFK 0 false) (zN (eL (aC (eV 2) aN))))) aN))))) (kIf (bNot (bZ (eCall0 IN (aC (eFK 0 false) (aC (eV 2) aN))))) (fun _ => none) (kRet (callK 0 CH (aC (eFK 0 true) (aC (zN (nB gCat (zN (nSl (eFK 0 false) oN (oS (eV 2)))) (zN (nSl (eFK 0 false) (oS (eB gAdd (eV 2) (eC (.int 1)))) oN)))) aN)))))))
theorem do_box (CH : Addr → D → List D → Option (D × D)) (IN : List D → Option R1) (GE GG : D → D → Option D) (p : Addr) (a : Int) (x y z w t s : D) (x' y' z' : D) (h1 : GE w (.str "box") = some (.bl true)) (h : CH p (.tup [x, y, z, .int a]) [t, y] = some (s, .tup [x', y', z', .int a])) :
  kD 3 3 (doB CH IN GE GG) p (.tup [x, y, z, .int a]) [w, t] = some (s, .tup [x', y', z', .int a]) := by
 unfold doB; walk_at "eh"
theorem do_put (CH : Addr → D → List D → Option (D × D)) (IN : List D → Option R1) (GE GG : D → D → Option D) (p : Addr) (a : Int) (x z w t s : D) (ys : List D) (x' y' z' : D) (h1 : GE w (.str "box") = some (.bl false)) (h2 : GE w (.str "put") = some (.bl true)) (h3 : GG (.int ys.length) (.int 20) = some (.bl false)) (hl : ys.length + 1 ≤ sizeLine) (h : CH p (.tup [x, .lst ys, z, .int a]) [x, .lst (ys ++ [t])] = some (s, .tup [x', y', z', .int a])) :
  kD 3 3 (doB CH IN GE GG) p (.tup [x, .lst ys, z, .int a]) [w, t] = some (s, .tup [x', y', z', .int a]) := by
 unfold doB; walk_at "eh"
theorem do_drop (CH : Addr → D → List D → Option (D × D)) (IN : List D → Option R1) (GE GG : D → D → Option D) (p : Addr) (a i : Int) (x z w s : D) (ys : List D) (x' y' z' : D) (h1 : GE w (.str "box") = some (.bl false)) (h2 : GE w (.str "put") = some (.bl false)) (h3 : IN [.lst ys, .int i] = some (.ret (.bl true))) (hl : (L2.cutD ys none (some i)).length + (L2.cutD ys (some (i + 1)) none).length ≤ sizeLine) (h : CH p (.tup [x, .lst ys, z, .int a]) [x, .lst (L2.cutD ys none (some i) ++ L2.cutD ys (some (i + 1)) none)] = some (s, .tup [x', y', z', .int a])) :
  kD 3 3 (doB CH IN GE GG) p (.tup [x, .lst ys, z, .int a]) [w, .int i] = some (s, .tup [x', y', z', .int a]) := by
 unfold doB; walk_at "eh"
theorem six_in {n d : Nat} {i : Int} (h : 0 ≤ i) (hn : i ≤ n) : HT.sIx n d (some i) = i.toNat := by
 obtain ⟨k, rfl⟩ := Int.eq_ofNat_of_zero_le h
 rw [HT.sIx_nat, Int.toNat_natCast]; omega
theorem cut_to {ys : List D} {i : Int} (h : 0 ≤ i ∧ i ≤ ys.length) : L2.cutD ys none (some i) = ys.take i.toNat := by
 unfold L2.cutD
 rw [six_in h.1 h.2, HT.sIx_none, List.drop_zero, Nat.sub_zero]
theorem cut_fr {ys : List D} {i : Int} (h : 0 ≤ i ∧ i ≤ ys.length) : L2.cutD ys (some i) none = ys.drop i.toNat := by
 unfold L2.cutD
 rw [six_in h.1 h.2, HT.sIx_none]
 exact List.take_of_length_le (by rw [List.length_drop]; exact Nat.le_refl _)
def del (ws : List Wr) (i : Int) : List Wr := ws.take i.toNat ++ ws.drop (i + 1).toNat
theorem cut_del {ws : List Wr} {i : Int} (h : 0 ≤ i ∧ i < ws.length) : L2.cutD (ws.map wrD) none (some i) ++ L2.cutD (ws.map wrD) (some (i + 1)) none = (del ws i).map wrD ∧ (L2.cutD (ws.map wrD) none (some i)).length + (L2.cutD (ws.map wrD) (some (i + 1)) none).length ≤ ws.length := by
 rw [cut_to (by rw [List.length_map]; omega), cut_fr (by rw [List.length_map]; omega)]
 unfold del
 rw [List.map_append, List.map_take, List.map_drop]
 refine ⟨rfl, ?_⟩
 rw [List.length_take, List.length_drop, List.length_map]; omega
theorem del_sub {ws : List Wr} {i : Int} : ∀ p ∈ del ws i, p ∈ ws := fun p m => by
 rcases List.mem_append.mp m with m | m
 ·exact List.mem_of_mem_take m
 ·exact List.mem_of_mem_drop m
theorem del_len {ws : List Wr} {i : Int} (h : 0 ≤ i) : (del ws i).length ≤ ws.length := by
 unfold del; rw [List.length_append, List.length_take, List.length_drop]; omega
theorem isnum_run (GG GL : D → D → Option D) (i n : Int) (ys : List D) (b1 b2 : Bool) (h1 : GG (.int i) (.int 0) = some (.bl true)) (h2 : GL (.int i) (.int ys.length) = some (.bl true)) : fD 2 2 (sRet (eAnd (eB GG (eV 1) (eC (.int 0))) (eB GL (eV 1) (eCV gLen 0)))) [.lst ys, .int i] = some (.ret (.bl true)) := by
 walk_at "eh"
theorem isnum_ok {ys : List D} {i : Int} (h : 0 ≤ i ∧ i < ys.length) : d_is_number_of [.lst ys, .int i] = some (.ret (.bl true)) :=
 isnum_run gGe gLt i 0 ys true true (by rw [gGe_eq, decide_eq_true h.1]) (by rw [gLt_eq, decide_eq_true h.2])
theorem done_box {q : St} {b : Int × Int} (hq : GS (b, q.2)) (ps : List St) (hl : ps.length ≤ 1000) (p : Addr) (a : Int) : d_Desk_done p (dk q ps a) [.str "box", boxD b] = some (.lst [.str (caseT b q.2)], dk (b, q.2) (ps ++ [q]) a) :=
 do_box d_Desk_changed d_is_number_of (gEq false) gGe p a _ _ _ _ _ _ _ _ _ (gs _ _ _ (by decide +kernel)) (changed_K hq ps hl p a)
theorem done_put {q : St} {t : Wr} (hq : GS (q.1, q.2 ++ [t])) (h20 : q.2.length < 20) (ps : List St) (hl : ps.length ≤ 1000) (p : Addr) (a : Int) : d_Desk_done p (dk q ps a) [.str "put", wrD t] = some (.lst [.str (caseT q.1 (q.2 ++ [t]))], dk (q.1, q.2 ++ [t]) (ps ++ [q]) a) := by
 refine do_put d_Desk_changed d_is_number_of (gEq false) gGe p a _ _ _ _ _ (q.2.map wrD) _ _ _ (gs _ _ _ (by decide +kernel)) (gs _ _ _ (by decide +kernel)) (by rw [gGe_eq, List.length_map, decide_eq_false (by omega)]) (lnS (by rw [List.length_map]; omega)) ?_
 have := changed_K (q := q) hq ps hl p a
 rw [List.map_append] at this
 exact this
theorem done_drop {q : St} {i : Int} (hi : 0 ≤ i ∧ i < q.2.length) (hq : GS (q.1, del q.2 i)) (h40 : q.2.length ≤ 40) (ps : List St) (hl : ps.length ≤ 1000) (p : Addr) (a : Int) : d_Desk_done p (dk q ps a) [.str "drop", .int i] = some (.lst [.str (caseT q.1 (del q.2 i))], dk (q.1, del q.2 i) (ps ++ [q]) a) := by
 obtain ⟨c1, c2⟩ := cut_del hi
 refine do_drop d_Desk_changed d_is_number_of (gEq false) gGe p a i _ _ _ _ (q.2.map wrD) _ _ _ (gs _ _ _ (by decide +kernel)) (gs _ _ _ (by decide +kernel)) (isnum_ok (by rw [List.length_map]; exact hi)) (lnS (by omega)) ?_
 rw [c1]
 exact changed_K (q := q) hq ps hl p a
abbrev unB (CK : Addr → D → List D → Option (D × D)) (GE : D → D → Option D) : KF := (kIf (bZ (eB GE (eLnK 0) (eC (.int 0)))) (fun _ => none) (kSeq (sAsg (ePoK 0) (bTup [(bName 1), (bName 2)])) (kSeq (sFK 0 true (eV 1)) (kSeq (sFK 0 false (eV 2)) (kRet (zN (eL (aC (callK 0 CK aN) aN))))))))
theorem un_run (CK : Addr → D → List D → Option (D × D)) (GE : D → D → Option D) (p : Addr) (a : Int) (x y x' y' s : D) (qs rs : List D) (h0 : GE (.int qs.length) (.int 0) = some (.bl false)) (hq : qs[qs.length - 1]? = some (.tup [x', y'])) (hr : qs.dropLast = rs) (h : CK p (.tup [x', y', .lst rs, .int a]) [] = some (s, .tup [x', y', .lst rs, .int a])) :
  kD 3 1 (unB CK GE) p (.tup [x, y, .lst qs, .int a]) [] = some (.lst [s], .tup [x', y', .lst rs, .int a]) := by
 subst hr
 unfold unB; walk_at "eh"
theorem undone_K {q r : St} (hr : GS r) (ps : List St) (p : Addr) (a : Int) : d_Desk_undone p (dk q (ps ++ [r]) a) [] = some (.lst [.str (caseT r.1 r.2)], dk r ps a) := by
 have e : (ps ++ [r]).map stK = ps.map stK ++ [.tup [boxD r.1, .lst (r.2.map wrD)]] := by rw [List.map_append]; rfl
 refine un_run d_Desk_case (gEq false) p a _ _ _ _ _ ((ps ++ [r]).map stK) (ps.map stK) ?_ ?_ ?_ (case_K hr ps p a)
 ·rw [gEq_int, List.length_map, List.length_append, decide_eq_false (by simp only [List.length_cons, List.length_nil]; omega)]; rfl
 ·rw [e, List.length_append, List.length_cons, List.length_nil]
  simp
 ·rw [e, List.dropLast_concat]
abbrev dB (ZP : ZF) (UN DN : Addr → D → List D → Option (D × D)) (RR : List D → Option R1) (GE : D → D → Option D) : KF := (kSeq (sAsg ZP (bTup [(bName 2), (bName 3), (bName 4)])) (kIf (bZ (eB GE (eV 3) (eC (.str "")))) (kRet (eIf (bZ (eB GE (eV 2) (eC (.str "undo")))) (callK 0 UN aN) (fun _ => none))) (kIf (bZ (eB GE (eV 2) (eC (.str "shelf")))) (kRet (fun _ => none)) (kRet (callK 0 DN (aC (eV 2) (aC (eCall RR (aC (eV 2) (aC (eV 4) aN))) aN)))))))
theorem d_undo (ZP : ZF) (UN DN : Addr → D → List D → Option (D × D)) (RR : List D → Option R1) (GE : D → D → Option D) (p : Addr) (a : Int) (x y z l w m r s x' y' z' : D) (hz : ZP [.nk p (.tup [x, y, z, .int a]), .fz l, .no, .no, .no] = some (.ok (.tup [w, m, r]) [.nk p (.tup [x, y, z, .int a]), .fz l, .no, .no, .no])) (h1 : GE m (.str "") = some (.bl true)) (h2 : GE w (.str "undo") = some (.bl true)) (h : UN p (.tup [x, y, z, .int a]) [] = some (s, .tup [x', y', z', .int a])) :
  kD 5 2 (dB ZP UN DN RR GE) p (.tup [x, y, z, .int a]) [l] = some (s, .tup [x', y', z', .int a]) := by
 unfold dB; walk_at "eh"
theorem d_deed (ZP : ZF) (UN DN : Addr → D → List D → Option (D × D)) (RR : List D → Option R1) (GE : D → D → Option D) (p : Addr) (a : Int) (x y z l w m r t s x' y' z' : D) (hz : ZP [.nk p (.tup [x, y, z, .int a]), .fz l, .no, .no, .no] = some (.ok (.tup [w, m, r]) [.nk p (.tup [x, y, z, .int a]), .fz l, .no, .no, .no])) (h1 : GE m (.str "") = some (.bl false)) (h2 : GE w (.str "shelf") = some (.bl false)) (h3 : RR [w, r] = some (.ret t)) (h : DN p (.tup [x, y, z, .int a]) [w, t] = some (s, .tup [x', y', z', .int a])) :
  kD 5 2 (dB ZP UN DN RR GE) p (.tup [x, y, z, .int a]) [l] = some (s, .tup [x', y', z', .int a]) := by
 unfold dB; walk_at "eh"
theorem do_gen {q q' : St} {ps ps' : List St} {p : Addr} {a : Int} {l w r : Str} {t s : D} (hl : l.length ≤ 5000) (e : lst l = lst w ++ 32 :: lst r) (hw : 32 ∉ lst w) (hs : decide (w = "shelf") = false) (hr : d_read_rest [.str w, .str r] = some (.ret t)) (h : d_Desk_done p (dk q ps a) [.str w, t] = some (s, dk q' ps' a)) : d_Desk_do p (dk q ps a) [.str l] = some (s, dk q' ps' a) :=
 d_deed (zPart (eV 1) (eC (.str " "))) d_Desk_undone d_Desk_done d_read_rest (gEq false) p a _ _ _ (.str l) (.str w) (.str " ") (.str r) t s _ _ _ (part_ok rfl hl hw e) (gs _ _ _ (by decide +kernel)) (gs _ _ _ hs) hr h
theorem do_undo {q r : St} (hr : GS r) (ps : List St) (p : Addr) (a : Int) : d_Desk_do p (dk q (ps ++ [r]) a) [.str "undo"] = some (.lst [.str (caseT r.1 r.2)], dk r ps a) :=
 d_undo (zPart (eV 1) (eC (.str " "))) d_Desk_undone d_Desk_done d_read_rest (gEq false) p a _ _ _ (.str "undo") (.str "undo") (.str "") (.str "") _ _ _ _ (part_undo rfl) (gs _ _ _ (by decide +kernel)) (gs _ _ _ (by decide +kernel)) (undone_K hr ps p a)
def lineB (b : Int × Int) : Str := ("box " : Str) ++ (toString b.1 : Str) ++ "x" ++ (toString b.2 : Str)
theorem bx_list : ("box " : Str).cps.toList = ("box" : Str).cps.toList ++ [32] := by decide +kernel
theorem pt_list : ("put " : Str).cps.toList = ("put" : Str).cps.toList ++ [32] := by decide +kernel
theorem dr_list : ("drop " : Str).cps.toList = ("drop" : Str).cps.toList ++ [32] := by decide +kernel
theorem bx_len : ("box " : Str).length = 4 := by decide +kernel
theorem pt_len : ("put " : Str).length = 4 := by decide +kernel
theorem dr_len : ("drop " : Str).length = 5 := by decide +kernel
theorem lineB_list (b : Int × Int) : lst (lineB b) = lst "box" ++ 32 :: lst (sideT b.1 b.2) := by
 show (lineB b).cps.toList = _
 unfold lineB
 rw [app_list, app_list, app_list, bx_list, side_list, x_list]
 simp only [List.append_assoc, nl]; rfl
theorem do_boxK {q : St} {b : Int × Int} (hq : GS (b, q.2)) (ps : List St) (hl : ps.length ≤ 1000) (p : Addr) (a : Int) : d_Desk_do p (dk q ps a) [.str (lineB b)] = some (.lst [.str (caseT b q.2)], dk (b, q.2) (ps ++ [q]) a) := by
 have l1 := num_len (i := b.1) hq.1.1.1 hq.1.1.2
 have l2 := num_len (i := b.2) hq.1.2.1 hq.1.2.2
 refine do_gen (by unfold lineB; simp only [app_len, bx_len, x_len]; omega) (lineB_list b) (by decide +kernel) (by decide +kernel) (rest_box hq.1) (done_box hq ps hl p a)
theorem do_putK {q : St} {t : Wr} (hq : GS (q.1, q.2 ++ [t])) (h20 : q.2.length < 20) (ps : List St) (hl : ps.length ≤ 1000) (p : Addr) (a : Int) : d_Desk_do p (dk q ps a) [.str (("put " : Str) ++ wareT t)] = some (.lst [.str (caseT q.1 (q.2 ++ [t]))], dk (q.1, q.2 ++ [t]) (ps ++ [q]) a) := by
 have ht : GW t := hq.2.1 t (by simp)
 have l := ware_len ht
 refine do_gen (w := "put") (r := wareT t) (by rw [app_len, pt_len]; omega) ?_ (by decide +kernel) (by decide +kernel) (rest_put ht) (done_put hq h20 ps hl p a)
 show (("put " : Str) ++ wareT t).cps.toList = _
 rw [app_list, pt_list, List.append_assoc]; rfl
theorem do_dropK {q : St} {i : Int} (hi : 0 ≤ i ∧ i < q.2.length) (hq : GS (q.1, del q.2 i)) (h40 : q.2.length ≤ 40) (ps : List St) (hl : ps.length ≤ 1000) (p : Addr) (a : Int) : d_Desk_do p (dk q ps a) [.str (("drop " : Str) ++ (toString i : Str))] = some (.lst [.str (caseT q.1 (del q.2 i))], dk (q.1, del q.2 i) (ps ++ [q]) a) := by
 have h3 : 0 ≤ i ∧ i < 1000 := by omega
 have l := small_len h3
 refine do_gen (w := "drop") (r := (toString i : Str)) (by rw [app_len, dr_len]; omega) ?_ (by decide +kernel) (by decide +kernel) (rest_drop h3) (done_drop hi hq h40 ps hl p a)
 show (("drop " : Str) ++ (toString i : Str)).cps.toList = _
 rw [app_list, dr_list, List.append_assoc]; rfl
theorem forR_eq {rg : List D → Option (Int × Nat)} {f : AF} {b : GF} {body : SF} {e e1 : DE} {ds : List D} {lo : Int} {n : Nat} (h : f e = some (.ok ds e1)) (hr : rg ds = some (lo, n)) : sForR rg f b body e = forD b body (rngD lo n) e1 := by
 unfold sForR
 rw [h]
 show (match rg ds with
  | none => none
  | some (lo, n) => forD b body (rngD lo n) e1) = _
 rw [hr]
def stD (q : St) (ps : List St) : D := .tup [boxD q.1, .lst (q.2.map wrD), .lst (ps.map stK)]
abbrev seB (CR LW : List D → Option R1) (CK SK : Addr → D → List D → Option (D × D)) (GE GF : D → D → Option D) : KF := (kSeq (sSetC0 2 CR (aC (eB gIxT (eV 1) (eC (.int 0))) (aC (eB gIxT (eV 1) (eC (.int 1))) aN))) (kSeq (sForR rng1 (aC (eC (.int 2)) aN) (bName 3) (sSeq (sSet 4 (callK 0 CK aN)) (sIf (bOr (bNot (bZ (eIsiV 4 "str"))) (bZ (eB GE (eV 4) (eV 2)))) (sRet (eC (.bl false))) sNx))) (kSeq (sSet 5 (callK 0 SK aN)) (kRet (eAnd (eCall0 LW (aC (eV 5) aN)) (eB GF (eV 5) (eCB (g1 gLen) (aC (eB gIxT (eV 1) (eC (.int 2))) aN))))))))
theorem se_loop (CK : Addr → D → List D → Option (D × D)) (GE : D → D → Option D) (p : Addr) (a : Int) (x y z st : D) (s : Str) (h2 : CK p (.tup [x, y, z, .int a]) [] = some (.str s, .tup [x, y, z, .int a])) (h3 : GE (.str s) (.str s) = some (.bl false)) : (sForR rng1 (aC (eC (.int 2)) aN) (bName 3) (sSeq (sSet 4 (callK 0 CK aN)) (sIf (bOr (bNot (bZ (eIsiV 4 "str"))) (bZ (eB GE (eV 4) (eV 2)))) (sRet (eC (.bl false))) sNx))) [.nk p (.tup [x, y, z, .int a]), .fz st, .fz (.str s), .no, .no, .no] = some (.nx [.nk p (.tup [x, y, z, .int a]), .fz st, .fz (.str s), .fz (.int 1), .fz (.str s), .no]) := by
 have e : ∀ (o3 o4 : Sl) (h3' : o3 = .no ∨ ∃ d, o3 = .fz d) (h4' : o4 = .no ∨ ∃ d, o4 = .fz d) (i : Int), (sSeq (sSet 4 (callK 0 CK aN)) (sIf (bOr (bNot (bZ (eIsiV 4 "str"))) (bZ (eB GE (eV 4) (eV 2)))) (sRet (eC (.bl false))) sNx)) [.nk p (.tup [x, y, z, .int a]), .fz st, .fz (.str s), .fz (.int i), o4, .no] = some (.nx [.nk p (.tup [x, y, z, .int a]), .fz st, .fz (.str s), .fz (.int i), .fz (.str s), .no]) := by
  intro o3 o4 _ h4 i
  rcases h4 with rfl | ⟨d, rfl⟩ <;> walk_at "eh"
 have r2 : rngD 0 2 = [.int 0, .int 1] := rfl
 rw [forR_eq (e1 := [.nk p (.tup [x, y, z, .int a]), .fz st, .fz (.str s), .no, .no, .no]) (ds := [.int 2]) (lo := 0) (n := 2) rfl rfl, r2, forD_step, show bName 3 (.int 0) [.nk p (.tup [x, y, z, .int a]), .fz st, .fz (.str s), .no, .no, .no] = some [.nk p (.tup [x, y, z, .int a]), .fz st, .fz (.str s), .fz (.int 0), .no, .no] from rfl, optR_some, e .no .no (.inl rfl) (.inl rfl) 0, forK_nx, forD_step, show bName 3 (.int 1) [.nk p (.tup [x, y, z, .int a]), .fz st, .fz (.str s), .fz (.int 0), .fz (.str s), .no] = some [.nk p (.tup [x, y, z, .int a]), .fz st, .fz (.str s), .fz (.int 1), .fz (.str s), .no] from rfl, optR_some, e .no _ (.inl rfl) (.inr ⟨_, rfl⟩) 1, forK_nx, forD_nil]
theorem se_run (CR LW : List D → Option R1) (CK SK : Addr → D → List D → Option (D × D)) (GE GF : D → D → Option D) (p : Addr) (a n : Int) (x y z b w : D) (qs : List D) (s : Str) (h1 : CR [b, w] = some (.ret (.str s))) (h2 : CK p (.tup [x, y, z, .int a]) [] = some (.str s, .tup [x, y, z, .int a])) (h3 : GE (.str s) (.str s) = some (.bl false)) (h4 : SK p (.tup [x, y, z, .int a]) [] = some (.int n, .tup [x, y, z, .int a])) (h5 : LW [.int n] = some (.ret (.bl true))) (h6 : GF (.int n) (.int qs.length) = some (.bl true)) :
  kD 6 2 (seB CR LW CK SK GE GF) p (.tup [x, y, z, .int a]) [.tup [b, w, .lst qs]] = some (.bl true, .tup [x, y, z, .int a]) := by
 have hf := se_loop CK GE p a x y z (.tup [b, w, .lst qs]) s h2 h3
 unfold seB
 generalize (sForR rng1 (aC (eC (.int 2)) aN) (bName 3) (sSeq (sSet 4 (callK 0 CK aN)) (sIf (bOr (bNot (bZ (eIsiV 4 "str"))) (bZ (eB GE (eV 4) (eV 2)))) (sRet (eC (.bl false))) sNx))) = FO at hf ⊢
 walk_at "eh"
theorem seen_K {q : St} (hq : GS q) (ps : List St) (p : Addr) (a : Int) : d_l_seen p (dk q ps a) [stD q ps] = some (.bl true, dk q ps a) :=
 se_run d_l_case_row d_l_whole d_Desk_case d_Desk_steps (gEq true) (gEq false) p a ps.length _ _ _ _ _ (ps.map stK) (caseT q.1 q.2) (case_row_ok hq.1 hq.2.1 (Nat.le_trans hq.2.2 (by decide))) (case_K hq ps p a) (by rw [gEq_str, decide_eq_true rfl]; rfl) (steps_K q ps p a) (lwhole_ok _) (by rw [gEq_int, List.length_map, decide_eq_true rfl]; rfl)
theorem and_ok {X Y : BF} {e : DE} {x y : Bool} (hx : X e = some (.ok x e)) (hy : Y e = some (.ok y e)) : bAnd X Y e = some (.ok (x && y) e) := by
 unfold bAnd; rw [hx, bnd_ok]; cases x
 ·rfl
 ·exact hy
theorem if_ok {C : BF} {T U : SF} {e : DE} {b : Bool} (h : C e = some (.ok b e)) : sIf C T U e = if b = true then T e else U e := by
 unfold sIf; rw [h]; rfl
theorem seq_if {C : BF} {T R : SF} {e : DE} {b : Bool} {d : D} {o : Option RS} (h : C e = some (.ok b e)) (ht : b = true → T e = some (.rt d)) (hr : b = false → R e = o) (ho : b = true → o = some (.rt d)) : sSeq (sIf C T sNx) R e = o := by
 unfold sSeq
 rw [if_ok h]
 cases b with
 | true => rw [if_pos rfl, ht rfl, ho rfl]
 | false => rw [if_neg (by decide)]; exact hr rfl
theorem sd_run (GM GD GE : D → D → Option D) (i m r d v1 v2 : Int) (b : Bool) (h1 : GM (.int i) (.int 3) = some (.int r)) (h2 : GE (.int r) (.int 0) = some (.bl b)) (h3 : GD (.int i) (.int 3) = some (.int d)) (h4 : GM (.int d) (.int m) = some (.int v1)) (h5 : GM (.int d) (.int 30) = some (.int v2)) :
  fD 2 2 (sSeq (sIf (bZ (eB GE (eB GM (eV 0) (eC (.int 3))) (eC (.int 0)))) (sRet (eB gAdd (eC (.int 1)) (eB GM (eB GD (eV 0) (eC (.int 3))) (eV 1)))) sNx) (sRet (eB gAdd (eC (.int 1)) (eB GM (eB GD (eV 0) (eC (.int 3))) (eC (.int 30)))))) [.int i, .int m] = some (.ret (.int (if b = true then 1 + v1 else 1 + v2))) := by
 cases b <;> walk_at "eh"
def sideV (i m : Int) : Int := if decide (i % 3 = 0) = true then 1 + i / 3 % m else 1 + i / 3 % 30
theorem side_ok (i m : Int) (hm : 0 < m) : d_l_side [.int i, .int m] = some (.ret (.int (sideV i m))) :=
 sd_run gMod gDiv (gEq false) i m _ _ _ _ _ (gMod_eq (by decide)) (by rw [gEq_int]; rfl) (gDiv_eq (by decide)) (gMod_eq hm) (gMod_eq (by decide))
theorem sideV_b (i m : Int) (hm : 30 ≤ m) : 1 ≤ sideV i m ∧ sideV i m ≤ m := by
 unfold sideV
 have h1 := Int.emod_nonneg (i / 3) (show m ≠ 0 by omega)
 have h2 := Int.emod_lt_of_pos (i / 3) (show 0 < m by omega)
 split <;> omega
theorem dw_run (SI : List D → Option R1) (GM GD GU GP GE : D → D → Option D) (i B h2 m r s d7 w h n : Int) (b : Bool) (k1 : GD (.int i) (.int 2) = some (.int h2)) (k2 : GP (.int 10) (.int 40) = some (.int B)) (k3 : SI [.int h2, .int B] = some (.ret (.int w))) (k4 : GU (.int h2) (.int 48271) = some (.int m)) (k5 : GM (.int m) (.int 1000003) = some (.int r)) (k6 : GD (.int i) (.int 7) = some (.int d7)) (k7 : SI [.int (r + d7), .int B] = some (.ret (.int h))) (k8 : GM (.int i) (.int 2) = some (.int n)) (k9 : GE (.int n) (.int 1) = some (.bl b)) :
  fD 3 1 (sSeq (sSetC0 1 SI (aC (eB GD (eV 0) (eC (.int 2))) (aC (eB GP (eC (.int 10)) (eC (.int 40))) aN))) (sSeq (sSetC0 2 SI (aC (eB gAdd (eB GM (eB GU (eB GD (eV 0) (eC (.int 2))) (eC (.int 48271))) (eC (.int 1000003))) (eB GD (eV 0) (eC (.int 7)))) (aC (eB GP (eC (.int 10)) (eC (.int 40))) aN))) (sRet (eT (aC (eV 1) (aC (eV 2) (aC (eB GE (eB GM (eV 0) (eC (.int 2))) (eC (.int 1))) aN))))))) [.int i] = some (.ret (.tup [.int w, .int h, .bl b])) := by
 walk_at "eh"
theorem p40 : (0 : Int) < 10 ^ 40 := by decide +kernel
theorem p40' : (30 : Int) ≤ 10 ^ 40 := by decide +kernel
theorem p42 : (0 : Int) < 10 ^ 42 := by decide +kernel
theorem p42' : (30 : Int) ≤ 10 ^ 42 := by decide +kernel
theorem drawn_ware_ok (i : Int) : ∃ p : Wr, GW p ∧ d_l_drawn_ware [.int i] = some (.ret (wrD p)) :=
 ⟨(sideV (i / 2) (10 ^ 40), sideV (i / 2 * 48271 % 1000003 + i / 7) (10 ^ 40), decide (i % 2 = 1)), ⟨sideV_b _ _ p40', sideV_b _ _ p40'⟩,
  dw_run d_l_side gMod gDiv gMul gPow (gEq false) i (10 ^ 40) _ _ _ 0 _ _ _ _ _ (gDiv_eq (by decide)) pow40 (side_ok _ _ p40) (gMul_r (by decide)) (gMod_eq (by decide)) (gDiv_eq (by decide)) (side_ok _ _ p40) (gMod_eq (by decide)) (by rw [gEq_int]; rfl)⟩
theorem cell_ok {ns : List Int} {k : Int} (hk : 0 ≤ k) : d_l_cell [.scr ns, .int k] = some (.ret (.int (cellAt ns k))) := by
 rw [← cell_eq hk]
 unfold d_l_cell b_l_cell
 walk_at "ev"
 split
 ·cases atI ns k <;> rfl
 ·rfl
abbrev swE : ZF := (eCall0 d_l_drawn_ware (aC (eB gAdd (eB gDiv (eV 1) (eC (.int 9))) (eB gMul (eB gMul (eC (.int 977)) (eV 0)) (eV 0))) aN))
theorem swE_ok (k : Nat) (hk : k ≤ 100) (c : Int) : ∃ p : Wr, GW p ∧ swE [.fz (.int k), .fz (.int c)] = some (.ok (wrD p) [.fz (.int k), .fz (.int c)]) := by
 obtain ⟨p, hp, h⟩ := drawn_ware_ok (c / 9 + 977 * k * k)
 refine ⟨p, hp, ?_⟩
 have g1 : gDiv (.int c) (.int 9) = some (.int (c / 9)) := gDiv_eq (by decide)
 have g2 : gMul (.int 977) (.int k) = some (.int (977 * k)) := gMul_l (by decide)
 have g3 : gMul (.int (977 * (k : Int))) (.int k) = some (.int (977 * k * k)) := gMul_r (by omega)
 have key : ∀ (GD GU : D → D → Option D) (DW : List D → Option R1) (d m1 m2 : Int) (r : D), GD (.int c) (.int 9) = some (.int d) → GU (.int 977) (.int k) = some (.int m1) → GU (.int m1) (.int k) = some (.int m2) → DW [.int (d + m2)] = some (.ret r) → (eCall0 DW (aC (eB gAdd (eB GD (eV 1) (eC (.int 9))) (eB GU (eB GU (eC (.int 977)) (eV 0)) (eV 0))) aN)) [.fz (.int k), .fz (.int c)] = some (.ok r [.fz (.int k), .fz (.int c)]) := by
  intro GD GU DW d m1 m2 r k1 k2 k3 k4
  walk_at "eh"
 exact key gDiv gMul d_l_drawn_ware _ _ _ _ g1 g2 g3 h
theorem rng_succ (lo : Int) (n : Nat) : rngD lo (n + 1) = .int lo :: rngD (lo + 1) n := by
 rw [rngD_map, rngD_map, List.range_succ_eq_map, List.map_cons, List.map_map]
 refine congr (congrArg List.cons (congrArg D.int (by omega))) (List.map_congr_left fun i _ => ?_)
 show D.int (lo + ((i + 1 : Nat) : Int)) = D.int (lo + 1 + i)
 exact congrArg D.int (by omega)
theorem sw_comp (c : Int) : ∀ (n k : Nat) (acc : List D) (eo : DE), k + n ≤ 100 → acc.length + n ≤ 1000 → ∃ ws : List Wr, ws.length = n ∧ (∀ p ∈ ws, GW p) ∧ compD (bName 0) bTrue swE [.no, .fz (.int c)] eo (rngD k n) acc = some (.ok (acc ++ ws.map wrD) eo)
 | 0, k, acc, eo, _, _ => ⟨[], rfl, fun p m => (by cases m), (by rw [List.map_nil, List.append_nil]; rfl)⟩
 | n + 1, k, acc, eo, h, hl => by
  obtain ⟨p, hp, he⟩ := swE_ok k (by omega) c
  obtain ⟨ws, w1, w2, w3⟩ := sw_comp c n (k + 1) (acc ++ [wrD p]) eo (by omega) (by rw [List.length_append, List.length_cons, List.length_nil]; omega)
  have hs : acc.length < sizeLine := Nat.lt_of_lt_of_le (by omega) (lnS (n := 100000) (Nat.le_refl _))
  refine ⟨p :: ws, by rw [List.length_cons, w1], fun q m => ?_, ?_⟩
  ·rcases List.mem_cons.mp m with rfl | m
   ·exact hp
   ·exact w2 q m
  ·have er : rngD (k : Int) (n + 1) = .int k :: rngD ((k + 1 : Nat) : Int) n := by
    rw [show (((k + 1 : Nat)) : Int) = (k : Int) + 1 by omega]; exact rng_succ _ _
   rw [er, compD_cons, show bName 0 (.int k) [.no, .fz (.int c)] = some [.fz (.int k), .fz (.int c)] from rfl, optB_some]
   show bnd (some (R.ok true [Sl.fz (.int k), Sl.fz (.int c)])) _ = _
   rw [bnd_ok, if_pos rfl, he, bnd_ok, if_pos hs, w3, List.append_assoc]; rfl
abbrev stA (CE SI : List D → Option R1) (GM GD GE GP : D → D → Option D) (NC : NF) : SF := (sSeq (sSetN 1 (eL aN)) (sSeq (sSetC0 2 CE (aC (eV 0) (aC (eC (.int 0)) aN))) (sSeq (sIf (bZ (eB GE (eB GM (eV 2) (eC (.int 3))) (eC (.int 1)))) (sSetN 1 NC) sNx) (sSeq (sIf (bZ (eB GE (eB GM (eV 2) (eC (.int 3))) (eC (.int 0)))) (sRet (eT (aC (eT (aC (eC (.int 10)) (aC (eC (.int 10)) aN))) (aC (eV 1) aN)))) sNx) (sRet (eT (aC (eT (aC (eB gSub' (eCall0 SI (aC (eB GD (eV 2) (eC (.int 3))) (aC (eB GP (eC (.int 10)) (eC (.int 42))) aN))) (eC (.int 1))) (aC (eCall0 SI (aC (eB GD (eV 2) (eC (.int 5))) (aC (eB GP (eC (.int 10)) (eC (.int 42))) aN))) aN))) (aC (eV 1) aN))))))))
theorem st_1 (CE SI : List D → Option R1) (GM GD GE GP : D → D → Option D) (NC : NF) (S : D) (c m B d3 d5 v1 v2 : Int) (b0 b1 : Bool) (L : List D) (h1 : CE [S, .int 0] = some (.ret (.int c))) (h2 : GM (.int c) (.int 3) = some (.int m)) (h3 : GE (.int m) (.int 1) = some (.bl b1)) (h4 : GE (.int m) (.int 0) = some (.bl b0)) (hc : b1 = true → NC [.fz S, .ow [], .fz (.int c)] = some (.ok L [.fz S, .ow [], .fz (.int c)])) (hn : b1 = false → L = []) (h5 : GP (.int 10) (.int 42) = some (.int B)) (h6 : GD (.int c) (.int 3) = some (.int d3)) (h7 : GD (.int c) (.int 5) = some (.int d5)) (h8 : SI [.int d3, .int B] = some (.ret (.int v1))) (h9 : SI [.int d5, .int B] = some (.ret (.int v2))) :
  fD 3 1 (stA CE SI GM GD GE GP NC) [S] = some (.ret (.tup [.tup [.int (if b0 = true then 10 else v1 - 1), .int (if b0 = true then 10 else v2)], .lst L])) := by
 unfold stA
 cases b1 with
 | true => have hc := hc rfl; cases b0 <;> walk_at "eh"
 | false => have hn := hn rfl; subst hn; cases b0 <;> walk_at "eh"
theorem start_ok (ns : List Int) : ∃ q : St, GS q ∧ d_l_start [.scr ns] = some (.ret (stK q)) ∧ (cellAt ns 0 % 3 = 0 → q = ((10, 10), [])) := by
 have hc : ∃ ws : List Wr, (∀ p ∈ ws, GW p) ∧ ws.length ≤ 23 ∧ (decide (cellAt ns 0 % 3 = 1) = true → (nCompR rng1 1 [2] (aC (eB gMod (eB gDiv (eV 2) (eC (.int 3))) (eC (.int 23))) aN) (bName 0) bTrue swE) [.fz (.scr ns), .ow [], .fz (.int (cellAt ns 0))] = some (.ok (ws.map wrD) [.fz (.scr ns), .ow [], .fz (.int (cellAt ns 0))])) ∧ (decide (cellAt ns 0 % 3 = 1) = false → ws = []) := by
  by_cases z : cellAt ns 0 % 3 = 1
  ·have m0 := Int.emod_nonneg (cellAt ns 0 / 3) (show (23 : Int) ≠ 0 by decide)
   have m1 := Int.emod_lt_of_pos (cellAt ns 0 / 3) (show (0 : Int) < 23 by decide)
   obtain ⟨ws, w1, w2, w3⟩ := sw_comp (cellAt ns 0) (cellAt ns 0 / 3 % 23).toNat 0 [] [.fz (.scr ns), .ow [], .fz (.int (cellAt ns 0))] (by omega) (by rw [List.length_nil]; omega)
   refine ⟨ws, w2, by omega, fun _ => ?_, fun h => by rw [decide_eq_true z] at h; cases h⟩
   have ea : (aC (eB gMod (eB gDiv (eV 2) (eC (.int 3))) (eC (.int 23))) aN) [.fz (.scr ns), .ow [], .fz (.int (cellAt ns 0))] = some (.ok [.int (cellAt ns 0 / 3 % 23)] [.fz (.scr ns), .ow [], .fz (.int (cellAt ns 0))]) := by
    have g1 : gDiv (.int (cellAt ns 0)) (.int 3) = some (.int (cellAt ns 0 / 3)) := gDiv_eq (by decide)
    have g2 : gMod (.int (cellAt ns 0 / 3)) (.int 23) = some (.int (cellAt ns 0 / 3 % 23)) := gMod_eq (by decide)
    have key : ∀ (GD GM : D → D → Option D) (d m : Int), GD (.int (cellAt ns 0)) (.int 3) = some (.int d) → GM (.int d) (.int 23) = some (.int m) → (aC (eB GM (eB GD (eV 2) (eC (.int 3))) (eC (.int 23))) aN) [.fz (.scr ns), .ow [], .fz (.int (cellAt ns 0))] = some (.ok [.int m] [.fz (.scr ns), .ow [], .fz (.int (cellAt ns 0))]) := by
     intro GD GM d m k1 k2; walk_at "eh"
    exact key gDiv gMod _ _ g1 g2
   show bnd ((aC (eB gMod (eB gDiv (eV 2) (eC (.int 3))) (eC (.int 23))) aN) [.fz (.scr ns), .ow [], .fz (.int (cellAt ns 0))]) _ = _
   rw [ea, bnd_ok]
   have er : rng1 [.int (cellAt ns 0 / 3 % 23)] = some (0, (cellAt ns 0 / 3 % 23).toNat) := rng1_eq (by omega)
   rw [er]
   exact w3
  ·exact ⟨[], fun p m => (by cases m), by decide, fun h => absurd (of_decide_eq_true h) z, fun _ => rfl⟩
 obtain ⟨ws, w1, w2, w3, w4⟩ := hc
 have key := st_1 d_l_cell d_l_side gMod gDiv (gEq false) gPow _ (.scr ns) _ _ _ _ _ _ _ _ _ (ws.map wrD) (cell_ok (by decide)) (gMod_eq (by decide)) (by rw [gEq_int] <;> rfl) (by rw [gEq_int] <;> rfl) w3 (fun h => by rw [w4 h] <;> rfl) pow42 (gDiv_eq (by decide)) (gDiv_eq (by decide)) (side_ok _ _ p42) (side_ok _ _ p42)
 have b1 := sideV_b (cellAt ns 0 / 3) (10 ^ 42) p42'
 have b2 := sideV_b (cellAt ns 0 / 5) (10 ^ 42) p42'
 refine ⟨((if decide (cellAt ns 0 % 3 = 0) = true then 10 else sideV (cellAt ns 0 / 3) (10 ^ 42) - 1, if decide (cellAt ns 0 % 3 = 0) = true then 10 else sideV (cellAt ns 0 / 5) (10 ^ 42)), ws), ⟨?_, w1, w2⟩, key, fun z => ?_⟩
 ·have e := p42'
  unfold GB
  split <;> (simp only; omega)
 ·rw [if_pos (decide_eq_true z), if_pos (decide_eq_true z), w4 (decide_eq_false (by omega))]
abbrev bgA (CE CR RC : List D → Option R1) (GM GE : D → D → Option D) : NkF := (nkIf (bZ (eB GE (eB GM (eCall0 CE (aC (eV 0) (aC (eC (.int 0)) aN))) (eC (.int 3))) (eC (.int 0)))) (nkRet (nkNew RC [.str "10x10:"] aN)) (nkRet (nkNew RC [] (aC (eCall0 CR (aC (eB gIxT (eV 1) (eC (.int 0))) (aC (eB gIxT (eV 1) (eC (.int 1))) aN))) aN))))
theorem bg_run (CE CR RC : List D → Option R1) (GM GE : D → D → Option D) (S x y b w s : D) (c m : Int) (bb : Bool) (h1 : CE [S, .int 0] = some (.ret (.int c))) (h2 : GM (.int c) (.int 3) = some (.int m)) (h3 : GE (.int m) (.int 0) = some (.bl bb)) (h4 : bb = true → RC [.str "10x10:"] = some (.ret (.tup [x, y]))) (h5 : CR [b, w] = some (.ret s)) (h6 : bb = false → RC [s] = some (.ret (.tup [x, y]))) :
  nkD 2 2 (bgA CE CR RC GM GE) [S, .tup [b, w]] = some (x, y) := by
 have ec : (bZ (eB GE (eB GM (eCall0 CE (aC (eV 0) (aC (eC (.int 0)) aN))) (eC (.int 3))) (eC (.int 0)))) [.fz S, .fz (.tup [b, w])] = some (.ok bb [.fz S, .fz (.tup [b, w])]) := by walk_at "eh"
 have ea : (aC (eCall0 CR (aC (eB gIxT (eV 1) (eC (.int 0))) (aC (eB gIxT (eV 1) (eC (.int 1))) aN))) aN) [.fz S, .fz (.tup [b, w])] = some (.ok [s] [.fz S, .fz (.tup [b, w])]) := by walk_at "eh"
 show bgA CE CR RC GM GE [.fz S, .fz (.tup [b, w])] = _
 unfold bgA nkIf
 rw [ec]
 cases bb with
 | true =>
  show nkRet (nkNew RC [.str "10x10:"] aN) [.fz S, .fz (.tup [b, w])] = _
  unfold nkRet nkNew
  rw [show aN [.fz S, .fz (.tup [b, w])] = some (.ok [] [.fz S, .fz (.tup [b, w])]) from rfl, bnd_ok, List.nil_append, h4 rfl]; rfl
 | false =>
  show nkRet (nkNew RC [] _) [.fz S, .fz (.tup [b, w])] = _
  unfold nkRet nkNew
  rw [ea, bnd_ok, List.append_nil, h6 rfl]; rfl
theorem begun_ok (ns : List Int) {q : St} (hq : GS q) (h0 : cellAt ns 0 % 3 = 0 → q = ((10, 10), [])) : d_l_begun [.scr ns, stK q] = some (boxD q.1, .lst (q.2.map wrD)) := by
 refine bg_run d_l_cell d_l_case_row d_read_case gMod (gEq false) (.scr ns) _ _ _ _ _ _ _ (decide (cellAt ns 0 % 3 = 0)) (cell_ok (by decide)) (gMod_eq (by decide)) (by rw [gEq_int] <;> rfl) (fun h => ?_) (case_row_ok hq.1 hq.2.1 (Nat.le_trans hq.2.2 (by decide))) (fun _ => read_back hq.1 hq.2.1 (Nat.le_trans hq.2.2 (by decide)))
 rw [start_text, h0 (of_decide_eq_true h)]
 exact read_back (b := (10, 10)) (ws := []) ⟨by decide +kernel, by decide +kernel⟩ (fun p m => by cases m) (by decide)
abbrev deC1 (GE GG : D → D → Option D) : BF := (bAnd (bZ (eB GE (eV 2) (eC (.int 7)))) (bZ (eB GG (eCB (g1 gLen) (aC (eB gIxT (eV 1) (eC (.int 2))) aN)) (eC (.int 0)))))
abbrev deT1 (GX : D → D → Option D) : SF := (sRet (eT (aC (eC (.str "undo")) (aC (eB gIxT (eB GX (eB gIxT (eV 1) (eC (.int 2))) (eU gNeg (eC (.int 1)))) (eC (.int 0))) (aC (eB gIxT (eB GX (eB gIxT (eV 1) (eC (.int 2))) (eU gNeg (eC (.int 1)))) (eC (.int 1))) aN)))))
abbrev deC2 (GI GG : D → D → Option D) : BF := (bAnd (bZ (eB GI (eV 2) (eT (aC (eC (.int 5)) (aC (eC (.int 6)) aN))))) (bZ (eB GG (eCB (g1 gLen) (aC (eB gIxT (eV 1) (eC (.int 1))) aN)) (eC (.int 0)))))
abbrev deT2 (GM GA : D → D → Option D) (GS' : D → Option D) : SF := (sSeq (sSet 3 (eB GM (eV 0) (eCB (g1 gLen) (aC (eB gIxT (eV 1) (eC (.int 1))) aN)))) (sRet (eT (aC (eB GA (eC (.str "drop ")) (eCB (g1 GS') (aC (eV 3) aN))) (aC (eB gIxT (eV 1) (eC (.int 0))) (aC (zN (nB gCat (zN (nSl (eB gIxT (eV 1) (eC (.int 1))) oN (oS (eV 3)))) (zN (nSl (eB gIxT (eV 1) (eC (.int 1))) (oS (eB gAdd (eV 3) (eC (.int 1)))) oN)))) aN))))))
abbrev deC3 (GL GG : D → D → Option D) : BF := (bAnd (bZ (eB GL (eV 2) (eC (.int 5)))) (bAnd (bZ (eB GG (eV 2) (eC (.int 0)))) (bZ (eB GL (eCB (g1 gLen) (aC (eB gIxT (eV 1) (eC (.int 1))) aN)) (eC (.int 20))))))
abbrev deT3 (DW WR : List D → Option R1) (GA : D → D → Option D) : SF := (sSeq (sSetC0 4 DW (aC (eV 0) aN)) (sRet (eT (aC (eB GA (eC (.str "put ")) (eCall0 WR (aC (eV 4) aN))) (aC (eB gIxT (eV 1) (eC (.int 0))) (aC (zN (nB gCat (eB gIxT (eV 1) (eC (.int 1))) (zN (eL (aC (eV 4) aN))))) aN))))))
abbrev deR (SI : List D → Option R1) (GP GM GD GA : D → D → Option D) (GS' : D → Option D) : SF := (sSeq (sSet 5 (eT (aC (eB gSub' (eCall0 SI (aC (eV 0) (aC (eB GP (eC (.int 10)) (eC (.int 42))) aN))) (eB GM (eB GD (eV 0) (eC (.int 7))) (eC (.int 2)))) (aC (eCall0 SI (aC (eB GD (eV 0) (eC (.int 5))) (aC (eB GP (eC (.int 10)) (eC (.int 42))) aN))) aN)))) (sRet (eT (aC (eB GA (eB GA (eB GA (eC (.str "box ")) (eCB (g1 GS') (aC (eB gIxT (eV 5) (eC (.int 0))) aN))) (eC (.str "x"))) (eCB (g1 GS') (aC (eB gIxT (eV 5) (eC (.int 1))) aN))) (aC (eV 5) (aC (eB gIxT (eV 1) (eC (.int 1))) aN))))))
theorem de_eq : b_l_deed = sSeq (sSet 2 (eB gMod (eV 0) (eC (.int 8)))) (sSeq (sSet 0 (eB gDiv (eV 0) (eC (.int 8)))) (sSeq (sIf (deC1 (gEq false) gGt) (deT1 gIxL) sNx) (sSeq (sIf (deC2 (gIn false) gGt) (deT2 gMod gAddS gStr1) sNx) (sSeq (sIf (deC3 gLt gGt) (deT3 d_l_drawn_ware d_l_ware_row gAddS) sNx) (deR d_l_side gPow gMod gDiv gAddS gStr1))))) := rfl
theorem de_t1 (GX : D → D → Option D) (c k : Int) (st : D) (b w x y : D) (qs : List D) (h : GX (.lst qs) (.int (-1)) = some (.tup [x, y])) : deT1 GX [.fz (.int c), .fz (.tup [b, w, .lst qs]), .fz (.int k), .no, .no, .no] = some (.rt (.tup [.str "undo", x, y])) := by
 unfold deT1; walk_at "eh"
theorem de_t2 (GM GA : D → D → Option D) (GS' : D → Option D) (c k i : Int) (b : D) (ys qs : List D) (s l : Str) (h1 : GM (.int c) (.int ys.length) = some (.int i)) (h2 : GS' (.int i) = some (.str s)) (h3 : GA (.str "drop ") (.str s) = some (.str l)) (hl : (L2.cutD ys none (some i)).length + (L2.cutD ys (some (i + 1)) none).length ≤ sizeLine) : deT2 GM GA GS' [.fz (.int c), .fz (.tup [b, .lst ys, .lst qs]), .fz (.int k), .no, .no, .no] = some (.rt (.tup [.str l, b, .lst (L2.cutD ys none (some i) ++ L2.cutD ys (some (i + 1)) none)])) := by
 unfold deT2; walk_at "eh"
theorem de_t3 (DW WR : List D → Option R1) (GA : D → D → Option D) (c k : Int) (b t : D) (ys qs : List D) (s l : Str) (h1 : DW [.int c] = some (.ret t)) (h2 : WR [t] = some (.ret (.str s))) (h3 : GA (.str "put ") (.str s) = some (.str l)) (hl : ys.length + 1 ≤ sizeLine) : deT3 DW WR GA [.fz (.int c), .fz (.tup [b, .lst ys, .lst qs]), .fz (.int k), .no, .no, .no] = some (.rt (.tup [.str l, b, .lst (ys ++ [t])])) := by
 unfold deT3; walk_at "eh"
theorem de_r (SI : List D → Option R1) (GP GM GD GA : D → D → Option D) (GS' : D → Option D) (c k B d7 m2 d5 v1 v2 : Int) (b w z : D) (s1 s2 l1 l2 l3 : Str) (h1 : GP (.int 10) (.int 42) = some (.int B)) (h2 : SI [.int c, .int B] = some (.ret (.int v1))) (h3 : GD (.int c) (.int 7) = some (.int d7)) (h4 : GM (.int d7) (.int 2) = some (.int m2)) (h5 : GD (.int c) (.int 5) = some (.int d5)) (h6 : SI [.int d5, .int B] = some (.ret (.int v2))) (h7 : GS' (.int (v1 - m2)) = some (.str s1)) (h8 : GS' (.int v2) = some (.str s2)) (h9 : GA (.str "box ") (.str s1) = some (.str l1)) (h10 : GA (.str l1) (.str "x") = some (.str l2)) (h11 : GA (.str l2) (.str s2) = some (.str l3)) :
  deR SI GP GM GD GA GS' [.fz (.int c), .fz (.tup [b, w, z]), .fz (.int k), .no, .no, .no] = some (.rt (.tup [.str l3, .tup [.int (v1 - m2), .int v2], w])) := by
 unfold deR; walk_at "eh"
theorem de_c1 (GE GG : D → D → Option D) (c k : Int) (b w : D) (qs : List D) (x y : Bool) (h1 : GE (.int k) (.int 7) = some (.bl x)) (h2 : GG (.int qs.length) (.int 0) = some (.bl y)) : deC1 GE GG [.fz (.int c), .fz (.tup [b, w, .lst qs]), .fz (.int k), .no, .no, .no] = some (.ok (x && y) [.fz (.int c), .fz (.tup [b, w, .lst qs]), .fz (.int k), .no, .no, .no]) := by
 refine and_ok ?_ ?_ <;> walk_at "eh"
theorem de_c2 (GI GG : D → D → Option D) (c k : Int) (b z : D) (ys : List D) (x y : Bool) (h1 : GI (.int k) (.tup [.int 5, .int 6]) = some (.bl x)) (h2 : GG (.int ys.length) (.int 0) = some (.bl y)) : deC2 GI GG [.fz (.int c), .fz (.tup [b, .lst ys, z]), .fz (.int k), .no, .no, .no] = some (.ok (x && y) [.fz (.int c), .fz (.tup [b, .lst ys, z]), .fz (.int k), .no, .no, .no]) := by
 refine and_ok ?_ ?_ <;> walk_at "eh"
theorem de_c3 (GL GG : D → D → Option D) (c k : Int) (b z : D) (ys : List D) (x y v : Bool) (h1 : GL (.int k) (.int 5) = some (.bl x)) (h2 : GG (.int k) (.int 0) = some (.bl y)) (h3 : GL (.int ys.length) (.int 20) = some (.bl v)) : deC3 GL GG [.fz (.int c), .fz (.tup [b, .lst ys, z]), .fz (.int k), .no, .no, .no] = some (.ok (x && (y && v)) [.fz (.int c), .fz (.tup [b, .lst ys, z]), .fz (.int k), .no, .no, .no]) := by
 refine and_ok ?_ (and_ok ?_ ?_) <;> walk_at "eh"
theorem de_pre (GM GD : D → D → Option D) (K : SF) (i k c : Int) (st : D) (h1 : GM (.int i) (.int 8) = some (.int k)) (h2 : GD (.int i) (.int 8) = some (.int c)) : (sSeq (sSet 2 (eB GM (eV 0) (eC (.int 8)))) (sSeq (sSet 0 (eB GD (eV 0) (eC (.int 8)))) K)) [.fz (.int i), .fz st, .no, .no, .no, .no] = K [.fz (.int c), .fz st, .fz (.int k), .no, .no, .no] := by
 walk_at "eh"
theorem in56 (k : Int) : gIn false (.int k) (.tup [.int 5, .int 6]) = some (.bl (5 == k || 6 == k)) := by
 walk_at "ev"
theorem last_at (ps : List St) (r : St) : gIxL (.lst ((ps ++ [r]).map stK)) (.int (-1)) = some (stK r) := by
 show atI ((ps ++ [r]).map stK) (-1) = _
 have hl : ((ps ++ [r]).map stK).length = ps.length + 1 := by rw [List.length_map, List.length_append]; rfl
 unfold atI ixN
 rw [hl, if_neg (by decide), if_pos (by omega), show (-1 + ((ps.length + 1 : Nat) : Int)).toNat = ps.length by omega]
 show ((ps ++ [r]).map stK)[ps.length]? = _
 rw [List.getElem?_map, List.getElem?_append_right (Nat.le_refl _), Nat.sub_self]; rfl
theorem first_ne {l w r : Str} (e : lst l = lst w ++ 32 :: lst r) (h : (lst w).head? ≠ some 117) (n : lst w ≠ []) : decide (l = "undo") = false := decide_eq_false fun z => by
 subst z
 have := congrArg List.head? e
 rw [List.head?_append] at this
 cases hw : lst w with
 | nil => exact n hw
 | cons c r => rw [hw] at this h; exact h (by rw [← show lst "undo" = _ from rfl] at this; exact this.symm.trans (by decide +kernel))
theorem deed_ok (i : Int) {q : St} (hq : GS q) (ps : List St) (hps : ∀ r ∈ ps, GS r) (hl : ps.length ≤ 1000) : ∃ (l : Str) (q' : St), GS q' ∧ d_l_deed [.int i, stD q ps] = some (.ret (.tup [.str l, boxD q'.1, .lst (q'.2.map wrD)])) ∧ ((l = "undo" ∧ ∃ ps0, ps = ps0 ++ [q']) ∨ (decide (l = "undo") = false ∧ ∀ p a, d_Desk_do p (dk q ps a) [.str l] = some (.lst [.str (caseT q'.1 q'.2)], dk q' (ps ++ [q]) a))) := by
 have top : ∀ d, (sSeq (sIf (deC1 (gEq false) gGt) (deT1 gIxL) sNx) (sSeq (sIf (deC2 (gIn false) gGt) (deT2 gMod gAddS gStr1) sNx) (sSeq (sIf (deC3 gLt gGt) (deT3 d_l_drawn_ware d_l_ware_row gAddS) sNx) (deR d_l_side gPow gMod gDiv gAddS gStr1)))) [.fz (.int (i / 8)), .fz (stD q ps), .fz (.int (i % 8)), .no, .no, .no] = some (.rt d) → d_l_deed [.int i, stD q ps] = some (.ret d) := fun d h => by
  have e2 : b_l_deed [.fz (.int i), .fz (stD q ps), .no, .no, .no, .no] = some (.rt d) := by rw [de_eq]; exact (de_pre gMod gDiv _ i (i % 8) (i / 8) (stD q ps) (gMod_eq (by decide)) (gDiv_eq (by decide))).trans h
  exact (congrArg finR e2).trans rfl
 have c1 := de_c1 (gEq false) gGt (i / 8) (i % 8) (boxD q.1) (.lst (q.2.map wrD)) (ps.map stK) (decide (i % 8 = 7)) (decide (0 < ((ps.map stK).length : Int))) (by rw [gEq_int] <;> rfl) (by rw [gGt_eq])
 have c2 := de_c2 (gIn false) gGt (i / 8) (i % 8) (boxD q.1) (.lst (ps.map stK)) (q.2.map wrD) (5 == i % 8 || 6 == i % 8) (decide (0 < ((q.2.map wrD).length : Int))) (in56 _) (by rw [gGt_eq])
 have c3 := de_c3 gLt gGt (i / 8) (i % 8) (boxD q.1) (.lst (ps.map stK)) (q.2.map wrD) (decide (i % 8 < 5)) (decide (0 < i % 8)) (decide (((q.2.map wrD).length : Int) < 20)) (by rw [gLt_eq]) (by rw [gGt_eq]) (by rw [gLt_eq])
 by_cases z1 : (decide (i % 8 = 7) && decide (0 < ((ps.map stK).length : Int))) = true
 ·rw [Bool.and_eq_true, decide_eq_true_eq, decide_eq_true_eq, List.length_map] at z1
  have hne : ps ≠ [] := fun z => by rw [z] at z1; simp at z1
  obtain ⟨ps0, r, rfl⟩ : ∃ ps0 r, ps = ps0 ++ [r] := ⟨ps.dropLast, ps.getLast hne, (List.dropLast_concat_getLast hne).symm⟩
  refine ⟨"undo", r, hps r (by simp), top _ ?_, .inl ⟨rfl, ps0, rfl⟩⟩
  refine seq_if c1 (fun _ => de_t1 gIxL _ _ .non _ _ _ _ _ (last_at ps0 r)) (fun h => ?_) fun _ => rfl
  rw [Bool.and_eq_false_iff, decide_eq_false_iff_not, decide_eq_false_iff_not, List.length_map] at h
  omega
 ·have skip1 : ∀ {R : SF} {o : Option RS}, R [.fz (.int (i / 8)), .fz (stD q ps), .fz (.int (i % 8)), .no, .no, .no] = o → (sSeq (sIf (deC1 (gEq false) gGt) (deT1 gIxL) sNx) R) [.fz (.int (i / 8)), .fz (stD q ps), .fz (.int (i % 8)), .no, .no, .no] = o := fun {R o} h => seq_if (d := .non) c1 (fun z => absurd z z1) (fun _ => h) (fun z => absurd z z1)
  by_cases z2 : ((5 == i % 8 || 6 == i % 8) && decide (0 < ((q.2.map wrD).length : Int))) = true
  ·have z2' := z2
   rw [Bool.and_eq_true, decide_eq_true_eq, List.length_map] at z2'
   have hp : (0 : Int) < q.2.length := z2'.2
   have m0 := Int.emod_nonneg (i / 8) (show (q.2.length : Int) ≠ 0 by omega)
   have m1 := Int.emod_lt_of_pos (i / 8) hp
   have l23 := hq.2.2
   have dq : GS (q.1, del q.2 (i / 8 % q.2.length)) := ⟨hq.1, fun p m => hq.2.1 p (del_sub p m), Nat.le_trans (del_len m0) hq.2.2⟩
   have sl := small_len (i := i / 8 % q.2.length) ⟨m0, by omega⟩
   obtain ⟨k1, k2⟩ := cut_del ⟨m0, m1⟩
   refine ⟨("drop " : Str) ++ (toString (i / 8 % (q.2.length : Int)) : Str), _, dq, top _ (skip1 (seq_if c2 (fun _ => de_t2 gMod gAddS gStr1 _ _ _ _ _ _ _ _ (by rw [gMod_eq (by rw [List.length_map]; exact hp), List.length_map]) (str1_ok m0 (Int.le_trans (Int.le_of_lt (show i / 8 % (q.2.length : Int) < 1000 by omega)) (by decide +kernel))) (addS_ok (by rw [dr_len]; omega)) (lnS (by omega))) (fun h => by rw [z2] at h; cases h) (fun _ => by rw [k1]))), .inr ⟨?_, fun p a => do_dropK ⟨m0, m1⟩ dq (by omega) ps hl p a⟩⟩
   refine first_ne (w := "drop") (r := (toString (i / 8 % (q.2.length : Int)) : Str)) ?_ (by decide +kernel) (by decide +kernel)
   show (("drop " : Str) ++ (toString (i / 8 % (q.2.length : Int)) : Str)).cps.toList = _
   rw [app_list, dr_list, List.append_assoc]; rfl
  ·have skip2 : ∀ {R : SF} {o : Option RS}, R [.fz (.int (i / 8)), .fz (stD q ps), .fz (.int (i % 8)), .no, .no, .no] = o → (sSeq (sIf (deC2 (gIn false) gGt) (deT2 gMod gAddS gStr1) sNx) R) [.fz (.int (i / 8)), .fz (stD q ps), .fz (.int (i % 8)), .no, .no, .no] = o := fun {R o} h => seq_if (d := .non) c2 (fun z => absurd z z2) (fun _ => h) (fun z => absurd z z2)
   by_cases z3 : (decide (i % 8 < 5) && (decide (0 < i % 8) && decide (((q.2.map wrD).length : Int) < 20))) = true
   ·have z3' := z3
    rw [Bool.and_eq_true, Bool.and_eq_true, decide_eq_true_eq, decide_eq_true_eq, decide_eq_true_eq, List.length_map] at z3'
    obtain ⟨t, ht, hd⟩ := drawn_ware_ok (i / 8)
    have wl := ware_len ht
    have dq : GS (q.1, q.2 ++ [t]) := ⟨hq.1, fun p m => by
     rcases List.mem_append.mp m with m | m
     ·exact hq.2.1 p m
     ·rw [List.mem_singleton] at m; rw [m]; exact ht, by rw [List.length_append]; show q.2.length + 1 ≤ 23; omega⟩
    refine ⟨("put " : Str) ++ wareT t, _, dq, top _ (skip1 (skip2 (seq_if c3 (fun _ => de_t3 d_l_drawn_ware d_l_ware_row gAddS _ _ _ _ _ _ _ _ hd (l_ware_row_ok ht) (addS_ok (by rw [pt_len]; omega)) (lnS (by rw [List.length_map]; omega))) (fun h => by rw [z3] at h; cases h) (fun _ => by rw [List.map_append]; rfl)))), .inr ⟨?_, fun p a => do_putK dq (by omega) ps hl p a⟩⟩
    refine first_ne (w := "put") (r := wareT t) ?_ (by decide +kernel) (by decide +kernel)
    show (("put " : Str) ++ wareT t).cps.toList = _
    rw [app_list, pt_list, List.append_assoc]; rfl
   ·have b1 := sideV_b (i / 8) (10 ^ 42) p42'
    have b2 := sideV_b (i / 8 / 5) (10 ^ 42) p42'
    have n0 := Int.emod_nonneg (i / 8 / 7) (show (2 : Int) ≠ 0 by decide)
    have n1 := Int.emod_lt_of_pos (i / 8 / 7) (show (0 : Int) < 2 by decide)
    have gb : GB (sideV (i / 8) (10 ^ 42) - i / 8 / 7 % 2, sideV (i / 8 / 5) (10 ^ 42)) := ⟨⟨by show 0 ≤ sideV _ _ - _; omega, by show sideV _ _ - _ ≤ _; omega⟩, by show 0 ≤ sideV _ _; omega, b2.2⟩
    have dq : GS ((sideV (i / 8) (10 ^ 42) - i / 8 / 7 % 2, sideV (i / 8 / 5) (10 ^ 42)), q.2) := ⟨gb, hq.2⟩
    have l1 := num_len gb.1.1 gb.1.2
    have l2 := num_len gb.2.1 gb.2.2
    refine ⟨lineB (sideV (i / 8) (10 ^ 42) - i / 8 / 7 % 2, sideV (i / 8 / 5) (10 ^ 42)), _, dq, top _ (skip1 (skip2 (seq_if (d := .non) c3 (fun z => absurd z z3) (fun _ => de_r d_l_side gPow gMod gDiv gAddS gStr1 _ _ _ _ _ _ _ _ _ _ _ _ _ _ _ _ pow42 (side_ok _ _ p42) (gDiv_eq (by decide)) (gMod_eq (by decide)) (gDiv_eq (by decide)) (side_ok _ _ p42) (str1_ok gb.1.1 (e42_43 gb.1.2)) (str1_ok gb.2.1 (e42_43 gb.2.2)) (addS_ok (by rw [bx_len]; simp only at l1; omega)) (addS_ok (by rw [app_len, bx_len, x_len]; simp only at l1; omega)) (addS_ok (by simp only [app_len, bx_len, x_len]; simp only at l1 l2; omega))) (fun z => absurd z z3)))), .inr ⟨first_ne (lineB_list _) (by decide +kernel) (by decide +kernel), fun p a => do_boxK dq ps hl p a⟩⟩
abbrev lbA (DE' CR : List D → Option R1) (DO SE : Addr → D → List D → Option (D × D)) (GE GT : D → D → Option D) : SF := (sSeq (sSetC0 7 DE' (aC (eV 6) (aC (eV 4) aN))) (sSeq (sSetN 8 (nB gCat (eB gIxT (eV 4) (eC (.int 2))) (zN (eL (aC (eT (aC (eB gIxT (eV 4) (eC (.int 0))) (aC (eB gIxT (eV 4) (eC (.int 1))) aN))) aN))))) (sSeq (sIf (bZ (eB GE (eB gIxT (eV 7) (eC (.int 0))) (eC (.str "undo")))) (sSetN 8 (nSl (eB gIxT (eV 4) (eC (.int 2))) oN (oS (eU gNeg (eC (.int 1)))))) sNx) (sSeq (sSet 9 (callK 2 DO (aC (eB gIxT (eV 7) (eC (.int 0))) aN))) (sSeq (sSet 4 (eT (aC (eB gIxT (eV 7) (eC (.int 1))) (aC (eB gIxT (eV 7) (eC (.int 2))) (aC (eV 8) aN))))) (sSeq (sIf (bOr (bNot (bZ (eIsiV 9 "list"))) (bOr (bZ (eBV GT 9 (zN (eL (aC (eCall0 CR (aC (eB gIxT (eV 4) (eC (.int 0))) (aC (eB gIxT (eV 4) (eC (.int 1))) aN))) aN))))) (bNot (bZ (callK 2 SE (aC (eV 4) aN)))))) (sRet (eC (.bl false))) sNx) (sApp 5 (eT (aC (eV 9) (aC (zN (nCV gList 9)) aN))))))))))
abbrev lwE (S S1 : D) (p1 p2 : Addr) (d1 d2 st : D) (held : List D) (o6 o7 o8 o9 o10 : Sl) : DE := [.fz S, .fz S1, .nk p1 d1, .nk p2 d2, .fz st, .ow held, o6, o7, o8, o9, o10]
theorem lb_deed (DE' CR : List D → Option R1) (DO SE : Addr → D → List D → Option (D × D)) (GE GT : D → D → Option D) (S S1 c b w b' w' d1 d1' d2 : D) (p1 p2 : Addr) (qs held : List D) (l s : Str) (o7 o8 o9 : Sl) (ho : (o7 = .no ∧ o8 = .no ∧ o9 = .no) ∨ ∃ x y z, o7 = .fz x ∧ o8 = .fz y ∧ o9 = .fz z)
  (h1 : DE' [c, .tup [b, w, .lst qs]] = some (.ret (.tup [.str l, b', w']))) (h2 : GE (.str l) (.str "undo") = some (.bl false)) (hl : qs.length + 1 ≤ sizeLine) (h3 : DO p1 d1 [.str l] = some (.lst [.str s], d1')) (h4 : CR [b', w'] = some (.ret (.str s))) (h5 : GT (.lst [.str s]) (.lst [.str s]) = some (.bl false)) (h6 : SE p1 d1' [.tup [b', w', .lst (qs ++ [.tup [b, w]])]] = some (.bl true, d1')) (hh : held.length < sizeLine) :
  lbA DE' CR DO SE GE GT (lwE S S1 p1 p2 d1 d2 (.tup [b, w, .lst qs]) held (.fz c) o7 o8 o9 .no) = some (.nx (lwE S S1 p1 p2 d1' d2 (.tup [b', w', .lst (qs ++ [.tup [b, w]])]) (held ++ [.tup [.lst [.str s], .lst [.str s]]]) (.fz c) (.fz (.tup [.str l, b', w'])) (.fz (.lst (qs ++ [.tup [b, w]]))) (.fz (.lst [.str s])) .no)) := by
 unfold lbA lwE
 rcases ho with ⟨rfl, rfl, rfl⟩ | ⟨x, y, z, rfl, rfl, rfl⟩ <;> walk_at "eh"
theorem lb_undo (DE' CR : List D → Option R1) (DO SE : Addr → D → List D → Option (D × D)) (GE GT : D → D → Option D) (S S1 c b w b' w' d1 d1' d2 : D) (p1 p2 : Addr) (qs rs held : List D) (l s : Str) (o7 o8 o9 : Sl) (ho : (o7 = .no ∧ o8 = .no ∧ o9 = .no) ∨ ∃ x y z, o7 = .fz x ∧ o8 = .fz y ∧ o9 = .fz z)
  (h1 : DE' [c, .tup [b, w, .lst qs]] = some (.ret (.tup [.str l, b', w']))) (h2 : GE (.str l) (.str "undo") = some (.bl true)) (hl : qs.length + 1 ≤ sizeLine) (hr : L2.cutD qs none (some (-1)) = rs) (h3 : DO p1 d1 [.str l] = some (.lst [.str s], d1')) (h4 : CR [b', w'] = some (.ret (.str s))) (h5 : GT (.lst [.str s]) (.lst [.str s]) = some (.bl false)) (h6 : SE p1 d1' [.tup [b', w', .lst rs]] = some (.bl true, d1')) (hh : held.length < sizeLine) :
  lbA DE' CR DO SE GE GT (lwE S S1 p1 p2 d1 d2 (.tup [b, w, .lst qs]) held (.fz c) o7 o8 o9 .no) = some (.nx (lwE S S1 p1 p2 d1' d2 (.tup [b', w', .lst rs]) (held ++ [.tup [.lst [.str s], .lst [.str s]]]) (.fz c) (.fz (.tup [.str l, b', w'])) (.fz (.lst rs)) (.fz (.lst [.str s])) .no)) := by
 subst hr
 unfold lbA lwE
 rcases ho with ⟨rfl, rfl, rfl⟩ | ⟨x, y, z, rfl, rfl, rfl⟩ <;> walk_at "eh"
theorem cut_un (ps : List St) (r : St) : L2.cutD ((ps ++ [r]).map stK) none (some (-1)) = ps.map stK := by
 unfold L2.cutD
 rw [HT.sIx_none, List.drop_zero, Nat.sub_zero]
 have hl : ((ps ++ [r]).map stK).length = ps.length + 1 := by rw [List.length_map, List.length_append]; rfl
 have e : HT.sIx ((ps ++ [r]).map stK).length ((ps ++ [r]).map stK).length (some (-1)) = ps.length := by
  have := HT.clip_eq (-1) ((ps ++ [r]).map stK).length ((ps ++ [r]).map stK).length
  rw [hl] at this ⊢
  rw [if_pos (by decide)] at this
  omega
 rw [e, List.map_append]
 exact List.take_left' (by rw [List.length_map])
theorem eqT_one (s : Str) : gEqT true (.lst [.str s]) (.lst [.str s]) = some (.bl false) := gEqT_refl true (by rfl) (by simp [depD, depDs]) rfl
def okH (held : List D) : Prop := ∀ t ∈ held, ∃ s : Str, t = .tup [.lst [.str s], .lst [.str s]]
theorem okH_snoc {held : List D} (h : okH held) (s : Str) : okH (held ++ [.tup [.lst [.str s], .lst [.str s]]]) := fun t m => by
 rcases List.mem_append.mp m with m | m
 ·exact h t m
 ·rw [List.mem_singleton] at m; exact ⟨s, m⟩
abbrev lbK : SF := lbA d_l_deed d_l_case_row d_Desk_do d_l_seen (gEq false) (gEqT true)
theorem lw_loop (S S1 d2 : D) (p1 p2 : Addr) (a : Int) : ∀ (cs : List Int) (q : St) (ps : List St) (held : List D) (o6 o7 o8 o9 : Sl), GS q → (∀ r ∈ ps, GS r) → ps.length + cs.length ≤ 1000 → held.length + cs.length ≤ 1000 → okH held → (o6 = .no ∨ ∃ x, o6 = .fz x) → ((o7 = .no ∧ o8 = .no ∧ o9 = .no) ∨ ∃ x y z, o7 = .fz x ∧ o8 = .fz y ∧ o9 = .fz z) →
  ∃ (q' : St) (ps' : List St) (held' : List D) (u6 u7 u8 u9 : Sl), GS q' ∧ okH held' ∧ held'.length ≤ 1000 ∧ (u9 = .no ∨ ∃ x, u9 = .fz x) ∧ forD (bName 6) lbK (cs.map D.int) (lwE S S1 p1 p2 (dk q ps a) d2 (stD q ps) held o6 o7 o8 o9 .no) = some (.nx (lwE S S1 p1 p2 (dk q' ps' a) d2 (stD q' ps') held' u6 u7 u8 u9 .no))
 | [], q, ps, held, o6, o7, o8, o9, hq, hps, l1, l2, hh, h6, ho => ⟨q, ps, held, o6, o7, o8, o9, hq, hh, (by rw [List.length_nil] at l2; omega), (by rcases ho with ⟨_, _, h⟩ | ⟨_, _, z, _, _, h⟩; exact .inl h; exact .inr ⟨z, h⟩), rfl⟩
 | c :: cs, q, ps, held, o6, o7, o8, o9, hq, hps, l1, l2, hh, h6, ho => by
  rw [List.length_cons] at l1 l2
  obtain ⟨l, q', hq', hd, hk⟩ := deed_ok c hq ps hps (by omega)
  have hn : bName 6 (.int c) (lwE S S1 p1 p2 (dk q ps a) d2 (stD q ps) held o6 o7 o8 o9 .no) = some (lwE S S1 p1 p2 (dk q ps a) d2 (stD q ps) held (.fz (.int c)) o7 o8 o9 .no) := by
   unfold lwE
   rcases h6 with rfl | ⟨x, rfl⟩ <;> walk_at "ev"
  have hsl : held.length < sizeLine := Nat.lt_of_lt_of_le (by omega) (lnS (n := 100000) (Nat.le_refl _))
  have hql : (ps.map stK).length + 1 ≤ sizeLine := lnS (by rw [List.length_map]; omega)
  have cr := case_row_ok hq'.1 hq'.2.1 (Nat.le_trans hq'.2.2 (by decide))
  rw [List.map_cons, forD_step, hn, optR_some]
  rcases hk with ⟨rfl, ps0, rfl⟩ | ⟨hu, hdo⟩
  ·have step := lb_undo d_l_deed d_l_case_row d_Desk_do d_l_seen (gEq false) (gEqT true) S S1 (.int c) _ _ _ _ (dk q (ps0 ++ [q']) a) _ d2 p1 p2 ((ps0 ++ [q']).map stK) (ps0.map stK) held "undo" _ o7 o8 o9 ho hd (gs _ _ _ (by decide +kernel)) hql (cut_un ps0 q') (do_undo hq' ps0 p1 a) cr (eqT_one _) (seen_K hq' ps0 p1 a) hsl
   obtain ⟨q2, ps2, held2, u6, u7, u8, u9, r1, r2, r3, r4, r5⟩ := lw_loop S S1 d2 p1 p2 a cs q' ps0 _ (.fz (.int c)) _ _ _ hq' (fun r m => hps r (by simp [m])) (by rw [List.length_append] at l1; simp only [List.length_cons, List.length_nil] at l1; omega) (by rw [List.length_append]; simp only [List.length_cons, List.length_nil]; omega) (okH_snoc hh (caseT q'.1 q'.2)) (.inr ⟨_, rfl⟩) (.inr ⟨_, _, _, rfl, rfl, rfl⟩)
   refine ⟨q2, ps2, held2, u6, u7, u8, u9, r1, r2, r3, r4, ?_⟩
   rw [show lbK (lwE S S1 p1 p2 (dk q (ps0 ++ [q']) a) d2 (stD q (ps0 ++ [q'])) held (.fz (.int c)) o7 o8 o9 .no) = _ from step, forK_nx]
   exact r5
  ·have es : stD q' (ps ++ [q]) = .tup [boxD q'.1, .lst (q'.2.map wrD), .lst (ps.map stK ++ [.tup [boxD q.1, .lst (q.2.map wrD)]])] := by unfold stD; rw [List.map_append]; rfl
   have sk := seen_K hq' (ps ++ [q]) p1 a
   rw [es] at sk
   have step := lb_deed d_l_deed d_l_case_row d_Desk_do d_l_seen (gEq false) (gEqT true) S S1 (.int c) _ _ _ _ (dk q ps a) _ d2 p1 p2 (ps.map stK) held l _ o7 o8 o9 ho hd (gs _ _ _ hu) hql (hdo p1 a) cr (eqT_one _) sk hsl
   obtain ⟨q2, ps2, held2, u6, u7, u8, u9, r1, r2, r3, r4, r5⟩ := lw_loop S S1 d2 p1 p2 a cs q' (ps ++ [q]) _ (.fz (.int c)) _ _ _ hq' (fun r m => by
    rcases List.mem_append.mp m with m | m
    ·exact hps r m
    ·rw [List.mem_singleton] at m; rw [m]; exact hq) (by rw [List.length_append]; simp only [List.length_cons, List.length_nil]; omega) (by rw [List.length_append]; simp only [List.length_cons, List.length_nil]; omega) (okH_snoc hh (caseT q'.1 q'.2)) (.inr ⟨_, rfl⟩) (.inr ⟨_, _, _, rfl, rfl, rfl⟩)
   refine ⟨q2, ps2, held2, u6, u7, u8, u9, r1, r2, r3, r4, ?_⟩
   rw [es] at r5
   rw [show lbK (lwE S S1 p1 p2 (dk q ps a) d2 (stD q ps) held (.fz (.int c)) o7 o8 o9 .no) = _ from step, forK_nx]
   exact r5
abbrev hbA (GT : D → D → Option D) : SF := (sIf (bZ (eBVV GT 9 10)) (sRet (eC (.bl false))) sNx)
abbrev hbE (S S1 : D) (p1 p2 : Addr) (d1 d2 st : D) (held : List D) (o6 o7 o8 o9 o10 : Sl) : DE := [.fz S, .fz S1, .nk p1 d1, .nk p2 d2, .fz st, .hd held, o6, o7, o8, o9, o10]
theorem hb_step (GT : D → D → Option D) (S S1 d1 d2 st x : D) (p1 p2 : Addr) (held : List D) (o6 o7 o8 : Sl) (h : GT x x = some (.bl false)) : hbA GT (hbE S S1 p1 p2 d1 d2 st held o6 o7 o8 (.fz x) (.fz x)) = some (.nx (hbE S S1 p1 p2 d1 d2 st held o6 o7 o8 (.fz x) (.fz x))) := by
 unfold hbA hbE; walk_at "eh"
theorem hb_loop (S S1 d1 d2 st : D) (p1 p2 : Addr) (held : List D) (o6 o7 o8 : Sl) : ∀ (ts : List D) (o9 o10 : Sl), okH ts → (o9 = .no ∨ ∃ x, o9 = .fz x) → (o10 = .no ∨ ∃ x, o10 = .fz x) → ∃ u9 u10, forD (bTup [(bName 9), (bName 10)]) (hbA (gEqT true)) ts (hbE S S1 p1 p2 d1 d2 st held o6 o7 o8 o9 o10) = some (.nx (hbE S S1 p1 p2 d1 d2 st held o6 o7 o8 u9 u10))
 | [], o9, o10, _, _, _ => ⟨o9, o10, rfl⟩
 | t :: ts, o9, o10, h, h9, h10 => by
  obtain ⟨s, rfl⟩ := h t List.mem_cons_self
  obtain ⟨u9, u10, r⟩ := hb_loop S S1 d1 d2 st p1 p2 held o6 o7 o8 ts (.fz (.lst [.str s])) (.fz (.lst [.str s])) (fun t m => h t (List.mem_cons_of_mem _ m)) (.inr ⟨_, rfl⟩) (.inr ⟨_, rfl⟩)
  refine ⟨u9, u10, ?_⟩
  have hn : bTup [(bName 9), (bName 10)] (.tup [.lst [.str s], .lst [.str s]]) (hbE S S1 p1 p2 d1 d2 st held o6 o7 o8 o9 o10) = some (hbE S S1 p1 p2 d1 d2 st held o6 o7 o8 (.fz (.lst [.str s])) (.fz (.lst [.str s]))) := by
   unfold hbE
   rcases h9 with rfl | ⟨x, rfl⟩ <;> rcases h10 with rfl | ⟨y, rfl⟩ <;> walk_at "ev"
  rw [forD_step, hn, optR_some, hb_step (gEqT true) _ _ _ _ _ _ _ _ _ _ _ _ (eqT_one s), forK_nx]
  exact r
theorem ret_run (SE : Addr → D → List D → Option (D × D)) (S b w st d1 d2 : D) (p1 p2 : Addr) (held : List D) (o6 o7 o8 o9 o10 : Sl) (h1 : SE p1 d1 [st] = some (.bl true, d1)) (h2 : SE p2 d2 [.tup [b, w, .lst []]] = some (.bl true, d2)) : (sRet (eAnd (callK 2 SE (aC (eV 4) aN)) (callK 3 SE (aC (eT (aC (eB gIxT (eV 1) (eC (.int 0))) (aC (eB gIxT (eV 1) (eC (.int 1))) (aC (zN (eL aN)) aN)))) aN)))) (lwE S (.tup [b, w]) p1 p2 d1 d2 st held o6 o7 o8 o9 o10) = some (.rt (.bl true)) := by
 unfold lwE; walk_at "eh"
theorem for_eq {f : ZF} {b : GF} {body : SF} {e e1 : DE} {d : D} {ds : List D} (h : f e = some (.ok d e1)) (hs : seqL d = some ds) : sFor f b body e = forD b body ds e1 := by
 unfold sFor; rw [h]
 show (match seqL d with | none => none | some ds => forD b body ds e1) = _
 rw [hs]
theorem sl_scr (ns : List Int) (e1 e2 e3 e4 e5 e6 e7 e8 e9 e10 : Sl) : (zN (nSlV 0 (oS (eC (.int 1))) (oS (eC (.int 61))))) [.fz (.scr ns), e1, e2, e3, e4, e5, e6, e7, e8, e9, e10] = some (.ok (.lst (L2.cutD (ns.map .int) (some 1) (some 61))) [.fz (.scr ns), e1, e2, e3, e4, e5, e6, e7, e8, e9, e10]) := by
 walk_at "ev"
theorem cut_ns (ns : List Int) : ∃ cs : List Int, L2.cutD (ns.map D.int) (some 1) (some 61) = cs.map D.int ∧ cs.length ≤ ns.length := by
 unfold L2.cutD
 exact ⟨(ns.drop (HT.sIx (ns.map D.int).length 0 (some 1))).take (HT.sIx (ns.map D.int).length (ns.map D.int).length (some 61) - HT.sIx (ns.map D.int).length 0 (some 1)), by rw [List.map_take, List.map_drop], by rw [List.length_take, List.length_drop]; omega⟩
theorem pre_run (K : SF) (S b w d1 d2 : D) (p1 p2 : Addr) : (sSeq (sSet 4 (eT (aC (eB gIxT (eV 1) (eC (.int 0))) (aC (eB gIxT (eV 1) (eC (.int 1))) (aC (zN (eL aN)) aN))))) (sSeq (sSetN 5 (eL aN)) K)) [.fz S, .fz (.tup [b, w]), .nk p1 d1, .nk p2 d2, .no, .no, .no, .no, .no, .no, .no] = K (lwE S (.tup [b, w]) p1 p2 d1 d2 (.tup [b, w, .lst []]) [] .no .no .no .no .no) := by
 unfold lwE; walk_at "ev"
theorem rest_ok (ns : List Int) (hns : ns.length ≤ 63) {q : St} (hq : GS q) (a1 a2 : Int) (p1 p2 : Addr) : (sSeq (sSet 4 (eT (aC (eB gIxT (eV 1) (eC (.int 0))) (aC (eB gIxT (eV 1) (eC (.int 1))) (aC (zN (eL aN)) aN))))) (sSeq (sSetN 5 (eL aN)) (sSeq (sFor (zN (nSlV 0 (oS (eC (.int 1))) (oS (eC (.int 61))))) (bName 6) lbK) (sSeq (sForV 5 (bTup [(bName 9), (bName 10)]) (hbA (gEqT true))) (sRet (eAnd (callK 2 d_l_seen (aC (eV 4) aN)) (callK 3 d_l_seen (aC (eT (aC (eB gIxT (eV 1) (eC (.int 0))) (aC (eB gIxT (eV 1) (eC (.int 1))) (aC (zN (eL aN)) aN)))) aN)))))))) [.fz (.scr ns), .fz (stK q), .nk p1 (dk q [] a1), .nk p2 (dk q [] a2), .no, .no, .no, .no, .no, .no, .no] = some (.rt (.bl true)) := by
 obtain ⟨cs, ec, lc⟩ := cut_ns ns
 obtain ⟨q', ps', held', u6, u7, u8, u9, r1, r2, r3, r4, r5⟩ := lw_loop (.scr ns) (stK q) (dk q [] a2) p1 p2 a1 cs q [] [] .no .no .no .no hq (fun r m => by cases m) (by rw [List.length_nil]; omega) (by rw [List.length_nil]; omega) (fun t m => by cases m) (.inl rfl) (.inl ⟨rfl, rfl, rfl⟩)
 obtain ⟨v9, v10, h1⟩ := hb_loop (.scr ns) (stK q) (dk q' ps' a1) (dk q [] a2) (stD q' ps') p1 p2 held' u6 u7 u8 held' u9 .no r2 r4 (.inl rfl)
 refine (pre_run _ (.scr ns) (boxD q.1) (.lst (q.2.map wrD)) (dk q [] a1) (dk q [] a2) p1 p2).trans ?_
 have f1 : sFor (zN (nSlV 0 (oS (eC (.int 1))) (oS (eC (.int 61))))) (bName 6) lbK (lwE (.scr ns) (stK q) p1 p2 (dk q [] a1) (dk q [] a2) (stD q []) [] .no .no .no .no .no) = some (.nx (lwE (.scr ns) (stK q) p1 p2 (dk q' ps' a1) (dk q [] a2) (stD q' ps') held' u6 u7 u8 u9 .no)) := by
  rw [for_eq (sl_scr ns _ _ _ _ _ _ _ _ _ _) (ds := cs.map D.int) (by rw [ec]; rfl)]
  exact r5
 have f2 : sForV 5 (bTup [(bName 9), (bName 10)]) (hbA (gEqT true)) (lwE (.scr ns) (stK q) p1 p2 (dk q' ps' a1) (dk q [] a2) (stD q' ps') held' u6 u7 u8 u9 .no) = some (.nx (lwE (.scr ns) (stK q) p1 p2 (dk q' ps' a1) (dk q [] a2) (stD q' ps') held' u6 u7 u8 v9 v10)) := by
  show unhide 5 held' (forD (bTup [(bName 9), (bName 10)]) (hbA (gEqT true)) held' (hbE (.scr ns) (stK q) p1 p2 (dk q' ps' a1) (dk q [] a2) (stD q' ps') held' u6 u7 u8 u9 .no)) = _
  rw [h1]; rfl
 have f3 := ret_run d_l_seen (.scr ns) (boxD q.1) (.lst (q.2.map wrD)) (stD q' ps') (dk q' ps' a1) (dk q [] a2) p1 p2 held' u6 u7 u8 v9 v10 (seen_K r1 ps' p1 a1) (seen_K hq [] p2 a2)
 have s1 : ∀ {A B : SF} {e e1 : DE} {o : Option RS}, A e = some (.nx e1) → B e1 = o → sSeq A B e = o := fun {A B e e1 o} ha hb => by rw [sSeq_eq, ha, seqR_nx]; exact hb
 exact s1 f1 (s1 f2 f3)
theorem set_run (ST : List D → Option R1) (K : SF) (S v : D) (h : ST [S] = some (.ret v)) : (sSeq (sSetC0 1 ST (aC (eV 0) aN)) K) [.fz S, .no, .no, .no, .no, .no, .no, .no, .no, .no, .no] = K [.fz S, .fz v, .no, .no, .no, .no, .no, .no, .no, .no, .no] := by
 walk_at "eh"
theorem main (ns : List Int) (hns : ns.length ≤ 63) (hb : ∀ m ∈ ns, Builtin.Int.intBits m ≤ 2 ^ 20) : d_law [.scr ns] = some (.ret (.bl true)) := by
 obtain ⟨q, hq, hs, h0⟩ := start_ok ns
 have bk := begun_ok ns hq h0
 have key : b_law [.fz (.scr ns), .no, .no, .no, .no, .no, .no, .no, .no, .no, .no] = some (.rt (.bl true)) := by
  refine (set_run d_l_start _ (.scr ns) (stK q) hs).trans ?_
  have new1 : ∀ (i : Nat) (k : SF) (e : DE), (aC (eV 0) (aC (eV 1) aN)) e = some (.ok [.scr ns, stK q] e) → e[i]? = some .no → (∀ a p, k (e.set i (.nk p (dk q [] (a : Addr)))) = some (.rt (.bl true))) → sNewDk i d_l_begun (aC (eV 0) (aC (eV 1) aN)) k e = some (.rt (.bl true)) := fun i k e h1 h2 h3 => by
   unfold sNewDk
   rw [h1]
   show (match e[i]?, d_l_begun [.scr ns, stK q] with
    | some .no, some (x, y) => oneR fun a p => k (e.set i (.nk p (.tup [x, y, .lst [], .int (a : Int)])))
    | _, _ => none) = _
   rw [h2, bk]
   exact oneR_eq h3
  refine new1 2 _ _ rfl rfl fun a1 p1 => ?_
  refine new1 3 _ _ rfl rfl fun a2 p2 => ?_
  exact rest_ok ns hns hq a1 a2 p1 p2
 exact (congrArg finR key).trans rfl
def sp_law (K : PySem.W.Frag) (c : Str → Addr) : Sp := fun vs H Q _ => ∃ a, ∃ ns : List Int, vs = [.ref a] ∧ Scr K H a (ns.map V.int) ∧ (∀ m ∈ ns, Builtin.Int.intBits m ≤ 2 ^ 20) ∧ ns.length ≤ 63 ∧ ∀ H', Q (.bl true) H'
theorem ok_law {f : Addr} {fd : FuncData} (F : Fun K "law" "law" s_law f fd) (T : Txt K mg c) (G_l_start : Own P w K mg base 7 "_law_start" ["_law_script"] (spD K c d_l_start)) (G_l_begun : Own P w K mg base 15 "_law_begun" ["_law_script", "_law_start_here"] (spKN K c d_l_begun)) (G_l_deed : Own P w K mg base 7 "_law_deed" ["_law_cell_here", "_law_state"] (spD K c d_l_deed)) (G_l_seen : Own P w K mg base 9 "_law_seen" ["_law_desk", "_law_state"] (spK K c d_l_seen)) (G_l_case_row : Own P w K mg base 5 "_law_case_row" ["_law_box", "_law_wares"] (spD K c d_l_case_row)) (OM_Desk_do : OwnM P w K mg base 13 (c "Desk") "do" ["self", "line"] (spK K c d_Desk_do)) : FnOk P w K mg base (CXe P w) 17 f fd ["_law_script"] (sp_law K c) :=
 (ok_law0 F T G_l_start G_l_begun G_l_deed G_l_seen G_l_case_row OM_Desk_do).imp fun vs H Q E ⟨a, ns, e, h, hb, hl, q⟩ => spD_law e h q (main ns hl hb)
def cOf (l : List (Str × Addr)) (x : Str) : Addr := (l.lookup x).getD 0
set_option autoImplicit true in
abbrev cL (c0 c1 c2 c3 c4 c5 c6 c7 c8 c9 c10 c11 c12 c13 c14 c15 c16 : Addr) := cOf [("BadSide", c0), ("BestShelver", c1), ("Desk", c2), ("FirstShelver", c3), ("Floors", c4), ("Full", c5), ("Heavy", c6), ("Matched", c7), ("Nested", c8), ("NoDeed", c9), ("NoText", c10), ("NoWare", c11), ("NothingDone", c12), ("Parts", c13), ("Shelver", c14), ("Way", c15), ("Weighing", c16)]
theorem all_mk {w : World} {K : PySem.W.Frag} {h : Heap} {mg : Str → Option Value} {fa : Addr} (X : K.In h) (G : h.Ns mainGlobals mg) (hfa : mg "law" = some (.ref fa))
  (y_is_whole : Fxd K "is_whole" s_is_whole)
  (y_check_side : Fxd K "check_side" s_check_side)
  (y_is_number_of : Fxd K "is_number_of" s_is_number_of)
  (a_made_ware : PySem.W.nsIn K mainGlobals "made_ware" = some (some (.ref f_made_ware)))
  (l_made_ware : K.lookup f_made_ware = some ⟨oc_made_ware, od_made_ware, .func (PySem.W.fnOf "made_ware" "made_ware" (defArgs s_made_ware) (defBody s_made_ware) (defScope s_made_ware) (.ref dT_made_ware) kV_made_ware dc_made_ware pm_made_ware an_made_ware cd_made_ware ct_made_ware), sl_made_ware⟩)
  (df_made_ware : K.lookup dT_made_ware = some ⟨doc_made_ware, dod_made_ware, .seq [.bool false].toArray dn_made_ware, dsl_made_ware⟩)
  (c_made_ware : PySem.W.codeIn K cd_made_ware "made_ware" = true)
  (k_made_ware : PySem.W.keepIn K (.ref f_made_ware) = true)
  (y_made_box : Fxd K "made_box" s_made_box)
  (y_shown_ware : Fxd K "shown_ware" s_shown_ware)
  (y_shown_case : Fxd K "shown_case" s_shown_case)
  (y_read_number : Fxd K "read_number" s_read_number)
  (y_read_sides : Fxd K "read_sides" s_read_sides)
  (y_read_ware : Fxd K "read_ware" s_read_ware)
  (y_read_box : Fxd K "read_box" s_read_box)
  (y_read_case : Fxd K "read_case" s_read_case)
  (y_read_rest : Fxd K "read_rest" s_read_rest)
  (y_l_cell : Fxd K "_law_cell" s_l_cell)
  (y_l_whole : Fxd K "_law_whole" s_l_whole)
  (y_l_ware_row : Fxd K "_law_ware_row" s_l_ware_row)
  (y_l_case_row : Fxd K "_law_case_row" s_l_case_row)
  (y_l_side : Fxd K "_law_side" s_l_side)
  (y_l_drawn_ware : Fxd K "_law_drawn_ware" s_l_drawn_ware)
  (y_l_start : Fxd K "_law_start" s_l_start)
  (a_Desk___init__ : PySem.W.findIn K (.ref c2) "__init__" = some (some (.ref f_Desk___init__)))
  (i_Desk___init__ : PySem.W.isFn K (.ref f_Desk___init__) = true)
  (l_Desk___init__ : K.lookup f_Desk___init__ = some ⟨oc_Desk___init__, od_Desk___init__, .func (PySem.W.fnOf "__init__" "Desk.__init__" (defArgs s_Desk___init__) (defBody s_Desk___init__) (defScope s_Desk___init__) (.ref dT_Desk___init__) kV_Desk___init__ dc_Desk___init__ pm_Desk___init__ an_Desk___init__ cd_Desk___init__ ct_Desk___init__), sl_Desk___init__⟩)
  (df_Desk___init__ : K.lookup dT_Desk___init__ = some ⟨doc_Desk___init__, dod_Desk___init__, .seq [.str "10x10:" dtok_Desk___init__].toArray dn_Desk___init__, dsl_Desk___init__⟩)
  (c_Desk___init__ : PySem.W.codeIn K cd_Desk___init__ "Desk.__init__" = true)
  (k_Desk___init__ : PySem.W.keepIn K (.ref f_Desk___init__) = true)
  (y_l_begun : Fxd K "_law_begun" s_l_begun)
  (y_l_deed : Fxd K "_law_deed" s_l_deed)
  (a_0 : PySem.W.findIn K (.ref c2) "steps" = some (some (.ref f_0)))
  (i_Desk_steps : PySem.W.isFn K (.ref f_0) = true)
  (l_0 : K.lookup f_0 = some ⟨oc_0, od_0, .func (PySem.W.fnOf "steps" "Desk.steps" (defArgs s_Desk_steps) (defBody s_Desk_steps) (defScope s_Desk_steps) .none kV_0 dc_0 pm_0 an_0 cd_0 ct_0), sl_0⟩)
  (c_0 : PySem.W.codeIn K cd_0 "Desk.steps" = true)
  (k_0 : PySem.W.keepIn K (.ref f_0) = true)
  (a_1 : PySem.W.findIn K (.ref c2) "case" = some (some (.ref f_1)))
  (i_Desk_case : PySem.W.isFn K (.ref f_1) = true)
  (l_1 : K.lookup f_1 = some ⟨oc_1, od_1, .func (PySem.W.fnOf "case" "Desk.case" (defArgs s_Desk_case) (defBody s_Desk_case) (defScope s_Desk_case) .none kV_1 dc_1 pm_1 an_1 cd_1 ct_1), sl_1⟩)
  (c_1 : PySem.W.codeIn K cd_1 "Desk.case" = true)
  (k_1 : PySem.W.keepIn K (.ref f_1) = true)
  (y_l_seen : Fxd K "_law_seen" s_l_seen)
  (a_2 : PySem.W.findIn K (.ref c2) "changed" = some (some (.ref f_2)))
  (i_Desk_changed : PySem.W.isFn K (.ref f_2) = true)
  (l_2 : K.lookup f_2 = some ⟨oc_2, od_2, .func (PySem.W.fnOf "changed" "Desk.changed" (defArgs s_Desk_changed) (defBody s_Desk_changed) (defScope s_Desk_changed) .none kV_2 dc_2 pm_2 an_2 cd_2 ct_2), sl_2⟩)
  (c_2 : PySem.W.codeIn K cd_2 "Desk.changed" = true)
  (k_2 : PySem.W.keepIn K (.ref f_2) = true)
  (a_3 : PySem.W.findIn K (.ref c2) "done" = some (some (.ref f_3)))
  (i_Desk_done : PySem.W.isFn K (.ref f_3) = true)
  (l_3 : K.lookup f_3 = some ⟨oc_3, od_3, .func (PySem.W.fnOf "done" "Desk.done" (defArgs s_Desk_done) (defBody s_Desk_done) (defScope s_Desk_done) .none kV_3 dc_3 pm_3 an_3 cd_3 ct_3), sl_3⟩)
  (c_3 : PySem.W.codeIn K cd_3 "Desk.done" = true)
  (k_3 : PySem.W.keepIn K (.ref f_3) = true)
  (a_4 : PySem.W.findIn K (.ref c2) "undone" = some (some (.ref f_4)))
  (i_Desk_undone : PySem.W.isFn K (.ref f_4) = true)
  (l_4 : K.lookup f_4 = some ⟨oc_4, od_4, .func (PySem.W.fnOf "undone" "Desk.undone" (defArgs s_Desk_undone) (defBody s_Desk_undone) (defScope s_Desk_undone) .none kV_4 dc_4 pm_4 an_4 cd_4 ct_4), sl_4⟩)
  (c_4 : PySem.W.codeIn K cd_4 "Desk.undone" = true)
  (k_4 : PySem.W.keepIn K (.ref f_4) = true)
  (a_5 : PySem.W.findIn K (.ref c2) "do" = some (some (.ref f_5)))
  (i_Desk_do : PySem.W.isFn K (.ref f_5) = true)
  (l_5 : K.lookup f_5 = some ⟨oc_5, od_5, .func (PySem.W.fnOf "do" "Desk.do" (defArgs s_Desk_do) (defBody s_Desk_do) (defScope s_Desk_do) .none kV_5 dc_5 pm_5 an_5 cd_5 ct_5), sl_5⟩)
  (c_5 : PySem.W.codeIn K cd_5 "Desk.do" = true)
  (k_5 : PySem.W.keepIn K (.ref f_5) = true)
  (a_6 : PySem.W.nsIn K mainGlobals "law" = some (some (.ref f_6)))
  (l_6 : K.lookup f_6 = some ⟨oc_6, od_6, .func (PySem.W.fnOf "law" "law" (defArgs s_law) (defBody s_law) (defScope s_law) .none kV_6 dc_6 pm_6 an_6 cd_6 ct_6), sl_6⟩)
  (c_6 : PySem.W.codeIn K cd_6 "law" = true)
  (k_6 : PySem.W.keepIn K (.ref f_6) = true)
  (mk_Desk : PySem.W.makesIn K c2 = true)
  (kc_Desk : PySem.W.keepIn K (.ref c2) = true)
  (z_any : PySem.W.nsIn K mainGlobals "any" = some none)
  (z_bool : PySem.W.nsIn K mainGlobals "bool" = some none)
  (z_int : PySem.W.nsIn K mainGlobals "int" = some none)
  (z_isinstance : PySem.W.nsIn K mainGlobals "isinstance" = some none)
  (z_len : PySem.W.nsIn K mainGlobals "len" = some none)
  (z_list : PySem.W.nsIn K mainGlobals "list" = some none)
  (z_range : PySem.W.nsIn K mainGlobals "range" = some none)
  (z_str : PySem.W.nsIn K mainGlobals "str" = some none)
  (m_BadSide : PySem.W.nsIn K mainGlobals "BadSide" = some (some (.ref c0)))
  (m_BestShelver : PySem.W.nsIn K mainGlobals "BestShelver" = some (some (.ref c1)))
  (m_Desk : PySem.W.nsIn K mainGlobals "Desk" = some (some (.ref c2)))
  (m_FirstShelver : PySem.W.nsIn K mainGlobals "FirstShelver" = some (some (.ref c3)))
  (m_Floors : PySem.W.nsIn K mainGlobals "Floors" = some (some (.ref c4)))
  (m_Full : PySem.W.nsIn K mainGlobals "Full" = some (some (.ref c5)))
  (m_Heavy : PySem.W.nsIn K mainGlobals "Heavy" = some (some (.ref c6)))
  (m_Matched : PySem.W.nsIn K mainGlobals "Matched" = some (some (.ref c7)))
  (m_Nested : PySem.W.nsIn K mainGlobals "Nested" = some (some (.ref c8)))
  (m_NoDeed : PySem.W.nsIn K mainGlobals "NoDeed" = some (some (.ref c9)))
  (m_NoText : PySem.W.nsIn K mainGlobals "NoText" = some (some (.ref c10)))
  (m_NoWare : PySem.W.nsIn K mainGlobals "NoWare" = some (some (.ref c11)))
  (m_NothingDone : PySem.W.nsIn K mainGlobals "NothingDone" = some (some (.ref c12)))
  (m_Parts : PySem.W.nsIn K mainGlobals "Parts" = some (some (.ref c13)))
  (m_Shelver : PySem.W.nsIn K mainGlobals "Shelver" = some (some (.ref c14)))
  (m_Way : PySem.W.nsIn K mainGlobals "Way" = some (some (.ref c15)))
  (m_Weighing : PySem.W.nsIn K mainGlobals "Weighing" = some (some (.ref c16)))
  (x_BadSide : PySem.W.excIn K c0 vErr "ValueError.__new__" = true)
  (x_NoDeed : PySem.W.excIn K c9 vErr "ValueError.__new__" = true)
  (x_NoText : PySem.W.excIn K c10 vErr "ValueError.__new__" = true)
  (g_FIGURES : PySem.W.nsIn K mainGlobals "FIGURES" = some (some (.str "0123456789" kt_FIGURES)))
  (g_MOST_FIGURES_desk : PySem.W.nsIn K mainGlobals "MOST_FIGURES_desk" = some (some (.int 6 kt_MOST_FIGURES_desk)))
  (g_MOST_FIGURES_texts : PySem.W.nsIn K mainGlobals "MOST_FIGURES_texts" = some (some (.int 43 kt_MOST_FIGURES_texts)))
  (g_MOST_WARES_desk : PySem.W.nsIn K mainGlobals "MOST_WARES_desk" = some (some (.int 20 kt_MOST_WARES_desk)))
  (t_exo_BadSide_BadSide : PySem.W.exmOne K (.ref c0) (.ref c0) = some true)
  (t_exo_BadSide_NoText : PySem.W.exmOne K (.ref c0) (.ref c10) = some false)
  (t_exo_Full_BadSide : PySem.W.exmOne K (.ref c5) (.ref c0) = some false)
  (t_exo_Full_NoText : PySem.W.exmOne K (.ref c5) (.ref c10) = some false)
  (t_exo_NoDeed_BadSide : PySem.W.exmOne K (.ref c9) (.ref c0) = some false)
  (t_exo_NoDeed_NoText : PySem.W.exmOne K (.ref c9) (.ref c10) = some false)
  (t_exo_NoText_BadSide : PySem.W.exmOne K (.ref c10) (.ref c0) = some false)
  (t_exo_NoText_NoText : PySem.W.exmOne K (.ref c10) (.ref c10) = some true)
  (t_exo_NoWare_BadSide : PySem.W.exmOne K (.ref c11) (.ref c0) = some false)
  (t_exo_NoWare_NoText : PySem.W.exmOne K (.ref c11) (.ref c10) = some false)
  (t_exo_NothingDone_BadSide : PySem.W.exmOne K (.ref c12) (.ref c0) = some false)
  (t_exo_NothingDone_NoText : PySem.W.exmOne K (.ref c12) (.ref c10) = some false)
  (cl_Weighing1 : PySem.W.plainGet K c16 Str.empty = true)
  (cl_Weighing2 : PySem.W.hasDictIn K c16 = true)
  (cl_Weighing3 : PySem.W.plainOver K c16 = true)
  (cl_Weighing4 : PySem.W.findIn K (.ref c16) "__setattr__" = some (some (.builtin "object.__setattr__")))
  (n_Weighing_side : PySem.W.findIn K (.ref c16) "side" = some none)
  (cl_Floors1 : PySem.W.plainGet K c4 Str.empty = true)
  (cl_Floors2 : PySem.W.hasDictIn K c4 = true)
  (cl_Floors3 : PySem.W.plainOver K c4 = true)
  (cl_Floors4 : PySem.W.findIn K (.ref c4) "__setattr__" = some (some (.builtin "object.__setattr__")))
  (n_Floors_side : PySem.W.findIn K (.ref c4) "side" = some none)
  (n_Floors_step : PySem.W.findIn K (.ref c4) "step" = some none)
  (cl_Heavy1 : PySem.W.plainGet K c6 Str.empty = true)
  (cl_Heavy2 : PySem.W.hasDictIn K c6 = true)
  (cl_Heavy3 : PySem.W.plainOver K c6 = true)
  (cl_Heavy4 : PySem.W.findIn K (.ref c6) "__setattr__" = some (some (.builtin "object.__setattr__")))
  (n_Heavy_side : PySem.W.findIn K (.ref c6) "side" = some none)
  (n_Heavy_step : PySem.W.findIn K (.ref c6) "step" = some none)
  (cl_Parts1 : PySem.W.plainGet K c13 Str.empty = true)
  (cl_Parts2 : PySem.W.hasDictIn K c13 = true)
  (cl_Parts3 : PySem.W.plainOver K c13 = true)
  (cl_Parts4 : PySem.W.findIn K (.ref c13) "__setattr__" = some (some (.builtin "object.__setattr__")))
  (n_Parts_side : PySem.W.findIn K (.ref c13) "side" = some none)
  (n_Parts_step : PySem.W.findIn K (.ref c13) "step" = some none)
  (cl_Matched1 : PySem.W.plainGet K c7 Str.empty = true)
  (cl_Matched2 : PySem.W.hasDictIn K c7 = true)
  (cl_Matched3 : PySem.W.plainOver K c7 = true)
  (cl_Matched4 : PySem.W.findIn K (.ref c7) "__setattr__" = some (some (.builtin "object.__setattr__")))
  (n_Matched_side : PySem.W.findIn K (.ref c7) "side" = some none)
  (n_Matched_step : PySem.W.findIn K (.ref c7) "step" = some none)
  (cl_Nested1 : PySem.W.plainGet K c8 Str.empty = true)
  (cl_Nested2 : PySem.W.hasDictIn K c8 = true)
  (cl_Nested3 : PySem.W.plainOver K c8 = true)
  (cl_Nested4 : PySem.W.findIn K (.ref c8) "__setattr__" = some (some (.builtin "object.__setattr__")))
  (n_Nested_side : PySem.W.findIn K (.ref c8) "side" = some none)
  (n_Nested_inner : PySem.W.findIn K (.ref c8) "inner" = some none)
  (n_Nested_outer : PySem.W.findIn K (.ref c8) "outer" = some none)
  (cl_Way1 : PySem.W.plainGet K c15 Str.empty = true)
  (cl_Way2 : PySem.W.hasDictIn K c15 = true)
  (cl_Way3 : PySem.W.plainOver K c15 = true)
  (cl_Way4 : PySem.W.findIn K (.ref c15) "__setattr__" = some (some (.builtin "object.__setattr__")))
  (n_Way_lies : PySem.W.findIn K (.ref c15) "lies" = some none)
  (n_Way_across : PySem.W.findIn K (.ref c15) "across" = some none)
  (n_Way_up : PySem.W.findIn K (.ref c15) "up" = some none)
  (cl_Shelver1 : PySem.W.plainGet K c14 Str.empty = true)
  (cl_Shelver2 : PySem.W.hasDictIn K c14 = true)
  (cl_Shelver3 : PySem.W.plainOver K c14 = true)
  (cl_Shelver4 : PySem.W.findIn K (.ref c14) "__setattr__" = some (some (.builtin "object.__setattr__")))
  (cl_FirstShelver1 : PySem.W.plainGet K c3 Str.empty = true)
  (cl_FirstShelver2 : PySem.W.hasDictIn K c3 = true)
  (cl_FirstShelver3 : PySem.W.plainOver K c3 = true)
  (cl_FirstShelver4 : PySem.W.findIn K (.ref c3) "__setattr__" = some (some (.builtin "object.__setattr__")))
  (cl_BestShelver1 : PySem.W.plainGet K c1 Str.empty = true)
  (cl_BestShelver2 : PySem.W.hasDictIn K c1 = true)
  (cl_BestShelver3 : PySem.W.plainOver K c1 = true)
  (cl_BestShelver4 : PySem.W.findIn K (.ref c1) "__setattr__" = some (some (.builtin "object.__setattr__")))
  (cl_Desk1 : PySem.W.plainGet K c2 Str.empty = true)
  (cl_Desk2 : PySem.W.hasDictIn K c2 = true)
  (cl_Desk3 : PySem.W.plainOver K c2 = true)
  (cl_Desk4 : PySem.W.findIn K (.ref c2) "__setattr__" = some (some (.builtin "object.__setattr__")))
  (n_Desk_box : PySem.W.findIn K (.ref c2) "box" = some none)
  (n_Desk_wares : PySem.W.findIn K (.ref c2) "wares" = some none)
  (n_Desk_past : PySem.W.findIn K (.ref c2) "past" = some none)
  : ∃ fd : FuncData, (∀ (s : Shared) (v : Value), BindsTo s fd ⟨[v], []⟩ [("_law_script", v)]) ∧ ∃ c : Str → Addr, ∀ base : Heap, K.In base → base.Ns mainGlobals mg → FnOk (PySem.Challenge.rw_cratefit_k76_deeds_at_the_desk).prog w K mg base (CXe (PySem.Challenge.rw_cratefit_k76_deeds_at_the_desk).prog w) 17 fa fd ["_law_script"] (sp_law K c) := by
 have e := hfa.symm.trans (PySem.W.mg_of X G a_6)
 cases e
 have T : Txt K mg (cL c0 c1 c2 c3 c4 c5 c6 c7 c8 c9 c10 c11 c12 c13 c14 c15 c16) := ⟨PySem.W.mg_none_of X G z_any, PySem.W.mg_none_of X G z_bool, PySem.W.mg_none_of X G z_int, PySem.W.mg_none_of X G z_isinstance, PySem.W.mg_none_of X G z_len, PySem.W.mg_none_of X G z_list, PySem.W.mg_none_of X G z_range, PySem.W.mg_none_of X G z_str, PySem.W.mg_of X G m_BadSide, PySem.W.mg_of X G m_NoDeed, PySem.W.mg_of X G m_NoText, x_BadSide, x_NoDeed, x_NoText, ⟨_, PySem.W.mg_of X G g_FIGURES, ⟨_, rfl⟩⟩, ⟨_, PySem.W.mg_of X G g_MOST_FIGURES_desk, ⟨_, rfl⟩⟩, ⟨_, PySem.W.mg_of X G g_MOST_FIGURES_texts, ⟨_, rfl⟩⟩, ⟨_, PySem.W.mg_of X G g_MOST_WARES_desk, ⟨_, rfl⟩⟩, t_exo_BadSide_BadSide, t_exo_BadSide_NoText, t_exo_Full_BadSide, t_exo_Full_NoText, t_exo_NoDeed_BadSide, t_exo_NoDeed_NoText, t_exo_NoText_BadSide, t_exo_NoText_NoText, t_exo_NoWare_BadSide, t_exo_NoWare_NoText, t_exo_NothingDone_BadSide, t_exo_NothingDone_NoText, ⟨cl_Weighing1, cl_Weighing2, cl_Weighing3, cl_Weighing4⟩, n_Weighing_side, ⟨cl_Floors1, cl_Floors2, cl_Floors3, cl_Floors4⟩, n_Floors_side, n_Floors_step, ⟨cl_Heavy1, cl_Heavy2, cl_Heavy3, cl_Heavy4⟩, n_Heavy_side, n_Heavy_step, ⟨cl_Parts1, cl_Parts2, cl_Parts3, cl_Parts4⟩, n_Parts_side, n_Parts_step, ⟨cl_Matched1, cl_Matched2, cl_Matched3, cl_Matched4⟩, n_Matched_side, n_Matched_step, ⟨cl_Nested1, cl_Nested2, cl_Nested3, cl_Nested4⟩, n_Nested_side, n_Nested_inner, n_Nested_outer, ⟨cl_Way1, cl_Way2, cl_Way3, cl_Way4⟩, n_Way_lies, n_Way_across, n_Way_up, ⟨cl_Shelver1, cl_Shelver2, cl_Shelver3, cl_Shelver4⟩, ⟨cl_FirstShelver1, cl_FirstShelver2, cl_FirstShelver3, cl_FirstShelver4⟩, ⟨cl_BestShelver1, cl_BestShelver2, cl_BestShelver3, cl_BestShelver4⟩, ⟨cl_Desk1, cl_Desk2, cl_Desk3, cl_Desk4⟩, n_Desk_box, n_Desk_wares, n_Desk_past⟩
 refine ⟨PySem.W.fnOf "law" "law" (defArgs s_law) (defBody s_law) (defScope s_law) .none kV_6 dc_6 pm_6 an_6 cd_6 ct_6, fun s v => .of_eq rfl, cOf [("BadSide", c0), ("BestShelver", c1), ("Desk", c2), ("FirstShelver", c3), ("Floors", c4), ("Full", c5), ("Heavy", c6), ("Matched", c7), ("Nested", c8), ("NoDeed", c9), ("NoText", c10), ("NoWare", c11), ("NothingDone", c12), ("Parts", c13), ("Shelver", c14), ("Way", c15), ("Weighing", c16)], fun base _ _ => ?_⟩
 have ow : ∀ {d : Nat} {n : Str} {ps : List Str} {sp : Sp} {f : Addr} {fd : FuncData}, FnOk (PySem.Challenge.rw_cratefit_k76_deeds_at_the_desk).prog w K mg base (CXe (PySem.Challenge.rw_cratefit_k76_deeds_at_the_desk).prog w) d f fd ps sp → Binds K fd ps [] → PySem.W.keepIn K (.ref f) = true → PySem.W.nsIn K mainGlobals n = some (some (.ref f)) → Own (PySem.Challenge.rw_cratefit_k76_deeds_at_the_desk).prog w K mg base d n ps sp := fun h b k a => ⟨_, _, h, b, k, PySem.W.mg_of X G a⟩
 have om := fun {n st d ps sp} => @ow_mk ((PySem.Challenge.rw_cratefit_k76_deeds_at_the_desk).prog) w K mg base h n st d ps sp X G
 have O_is_whole := om (ps := ["value"]) y_is_whole (fun _ _ _ _ _ _ => us1 fun _ => rfl) fun F => ok_is_whole F T
 have O_check_side := om (ps := ["side", "least", "most"]) y_check_side (fun _ _ _ _ _ _ => us3 fun _ _ _ => rfl) fun F => ok_check_side F T O_is_whole
 have O_is_number_of := om (ps := ["wares", "k"]) y_is_number_of (fun _ _ _ _ _ _ => us2 fun _ _ => rfl) fun F => ok_is_number_of F T
 have F_made_ware := fund_mk (st := s_made_ware) l_made_ware c_made_ware k_made_ware
 have B_made_ware := F_made_ware.binds (ps := ["w", "h", "turns"]) (ds := []) (items := [.bool false]) df_made_ware rfl fun _ _ _ _ _ _ us hl => match us, (show us.length = 3 by simpa using hl) with | [_, _, _], _ => ⟨_, rfl, rfl⟩
 have BD_made_ware := F_made_ware.binds (ps := ["w", "h", "turns"]) (ds := [.bool false]) (items := [.bool false]) df_made_ware rfl fun _ _ _ _ _ _ us hl => match us, (show us.length = 2 by simpa using hl) with | [_, _], _ => ⟨_, rfl, rfl⟩
 have O_made_ware : OwnD (PySem.Challenge.rw_cratefit_k76_deeds_at_the_desk).prog w K mg base 7 "made_ware" ["w", "h", "turns"] (spD K (cL c0 c1 c2 c3 c4 c5 c6 c7 c8 c9 c10 c11 c12 c13 c14 c15 c16) d_made_ware) (.bl false) := ⟨_, _, _, ok_made_ware F_made_ware T O_check_side, B_made_ware, BD_made_ware, rfl, k_made_ware, PySem.W.mg_of X G a_made_ware⟩
 have O_made_box := om (ps := ["w", "h"]) y_made_box (fun _ _ _ _ _ _ => us2 fun _ _ => rfl) fun F => ok_made_box F T O_check_side
 have O_shown_ware := om (ps := ["ware"]) y_shown_ware (fun _ _ _ _ _ _ => us1 fun _ => rfl) fun F => ok_shown_ware F T
 have O_shown_case := om (ps := ["box", "wares"]) y_shown_case (fun _ _ _ _ _ _ => us2 fun _ _ => rfl) fun F => ok_shown_case F T O_shown_ware
 have O_read_number := om (ps := ["text"]) y_read_number (fun _ _ _ _ _ _ => us1 fun _ => rfl) fun F => ok_read_number F T
 have O_read_sides := om (ps := ["text"]) y_read_sides (fun _ _ _ _ _ _ => us1 fun _ => rfl) fun F => ok_read_sides F T O_read_number
 have O_read_ware := om (ps := ["text"]) y_read_ware (fun _ _ _ _ _ _ => us1 fun _ => rfl) fun F => ok_read_ware F T O_read_sides O_made_ware
 have O_read_box := om (ps := ["text"]) y_read_box (fun _ _ _ _ _ _ => us1 fun _ => rfl) fun F => ok_read_box F T O_read_sides O_made_box
 have O_read_case := om (ps := ["text"]) y_read_case (fun _ _ _ _ _ _ => us1 fun _ => rfl) fun F => ok_read_case F T O_read_box O_read_ware
 have O_read_rest := om (ps := ["word", "rest"]) y_read_rest (fun _ _ _ _ _ _ => us2 fun _ _ => rfl) fun F => ok_read_rest F T O_read_box O_read_ware O_read_number
 have O_l_cell := om (ps := ["_law_script", "_law_k"]) y_l_cell (fun _ _ _ _ _ _ => us2 fun _ _ => rfl) fun F => ok_l_cell F T
 have O_l_whole := om (ps := ["_law_found"]) y_l_whole (fun _ _ _ _ _ _ => us1 fun _ => rfl) fun F => ok_l_whole F T
 have O_l_ware_row := om (ps := ["_law_ware"]) y_l_ware_row (fun _ _ _ _ _ _ => us1 fun _ => rfl) fun F => ok_l_ware_row F T
 have O_l_case_row := om (ps := ["_law_box", "_law_wares"]) y_l_case_row (fun _ _ _ _ _ _ => us2 fun _ _ => rfl) fun F => ok_l_case_row F T O_l_ware_row
 have O_l_side := om (ps := ["_law_cell_here", "_law_most"]) y_l_side (fun _ _ _ _ _ _ => us2 fun _ _ => rfl) fun F => ok_l_side F T
 have O_l_drawn_ware := om (ps := ["_law_cell_here"]) y_l_drawn_ware (fun _ _ _ _ _ _ => us1 fun _ => rfl) fun F => ok_l_drawn_ware F T O_l_side
 have O_l_start := om (ps := ["_law_script"]) y_l_start (fun _ _ _ _ _ _ => us1 fun _ => rfl) fun F => ok_l_start F T O_l_cell O_l_drawn_ware O_l_side
 have F_Desk___init__ := fund_mk (st := s_Desk___init__) l_Desk___init__ c_Desk___init__ k_Desk___init__
 have B_Desk___init__ := F_Desk___init__.binds (ps := ["self", "start"]) (ds := []) (items := [.str "10x10:" dtok_Desk___init__]) df_Desk___init__ rfl fun _ _ _ _ _ _ us hl => match us, (show us.length = 2 by simpa using hl) with | [_, _], _ => ⟨_, rfl, rfl⟩
 have BD_Desk___init__ := F_Desk___init__.binds (ps := ["self", "start"]) (ds := [.str "10x10:" dtok_Desk___init__]) (items := [.str "10x10:" dtok_Desk___init__]) df_Desk___init__ rfl fun _ _ _ _ _ _ us hl => match us, (show us.length = 1 by simpa using hl) with | [_], _ => ⟨_, rfl, rfl⟩
 have N_Desk : OwnND (PySem.Challenge.rw_cratefit_k76_deeds_at_the_desk).prog w K mg base 13 "Desk" ((cL c0 c1 c2 c3 c4 c5 c6 c7 c8 c9 c10 c11 c12 c13 c14 c15 c16) "Desk") ["self", "start"] (spKI K (cL c0 c1 c2 c3 c4 c5 c6 c7 c8 c9 c10 c11 c12 c13 c14 c15 c16) d_read_case) (.str "10x10:") := ⟨_, _, _, ok_Desk___init__ F_Desk___init__ T O_read_case, B_Desk___init__, BD_Desk___init__, ⟨_, rfl⟩, ⟨mk_Desk, a_Desk___init__, i_Desk___init__, kc_Desk⟩, PySem.W.mg_of X G m_Desk⟩
 have O_l_begun := om (ps := ["_law_script", "_law_start_here"]) y_l_begun (fun _ _ _ _ _ _ => us2 fun _ _ => rfl) fun F => ok_l_begun F T O_l_cell O_l_case_row N_Desk
 have O_l_deed := om (ps := ["_law_cell_here", "_law_state"]) y_l_deed (fun _ _ _ _ _ _ => us2 fun _ _ => rfl) fun F => ok_l_deed F T O_l_drawn_ware O_l_ware_row O_l_side
 have F_0 := fun_mk (st := s_Desk_steps) l_0 c_0 k_0
 have B_0 := F_0.binds (ps := ["self"]) fun _ _ _ _ _ _ => us1 fun _ => rfl
 have OM_Desk_steps : OwnM (PySem.Challenge.rw_cratefit_k76_deeds_at_the_desk).prog w K mg base 3 ((cL c0 c1 c2 c3 c4 c5 c6 c7 c8 c9 c10 c11 c12 c13 c14 c15 c16) "Desk") "steps" ["self"] (spK K (cL c0 c1 c2 c3 c4 c5 c6 c7 c8 c9 c10 c11 c12 c13 c14 c15 c16) d_Desk_steps) := ⟨⟨_, _, (ok_Desk_steps F_0 T ), B_0, ⟨a_0, i_Desk_steps, k_0⟩⟩, T.cl_Desk⟩
 have F_1 := fun_mk (st := s_Desk_case) l_1 c_1 k_1
 have B_1 := F_1.binds (ps := ["self"]) fun _ _ _ _ _ _ => us1 fun _ => rfl
 have OM_Desk_case : OwnM (PySem.Challenge.rw_cratefit_k76_deeds_at_the_desk).prog w K mg base 7 ((cL c0 c1 c2 c3 c4 c5 c6 c7 c8 c9 c10 c11 c12 c13 c14 c15 c16) "Desk") "case" ["self"] (spK K (cL c0 c1 c2 c3 c4 c5 c6 c7 c8 c9 c10 c11 c12 c13 c14 c15 c16) d_Desk_case) := ⟨⟨_, _, (ok_Desk_case F_1 T O_shown_case), B_1, ⟨a_1, i_Desk_case, k_1⟩⟩, T.cl_Desk⟩
 have O_l_seen := om (ps := ["_law_desk", "_law_state"]) y_l_seen (fun _ _ _ _ _ _ => us2 fun _ _ => rfl) fun F => ok_l_seen F T O_l_whole O_l_case_row OM_Desk_steps OM_Desk_case
 have F_2 := fun_mk (st := s_Desk_changed) l_2 c_2 k_2
 have B_2 := F_2.binds (ps := ["self", "box", "wares"]) fun _ _ _ _ _ _ => us3 fun _ _ _ => rfl
 have OM_Desk_changed : OwnM (PySem.Challenge.rw_cratefit_k76_deeds_at_the_desk).prog w K mg base 9 ((cL c0 c1 c2 c3 c4 c5 c6 c7 c8 c9 c10 c11 c12 c13 c14 c15 c16) "Desk") "changed" ["self", "box", "wares"] (spK K (cL c0 c1 c2 c3 c4 c5 c6 c7 c8 c9 c10 c11 c12 c13 c14 c15 c16) d_Desk_changed) := ⟨⟨_, _, (ok_Desk_changed F_2 T OM_Desk_case), B_2, ⟨a_2, i_Desk_changed, k_2⟩⟩, T.cl_Desk⟩
 have F_3 := fun_mk (st := s_Desk_done) l_3 c_3 k_3
 have B_3 := F_3.binds (ps := ["self", "word", "thing"]) fun _ _ _ _ _ _ => us3 fun _ _ _ => rfl
 have OM_Desk_done : OwnM (PySem.Challenge.rw_cratefit_k76_deeds_at_the_desk).prog w K mg base 11 ((cL c0 c1 c2 c3 c4 c5 c6 c7 c8 c9 c10 c11 c12 c13 c14 c15 c16) "Desk") "done" ["self", "word", "thing"] (spK K (cL c0 c1 c2 c3 c4 c5 c6 c7 c8 c9 c10 c11 c12 c13 c14 c15 c16) d_Desk_done) := ⟨⟨_, _, (ok_Desk_done F_3 T O_is_number_of OM_Desk_changed), B_3, ⟨a_3, i_Desk_done, k_3⟩⟩, T.cl_Desk⟩
 have F_4 := fun_mk (st := s_Desk_undone) l_4 c_4 k_4
 have B_4 := F_4.binds (ps := ["self"]) fun _ _ _ _ _ _ => us1 fun _ => rfl
 have OM_Desk_undone : OwnM (PySem.Challenge.rw_cratefit_k76_deeds_at_the_desk).prog w K mg base 9 ((cL c0 c1 c2 c3 c4 c5 c6 c7 c8 c9 c10 c11 c12 c13 c14 c15 c16) "Desk") "undone" ["self"] (spK K (cL c0 c1 c2 c3 c4 c5 c6 c7 c8 c9 c10 c11 c12 c13 c14 c15 c16) d_Desk_undone) := ⟨⟨_, _, (ok_Desk_undone F_4 T OM_Desk_case), B_4, ⟨a_4, i_Desk_undone, k_4⟩⟩, T.cl_Desk⟩
 have F_5 := fun_mk (st := s_Desk_do) l_5 c_5 k_5
 have B_5 := F_5.binds (ps := ["self", "line"]) fun _ _ _ _ _ _ => us2 fun _ _ => rfl
 have OM_Desk_do : OwnM (PySem.Challenge.rw_cratefit_k76_deeds_at_the_desk).prog w K mg base 13 ((cL c0 c1 c2 c3 c4 c5 c6 c7 c8 c9 c10 c11 c12 c13 c14 c15 c16) "Desk") "do" ["self", "line"] (spK K (cL c0 c1 c2 c3 c4 c5 c6 c7 c8 c9 c10 c11 c12 c13 c14 c15 c16) d_Desk_do) := ⟨⟨_, _, (ok_Desk_do F_5 T O_read_rest OM_Desk_done OM_Desk_undone), B_5, ⟨a_5, i_Desk_do, k_5⟩⟩, T.cl_Desk⟩
 have F_6 := fun_mk (st := s_law) l_6 c_6 k_6
 exact ok_law F_6 T O_l_start O_l_begun O_l_deed O_l_seen O_l_case_row OM_Desk_do
end Law
namespace Law
open PySem L2 PyProof.Rows
theorem walk {q : Program} {loose : List Str} {XP : (Str → Option Value) → Heap → Prop} {YP : World → Heap → Prop} {d : DefRec} {K : Params → PySem.W.Frag} (hdf : d.params.defaults = []) (hY : ∀ (w : World) (h : Heap), YP w h → (K w.params).In h)
  (F : ∀ (w : World) (mg : Str → Option Value) (fa : Addr) (h : Heap), (K w.params).In h → h.Ns mainGlobals mg → mg d.name = some (.ref fa) →
   ∃ fd : FuncData, (∀ (s : Shared) (u : Value), BindsTo s fd ⟨[u], []⟩ [("_law_script", u)]) ∧ ∃ c : Str → Addr, ∀ base : Heap, (K w.params).In base → base.Ns mainGlobals mg → FnOk (PySem.Challenge.rw_cratefit_k76_deeds_at_the_desk).prog w (K w.params) mg base (CXe (PySem.Challenge.rw_cratefit_k76_deeds_at_the_desk).prog w) 17 fa fd ["_law_script"] (sp_law (K w.params) c)) :
  PySem.W.WalkO q loose XP YP (PySem.Challenge.rw_cratefit_k76_deeds_at_the_desk).row.toRowW d [] (fun f vs => PySem.call f vs) := by
 refine L2.walk_ofB (l := PySem.Challenge.rw_cratefit_k76_deeds_at_the_desk) (n := 63) (k := 17) (x := "_law_script") (K := K) (CX := fun w => CXe (PySem.Challenge.rw_cratefit_k76_deeds_at_the_desk).prog w) (sp := fun w vs H Q E => ∀ c, sp_law (K w.params) c vs H Q E) rfl (by decide) hdf ⟨rfl, by decide, by decide⟩ hY (fun w mg fa h KX G hm => ?_) (fun w H a ns h1 h2 h3 h4 c => ⟨a, ns, rfl, .of h4 h3, h2, h1, fun _ => rfl⟩) fun w H s e s' z => noCXe H s e s' z
 obtain ⟨fd, hb, c, hF⟩ := F w mg fa h KX G hm
 exact ⟨fd, hb, fun base kb nb => (hF base kb nb).imp fun vs H Q E z => z c⟩
end Law
namespace PySem.W.Fast
def tw4841095511212242306:=0
def tw303672301071284256:=0
def tw10877484717055651904:=0
def tw10573921868706044992:=0
def tw8167066036844701792:=0
def tw6311754910382378080:=0
def tw8032687464531872864:=0
def tw6148333690098325632:=0
def tw5693204430894855328:=0
def tw14228701285646736576:=0
def tw11168225354176056512:=0
def tw10154552478313111744:=0
def tw8616637646443510976:=0
def tw75215932213598432:=0
def tw6331124236823706848:=0
def tw2234472535544978656:=0
def tw11082704624815408384:=0
def tw11979367100381497600:=0
def tw3995568484483785984:=0
def tw4717680738442341632:=0
def tw11348721377078772000:=0
def tw3346611837856498976:=0
def tw2022723160204210464:=0
def tw3695940944132651328:=0
def tw4616010285454161216:=0
def tw6740159000691933536:=0
def tw13473432590439561600:=0
def tw7919691777875202464:=0
def tw17739366405602827680:=0
def tw16320693863131333152:=0
def tw9193909323255980576:=0
def tw8794023589530562112:=0
def tw12957650327195498080:=0
def tw15277250561253201536:=0
def tw4354472846481288832:=0
def tw15681439562124385952:=0
def tw10508171872133988032:=0
def tw3103627979206261440:=0
def tw469114859440754400:=0
def tw4494112564907434720:=0
def tw13371541538653594336:=0
def tw13450107917571080960:=0
def tw8672427261672092416:=0
def tw13541170746547824448:=0
def tw6205684622238968640:=0
def tw12656076441058840416:=0
def tw1004161037984898912:=0
def tw4989621433768459104:=0
def tw103759850801266528:=0
def tw6677401380357734240:=0
def tw10113986340059855744:=0
def tw1584981961691337729:=0
def tw6590050213451152385:=0
def tw10886444943786927105:=0
def tw14325478353272167457:=0
def tw1068650478121859137:=0
def tw7063399010872294497:=0
def tw18179184219796864097:=0
def tw16571292211414296705:=0
def tw14929426832736821505:=0
def tw10764981211441283361:=0
def tw13705784294386226465:=0
def tw9996374769681989953:=0
def tw16191044490689321281:=0
def tw13456643670383049025:=0
def tw12448370061856331073:=0
def tw6813281211046525249:=0
def tw16561367525335911777:=0
def tw5627550015956227489:=0
def tw11864419377555187265:=0
def tw16853441295142896257:=0
def tw12071631253521159841:=0
def tw11730629979613084321:=0
def tw7801134454257950401:=0
def tw11136772971668614849:=0
def tw11851989672080797377:=0
def tw576719105560816353:=0
def tw3424671181749258017:=0
def tw5473892844392692513:=0
def tw12706877256579696481:=0
def tw3091040596178103137:=0
def tw7986183118155260801:=0
def tw14651103785819459457:=0
def tw6735040890283219841:=0
def tw528995955553439649:=0
def tw3267386511933136833:=0
def tw6476063594345067489:=0
def tw6642191758504176642:=0
def tw18038631134193165314:=0
def tw16580267405240378402:=0
def tw4867173416838532194:=0
def tw12611926994056024162:=0
def tw7093760855045120130:=0
def tw6517409763869958306:=0
def tw2902612906344141986:=0
def tw6489171551308207330:=0
def tw1503241613871245570:=0
def tw6547417259027990850:=0
def tw6172320869249125698:=0
def tw16442485076277913954:=0
def tw457280596510079330:=0
def tw5642839345595374978:=0
def tw9710892279990368642:=0
def tw1048748888145333666:=0
def tw11126159784225682850:=0
def tw5398490903136551362:=0
def tw9262769874265222626:=0
def tw14826958457904465474:=0
def tw13084055332347094626:=0
def tw14493129268179286626:=0
def tw11994833676491214434:=0
def tw14385945175278677634:=0
def tw12833073198072428162:=0
def tw5061522889706781346:=0
def tw12466707672338913954:=0
def tw16448392187409194658:=0
def tw17715530188286684866:=0
def tw2326294825956016834:=0
def tw8427666045898881762:=0
def tw4416539071038887714:=0
def tw15150026434437239618:=0
def tw11967393837186274178:=0
def tw14802389220231760802:=0
def tw14632971463609814978:=0
def tw15170491252188585922:=0
def tw12115399337133423554:=0
def tw13081176067896169410:=0
def tw9153338442804027395:=0
def tw7752314663339261955:=0
def tw877499030675184675:=0
def tw6183284684705721379:=0
def tw1133679150737030179:=0
def tw10691445577862914115:=0
def tw12929352373640733763:=0
def tw5229850302210026563:=0
def tw1521744411393514627:=0
def tw17291794502771516611:=0
def tw2502919159482583267:=0
def tw1264169513859934435:=0
def tw2315601401439448291:=0
def tw6178252300699056419:=0
def tw6605885530764922147:=0
def tw9969868215336144195:=0
def tw8947126172895529283:=0
def tw3133666567921062211:=0
def tw16673598621436057955:=0
def tw2670498986790961539:=0
def tw4392989636541014403:=0
def tw5214414963108769219:=0
def tw3718353854566216163:=0
def tw7783844614257866211:=0
def tw11591123991635559939:=0
def tw4291234760406160899:=0
def tw16506460711279736355:=0
def tw1953118449039392323:=0
def tw6517766861760023107:=0
def tw4070076505643304547:=0
def tw17314815126804583011:=0
def tw1575853906097953379:=0
def tw403606368751432323:=0
def tw10440631061715086979:=0
def tw14369036340086180547:=0
def tw2138105523965223683:=0
def tw7887320867977028387:=0
def tw15189671254535440227:=0
def tw10436308161929943907:=0
def tw2650403370434045827:=0
def tw3238845867678907267:=0
def tw13430117044800611203:=0
def tw375299184850347971:=0
def tw1998269222883787780:=0
def tw17615729147306169380:=0
def tw7501768739435818020:=0
def tw5453051636717809732:=0
def tw8045673742208992356:=0
def tw15532725996583663716:=0
def tw619760245282051236:=0
def tw18072081623545068708:=0
def tw383902067005832388:=0
def tw14711805100687580356:=0
def tw10461618606152580292:=0
def tw6122201902719189252:=0
def tw15591463952149312772:=0
def tw3618450870787318052:=0
def tw15819434329167747364:=0
def tw1626380589209979236:=0
def tw10880549870077918596:=0
def tw1819768804467760516:=0
def tw8845612506730591620:=0
def tw10854897125555144100:=0
def tw9858043989731811780:=0
def tw12562505666186754500:=0
def tw9879506743965259268:=0
def tw882004012695752260:=0
def tw18035138446553972324:=0
def tw6696326123297203844:=0
def tw1445296557498986116:=0
def tw14345502065777440388:=0
def tw7208079139108985540:=0
def tw6870506144092635908:=0
def tw2037392936362313508:=0
def tw1231409968157862692:=0
def tw11917834891522757444:=0
def tw16966442175204320132:=0
def tw12975011994759931780:=0
def tw11022713946439679972:=0
def tw2844669675702736901:=0
def tw1585565558128870437:=0
def tw997335169869938725:=0
def tw13464498518212445253:=0
def tw11497403175297827973:=0
def tw14721951849030359173:=0
def tw3256247790006929573:=0
def tw4263339644144552101:=0
def tw17567327854822079653:=0
def tw772626080603945157:=0
def tw6193104158962985221:=0
def tw5596863673311844613:=0
def tw7777978015763359045:=0
def tw114107177647311205:=0
def tw14865865767493808485:=0
def tw12692517532850929093:=0
def tw6797404299512908293:=0
def tw548410229375973893:=0
def tw4626215698211263013:=0
def tw9600779631393722917:=0
def tw115276414293341733:=0
def tw774683263589554757:=0
def tw6176009559431891525:=0
def tw3985009810534327877:=0
def tw10248838398632315493:=0
def tw16918443999294800581:=0
def tw9423199237259927301:=0
def tw5410587545879597861:=0
def tw618613015267861285:=0
def tw2742567053760729029:=0
def tw10073038816026728389:=0
def tw13544252418544831461:=0
def tw6033442163084764166:=0
def tw16890457788006646790:=0
def tw17641104053901716486:=0
def tw13710410497813042214:=0
def tw15871969760337078438:=0
def tw13501137353188442310:=0
def tw13931881478605983942:=0
def tw3799244846833828102:=0
def tw6432392157798584646:=0
def tw16403634581218895206:=0
def tw6967138196262973798:=0
def tw6529425442506381702:=0
def tw13509064498924489222:=0
def tw8409010478420273670:=0
def tw9881850540555125254:=0
def tw17804149708169879270:=0
def tw15556365870484018918:=0
def tw2234407741472402150:=0
def tw11563300609998634758:=0
def tw1945188026869650182:=0
def tw3282189111692482342:=0
def tw7941812060165609350:=0
def tw9592634004475135878:=0
def tw10696240184847488966:=0
def tw3870870916217833446:=0
def tw9318751178418967559:=0
def tw48993804874681383:=0
def tw10586974143875221607:=0
def tw2076288369748184199:=0
def tw1222334052120328327:=0
def tw3520851886266676391:=0
def tw1892220490978531527:=0
def tw18051016878999648583:=0
def tw5503175537070234951:=0
def tw4226443284046245191:=0
def tw17294250439839665511:=0
def tw15479541337472431463:=0
def tw12434006449383078247:=0
def tw13649697587618887079:=0
def tw9192894153367075335:=0
def tw8808273602079113735:=0
def tw15700841087324193351:=0
def tw16780144457593445959:=0
def tw16589450708706788967:=0
def tw14849676137397118599:=0
def tw8440002467346308775:=0
def tw6000639435872972455:=0
def tw2348677135843581639:=0
def tw5358650851954856679:=0
def tw17611375005337298663:=0
def tw17890243406035745511:=0
def tw14050995938141975303:=0
def tw15341785530875781927:=0
def tw11647660042605894503:=0
def tw12941281166837742535:=0
def tw9144434555308129255:=0
def tw749930774614886375:=0
def tw2922901831286386663:=0
def tw3121330107721274472:=0
def tw6046418051191892072:=0
def tw10674096267216851112:=0
def tw3924804554084845768:=0
def tw13208773601392596168:=0
def tw139080547861485768:=0
def tw2106597742136096968:=0
def tw16194487916156702952:=0
def tw1889733454837608680:=0
def tw11763662632875222280:=0
def tw1901331752158554440:=0
def tw11748578243886013800:=0
def tw13791303061577823656:=0
def tw14462984466349801928:=0
def tw930024497087311304:=0
def tw16318112715280242280:=0
def tw15940642636244873832:=0
def tw16542302414161526408:=0
def tw7313653168896557736:=0
def tw536888263342308072:=0
def tw14429859665792258792:=0
def tw1804154064565740296:=0
def tw9639890537555111720:=0
def tw5335000983290623816:=0
def tw7823964168569502536:=0
def tw17777494581874896744:=0
def tw7646287240296093576:=0
def tw6045285581537963912:=0
def tw2377905248249055176:=0
def tw14741910540823056360:=0
def tw7461363433123116008:=0
def tw8354390994818014217:=0
def tw17170241477541894185:=0
def tw4844774602251779177:=0
def tw16423467791701801065:=0
def tw8225630468714661001:=0
def tw6349232775819731081:=0
def tw11848797459293976713:=0
def tw7296133168337942665:=0
def tw14622668001036941545:=0
def tw5089714170422377705:=0
def tw402107499458383081:=0
def tw13047781972871999785:=0
def tw7682539824469767465:=0
def tw17139018350248753481:=0
def tw292478789066465641:=0
def tw16602906505179868521:=0
def tw15385689407160038761:=0
def tw5666381894145455465:=0
def tw634413210463509897:=0
def tw13366398910708728425:=0
def tw12108982129660609129:=0
def tw4964700899528360585:=0
def tw6303351653725102729:=0
def tw7599938909451694793:=0
def tw10003276592935219945:=0
def tw11984389336888779529:=0
def tw13331483607249233673:=0
def tw11160553444849268489:=0
def tw17511997148684441353:=0
def tw15791914539833654025:=0
def tw6695683718338118441:=0
def tw5173606463101984553:=0
def tw6391680340802140969:=0
def tw7625630197778030409:=0
def tw15104948512643103561:=0
def tw10455302541388474249:=0
def tw8236488722002020265:=0
def tw751749798591388585:=0
def tw2950609251782759369:=0
def tw13590411354665634761:=0
def tw13562716659974119401:=0
def tw12034007747293598730:=0
def tw2575806243359515658:=0
def tw808056984254573578:=0
def tw12007031841124409418:=0
def tw14061116288228877386:=0
def tw5559924063819156586:=0
def tw3401769054346456234:=0
def tw10100574538718593226:=0
def tw14809331214912614602:=0
def tw9162789355010536874:=0
def tw7960834662378072490:=0
def tw6013435133830819274:=0
def tw6714707130957564394:=0
def tw11801144331714900458:=0
def tw13628125628265102826:=0
def tw8916616314153431626:=0
def tw14384154022828213930:=0
def tw1581323785808145066:=0
def tw7545250320033314474:=0
def tw15791790289530825418:=0
def tw14185880124940737258:=0
def tw3237956091181194986:=0
def tw6123957497278121738:=0
def tw6658562262462848778:=0
def tw16234818709064816426:=0
def tw10896003110743014218:=0
def tw4630938094471620490:=0
def tw362656204667667434:=0
def tw10923963410911979498:=0
def tw13879229959084253162:=0
def tw7800931551518131211:=0
def tw7225168072750031883:=0
def tw2354086371900618795:=0
def tw17483402914529618987:=0
def tw14492268802695397483:=0
def tw12756431693550768235:=0
def tw13455425075065878635:=0
def tw3898446159515793579:=0
def tw2990580887495808171:=0
def tw1309886673634265291:=0
def tw3082484954569063723:=0
def tw15467053706735908139:=0
def tw8836948996660033867:=0
def tw13427354684616295787:=0
def tw1437435005418964363:=0
def tw3721085087367556491:=0
def tw8910676457699480011:=0
def tw4829221313060500939:=0
def tw12681815045349417451:=0
def tw2645720006086570475:=0
def tw2851132353070299659:=0
def tw13284617715234139691:=0
def tw3098136374202523211:=0
def tw9137184031777442411:=0
def tw10081042240091185771:=0
def tw11720385935727820427:=0
def tw8566869633577360043:=0
def tw10869085630516985515:=0
def tw7122407798537452235:=0
def tw1543177343830343435:=0
def tw7193255915152443179:=0
def tw15899128665236383659:=0
def tw14006076781579928523:=0
def tw578504841991500747:=0
def tw8462652649189118955:=0
def tw2917991982362214379:=0
def tw2480340649069020204:=0
def tw5272885379638217836:=0
def tw3871713657118468236:=0
def tw16714983382083468428:=0
def tw12724407769847532716:=0
def tw12508210625137268908:=0
def tw14915943628300626124:=0
def tw2689082639611998444:=0
def tw7923407503167208684:=0
def tw15881826420139508972:=0
def tw7997254038247508236:=0
def tw13349481134603152652:=0
def tw6865423743725515020:=0
def tw4056450218905450860:=0
def tw11460725718165884300:=0
def tw1671877886768247212:=0
def tw4491324516666039724:=0
def tw4552296204846534156:=0
def tw15668865985616282124:=0
def tw1603184411761477196:=0
def tw2314210541680026188:=0
def tw1536367340448641644:=0
def tw11134271630402375308:=0
def tw2517869579034697388:=0
def tw10795752114839764652:=0
def tw11937327873407864492:=0
def tw249628158448201420:=0
def tw14991694818322258700:=0
def tw18316645941393449740:=0
def tw10299216461060289324:=0
def tw11695717722866395980:=0
def tw6341961127337917292:=0
def tw1420626282075101068:=0
def tw17205372426464274316:=0
def tw11961097453112418188:=0
def tw14707984709325398029:=0
def tw12638792183734360173:=0
def tw2804736734996938925:=0
def tw2507960533978246381:=0
def tw11940812061465690413:=0
def tw9894924587243923757:=0
def tw2600014778592764237:=0
def tw2268994574383896909:=0
def tw11475146238433273197:=0
def tw2351119618853268845:=0
def tw10052690628456753549:=0
def tw770377721252751789:=0
def tw7222039811447681453:=0
def tw896455963487945165:=0
def tw17477549099898508813:=0
def tw77569089563635213:=0
def tw4936405295951992333:=0
def tw568115767612296749:=0
def tw4711673515118317101:=0
def tw7017413323170618989:=0
def tw11387307788134993517:=0
def tw573465705397618413:=0
def tw8502919066000475885:=0
def tw1714923635583381293:=0
def tw12191450066302824269:=0
def tw4842868944169992045:=0
def tw6836455070747701101:=0
def tw7570742643895011213:=0
def tw17844293834788124557:=0
def tw2364960952551499725:=0
def tw15429028355434800109:=0
def tw1438116906632111085:=0
def tw14572926119992087566:=0
def tw13762039346607885358:=0
def tw6780802390844802126:=0
def tw17071394298353223758:=0
def tw6169834243981898830:=0
def tw9102556484313578574:=0
def tw947357986034606190:=0
def tw8011971412421897326:=0
def tw1344163450320289934:=0
def tw8744109827630924942:=0
def tw13084715986867173518:=0
def tw14558388334459500686:=0
def tw810578628102930638:=0
def tw1840557981777346862:=0
def tw1935620628247472430:=0
def tw7416152863982158158:=0
def tw939070154854342990:=0
def tw15664355005918813550:=0
def tw285208220951487886:=0
def tw7269951210593227246:=0
def tw12028646132316028430:=0
def tw1847409401562357326:=0
def tw10007800213855770222:=0
def tw2388026529687610990:=0
def tw14698601676717978222:=0
def tw13600674626415826574:=0
def tw17228207853178347182:=0
def tw5996498030952811246:=0
def tw17651845976159258350:=0
def tw4384003421262578446:=0
def tw7627489831257739054:=0
def tw13038490784836006702:=0
def tw1175341030379260750:=0
def tw16111569502991230798:=0
def tw9487225552676303694:=0
def tw5178984694015153998:=0
def tw9687952732982359918:=0
def tw12239041199154317166:=0
def tw5894515436571342798:=0
def tw6307102758408798158:=0
def tw7082152283968841710:=0
def tw15132227410684114926:=0
def tw12893156829447540751:=0
def tw13140262248255886415:=0
def tw1776079155886972047:=0
def tw1944781010214071471:=0
def tw10522073685558947023:=0
def tw3552874316642034991:=0
def tw4624005297846054287:=0
def tw15552173281866552783:=0
def tw3148987824357644751:=0
def tw6150504555079661039:=0
def tw2968888543408538127:=0
def tw80972711505519183:=0
def tw9893483315226031727:=0
def tw4707882823025662607:=0
def tw6560898285542608559:=0
def tw15929711579387105999:=0
def tw5459506583885341391:=0
def tw7988799751605337839:=0
def tw17879083599932897039:=0
def tw5534944090160525103:=0
def tw13897407627578441519:=0
def tw3931887400952137615:=0
def tw9423719504470388623:=0
def tw11574361545947057135:=0
def tw13881724786036629520:=0
def tw16975658360704332816:=0
def tw7028022014339349552:=0
def tw13084648456700780656:=0
def tw575988925216966768:=0
def tw11313425229249945776:=0
def tw6644274608996545712:=0
def tw1653583291846557968:=0
def tw18363959985855929616:=0
def tw8767245525540220176:=0
def tw12425243062915290416:=0
def tw14830522553205199184:=0
def tw16827045205548896592:=0
def tw5438614180344524112:=0
def tw12082994251102242192:=0
def tw5766364042100552112:=0
def tw11152480652812658160:=0
def tw3144347085057720848:=0
def tw17671585071350941200:=0
def tw1403383031279923728:=0
def tw5143081556355632656:=0
def tw7724209315512777232:=0
def tw7322530612011795056:=0
def tw4250009688444245648:=0
def tw4177604711213907600:=0
def tw9739767795453316784:=0
def tw7898392803628042960:=0
def tw4445006746840880880:=0
def tw16118522128336114416:=0
def tw16485395182103946032:=0
def tw10210314574615005072:=0
def tw10387093348091727792:=0
def tw8963769579364814768:=0
def tw12951221461945488304:=0
def tw11464864552822515632:=0
def tw11174337429436160944:=0
def tw11155720219638456240:=0
def tw4810654714271389648:=0
def tw14898479681124954064:=0
def tw4653792077613407216:=0
def tw11628077820685401201:=0
def tw2985820022066521265:=0
def tw17569102680940858545:=0
def tw5212507989462078673:=0
def tw6585458435762315505:=0
def tw7512923971916704017:=0
def tw2312060859000678705:=0
def tw2828314165483929937:=0
def tw14837735320091577681:=0
def tw7431557162492812849:=0
def tw14300932171381737073:=0
def tw4298495477922437777:=0
def tw12740426841593824945:=0
def tw210914316768200401:=0
def tw498528269639031537:=0
def tw13950544163727232753:=0
def tw15297725948578927409:=0
def tw105356975100450641:=0
def tw12186496443405572945:=0
def tw14176103485939342193:=0
def tw5689219739065490289:=0
def tw6416720567182661489:=0
def tw11247021858152269777:=0
def tw12908207629904190449:=0
def tw1428848872243535857:=0
def tw6026374176208244721:=0
def tw7918343621853640722:=0
def tw12885918615177952338:=0
def tw9108899208962380882:=0
def tw8271197339170656370:=0
def tw13159110299836995698:=0
def tw1373090791821241458:=0
def tw9246778421163393170:=0
def tw13771353510634204306:=0
def tw11101032716028449970:=0
def tw8322564177822063794:=0
def tw5883470917853564082:=0
def tw16257525136473067730:=0
def tw17996347821657367762:=0
def tw6902443371480212690:=0
def tw484408281860025586:=0
def tw15050322474827143410:=0
def tw5589057626581098738:=0
def tw9740145786688663794:=0
def tw3706786821583511922:=0
def tw8772482279904631154:=0
def tw5364227594730156434:=0
def tw7387348602498975218:=0
def tw17816621725076523602:=0
def tw6562186368345612882:=0
def tw500871563223561810:=0
def tw3074306459303378514:=0
def tw3172408984818092658:=0
def tw15718818856877330034:=0
def tw13201013036562728562:=0
def tw11096196363890281074:=0
def tw15715944659146931826:=0
def tw17204034371345162898:=0
def tw10765129737540970162:=0
def tw36016249729180338:=0
def tw17745918529501606610:=0
def tw15798518381482856210:=0
def tw15499726143731345234:=0
def tw11316861174318049106:=0
def tw14220335696945042354:=0
def tw7980664816230113234:=0
def tw1454288722380473298:=0
def tw7306710080035410898:=0
def tw4318372061383953427:=0
def tw14582681918093335571:=0
def tw4498383692197438515:=0
def tw11459292251253556275:=0
def tw1108603927082542163:=0
def tw12980236467551591571:=0
def tw4513404746213561555:=0
def tw214639417985060051:=0
def tw3934172917376012563:=0
def tw17774247109192149267:=0
def tw9133054534743162131:=0
def tw2238144828620755251:=0
def tw12140766168210889043:=0
def tw18071735458168999283:=0
def tw14882879303781168499:=0
def tw6083194206717302131:=0
def tw12709051260841680243:=0
def tw5856772115195421043:=0
def tw13301040009805861299:=0
def tw7752347898346078643:=0
def tw17513444730141070867:=0
def tw13647655623153228371:=0
def tw3126808393367789139:=0
def tw4757607564163040883:=0
def tw11873689983365465715:=0
def tw10591093049643346579:=0
def tw14679089922909150899:=0
def tw4257581802738488019:=0
def tw3095381863260226291:=0
def tw15784074736167162611:=0
def tw666486698937194227:=0
def tw17081139841059179251:=0
def tw3606487891843834611:=0
def tw7090689793842846515:=0
def tw10851711545792109363:=0
def tw10271916963557947187:=0
def tw5862027967755902771:=0
def tw7055187311179236179:=0
def tw6219903291862549331:=0
def tw9777240824520805203:=0
def tw17572260696914740051:=0
def tw4949260291068442483:=0
def tw16828638546068891507:=0
def tw15650645186698996595:=0
def tw8855003279479325619:=0
def tw8520757098378273747:=0
def tw1403706279867433971:=0
def tw14548676052629152788:=0
def tw2739973573483250772:=0
def tw4333658696968611924:=0
def tw11806656195148093556:=0
def tw12402128799156025460:=0
def tw16857986494875371700:=0
def tw8721924166041603252:=0
def tw13710119988436119732:=0
def tw3449256641781276884:=0
def tw5462082731485065428:=0
def tw14366016312804639988:=0
def tw5451260852280717556:=0
def tw15369652866427571476:=0
def tw10360831942943779124:=0
def tw15524405814741730612:=0
def tw7700615842122595668:=0
def tw13732181824993180020:=0
def tw828395530832005492:=0
def tw2162738480453346740:=0
def tw1856409201366659508:=0
def tw16035325809086043604:=0
def tw5856694194673065428:=0
def tw1396135903959314900:=0
def tw9908964513295627732:=0
def tw12030555461392659924:=0
def tw15510546976913684948:=0
def tw8156495783748318772:=0
def tw10375874658491370068:=0
def tw10455053709760777844:=0
def tw8438740405946601108:=0
def tw4149730639107042996:=0
def tw14462896159234858708:=0
def tw2550542067682468596:=0
def tw13267248382008303380:=0
def tw6317486510484988692:=0
def tw12027535840757733140:=0
def tw8343510123495737140:=0
def tw17142696933524958100:=0
def tw1457701510505082804:=0
def tw7641711100855099316:=0
def tw10398467411357442004:=0
def tw11645621479122892756:=0
def tw4818112611196860372:=0
def tw11999382114353400820:=0
def tw9954593902982178901:=0
def tw949480143168975957:=0
def tw973132247079650421:=0
def tw4082630602350578805:=0
def tw4913079786005843061:=0
def tw11664926137999054965:=0
def tw15947202048620193909:=0
def tw13230889408298975381:=0
def tw16563239351039726741:=0
def tw16574046837736094869:=0
def tw13892549862646103189:=0
def tw4056995493953079509:=0
def tw10246074274052559061:=0
def tw12237237754050640085:=0
def tw11484104111610104053:=0
def tw11880453683762628853:=0
def tw6914940446964194549:=0
def tw10712412494681799925:=0
def tw939824626895426837:=0
def tw2547248886420397333:=0
def tw1204828631365194101:=0
def tw13405355554213313909:=0
def tw1453965579721720181:=0
def tw18099971063379838325:=0
def tw11562637939158624661:=0
def tw12835854108122451381:=0
def tw11425394148778745301:=0
def tw12973105557789048277:=0
def tw6519040826941943285:=0
def tw90355727842023957:=0
def tw255460662976129557:=0
def tw3970750976009430581:=0
def tw11470734045742573141:=0
def tw17899476468860358261:=0
def tw5446393931329208981:=0
def tw744221182593934997:=0
def tw3427906571604333237:=0
def tw18053338425971975861:=0
def tw3856814114999646901:=0
def tw1160285787648575157:=0
def tw10616577797538558677:=0
def tw9048379457436553973:=0
def tw16050839493897100021:=0
def tw11002390479668054837:=0
def tw1000679207256030005:=0
def tw14972236698858202965:=0
def tw3941480477655789429:=0
def tw16469456840660865909:=0
def tw17320699396952788885:=0
def tw2233005623743126421:=0
def tw14738187981795500949:=0
def tw2050873605358839765:=0
def tw2017926985678955509:=0
def tw5247465269537202165:=0
def tw15342966951139793942:=0
def tw2974694866036131894:=0
def tw18344407533041029206:=0
def tw11885835917680229462:=0
def tw3847312523983538262:=0
def tw11092417028997903446:=0
def tw1934232461494576246:=0
def tw11233442081717746870:=0
def tw5259794929242447030:=0
def tw859228882380659926:=0
def tw3342019028762817750:=0
def tw16825463602400559350:=0
def tw12376580663020988694:=0
def tw3358973567192171862:=0
def tw4699102933460894038:=0
def tw4069741633373152630:=0
def tw11436938705031730614:=0
def tw14305765121608334774:=0
def tw11432028701503125974:=0
def tw8621124024139919830:=0
def tw2562120402071537142:=0
def tw12688615179650606614:=0
def tw11995195992871351830:=0
def tw9469373024906903062:=0
def tw650780489054095926:=0
def tw11423440760569301654:=0
def tw574185333536785078:=0
def tw10845725087529105142:=0
def tw11132255595409269558:=0
def tw1530065009515402070:=0
def tw6417840195518666582:=0
def tw1348496988266421078:=0
def tw13697168234662289302:=0
def tw8645120947708563382:=0
def tw12062474628497306550:=0
def tw4062215098751058902:=0
def tw2049318189787738070:=0
def tw9857401010077849590:=0
def tw9315437765890008054:=0
def tw597140252322031639:=0
def tw2326110851319040087:=0
def tw12401052510196370519:=0
def tw4700000853736295511:=0
def tw886435389883484279:=0
def tw13791369056651295863:=0
def tw6265735068966488215:=0
def tw185723317019749527:=0
def tw2708032309549881527:=0
def tw10640623133247401143:=0
def tw1746925028065123543:=0
def tw9761549176206321879:=0
def tw5195542362141120759:=0
def tw4306932416249171223:=0
def tw10610174247756640567:=0
def tw8374420212876080439:=0
def tw10727949163513168183:=0
def tw17772301394390997335:=0
def tw15078121833826838871:=0
def tw1332952766620232119:=0
def tw16079022667890126263:=0
def tw3556516005222860247:=0
def tw1909874038146950615:=0
def tw13043575857563751927:=0
def tw2237873936807162391:=0
def tw4577192503156204087:=0
def tw2073147535016753751:=0
def tw15362374466069325463:=0
def tw4402464374085302967:=0
def tw9217029100396194519:=0
def tw10597147640431195895:=0
def tw7906782605781106455:=0
def tw17908556284106351415:=0
def tw16054537922949880631:=0
def tw10853323888980448119:=0
def tw4222382444869932919:=0
def tw17951839526170537879:=0
def tw11448702612300924855:=0
def tw10093762777236372407:=0
def tw17183687895816494039:=0
def tw15208865805682785304:=0
def tw10002078418410044472:=0
def tw10396548301722323032:=0
def tw12424315853758751832:=0
def tw3549024952107822232:=0
def tw14914283172576079032:=0
def tw14121769279141329080:=0
def tw1280715000191702200:=0
def tw4684931740093713656:=0
def tw10087211527122407704:=0
def tw2434040230719806808:=0
def tw1089862019303580024:=0
def tw15325797901644187064:=0
def tw14439083243320167864:=0
def tw11731417670940823032:=0
def tw10192413483885584888:=0
def tw10233266821542624792:=0
def tw2280493975407836696:=0
def tw13652902050713172504:=0
def tw13012429068383892056:=0
def tw16449129784708757080:=0
def tw13965024364507182840:=0
def tw11354650698143957784:=0
def tw17315920108898207544:=0
def tw10978661844387538776:=0
def tw10188874320766376792:=0
def tw14636221309074548568:=0
def tw8395901593359295352:=0
def tw9596893267549078424:=0
def tw16863637123756597208:=0
def tw10228910179352031224:=0
def tw1277569268664538137:=0
def tw13801547112646421529:=0
def tw1346251187389819961:=0
def tw17678224078035911801:=0
def tw8401999477177620601:=0
def tw14074872697949330585:=0
def tw7907310449135868057:=0
def tw9974107906500197561:=0
def tw1602763915254434169:=0
def tw7402919706394466681:=0
def tw4734360293827345881:=0
def tw14383655172307826201:=0
def tw9991236793485591065:=0
def tw13339817412938586713:=0
def tw107479659361523289:=0
def tw13720045262539739769:=0
def tw13436647699534264985:=0
def tw5114614255374089977:=0
def tw1326729766003408665:=0
def tw2878425777644884825:=0
def tw12308812394603341657:=0
def tw8822634720225981466:=0
def tw15405899145759619130:=0
def tw1314328360459017370:=0
def tw13921300085222288570:=0
def tw16240581852156866746:=0
def tw7450629910394471706:=0
def tw5772662932376431898:=0
def tw18396932491922616602:=0
def tw9956484913940065562:=0
def tw14346196280220015962:=0
def tw3035104627218576730:=0
def tw7486690508868370842:=0
def tw14832444175083683290:=0
def tw11530749955783902714:=0
def tw18434471730449317370:=0
def tw11464985235443717658:=0
def tw17441592265821372954:=0
def tw11985047941909748282:=0
def tw2532379884086118970:=0
def tw13541447867325043258:=0
def tw8048441595929820730:=0
def tw11897405418394415706:=0
def tw14254858754842228314:=0
def tw8566813785026829946:=0
def tw7538807561654376154:=0
def tw10580692428415089370:=0
def tw8971547764759907034:=0
def tw5959705580375565018:=0
def tw6918339654487502554:=0
def tw185130541864434426:=0
def tw13680014576711279418:=0
def tw13535695328647288666:=0
def tw497593065029051226:=0
def tw5670976237138129786:=0
def tw17219576747428560762:=0
def tw18246109307818023834:=0
def tw18390310027223224250:=0
def tw1048205214348341178:=0
def tw10547540940085750778:=0
def tw4500761337150968826:=0
def tw6510082182785353755:=0
def tw15133519413616219195:=0
def tw16045712907611536443:=0
def tw11811389898081074267:=0
def tw8757536395646872731:=0
def tw3719527296618835099:=0
def tw4625248140472210587:=0
def tw3280817689746797819:=0
def tw4584606875411810587:=0
def tw8180910916602328347:=0
def tw18019840452503408955:=0
def tw2690731907770602811:=0
def tw18353262547671641403:=0
def tw3288141079328453947:=0
def tw1784267441995711835:=0
def tw9984665413893181787:=0
def tw13613649070001910107:=0
def tw7560171367295076731:=0
def tw4524630089805742459:=0
def tw15574442708732748251:=0
def tw16864304684281882075:=0
def tw4385547988739851899:=0
def tw8794818088588154491:=0
def tw5305848569457327771:=0
def tw4609893554042859163:=0
def tw8063765683662786267:=0
def tw10334433551104244443:=0
def tw16106629154500937499:=0
def tw5462154828964607803:=0
def tw14331574994597779291:=0
def tw11315083048026833787:=0
def tw15912346174176960379:=0
def tw1540692299894857595:=0
def tw9288432572060612475:=0
def tw668027650436184987:=0
def tw9073785020272688059:=0
def tw13507955080434990108:=0
def tw18073418100233692188:=0
def tw15348285005601757276:=0
def tw10511960685582219356:=0
def tw461456760226403516:=0
def tw6688339287249159388:=0
def tw9373380431718050076:=0
def tw15125735551880090908:=0
def tw1264275273215250748:=0
def tw6168390070216778044:=0
def tw16905502171953427772:=0
def tw12820623362458196348:=0
def tw17087001578179781020:=0
def tw8426013679086717404:=0
def tw7034227619633976796:=0
def tw8344756979597937180:=0
def tw4499292890143032860:=0
def tw621366583171567164:=0
def tw12342531568920792668:=0
def tw2999616672704315996:=0
def tw1703213362769928828:=0
def tw13050662260445536924:=0
def tw3810762949696898748:=0
def tw1625183964228929212:=0
def tw3185956786953043676:=0
def tw17242773618474700540:=0
def tw6729322999568074524:=0
def tw4132183326328283964:=0
def tw6207390596926767964:=0
def tw1247208685475112892:=0
def tw584478313039261628:=0
def tw8801312224980585468:=0
def tw17030911874489797661:=0
def tw11948480459632387133:=0
def tw4674413711127532637:=0
def tw14067862073734728829:=0
def tw14450778440725125245:=0
def tw16984368484129618077:=0
def tw10828046310008538269:=0
def tw1874222587958335677:=0
def tw4180221432654669021:=0
def tw11482476612347646173:=0
def tw757591840864656605:=0
def tw16793130738058903837:=0
def tw14326980872513745213:=0
def tw6231936631923599709:=0
def tw12886666539941820765:=0
def tw6639940817316074909:=0
def tw5900544959194552733:=0
def tw12570596325058918845:=0
def tw10552615803610592733:=0
def tw16117789779295904253:=0
def tw12141008181807007261:=0
def tw1513207477381980733:=0
def tw5274836887465883197:=0
def tw15702658426167967325:=0
def tw10615201720776216221:=0
def tw16870667630619528861:=0
def tw2256971862518586045:=0
def tw6528288202814536413:=0
def tw14817972207801341757:=0
def tw772829525676262205:=0
def tw5627001029490011997:=0
def tw9164683130391635837:=0
def tw4797458397664828285:=0
def tw5317581261239471005:=0
def tw4940048915467528093:=0
def tw16135804399435880381:=0
def tw847513848077825021:=0
def tw2216419752384133117:=0
def tw17454383472249874462:=0
def tw15741470827264167998:=0
def tw980502822905792606:=0
def tw3740805344440079454:=0
def tw10416037004762924158:=0
def tw402548155981977726:=0
def tw15882334088617511102:=0
def tw14444599970597272798:=0
def tw2087052618767047934:=0
def tw8394186739826773246:=0
def tw16213161106412070142:=0
def tw13720727552612763934:=0
def tw10740428620600875294:=0
def tw15482069394288721182:=0
def tw10459605514991442238:=0
def tw17046980534882666878:=0
def tw7215606268927698302:=0
def tw1321769900578802078:=0
def tw7367081403188007326:=0
def tw9130462779509902814:=0
def tw5686520798964792830:=0
def tw17256941357161310814:=0
def tw1336986982203881182:=0
def tw17548370596597633790:=0
def tw6917134319229561598:=0
def tw13302059718008990462:=0
def tw317455835889085214:=0
def tw4571850623045072670:=0
def tw14403071571524827006:=0
def tw8918289290694120350:=0
def tw9187953103004082110:=0
def tw11449512440748648414:=0
def tw14204763742689870814:=0
def tw4659074628660067326:=0
def tw8229675014524796991:=0
def tw8996852886492815455:=0
def tw7485441882072510559:=0
def tw5388237811000542335:=0
def tw14651592397854671007:=0
def tw3149911551150303391:=0
def tw4487664867769292991:=0
def tw2204674569163132095:=0
def tw7821299691773286591:=0
def tw2910031411444949215:=0
def tw17492233403021870335:=0
def tw7370915303841955071:=0
def tw9738561875940545855:=0
def tw1661899040590774591:=0
def tw11912401934693361983:=0
def tw6431959707333677407:=0
def tw5458667293382171007:=0
def tw17637772954633969055:=0
def tw11676174190222004639:=0
def tw1157552954087395775:=0
def tw18210164648522217919:=0
def tw2116842661364733503:=0
def tw13698731540064018015:=0
def tw40957038595023487:=0
def tw1992003765411177087:=0
def tw4574098489181679263:=0
def tw1769774667999624927:=0
def tw14433524348719124223:=0
def tw13437521090405001983:=0
def tw2992596054205776671:=0
def tw17146802041034786591:=0
def tw4186476606278904671:=0
def tw5280650181259540319:=0
def tw9008158029545073535:=0
def tw7048447517680033663:=0
def tw14240431072549559167:=0
def tw6092471795000254431:=0
def tw16546279930608895999:=0
def tw7778759396314311679:=0
end PySem.W.Fast
open PySem.W
set_option maxRecDepth 100000 in
set_option maxHeartbeats 0 in
theorem PySem.Challenge.cw_cratefit_k76_deeds_at_the_desk_holds : PySem.Challenge.rw_cratefit_k76_deeds_at_the_desk.Holds := by
 w_on; o_law; k_head; (case hw => w_witness2)
 k_fill
 refine Law.walk rfl (fun w h Y => PySem.W.km_in_of Y) ?F
 case F =>
  intro w mg fa h KX G hmg
  refine' Law.all_mk KX G hmg ?y_is_whole ?y_check_side ?y_is_number_of ?a_made_ware ?l_made_ware ?df_made_ware ?c_made_ware ?k_made_ware ?y_made_box ?y_shown_ware ?y_shown_case ?y_read_number ?y_read_sides ?y_read_ware ?y_read_box ?y_read_case ?y_read_rest ?y_l_cell ?y_l_whole ?y_l_ware_row ?y_l_case_row ?y_l_side ?y_l_drawn_ware ?y_l_start ?a_Desk___init__ ?i_Desk___init__ ?l_Desk___init__ ?df_Desk___init__ ?c_Desk___init__ ?k_Desk___init__ ?y_l_begun ?y_l_deed ?a_Desk_steps ?i_Desk_steps ?l_Desk_steps ?c_Desk_steps ?k_Desk_steps ?a_Desk_case ?i_Desk_case ?l_Desk_case ?c_Desk_case ?k_Desk_case ?y_l_seen ?a_Desk_changed ?i_Desk_changed ?l_Desk_changed ?c_Desk_changed ?k_Desk_changed ?a_Desk_done ?i_Desk_done ?l_Desk_done ?c_Desk_done ?k_Desk_done ?a_Desk_undone ?i_Desk_undone ?l_Desk_undone ?c_Desk_undone ?k_Desk_undone ?a_Desk_do ?i_Desk_do ?l_Desk_do ?c_Desk_do ?k_Desk_do ?a_law ?l_law ?c_law ?k_law ?mk_Desk ?kc_Desk ?z_any ?z_bool ?z_int ?z_isinstance ?z_len ?z_list ?z_range ?z_str ?m_BadSide ?m_BestShelver ?m_Desk ?m_FirstShelver ?m_Floors ?m_Full ?m_Heavy ?m_Matched ?m_Nested ?m_NoDeed ?m_NoText ?m_NoWare ?m_NothingDone ?m_Parts ?m_Shelver ?m_Way ?m_Weighing ?x_BadSide ?x_NoDeed ?x_NoText ?g_FIGURES ?g_MOST_FIGURES_desk ?g_MOST_FIGURES_texts ?g_MOST_WARES_desk ?t_exo_BadSide_BadSide ?t_exo_BadSide_NoText ?t_exo_Full_BadSide ?t_exo_Full_NoText ?t_exo_NoDeed_BadSide ?t_exo_NoDeed_NoText ?t_exo_NoText_BadSide ?t_exo_NoText_NoText ?t_exo_NoWare_BadSide ?t_exo_NoWare_NoText ?t_exo_NothingDone_BadSide ?t_exo_NothingDone_NoText ?cl_Weighing1 ?cl_Weighing2 ?cl_Weighing3 ?cl_Weighing4 ?n_Weighing_side ?cl_Floors1 ?cl_Floors2 ?cl_Floors3 ?cl_Floors4 ?n_Floors_side ?n_Floors_step ?cl_Heavy1 ?cl_Heavy2 ?cl_Heavy3 ?cl_Heavy4 ?n_Heavy_side ?n_Heavy_step ?cl_Parts1 ?cl_Parts2 ?cl_Parts3 ?cl_Parts4 ?n_Parts_side ?n_Parts_step ?cl_Matched1 ?cl_Matched2 ?cl_Matched3 ?cl_Matched4 ?n_Matched_side ?n_Matched_step ?cl_Nested1 ?cl_Nested2 ?cl_Nested3 ?cl_Nested4 ?n_Nested_side ?n_Nested_inner ?n_Nested_outer ?cl_Way1 ?cl_Way2 ?cl_Way3 ?cl_Way4 ?n_Way_lies ?n_Way_across ?n_Way_up ?cl_Shelver1 ?cl_Shelver2 ?cl_Shelver3 ?cl_Shelver4 ?cl_FirstShelver1 ?cl_FirstShelver2 ?cl_FirstShelver3 ?cl_FirstShelver4 ?cl_BestShelver1 ?cl_BestShelver2 ?cl_BestShelver3 ?cl_BestShelver4 ?cl_Desk1 ?cl_Desk2 ?cl_Desk3 ?cl_Desk4 ?n_Desk_box ?n_Desk_wares ?n_Desk_past
  (case m_BestShelver => k_is)
  (case m_Desk => k_is)
  (case m_FirstShelver => k_is)
  (case m_Floors => k_is)
  (case m_Heavy => k_is)
  (case m_Matched => k_is)
  (case m_Nested => k_is)
  (case m_Parts => k_is)
  (case m_Shelver => k_is)
  (case m_Way => k_is)
  (case m_Weighing => k_is)
  (case y_is_whole => apply L2.fxd_mk; k_is; k_is; k_is; k_is)
  (case y_check_side => apply L2.fxd_mk; k_is; k_is; k_is; k_is)
  (case y_is_number_of => apply L2.fxd_mk; k_is; k_is; k_is; k_is)
  (case a_made_ware => k_is)
  (case l_made_ware => k_is)
  (case df_made_ware => k_is)
  (case c_made_ware => k_is)
  (case k_made_ware => k_is)
  (case y_made_box => apply L2.fxd_mk; k_is; k_is; k_is; k_is)
  (case y_shown_ware => apply L2.fxd_mk; k_is; k_is; k_is; k_is)
  (case y_shown_case => apply L2.fxd_mk; k_is; k_is; k_is; k_is)
  (case y_read_number => apply L2.fxd_mk; k_is; k_is; k_is; k_is)
  (case y_read_sides => apply L2.fxd_mk; k_is; k_is; k_is; k_is)
  (case y_read_ware => apply L2.fxd_mk; k_is; k_is; k_is; k_is)
  (case y_read_box => apply L2.fxd_mk; k_is; k_is; k_is; k_is)
  (case y_read_case => apply L2.fxd_mk; k_is; k_is; k_is; k_is)
  (case y_read_rest => apply L2.fxd_mk; k_is; k_is; k_is; k_is)
  (case y_l_cell => apply L2.fxd_mk; k_is; k_is; k_is; k_is)
  (case y_l_whole => apply L2.fxd_mk; k_is; k_is; k_is; k_is)
  (case y_l_ware_row => apply L2.fxd_mk; k_is; k_is; k_is; k_is)
  (case y_l_case_row => apply L2.fxd_mk; k_is; k_is; k_is; k_is)
  (case y_l_side => apply L2.fxd_mk; k_is; k_is; k_is; k_is)
  (case y_l_drawn_ware => apply L2.fxd_mk; k_is; k_is; k_is; k_is)
  (case y_l_start => apply L2.fxd_mk; k_is; k_is; k_is; k_is)
  (case a_Desk___init__ => k_is)
  (case i_Desk___init__ => k_is)
  (case l_Desk___init__ => k_is)
  (case df_Desk___init__ => k_is)
  (case c_Desk___init__ => k_is)
  (case k_Desk___init__ => k_is)
  (case y_l_begun => apply L2.fxd_mk; k_is; k_is; k_is; k_is)
  (case y_l_deed => apply L2.fxd_mk; k_is; k_is; k_is; k_is)
  (case a_Desk_steps => k_is)
  (case i_Desk_steps => k_is)
  (case l_Desk_steps => k_is)
  (case c_Desk_steps => k_is)
  (case k_Desk_steps => k_is)
  (case a_Desk_case => k_is)
  (case i_Desk_case => k_is)
  (case l_Desk_case => k_is)
  (case c_Desk_case => k_is)
  (case k_Desk_case => k_is)
  (case y_l_seen => apply L2.fxd_mk; k_is; k_is; k_is; k_is)
  (case a_Desk_changed => k_is)
  (case i_Desk_changed => k_is)
  (case l_Desk_changed => k_is)
  (case c_Desk_changed => k_is)
  (case k_Desk_changed => k_is)
  (case a_Desk_done => k_is)
  (case i_Desk_done => k_is)
  (case l_Desk_done => k_is)
  (case c_Desk_done => k_is)
  (case k_Desk_done => k_is)
  (case a_Desk_undone => k_is)
  (case i_Desk_undone => k_is)
  (case l_Desk_undone => k_is)
  (case c_Desk_undone => k_is)
  (case k_Desk_undone => k_is)
  (case a_Desk_do => k_is)
  (case i_Desk_do => k_is)
  (case l_Desk_do => k_is)
  (case c_Desk_do => k_is)
  (case k_Desk_do => k_is)
  (case a_law => k_is)
  (case l_law => k_is)
  (case c_law => k_is)
  (case k_law => k_is)
  (case mk_Desk => k_is)
  (case kc_Desk => k_is)
  (case z_any => k_is)
  (case z_bool => k_is)
  (case z_int => k_is)
  (case z_isinstance => k_is)
  (case z_len => k_is)
  (case z_list => k_is)
  (case z_range => k_is)
  (case z_str => k_is)
  (case m_BadSide => k_is)
  (case m_Full => k_is)
  (case m_NoDeed => k_is)
  (case m_NoText => k_is)
  (case m_NoWare => k_is)
  (case m_NothingDone => k_is)
  (case x_BadSide => kernel_rfl)
  (case x_NoDeed => kernel_rfl)
  (case x_NoText => kernel_rfl)
  (case g_FIGURES => k_is)
  (case g_MOST_FIGURES_desk => k_is)
  (case g_MOST_FIGURES_texts => k_is)
  (case g_MOST_WARES_desk => k_is)
  (case t_exo_BadSide_BadSide => kts_exm)
  (case t_exo_BadSide_NoText => kts_exm)
  (case t_exo_Full_BadSide => kts_exm)
  (case t_exo_Full_NoText => kts_exm)
  (case t_exo_NoDeed_BadSide => kts_exm)
  (case t_exo_NoDeed_NoText => kts_exm)
  (case t_exo_NoText_BadSide => kts_exm)
  (case t_exo_NoText_NoText => kts_exm)
  (case t_exo_NoWare_BadSide => kts_exm)
  (case t_exo_NoWare_NoText => kts_exm)
  (case t_exo_NothingDone_BadSide => kts_exm)
  (case t_exo_NothingDone_NoText => kts_exm)
  (case cl_Weighing1 => k_is)
  (case cl_Weighing2 => k_is)
  (case cl_Weighing3 => k_is)
  (case cl_Weighing4 => k_is)
  (case n_Weighing_side => k_is)
  (case cl_Floors1 => k_is)
  (case cl_Floors2 => k_is)
  (case cl_Floors3 => k_is)
  (case cl_Floors4 => k_is)
  (case n_Floors_side => k_is)
  (case n_Floors_step => k_is)
  (case cl_Heavy1 => k_is)
  (case cl_Heavy2 => k_is)
  (case cl_Heavy3 => k_is)
  (case cl_Heavy4 => k_is)
  (case n_Heavy_side => k_is)
  (case n_Heavy_step => k_is)
  (case cl_Parts1 => k_is)
  (case cl_Parts2 => k_is)
  (case cl_Parts3 => k_is)
  (case cl_Parts4 => k_is)
  (case n_Parts_side => k_is)
  (case n_Parts_step => k_is)
  (case cl_Matched1 => k_is)
  (case cl_Matched2 => k_is)
  (case cl_Matched3 => k_is)
  (case cl_Matched4 => k_is)
  (case n_Matched_side => k_is)
  (case n_Matched_step => k_is)
  (case cl_Nested1 => k_is)
  (case cl_Nested2 => k_is)
  (case cl_Nested3 => k_is)
  (case cl_Nested4 => k_is)
  (case n_Nested_side => k_is)
  (case n_Nested_inner => k_is)
  (case n_Nested_outer => k_is)
  (case cl_Way1 => k_is)
  (case cl_Way2 => k_is)
  (case cl_Way3 => k_is)
  (case cl_Way4 => k_is)
  (case n_Way_lies => k_is)
  (case n_Way_across => k_is)
  (case n_Way_up => k_is)
  (case cl_Shelver1 => k_is)
  (case cl_Shelver2 => k_is)
  (case cl_Shelver3 => k_is)
  (case cl_Shelver4 => k_is)
  (case cl_FirstShelver1 => k_is)
  (case cl_FirstShelver2 => k_is)
  (case cl_FirstShelver3 => k_is)
  (case cl_FirstShelver4 => k_is)
  (case cl_BestShelver1 => k_is)
  (case cl_BestShelver2 => k_is)
  (case cl_BestShelver3 => k_is)
  (case cl_BestShelver4 => k_is)
  (case cl_Desk1 => k_is)
  (case cl_Desk2 => k_is)
  (case cl_Desk3 => k_is)
  (case cl_Desk4 => k_is)
  (case n_Desk_box => k_is)
  (case n_Desk_wares => k_is)
  (case n_Desk_past => k_is)
