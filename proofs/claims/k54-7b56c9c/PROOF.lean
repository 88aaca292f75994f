import PyProof.Rows.All
import Wide.All
import OpenK.AllK
import Wide.FinOn
import Lean
import PyProof.EqAt
import PyProof.EqKinds
import PyProof.TupleCall
import KE.KLam
import KE.KSortKey
import PyProof.ListRange
import PyProof.CollectIter
import PySem.Challenge.RW_cratefit_k54_no_free_place_is_less
set_option Elab.async false
set_option linter.all false
set_option maxRecDepth 100000
namespace L2
open PySem PySem.Spec PyProof.Rows
abbrev Key := Sum Int Str
def keyIs : Key → Value → Bool
 | .inl k, v => Value.isInt k v
 | .inr x, v => Value.isStrOf x v
def keyH (w : World) : Key → Int
 | .inl k => hashInt k
 | .inr x => hashStr w x
theorem keyIs_shape : ∀ {k : Key} {v : Value}, keyIs k v = true → (∃ i t, k = Sum.inl i ∧ v = Value.int i t) ∨ (∃ x t, k = Sum.inr x ∧ v = Value.str x t)
 | .inl i, v, h => by
  obtain ⟨t, e⟩ := Value.isInt_shape (k := i) (v := v) h
  exact .inl ⟨i, t, rfl, e⟩
 | .inr x, v, h => by
  obtain ⟨t, e⟩ := Value.isStrOf_shape (x := x) (v := v) h
  exact .inr ⟨x, t, rfl, e⟩
theorem key_ll (a b : Int) : decide ((Sum.inl a : Key) = Sum.inl b) = (a == b) := by
 by_cases e : a = b
 ·subst e; simp
 ·have h : ¬ (Sum.inl a : Key) = Sum.inl b := fun q => e (Sum.inl.inj q)
  rw [decide_eq_false h]
  exact (beq_eq_false_iff_ne.mpr e).symm
theorem key_rr (a b : Str) : decide ((Sum.inr a : Key) = Sum.inr b) = decide (a = b) := by
 by_cases e : a = b
 ·subst e; simp
 ·have h : ¬ (Sum.inr a : Key) = Sum.inr b := fun q => e (Sum.inr.inj q)
  rw [decide_eq_false h, decide_eq_false e]
theorem key_lr (a : Int) (b : Str) : decide ((Sum.inl a : Key) = Sum.inr b) = false := decide_eq_false (fun q => nomatch q)
theorem key_rl (a : Str) (b : Int) : decide ((Sum.inr a : Key) = Sum.inl b) = false := decide_eq_false (fun q => nomatch q)
def mixKind (prog : Program) (w : World) : PySem.KeyKind prog w Key where
 is := keyIs
 hash := keyH w
 inj := fun v a b ha hb => by
  rcases keyIs_shape ha with ⟨i, t, rfl, rfl⟩ | ⟨x, t, rfl, rfl⟩
  ·rcases keyIs_shape hb with ⟨j, u, rfl, e⟩ | ⟨y, u, rfl, e⟩
   ·injection e with e1 _; rw [e1]
   ·exact nomatch e
  ·rcases keyIs_shape hb with ⟨j, u, rfl, e⟩ | ⟨y, u, rfl, e⟩
   ·exact nomatch e
   ·injection e with e1 _; rw [e1]
 byValue := fun k v h => by
  rcases keyIs_shape h with ⟨i, t, rfl, rfl⟩ | ⟨x, t, rfl, rfl⟩ <;> rfl
 pyHash := fun hv h => by
  rcases keyIs_shape hv with ⟨i, t, rfl, rfl⟩ | ⟨x, t, rfl, rfl⟩
  ·exact wpAny_pyHash_int h
  ·exact wpAny_pyHash_str h
 eqBool := fun hu hv h => by
  rcases keyIs_shape hu with ⟨i, t, rfl, rfl⟩ | ⟨x, t, rfl, rfl⟩
  ·rcases keyIs_shape hv with ⟨j, u, rfl, rfl⟩ | ⟨y, u, rfl, rfl⟩
   ·rw [key_ll] at h; exact wpAny_eqBool_int h
   ·rw [key_lr] at h; exact SeqAt.EqAt.int_str i t y u _ _ _ _ h
  ·rcases keyIs_shape hv with ⟨j, u, rfl, rfl⟩ | ⟨y, u, rfl, rfl⟩
   ·rw [key_rl] at h; exact SeqAt.EqAt.str_int x t j u _ _ _ _ h
   ·rw [key_rr] at h; exact wpAny_eqBool_str h
 «strs» := fun k x t v h => by
  rcases keyIs_shape h with ⟨i, u, rfl, e⟩ | ⟨y, u, rfl, e⟩
  ·exact nomatch e
  ·injection e with e1 _
   subst e1
   cases v <;> rfl
inductive V where
 | non | bl (b : Bool) | int (i : Int) | str (x : Str) | byt (b : Array UInt8) | flt (b : UInt64) | ref (a : Addr) | ty (n : String)
 deriving DecidableEq
def RelV : V → Value → Prop
 | .non, u => u = Value.none
 | .bl b, u => u = Value.bool b
 | .int i, u => ∃ t, u = Value.int i t
 | .str x, u => ∃ t, u = Value.str x t
 | .byt b, u => ∃ t, u = Value.bytes b t
 | .flt b, u => ∃ t, u = Value.float b t
 | .ref a, u => u = Value.ref a
 | .ty n, u => u = Value.type n
abbrev Vals : List V → List Value → Prop := Paired RelV
theorem Vals.length {xs : List V} {us : List Value} (r : Vals xs us) : xs.length = us.length := Paired.length r
theorem Vals.get : ∀ {xs : List V} {us : List Value} {i : Nat} {x : V}, Vals xs us → xs[i]? = some x → ∃ u, us[i]? = some u ∧ RelV x u
 | _, _, _, _, .nil, e => by simp at e
 | _, _, 0, _, .cons r _, e => by simp at e; subst e; exact ⟨_, rfl, r⟩
 | _, _, i + 1, x, .cons _ t, e => by
  obtain ⟨u, h1, h2⟩ := Vals.get (i := i) (x := x) t (by simpa using e)
  exact ⟨u, by simpa using h1, h2⟩
theorem Vals.set {x : V} {u : Value} (r : RelV x u) : ∀ {xs : List V} {us : List Value} (i : Nat), Vals xs us → Vals (xs.set i x) (us.set i u)
 | _, _, _, .nil => .nil
 | _, _, 0, .cons _ t => .cons r t
 | _, _, i + 1, .cons q t => .cons q (Vals.set r i t)
theorem Vals.append : ∀ {xs ys : List V} {us ws : List Value}, Vals xs us → Vals ys ws → Vals (xs ++ ys) (us ++ ws)
 | _, _, _, _, .nil, s => s
 | _, _, _, _, .cons r t, s => .cons r (Vals.append t s)
theorem Vals.take : ∀ {xs : List V} {us : List Value} (n : Nat), Vals xs us → Vals (xs.take n) (us.take n)
 | _, _, 0, _ => .nil
 | _, _, _ + 1, .nil => .nil
 | _, _, n + 1, .cons r t => .cons r (Vals.take n t)
theorem Vals.drop : ∀ {xs : List V} {us : List Value} (n : Nat), Vals xs us → Vals (xs.drop n) (us.drop n)
 | _, _, 0, r => r
 | _, _, _ + 1, .nil => .nil
 | _, _, n + 1, .cons _ t => Vals.drop n t
def RelO : Option V → Option Value → Prop
 | some v, some u => RelV v u
 | none, none => True
 | _, _ => False
def KV {κ : Type} : List (κ × V) → List (κ × Value) → Prop := Paired fun (p : κ × V) (q : κ × Value) => p.1 = q.1 ∧ RelV p.2 q.2
def kV : Key → V
 | .inl i => .int i
 | .inr x => .str x
inductive HO where
 /-- a list -/
 | lst (xs : List V)
 /-- a tuple (never changes) -/
 | tup (xs : List V)
 /-- a dict whose keys are ints and texts; one whose keys are tuples of ints and texts (the empty one is both) -/
 | dK (kvs : List (Key × V)) | dT (kvs : List (List Key × V))
 /-- a set of ints: its members, its size -/
 | set (S : Int → Bool) (n : Nat)
 /-- an instance of the class at C, its dict at dx, its attributes -/
 | ins (C dx : Addr) (fs : List (Str × V))
 /-- the dict of the instance at x -/
 | own (x : Addr)
 /-- the dict of an exception -/
 | xd (fs : List (Str × V))
 /-- a bound method, f of x -/
 | met (f x : Addr)
 /-- a range object lo, lo + 1, .. below hi -/
 | rng (lo hi : Int)
 /-- a thing that is known to the object (the script; a dict while a loop walks it): read, never written while it is so -/
 | frz (o : Obj) (u : HO)
 /-- a code object's table -/
 | tbl (ps : Array Value)
 /-- any other thing, by what is true of its one object (a def of one's own: SetO a S n := HO.ext fun h => ..) -/
 | ext (φ : Heap → Prop)
abbrev Hp := Addr → Option HO
def upd (H : Hp) (a : Addr) (o : HO) : Hp := fun b => if b = a then some o else H b
theorem upd_same {H : Hp} {a : Addr} {o : HO} : upd H a o a = some o := by unfold upd; rw [if_pos rfl]
theorem upd_ne {H : Hp} {a b : Addr} {o : HO} (h : b ≠ a) : upd H a o b = H b := by unfold upd; rw [if_neg h]
theorem ne_of {H : Hp} {a b : Addr} {o u : HO} (h : H a = some o) (h' : H b = some u) (d : o ≠ u) : a ≠ b := by
 intro e; subst e; rw [h] at h'; exact d (Option.some.inj h')
theorem ne_of_none {H : Hp} {a b : Addr} {o : HO} (h : H a = some o) (h' : H b = none) : a ≠ b := by
 intro e; subst e; rw [h] at h'; cases h'
section
variable (P : Program) (w : World)
def ObjOk (H : Hp) (h : Heap) (a : Addr) : HO → Prop
 | .lst xs => xs.length ≤ sizeLine ∧ ∃ (its : List Value) (n : Nat), Vals xs its ∧ h.get? a = some { cls := .type "list", data := .seq its.toArray n }
 | .tup xs => xs.length ≤ sizeLine ∧ ∃ its : List Value, Vals xs its ∧ IsTup h a its.toArray
 | .dK kvs => kvs.length ≤ sizeLine ∧ (a == sysModules) = false ∧ ∃ vs, KV kvs vs ∧ h.DictOf (mixKind P w) a vs
 | .dT kvs => kvs.length ≤ sizeLine ∧ (a == sysModules) = false ∧ ∃ xs : List (List Key × Addr × Value),
   Paired (fun (p : List Key × V) (q : List Key × Addr × Value) => p.1 = q.1 ∧ H q.2.1 = some (.tup (p.1.map kV)) ∧ RelV p.2 q.2.2) kvs xs ∧
   ∃ o es ep, h.get? a = some o ∧ o.ExactDict ∧ o.data = .dict es ep ∧ es.toList = xs.map (entryOfKey (tupleKind (mixKind P w))) ∧ (xs.map (·.1)).Nodup
 | .set S n => h.SetOf (intKind P w) a S n
 | .ins C dx fs => H dx = some (.own a) ∧ fs.length ≤ 1000 ∧ dx ≠ a ∧ h.get? a = some (W.instObj C dx) ∧
   ∃ mA, h.Ns1 dx mA ∧ (∀ f, RelO (fs.lookup f) (mA f)) ∧ PySem.Within mA (fs.map (·.1))
 | .own _ => ∃ o, h.get? a = some o
 | .xd fs => ∃ mA, h.Ns1 a mA ∧ ∀ f, RelO (fs.lookup f) (mA f)
 | .rng lo hi => ∃ t u v, h.get? a = some { cls := .type "range", data := .fields #[.int lo t, .int hi u, .int 1 v] }
 | .frz o u => h.get? a = some o ∧ ObjOk H h a u
 | .tbl qs => ∃ ps : Array Value, h.get? a = some { cls := .none, data := .fields ps } ∧ TriplesOk ps.toList ∧ ∀ pos cv, codeAmong pos ps.toList = some cv → ∃ c oc u, cv = Value.ref c ∧ H c = some (.frz oc u) ∧ ∃ vs q t t2, oc.data = .fields vs ∧ vs[1]? = some (Value.str q t2) ∧ qs[0]? = some (Value.str q t)
 | .met f x => h.get? a = some (W.methodObj (.ref f) (.ref x))
 | .ext φ => φ h ∧ (∃ o, h.get? a = some o) ∧ ∀ h1 h2 : Heap, φ h1 → (∀ o, h1.get? a = some o → h2.get? a = some o) → φ h2
def HOk (H : Hp) (h : Heap) : Prop := ∀ a o, H a = some o → ObjOk P w H h a o
end
section
variable {P : Program} {w : World} {H H' : Hp} {h h' : Heap} {a : Addr} {o : HO}
theorem ObjOk.lt (x : ObjOk P w H h a o) : a < h.objs.size := by
 cases o with
 | lst xs => obtain ⟨_, _, _, _, e⟩ := x; exact Heap.lt_size e
 | tup xs => obtain ⟨_, _, _, p⟩ := x; exact p.lt
 | dK kvs => obtain ⟨_, _, _, _, o, _, _, e, _⟩ := x; exact Heap.lt_size e
 | dT kvs => obtain ⟨_, _, _, _, o, _, _, e, _⟩ := x; exact Heap.lt_size e
 | set S n => obtain ⟨o, _, _, _, e, _⟩ := x; exact Heap.lt_size e
 | ins C dx fs => obtain ⟨_, _, _, e, _⟩ := x; exact Heap.lt_size e
 | own y => obtain ⟨_, e⟩ := x; exact Heap.lt_size e
 | xd fs => obtain ⟨_, ⟨_, _, _, e, _⟩, _⟩ := x; exact Heap.lt_size e
 | rng lo hi => obtain ⟨_, _, _, e⟩ := x; exact Heap.lt_size e
 | frz ob u => obtain ⟨e, _⟩ := x; exact Heap.lt_size e
 | tbl ps => obtain ⟨_, e, _⟩ := x; exact Heap.lt_size e
 | met f y => exact Heap.lt_size (show h.get? a = some _ from x)
 | ext φ => obtain ⟨_, ⟨_, e⟩, _⟩ := x; exact Heap.lt_size e
theorem Paired.mapP {α β : Type} {F G : α → β → Prop} : ∀ {l₁ : List α} {l₂ : List β}, Paired F l₁ l₂ → (∀ a b, F a b → G a b) → Paired G l₁ l₂
 | _, _, .nil, _ => .nil
 | _, _, .cons r t, f => .cons (f _ _ r) (Paired.mapP t f)
theorem ObjOk.stay (x : ObjOk P w H h a o) (k : ∀ b u, (b = a ∨ H b = some (.own a)) → h.get? b = some u → h'.get? b = some u)
  (ho : ∀ b, H b = some (.own a) → H' b = some (.own a)) (ht : ∀ b xs, H b = some (.tup xs) → H' b = some (.tup xs)) (hz : ∀ b ob u, H b = some (.frz ob u) → H' b = some (.frz ob u)) : ObjOk P w H' h' a o := by
 induction o with
 | lst xs => obtain ⟨z, its, n, r, e⟩ := x; exact ⟨z, its, n, r, k _ _ (.inl rfl) e⟩
 | tup xs => obtain ⟨z, its, r, ob, e, c⟩ := x; exact ⟨z, its, r, ob, k _ _ (.inl rfl) e, c⟩
 | dK kvs => obtain ⟨z, y, vs, r, ob, es, ep, e, c⟩ := x; exact ⟨z, y, vs, r, ob, es, ep, k _ _ (.inl rfl) e, c⟩
 | dT kvs =>
  obtain ⟨z, y, xs, r, ob, es, ep, e, c⟩ := x
  exact ⟨z, y, xs, Paired.mapP r fun p q z => ⟨z.1, ht _ _ z.2.1, z.2.2⟩, ob, es, ep, k _ _ (.inl rfl) e, c⟩
 | set S n => obtain ⟨ob, es, ep, t, e, c⟩ := x; exact ⟨ob, es, ep, t, k _ _ (.inl rfl) e, c⟩
 | ins C dx fs =>
  obtain ⟨d, z, ne, e, mA, ⟨od, es, ep, e2, c⟩, r⟩ := x
  exact ⟨ho _ d, z, ne, k _ _ (.inl rfl) e, mA, ⟨od, es, ep, k _ _ (.inr d) e2, c⟩, r⟩
 | own y => obtain ⟨ob, e⟩ := x; exact ⟨ob, k _ _ (.inl rfl) e⟩
 | xd fs => obtain ⟨mA, ⟨od, es, ep, e, c⟩, r⟩ := x; exact ⟨mA, ⟨od, es, ep, k _ _ (.inl rfl) e, c⟩, r⟩
 | rng lo hi => obtain ⟨t, u, v, e⟩ := x; exact ⟨t, u, v, k _ _ (.inl rfl) e⟩
 | frz ob u ih => obtain ⟨e, q⟩ := x; exact ⟨k _ _ (.inl rfl) e, ih q⟩
 | tbl qs =>
  obtain ⟨ps, e, tr, al⟩ := x
  refine ⟨ps, k a _ (.inl rfl) e, tr, fun pos cv q => ?_⟩
  obtain ⟨c, oc, u, e1, e3, r⟩ := al pos cv q
  exact ⟨c, oc, u, e1, hz _ _ _ e3, r⟩
 | met f y =>
  have e : h.get? a = some (W.methodObj (.ref f) (.ref y)) := x
  show h'.get? a = some (W.methodObj (.ref f) (.ref y))
  exact k a _ (.inl rfl) e
 | ext φ => obtain ⟨p, ⟨o, e⟩, st⟩ := x; exact ⟨st _ _ p fun o q => k _ _ (.inl rfl) q, ⟨o, k _ _ (.inl rfl) e⟩, st⟩
theorem HOk.lt (x : HOk P w H h) (e : H a = some o) : a < h.objs.size := (x a o e).lt
theorem HOk.fresh (x : HOk P w H h) (e : h.objs.size ≤ a) : H a = none := by
 cases q : H a with
 | none => rfl
 | some u => exact absurd (Nat.lt_of_lt_of_le (x.lt q) e) (Nat.lt_irrefl _)
theorem HOk.kept (x : HOk P w H h) (k : ∀ b u, h.get? b = some u → h'.get? b = some u) : HOk P w H h' := fun a o e =>
 (x a o e).stay (fun b u _ q => k b u q) (fun _ q => q) (fun _ _ q => q) fun _ _ _ q => q
theorem HOk.laid (x : HOk P w H h) (k : ∀ b u, h.get? b = some u → h'.get? b = some u) (hp : h.objs.size ≤ a) (new : ObjOk P w (upd H a o) h' a o) : HOk P w (upd H a o) h' := fun b u e => by
 have hn := x.fresh hp
 by_cases hb : b = a
 ·subst hb; rw [upd_same] at e; cases e; exact new
 ·rw [upd_ne hb] at e
  exact (x b u e).stay (fun c v _ q => k c v q) (fun c q => by rw [upd_ne (ne_of_none q hn)]; exact q) (fun c xs q => by rw [upd_ne (ne_of_none q hn)]; exact q) fun c ob u q => by rw [upd_ne (ne_of_none q hn)]; exact q
end
def Rd (H : Hp) (a : Addr) (u : HO) : Prop := H a = some u ∨ ∃ o, H a = some (.frz o u)
theorem Rd.of {H : Hp} {a : Addr} {u : HO} (h : H a = some u) : Rd H a u := .inl h
theorem Rd.ok {P : Program} {w : World} {H : Hp} {h : Heap} {a : Addr} {u : HO} (r : Rd H a u) (x : HOk P w H h) : ObjOk P w H h a u := by
 rcases r with r | ⟨o, r⟩
 ·exact x a u r
 ·obtain ⟨_, q⟩ := x a _ r
  exact q
def Mut : Option HO → Prop
 | some (.lst _) => True
 | some (.dK _) => True
 | some (.dT _) => True
 | some (.set _ _) => True
 | some (.ins _ _ _) => True
 | some (.ext _) => True
 | _ => False
section
variable {P : Program} {w : World} {H : Hp} {h h' : Heap} {x e : Addr} {o' : HO}
theorem HOk.write (ok : HOk P w H h) (mu : Mut (H x)) (he : e = x ∨ H e = some (.own x)) (k : ∀ b u, b ≠ e → h.get? b = some u → h'.get? b = some u) (heo : ∃ u, h'.get? e = some u)
  (new : ObjOk P w (upd H x o') h' x o') : HOk P w (upd H x o') h' := fun b u q => by
 have nown : ∀ c y, H c = some (.own y) → c ≠ x := fun c y r z => by subst z; rw [r] at mu; exact mu
 have ntup : ∀ c xs, H c = some (.tup xs) → c ≠ x := fun c xs r z => by subst z; rw [r] at mu; exact mu
 by_cases hb : b = x
 ·subst hb; rw [upd_same] at q; cases q; exact new
 ·rw [upd_ne hb] at q
  by_cases hbe : b = e
  ·have q' : H b = some (.own x) := by
    rcases he with z | z
    ·exact absurd (hbe.trans z) hb
    ·rw [hbe]; exact z
   rw [q] at q'; cases q'
   obtain ⟨v, hv⟩ := heo
   exact ⟨v, by rw [hbe]; exact hv⟩
  ·refine (ok b u q).stay (fun c v hc r => k c v ?_ r) (fun c r => by rw [upd_ne (nown c b r)]; exact r) (fun c xs r => by rw [upd_ne (ntup c xs r)]; exact r) fun c ob u r => by rw [upd_ne (fun z => by subst z; rw [r] at mu; exact mu)]; exact r
   rcases hc with rfl | hc
   ·exact hbe
   ·rintro rfl
    rcases he with z | z
    ·exact nown c b hc z
    ·rw [hc] at z; cases z; exact hb rfl
end
structure Un (fs ex : List Addr) (H H' : Hp) (h h' : Heap) : Prop where
 keep : ∀ b o, h.get? b = some o → H b = none → b ∉ fs → b ∉ ex → h'.get? b = some o
 slot : ∀ b o, h.get? b = some o → H b = none → b ∈ fs → b ∉ ex → ∃ sl, h'.get? b = some { o with slots := sl }
 free : ∀ b o, h.get? b = some o → H b = none → b ∉ ex → H' b = none
 there : ∀ b o, h.get? b = some o → b ∉ ex → ∃ o', h'.get? b = some o'
 tups : ∀ b xs, H b = some (.tup xs) → H' b = some (.tup xs)
 frzs : ∀ b o u, H b = some (.frz o u) → H' b = some (.frz o u)
 tbls : ∀ b ps, H b = some (.tbl ps) → ∃ more, H' b = some (.tbl (ps ++ more))
section
variable {fs fs' ex ex' : List Addr} {H H1 H2 : Hp} {h h1 h2 h' : Heap} {a x e : Addr} {o : HO}
theorem Un.any (u : Un fs ex H H1 h h1) {b : Addr} {ob : Obj} (q : h.get? b = some ob) (n : H b = none) (hx : b ∉ ex) : ∃ sl, h1.get? b = some { ob with slots := sl } := by
 by_cases hb : b ∈ fs
 ·exact u.slot b ob q n hb hx
 ·exact ⟨ob.slots, u.keep b ob q n hb hx⟩
theorem Un.trans (a : Un fs ex H H1 h h1) (b : Un fs ex H1 H2 h1 h2) : Un fs ex H H2 h h2 where
 keep := fun c ob q n hc hx => b.keep c ob (a.keep c ob q n hc hx) (a.free c ob q n hx) hc hx
 slot := fun c ob q n hc hx => by
  obtain ⟨sl, e1⟩ := a.slot c ob q n hc hx
  obtain ⟨sl', e2⟩ := b.slot c _ e1 (a.free c ob q n hx) hc hx
  exact ⟨sl', e2⟩
 free := fun c ob q n hx => by
  obtain ⟨o', e1⟩ := a.there c ob q hx
  exact b.free c o' e1 (a.free c ob q n hx) hx
 there := fun c ob q hx => by
  obtain ⟨o', e1⟩ := a.there c ob q hx
  exact b.there c o' e1 hx
 tups := fun c xs q => b.tups c xs (a.tups c xs q)
 frzs := fun c ob xs q => b.frzs c ob xs (a.frzs c ob xs q)
 tbls := fun c ps q => by
  obtain ⟨m1, e1⟩ := a.tbls c ps q
  obtain ⟨m2, e2⟩ := b.tbls c _ e1
  exact ⟨m1 ++ m2, by rw [e2, Array.append_assoc]⟩
theorem Un.kept (k : ∀ b u, h.get? b = some u → h'.get? b = some u) : Un fs ex H H h h' :=
 ⟨fun b ob q _ _ _ => k b ob q, fun b ob q _ _ _ => ⟨ob.slots, k b ob q⟩, fun _ _ _ n _ => n, fun b ob q _ => ⟨ob, k b ob q⟩, fun _ _ q => q, fun _ _ _ q => q, fun _ ps q => ⟨#[], by rw [q]; simp⟩⟩
theorem Un.refl : Un fs ex H H h h := Un.kept fun _ _ q => q
theorem Un.laid (k : ∀ b u, h.get? b = some u → h'.get? b = some u) (hp : h.objs.size ≤ a) (hn : H a = none) : Un fs ex H (upd H a o) h h' where
 keep := fun b u q _ _ _ => k b u q
 slot := fun b u q _ _ _ => ⟨u.slots, k b u q⟩
 free := fun b u q n _ => by rw [upd_ne (Nat.ne_of_lt (Nat.lt_of_lt_of_le (Heap.lt_size q) hp))]; exact n
 there := fun b u q _ => ⟨u, k b u q⟩
 tups := fun b xs q => by rw [upd_ne (ne_of_none q hn)]; exact q
 frzs := fun b u xs q => by rw [upd_ne (ne_of_none q hn)]; exact q
 tbls := fun b ps q => ⟨#[], by rw [upd_ne (ne_of_none q hn), q]; simp⟩
theorem Un.write (mu : Mut (H x)) (he : e = x ∨ H e = some (.own x)) (k : ∀ b u, b ≠ e → h.get? b = some u → h'.get? b = some u) (heo : ∃ u, h'.get? e = some u) : Un fs ex H (upd H x o) h h' := by
 have hx : ∀ b, H b = none → b ≠ x := fun b n z => by subst z; rw [n] at mu; exact mu
 have hb : ∀ b, H b = none → b ≠ e := fun b n z => by
  subst z
  rcases he with r | r
  ·exact hx b n r
  ·rw [n] at r; cases r
 have hm : ∀ b u, H b = some u → ¬ Mut (some u) → b ≠ x := fun b u q nm z => by subst z; rw [q] at mu; exact nm mu
 refine ⟨fun b u q n _ _ => k b u (hb b n) q, fun b u q n _ _ => ⟨u.slots, k b u (hb b n) q⟩, fun b u q n _ => by rw [upd_ne (hx b n)]; exact n, fun b u q _ => ?_,
  fun b xs q => by rw [upd_ne (hm b _ q fun z => z)]; exact q, fun b u xs q => by rw [upd_ne (hm b _ q fun z => z)]; exact q, fun b ps q => ⟨#[], by rw [upd_ne (hm b _ q fun z => z), q]; simp⟩⟩
 by_cases hbe : b = e
 ·subst hbe; exact heo
 ·exact ⟨u, k b u hbe q⟩
theorem Un.mono (u : Un fs ex H H1 h h1) (hs : ∀ b ∈ fs, b ∈ fs') (hx : ∀ b ∈ ex, b ∈ ex') : Un fs' ex' H H1 h h1 :=
 ⟨fun b ob q n hb he => u.keep b ob q n (fun z => hb (hs b z)) fun z => he (hx b z), fun _ _ q n _ he => u.any q n fun z => he (hx _ z), fun b ob q n he => u.free b ob q n fun z => he (hx b z), fun b ob q he => u.there b ob q fun z => he (hx b z), u.tups, u.frzs, u.tbls⟩
end
def trk (h : Heap) (H : Hp) : List Addr := (List.range h.objs.size).filter fun a => (H a).isSome
def hidT (h : Heap) (H : Hp) : Heap := W.hideAll h (trk h H)
theorem hidT_size (h : Heap) (H : Hp) : (hidT h H).objs.size = h.objs.size := W.hideAll_size _ _
theorem hidT_get {h : Heap} {H : Hp} {b : Addr} {o : Obj} (e : h.get? b = some o) (n : H b = none) : (hidT h H).get? b = some o :=
 W.hideAll_get _ e fun hm => by
  have q : (H b).isSome = true := (List.mem_filter.mp hm).2
  rw [n] at q; simp at q
theorem of_hidT {h : Heap} {H : Hp} {b : Addr} {o : Obj} (e : (hidT h H).get? b = some o) : h.get? b = some o ∧ H b = none := by
 have e' : h.get? b = some o := W.of_hideAll (trk h H) e
 refine ⟨e', ?_⟩
 cases q : H b with
 | none => rfl
 | some x =>
  have hm : b ∈ trk h H := List.mem_filter.mpr ⟨List.mem_range.mpr (Heap.lt_size e'), by simp [q]⟩
  have z : (hidT h H).get? b = none := W.hideAll_none (trk h H) hm
  rw [z] at e; cases e
def allNews (g h : Heap) (L : Addr) : List (Addr × Obj) := (List.range h.objs.size).filterMap fun a => if a = L ∨ (g.get? a).isSome = true then none else (h.get? a).map fun o => (a, o)
def rest (g h : Heap) (L d : Addr) : List (Addr × Obj) := (allNews g h L).filter fun p => decide (p.1 ≠ d)
structure Mod (K : W.Frag) (mg : Str → Option Value) (base : Heap) : Prop where
 kin : K.In base
 glob : base.Ns mainGlobals mg
 blt : ∃ mb, base.Ns builtinsNs mb ∧ ∀ x : Str, x ≠ "__name__" → mb x = bootBuiltins x
 nolimit : base.NoLimit
structure Cx where
 prog : Program
 w : World
 K : W.Frag
 mg : Str → Option Value
 base : Heap
 A : Around
 N : List Str
 s₀ : Shared
 H₀ : Hp
 env : Env
 outer : List Env
 stack : List Env
 ex : List Addr
 fn : Str → Bool
 calm : Bool
 pn : List (Addr × Obj)
 xe : Value → Shared → Prop
def frs (l : List Env) : List Addr := l.filterMap (·.frame)
abbrev Cx.fs (X : Cx) : List Addr := frs X.outer
def Vis (sc : Scope) (x : Str) : Prop := sc.names.lookup x = some .local ∨ sc.names.lookup x = some .cell ∨ sc.names.lookup x = some .free
def Loc (sc : Scope) (x : Str) : Prop := sc.names.lookup x = some .local ∨ sc.names.lookup x = some .cell
def Look (env : Env) (h : Heap) (m : Str → Option Value) (x : Str) (u : Value) : Prop :=
 (env.kindOf x = some .local ∧ m x = some u) ∨ ((env.kindOf x = some .cell ∨ env.kindOf x = some .free) ∧ ∃ c, env.cells.lookup x = some c ∧ h.IsCell c (some u))
structure Cx.Ok (X : Cx) : Prop where
 mod : Mod X.K X.mg X.base
 kind : X.env.scope.kind = .function
 glob : X.env.globals = mainGlobals
 blt : X.env.builtins = builtinsNs
 above : X.s₀.heap.objs.size ≤ X.env.locals
 inj : ∀ x y c, X.env.cells.lookup x = some c → X.env.cells.lookup y = some c → x = y
 has : ∀ x, (X.env.kindOf x = some .cell ∨ X.env.kindOf x = some .free) → ∃ c, X.env.cells.lookup x = some c
 cab : ∀ x c, X.fn x = true → X.env.cells.lookup x = some c → X.s₀.heap.objs.size ≤ c
 hd : X.calm = true → X.A.handled = none
 frames : X.A.frames = some X.stack
 stk : X.stack = X.outer ∨ (X.stack = X.env :: X.outer ∧ X.env.frame = some X.env.locals)
 exf : ∀ b ∈ X.ex, b ≠ X.env.locals ∧ ∀ x c, X.env.cells.lookup x = some c → c ≠ b
 bs : ∀ b o, X.base.get? b = some o → X.s₀.heap.get? b = some o ∧ X.H₀ b = none
 bsz : X.base.objs.size ≤ X.s₀.heap.objs.size
 noex : ∀ b o, X.base.get? b = some o → b ∉ X.ex
 exfs : ∀ b ∈ X.ex, b ∉ X.fs
 funs : X.s₀.heap.FunFrames X.base X.outer
 frf : ∀ b ∈ X.fs, X.H₀ b = none
structure Inv (X : Cx) (pins : List (Addr × Obj)) (σ : List (Option V)) (H : Hp) (s : Shared) : Prop where
 ok : X.Ok
 os : s.os = X.s₀.os
 bare : AllBare s.gens
 base : Un X.fs X.ex X.H₀ H X.s₀.heap s.heap
 loc : ∃ m, s.heap.Ns X.env.locals m ∧ ∀ (i : Nat) (x : Str) (v : V), X.N[i]? = some x → σ[i]? = some (some v) → Vis X.env.scope x → ∃ u, RelV v u ∧ Look X.env s.heap m x u
 cell : ∀ x c, X.env.cells.lookup x = some c → ∃ v, s.heap.IsCell c v
 free : H X.env.locals = none
 freeC : ∀ x c, X.env.cells.lookup x = some c → H c = none
 pin : ∀ p ∈ X.pn ++ pins, s.heap.get? p.1 = some p.2 ∧ H p.1 = none ∧ p.1 ≠ X.env.locals ∧ p.1 ∉ X.fs ∧ ∀ v, p.2.data ≠ .cell v
 hok : HOk X.prog X.w H s.heap
 len : σ.length = X.N.length
section
variable {X : Cx} {pins : List (Addr × Obj)} {σ : List (Option V)} {H H' : Hp} {s : Shared} {h' : Heap}
theorem Cx.Ok.nofr (ok : X.Ok) {b : Addr} {o : Obj} (e : X.base.get? b = some o) : b ∉ X.fs := fun hb => by
 have := (ok.funs.mem hb).1
 rw [e] at this; cases this
theorem Inv.bs (I : Inv X pins σ H s) : ∀ b o, X.base.get? b = some o → s.heap.get? b = some o ∧ H b = none := fun b o e =>
 ⟨I.base.keep b o (I.ok.bs b o e).1 (I.ok.bs b o e).2 (I.ok.nofr e) (I.ok.noex b o e), I.base.free b o (I.ok.bs b o e).1 (I.ok.bs b o e).2 (I.ok.noex b o e)⟩
theorem Inv.bk (I : Inv X pins σ H s) : ∀ b o, X.base.get? b = some o → s.heap.get? b = some o := fun b o e => (I.bs b o e).1
theorem Inv.mod (I : Inv X pins σ H s) : Mod X.K X.mg X.base := I.ok.mod
theorem Inv.kIn (I : Inv X pins σ H s) : X.K.In s.heap := I.ok.mod.kin.keeps I.bk
theorem Inv.nolimit (I : Inv X pins σ H s) : s.heap.NoLimit := I.ok.mod.nolimit.keeps I.bk
theorem Inv.fr (I : Inv X pins σ H s) : ∃ m, Fr X.base X.env.locals s.heap m :=
 let ⟨m, hn, _⟩ := I.loc
 ⟨m, hn, I.bk, Nat.le_trans I.ok.bsz I.ok.above⟩
theorem Inv.lt (I : Inv X pins σ H s) : X.env.locals < s.heap.objs.size := let ⟨_, hn, _⟩ := I.loc; hn.lt
theorem Inv.sz (I : Inv X pins σ H s) : X.s₀.heap.objs.size ≤ s.heap.objs.size := Nat.le_trans I.ok.above (Nat.le_of_lt I.lt)
theorem Inv.nofs (I : Inv X pins σ H s) {a : Addr} (h : s.heap.objs.size ≤ a) : a ∉ X.fs := fun hb => by
 obtain ⟨_, o, ho, _⟩ := I.ok.funs.mem hb
 exact absurd (Nat.lt_of_lt_of_le (Heap.lt_size ho) (Nat.le_trans I.sz h)) (Nat.lt_irrefl _)
theorem Inv.cne (I : Inv X pins σ H s) : ∀ x c, X.env.cells.lookup x = some c → c ≠ X.env.locals := fun x c e z => by
 obtain ⟨v, o, ho, hd⟩ := I.cell x c e
 obtain ⟨m, ⟨o', es, ep, ho', hd', _⟩, _⟩ := I.loc
 rw [z, ho'] at ho; cases ho; rw [hd'] at hd; cases hd
theorem Inv.funs (I : Inv X pins σ H s) : s.heap.FunFrames X.base X.outer := by
 have all : ∀ (l : List Env), (∀ b ∈ frs l, b ∈ X.fs) → X.s₀.heap.FunFrames X.base l → s.heap.FunFrames X.base l := by
  intro l
  induction l with
  | nil => intro _ _; trivial
  | cons env r ih =>
   intro hs hl
   obtain ⟨hk, ⟨L, o, hf, hn, ho, hd⟩, hr⟩ := hl
   have hL : L ∈ X.fs := hs L (by unfold frs; rw [List.filterMap_cons, hf]; exact List.mem_cons_self)
   obtain ⟨sl, e⟩ := I.base.slot L o ho (I.ok.frf L hL) hL fun z => I.ok.exfs L z hL
   exact ⟨hk, ⟨L, _, hf, hn, e, hd⟩, ih (fun b hb => hs b (by unfold frs; rw [List.filterMap_cons, hf]; exact List.mem_cons_of_mem _ hb)) hr⟩
 exact all X.outer (fun _ hb => hb) I.ok.funs
theorem Inv.stack (I : Inv X pins σ H s) : s.heap.FunFrames X.base X.stack := by
 rcases I.ok.stk with e | ⟨e, hf⟩
 ·rw [e]; exact I.funs
 ·rw [e]
  obtain ⟨m, hn, _⟩ := I.loc
  refine .cons (by rw [I.ok.kind]; decide) hf hn ?_ I.funs
  exact Heap.get?_none_of_le (Nat.le_trans I.ok.bsz I.ok.above)
theorem Inv.stkSub (I : Inv X pins σ H s) : ∀ b ∈ frs X.stack, b ∈ X.env.locals :: X.fs := fun b hb => by
 rcases I.ok.stk with e | ⟨e, hf⟩
 ·rw [e] at hb; exact List.mem_cons_of_mem _ hb
 ·rw [e] at hb
  unfold frs at hb
  rw [List.filterMap_cons, hf] at hb
  exact hb
theorem Inv.stkFree (I : Inv X pins σ H s) : ∀ b ∈ frs X.stack, H b = none := fun b hb => by
 rcases List.mem_cons.mp (I.stkSub b hb) with e | hb
 ·rw [e]; exact I.free
 ·obtain ⟨_, o, ho, _⟩ := I.ok.funs.mem hb
  exact I.base.free b o ho (I.ok.frf b hb) fun z => I.ok.exfs b z hb
theorem Inv.step {g' : Array GenState} {t' : Nat} {d' : Drawn} {ch : List Addr} (I : Inv X pins σ H s)
  (hch : ∀ b ∈ ch, (b ∈ X.ex ∨ X.s₀.heap.objs.size ≤ b) ∧ b ≠ X.env.locals ∧ (∀ x c, X.env.cells.lookup x = some c → c ≠ b) ∧ ∀ p ∈ X.pn ++ pins, p.1 ≠ b)
  (keep : ∀ b o, b ≠ X.env.locals → b ∉ X.fs → b ∉ ch → s.heap.get? b = some o → H b = none → h'.get? b = some o)
  (slot : ∀ b o, b ≠ X.env.locals → b ∈ X.fs → b ∉ ch → s.heap.get? b = some o → H b = none → ∃ sl, h'.get? b = some { o with slots := sl }) (free : ∀ b o, b ∉ ch → s.heap.get? b = some o → H b = none → H' b = none)
  (there : ∀ b o, b ∉ ch → s.heap.get? b = some o → ∃ o', h'.get? b = some o')
  (tups : ∀ b xs, H b = some (.tup xs) → H' b = some (.tup xs)) (frzs : ∀ b o u, H b = some (.frz o u) → H' b = some (.frz o u)) (tbls : ∀ b ps, H b = some (.tbl ps) → ∃ more, H' b = some (.tbl (ps ++ more)))
  (ns : ∀ m, s.heap.Ns X.env.locals m → h'.Ns X.env.locals m) (hok : HOk X.prog X.w H' h') (hg : AllBare g') :
  Inv X pins σ H' { s with heap := h', gens := g', drawn := d', toks := t' } := by
 have neL : ∀ b o, X.s₀.heap.get? b = some o → b ≠ X.env.locals := fun b o e => Nat.ne_of_lt (Nat.lt_of_lt_of_le (Heap.lt_size e) I.ok.above)
 have neC : ∀ b o, X.s₀.heap.get? b = some o → b ∉ X.ex → b ∉ ch := fun b o e hx hb => by
  rcases (hch b hb).1 with z | z
  ·exact hx z
  ·exact absurd (Nat.lt_of_lt_of_le (Heap.lt_size e) z) (Nat.lt_irrefl _)
 have cellK : ∀ x c, X.env.cells.lookup x = some c → ∀ v, s.heap.IsCell c v → h'.IsCell c v := fun x c e v ⟨o, ho, hd⟩ => by
  have nch : c ∉ ch := fun z => (hch c z).2.2.1 x c e rfl
  by_cases hc : c ∈ X.fs
  ·obtain ⟨sl, q⟩ := slot c o (I.cne x c e) hc nch ho (I.freeC x c e)
   exact ⟨_, q, hd⟩
  ·exact ⟨o, keep c o (I.cne x c e) hc nch ho (I.freeC x c e), hd⟩
 refine ⟨I.ok, I.os, hg, ⟨fun b o e n hb hx => ?_, fun b o e n hb hx => ?_, fun b o e n hx => ?_, fun b o e hx => ?_, fun b xs e => tups b xs (I.base.tups b xs e), fun b o xs e => frzs b o xs (I.base.frzs b o xs e), fun b ps e => ?_⟩, ?_, fun x c e => ?_, ?_, fun x c e => ?_, fun p hp => ?_, hok, I.len⟩
 ·exact keep b o (neL b o e) hb (neC b o e hx) (I.base.keep b o e n hb hx) (I.base.free b o e n hx)
 ·obtain ⟨sl, e1⟩ := I.base.slot b o e n hb hx
  obtain ⟨sl', e2⟩ := slot b _ (neL b o e) hb (neC b o e hx) e1 (I.base.free b o e n hx)
  exact ⟨sl', e2⟩
 ·obtain ⟨o', e1⟩ := I.base.there b o e hx
  exact free b o' (neC b o e hx) e1 (I.base.free b o e n hx)
 ·obtain ⟨o', e1⟩ := I.base.there b o e hx
  exact there b o' (neC b o e hx) e1
 ·obtain ⟨m1, e1⟩ := I.base.tbls b ps e
  obtain ⟨m2, e2⟩ := tbls b _ e1
  exact ⟨m1 ++ m2, by rw [e2, Array.append_assoc]⟩
 ·obtain ⟨m, hn, hl⟩ := I.loc
  refine ⟨m, ns m hn, fun i x v e1 e2 e3 => ?_⟩
  obtain ⟨u, r, l⟩ := hl i x v e1 e2 e3
  refine ⟨u, r, ?_⟩
  rcases l with l | ⟨k, c, e, z⟩
  ·exact .inl l
  ·exact .inr ⟨k, c, e, cellK x c e _ z⟩
 ·obtain ⟨v, z⟩ := I.cell x c e
  exact ⟨v, cellK x c e v z⟩
 ·obtain ⟨m, ⟨o, _, _, ho, _⟩, _⟩ := I.loc
  exact free _ o (fun z => (hch _ z).2.1 rfl) ho I.free
 ·obtain ⟨v, o, ho, hd⟩ := I.cell x c e
  exact free c o (fun z => (hch c z).2.2.1 x c e rfl) ho (I.freeC x c e)
 ·obtain ⟨e, n, ne, nf, d⟩ := I.pin p hp
  have nch : p.1 ∉ ch := fun z => (hch p.1 z).2.2.2 p hp rfl
  exact ⟨keep p.1 p.2 ne nf nch e n, free p.1 p.2 nch e n, ne, nf, d⟩
theorem Inv.un {t' : Nat} (I : Inv X pins σ H s) (u : Un X.fs [] H H' s.heap h') (hok : HOk X.prog X.w H' h') : Inv X pins σ H' { s with heap := h', toks := t' } := by
 obtain ⟨m, ⟨o, es, ep, ho, r⟩, _⟩ := id I.loc
 obtain ⟨sl, hL⟩ := u.any ho I.free (by simp)
 exact I.step (g' := s.gens) (d' := s.drawn) (ch := []) (fun _ z => nomatch z) (fun b o _ hb _ e n => u.keep b o e n hb (by simp)) (fun b o _ hb _ e n => u.slot b o e n hb (by simp)) (fun b o _ e n => u.free b o e n (by simp)) (fun b o _ e => u.there b o e (by simp)) u.tups u.frzs u.tbls (fun m' hm => by
  obtain ⟨o', es', ep', ho', r'⟩ := hm
  rw [ho] at ho'; cases ho'
  exact ⟨_, es', ep', hL, r'⟩) hok I.bare
theorem Inv.call {g' : Array GenState} {t' : Nat} {d' : Drawn} {ch : List Addr} (I : Inv X pins σ H s) (u : Un (frs X.stack) ch H H' s.heap h') (hok : HOk X.prog X.w H' h') (hg : AllBare g')
  (hch : ∀ b ∈ ch, (b ∈ X.ex ∨ X.s₀.heap.objs.size ≤ b) ∧ b ≠ X.env.locals ∧ (∀ x c, X.env.cells.lookup x = some c → c ≠ b) ∧ ∀ p ∈ X.pn ++ pins, p.1 ≠ b) :
  Inv X pins σ H' { s with heap := h', gens := g', drawn := d', toks := t' } := by
 obtain ⟨m, ⟨o, es, ep, ho, r⟩, _⟩ := id I.loc
 obtain ⟨sl, hL⟩ := u.any ho I.free fun z => (hch _ z).2.1 rfl
 exact I.step (ch := ch) hch (fun b o hL hb hc e n => u.keep b o e n (fun z => (List.mem_cons.mp (I.stkSub b z)).elim hL hb) hc) (fun b o _ _ hc e n => u.any e n hc) (fun b o hc e n => u.free b o e n hc) (fun b o hc e => u.there b o e hc) u.tups u.frzs u.tbls (fun m' hm => by
  obtain ⟨o', es', ep', ho', r'⟩ := hm
  rw [ho] at ho'; cases ho'
  exact ⟨_, es', ep', hL, r'⟩) hok hg
theorem Inv.turned {t' : Nat} {it : Addr} (I : Inv X pins σ H s) (k : ∀ b o, b ≠ it → s.heap.get? b = some o → h'.get? b = some o) (hn : H it = none) (hL : it ≠ X.env.locals)
  (h1 : it ∈ X.ex ∨ X.s₀.heap.objs.size ≤ it) (h2 : ∀ x c, X.env.cells.lookup x = some c → c ≠ it) (h3 : ∀ p ∈ X.pn ++ pins, p.1 ≠ it) : Inv X pins σ H { s with heap := h', toks := t' } := by
 have nit : ∀ b u, H b = some u → b ≠ it := fun b u e z => by rw [z, hn] at e; cases e
 refine I.step (g' := s.gens) (d' := s.drawn) (ch := [it]) (fun b hb => ?_) (fun b o _ _ hc e _ => k b o (fun z => hc (by simp [z])) e) (fun b o _ _ hc e _ => ⟨o.slots, k b o (fun z => hc (by simp [z])) e⟩) (fun _ _ _ _ n => n)
  (fun b o hc e => ⟨o, k b o (fun z => hc (by simp [z])) e⟩) (fun _ _ e => e) (fun _ _ _ e => e) (fun b ps e => ⟨#[], by rw [e]; simp⟩) (fun m hm => ?_) (fun b u e => ?_) I.bare
 ·have e : b = it := by simpa using hb
  subst e
  exact ⟨h1, hL, h2, h3⟩
 ·obtain ⟨o, es, ep, ho, r⟩ := hm
  exact ⟨o, es, ep, k _ o (Ne.symm hL) ho, r⟩
 ·refine (I.hok b u e).stay (fun c v hc q => k c v ?_ q) (fun _ q => q) (fun _ _ q => q) fun _ _ _ q => q
  rcases hc with z | z
  ·rw [z]; exact nit b u e
  ·exact nit c _ z
theorem Inv.tok (I : Inv X pins σ H s) (t : Nat) : Inv X pins σ H { s with toks := t } := I.un (h' := s.heap) (t' := t) Un.refl I.hok
theorem Inv.kept {t' : Nat} (I : Inv X pins σ H s) (k : ∀ b u, s.heap.get? b = some u → h'.get? b = some u) : Inv X pins σ H { s with heap := h', toks := t' } := I.un (Un.kept k) (I.hok.kept k)
theorem Inv.laid {a : Addr} {o : HO} {t' : Nat} (I : Inv X pins σ H s) (k : ∀ b u, s.heap.get? b = some u → h'.get? b = some u) (hp : s.heap.objs.size ≤ a) (new : ObjOk X.prog X.w (upd H a o) h' a o) :
  Inv X pins σ (upd H a o) { s with heap := h', toks := t' } := I.un (Un.laid k hp (I.hok.fresh hp)) (I.hok.laid k hp new)
theorem Inv.write {x e : Addr} {o : HO} {t' : Nat} (I : Inv X pins σ H s) (mu : Mut (H x)) (he : e = x ∨ H e = some (.own x)) (k : ∀ b u, b ≠ e → s.heap.get? b = some u → h'.get? b = some u) (heo : ∃ u, h'.get? e = some u)
  (new : ObjOk X.prog X.w (upd H x o) h' x o) : Inv X pins σ (upd H x o) { s with heap := h', toks := t' } := I.un (Un.write mu he k heo) (I.hok.write mu he k heo new)
theorem Inv.weak {σ' : List (Option V)} (I : Inv X pins σ H s) (hl : σ'.length = σ.length) (w : ∀ (i : Nat) v, σ'[i]? = some (some v) → σ[i]? = some (some v)) : Inv X pins σ' H s :=
 ⟨I.ok, I.os, I.bare, I.base, let ⟨m, hn, hl'⟩ := I.loc; ⟨m, hn, fun i x v e1 e2 e3 => hl' i x v e1 (w i v e2) e3⟩, I.cell, I.free, I.freeC, I.pin, I.hok, hl.trans I.len⟩
theorem Inv.pins_of {pins' : List (Addr × Obj)} (I : Inv X pins σ H s) (h : ∀ p ∈ pins', s.heap.get? p.1 = some p.2 ∧ H p.1 = none ∧ p.1 ≠ X.env.locals ∧ p.1 ∉ X.fs ∧ ∀ v, p.2.data ≠ .cell v) : Inv X pins' σ H s :=
 ⟨I.ok, I.os, I.bare, I.base, I.loc, I.cell, I.free, I.freeC, fun p hp => (List.mem_append.mp hp).elim (fun z => I.pin p (List.mem_append_left _ z)) (h p), I.hok, I.len⟩
theorem nodup_ix {N : List Str} (hN : N.Nodup) {i j : Nat} {x : Str} (a : N[i]? = some x) (b : N[j]? = some x) : i = j := by
 obtain ⟨h1, e1⟩ := List.getElem?_eq_some_iff.mp a
 obtain ⟨h2, e2⟩ := List.getElem?_eq_some_iff.mp b
 exact (List.getElem_inj hN).mp (e1.trans e2.symm)
theorem store_ok2 {M : Model} {A : Around} {E : Value → Shared → Prop} {i : Nat} {x : Str} {v : V} {u : Value} {Q : Unit → Shared → Prop} (I : Inv X pins σ H s) (hN : X.N.Nodup) (hi : X.N[i]? = some x) (hx : Loc X.env.scope x) (r : RelV v u)
  (h : ∀ s', Inv X pins (σ.set i (some v)) H s' → (∃ a, Heap.SameBut a s.heap s'.heap ∧ (a = X.env.locals ∨ X.env.cells.lookup x = some a)) → Q () s') (hf : X.fn x = true ∨ X.env.scope.names.lookup x = some .local := by first | exact .inl rfl | exact .inr rfl | assumption) : wpAny M A (storeName X.env x u) Q E s := by
 obtain ⟨m, hn, hl⟩ := id I.loc
 have hcls : (X.env.scope.kind == .class || (X.env.scope.kind == .module && X.env.locals != X.env.globals)) = false := by rw [I.ok.kind]; rfl
 have hiσ : i < σ.length := by rw [I.len]; exact (List.getElem?_eq_some_iff.mp hi).1
 have cne := I.cne
 have tracked : ∀ {a : Addr} {h' : Heap}, (∃ o, s.heap.get? a = some o ∧ H a = none) → Heap.SameBut a s.heap h' → HOk X.prog X.w H h' := fun {a h'} ha hs b ob e => by
  obtain ⟨_, _, hfree⟩ := ha
  refine (I.hok b ob e).stay (fun c w' hc q => (hs.2 c ?_).trans q) (fun _ q => q) (fun _ _ q => q) fun _ _ _ q => q
  rintro rfl
  rcases hc with rfl | hc
  ·rw [hfree] at e; cases e
  ·rw [hfree] at hc; cases hc
 rcases hx with hk | hk
 ·refine wpAny_storeName_local hk hn (fun h' hn' hs => ?_) hcls
  obtain ⟨oL, _, _, hoL, _⟩ := id hn
  refine h _ ⟨I.ok, I.os, I.bare, ⟨fun b o e n hb hx => ?_, fun b o e n hb hx => ?_, I.base.free, fun b o e hx => ?_, I.base.tups, I.base.frzs, I.base.tbls⟩, ⟨_, hn', fun j y v' e1 e2 e3 => ?_⟩, fun y c e => ?_, I.free, I.freeC, fun p hp => ?_, tracked ⟨oL, hoL, I.free⟩ hs, by simpa using I.len⟩ ⟨_, hs, .inl rfl⟩
  ·exact (hs.2 b (Nat.ne_of_lt (Nat.lt_of_lt_of_le (Heap.lt_size e) I.ok.above))).trans (I.base.keep b o e n hb hx)
  ·obtain ⟨sl, e1⟩ := I.base.slot b o e n hb hx
   exact ⟨sl, (hs.2 b (Nat.ne_of_lt (Nat.lt_of_lt_of_le (Heap.lt_size e) I.ok.above))).trans e1⟩
  ·obtain ⟨o', e1⟩ := I.base.there b o e hx
   exact ⟨o', (hs.2 b (Nat.ne_of_lt (Nat.lt_of_lt_of_le (Heap.lt_size e) I.ok.above))).trans e1⟩
  ·by_cases hj : j = i
   ·subst hj
    rw [hi] at e1; cases e1
    rw [List.getElem?_set_self hiσ] at e2
    cases e2
    exact ⟨u, r, .inl ⟨hk, by simp⟩⟩
   ·rw [List.getElem?_set_ne (Ne.symm hj)] at e2
    obtain ⟨u', r', q⟩ := hl j y v' e1 e2 e3
    refine ⟨u', r', ?_⟩
    rcases q with ⟨k, e⟩ | ⟨k, c, e, z⟩
    ·refine .inl ⟨k, ?_⟩
     have : y ≠ x := fun e => hj (nodup_ix hN e1 (e ▸ hi))
     simp [this, e]
    ·exact .inr ⟨k, c, e, z.sameBut hs (cne y c e)⟩
  ·obtain ⟨w', z⟩ := I.cell y c e
   exact ⟨w', z.sameBut hs (cne y c e)⟩
  ·obtain ⟨e, n, ne, nf, d⟩ := I.pin p hp
   exact ⟨(hs.2 p.1 ne).trans e, n, ne, nf, d⟩
 ·have hfn : X.fn x = true := by
   rcases hf with z | z
   ·exact z
   ·rw [z] at hk; cases hk
  obtain ⟨c, hc⟩ := I.ok.has x (.inl hk)
  obtain ⟨w', z⟩ := I.cell x c hc
  refine wpAny_storeName_cell I.ok.kind hk hc z (fun h' hc' hs => ?_)
  obtain ⟨oc, hoc, hocd⟩ := id z
  refine h { s with heap := h' } ⟨I.ok, I.os, I.bare, ⟨fun b o e n hb hx => ?_, fun b o e n hb hx => ?_, I.base.free, fun b o e hx => ?_, I.base.tups, I.base.frzs, I.base.tbls⟩, ⟨m, hn.sameBut hs (Ne.symm (cne x c hc)), fun j y v' e1 e2 e3 => ?_⟩, fun y c' e => ?_, I.free, I.freeC, fun p hp => ?_, tracked ⟨oc, hoc, I.freeC x c hc⟩ hs, by simpa using I.len⟩ ⟨c, hs, .inr hc⟩
  ·exact (hs.2 b (Nat.ne_of_lt (Nat.lt_of_lt_of_le (Heap.lt_size e) (I.ok.cab x c hfn hc)))).trans (I.base.keep b o e n hb hx)
  ·obtain ⟨sl, e1⟩ := I.base.slot b o e n hb hx
   exact ⟨sl, (hs.2 b (Nat.ne_of_lt (Nat.lt_of_lt_of_le (Heap.lt_size e) (I.ok.cab x c hfn hc)))).trans e1⟩
  ·obtain ⟨o', e1⟩ := I.base.there b o e hx
   exact ⟨o', (hs.2 b (Nat.ne_of_lt (Nat.lt_of_lt_of_le (Heap.lt_size e) (I.ok.cab x c hfn hc)))).trans e1⟩
  ·by_cases hj : j = i
   ·subst hj
    rw [hi] at e1; cases e1
    rw [List.getElem?_set_self hiσ] at e2
    cases e2
    exact ⟨u, r, .inr ⟨.inl hk, c, hc, hc'⟩⟩
   ·rw [List.getElem?_set_ne (Ne.symm hj)] at e2
    obtain ⟨u', r', q⟩ := hl j y v' e1 e2 e3
    refine ⟨u', r', ?_⟩
    rcases q with q | ⟨k, c', e, z'⟩
    ·exact .inl q
    ·refine .inr ⟨k, c', e, z'.sameBut hs ?_⟩
     rintro rfl
     exact hj (nodup_ix hN e1 (I.ok.inj _ _ _ e hc ▸ hi))
  ·by_cases hcc : c' = c
   ·subst hcc; exact ⟨_, hc'⟩
   ·obtain ⟨w2, z2⟩ := I.cell y c' e
    exact ⟨w2, z2.sameBut hs hcc⟩
  ·obtain ⟨e, n, ne, nf, d⟩ := I.pin p hp
   refine ⟨(hs.2 p.1 ?_).trans e, n, ne, nf, d⟩
   intro q
   rw [q, hoc] at e
   have q' : oc = p.2 := Option.some.inj e
   exact d w' (by rw [← q']; exact hocd)
theorem store_ok {M : Model} {A : Around} {E : Value → Shared → Prop} {i : Nat} {x : Str} {v : V} {u : Value} {Q : Unit → Shared → Prop} (I : Inv X pins σ H s) (hN : X.N.Nodup) (hi : X.N[i]? = some x) (hx : Loc X.env.scope x) (r : RelV v u)
  (h : ∀ s', Inv X pins (σ.set i (some v)) H s' → Q () s') (hf : X.fn x = true ∨ X.env.scope.names.lookup x = some .local := by first | exact .inl rfl | exact .inr rfl | assumption) : wpAny M A (storeName X.env x u) Q E s :=
 store_ok2 I hN hi hx r (fun s' I' _ => h s' I') hf
theorem Inv.call' {s' : Shared} {ch : List Addr} (I : Inv X pins σ H s) (ho : s'.os = s.os) (u : Un (frs X.stack) ch H H' s.heap s'.heap) (hok : HOk X.prog X.w H' s'.heap) (hg : AllBare s'.gens)
  (hch : ∀ b ∈ ch, (b ∈ X.ex ∨ X.s₀.heap.objs.size ≤ b) ∧ b ≠ X.env.locals ∧ (∀ x c, X.env.cells.lookup x = some c → c ≠ b) ∧ ∀ p ∈ X.pn ++ pins, p.1 ≠ b) : Inv X pins σ H' s' := by
 obtain ⟨h', g', d', t', o'⟩ := s'
 have e : o' = s.os := ho
 subst e
 exact I.call (g' := g') (t' := t') (d' := d') u hok hg hch
end
abbrev XK := Value → Option Addr → Hp → Prop
abbrev St := List (Option V)
abbrev VK := V → Hp → Prop
abbrev TE := St → Hp → VK → Prop
abbrev TT := St → Hp → (Bool → Hp → Prop) → Prop
abbrev TA := St → Hp → (List V → Hp → Prop) → Prop
structure Ends where
 nx : St → Hp → Prop
 rt : VK
 bk : St → Hp → Prop := fun _ _ => False
 ct : St → Hp → Prop := fun _ _ => False
abbrev TS := Ends → St → Hp → Prop
def EP (X : Cx) (pins : List (Addr × Obj)) (σ : St) (Q : VK) (u : Value) (s' : Shared) : Prop := ∃ v H', Inv X pins σ H' s' ∧ RelV v u ∧ Q v H'
def TP (X : Cx) (pins : List (Addr × Obj)) (σ : St) (Q : Bool → Hp → Prop) (b : Bool) (s' : Shared) : Prop := ∃ H', Inv X pins σ H' s' ∧ Q b H'
def AP (X : Cx) (pins : List (Addr × Obj)) (σ : St) (Q : List V → Hp → Prop) (us : List Value) (s' : Shared) : Prop := ∃ vs H', Inv X pins σ H' s' ∧ Vals vs us ∧ Q vs H'
def SP (X : Cx) (pins : List (Addr × Obj)) (D : Ends) (f : Flow) (s' : Shared) : Prop :=
 match f with
 | .next => ∃ σ' H', Inv X pins σ' H' s' ∧ D.nx σ' H'
 | .brk => ∃ σ' H', Inv X pins σ' H' s' ∧ D.bk σ' H'
 | .cont => ∃ σ' H', Inv X pins σ' H' s' ∧ D.ct σ' H'
 | .ret u => ∃ v σ' H', Inv X pins σ' H' s' ∧ RelV v u ∧ D.rt v H'
def PE (X : Cx) (e : Expr) (t : TE) : Prop :=
 ∀ (pins : List (Addr × Obj)) (s : Shared) (σ : St) (H : Hp) (Q : VK), Inv X pins σ H s → t σ H Q → wpAny (model X.prog X.w) X.A (eval e X.env) (EP X pins σ Q) X.xe s
def PT (X : Cx) (e : Expr) (t : TT) : Prop :=
 ∀ (pins : List (Addr × Obj)) (s : Shared) (σ : St) (H : Hp) (Q : Bool → Hp → Prop), Inv X pins σ H s → t σ H Q → wpAny (model X.prog X.w) X.A (isTrue e X.env (eval e X.env)) (TP X pins σ Q) X.xe s
def PW (X : Cx) (e : Expr) (t : TT) : Prop :=
 ∀ (whole : Sem Value) (pins : List (Addr × Obj)) (s : Shared) (σ : St) (H : Hp) (Q : Bool → Hp → Prop), Inv X pins σ H s → t σ H Q → wpAny (model X.prog X.w) X.A (isTrue e X.env whole) (TP X pins σ Q) X.xe s
theorem PW.pt {X : Cx} {e : Expr} {t : TT} (h : PW X e t) : PT X e t := h _
def PA (X : Cx) (es : List Expr) (t : TA) : Prop :=
 ∀ (pos : Pos) (pins : List (Addr × Obj)) (s : Shared) (σ : St) (H : Hp) (Q : List V → Hp → Prop), Inv X pins σ H s → t σ H Q → wpAny (model X.prog X.w) X.A (spliced (backTo pos (starEach es X.env))) (AP X pins σ Q) X.xe s
def PS (X : Cx) (st : Stmt) (t : TS) : Prop :=
 ∀ (pins : List (Addr × Obj)) (s : Shared) (σ : St) (H : Hp) (D : Ends), Inv X pins σ H s → t D σ H → wpAny (model X.prog X.w) X.A (exec st X.env) (SP X pins D) X.xe s
def PSs (X : Cx) (st : List Stmt) (t : TS) : Prop :=
 ∀ (pins : List (Addr × Obj)) (s : Shared) (σ : St) (H : Hp) (D : Ends), Inv X pins σ H s → t D σ H → wpAny (model X.prog X.w) X.A (execs st X.env) (SP X pins D) X.xe s
theorem thn {α : Type} {t : Sem α} {Q Q' : α → Shared → Prop} {M : Model} {A : Around} {E : Value → Shared → Prop} {s : Shared} (h : wpAny M A t Q E s) (hQ : ∀ a s, Q a s → Q' a s) : wpAny M A t Q' E s := wpAny_mono h hQ fun _ _ x => x
section
variable {X : Cx}
def tVar (i : Nat) : TE := fun σ H Q => ∃ v, σ[i]? = some (some v) ∧ Q v H
def tC (v : V) : TE := fun _ H Q => Q v H
theorem pe_var {i : Nat} {x : Str} {pos : Pos} (hN : X.N[i]? = some x) (hv : Vis X.env.scope x) (hd : (x == ("__debug__" : Str)) = false := by decide) (hcd : (x == ("__classdict__" : Str)) = false := by decide) : PE X (.Name x pos) (tVar i) := by
 intro pins s σ H Q I h
 obtain ⟨v, e, h⟩ := h
 obtain ⟨m, hn, hl⟩ := I.loc
 obtain ⟨u, r, l⟩ := hl i x v hN e hv
 have fin : EP X pins σ Q u s := ⟨v, H, I, r, h⟩
 rcases l with ⟨hk, hm⟩ | ⟨hk, c, hc, hcell⟩
 ·exact wpAny_Name (wpAny_loadName_local I.ok.kind hk hn hm fin) hd
 ·rcases hk with hk | hk
  ·exact wpAny_Name (wpAny_loadName_cell I.ok.kind hk hc hcell fin) hd
  ·exact wpAny_Name (wpAny_loadName_free I.ok.kind hk hc hcell fin hcd) hd
theorem pe_int {i j pos} : PE X (.Constant (.int i) j pos) (tC (.int i)) := fun _ _ _ H _ I h => wpAny_Constant_int ⟨.int i, H, I.tok _, ⟨_, rfl⟩, h⟩
theorem pe_bl {b j pos} : PE X (.Constant (.bool b) j pos) (tC (.bl b)) := fun _ _ _ H _ I h => Constant_bool ⟨.bl b, H, I, rfl, h⟩
theorem pe_non {j pos} : PE X (.Constant .none j pos) (tC .non) := fun _ _ _ H _ I h => Constant_none ⟨.non, H, I, rfl, h⟩
def Gl (X : Cx) (x : Str) : Prop := X.env.kindOf x = some .globalImplicit
theorem ld_glob {E : Value → Shared → Prop} {pins : List (Addr × Obj)} {s : Shared} {σ : St} {H : Hp} {x : Str} {u : Value} {pos : Pos} {Q : Value → Shared → Prop} (I : Inv X pins σ H s) (hg : Gl X x) (hm : X.mg x = some u) (h : Q u s)
  (hd : (x == ("__debug__" : Str)) = false := by decide) : wpAny (model X.prog X.w) X.A (eval (.Name x pos) X.env) Q E s :=
 Calls.Name_function_global I.ok.kind hg (Calls.loadGlobal_global (by rw [I.ok.glob]; exact I.mod.glob.keeps I.bk) hm h) hd
theorem ld_blt {E : Value → Shared → Prop} {pins : List (Addr × Obj)} {s : Shared} {σ : St} {H : Hp} {x : Str} {u : Value} {pos : Pos} {Q : Value → Shared → Prop} (I : Inv X pins σ H s) (hg : Gl X x) (hm : X.mg x = none) (hv : bootBuiltins x = some u) (h : Q u s)
  (hn : x ≠ "__name__" := by decide) (hd : (x == ("__debug__" : Str)) = false := by decide) : wpAny (model X.prog X.w) X.A (eval (.Name x pos) X.env) Q E s := by
 obtain ⟨mb, h1, h2⟩ := I.mod.blt
 exact Calls.Name_function_global I.ok.kind hg (Calls.loadGlobal_builtin (by rw [I.ok.glob]; exact I.mod.glob.keeps I.bk) hm (by rw [I.ok.blt]; exact h1.keeps I.bk) ((h2 x hn).trans hv) h) hd
theorem pe_bltn {x : Str} {v : V} {u : Value} {pos : Pos} (hg : Gl X x) (hm : X.mg x = none) (hv : bootBuiltins x = some u) (r : RelV v u) (hn : x ≠ "__name__" := by decide) (hd : (x == ("__debug__" : Str)) = false := by decide) : PE X (.Name x pos) (tC v) :=
 fun _ _ _ H _ I h => ld_blt I hg hm hv ⟨v, H, I, r, h⟩ hn hd
variable {a b : Expr} {ta tb : TE} {pos : Pos}
def tB (t : TE) : TT := fun σ H Q => t σ H fun x H1 => ∃ c, x = .bl c ∧ Q c H1
theorem pt_val {e : Expr} {t : TE} (h : PE X e t) (he : ∀ whole, isTrue e X.env whole = (do let v ← whole; standAt e.pos; holding [v] (truthy v)) := by intro _; rfl) : PT X e (tB t) := by
 intro pins s σ H Q I hw
 refine isTrue_plain (thn (h pins s σ H _ I hw) fun v s1 ⟨x, H1, I1, r1, q1⟩ => ?_) (he _)
 obtain ⟨d, rfl, q⟩ := q1
 cases r1
 exact wpAny_truthy_bool ⟨H1, I1, q⟩
variable {tA tB' : TT} {rest : List Expr}
def tAnd (t u : TT) : TT := fun σ H Q => t σ H fun c H1 => if c = true then u σ H1 Q else Q false H1
def tOr (t u : TT) : TT := fun σ H Q => t σ H fun c H1 => if c = true then Q true H1 else u σ H1 Q
def tNot (t : TT) : TT := fun σ H Q => t σ H fun c H1 => Q (!c) H1
theorem pw_and1 (ha : PT X a tA) : PW X (.BoolOp .And [a] pos) tA := by
 intro wh pins s σ H Q I h
 refine isTrue_and (thn (ha pins s σ H Q I h) fun c s1 e => ?_)
 cases c with
 | true => exact isTrue_and_nil e
 | false => exact e
theorem pw_or1 (ha : PT X a tA) : PW X (.BoolOp .Or [a] pos) tA := by
 intro wh pins s σ H Q I h
 refine isTrue_or (thn (ha pins s σ H Q I h) fun c s1 e => ?_)
 cases c with
 | false => exact isTrue_or_nil e
 | true => exact e
theorem pw_and (ha : PT X a tA) (hb : PW X (.BoolOp .And (b :: rest) pos) tB') : PW X (.BoolOp .And (a :: b :: rest) pos) (tAnd tA tB') := by
 intro wh pins s σ H Q I h
 refine isTrue_and (thn (ha pins s σ H _ I h) fun c s1 ⟨H1, I1, q1⟩ => ?_)
 cases c with
 | true => exact hb wh pins s1 σ H1 Q I1 q1
 | false => exact ⟨H1, I1, q1⟩
theorem pw_or (ha : PT X a tA) (hb : PW X (.BoolOp .Or (b :: rest) pos) tB') : PW X (.BoolOp .Or (a :: b :: rest) pos) (tOr tA tB') := by
 intro wh pins s σ H Q I h
 refine isTrue_or (thn (ha pins s σ H _ I h) fun c s1 ⟨H1, I1, q1⟩ => ?_)
 cases c with
 | true => exact ⟨H1, I1, q1⟩
 | false => exact hb wh pins s1 σ H1 Q I1 q1
theorem pt_not (ha : PT X a tA) : PT X (.UnaryOp .Not a pos) (tNot tA) := by
 intro pins s σ H Q I h
 exact isTrue_not (ha pins s σ H (fun c H1 => Q (!c) H1) I h)
def tAndV (ta tb : TE) : TE := fun σ H Q => ta σ H fun x H1 => ∃ c, x = .bl c ∧ if c = true then tb σ H1 Q else Q (.bl false) H1
def tOrV (ta tb : TE) : TE := fun σ H Q => ta σ H fun x H1 => ∃ c, x = .bl c ∧ if c = true then Q (.bl true) H1 else tb σ H1 Q
def tNotV (ta : TE) : TE := fun σ H Q => ta σ H fun x H1 => ∃ c, x = .bl c ∧ Q (.bl (!c)) H1
theorem pe_one {op} {t : TE} (h : PE X a t) : PE X (.BoolOp op [a] pos) t := fun pins s σ H Q I hw => BoolOp_one (h pins s σ H Q I hw)
theorem pe_and (ha : PE X a ta) (hb : PE X (.BoolOp .And (b :: rest) pos) tb) : PE X (.BoolOp .And (a :: b :: rest) pos) (tAndV ta tb) := by
 intro pins s σ H Q I h
 refine BoolOp_and (thn (ha pins s σ H _ I h) fun v s1 ⟨x, H1, I1, r1, q1⟩ => ?_)
 obtain ⟨c, rfl, q1⟩ := q1
 cases r1
 refine wpAny_truthy_bool ?_
 cases c with
 | true => exact hb pins s1 σ H1 Q I1 q1
 | false => exact ⟨.bl false, H1, I1, rfl, q1⟩
theorem pe_or (ha : PE X a ta) (hb : PE X (.BoolOp .Or (b :: rest) pos) tb) : PE X (.BoolOp .Or (a :: b :: rest) pos) (tOrV ta tb) := by
 intro pins s σ H Q I h
 refine BoolOp_or (thn (ha pins s σ H _ I h) fun v s1 ⟨x, H1, I1, r1, q1⟩ => ?_)
 obtain ⟨c, rfl, q1⟩ := q1
 cases r1
 refine wpAny_truthy_bool ?_
 cases c with
 | false => exact hb pins s1 σ H1 Q I1 q1
 | true => exact ⟨.bl true, H1, I1, rfl, q1⟩
theorem pe_not (ha : PE X a ta) : PE X (.UnaryOp .Not a pos) (tNotV ta) := by
 intro pins s σ H Q I h
 refine UnaryOp_ (thn (ha pins s σ H _ I h) fun v s1 ⟨x, H1, I1, r1, q1⟩ => ?_)
 obtain ⟨c, rfl, q1⟩ := q1
 cases r1
 exact not_of (wpAny_truthy_bool ⟨.bl (!c), H1, I1, rfl, q1⟩)
end
def SqL (K : W.Frag) (H : Hp) (a : Addr) (xs : List V) : Prop :=
 Rd H a (.lst xs) ∨
  ∃ (o : Obj) (its : Array Value) (n : Nat), K.lookup a = some o ∧ o.cls = .type "list" ∧ o.dict = none ∧ o.data = .seq its n ∧ its.size ≤ sizeLine ∧ Vals xs its.toList
def SqT (K : W.Frag) (H : Hp) (a : Addr) (xs : List V) : Prop :=
 Rd H a (.tup xs) ∨
  ∃ (o : Obj) (its : Array Value) (n : Nat), K.lookup a = some o ∧ o.cls = .type "tuple" ∧ o.data = .seq its n ∧ its.size ≤ sizeLine ∧ Vals xs its.toList
def absV : Value → Option V
 | .none => some .non
 | .bool b => some (.bl b)
 | .int i _ => some (.int i)
 | .str x _ => some (.str x)
 | .bytes b _ => some (.byt b)
 | .float b _ => some (.flt b)
 | .ref a => some (.ref a)
 | .type n => some (.ty n)
 | _ => none
theorem RelV.abs {x : V} {u : Value} (r : RelV x u) : absV u = some x := by
 cases x with
 | non => cases r; rfl
 | bl _ => cases r; rfl
 | int _ => obtain ⟨t, rfl⟩ := r; rfl
 | str _ => obtain ⟨t, rfl⟩ := r; rfl
 | byt _ => obtain ⟨t, rfl⟩ := r; rfl
 | flt _ => obtain ⟨t, rfl⟩ := r; rfl
 | ref _ => cases r; rfl
 | ty _ => cases r; rfl
theorem RelV.inj {x y : V} {u : Value} (r : RelV x u) (q : RelV y u) : x = y := Option.some.inj (r.abs.symm.trans q.abs)
theorem Vals.inj : ∀ {xs ys : List V} {us : List Value}, Vals xs us → Vals ys us → xs = ys
 | _, _, _, .nil, .nil => rfl
 | _, _, _, .cons r t, .cons r' t' => by rw [r.inj r', Vals.inj t t']
section
variable {X : Cx} {pins : List (Addr × Obj)} {σ : St} {H : Hp} {s : Shared} {a : Addr} {xs ys : List V}
theorem SqL.of {K : W.Frag} (h : H a = some (.lst xs)) : SqL K H a xs := .inl (.inl h)
theorem SqT.of {K : W.Frag} (h : H a = some (.tup xs)) : SqT K H a xs := .inl (.inl h)
theorem Inv.list (I : Inv X pins σ H s) (h : SqL X.K H a xs) : ∃ its : List Value, Vals xs its ∧ PlainL s.heap a its.toArray ∧ xs.length ≤ sizeLine := by
 rcases h with h | ⟨o, its, n, hk, hc, hd, hs, hz, r⟩
 ·obtain ⟨z, its, n, r, e⟩ := h.ok I.hok
  exact ⟨its, r, ⟨_, n, e, rfl, rfl, rfl⟩, z⟩
 ·refine ⟨its.toList, r, ⟨o, n, I.kIn a o hk, hc, hd, by simpa using hs⟩, ?_⟩
  have e := r.length
  simp only [Array.length_toList] at e
  omega
theorem Inv.tuple (I : Inv X pins σ H s) (h : SqT X.K H a xs) : ∃ its : List Value, Vals xs its ∧ IsTup s.heap a its.toArray ∧ xs.length ≤ sizeLine := by
 rcases h with h | ⟨o, its, n, hk, hc, hs, hz, r⟩
 ·obtain ⟨z, its, r, p⟩ := h.ok I.hok
  exact ⟨its, r, p, z⟩
 ·refine ⟨its.toList, r, ⟨o, I.kIn a o hk, hc, n, by simpa using hs⟩, ?_⟩
  have e := r.length
  simp only [Array.length_toList] at e
  omega
theorem Inv.list_inj (I : Inv X pins σ H s) (h : SqL X.K H a xs) (h' : SqL X.K H a ys) : xs = ys := by
 obtain ⟨its, r, ⟨o, n, e, _, _, d⟩, _⟩ := I.list h
 obtain ⟨its', r', ⟨o', n', e', _, _, d'⟩, _⟩ := I.list h'
 rw [e] at e'; cases e'
 rw [d] at d'
 injection d' with d1 _
 have : its = its' := by simpa using congrArg Array.toList d1
 subst this
 exact r.inj r'
end
abbrev Cx.wish (X : Cx) (E : Value → Shared → Prop) : Cx := { X with xe := E }
abbrev Cx.nox (X : Cx) : Cx := X.wish fun _ _ => False
theorem Cx.Ok.wish {X : Cx} (ok : X.Ok) (E : Value → Shared → Prop) : (X.wish E).Ok :=
 ⟨ok.mod, ok.kind, ok.glob, ok.blt, ok.above, ok.inj, ok.has, ok.cab, ok.hd, ok.frames, ok.stk, ok.exf, ok.bs, ok.bsz, ok.noex, ok.exfs, ok.funs, ok.frf⟩
theorem Cx.Ok.unwish {X : Cx} {E : Value → Shared → Prop} (ok : (X.wish E).Ok) : X.Ok :=
 ⟨ok.mod, ok.kind, ok.glob, ok.blt, ok.above, ok.inj, ok.has, ok.cab, ok.hd, ok.frames, ok.stk, ok.exf, ok.bs, ok.bsz, ok.noex, ok.exfs, ok.funs, ok.frf⟩
section
variable {X : Cx} {pins : List (Addr × Obj)} {σ : St} {H : Hp} {s : Shared} {E : Value → Shared → Prop}
theorem Inv.wish (I : Inv X pins σ H s) (E : Value → Shared → Prop) : Inv (X.wish E) pins σ H s := ⟨I.ok.wish E, I.os, I.bare, I.base, I.loc, I.cell, I.free, I.freeC, I.pin, I.hok, I.len⟩
theorem Inv.unwish (I : Inv (X.wish E) pins σ H s) : Inv X pins σ H s := ⟨I.ok.unwish, I.os, I.bare, I.base, I.loc, I.cell, I.free, I.freeC, I.pin, I.hok, I.len⟩
theorem SP.unwish {D : Ends} {f : Flow} {s' : Shared} (h : SP (X.wish E) pins D f s') : SP X pins D f s' := by
 cases f with
 | next => obtain ⟨σ', H', I, q⟩ := h; exact ⟨σ', H', I.unwish, q⟩
 | brk => obtain ⟨σ', H', I, q⟩ := h; exact ⟨σ', H', I.unwish, q⟩
 | cont => obtain ⟨σ', H', I, q⟩ := h; exact ⟨σ', H', I.unwish, q⟩
 | ret u => obtain ⟨v, σ', H', I, r, q⟩ := h; exact ⟨v, σ', H', I.unwish, r, q⟩
theorem PE.nox {e : Expr} {t : TE} (h : PE X.nox e t) : PE X e t := fun pins s σ H Q I hw =>
 wpAny_mono (h pins s σ H Q (I.wish _) hw) (fun _ _ ⟨v, H', I', r, q⟩ => ⟨v, H', I'.unwish, r, q⟩) fun _ _ z => False.elim z
theorem PT.nox {e : Expr} {t : TT} (h : PT X.nox e t) : PT X e t := fun pins s σ H Q I hw =>
 wpAny_mono (h pins s σ H Q (I.wish _) hw) (fun _ _ ⟨H', I', q⟩ => ⟨H', I'.unwish, q⟩) fun _ _ z => False.elim z
theorem PSs.nox {st : List Stmt} {t : TS} (h : PSs X.nox st t) : PSs X st t := fun pins s σ H D I hw =>
 wpAny_mono (h pins s σ H D (I.wish _) hw) (fun _ _ q => q.unwish) fun _ _ z => False.elim z
end
section
variable {X : Cx} {st : Stmt} {rest : List Stmt} {t u : TS} {e : Expr} {te : TE} {pos : Pos}
def tNext : TS := fun D σ H => D.nx σ H
def tSeq (t u : TS) : TS := fun D σ H => t { D with nx := u D } σ H
theorem pss_nil : PSs X [] tNext := fun _ _ σ H _ I h => wpAny_execs_nil ⟨σ, H, I, h⟩
theorem pss_cons (h1 : PS X st t) (h2 : PSs X rest u) : PSs X (st :: rest) (tSeq t u) := by
 intro pins s σ H D I h
 refine wpAny_execs_cons (thn (h1 pins s σ H { D with nx := u D } I h) fun f s1 q => ?_)
 cases f with
 | next =>
  obtain ⟨σ', H', I', q⟩ := q
  exact h2 pins s1 σ' H' D I' q
 | ret v => exact q
 | brk => exact q
 | cont => exact q
theorem pss_one (h1 : PS X st t) : PSs X [st] t := by
 intro pins s σ H D I h
 refine wpAny_execs_cons (thn (h1 pins s σ H D I h) fun f s1 q => ?_)
 cases f with
 | next => exact wpAny_execs_nil q
 | ret v => exact q
 | brk => exact q
 | cont => exact q
theorem Inv.quiet {pins : List (Addr × Obj)} {σ : St} {H : Hp} {s : Shared} (I : Inv X pins σ H s) : interactive X.env = false := by simp [interactive, I.ok.kind]
def tDrop (te : TE) : TS := fun D σ H => te σ H fun _ H1 => D.nx σ H1
theorem ps_expr (he : PE X e te) (hs : swapsWith e none pos.line X.env = pure false := by rfl) : PS X (.Expr e pos) (tDrop te) := by
 intro pins s σ H D I h
 exact wpAny_Expr_any (thn (he pins s σ H _ I h) fun v s1 ⟨x, H1, I1, r1, q1⟩ => ⟨σ, H1, I1, q1⟩) I.quiet hs
def tRet (te : TE) : TS := fun D σ H => te σ H D.rt
theorem ps_ret (he : PE X e te) : PS X (.Return (some e) pos) (tRet te) := by
 intro pins s σ H D I h
 exact wpAny_Return_some (thn (he pins s σ H _ I h) fun v s1 ⟨x, H1, I1, r1, q1⟩ => ⟨x, σ, H1, I1, r1, q1⟩)
def tIfS (c : TT) (t u : TS) : TS := fun D σ H => c σ H fun b H1 => if b = true then t D σ H1 else u D σ H1
theorem ps_if {c : Expr} {a b : List Stmt} {tc : TT} (hc : PT X c tc) (ha : PSs X a t) (hb : PSs X b u) : PS X (.If c a b pos) (tIfS tc t u) := by
 intro pins s σ H D I h
 refine wpAny_If (thn (hc pins s σ H _ I h) fun d s1 ⟨H1, I1, q1⟩ => ?_)
 cases d with
 | true => exact ha pins s1 σ H1 D I1 q1
 | false => exact hb pins s1 σ H1 D I1 q1
end
abbrev TG := V → St → Hp → (St → Hp → Prop) → Prop
abbrev TGs := List V → St → Hp → (St → Hp → Prop) → Prop
def PG (X : Cx) (target : Expr) (t : TG) : Prop :=
 ∀ (pins : List (Addr × Obj)) (s : Shared) (σ : St) (H : Hp) (v : V) (u : Value) (Q : St → Hp → Prop), Inv X pins σ H s → RelV v u → t v σ H Q →
  wpAny (model X.prog X.w) X.A (assign target X.env u) (fun _ s' => ∃ σ' H', Inv X pins σ' H' s' ∧ Q σ' H') X.xe s
def PGs (X : Cx) (ts : List Expr) (t : TGs) : Prop :=
 ∀ (pins : List (Addr × Obj)) (s : Shared) (σ : St) (H : Hp) (vs : List V) (us : List Value) (Q : St → Hp → Prop), Inv X pins σ H s → Vals vs us → t vs σ H Q →
  wpAny (model X.prog X.w) X.A (assignInOrder ((assignEach ts X.env).map (·.2)) us) (fun _ s' => ∃ σ' H', Inv X pins σ' H' s' ∧ Q σ' H') X.xe s
section
variable {X : Cx} {pos : Pos}
def gName (i : Nat) : TG := fun v σ H Q => Q (σ.set i (some v)) H
theorem pg_name {i : Nat} {x : Str} (hN : X.N.Nodup) (hi : X.N[i]? = some x) (hx : Loc X.env.scope x) (hf : X.fn x = true ∨ X.env.scope.names.lookup x = some .local := by first | exact .inl rfl | exact .inr rfl | assumption) : PG X (.Name x pos) (gName i) := by
 intro pins s σ H v u Q I r h
 exact wpAny_assign_Name (store_ok I hN hi hx r (fun s' I' => ⟨_, H, I', h⟩) hf)
def gNil : TGs := fun vs σ H Q => vs = [] ∧ Q σ H
def gCons (t : TG) (u : TGs) : TGs := fun vs σ H Q => ∃ v r, vs = v :: r ∧ t v σ H fun σ' H' => u r σ' H' Q
theorem pgs_nil : PGs X [] gNil := by
 intro pins s σ H vs us Q I r h
 obtain ⟨e, h⟩ := h
 subst e
 cases r
 exact assignInOrder_nil ⟨σ, H, I, h⟩
theorem pgs_cons {e : Expr} {es : List Expr} {t : TG} {u : TGs} (h1 : PG X e t) (h2 : PGs X es u)
  (hs : (assignEach (e :: es) X.env).map (·.2) = assign e X.env :: (assignEach es X.env).map (·.2) := by rfl) : PGs X (e :: es) (gCons t u) := by
 intro pins s σ H vs us Q I r h
 obtain ⟨v, vr, e1, h⟩ := h
 subst e1
 cases r with
 | cons r rr =>
  rw [hs]
  refine assignInOrder_cons (thn (h1 pins s σ H _ _ _ I r h) fun _ s1 ⟨σ1, H1, I1, q1⟩ => ?_)
  exact h2 pins s1 σ1 H1 _ _ Q I1 rr q1
def gTup (K : W.Frag) (n : Nat) (t : TGs) : TG := fun v σ H Q => ∃ a xs, v = .ref a ∧ SqT K H a xs ∧ xs.length = n ∧ t xs σ H Q
theorem pg_tup {es : List Expr} {k : Nat} {t : TGs} {n : Nat} (hc : X.calm = true) (h : PGs X es t)
  (hn : (assignEach es X.env).length = n := by rfl) (hst : (assignEach es X.env).findIdx? (·.1) = none := by rfl) : PG X (.Tuple es k pos) (gTup X.K n t) := by
 intro pins s σ H v u Q I r hw
 obtain ⟨a, xs, e1, hq, hl, hw⟩ := hw
 subst e1
 cases r
 obtain ⟨its, rv, ht, hz⟩ := I.tuple hq
 refine assign_Tuple_tuple (I.ok.hd hc) ht (by simp [hn, ← hl, rv.length]) hst fun h' hx => ?_
 have I1 : Inv X pins σ H { s with heap := h' } := I.kept (t' := s.toks) fun b o e => hx b o (Nat.ne_of_lt (Heap.lt_size e)) e
 exact h pins _ σ H xs _ Q I1 (by simpa using rv) hw
def tAsg (te : TE) (g : TG) : TS := fun D σ H => te σ H fun x H1 => g x σ H1 D.nx
theorem ps_asg {tg e : Expr} {te : TE} {g : TG} (he : PE X e te) (hg : PG X tg g) (hs : swapsWithSole [tg] e pos.line X.env = pure false := by rfl) (hw : swappedStores [tg] e X.env = pure none := by rfl)
  (h1 : (assignEach [tg] X.env).map (·.2) = [assign tg X.env] := by rfl) : PS X (.Assign [tg] e pos) (tAsg te g) := by
 intro pins s σ H D I h
 refine wpAny_Assign_stores (thn (he pins s σ H _ I h) fun v s1 ⟨x, H1, I1, r1, q1⟩ => ?_) hs hw
 rw [h1]
 exact thn (hg pins s1 σ H1 x v _ I1 r1 q1) fun _ s2 q => q
theorem ps_set {i : Nat} {x : Str} {e : Expr} {te : TE} {pos' : Pos} (hN : X.N.Nodup) (hi : X.N[i]? = some x) (hx : Loc X.env.scope x) (he : PE X e te) (hs : swapsWith e (some (.Name x pos')) pos.line X.env = pure false := by rfl) (hf : X.fn x = true ∨ X.env.scope.names.lookup x = some .local := by first | exact .inl rfl | exact .inr rfl | assumption) :
  PS X (.Assign [.Name x pos'] e pos) (tAsg te (gName i)) := by
 intro pins s σ H D I h
 refine wpAny_Assign_Name (thn (he pins s σ H _ I h) fun v s1 ⟨y, H1, I1, r1, q1⟩ => ?_) hs
 exact store_ok I1 hN hi hx r1 (fun s2 I2 => ⟨_, H1, I2, q1⟩) hf
end
structure It where
 go : Nat → Hp → Prop
 yld : Nat → Hp → V → Hp → Prop
 stop : Nat → Hp → Prop
def FpOk (X : Cx) (pins : List (Addr × Obj)) (H : Hp) (b : Addr) : Prop :=
 H b = none ∧ b ≠ X.env.locals ∧ b ∉ X.fs ∧ (b ∈ X.ex ∨ X.s₀.heap.objs.size ≤ b) ∧ (∀ x c, X.env.cells.lookup x = some c → c ≠ b) ∧ ∀ p ∈ X.pn ++ pins, p.1 ≠ b
theorem Inv.fpOk {X : Cx} {pins : List (Addr × Obj)} {σ : St} {H H' : Hp} {s : Shared} {b : Addr} (I : Inv X pins σ H s) (hb : s.heap.objs.size ≤ b) (hn : H' b = none) : FpOk X pins H' b := by
 refine ⟨hn, Nat.ne_of_gt (Nat.lt_of_lt_of_le I.lt hb), I.nofs hb, .inr (Nat.le_trans I.sz hb), fun x c e z => ?_, fun p hp z => ?_⟩
 ·obtain ⟨v, q⟩ := I.cell x c e
  exact absurd (Nat.lt_of_lt_of_le q.lt (by rw [z]; exact hb)) (Nat.lt_irrefl _)
 ·exact absurd (Nat.lt_of_lt_of_le (Heap.lt_size (I.pin p hp).1) (by rw [z]; exact hb)) (Nat.lt_irrefl _)
structure Turn (P : Program) (w : World) (K : W.Frag) (tg : Expr) (J : It) (fp : List Addr) (it : Addr) (tn : Nat → Heap → Prop) : Prop where
 mem : it ∈ fp
 obj : ∀ i h, tn i h → ∀ b ∈ fp, ∃ o, h.get? b = some o ∧ ∀ v, o.data ≠ .cell v
 keep : ∀ i h h', tn i h → (∀ b ∈ fp, ∀ o, h.get? b = some o → h'.get? b = some o) → tn i h'
 item : ∀ (X : Cx), X.prog = P → X.w = w → X.K = K → X.calm = true → ∀ (i : Nat) (pins : List (Addr × Obj)) (s : Shared) (σ : St) (H : Hp) (E : Value → Shared → Prop), Inv X pins σ H s → (∀ b ∈ fp, FpOk X pins H b) → tn i s.heap → J.go i H →
  wpAny (model P w) X.A (pyNext (.ref it)) (fun r s1 => ∃ u, r = some u ∧
   wpAny (model P w) X.A (letOwnedTupleGo tg (.ref it) u) (fun _ s2 => ∃ x H', Inv X pins σ H' s2 ∧ RelV x u ∧ J.yld i H x H' ∧ tn (i + 1) s2.heap ∧ ∀ b ∈ fp, H' b = none) E s1) E s
 done : ∀ (X : Cx), X.prog = P → X.w = w → X.K = K → X.calm = true → ∀ (i : Nat) (pins : List (Addr × Obj)) (s : Shared) (σ : St) (H : Hp) (E : Value → Shared → Prop), Inv X pins σ H s → (∀ b ∈ fp, FpOk X pins H b) → tn i s.heap → J.stop i H →
  wpAny (model P w) X.A (pyNext (.ref it)) (fun r s1 => r = none ∧ Inv X pins σ H s1) E s
 self : ∀ (A : Around) (i : Nat) (s : Shared) (Q : Value → Shared → Prop) (E : Value → Shared → Prop), tn i s.heap → Q (.ref it) s → wpAny (model P w) A (pyIter (.ref it)) Q E s
abbrev TI := St → Hp → (It → Hp → Prop) → Prop
def PIE (X : Cx) (pins : List (Addr × Obj)) (σ : St) (tg : Expr) (R : It → Hp → Prop) (itv : Value) (s2 : Shared) : Prop :=
 ∃ (it : Addr) (fp : List Addr) (tn : Nat → Heap → Prop) (J : It) (H' : Hp), itv = .ref it ∧ Inv X pins σ H' s2 ∧ Turn X.prog X.w X.K tg J fp it tn ∧ tn 0 s2.heap ∧ (∀ b ∈ fp, FpOk X pins H' b) ∧ R J H'
def PI (X : Cx) (tg iter : Expr) (wi : TI) : Prop :=
 ∀ (pins : List (Addr × Obj)) (s : Shared) (σ : St) (H : Hp) (R : It → Hp → Prop), Inv X pins σ H s → wi σ H R →
  wpAny (model X.prog X.w) X.A (eval iter X.env) (fun v s1 => wpAny (model X.prog X.w) X.A (pyIter v) (PIE X pins σ tg R) X.xe s1) X.xe s
theorem go_of {M : Model} {A : Around} {E : Value → Shared → Prop} {s : Shared} {tg : Expr} {it : Addr} {u : Value} {o : Obj} {n : String} {vs : Array Value} {Q : Unit → Shared → Prop} (ho : s.heap.get? it = some o) (hc : o.cls = .type n) (hd : o.data = .fields vs)
  (hn : ["enumerate", "zip", "dict_itemiterator", "dict_reverseitemiterator", "odict_iterator", "itertools.zip_longest", "itertools.pairwise"].contains n = false) (hQ : Q () s) : wpAny M A (letOwnedTupleGo tg (.ref it) u) Q E s := by
 unfold letOwnedTupleGo
 cases tg <;> first
  | exact wpAny_pure hQ
  | (cases u <;> first
    | exact wpAny_pure hQ
    | (refine wpAny_bind (wpAny_load ho ?_)
       rw [hc, hd]
       show wpAny M A (if (["enumerate", "zip", "dict_itemiterator", "dict_reverseitemiterator", "odict_iterator", "itertools.zip_longest", "itertools.pairwise"].contains n && vs[0]? == some (rawInt _)) = true then _ else _) Q E s
       rw [if_neg (by intro h; rw [hn, Bool.false_and] at h; cases h)]
       exact wpAny_pure hQ))
def Itl (K : W.Frag) (a : Addr) : It :=
 ⟨fun i H => ∃ xs x, SqL K H a xs ∧ xs[i]? = some x, fun i H x H' => H' = H ∧ ∀ xs, SqL K H a xs → xs[i]? = some x, fun i H => ∃ xs, SqL K H a xs ∧ xs.length ≤ i⟩
theorem turn_list {P : Program} {w : World} {K : W.Frag} {tg : Expr} (a it : Addr) : Turn P w K tg (Itl K a) [it] it (fun i h => h.IsListIter it a i) where
 mem := by simp
 obj := fun i h st b hb => by
  have e : b = it := by simpa using hb
  subst e
  obtain ⟨o, e, c, d⟩ := st
  exact ⟨o, e, fun v z => by rw [d] at z; cases z⟩
 keep := fun i h h' st k => st.at fun o e => k it (by simp) o e
 item := by
  intro X hP hw hK hc i pins s σ H E I hf st hg
  subst hP hw hK
  obtain ⟨xs, x, hq, hx⟩ := hg
  obtain ⟨its, rv, p, hz⟩ := I.list hq
  obtain ⟨u, hu, ru⟩ := rv.get hx
  obtain ⟨f0, f1, f2, f3, f4, f5⟩ := hf it (by simp)
  refine wpAny_pyNext_list_item st p.isList (x := u) (by simpa using hu) fun h' st' sb => ?_
  have I1 : Inv X pins σ H { s with heap := h' } := I.turned (t' := s.toks) (fun b o hb e => (sb.2 b hb).trans e) f0 f1 f3 f4 f5
  obtain ⟨o, e, c, d⟩ := id st'
  exact ⟨u, rfl, go_of (s := { s with heap := h' }) e c d (by decide) ⟨x, H, I1, ru, ⟨rfl, fun ys hy => by rw [I.list_inj hy hq]; exact hx⟩, st', fun b hb => (hf b hb).1⟩⟩
 done := by
  intro X hP hw hK hc i pins s σ H E I hf st hg
  subst hP hw hK
  obtain ⟨xs, hq, hx⟩ := hg
  obtain ⟨its, rv, p, hz⟩ := I.list hq
  obtain ⟨f0, f1, f2, f3, f4, f5⟩ := hf it (by simp)
  have hl := rv.length
  exact wpAny_pyNext_list_end (I.ok.hd hc) st p.isList (by simp; omega) fun h' eb => ⟨rfl, I.turned (t' := s.toks) (fun b o hb e => eb b o hb e) f0 f1 f3 f4 f5⟩
 self := fun _ _ _ _ _ st h => wpAny_pyIter_listiter st h
section
variable {X : Cx} {tg : Expr}
def iList (K : W.Frag) (tl : TE) : TI := fun σ H R => tl σ H fun x H1 => ∃ a, x = .ref a ∧ (∃ xs, SqL K H1 a xs) ∧ R (Itl K a) H1
theorem pi_list {l : Expr} {tl : TE} (hl : PE X l tl) : PI X tg l (iList X.K tl) := by
 intro pins s σ H R I h
 refine thn (hl pins s σ H _ I h) fun v s1 ⟨x, H1, I1, r1, q1⟩ => ?_
 obtain ⟨a, e, ⟨xs, hq⟩, q⟩ := q1
 subst e
 cases r1
 obtain ⟨its, rv, p, hz⟩ := I1.list hq
 refine wpAny_pyIter_list p.isList ?_
 refine ⟨s1.heap.objs.size, [s1.heap.objs.size], _, _, H1, rfl, I1.kept (t' := s1.toks) fun b o e => Heap.get?_push_of_some _ e, turn_list a _, ⟨_, Heap.get?_push_size _ rfl, rfl, rfl⟩, fun b hb => ?_, q⟩
 have e : b = s1.heap.objs.size := by simpa using hb
 subst e
 exact I1.fpOk (Nat.le_refl _) (I1.hok.fresh (Nat.le_refl _))
def tFor (wi : TI) (g : TG) (tb : TS) : TS := fun D σ H => wi σ H fun J H1 => ∃ W : Nat → Nat → St → Hp → Prop, (∃ m, W 0 m σ H1) ∧ ∀ i m σ H, W i m σ H →
 (J.stop i H ∧ D.nx σ H) ∨ (J.go i H ∧ ∃ N : St → Hp → Prop, (∀ σ' H', N σ' H' → ∃ m', m' < m ∧ W (i + 1) m' σ' H') ∧ ∀ x H', J.yld i H x H' → g x σ H' fun σ2 H2 => tb { D with nx := N, ct := N, bk := D.nx } σ2 H2)
def pinsAt (fp : List Addr) (h : Heap) : List (Addr × Obj) := fp.filterMap fun b => (h.get? b).map fun o => (b, o)
theorem mem_pinsAt {fp : List Addr} {h : Heap} {b : Addr} {o : Obj} (hb : b ∈ fp) (e : h.get? b = some o) : (b, o) ∈ pinsAt fp h := List.mem_filterMap.mpr ⟨b, hb, by rw [e]; rfl⟩
theorem of_pinsAt {fp : List Addr} {h : Heap} {p : Addr × Obj} (hp : p ∈ pinsAt fp h) : p.1 ∈ fp ∧ h.get? p.1 = some p.2 := by
 obtain ⟨b, hb, e⟩ := List.mem_filterMap.mp hp
 cases q : h.get? b with
 | none => rw [q] at e; cases e
 | some o =>
  rw [q] at e
  have e' : (b, o) = p := Option.some.inj e
  subst e'
  exact ⟨hb, q⟩
theorem Inv.pinned {pins : List (Addr × Obj)} {σ : St} {H : Hp} {s : Shared} {fp : List Addr} (I : Inv X pins σ H s) (hf : ∀ b ∈ fp, FpOk X pins H b) (ho : ∀ b ∈ fp, ∃ o, s.heap.get? b = some o ∧ ∀ v, o.data ≠ .cell v) : Inv X (pins ++ pinsAt fp s.heap) σ H s :=
 I.pins_of fun p hp => (List.mem_append.mp hp).elim (fun z => I.pin p (List.mem_append_right _ z)) fun z => by
  obtain ⟨hb, e⟩ := of_pinsAt z
  obtain ⟨f0, f1, f2, _⟩ := hf p.1 hb
  obtain ⟨o, e', d⟩ := ho p.1 hb
  rw [e] at e'; cases e'
  exact ⟨e, f0, f1, f2, d⟩
theorem Inv.unpinned {pins pl : List (Addr × Obj)} {σ : St} {H : Hp} {s : Shared} (I : Inv X (pins ++ pl) σ H s) : Inv X pins σ H s := I.pins_of fun p hp => I.pin p (List.mem_append_right _ (List.mem_append_left _ hp))
theorem ps_for {iter : Expr} {body : List Stmt} {wi : TI} {g : TG} {tb : TS} {pos : Pos} (hp : PassesOwn (model X.prog X.w) X.A X.env X.xe) (hc : X.calm = true) (hi : PI X tg iter wi) (hg : PG X tg g) (hb : PSs X body tb)
  (hs : ∀ x, foldedSetIterable iter X.env x = pure x := by intro _; rfl) : PS X (.For tg iter body [] pos) (tFor wi g tb) := by
 intro pins s σ H D I h
 refine wpAny_For (thn (hi pins s σ H _ I h) fun v s1 h1 => thn h1 fun itv s2 h2 => ?_) hs
 obtain ⟨it, fp, tn, J, H2, e, I2, T, st2, f2, W, ⟨m0, w0⟩, turn⟩ := h2
 subst e
 -- what stays true of the iterator's objects through the loop
 have stat : ∀ {H' : Hp}, (∀ b ∈ fp, H' b = none) → ∀ b ∈ fp, FpOk X pins H' b := fun hn b hb => ⟨hn b hb, (f2 b hb).2⟩
 refine codeAny_forLoop_any (fun n s' => ∃ i σ' H', Inv X pins σ' H' s' ∧ tn i s'.heap ∧ (∀ b ∈ fp, H' b = none) ∧ W i n σ' H') ?_ m0 ⟨0, σ, H2, I2, st2, fun b hb => (f2 b hb).1, w0⟩
 rintro n s3 ⟨i, σ3, H3, I3, st3, fr3, w3⟩
 rcases turn i n σ3 H3 w3 with ⟨stop, qn⟩ | ⟨go, N, hN, step⟩
 ·refine wpAny_passesOwn hp (thn (T.done X rfl rfl rfl hc i pins s3 σ3 H3 X.xe I3 (stat fr3) st3 stop) fun r s4 ⟨hr, I4⟩ => ?_)
  subst hr
  exact wpAny_execs_nil ⟨σ3, H3, I4, qn⟩
 ·refine wpAny_passesOwn hp (thn (T.item X rfl rfl rfl hc i pins s3 σ3 H3 X.xe I3 (stat fr3) st3 go) fun r s4 ⟨u, hr, h4⟩ => ?_)
  subst hr
  refine wpAny_passesOwn hp (thn h4 fun _ s5 ⟨x, H5, I5, r5, y5, st5, fr5⟩ => ?_)
  have I5' := I5.pinned (stat fr5) (T.obj _ _ st5)
  refine wpAny_passesOwn hp (thn (hg _ s5 σ3 H5 x u _ I5' r5 (step x H5 y5)) fun _ s6 ⟨σ6, H6, I6, q6⟩ => ?_)
  refine wpAny_passesOwn hp (thn (hb _ s6 σ6 H6 _ I6 q6) fun f s7 q7 => ?_)
  have again : ∀ {σ7 : St} {H7 : Hp}, Inv X (pins ++ pinsAt fp s5.heap) σ7 H7 s7 → N σ7 H7 → ∃ m, m < n ∧ ∃ i σ' H', Inv X pins σ' H' s7 ∧ tn i s7.heap ∧ (∀ b ∈ fp, H' b = none) ∧ W i m σ' H' := fun {σ7 H7} I7 n7 => by
   obtain ⟨m', hm, w7⟩ := hN σ7 H7 n7
   refine ⟨m', hm, i + 1, σ7, H7, I7.unpinned, T.keep _ _ _ st5 fun b hb o e => (I7.pin (b, o) (List.mem_append_right _ (List.mem_append_right _ (mem_pinsAt hb e)))).1, fun b hb => ?_, w7⟩
   obtain ⟨o, e, d⟩ := T.obj _ _ st5 b hb
   exact (I7.pin (b, o) (List.mem_append_right _ (List.mem_append_right _ (mem_pinsAt hb e)))).2.1
  cases f with
  | next => obtain ⟨σ7, H7, I7, n7⟩ := q7; exact again I7 n7
  | cont => obtain ⟨σ7, H7, I7, n7⟩ := q7; exact again I7 n7
  | brk => obtain ⟨σ7, H7, I7, q7⟩ := q7; exact ⟨σ7, H7, I7.unpinned, q7⟩
  | ret v => obtain ⟨x7, σ7, H7, I7, r7, q7⟩ := q7; exact ⟨x7, σ7, H7, I7.unpinned, r7, q7⟩
end
theorem for_list {K : PySem.W.Frag} {a : Addr} {xs : List V} {g : TG} {tb : TS} {D : Ends} {σ : St} {H : Hp} (Pv : Nat → St → Hp → Prop) (h0 : Pv 0 σ H) (hl : ∀ i σ H, i ≤ xs.length → Pv i σ H → SqL K H a xs)
  (hs : ∀ i x σ H, xs[i]? = some x → Pv i σ H → g x σ H fun σ2 H2 => tb { D with nx := Pv (i + 1), ct := Pv (i + 1), bk := D.nx } σ2 H2) (hd : ∀ σ H, Pv xs.length σ H → D.nx σ H) :
  ∃ W : Nat → Nat → St → Hp → Prop, (∃ m, W 0 m σ H) ∧ ∀ i m σ H, W i m σ H →
   ((Itl K a).stop i H ∧ D.nx σ H) ∨ ((Itl K a).go i H ∧ ∃ N : St → Hp → Prop, (∀ σ' H', N σ' H' → ∃ m', m' < m ∧ W (i + 1) m' σ' H') ∧ ∀ x H', (Itl K a).yld i H x H' → g x σ H' fun σ2 H2 => tb { D with nx := N, ct := N, bk := D.nx } σ2 H2) := by
 refine ⟨fun i m σ H => m = xs.length - i ∧ i ≤ xs.length ∧ Pv i σ H, ⟨xs.length, by simp, Nat.zero_le _, h0⟩, ?_⟩
 rintro i m σ H ⟨rfl, hi, p⟩
 have q := hl i σ H hi p
 by_cases hlt : i < xs.length
 ·refine .inr ⟨⟨xs, xs[i], q, by simp [hlt]⟩, Pv (i + 1), fun σ' H' p' => ⟨xs.length - (i + 1), by omega, rfl, hlt, p'⟩, fun x H' y => ?_⟩
  obtain ⟨e, y⟩ := y
  subst e
  exact hs i x σ _ (y xs q) p
 ·have e : i = xs.length := by omega
  subst e
  exact .inl ⟨⟨xs, q, Nat.le_refl _⟩, hd σ H p⟩
abbrev R2 := V → V → Hp → VK → Prop
def OpR (X : Cx) (f : Value → Value → Sem Value) (r : R2) : Prop :=
 ∀ (pins : List (Addr × Obj)) (s : Shared) (σ : St) (H : Hp) (x y : V) (v u : Value) (Q : VK), Inv X pins σ H s → RelV x v → RelV y u → r x y H Q →
  wpAny (model X.prog X.w) X.A (f v u) (EP X pins σ Q) X.xe s
def CallR (X : Cx) (f : Value) (r : List V → Hp → VK → Prop) : Prop :=
 ∀ (pins : List (Addr × Obj)) (s : Shared) (σ : St) (H : Hp) (xs : List V) (us : List Value) (Q : VK), Inv X pins σ H s → Vals xs us → r xs H Q →
  wpAny (model X.prog X.w) X.A (call f us) (EP X pins σ Q) X.xe s
def tOp (r : R2) (ta tb : TE) : TE := fun σ H Q => ta σ H fun x H1 => tb σ H1 fun y H2 => r x y H2 Q
def rI (C : Int → Int → Prop) (g : Int → Int → V) : R2 := fun x y H Q => ∃ i j, x = .int i ∧ y = .int j ∧ C i j ∧ Q (g i j) H
def rI0 (g : Int → Int → V) : R2 := fun x y H Q => ∃ i j, x = .int i ∧ y = .int j ∧ Q (g i j) H
section
variable {X : Cx} {a b c : Expr} {ta tb tc : TE} {pos : Pos}
theorem binT (ha : PE X a ta) (hb : PE X b tb) {pins : List (Addr × Obj)} {s : Shared} {σ : St} {H : Hp} {R : V → V → Hp → Prop} (I : Inv X pins σ H s)
  (h : ta σ H fun x H1 => tb σ H1 fun y H2 => R x y H2) {Q : Value → Shared → Prop} {f : Value → Value → Sem Value}
  (hf : ∀ v u s2 x y H2, Inv X pins σ H2 s2 → RelV x v → RelV y u → R x y H2 → wpAny (model X.prog X.w) X.A (f v u) Q X.xe s2) :
  wpAny (model X.prog X.w) X.A (eval a X.env) (fun v s₁ => wpAny (model X.prog X.w) X.A (eval b X.env) (fun u s₂ => wpAny (model X.prog X.w) X.A (f v u) Q X.xe s₂) X.xe s₁) X.xe s := by
 refine thn (ha pins s σ H _ I h) fun v s1 ⟨x, H1, I1, r1, q1⟩ => ?_
 refine thn (hb pins s1 σ H1 _ I1 q1) fun u s2 ⟨y, H2, I2, r2, q2⟩ => ?_
 exact hf v u s2 x y H2 I2 r1 r2 q2
theorem pe_op {op : Operator} {r : R2} (ho : OpR X (binaryOp op) r) (ha : PE X a ta) (hb : PE X b tb) : PE X (.BinOp a op b pos) (tOp r ta tb) := by
 intro pins s σ H Q I h
 exact wpAny_BinOp (binT ha hb I h fun v u s2 x y H2 I2 rx ry q => ho pins s2 σ H2 x y v u Q I2 rx ry q)
theorem opI {f : Value → Value → Sem Value} {C : Int → Int → Prop} {g : Int → Int → Int}
  (rule : ∀ (i j : Int) (t u : Tok) (s : Shared) (Q : Value → Shared → Prop) (E : Value → Shared → Prop), C i j → Q (.int (g i j) s.toks) { s with toks := s.toks + 1 } → wpAny (model X.prog X.w) X.A (f (.int i t) (.int j u)) Q E s) :
  OpR X f (rI C fun i j => .int (g i j)) := by
 intro pins s σ H x y v u Q I rx ry h
 obtain ⟨i, j, rfl, rfl, hc, q⟩ := h
 obtain ⟨t, rfl⟩ := rx
 obtain ⟨t', rfl⟩ := ry
 exact rule i j t t' s _ _ hc ⟨.int (g i j), H, I.tok _, ⟨_, rfl⟩, q⟩
theorem opI0 {f : Value → Value → Sem Value} {g : Int → Int → Int}
  (rule : ∀ (i j : Int) (t u : Tok) (s : Shared) (Q : Value → Shared → Prop) (E : Value → Shared → Prop), Q (.int (g i j) s.toks) { s with toks := s.toks + 1 } → wpAny (model X.prog X.w) X.A (f (.int i t) (.int j u)) Q E s) :
  OpR X f (rI0 fun i j => .int (g i j)) := by
 intro pins s σ H x y v u Q I rx ry h
 obtain ⟨i, j, rfl, rfl, q⟩ := h
 obtain ⟨t, rfl⟩ := rx
 obtain ⟨t', rfl⟩ := ry
 exact rule i j t t' s _ _ ⟨.int (g i j), H, I.tok _, ⟨_, rfl⟩, q⟩
theorem opB0 {f : Value → Value → Sem Value} {g : Int → Int → Bool}
  (rule : ∀ (i j : Int) (t u : Tok) (s : Shared) (Q : Value → Shared → Prop) (E : Value → Shared → Prop), Q (.bool (g i j)) s → wpAny (model X.prog X.w) X.A (f (.int i t) (.int j u)) Q E s) :
  OpR X f (rI0 fun i j => .bl (g i j)) := by
 intro pins s σ H x y v u Q I rx ry h
 obtain ⟨i, j, rfl, rfl, q⟩ := h
 obtain ⟨t, rfl⟩ := rx
 obtain ⟨t', rfl⟩ := ry
 exact rule i j t t' s _ _ ⟨.bl (g i j), H, I, rfl, q⟩
def CPow (i j : Int) : Prop := 0 ≤ j ∧ j ≤ 1000000 ∧ i.natAbs < 2 ^ 64
def CMul (i j : Int) : Prop := (-(2 ^ 64) < i ∧ i < 2 ^ 64) ∨ (-(2 ^ 64) < j ∧ j < 2 ^ 64)
theorem CMul.ok {i j : Int} (h : CMul i j) : IntMulOk i j := by
 rcases h with ⟨h1, h2⟩ | ⟨h1, h2⟩
 ·exact .of_left (intBits_le_64 h1 h2)
 ·exact .of_right (intBits_le_64 h1 h2)
theorem op_add : OpR X (binaryOp .Add) (rI0 fun i j => .int (i + j)) := opI0 fun _ _ _ _ _ _ _ q => add_int q
theorem op_sub : OpR X (binaryOp .Sub) (rI0 fun i j => .int (i - j)) := opI0 fun _ _ _ _ _ _ _ q => sub_int q
theorem op_mod : OpR X (binaryOp .Mod) (rI (fun _ j => 0 < j) fun i j => .int (i % j)) := opI fun i j _ _ _ _ _ hc q => by
 have h1 : (0 : Int) < j := hc
 exact mod_int' (by omega) (by rw [Int.fmod_eq_emod_of_nonneg i (by omega)]; exact q)
theorem op_pow : OpR X (binaryOp .Pow) (rI CPow fun i j => .int (i ^ j.toNat)) := opI fun _ _ _ _ _ _ _ hc q => pow_int_small hc.1 hc.2.1 hc.2.2 q
end
def scal : V → V → Bool
 | .non, .non => true | .non, .int _ => true | .int _, .non => true | .non, .bl _ => true | .bl _, .non => true | .non, .str _ => true | .str _, .non => true
 | .int _, .int _ => true | .bl _, .bl _ => true | .str _, .str _ => true | .byt _, .byt _ => true
 | .int _, .str _ => true | .str _, .int _ => true | .bl _, .str _ => true | .str _, .bl _ => true
 | _, _ => false
def rEq : R2 := fun x y H Q => scal x y = true ∧ Q (.bl (decide (x = y))) H
def rNe : R2 := fun x y H Q => scal x y = true ∧ Q (.bl (!decide (x = y))) H
theorem dec_int {i j : Int} : decide (V.int i = V.int j) = (i == j) := by
 rw [Bool.eq_iff_iff]
 simp
theorem dec_bl {i j : Bool} : decide (V.bl i = V.bl j) = (i == j) := by
 rw [Bool.eq_iff_iff]
 simp
theorem dec_str {i j : Str} : decide (V.str i = V.str j) = (i == j) := by
 rw [Bool.eq_iff_iff]
 simp
theorem dec_byt {i j : Array UInt8} : decide (V.byt i = V.byt j) = (i.toList == j.toList) := by
 rw [Bool.eq_iff_iff]
 cases i
 cases j
 simp
section
variable {X : Cx} {a b c : Expr} {ta tb tc : TE} {pos : Pos}
theorem fin_bl {pins : List (Addr × Obj)} {σ : St} {H : Hp} {s : Shared} {Q : VK} {k k' : Bool} (I : Inv X pins σ H s) (q : Q (.bl k) H) (e : k = k') : EP X pins σ Q (.bool k') s := by
 subst e
 exact ⟨.bl k, H, I, rfl, q⟩
theorem op_eq : OpR X (compareOp .Eq) rEq := by
 intro pins s σ H x y v u Q I rx ry h
 obtain ⟨hs, q⟩ := h
 cases x with
 | non =>
  cases rx
  cases y with
  | non => cases ry; exact PySem.EqNone.eq_none_none (fin_bl I q (by simp))
  | bl j => cases ry; exact PySem.EqNone.eq_none_bool (fin_bl I q (by simp))
  | int j => obtain ⟨t', rfl⟩ := ry; exact PySem.EqNone.eq_none_int (fin_bl I q (by simp))
  | str j => obtain ⟨t', rfl⟩ := ry; exact PySem.EqNone.eq_none_str (fin_bl I q (by simp))
  | _ => exact absurd (show false = true from hs) Bool.false_ne_true
 | bl i =>
  cases rx
  cases y with
  | non => cases ry; exact PySem.EqNone.eq_bool_none (fin_bl I q (by simp))
  | bl j => cases ry; exact eq_bool (fin_bl I q dec_bl)
  | str j => obtain ⟨t', rfl⟩ := ry; exact PySem.EqMixed.eq_bool_str (fin_bl I q (by simp))
  | _ => exact absurd (show false = true from hs) Bool.false_ne_true
 | int i =>
  obtain ⟨t, rfl⟩ := rx
  cases y with
  | non => cases ry; exact PySem.EqNone.eq_int_none (fin_bl I q (by simp))
  | int j => obtain ⟨t', rfl⟩ := ry; exact eq_int (fin_bl I q dec_int)
  | str j => obtain ⟨t', rfl⟩ := ry; exact PySem.EqMixed.eq_int_str (fin_bl I q (by simp))
  | _ => exact absurd (show false = true from hs) Bool.false_ne_true
 | str i =>
  obtain ⟨t, rfl⟩ := rx
  cases y with
  | non => cases ry; exact PySem.EqNone.eq_str_none (fin_bl I q (by simp))
  | bl j => cases ry; exact PySem.EqMixed.eq_str_bool (fin_bl I q (by simp))
  | int j => obtain ⟨t', rfl⟩ := ry; exact PySem.EqMixed.eq_str_int (fin_bl I q (by simp))
  | str j => obtain ⟨t', rfl⟩ := ry; exact eq_str (fin_bl I q dec_str)
  | _ => exact absurd (show false = true from hs) Bool.false_ne_true
 | byt i =>
  obtain ⟨t, rfl⟩ := rx
  cases y with
  | byt j => obtain ⟨t', rfl⟩ := ry; exact W.eq_bytes (fin_bl I q dec_byt)
  | _ => exact absurd (show false = true from hs) Bool.false_ne_true
 | _ => cases y <;> exact absurd (show false = true from hs) Bool.false_ne_true
theorem op_ne : OpR X (compareOp .NotEq) rNe := by
 intro pins s σ H x y v u Q I rx ry h
 obtain ⟨hs, q⟩ := h
 cases x with
 | non =>
  cases rx
  cases y with
  | non => cases ry; exact PySem.EqNone.ne_none_none (fin_bl I q (by simp))
  | bl j => cases ry; exact PySem.EqNone.ne_none_bool (fin_bl I q (by simp))
  | int j => obtain ⟨t', rfl⟩ := ry; exact PySem.EqNone.ne_none_int (fin_bl I q (by simp))
  | str j => obtain ⟨t', rfl⟩ := ry; exact PySem.EqNone.ne_none_str (fin_bl I q (by simp))
  | _ => exact absurd (show false = true from hs) Bool.false_ne_true
 | bl i =>
  cases rx
  cases y with
  | non => cases ry; exact PySem.EqNone.ne_bool_none (fin_bl I q (by simp))
  | bl j => cases ry; exact ne_bool (fin_bl I q (congrArg not dec_bl))
  | str j => obtain ⟨t', rfl⟩ := ry; exact PySem.EqMixed.ne_bool_str (fin_bl I q (by simp))
  | _ => exact absurd (show false = true from hs) Bool.false_ne_true
 | int i =>
  obtain ⟨t, rfl⟩ := rx
  cases y with
  | non => cases ry; exact PySem.EqNone.ne_int_none (fin_bl I q (by simp))
  | int j => obtain ⟨t', rfl⟩ := ry; exact ne_int (fin_bl I q (congrArg not dec_int))
  | str j => obtain ⟨t', rfl⟩ := ry; exact PySem.EqMixed.ne_int_str (fin_bl I q (by simp))
  | _ => exact absurd (show false = true from hs) Bool.false_ne_true
 | str i =>
  obtain ⟨t, rfl⟩ := rx
  cases y with
  | non => cases ry; exact PySem.EqNone.ne_str_none (fin_bl I q (by simp))
  | bl j => cases ry; exact PySem.EqMixed.ne_str_bool (fin_bl I q (by simp))
  | int j => obtain ⟨t', rfl⟩ := ry; exact PySem.EqMixed.ne_str_int (fin_bl I q (by simp))
  | str j => obtain ⟨t', rfl⟩ := ry; exact ne_str (fin_bl I q (congrArg not dec_str))
  | _ => exact absurd (show false = true from hs) Bool.false_ne_true
 | byt i =>
  obtain ⟨t, rfl⟩ := rx
  cases y with
  | byt j => obtain ⟨t', rfl⟩ := ry; exact W.ne_bytes (fin_bl I q (congrArg not dec_byt))
  | _ => exact absurd (show false = true from hs) Bool.false_ne_true
 | _ => cases y <;> exact absurd (show false = true from hs) Bool.false_ne_true
theorem op_lt : OpR X (compareOp .Lt) (rI0 fun i j => .bl (decide (i < j))) := opB0 fun _ _ _ _ _ _ _ q => lt_int q
theorem op_le : OpR X (compareOp .LtE) (rI0 fun i j => .bl (decide (i ≤ j))) := opB0 fun _ _ _ _ _ _ _ q => le_int q
theorem op_gt : OpR X (compareOp .Gt) (rI0 fun i j => .bl (decide (j < i))) := opB0 fun _ _ _ _ _ _ _ q => gt_int q
theorem op_ge : OpR X (compareOp .GtE) (rI0 fun i j => .bl (decide (j ≤ i))) := opB0 fun _ _ _ _ _ _ _ q => ge_int q
theorem op_isN : OpR X (compareOp .Is) (fun x y H Q => y = .non ∧ Q (.bl (decide (x = .non))) H) := by
 intro pins s σ H x y v u Q I rx ry h
 obtain ⟨rfl, q⟩ := h
 cases ry
 refine is_none_gen (fin_bl I q ?_)
 cases x <;> first
  | (cases rx; rfl)
  | (obtain ⟨t, rfl⟩ := rx; rfl)
theorem op_notN : OpR X (compareOp .IsNot) (fun x y H Q => y = .non ∧ Q (.bl (!decide (x = .non))) H) := by
 intro pins s σ H x y v u Q I rx ry h
 obtain ⟨rfl, q⟩ := h
 cases ry
 refine isnot_none_gen (fin_bl I q ?_)
 cases x <;> first
  | (cases rx; rfl)
  | (obtain ⟨t, rfl⟩ := rx; rfl)
theorem nomark (b : Expr) {op : CmpOp} (h : op ≠ .In := by decide) (h2 : op ≠ .NotIn := by decide) : behindInMarks op b = false := by
 have e1 : (op == CmpOp.In) = false := by cases op <;> first | rfl | exact absurd rfl h
 have e2 : (op == CmpOp.NotIn) = false := by cases op <;> first | rfl | exact absurd rfl h2
 cases b <;> simp [behindInMarks, e1, e2]
theorem pe_cmpR {op : CmpOp} {r : R2} (ho : OpR X (compareOp op) r) (ha : PE X a ta) (hb : PE X b tb) (hm : behindInMarks op b = false) : PE X (.Compare a [op] [b] pos) (tOp r ta tb) := by
 intro pins s σ H Q I h
 exact wpAny_Compare1 (binT ha hb I h fun v u s2 x y H2 I2 rx ry q => ho pins s2 σ H2 x y v u Q I2 rx ry q) hm
def tTest (t : TE) : TT := fun σ H Q => t σ H fun x H' => ∃ k, x = .bl k ∧ Q k H'
theorem pt_cmpR {op : CmpOp} {r : R2} (ho : OpR X (compareOp op) r) (ha : PE X a ta) (hb : PE X b tb) (hm : behindInMarks op b = false) : PT X (.Compare a [op] [b] pos) (tTest (tOp r ta tb)) := by
 intro pins s σ H Q I h
 refine wpAny_isTrue_Compare1 (thn (ha pins s σ H _ I h) fun v s1 ⟨x, H1, I1, r1, q1⟩ => thn (hb pins s1 σ H1 _ I1 q1) fun u s2 ⟨y, H2, I2, r2, q2⟩ =>
  thn (ho pins s2 σ H2 x y v u _ I2 r1 r2 q2) fun c s3 ⟨z, H3, I3, r3, k, e, q3⟩ => ?_) hm
 subst e
 cases r3
 exact wpAny_truthy_bool ⟨H3, I3, q3⟩
theorem line63 : (sizeLine : Nat) < 2 ^ 63 := by rw [sizeLine_eq]; decide
theorem vals1 {x : V} {us : List Value} (r : Vals [x] us) : ∃ u, us = [u] ∧ RelV x u := by
 cases r with
 | cons r1 r2 => cases r2; exact ⟨_, rfl, r1⟩
theorem vals2 {x y : V} {us : List Value} (r : Vals [x, y] us) : ∃ u w', us = [u, w'] ∧ RelV x u ∧ RelV y w' := by
 cases r with
 | cons r1 r2 =>
  cases r2 with
  | cons r3 r4 => cases r4; exact ⟨_, _, rfl, r1, r3⟩
theorem call_max2 (hc : X.calm = true) : CallR X (.builtin "max") (fun xs H Q => ∃ i j, xs = [.int i, .int j] ∧ Q (.int (if j > i then j else i)) H) := by
 intro pins s σ H xs us Q I r h
 obtain ⟨i, j, rfl, q⟩ := h
 obtain ⟨u, w', rfl, ⟨t, rfl⟩, ⟨t', rfl⟩⟩ := vals2 r
 refine max_two_ints (I.ok.hd hc) fun h' tk k => ⟨_, H, I.kept k, ?_, q⟩
 by_cases hj : j > i
 ·rw [if_pos hj, if_pos hj]; exact ⟨_, rfl⟩
 ·rw [if_neg hj, if_neg hj]; exact ⟨_, rfl⟩
theorem call_min2 (hc : X.calm = true) : CallR X (.builtin "min") (fun xs H Q => ∃ i j, xs = [.int i, .int j] ∧ Q (.int (if j < i then j else i)) H) := by
 intro pins s σ H xs us Q I r h
 obtain ⟨i, j, rfl, q⟩ := h
 obtain ⟨u, w', rfl, ⟨t, rfl⟩, ⟨t', rfl⟩⟩ := vals2 r
 refine min_two_ints (I.ok.hd hc) fun h' tk k => ⟨_, H, I.kept k, ?_, q⟩
 by_cases hj : j < i
 ·rw [if_pos hj, if_pos hj]; exact ⟨_, rfl⟩
 ·rw [if_neg hj, if_neg hj]; exact ⟨_, rfl⟩
theorem call_int1 : CallR X (.type "int") (fun xs H Q => (∃ i, xs = [.int i] ∧ Q (.int i) H) ∨ ∃ k, xs = [.bl k] ∧ Q (.int (if k then 1 else 0)) H) := by
 intro pins s σ H xs us Q I r h
 rcases h with ⟨i, rfl, q⟩ | ⟨k, rfl, q⟩
 ·obtain ⟨u, rfl, t, rfl⟩ := vals1 r
  exact call_int_int ⟨.int i, H, I, ⟨_, rfl⟩, q⟩
 ·obtain ⟨u, rfl, r1⟩ := vals1 r
  cases r1
  exact call_int_bool ⟨.int (if k then 1 else 0), H, I.tok _, ⟨_, rfl⟩, q⟩
end
structure ObjM (h : Heap) (x dx C : Addr) (mA : Str → Option Value) : Prop where
 obj : h.get? x = some (W.instObj C dx)
 ns : h.Ns1 dx mA
 ne : dx ≠ x
theorem lookIn_ns {h : Heap} {dx : Addr} {mA : Str → Option Value} (n : h.Ns1 dx mA) : ∃ od, h.get? dx = some od ∧ ∀ name, W.lookIn name od = some (mA name) := by
 obtain ⟨o, es, ep, ho, hd, hk, _, hm⟩ := n
 refine ⟨o, ho, fun name => ?_⟩
 have e := hm name
 unfold nsFind findBy at e
 rw [← Array.find?_toList] at e
 unfold W.lookIn
 rw [hd]
 dsimp only
 split
 ·rename_i y q
  rw [q] at e
  exact congrArg some e
 ·rename_i q
  rw [q] at e
  have a : es.toList.any (·.refKey) = false := by
   rw [List.any_eq_false]
   intro y hy
   obtain ⟨z, t, hkey⟩ := hk y (Array.mem_toList_iff.mp hy)
   simp [DictEntry.refKey, hkey]
  have a' : ¬ es.toList.any (·.refKey) = true := by rw [a]; exact Bool.false_ne_true
  rw [if_neg a']
  exact congrArg some e
theorem ObjM.look {h : Heap} {x dx C : Addr} {mA : Str → Option Value} (I : ObjM h x dx C mA) : ∃ od, W.InstAt h x (W.instObj C dx) C (some od) ∧ ∀ name, W.lookIn name od = some (mA name) :=
 let ⟨od, ho, hl⟩ := lookIn_ns I.ns
 ⟨od, ⟨I.obj, rfl, rfl, ho⟩, hl⟩
section
variable {P : Program} {w : World} {H H' : Hp} {h h' : Heap} {a C dx : Addr} {fs fs' : List (Str × V)}
theorem ins_get (hok : HOk P w H h) (e : H a = some (.ins C dx fs)) : ∃ mA, ObjM h a dx C mA ∧ (∀ f, RelO (fs.lookup f) (mA f)) ∧ PySem.Within mA (fs.map (·.1)) ∧ fs.length ≤ 1000 ∧ H dx = some (.own a) := by
 obtain ⟨d, z, ne, ob, mA, n, r, q⟩ := (show ObjOk P w H h a (.ins C dx fs) from hok a _ e)
 exact ⟨mA, ⟨ob, n, ne⟩, r, q, z, d⟩
end
structure Cls (K : W.Frag) (C : Addr) : Prop where
 pg : W.plainGet K C Str.empty = true
 hd : W.hasDictIn K C = true
 po : W.plainOver K C = true
 sa : W.findIn K (.ref C) "__setattr__" = some (some (.builtin "object.__setattr__"))
theorem Cls.get {K : W.Frag} {C : Addr} (c : Cls K C) (f : Str) : W.plainGet K C f = true := c.pg
section
variable {X : Cx} {pins : List (Addr × Obj)} {σ : St} {H : Hp} {s : Shared} {a C dx : Addr} {fs : List (Str × V)} {f : Str} {v : V} {A : Around} {E : Value → Shared → Prop}
theorem Inv.made (I : Inv X pins σ H s) : Inv X pins σ (upd (upd H s.heap.objs.size (.own (s.heap.objs.size + 1))) (s.heap.objs.size + 1) (.ins C s.heap.objs.size []))
  { s with heap := (s.heap.push W.emptyDict).push (W.instObj C s.heap.objs.size) } := by
 have e1 : (s.heap.push W.emptyDict).get? s.heap.objs.size = some W.emptyDict := Heap.get?_push_size s.heap rfl
 have e2 : ((s.heap.push W.emptyDict).push (W.instObj C s.heap.objs.size)).get? (s.heap.objs.size + 1) = some (W.instObj C s.heap.objs.size) := by
  have := Heap.get?_push_size (s.heap.push W.emptyDict) (o := W.instObj C s.heap.objs.size) rfl
  rwa [Heap.size_push] at this
 have e3 : (s.heap.push W.emptyDict).Ns s.heap.objs.size (fun _ => none) := ⟨W.emptyDict, #[], _, e1, rfl, (fun e he => absurd he (by simp)), fun _ => rfl⟩
 have I1 := I.laid (a := s.heap.objs.size) (o := .own (s.heap.objs.size + 1)) (h' := s.heap.push W.emptyDict) (t' := s.toks) (fun b u q => Heap.get?_push_of_some _ q) (Nat.le_refl _) ⟨_, e1⟩
 refine I1.laid (a := s.heap.objs.size + 1) (o := .ins C s.heap.objs.size []) (t' := s.toks) (fun b u q => Heap.get?_push_of_some _ q) (Nat.le_of_eq (Heap.size_push _ _)) ?_
 have ne : s.heap.objs.size ≠ s.heap.objs.size + 1 := Nat.ne_of_lt (Nat.lt_succ_self _)
 refine ⟨by rw [upd_ne ne, upd_same], Nat.zero_le _, ne, e2, fun _ => none, (Heap.Ns1.of_empty e3).at fun o q => Heap.get?_push_of_some _ q, fun _ => True.intro, fun y hy => absurd rfl hy⟩
end
section
variable {X : Cx} {pins : List (Addr × Obj)} {σ : St} {H : Hp} {s : Shared} {A : Around} {E : Value → Shared → Prop} {Q : Value → Shared → Prop} {c : Value} {b : Bool}
inductive TyOf (K : W.Frag) (H : Hp) : V → Value → Prop where
 | non : TyOf K H .non (.type "NoneType")
 | bl (x : Bool) : TyOf K H (.bl x) (.type "bool")
 | int (i : Int) : TyOf K H (.int i) (.type "int")
 | str (x : Str) : TyOf K H (.str x) (.type "str")
 | flt (x : UInt64) : TyOf K H (.flt x) (.type "float")
 | lst {a : Addr} {xs : List V} (e : H a = some (.lst xs)) : TyOf K H (.ref a) (.type "list")
 | frz {a : Addr} {o : Obj} {xs : List V} (e : H a = some (.frz o (.lst xs))) : TyOf K H (.ref a) (.type "list")
 | tup {a : Addr} {xs : List V} (e : H a = some (.tup xs)) : TyOf K H (.ref a) (.type "tuple")
 | dK {a : Addr} {kvs : List (Key × V)} (e : H a = some (.dK kvs)) : TyOf K H (.ref a) (.type "dict")
 | dT {a : Addr} {kvs : List (List Key × V)} (e : H a = some (.dT kvs)) : TyOf K H (.ref a) (.type "dict")
 | ins {a C dx : Addr} {fs : List (Str × V)} (e : H a = some (.ins C dx fs)) (cl : Cls K C) (ha : W.findIn K (.ref C) "__class__" = some (some (.builtin "object.__class__")))
   (hn : W.specialIn K (.builtin "object.__class__") "__get__" = some (some (.builtin "getset_descriptor.__get__"))) (htk : W.takesIn K (.builtin "object.__class__") = some true)
   (hm : W.mroIn K C (.type "object") = some true) : TyOf K H (.ref a) (.ref C)
end
structure Room (k : Nat) (A : Around) : Prop where
 hd : A.handled = none
 dp : A.depth + 3 * k + 5 < recursionLimit
 un : A.units + 16 * k + 200 < cLine
theorem Room.mono {j k : Nat} {A : Around} (r : Room k A) (h : j ≤ k) : Room j A := ⟨r.hd, by have := r.dp; omega, by have := r.un; omega⟩
theorem Room.deeper {k : Nat} {A : Around} (r : Room (k + 1) A) (env : Env) : Room k (A.deeper env) :=
 ⟨r.hd, by have := r.dp; show A.depth + 1 + 3 * k + 5 < _; omega, by have := r.un; show A.units + 3 + 16 * k + 200 < _; omega⟩
theorem Room.in1 {k : Nat} {A : Around} (r : Room (k + 1) A) : Room k A.in1 :=
 ⟨r.hd, by have := r.dp; show A.depth + 3 * k + 5 < _; omega, by have := r.un; show A.units + 1 + 16 * k + 200 < _; omega⟩
theorem Room.depth {k : Nat} {A : Around} (r : Room k A) : A.depth < recursionLimit := by have := r.dp; omega
theorem Room.units {k : Nat} {A : Around} (r : Room k A) : A.units + 64 < cLine := by have := r.un; omega
def tNil : TA := fun _ H Q => Q [] H
def tCons (ta : TE) (tr : TA) : TA := fun σ H Q => ta σ H fun x H1 => tr σ H1 fun xs H2 => Q (x :: xs) H2
section
variable {X : Cx} {e : Expr} {es : List Expr} {te : TE} {t : TA} {pos : Pos}
theorem pa_nil : PA X [] tNil := fun _ _ _ _ H Q I h => Calls.spliced_nil ⟨[], H, I, .nil, h⟩
theorem pa_cons (ha : PE X e te) (hr : PA X es t) (hs : starEach (e :: es) X.env = (false, eval e X.env) :: starEach es X.env := by rfl) : PA X (e :: es) (tCons te t) := by
 intro pos pins s σ H Q I h
 rw [hs]
 show wpAny _ _ (spliced ((false, eval e X.env) :: backTo pos (starEach es X.env))) _ _ s
 refine Calls.spliced_cons (thn (ha pins s σ H _ I h) fun u s1 ⟨x, H1, I1, r1, q1⟩ => ?_)
 exact thn (hr pos pins s1 σ H1 _ I1 q1) fun us s2 ⟨xs, H2, I2, r2, q2⟩ => ⟨x :: xs, H2, I2, .cons r1 r2, q2⟩
def tTup (t : TA) : TE := fun σ H Q => t σ H fun xs H1 => xs.length ≤ sizeLine ∧ ∀ p, H1 p = none → Q (.ref p) (upd H1 p (.tup xs))
def tLst (t : TA) : TE := fun σ H Q => t σ H fun xs H1 => xs.length ≤ sizeLine ∧ ∀ p, H1 p = none → Q (.ref p) (upd H1 p (.lst xs))
theorem pe_tup {x1} (h : PA X es t) : PE X (.Tuple es x1 pos) (tTup t) := by
 intro pins s σ H Q I hq
 refine wpAny_Tuple_spliced (thn (h pos pins s σ H _ I hq) fun us s1 ⟨xs, H1, I1, r, z, q⟩ => ⟨by rw [← r.length]; exact z, ?_⟩)
 have hf : H1 s1.heap.objs.size = none := I1.hok.fresh (Nat.le_refl _)
 refine ⟨.ref s1.heap.objs.size, upd H1 s1.heap.objs.size (.tup xs), I1.laid (t' := s1.toks) (fun b u e => Heap.get?_push_of_some _ e) (Nat.le_refl _) ?_, rfl, q _ hf⟩
 exact ⟨z, us, r, ⟨_, Heap.get?_push_size _ rfl, rfl, _, rfl⟩⟩
theorem pe_lst (h : PA X es t) : PE X (.List es pos) (tLst t) := by
 intro pins s σ H Q I hq
 refine wpAny_List_spliced (thn (h pos pins s σ H _ I hq) fun us s1 ⟨xs, H1, I1, r, z, q⟩ => ⟨by rw [← r.length]; exact z, ?_⟩)
 have hf : H1 s1.heap.objs.size = none := I1.hok.fresh (Nat.le_refl _)
 refine ⟨.ref s1.heap.objs.size, upd H1 s1.heap.objs.size (.lst xs), I1.laid (t' := s1.toks) (fun b u e => Heap.get?_push_of_some _ e) (Nat.le_refl _) ?_, rfl, q _ hf⟩
 exact ⟨z, us, 0, r, Heap.get?_push_size _ rfl⟩
end
abbrev Sp := List V → Hp → VK → XK → Prop
abbrev CXT := List Env → Hp → Shared → XK → Value → Shared → Prop
structure Env0 (P : Program) (w : World) (K : W.Frag) (mg : Str → Option Value) (base : Heap) (A : Around) (outer : List Env) (s : Shared) (H : Hp) : Prop where
 frames : A.frames = some outer
 mod : Mod K mg base
 bs : ∀ b o, base.get? b = some o → s.heap.get? b = some o ∧ H b = none
 bsz : base.objs.size ≤ s.heap.objs.size
 funs : s.heap.FunFrames base outer
 frf : ∀ b ∈ frs outer, H b = none
 hok : HOk P w H s.heap
 bare : AllBare s.gens
def CE (outer : List Env) (P : Program) (w : World) (H : Hp) (s : Shared) (Q : VK) (u : Value) (s' : Shared) : Prop :=
 ∃ v H', s'.os = s.os ∧ AllBare s'.gens ∧ Un (frs outer) [] H H' s.heap s'.heap ∧ HOk P w H' s'.heap ∧ RelV v u ∧ Q v H'
def CR (CX : CXT) (outer : List Env) (P : Program) (w : World) (H : Hp) (s : Shared) (Q : VK) (E : XK) (r : Result) (s' : Shared) : Prop :=
 match r with
 | .ok (.ret u) => CE outer P w H s Q u s'
 | .ok _ => False
 | .error e => CX outer H s E e s'
structure FnOk (P : Program) (w : World) (K : W.Frag) (mg : Str → Option Value) (base : Heap) (CX : CXT) (k : Nat) (f : Addr) (fd : FuncData) (ps : List Str) (sp : Sp) : Prop where
 len : ∀ vs H Q E, sp vs H Q E → vs.length = ps.length
 run : ∀ (A : Around) (outer : List Env) (s : Shared) (H : Hp) (args : Args) (us : List Value) (vs : List V) (Q : VK) (E : XK), Room k A → Env0 P w K mg base A outer s H → BindsTo s fd args (ps.zip us) → Vals vs us → sp vs H Q E →
  codeAny (model P w) A (.call (.ref f) args) (CR CX outer P w H s Q E) s
theorem FnOk.mono {P : Program} {w : World} {K : W.Frag} {mg : Str → Option Value} {base : Heap} {CX : CXT} {j k : Nat} {f : Addr} {fd : FuncData} {ps : List Str} {sp : Sp} (F : FnOk P w K mg base CX j f fd ps sp) (h : j ≤ k) :
  FnOk P w K mg base CX k f fd ps sp := ⟨F.len, fun A outer s H args us vs Q E hr => F.run A outer s H args us vs Q E (hr.mono h)⟩
theorem FnOk.imp {P : Program} {w : World} {K : W.Frag} {mg : Str → Option Value} {base : Heap} {CX : CXT} {k : Nat} {f : Addr} {fd : FuncData} {ps : List Str} {sp sp' : Sp} (F : FnOk P w K mg base CX k f fd ps sp)
  (h : ∀ vs H Q E, sp' vs H Q E → sp vs H Q E) : FnOk P w K mg base CX k f fd ps sp' :=
 ⟨fun vs H Q E q => F.len vs H Q E (h _ _ _ _ q), fun A outer s H args us vs Q E hr he hb hv hs => F.run A outer s H args us vs Q E hr he hb hv (h _ _ _ _ hs)⟩
theorem Env0.in1 {P : Program} {w : World} {K : W.Frag} {mg : Str → Option Value} {base : Heap} {A : Around} {outer : List Env} {s : Shared} {H : Hp} (e : Env0 P w K mg base A outer s H) :
  Env0 P w K mg base A.in1 outer s H := ⟨e.frames, e.mod, e.bs, e.bsz, e.funs, e.frf, e.hok, e.bare⟩
section
variable {X : Cx} {pins : List (Addr × Obj)} {σ : St} {H : Hp} {s s' : Shared}
theorem Inv.env0 (I : Inv X pins σ H s) : Env0 X.prog X.w X.K X.mg X.base X.A X.stack s H :=
 ⟨I.ok.frames, I.ok.mod, I.bs, Nat.le_trans I.ok.bsz I.sz, I.stack, I.stkFree, I.hok, I.bare⟩
theorem Inv.after {Q : VK} {u : Value} (I : Inv X pins σ H s) (h : CE X.stack X.prog X.w H s Q u s') : EP X pins σ Q u s' := by
 obtain ⟨v, H', os, bare, un, hok, r, q⟩ := h
 obtain ⟨hh, g, d, t, os'⟩ := s'
 obtain rfl : os' = s.os := os
 exact ⟨v, H', I.call (h' := hh) (g' := g) (d' := d) (t' := t) (ch := []) un hok bare (fun b z => absurd z (by simp)), r, q⟩
end
def tCall (sp : Sp) (dvs : List V) (E : XK) (t : TA) : TE := fun σ H Q => t σ H fun vs H1 => sp (vs ++ dvs) H1 Q E
def Binds (K : W.Frag) (fd : FuncData) (ps : List Str) (ds : List Value) : Prop :=
 ∀ (s : Shared) (us : List Value), K.In s.heap → (us ++ ds).length = ps.length → BindsTo s fd ⟨us, []⟩ (ps.zip (us ++ ds))
theorem Binds.all {K : W.Frag} {fd : FuncData} {ps : List Str} (h : ∀ us : List Value, us.length = ps.length → bindArgs fd ⟨us, []⟩ = pure (ps.zip us)) : Binds K fd ps [] := fun s us _ hl => by
 rw [List.append_nil] at hl ⊢
 exact .of_eq (h us hl)
def Passes (CX : CXT) (X : Cx) (E : XK) : Prop := ∀ (pins : List (Addr × Obj)) (σ : St) (H : Hp) (s : Shared) (e : Value) (s' : Shared), Inv X pins σ H s → CX X.stack H s E e s' → X.xe e s'
section
variable {X : Cx} {CX : CXT} {k : Nat} {f C : Addr} {fd : FuncData} {ps : List Str} {sp : Sp} {dvs : List V} {ds : List Value} {E : XK} {x m : Str} {p pos apos : Pos} {e o : Expr} {es : List Expr} {ta : TE} {t : TA}
theorem run_fn {pins : List (Addr × Obj)} {σ : St} {H : Hp} {s : Shared} {Q : VK} {us : List Value} {vs : List V} (F : FnOk X.prog X.w X.K X.mg X.base CX k f fd ps sp) (hr : Room k X.A) (hb : Binds X.K fd ps ds) (hd : Vals dvs ds) (hx : Passes CX X E)
  (I : Inv X pins σ H s) (r : Vals vs us) (h : sp (vs ++ dvs) H Q E) : wpAny (model X.prog X.w) X.A (call (.ref f) us) (EP X pins σ Q) X.xe s := by
 have r2 : Vals (vs ++ dvs) (us ++ ds) := r.append hd
 have hl : (us ++ ds).length = ps.length := by rw [← r2.length]; exact F.len _ _ _ _ h
 refine wpAny_call (codeAny_mono (F.run X.A X.stack s H ⟨us, []⟩ (us ++ ds) (vs ++ dvs) Q E hr I.env0 (hb s us I.kIn hl) r2 h) fun r s' hq => ?_)
 cases r with
 | error e => exact hx pins σ H s e s' I hq
 | ok fl =>
  cases fl with
  | ret u => exact I.after hq
  | next => exact False.elim hq
  | brk => exact False.elim hq
  | cont => exact False.elim hq
theorem pe_call (F : FnOk X.prog X.w X.K X.mg X.base CX k f fd ps sp) (hr : Room k X.A) (hg : Gl X x) (hm : X.mg x = some (.ref f)) (hk : W.keepIn X.K (.ref f) = true) (hb : Binds X.K fd ps ds) (hd : Vals dvs ds) (hx : Passes CX X E)
  (ha : PA X (e :: es) t) (hdb : (x == ("__debug__" : Str)) = false := by decide) (he : starEach (e :: es) X.env = (false, eval e X.env) :: starEach es X.env := by rfl) (hpl : (backTo pos (starEach es X.env)).any (·.1) = false := by rfl) :
  PE X (.Call (.Name x p) (e :: es) [] pos) (tCall sp dvs E t) := by
 intro pins s σ H Q I h
 refine wpAny_Call_Name_kw (ld_glob I hg hm ?_ hdb)
 refine W.callWith_K (h₀ := X.base) I.ok.mod.kin hk (thn (ha pos pins s σ H _ I h) fun us s1 ⟨vs, H1, I1, r, q⟩ => ⟨I1.kIn, ?_⟩) he hpl
 exact run_fn F hr hb hd hx I1 r q
end
structure FnScope (N P : List Str) (sc : Scope) : Prop where
 kind : sc.kind = .function
 co : sc.isCoroutine = false
 gen : sc.isGenerator = false
 nd : N.Nodup
 pre : N.take P.length = P
 par : ∀ x ∈ P, sc.names.lookup x = some .local ∨ sc.names.lookup x = some .cell
 nofree : ∀ y ∈ sc.names, y.2 ≠ .free
theorem bindL_out {kindOf : Str → Option NameKind} {x : Str} : ∀ {binds : List (Str × Value)} {m : Str → Option Value}, (∀ v, (x, v) ∉ binds) → bindL kindOf binds m x = m x
 | [], _, _ => rfl
 | (n, v) :: r, m, h => by
  unfold bindL
  rw [bindL_out fun w hw => h w (List.mem_cons_of_mem _ hw)]
  split
  ·have : x ≠ n := by rintro rfl; exact h v List.mem_cons_self
   simp [this]
  ·rfl
theorem bindC_out {kindOf : Str → Option NameKind} {x : Str} : ∀ {binds : List (Str × Value)} {m : Str → Option Value}, (∀ v, (x, v) ∉ binds) → bindC kindOf binds m x = m x
 | [], _, _ => rfl
 | (n, v) :: r, m, h => by
  unfold bindC
  rw [bindC_out fun w hw => h w (List.mem_cons_of_mem _ hw)]
  split
  ·rfl
  ·have : x ≠ n := by rintro rfl; exact h v List.mem_cons_self
   simp [this]
theorem bindL_get {kindOf : Str → Option NameKind} {x : Str} {v : Value} : ∀ {P : List Str} {vs : List Value} {i : Nat} {m : Str → Option Value}, P.Nodup → P[i]? = some x → vs[i]? = some v → kindOf x = some .local →
  bindL kindOf (P.zip vs) m x = some v
 | [], _, _, _, _, h, _, _ => by simp at h
 | _ :: _, [], _, _, _, _, h, _ => by simp at h
 | p :: P, w :: vs, 0, m, nd, h1, h2, hk => by
  simp at h1 h2; subst h1; subst h2
  show bindL kindOf ((p, w) :: P.zip vs) m p = _
  unfold bindL
  rw [bindL_out fun v hv => (List.nodup_cons.mp nd).1 (List.of_mem_zip hv).1, if_pos hk]
  simp
 | p :: P, w :: vs, i + 1, m, nd, h1, h2, hk => by
  show bindL kindOf ((p, w) :: P.zip vs) m x = _
  unfold bindL
  exact bindL_get (i := i) (List.nodup_cons.mp nd).2 (by simpa using h1) (by simpa using h2) hk
theorem bindC_get {kindOf : Str → Option NameKind} {x : Str} {v : Value} : ∀ {P : List Str} {vs : List Value} {i : Nat} {m : Str → Option Value}, P.Nodup → P[i]? = some x → vs[i]? = some v → kindOf x ≠ some .local →
  bindC kindOf (P.zip vs) m x = some v
 | [], _, _, _, _, h, _, _ => by simp at h
 | _ :: _, [], _, _, _, _, h, _ => by simp at h
 | p :: P, w :: vs, 0, m, nd, h1, h2, hk => by
  simp at h1 h2; subst h1; subst h2
  show bindC kindOf ((p, w) :: P.zip vs) m p = _
  unfold bindC
  rw [bindC_out fun v hv => (List.nodup_cons.mp nd).1 (List.of_mem_zip hv).1, if_neg hk]
  simp
 | p :: P, w :: vs, i + 1, m, nd, h1, h2, hk => by
  show bindC kindOf ((p, w) :: P.zip vs) m x = _
  unfold bindC
  exact bindC_get (i := i) (List.nodup_cons.mp nd).2 (by simpa using h1) (by simpa using h2) hk
def start (N : List Str) (vs : List V) : St := vs.map some ++ List.replicate (N.length - vs.length) none
def cxOf (CX : CXT) (P : Program) (w : World) (K : W.Frag) (mg : Str → Option Value) (base : Heap) (N : List Str) (qual : Str) (scope : Scope) (f : Addr) (cd : Value) (A : Around) (outer : List Env) (s : Shared) (H : Hp) (E : XK) : Cx where
 prog := P
 w := w
 K := K
 mg := mg
 base := base
 A := A.deeper (envOfC qual scope s.heap.objs.size f cd)
 N := N
 s₀ := s
 H₀ := H
 env := envOfC qual scope s.heap.objs.size f cd
 outer := outer
 stack := envOfC qual scope s.heap.objs.size f cd :: outer
 ex := []
 calm := true
 fn := fun _ => true
 pn := []
 xe := fun e s' => wpAny (model P w) (A.deeper (envOfC qual scope s.heap.objs.size f cd)) (leaving (envOfC qual scope s.heap.objs.size f cd) e) (fun _ s'' => CX outer H s E e s'') (fun e' s'' => CX outer H s E e' s'') s'
theorem cell_has {sc : Scope} {n : Nat} {x : Str} (h : sc.names.lookup x = some .cell) : ∃ c, (cellsFrom n sc.names []).lookup x = some c := by
 have q := W.cellsFrom_some sc.names n [] (.inl h)
 exact Option.isSome_iff_exists.mp q
theorem inv_start {CX : CXT} {P : Program} {w : World} {K : W.Frag} {mg : Str → Option Value} {base : Heap} {N ps : List Str} {qual : Str} {scope : Scope} {f : Addr} {cd : Value} {A : Around} {outer : List Env} {s s1 : Shared} {H : Hp} {E : XK} {us : List Value} {vs : List V}
  (S : FnScope N ps scope) (hd : A.handled = none) (e0 : Env0 P w K mg base A outer s H) (hl : vs.length = ps.length) (r : Vals vs us)
  (x : InCallC s s.heap.objs.size (bindL (envOfC qual scope s.heap.objs.size f cd).kindOf (ps.zip us) fun _ => none) (cellsFrom (s.heap.objs.size + 1) scope.names []) (bindC (envOfC qual scope s.heap.objs.size f cd).kindOf (ps.zip us) fun _ => none) s1) :
  Inv (cxOf CX P w K mg base N qual scope f cd A outer s H E) [] (start N vs) H s1 := by
 have hpl : ps.length ≤ N.length := by have := congrArg List.length S.pre; rw [List.length_take] at this; omega
 obtain ⟨h1, tk, rfl, hk⟩ := x.done
 have noA : ∀ b : Addr, b ∉ (cxOf CX P w K mg base N qual scope f cd A outer s H E).ex := fun b z => absurd (show b ∈ ([] : List Addr) from z) (by simp)
 refine ⟨⟨e0.mod, S.kind, rfl, rfl, Nat.le_refl _, fun y z c h1 h2 => ?_, fun y hy => ?_, fun y c _ h => ?_, fun _ => hd, Around.frames_deeper e0.frames, .inr ⟨rfl, rfl⟩, fun b z => absurd z (noA b), e0.bs, e0.bsz, fun b _ _ => noA b, fun b z => absurd z (noA b), e0.funs, e0.frf⟩,
  rfl, e0.bare, Un.kept hk, ⟨_, x.toInCall.ns, fun i y v h1 h2 h3 => ?_⟩, fun y c h => ⟨_, x.cell y c h⟩, e0.hok.fresh (Nat.le_refl _), fun y c h => ?_, fun p hp => absurd (show p ∈ ([] : List (Addr × Obj)) from hp) (by simp), e0.hok.kept hk, ?_⟩
 ·exact name_of_addr x.apart (PySem.mem_of_lookup h1) (PySem.mem_of_lookup h2)
 ·have hy : scope.names.lookup y = some .cell ∨ scope.names.lookup y = some .free := hy
  rcases hy with hy | hy
  ·exact cell_has hy
  ·exact absurd rfl (S.nofree _ (PySem.mem_of_lookup hy))
 ·exact Nat.le_of_lt (x.above y c (PySem.mem_of_lookup h))
 ·have hi : i < vs.length := by
   unfold start at h2
   by_cases hi : i < vs.length
   ·exact hi
   ·rw [List.getElem?_append_right (by simpa using hi)] at h2
    rw [List.getElem?_replicate] at h2
    split at h2 <;> cases h2
  have ha : vs[i]? = some v := by
   unfold start at h2
   rw [List.getElem?_append_left (by simpa using hi), List.getElem?_map] at h2
   cases e : vs[i]? with
   | none => rw [e] at h2; cases h2
   | some a => rw [e] at h2; cases h2; rfl
  obtain ⟨u, hu, rv⟩ := r.get ha
  have hp : ps[i]? = some y := by
   rw [← S.pre, List.getElem?_take_of_lt (by omega)]; exact h1
  have ndP : ps.Nodup := by rw [← S.pre]; exact S.nd.sublist (List.take_sublist _ _)
  refine ⟨u, rv, ?_⟩
  rcases S.par y (List.mem_of_getElem? hp) with k | k
  ·exact .inl ⟨k, bindL_get ndP hp hu k⟩
  ·obtain ⟨c, e⟩ := cell_has (n := s.heap.objs.size + 1) k
   refine .inr ⟨.inl k, c, e, ?_⟩
   have q := x.cell y c e
   rw [bindC_get ndP hp hu (by show scope.names.lookup y ≠ _; rw [k]; decide)] at q
   exact q
 ·exact e0.hok.fresh (Nat.le_of_lt (x.above y c (PySem.mem_of_lookup h)))
 ·unfold start
  show _ = N.length
  rw [List.length_append, List.length_map, List.length_replicate]
  omega
theorem fn_of {CX : CXT} {P : Program} {w : World} {K : W.Frag} {mg : Str → Option Value} {base : Heap} {k : Nat} {f : Addr} {name qual : Str} {params : Arguments} {body : List Stmt} {scope : Scope} {dV kV doc pm cdv ct oc : Value} {an od : Option Addr}
  {osl : Array (Option Value)} {N ps : List Str} {sp : Sp} (lk : K.lookup f = some ⟨oc, od, .func (W.fnOf name qual params body scope dV kV doc pm an cdv ct), osl⟩) (hcd : W.codeIn K cdv qual = true) (S : FnScope N ps scope)
  (len : ∀ vs H Q E, sp vs H Q E → vs.length = ps.length)
  (hbody : ∀ (A : Around) (outer : List Env) (s : Shared) (H : Hp) (vs : List V) (Q : VK) (E : XK), Room k (A.deeper (envOfC qual scope s.heap.objs.size f cdv)) → sp vs H Q E →
   ∃ t, PSs (cxOf CX P w K mg base N qual scope f cdv A outer s H E) body t ∧ t { nx := fun _ H' => Q .non H', rt := Q } (start N vs) H) :
  FnOk P w K mg base CX (k + 1) f (W.fnOf name qual params body scope dV kV doc pm an cdv ct) ps sp := by
 refine ⟨len, fun A outer s H args us vs Q E hr e0 hb r hsp => ?_⟩
 have hl := len _ _ _ _ hsp
 have KX : K.In s.heap := e0.mod.kin.keeps fun b o e => (e0.bs b o e).1
 have lim : s.heap.NoLimit := e0.mod.nolimit.keeps fun b o e => (e0.bs b o e).1
 have hkind : ∀ y ∈ ps.zip us, scope.names.lookup y.1 = some .local ∨ (scope.names.lookup y.1 = some .cell ∧ ((cellsFrom (s.heap.objs.size + 1) scope.names []).lookup y.1).isSome = true) := fun ⟨n, v⟩ hy => by
  rcases S.par n (List.of_mem_zip hy).1 with q | q
  ·exact .inl q
  ·exact .inr ⟨q, W.cellsFrom_some _ _ _ (.inl q)⟩
 refine codeAny_call_function hr.depth (KX _ _ lk) rfl S.co S.gen rfl (W.codeRec_of KX hcd) (hb _ _ _ _ ?_)
 refine wpAny_newFunctionEnv_cells S.kind hkind fun env he s1 x => ?_
 subst he
 refine ⟨lim.keeps x.toInCall.keep, codeAny_func ?_⟩
 obtain ⟨t, ht, hq⟩ := hbody A outer s H vs Q E (hr.deeper _) hsp
 have I : Inv (cxOf CX P w K mg base N qual scope f cdv A outer s H E) [] (start N vs) H s1 := inv_start S hr.hd e0 hl r x
 refine wpAny_mono (ht [] s1 (start N vs) H _ I hq) (fun fl s' hs => ?_) fun e s' hs => hs
 have fin : ∀ {σ' : St} {H' : Hp} {v : V} {u : Value}, Inv (cxOf CX P w K mg base N qual scope f cdv A outer s H E) [] σ' H' s' → RelV v u → Q v H' → CE outer P w H s Q u s' :=
  fun {σ' H' v u} J rv q => ⟨v, H', J.os, J.bare, J.base, J.hok, rv, q⟩
 cases fl with
 | ret u =>
  obtain ⟨v, σ', H', J, rv, q⟩ := hs
  exact fin J rv q
 | next =>
  obtain ⟨σ', H', J, q⟩ := hs
  exact fin (v := V.non) (u := Value.none) J rfl q
 | brk =>
  obtain ⟨_, _, _, q⟩ := hs
  exact False.elim q
 | cont =>
  obtain ⟨_, _, _, q⟩ := hs
  exact False.elim q
section
variable {X : Cx} {x : Str} {p pos : Pos} {e : Expr} {es : List Expr} {t : TA} {id T : String} {r : List V → Hp → VK → Prop}
def tCB (r : List V → Hp → VK → Prop) (t : TA) : TE := fun σ H Q => t σ H fun vs H1 => r vs H1 Q
theorem pe_callB (hc : CallR X (.builtin id) r) (hg : Gl X x) (hm : X.mg x = none) (hv : bootBuiltins x = some (.builtin id)) (ha : PA X (e :: es) t) (hn : x ≠ "__name__" := by decide) (hdb : (x == ("__debug__" : Str)) = false := by decide)
  (he : starEach (e :: es) X.env = (false, eval e X.env) :: starEach es X.env := by rfl) (hpl : (backTo pos (starEach es X.env)).any (·.1) = false := by rfl) : PE X (.Call (.Name x p) (e :: es) [] pos) (tCB r t) := by
 intro pins s σ H Q I h
 refine wpAny_Call_Name_kw (ld_blt I hg hm hv ?_ hn hdb)
 exact PyProof.Rows.callWith_builtin1 (thn (ha pos pins s σ H _ I h) fun us s1 ⟨vs, H1, I1, r1, q1⟩ => hc pins s1 σ H1 vs us Q I1 r1 q1) he hpl
theorem pe_callTy (hc : CallR X (.type T) r) (hg : Gl X x) (hm : X.mg x = none) (hv : bootBuiltins x = some (.type T)) (ha : PA X (e :: es) t) (hn : x ≠ "__name__" := by decide) (hdb : (x == ("__debug__" : Str)) = false := by decide)
  (he : starEach (e :: es) X.env = (false, eval e X.env) :: starEach es X.env := by rfl) (hpl : (backTo pos (starEach es X.env)).any (·.1) = false := by rfl) : PE X (.Call (.Name x p) (e :: es) [] pos) (tCB r t) := by
 intro pins s σ H Q I h
 refine wpAny_Call_Name_kw (ld_blt I hg hm hv ?_ hn hdb)
 exact PyProof.Rows.callWith_type1 (thn (ha pos pins s σ H _ I h) fun us s1 ⟨vs, H1, I1, r1, q1⟩ => hc pins s1 σ H1 vs us Q I1 r1 q1) he hpl
end
end L2
namespace HT
open PySem PyProof.Rows
def lexLt : List Int → List Int → Bool
 | [], [] => false
 | [], _ :: _ => true
 | _ :: _, [] => false
 | x :: xs, y :: ys => if x = y then lexLt xs ys else decide (x < y)
theorem lexLt_cons (x y : Int) (xs ys : List Int) : lexLt (x :: xs) (y :: ys) = if x = y then lexLt xs ys else decide (x < y) := rfl
theorem lexLt_nil_nil : lexLt [] [] = false := rfl
theorem lexLt_nil_cons (y : Int) (ys : List Int) : lexLt [] (y :: ys) = true := rfl
theorem lexLt_cons_nil (x : Int) (xs : List Int) : lexLt (x :: xs) [] = false := rfl
theorem eqAt_int (A : Around) (s : Shared) (a : Int) (t : Tok) (c : Int) (u : Tok) : ∃ e, SeqAt.EqAt A s (.int a t) (.int c u) e ∧ (e = true ↔ a = c) :=
 ⟨(a == c), SeqAt.EqAt.int_int a t c u, by simp⟩
theorem rcLt_int (A : Around) (s : Shared) (a : Int) (t : Tok) (c : Int) (u : Tok) (prog : Program) (w : World) (E : Value → Shared → Prop) (Q : Value → Shared → Prop) (h : Q (.bool (decide (a < c))) s) :
  wpAny (model prog w) A (richCompare .Lt (.int a t) (.int c u)) Q E s :=
 (PyProof.Rows.lt_int h : wpAny (model prog w) A (compareOp .Lt (.int a t) (.int c u)) Q E s)
section
open PySem.SeqAt
open PySem.AutoSeq1 (wpAny_loadPart')
open PySem.MeetsSeq PySem.MeetsSeq2 PySem.MeetsSeq3
theorem tuple_lt_ints (l b : Addr) (items items2 : Array Value) (n n2 : Nat) (dd dd2 : Option Addr) (sl sl2 : Array (Option Value)) (ns ms : List Int) (hi : IntsAre items.toList ns) (hj : IntsAre items2.toList ms) :
  Meets (Builtin.«tuple.__lt__» ⟨[.ref l, .ref b], []⟩)
   (fun _ R s => s.heap.get? l = some { cls := .type "tuple", dict := dd, data := .seq items n, slots := sl } ∧ s.heap.get? b = some { cls := .type "tuple", dict := dd2, data := .seq items2 n2, slots := sl2 } ∧
    R (.ok (.ret (.bool (lexLt ns ms)))) s) :=
 .of_wp fun prog w A R s h => by
  obtain ⟨hp, g, d, tk, os⟩ := s; obtain ⟨hl, hb, h⟩ := h
  have f2 := AutoSeq1.sub_tuple_tuple
  have z1 : items.size = ns.length := by rw [← hi.length]; simp
  have z2 : items2.size = ms.length := by rw [← hj.length]; simp
  wp_walk using wpAny_loadPart' hl, wpAny_loadPart' hb, wpAny_forIn_list _ (fun rest b s' => b.1 = none ∧ s' = ⟨hp, g, d, tk, os⟩ ∧ ∃ (vs ws : List Value) (ns' ms' : List Int), rest = vs.zip ws ∧
   IntsAre vs ns' ∧ IntsAre ws ms' ∧ ns'.length + items2.size = ms'.length + items.size ∧ R (.ok (.ret (.bool (lexLt ns' ms')))) ⟨hp, g, d, tk, os⟩) _
  case turn =>
   rintro ⟨y, x⟩ rest b s' ⟨hb', rfl, vs, ws, ns', ms', hz, hvi, hwi, hlen, hR⟩
   cases hvi with
   | nil => rw [List.zip_nil_left] at hz; cases hz
   | cons a t hvi' =>
    cases hwi with
    | nil => rw [List.zip_nil_right] at hz; cases hz
    | cons c u hwi' =>
     rw [List.zip_cons_cons] at hz
     injection hz with hyx hrest
     injection hyx with hy hx
     subst hy hx
     rw [lexLt_cons] at hR
     simp only [List.length_cons] at hlen
     obtain ⟨e, he, hiff⟩ := eqAt_int A.in1 ⟨hp, g, d, tk, os⟩ a t c u
     refine wpAny_bind (he prog w _ _ ?_)
     cases e with
     | true =>
      rw [if_pos (hiff.mp rfl)] at hR
      wp_walk
      exact ⟨rfl, rfl, _, _, _, _, hrest, hvi', hwi', by omega, hR⟩
     | false =>
      rw [if_neg (fun q => absurd (hiff.mpr q) Bool.false_ne_true)] at hR
      have hri := rcLt_int A.in1 ⟨hp, g, d, tk, os⟩ a t c u prog w
      wp_walk using hri
      exact ⟨_, rfl, by simpa using hR⟩
  case fin =>
   rintro ⟨b1, b2⟩ s' ⟨hb', rfl, vs, ws, ns', ms', hz, hvi, hwi, hlen, hR⟩
   simp only at hb'
   subst hb'
   have hv : lexLt ns' ms' = decide (items.size < items2.size) := by
    cases hvi with
    | nil =>
     cases hwi with
     | nil =>
      simp only [List.length_nil] at hlen
      rw [lexLt_nil_nil]
      exact (decide_eq_false (by omega)).symm
     | cons c u hw =>
      simp only [List.length_nil, List.length_cons] at hlen
      rw [lexLt_nil_cons]
      exact (decide_eq_true (by omega)).symm
    | cons a t hv =>
     cases hwi with
     | nil =>
      simp only [List.length_nil, List.length_cons] at hlen
      rw [lexLt_cons_nil]
      exact (decide_eq_false (by omega)).symm
     | cons c u hw =>
      rw [List.zip_cons_cons] at hz
      cases hz
   rw [hv] at hR
   wp_walk
   exact ⟨_, rfl, by simpa [Builtin.Tuple.tupleCompareSizes] using hR⟩
  case h =>
   exact ⟨rfl, rfl, items.toList, items2.toList, ns, ms, rfl, hi, hj, by omega, h⟩
end
section
variable {prog : Program} {w : World} {A : Around} {E : Value → Shared → Prop} {s : Shared}
theorem lt_tupInts {l b : Addr} {items items2 : Array Value} {ns ms : List Int} {Q : Value → Shared → Prop} (hl : IsTup s.heap l items) (hb : IsTup s.heap b items2) (hi : IntsAre items.toList ns) (hj : IntsAre items2.toList ms)
  (hu : A.units < cLine) (h : Q (.bool (lexLt ns ms)) s) : wpAny (model prog w) A (compareOp .Lt (.ref l) (.ref b)) Q E s := by
 obtain ⟨⟨cls, dd, data, sl⟩, ho, hc, n, hd⟩ := id hl
 obtain ⟨⟨cls2, dd2, data2, sl2⟩, ho2, hc2, n2, hd2⟩ := id hb
 simp only at hc hd hc2 hd2
 subst hc hd hc2 hd2
 exact richCompare_meets_room (op := .Lt) ⟨_, ho, rfl⟩ ⟨_, ho2, rfl⟩ PySem.F.slot_tuple_lt PySem.F.entry_tuple_lt (PySem.F.args_tuple_lt_2 _ _) (tuple_lt_ints l b items items2 n n2 dd dd2 sl sl2 ns ms hi hj)
  ⟨ho, ho2, show Value.bool (lexLt ns ms) ≠ Value.notImplemented ∧ Q (.bool (lexLt ns ms)) s from ⟨(fun x => nomatch x), h⟩⟩ hu
def sIx (n d : Nat) : Option Int → Nat
 | none => d
 | some v => if v < 0 then (v + (n : Int)).toNat else min v.toNat n
theorem sIx_nat (n d k : Nat) : sIx n d (some (k : Int)) = min k n := by
 show (if (k : Int) < 0 then ((k : Int) + (n : Int)).toNat else min (k : Int).toNat n) = min k n
 rw [if_neg (by omega), Int.toNat_natCast]
end
end HT
namespace L2
open PySem PySem.Spec PyProof.Rows
abbrev TO := St → Hp → (Option Int → Hp → Prop) → Prop
def PO (X : Cx) (e : Option Expr) (t : TO) : Prop :=
 ∀ (pins : List (Addr × Obj)) (s : Shared) (σ : St) (H : Hp) (Q : Option Int → Hp → Prop), Inv X pins σ H s → t σ H Q →
  wpAny (model X.prog X.w) X.A (evalPart e X.env) (fun u s' => ∃ o H', Inv X pins σ H' s' ∧ IsPart u o ∧ Q o H') X.xe s
def tPart (t : TE) : TO := fun σ H Q => t σ H fun x H1 => ∃ i, x = .int i ∧ Q (some i) H1
theorem intsAre_of {ns : List Int} : ∀ {us : List Value}, Vals (ns.map V.int) us → IntsAre us ns := by
 induction ns with
 | nil => intro us r; rw [List.map_nil] at r; cases r; exact .nil
 | cons n ns ih =>
  intro us r
  rw [List.map_cons] at r
  cases r with
  | cons r1 r2 =>
   obtain ⟨t, e⟩ := r1
   subst e
   exact .cons n t (ih r2)
section
variable {X : Cx} {e : Expr} {te : TE} {lo hi : Option Expr} {tl th : TO} {pos p2 : Pos}
theorem po_some (h : PE X e te) : PO X (some e) (tPart te) := by
 intro pins s σ H Q I hw
 rw [evalPart_some]
 refine thn (h pins s σ H _ I hw) fun u s1 ⟨x, H1, I1, r1, q1⟩ => ?_
 obtain ⟨i, rfl, q⟩ := q1
 obtain ⟨t, rfl⟩ := r1
 exact ⟨some i, H1, I1, .int i t, q⟩
def SlR (X : Cx) (r : V → Option Int → Option Int → Hp → VK → Prop) : Prop :=
 ∀ (pins : List (Addr × Obj)) (s : Shared) (σ : St) (H : Hp) (x : V) (v vl vu : Value) (lo hi : Option Int) (sl : Addr) (Q : VK), Inv X pins σ H s → RelV x v → s.heap.IsSliceOf sl vl vu .none → IsPart vl lo → IsPart vu hi → r x lo hi H Q →
  ∃ T id, typeLookup (.type T) "__getitem__" = pure (some (.builtin id)) ∧ s.TypeIs v T ∧ wpAny (model X.prog X.w) X.A (getItem v (.ref sl)) (EP X pins σ Q) X.xe s
def tSl (r : V → Option Int → Option Int → Hp → VK → Prop) (te : TE) (tl th : TO) : TE := fun σ H Q => te σ H fun x H1 => tl σ H1 fun l H2 => th σ H2 fun u H3 => r x l u H3 Q
theorem pe_slice {r : V → Option Int → Option Int → Hp → VK → Prop} (hr : SlR X r) (he : PE X e te) (hl : PO X lo tl) (hu : PO X hi th) : PE X (.Subscript e (.Slice lo hi none p2) pos) (tSl r te tl th) := by
 intro pins s σ H Q I h
 refine Subscript_ (thn (he pins s σ H _ I h) fun v s1 ⟨x, H1, I1, r1, q1⟩ => ?_)
 refine wpAny_Slice (thn (hl pins s1 σ H1 _ I1 q1) fun vl s2 ⟨l, H2, I2, pl, q2⟩ => thn (hu pins s2 σ H2 _ I2 q2) fun vu s3 ⟨u, H3, I3, pu, q3⟩ => ?_)
 rw [evalPart_none]
 refine wpAny_pure ?_
 have I4 : Inv X pins σ H3 { s3 with heap := s3.heap.push { cls := .type "slice", data := .fields #[vl, vu, .none] } } := I3.kept (t' := s3.toks) fun b ob q => Heap.get?_push_of_some _ q
 obtain ⟨T, id, hT, ht, hg⟩ := hr pins { s3 with heap := s3.heap.push { cls := .type "slice", data := .fields #[vl, vu, .none] } } σ H3 x v vl vu l u s3.heap.objs.size Q I4 r1 (Heap.IsSliceOf.new ..) pl pu q3
 show wpAny (model X.prog X.w) X.A (subscriptTail e (.Slice lo hi none p2) v (.ref s3.heap.objs.size)) (EP X pins σ Q) X.xe { s3 with heap := s3.heap.push { cls := .type "slice", data := .fields #[vl, vu, .none] } }
 exact tail_any (ops := [.ref s3.heap.objs.size, v]) ht hT hg (by with_unfolding_all rfl)
def cutV (xs : List V) (lo hi : Option Int) : List V := (xs.drop (HT.sIx xs.length 0 lo)).take (HT.sIx xs.length xs.length hi - HT.sIx xs.length 0 lo)
theorem cutV_length (xs : List V) (lo hi : Option Int) : (cutV xs lo hi).length ≤ xs.length := by
 unfold cutV
 rw [List.length_take, List.length_drop]
 omega
def rLtT (K : W.Frag) : R2 := fun x y H Q => ∃ a b ns ms, x = .ref a ∧ y = .ref b ∧ SqT K H a (ns.map V.int) ∧ SqT K H b (ms.map V.int) ∧ Q (.bl (HT.lexLt ns ms)) H
theorem op_ltT (hu : X.A.units < cLine) : OpR X (compareOp .Lt) (rLtT X.K) := by
 intro pins s σ H x y v u Q I rx ry h
 obtain ⟨a, b, ns, ms, rfl, rfl, ha, hb, q⟩ := h
 cases rx
 cases ry
 obtain ⟨its, r1, p1, _⟩ := I.tuple ha
 obtain ⟨its2, r2, p2, _⟩ := I.tuple hb
 have i1 : IntsAre its.toArray.toList ns := intsAre_of r1
 have i2 : IntsAre its2.toArray.toList ms := intsAre_of r2
 exact HT.lt_tupInts p1 p2 i1 i2 hu ⟨.bl (HT.lexLt ns ms), H, I, rfl, q⟩
end
def ixN (n : Nat) (i : Int) : Option Nat := if 0 ≤ i then (if i < n then some i.toNat else none) else if -(n : Int) ≤ i then some (i + n).toNat else none
def atI {α : Type} (xs : List α) (i : Int) : Option α := (ixN xs.length i).bind fun j => xs[j]?
theorem ixN_seq {n : Nat} {i : Int} {j : Nat} (h : ixN n i = some j) : seqIndex? i n = some j ∧ j < n ∧ -(n : Int) ≤ i ∧ i < n := by
 unfold ixN at h
 by_cases h0 : 0 ≤ i
 ·rw [if_pos h0] at h
  by_cases h1 : i < n
  ·rw [if_pos h1] at h
   have e : i.toNat = j := Option.some.inj h
   exact ⟨by rw [seqIndex_of h0 h1, e], by omega, by omega, h1⟩
  ·rw [if_neg h1] at h; cases h
 ·rw [if_neg h0] at h
  by_cases h1 : -(n : Int) ≤ i
  ·rw [if_pos h1] at h
   have e : (i + n).toNat = j := Option.some.inj h
   exact ⟨by rw [seqIndex_neg (by omega) h1, e], by omega, h1, by omega⟩
  ·rw [if_neg h1] at h; cases h
theorem atI_get {α : Type} {xs : List α} {i : Int} {v : α} (h : atI xs i = some v) : ∃ j, seqIndex? i xs.length = some j ∧ xs[j]? = some v ∧ j < xs.length ∧ -(xs.length : Int) ≤ i ∧ i < xs.length := by
 unfold atI at h
 cases e : ixN xs.length i with
 | none => rw [e] at h; cases h
 | some j =>
  rw [e] at h
  obtain ⟨h1, h2, h3, h4⟩ := ixN_seq e
  exact ⟨j, h1, h, h2, h3, h4⟩
def PlainIx (b : Expr) : Prop := ∀ o i, subscripted b false o i = operate [o, i] (getItem o i)
def IxR (X : Cx) (r : R2) : Prop :=
 ∀ (value slice : Expr) (pins : List (Addr × Obj)) (s : Shared) (σ : St) (H : Hp) (x y : V) (v u : Value) (Q : VK), Inv X pins σ H s → RelV x v → RelV y u → r x y H Q →
  subscripted slice false v u = operate [v, u] (getItem v u) → wpAny (model X.prog X.w) X.A (subscriptTail value slice v u) (EP X pins σ Q) X.xe s
def MtR (X : Cx) (id : String) (r : V → List V → Hp → VK → Prop) : Prop :=
 ∀ (pins : List (Addr × Obj)) (s : Shared) (σ : St) (H : Hp) (x : V) (xs : List V) (v : Value) (us : List Value) (Q : VK), Inv X pins σ H s → RelV x v → Vals xs us → r x xs H Q →
  wpAny (model X.prog X.w) X.A (call (.builtin id) (v :: us)) (EP X pins σ Q) X.xe s
section
variable {X : Cx} {a b : Expr} {ta tb : TE} {pos : Pos}
theorem pe_ix {r : R2} (hr : IxR X r) (ha : PE X a ta) (hb : PE X b tb) (hs : PlainIx b) : PE X (.Subscript a b pos) (tOp r ta tb) := by
 intro pins s σ H Q I h
 exact Subscript_ (binT ha hb I h fun v u s2 x y H2 I2 rx ry q => hr a b pins s2 σ H2 x y v u Q I2 rx ry q (hs _ _))
def rIxL (K : W.Frag) : R2 := fun x y H Q => ∃ p xs i v, x = .ref p ∧ y = .int i ∧ SqL K H p xs ∧ atI xs i = some v ∧ Q v H
def rIxT (K : W.Frag) : R2 := fun x y H Q => ∃ p xs i v, x = .ref p ∧ y = .int i ∧ SqT K H p xs ∧ atI xs i = some v ∧ Q v H
theorem ix_list : IxR X (rIxL X.K) := by
 intro value slice pins s σ H x y v u Q I rx ry h hs
 obtain ⟨p, xs, i, z, rfl, rfl, hq, he, q⟩ := h
 cases rx
 obtain ⟨t, rfl⟩ := ry
 obtain ⟨its, r, pl, hz⟩ := I.list hq
 obtain ⟨j, h1, h2, h3, h4, h5⟩ := atI_get he
 obtain ⟨w, ew, rw'⟩ := r.get h2
 have hl := r.length
 have hn := line63
 have fin : EP X pins σ Q w s := ⟨z, H, I, rw', q⟩
 by_cases h0 : 0 ≤ i
 ·have hj : i.toNat = j := by
   rw [seqIndex_of h0 h5] at h1
   exact Option.some.inj h1
  exact item_listR pl.isList h0 (by omega) (by rw [hj]; simpa using ew) fin hs
 ·have hj : (i + (its.toArray.size : Int)).toNat = j := by
   rw [seqIndex_neg (by omega) h4] at h1
   rw [List.size_toArray, ← hl]
   exact Option.some.inj h1
  exact subscriptTail_builtinR (x := w) pl.isList.typeIs slot_list_getitem.lookup
   (wpAny_getItem_list_neg (Q := fun r s' => r = w ∧ EP X pins σ Q r s') pl.isList (by omega) (by rw [List.size_toArray] <;> omega) (by omega) (by rw [hj]; simpa using ew) ⟨rfl, fin⟩) hs
theorem ix_tup : IxR X (rIxT X.K) := by
 intro value slice pins s σ H x y v u Q I rx ry h hs
 obtain ⟨p, xs, i, z, rfl, rfl, hq, he, q⟩ := h
 cases rx
 obtain ⟨t, rfl⟩ := ry
 obtain ⟨its, r, pl, hz⟩ := I.tuple hq
 obtain ⟨j, h1, h2, h3, h4, h5⟩ := atI_get he
 obtain ⟨w, ew, rw'⟩ := r.get h2
 have hl := r.length
 have hn := line63
 have fin : EP X pins σ Q w s := ⟨z, H, I, rw', q⟩
 exact subscriptTail_builtinR (x := w) pl.typeIs slot_tuple_getitem.lookup
  (getItem_tuple (j := j) (Q := fun r s' => r = w ∧ EP X pins σ Q r s') pl (by omega) (by omega) (by rw [List.size_toArray, ← hl]; exact h1) (by simpa using ew) ⟨rfl, fin⟩) hs
theorem Inv.lst {pins : List (Addr × Obj)} {σ : St} {H : Hp} {s : Shared} {p : Addr} {xs : List V} (I : Inv X pins σ H s) (h : H p = some (.lst xs)) :
  ∃ (its : List Value) (n : Nat), Vals xs its ∧ s.heap.get? p = some { cls := .type "list", data := .seq its.toArray n } ∧ xs.length ≤ sizeLine := by
 obtain ⟨z, its, n, r, e⟩ := I.hok p _ h
 exact ⟨its, n, r, e, z⟩
theorem slice_bounds (lo hi : Option Int) (n : Nat) : (sliceBounds lo hi none n).1 = ((HT.sIx n 0 lo : Nat) : Int) ∧ (sliceBounds lo hi none n).2.1 = ((HT.sIx n n hi : Nat) : Int) ∧ (sliceBounds lo hi none n).2.2 = 1 := by
 refine ⟨?_, ?_, rfl⟩
 ·cases lo with
  | none => simp [sliceBounds, HT.sIx]
  | some i =>
   simp only [sliceBounds, HT.sIx, Option.getD_none, show (1 : Int) > 0 by decide, if_true]
   by_cases h : i < 0
   ·simp only [h, if_true] <;> omega
   ·simp only [h, if_false] <;> omega
 ·cases hi with
  | none => simp [sliceBounds, HT.sIx]
  | some i =>
   simp only [sliceBounds, HT.sIx, Option.getD_none, show (1 : Int) > 0 by decide, if_true]
   by_cases h : i < 0
   ·simp only [h, if_true] <;> omega
   ·simp only [h, if_false] <;> omega
theorem slicePick_cut (its : List Value) (lo hi : Option Int) : slicePick its.toArray lo hi none = ((its.drop (HT.sIx its.length 0 lo)).take (HT.sIx its.length its.length hi - HT.sIx its.length 0 lo)).toArray := by
 obtain ⟨h1, h2, h3⟩ := slice_bounds lo hi its.toArray.size
 unfold slicePick
 rw [h1, h2, h3]
 simp only [sliceRange_one, pick_run, List.size_toArray] <;> rfl
def rSlL (K : W.Frag) : V → Option Int → Option Int → Hp → VK → Prop := fun x lo hi H Q => ∃ a xs, x = .ref a ∧ SqL K H a xs ∧ ∀ p, H p = none → Q (.ref p) (upd H p (.lst (cutV xs lo hi)))
theorem sl_list : SlR X (rSlL X.K) := by
 intro pins s σ H x v vl vu lo hi sl Q I rx hs pl pu h
 obtain ⟨a, xs, rfl, hx, q⟩ := h
 cases rx
 obtain ⟨its, r, ht, hz⟩ := I.list hx
 have hlen := r.length
 refine ⟨"list", _, slot_list_getitem.lookup, ht.isList.typeIs, ?_⟩
 refine wpAny_getItem_list_slice ht.isList hs pl pu .none (by simp) ?_ (by rw [List.size_toArray] <;> omega)
 rw [slicePick_cut, ← hlen]
 refine ⟨.ref s.heap.objs.size, _, I.laid (t' := s.toks) (o := .lst (cutV xs lo hi)) (fun b ob q => Heap.get?_push_of_some _ q) (Nat.le_refl _) ?_, rfl, q _ (I.hok.fresh (Nat.le_refl _))⟩
 exact ⟨Nat.le_trans (cutV_length xs lo hi) hz, _, 0, (r.drop (HT.sIx xs.length 0 lo)).take (HT.sIx xs.length xs.length hi - HT.sIx xs.length 0 lo), Heap.get?_push_size _ rfl⟩
def flatV : V → Bool
 | .non => true
 | .bl _ => true
 | .int _ => true
 | .str _ => true
 | _ => false
def eqV : V → V → Bool
 | .non, .non => true
 | .bl a, .bl b => a == b
 | .bl a, .int b => (if a then 1 else 0) == b
 | .int a, .bl b => a == (if b then 1 else 0)
 | .int a, .int b => a == b
 | .str a, .str b => a == b
 | _, _ => false
theorem eqAt_V {A : Around} {s : Shared} {y x : V} {u v : Value} (ry : RelV y u) (rx : RelV x v) (fy : flatV y = true) (fx : flatV x = true) : SeqAt.EqAt A s u v (eqV y x) := by
 cases y with
 | non =>
  cases ry
  cases x with
  | non => cases rx; exact SeqAt.EqAt.same _
  | bl b => cases rx; exact SeqAt.EqAt.none_bool b
  | int b => obtain ⟨t, rfl⟩ := rx; exact SeqAt.EqAt.none_int b t
  | str b => obtain ⟨t, rfl⟩ := rx; exact SeqAt.EqAt.none_str b t
  | _ => exact absurd (show false = true from fx) Bool.false_ne_true
 | bl a =>
  cases ry
  cases x with
  | non => cases rx; exact SeqAt.EqAt.bool_none a
  | bl b => cases rx; exact SeqAt.EqAt.bool_bool a b
  | int b => obtain ⟨t, rfl⟩ := rx; exact SeqAt.EqAt.bool_int a b t
  | str b => obtain ⟨t, rfl⟩ := rx; exact SeqAt.EqAt.bool_str a b t
  | _ => exact absurd (show false = true from fx) Bool.false_ne_true
 | int a =>
  obtain ⟨t', rfl⟩ := ry
  cases x with
  | non => cases rx; exact SeqAt.EqAt.int_none a t'
  | bl b => cases rx; exact SeqAt.EqAt.int_bool a t' b
  | int b => obtain ⟨t, rfl⟩ := rx; exact SeqAt.EqAt.int_int a t' b t
  | str b => obtain ⟨t, rfl⟩ := rx; exact SeqAt.EqAt.int_str a t' b t
  | _ => exact absurd (show false = true from fx) Bool.false_ne_true
 | str a =>
  obtain ⟨t', rfl⟩ := ry
  cases x with
  | non => cases rx; exact SeqAt.EqAt.str_none a t'
  | bl b => cases rx; exact SeqAt.EqAt.str_bool a t' b
  | int b => obtain ⟨t, rfl⟩ := rx; exact SeqAt.EqAt.str_int a t' b t
  | str b => obtain ⟨t, rfl⟩ := rx; exact SeqAt.EqAt.str_str a t' b t
  | _ => exact absurd (show false = true from fx) Bool.false_ne_true
 | _ => exact absurd (show false = true from fy) Bool.false_ne_true
theorem call_len_seq : CallR X (.builtin "len") (fun xs H Q => ∃ p ys, xs = [.ref p] ∧ (SqL X.K H p ys ∨ SqT X.K H p ys) ∧ Q (.int ys.length) H) := by
 intro pins s σ H xs us Q I r h
 obtain ⟨p, ys, rfl, hq, q⟩ := h
 obtain ⟨u, rfl, rx⟩ := vals1 r
 cases rx
 have hn := line63
 rcases hq with hq | hq
 ·obtain ⟨its, r', pl, hz⟩ := I.list hq
  have hlen := r'.length
  exact Calls.call_len_list pl.isList (by simp only [List.size_toArray] <;> omega) ⟨.int ys.length, H, I.tok _, ⟨s.toks + 1, by rw [List.size_toArray, hlen]⟩, q⟩
 ·obtain ⟨its, r', pl, hz⟩ := I.tuple hq
  have hlen := r'.length
  exact len_tuple pl (by simp only [List.size_toArray] <;> omega) ⟨.int ys.length, H, I.tok _, ⟨s.toks + 1, by rw [List.size_toArray, hlen]⟩, q⟩
theorem call_list_of : CallR X (.type "list") (fun xs H Q => ∃ p ys, xs = [.ref p] ∧ (SqL X.K H p ys ∨ SqT X.K H p ys) ∧ ∀ l, H l = none → Q (.ref l) (upd H l (.lst ys))) := by
 intro pins s σ H xs us Q I r h
 obtain ⟨p, ys, rfl, hq, q⟩ := h
 obtain ⟨u, rfl, rx⟩ := vals1 r
 cases rx
 have fin : ∀ (its : List Value), Vals ys its → ys.length ≤ sizeLine → ∀ (h' : Heap) (c' : Nat), (∀ b o', s.heap.get? b = some o' → h'.get? b = some o') →
   h'.get? s.heap.objs.size = some { cls := .type "list", dict := none, data := .seq its.toArray c', slots := #[] } → EP X pins σ Q (.ref s.heap.objs.size) { s with heap := h' } := fun its r' hz h' c' kp e =>
  ⟨.ref s.heap.objs.size, _, I.laid (t' := s.toks) kp (Nat.le_refl _) (show ObjOk X.prog X.w _ h' _ (.lst ys) from ⟨hz, its, c', r', e⟩), rfl, q _ (I.hok.fresh (Nat.le_refl _))⟩
 rcases hq with hq | hq
 ·obtain ⟨its, r', pl, hz⟩ := I.list hq
  have hlen := r'.length
  obtain ⟨o, ho, hc, n, hd⟩ := pl.isList
  exact call_list_seq p (.inl rfl) ho hc hd (fun h' c' kp e => fin its r' hz h' c' kp e) (by simp only [List.size_toArray] <;> omega)
 ·obtain ⟨its, r', pl, hz⟩ := I.tuple hq
  have hlen := r'.length
  obtain ⟨o, ho, hc, n, hd⟩ := pl
  exact call_list_seq p (.inr rfl) ho hc hd (fun h' c' kp e => fin its r' hz h' c' kp e) (by simp only [List.size_toArray] <;> omega)
def tyV (K : W.Frag) (T : String) (x : V) (H : Hp) : Prop := match x with
 | .str _ => T = "str"
 | .int _ => T = "int"
 | .ref p => (T = "list" ∧ ∃ xs, SqL K H p xs) ∨ (T = "tuple" ∧ ∃ o, K.lookup p = some o ∧ o.cls = .type "tuple" ∧ o.dict = none) ∨
   (T = "dict" ∧ ((∃ kvs, H p = some (.dK kvs)) ∨ ∃ kvs, H p = some (.dT kvs))) ∨ (T = "set" ∧ ∃ S n, H p = some (.set S n))
 | _ => False
theorem tyV_is {pins : List (Addr × Obj)} {σ : St} {H : Hp} {s : Shared} {T : String} {x : V} {v : Value} (I : Inv X pins σ H s) (r : RelV x v) (ty : tyV X.K T x H) :
  s.TypeIs v T ∧ ∀ a, v = .ref a → ∃ ob, s.heap.get? a = some ob ∧ ob.dict = none := by
 cases x with
 | str z =>
  obtain ⟨t, rfl⟩ := r
  cases (show T = "str" from ty)
  exact ⟨typeIs_str s z t, fun _ e => nomatch e⟩
 | int i =>
  obtain ⟨t, rfl⟩ := r
  cases (show T = "int" from ty)
  exact ⟨typeIs_int s i t, fun _ e => nomatch e⟩
 | ref p =>
  cases r
  rcases ty with ⟨rfl, xs, hq⟩ | ⟨rfl, o, hk, hc, hd⟩ | ⟨rfl, hk⟩ | ⟨rfl, S, n, hk⟩
  ·obtain ⟨its, _, pl, _⟩ := I.list hq
   refine ⟨pl.isList.typeIs, fun a e => ?_⟩
   cases e
   obtain ⟨o, n, e, c, hd, _⟩ := pl
   exact ⟨o, e, hd⟩
  ·refine ⟨⟨o, I.kIn p o hk, hc⟩, fun a e => ?_⟩
   cases e
   exact ⟨o, I.kIn _ o hk, hd⟩
  ·have z : ∃ o, s.heap.get? p = some o ∧ o.ExactDict := by
    rcases hk with ⟨kvs, hk⟩ | ⟨kvs, hk⟩
    ·obtain ⟨_, _, _, _, o, _, _, e, ex, _⟩ := I.hok p _ hk
     exact ⟨o, e, ex⟩
    ·obtain ⟨_, _, _, _, o, _, _, e, ex, _⟩ := I.hok p _ hk
     exact ⟨o, e, ex⟩
   obtain ⟨o, e, ex⟩ := z
   refine ⟨⟨o, e, ex.1⟩, fun a e2 => ?_⟩
   cases e2
   exact ⟨o, e, ex.2.1⟩
  ·obtain ⟨o, _, _, _, e, ex, _⟩ := I.hok p _ hk
   refine ⟨⟨o, e, ex.1⟩, fun a e2 => ?_⟩
   cases e2
   exact ⟨o, e, ex.2.1⟩
 | _ => exact False.elim ty
def tBM (K : W.Frag) (T : String) (r : V → List V → Hp → VK → Prop) (to : TE) (t : TA) : TE := fun σ H Q => to σ H fun x H1 => tyV K T x H1 ∧ t σ H1 fun xs H2 => r x xs H2 Q
variable {o e : Expr} {es : List Expr} {to : TE} {t : TA} {name : Str} {apos cpos : Pos} {T id : String} {r : V → List V → Hp → VK → Prop}
theorem pe_bm (pa : PlainAttrs T) (slot : Slot T name id) (hty : typeOf (.builtin id) = pure (.type "method_descriptor")) (hm : MtR X id r) (ho : PE X o to) (ha : PA X (e :: es) t)
  (hbase : attributeBase o name X.env (eval o X.env) = eval o X.env := by rfl)
  (hfew : ((backTo cpos (starEach (e :: es) X.env)).all (fun x => !x.1) && (backToKw cpos (keywordEach [] X.env)).all (fun x => x.1.isSome)
   && decide ((e :: es).length + ([] : List Keyword).length + (if ([] : List Keyword).isEmpty then 0 else 1) < 30)) = true := by rfl)
  (hline : (apos.endLine == cpos.line) = true := by rfl) (hs : starEach (e :: es) X.env = (false, eval e X.env) :: starEach es X.env := by rfl) (hplain : (backTo cpos (starEach es X.env)).any (·.1) = false := by rfl) :
  PE X (.Call (.Attribute o name apos) (e :: es) [] cpos) (tBM X.K T r to t) := by
 intro pins s σ H Q I h
 refine wpAny_Call_method_late hbase hfew hline rfl (thn (ho pins s σ H _ I h) fun v s1 ⟨x, H1, I1, r1, ty, q1⟩ => ?_)
 obtain ⟨h1, h2⟩ := tyV_is I1 r1 ty
 refine ⟨T, id, pa, slot, hty, h1, h2, ?_⟩
 have hA := ha cpos pins s1 σ H1 _ I1 q1
 rw [hs] at hA ⊢
 refine Calls.callWith_builtin (by show (false || (backTo cpos (starEach es X.env)).any (·.1)) = false; rw [hplain] <;> rfl) (Calls.evalArgs_plain ?_)
 exact thn hA fun us s2 ⟨vs, H2, I2, r2, q2⟩ => hm pins s2 σ H2 x vs v us Q I2 r1 r2 q2
end
def MtM (X : Cx) (id : String) (r : V → List V → Hp → VK → Prop) : Prop :=
 ∀ (pins : List (Addr × Obj)) (s : Shared) (σ : St) (H : Hp) (x : V) (xs : List V) (v : Value) (us : List Value) (Q : VK), Inv X pins σ H s → RelV x v → Vals xs us → r x xs H Q →
  wpAny (model X.prog X.w) X.A (call (.builtin id) (v :: us)) (EP X pins σ Q) X.xe s
theorem Vals.one : ∀ {x : V} {us : List Value}, Vals [x] us → ∃ u, us = [u] ∧ RelV x u
 | _, _, .cons r .nil => ⟨_, rfl, r⟩
theorem Vals.zero : ∀ {us : List Value}, Vals [] us → us = []
 | _, .nil => rfl
theorem Vals.eraseIdx : ∀ {xs : List V} {us : List Value} (i : Nat), Vals xs us → Vals (xs.eraseIdx i) (us.eraseIdx i)
 | _, _, _, .nil => .nil
 | _, _, 0, .cons _ t => t
 | _, _, i + 1, .cons r t => .cons r (Vals.eraseIdx i t)
section
variable {X : Cx} {pins : List (Addr × Obj)} {σ : St} {H : Hp} {s : Shared} {l b : Addr} {xs ys zs : List V}
theorem Inv.lset {its its' : List Value} {n : Nat} {f : Array Value → Array Value} {t' : Nat} (I : Inv X pins σ H s) (hH : H l = some (.lst xs))
  (e : s.heap.get? l = some { cls := .type "list", data := .seq its.toArray n }) (hf : f its.toArray = its'.toArray) (hv : Vals ys its') (hz : ys.length ≤ sizeLine) :
  Inv X pins σ (upd H l (.lst ys)) { s with heap := s.heap.update l (Obj.mapSeq f), toks := t' } := by
 have q := PySem.IsL.update e f
 rw [hf] at q
 refine I.write (x := l) (e := l) (by rw [hH]; exact trivial) (.inl rfl) (fun b' u hb hu => (Heap.get?_update_other s.heap (Obj.mapSeq f) (Ne.symm hb)).trans hu) ⟨_, q⟩ ?_
 exact ⟨hz, its', _, hv, q⟩
theorem Inv.lnew {its : List Value} {t' : Nat} (I : Inv X pins σ H s) (hv : Vals ys its) (hz : ys.length ≤ sizeLine) :
  Inv X pins σ (upd H s.heap.objs.size (.lst ys)) { s with heap := s.heap.push { cls := .type "list", data := .seq its.toArray }, toks := t' } :=
 I.laid (fun _ _ q => Heap.get?_push_of_some _ q) (Nat.le_refl _) ⟨hz, its, 0, hv, Heap.get?_push_size _ rfl⟩
theorem Inv.fresh (I : Inv X pins σ H s) : H s.heap.objs.size = none := I.hok.fresh (Nat.le_refl _)
theorem Inv.lstM (I : Inv X pins σ H s) (hH : H l = some (.lst xs)) : xs.length ≤ sizeLine ∧ ∃ (its : List Value) (n : Nat), Vals xs its ∧ xs.length = its.length ∧ s.heap.get? l = some { cls := .type "list", data := .seq its.toArray n } := by
 obtain ⟨z, its, n, r, e⟩ := I.hok l _ hH
 exact ⟨z, its, n, r, r.length, e⟩
end
section
variable {X : Cx}
def rAppend : V → List V → Hp → VK → Prop := fun x vs H Q => ∃ l xs y, x = .ref l ∧ vs = [y] ∧ H l = some (.lst xs) ∧ xs.length < sizeLine ∧ Q .non (upd H l (.lst (xs ++ [y])))
theorem mt_append : MtM X "list.append" rAppend := by
 intro pins s σ H x vs v us Q I rx rv h
 obtain ⟨l, xs, y, rfl, rfl, hH, hz, q⟩ := h
 cases rx
 obtain ⟨u, rfl, ru⟩ := rv.one
 obtain ⟨z, its, n, r, hl, e⟩ := I.lstM hH
 refine call_meets F.slot_list_append ⟨_, e, rfl⟩ F.entry_list_append (F.args_list_append_2 _ _) (PySem.list_append l its.toArray n u (by rw [List.size_toArray]; omega)) ⟨e, ?_⟩
 refine ⟨.non, _, I.lset (its' := its ++ [u]) hH e (by simp) (r.append (.cons ru .nil)) ?_, rfl, q⟩
 rw [List.length_append, List.length_singleton]
 omega
def rCat : R2 := fun x y H Q => ∃ l b xs zs, x = .ref l ∧ y = .ref b ∧ H l = some (.lst xs) ∧ H b = some (.lst zs) ∧ xs.length + zs.length ≤ sizeLine ∧ ∀ p, H p = none → Q (.ref p) (upd H p (.lst (xs ++ zs)))
theorem op_cat : OpR X (binaryOp .Add) rCat := by
 intro pins s σ H x y v u Q I rx ry h
 obtain ⟨l, b, xs, zs, rfl, rfl, hH, hB, hz, q⟩ := h
 cases rx
 cases ry
 obtain ⟨z, its, n, r, hl, e⟩ := I.lstM hH
 obtain ⟨z2, its2, n2, r2, hl2, e2⟩ := I.lstM hB
 refine PySem.P.add_list e e2 ?_ (by rw [List.size_toArray, List.size_toArray]; omega)
 have ea : its.toArray ++ its2.toArray = (its ++ its2).toArray := by simp
 rw [ea]
 exact ⟨.ref _, _, I.lnew (t' := s.toks) (r.append r2) (by rw [List.length_append]; omega), rfl, q _ I.fresh⟩
end
end L2
namespace Att
open PySem PySem.W PySem.Calls PyProof.Rows
theorem ints_of_wellAll {P : Params} {h : Heap} : ∀ (ns : List Int) (vs : List Value), WellAll P h vs (ns.map WData.int) → IntsAre vs ns := by
 intro ns
 induction ns with
 | nil =>
  intro vs w
  rw [List.map_nil] at w
  cases w
  exact .nil
 | cons n ns ih =>
  intro vs w
  rw [List.map_cons] at w
  cases w with
  | cons a b =>
   cases a
   exact .cons _ _ (ih _ b)
theorem script_of {l : OpenLaw} {n : Nat} (hn : l.most = some n) {P : Params} {h : Heap} {args : List WData} {vals : List Value}
  (hpre : l.row.toRowW.claim.pre args = true) (hwl : WellAll P h vals args) :
  ∃ a vs ns, vals = [Value.ref a] ∧ args = [WData.list (ns.map WData.int)] ∧ h.get? a = some { cls := .type "list", data := .seq vs.toArray } ∧ IntsAre vs ns ∧ ns.length ≤ n := by
 have hsh : WShape.hasAll [] args [.list .int] = true := (pre_splitW hpre).1
 have hc : l.pre.holds [] { args := args } = true := (pre_splitW hpre).2
 obtain ⟨d, r, rfl, h1, h2⟩ := hasAllW_cons hsh
 obtain rfl := hasAllW_nil h2
 obtain ⟨xs, rfl, h3⟩ := hasW_list h1
 obtain ⟨ns, rfl⟩ := items_int h3
 have hlen : ns.length ≤ n := by
  unfold OpenLaw.pre at hc
  have h4 : (WTm.not (.lt (.lit (.int (n : Int))) (.len (.arg 0)))).holds [] { args := [.list (ns.map .int)] } = true := by
   have h4 := (holds_andW hc).1
   rw [hn] at h4
   exact h4
  have h5 := condW_of h4 (w_not (w_lt w_lit (w_len_list (w_arg rfl))))
  rw [List.length_map] at h5
  refine Nat.le_of_not_lt fun q => ?_
  have q' : (n : Int) < ((ns.length : Nat) : Int) := by omega
  first
   | (rw [decide_eq_true q'] at h5; exact absurd h5 (by decide))
   | (simp at h5; omega)
 cases hwl with
 | cons w1 w2 =>
  cases w2
  cases w1 with
  | list ho hall => exact ⟨_, _, ns, rfl, rfl, ho, ints_of_wellAll ns _ hall, hlen⟩
theorem post_true (l : OpenLaw) (args : List WData) : l.row.toRowW.claim.post args (.bool true) args = true :=
 postW_of (r := l.row.toRowW) (X := (true == true))
  (show WShape.has [] (.bool true) .bool = true by first | rfl | decide | simp [WShape.has, WShape.arms, WShape.armsAll])
  (show (WTm.eq .res (.lit (.bool true))).value [] { args := args, res := some (.bool true), after := args } = some (.bool (true == true)) from w_eq_bool (w_res rfl) w_lit) rfl
end Att
namespace L2
open PySem PySem.Spec PyProof.Rows
theorem vals_ints : ∀ {vs : List Value} {ns : List Int}, IntsAre vs ns → Vals (ns.map V.int) vs
 | _, _, .nil => .nil
 | _, _, .cons n t h => .cons ⟨t, rfl⟩ (vals_ints h)
def Only (H : Hp) : Prop := ∀ b, H b = none ∨ ∃ o xs, H b = some (.frz o (.lst xs))
theorem law_call {P : Program} {w : World} {K : W.Frag} {mg mb : Str → Option Value} {CX : CXT} {k : Nat} {fa a : Addr} {fd : FuncData} {x : Str} {sp : Sp} {s₁ : Shared} {vs : List Value} {ns : List Int}
  (KX : K.In s₁.heap) (hns : s₁.heap.Ns mainGlobals mg) (hb : s₁.heap.Ns builtinsNs mb) (hbb : ∀ x : Str, x ≠ "__name__" → mb x = bootBuiltins x) (hlim : s₁.heap.NoLimit) (hg : s₁.gens = #[])
  (ha : s₁.heap.get? a = some { cls := .type "list", data := .seq vs.toArray }) (hi : IntsAre vs ns) (hl : ns.length ≤ sizeLine) (hr : Room k callerA)
  (F : ∀ base : Heap, K.In base → base.Ns mainGlobals mg → FnOk P w K mg base CX k fa fd [x] sp) (hbind : ∀ (s : Shared) (u : Value), BindsTo s fd ⟨[u], []⟩ [(x, u)])
  (hsp : ∀ H : Hp, Only H → SqL K H a (ns.map V.int) → sp [.ref a] H (fun v _ => v = .bl true) fun _ _ _ => False)
  (hCX : ∀ H e s', CX [] H s₁ (fun _ _ _ => False) e s' → False) :
  codeAny (model P w) callerA (.call (.ref fa) ⟨[.ref a], []⟩) (fun r s' => r = .ok (.ret (.bool true)) ∧ OldK s₁.heap s'.heap ∧ s'.os = s₁.os ∧ AllBare s'.gens) s₁ := by
 have rv := vals_ints hi
 have lenV := hi.length
 -- from an abstract heap in which nothing but the script may be tracked
 have core : ∀ H : Hp, Only H → SqL K H a (ns.map V.int) → HOk P w H s₁.heap → (∀ b, H b ≠ none → b = a) → (H a ≠ none → K.lookup a = none) →
   codeAny (model P w) callerA (.call (.ref fa) ⟨[.ref a], []⟩) (fun r s' => r = .ok (.ret (.bool true)) ∧ OldK s₁.heap s'.heap ∧ s'.os = s₁.os ∧ AllBare s'.gens) s₁ := by
  intro H hO hS hok hA hK
  have base_of : ∀ {b : Addr} {o : Obj}, s₁.heap.get? b = some o → H b = none → (hidT s₁.heap H).get? b = some o := fun e n => hidT_get e n
  have noA : ∀ {b : Addr} {o : Obj} {es : Array DictEntry} {ep : Nat}, s₁.heap.get? b = some o → o.data = .dict es ep → H b = none := fun {b o es ep} e d => by
   cases q : H b with
   | none => rfl
   | some u =>
    have e' : b = a := hA b (by rw [q]; simp)
    subst e'
    rw [ha] at e; cases e
    have d' : Data.seq vs.toArray _ = Data.dict es ep := d
    cases d'
  have nsK : ∀ {b : Addr} {m : Str → Option Value}, s₁.heap.Ns b m → (hidT s₁.heap H).Ns b m := fun {b m} ⟨o, es, ep, e, d, r⟩ => ⟨o, es, ep, base_of e (noA e d), d, r⟩
  have hKb : K.In (hidT s₁.heap H) := fun b o e => base_of (KX b o e) (by
   cases q : H b with
   | none => rfl
   | some u =>
    have e' : b = a := hA b (by rw [q]; simp)
    subst e'
    rw [hK (by rw [q]; simp)] at e; cases e)
  have hM : Mod K mg (hidT s₁.heap H) := ⟨hKb, nsK hns, ⟨mb, nsK hb, hbb⟩, let ⟨mc, h1, h2⟩ := hlim; ⟨mc, nsK h1, h2⟩⟩
  have e0 : Env0 P w K mg (hidT s₁.heap H) callerA [] s₁ H := ⟨rfl, hM, fun b o e => of_hidT e, Nat.le_of_eq (hidT_size _ _), trivial, fun b hb => absurd (show b ∈ ([] : List Addr) from hb) (by simp), hok, .of_eq hg⟩
  refine codeAny_mono ((F _ hKb (nsK hns)).run callerA [] s₁ H ⟨[.ref a], []⟩ [.ref a] [.ref a] _ _ hr e0 (hbind s₁ (.ref a)) (.cons rfl .nil) (hsp H hO hS)) fun r s' h => ?_
  cases r with
  | error e => exact (hCX H e s' h).elim
  | ok fl =>
   cases fl with
   | next => exact False.elim h
   | brk => exact False.elim h
   | cont => exact False.elim h
   | ret u =>
    obtain ⟨v, H', os, bare, un, hok', r', q⟩ := h
    have q' : v = .bl true := q
    subst q'
    obtain rfl : u = Value.bool true := r'
    refine ⟨rfl, OldK.of_keep fun b o e => ?_, os, bare⟩
    cases q : H b with
    | none => exact un.keep b o e q (by intro z; exact absurd (show b ∈ ([] : List Addr) from z) (by simp)) (by simp)
    | some u =>
     rcases hO b with z | ⟨ob, xs, z⟩
     ·rw [q] at z; cases z
     ·have z2 := un.frzs b ob _ z
      obtain ⟨e1, _⟩ := hok b _ z
      obtain ⟨e2, _⟩ := hok' b _ z2
      rw [e] at e1; cases e1
      exact e2
 cases hk : K.lookup a with
 | some o =>
  -- the script is one of the module's own objects
  have e := KX a o hk
  rw [ha] at e
  cases e
  refine core (fun _ => none) (fun _ => .inl rfl) (.inr ⟨_, vs.toArray, _, hk, rfl, rfl, rfl, by rw [List.size_toArray, lenV]; exact hl, by simpa using rv⟩) (fun b u z => by have z' : (none : Option HO) = some u := z; cases z') (fun b z => absurd rfl z) fun z => absurd rfl z
 | none =>
  refine core (fun b => if b = a then some (.frz { cls := .type "list", data := .seq vs.toArray } (.lst (ns.map V.int))) else none) (fun b => ?_) (.inl (.inr ⟨{ cls := .type "list", data := .seq vs.toArray }, if_pos rfl⟩)) (fun b u z => ?_) (fun b z => ?_) fun _ => hk
  ·by_cases hb : b = a
   ·exact .inr ⟨_, _, if_pos hb⟩
   ·exact .inl (if_neg hb)
  ·by_cases hb : b = a
   ·have z' := (if_pos hb).symm.trans z
    cases z'
    subst hb
    exact ⟨ha, by rw [List.length_map]; exact hl, vs, _, rv, ha⟩
   ·have z' := (if_neg hb).symm.trans z
    cases z'
  ·by_cases hb : b = a
   ·exact hb
   ·exact absurd (if_neg hb) z
def defArgs (s : Stmt) : Arguments := match s with
 | .FunctionDef _ a _ _ _ _ _ _ _ _ => a
 | _ => { posonlyargs := [], args := [], vararg := none, kwonlyargs := [], kw_defaults := [], kwarg := none, defaults := [] }
def defBody (s : Stmt) : List Stmt := match s with
 | .FunctionDef _ _ b _ _ _ _ _ _ _ => b
 | _ => []
def defScope (s : Stmt) : Scope := match s with
 | .FunctionDef _ _ _ _ _ _ sc _ _ _ => sc
 | _ => { kind := .function, names := [], isGenerator := false, isCoroutine := false }
abbrev CX0 : CXT := fun _ _ _ _ _ _ => False
abbrev E0 : XK := fun _ _ _ => False
structure Fun (K : W.Frag) (x qual : Str) (st : Stmt) (f : Addr) (fd : FuncData) : Prop where
 ex : ∃ (oc : Value) (od : Option Addr) (kV doc pm : Value) (an : Option Addr) (cdv ct : Value) (osl : Array (Option Value)),
  fd = W.fnOf x qual (defArgs st) (defBody st) (defScope st) .none kV doc pm an cdv ct ∧ K.lookup f = some ⟨oc, od, .func fd, osl⟩ ∧ W.codeIn K cdv qual = true
 kp : W.keepIn K (.ref f) = true
section
variable {P : Program} {w : World} {K : W.Frag} {mg : Str → Option Value} {base : Heap}
theorem Fun.ok {x qual : Str} {st : Stmt} {f : Addr} {fd : FuncData} {N ps : List Str} {k : Nat} {sp : Sp} (F : Fun K x qual st f fd) (S : FnScope N ps (defScope st)) (len : ∀ vs H Q E, sp vs H Q E → vs.length = ps.length)
  (hbody : ∀ (cdv : Value) (A : Around) (outer : List Env) (s : Shared) (H : Hp) (vs : List V) (Q : VK) (E : XK), Room k (A.deeper (envOfC qual (defScope st) s.heap.objs.size f cdv)) → sp vs H Q E →
   ∃ t, PSs (cxOf CX0 P w K mg base N qual (defScope st) f cdv A outer s H E).nox (defBody st) t ∧ t { nx := fun _ H' => Q .non H', rt := Q } (start N vs) H) : FnOk P w K mg base CX0 (k + 1) f fd ps sp := by
 obtain ⟨oc, od, kV, doc, pm, an, cdv, ct, osl, rfl, lk, hcd⟩ := F.ex
 refine fn_of lk hcd S len fun A outer s H vs Q E hr hsp => ?_
 obtain ⟨t, h, q⟩ := hbody cdv A outer s H vs Q E hr hsp
 exact ⟨t, h.nox, q⟩
theorem Fun.binds {x qual : Str} {st : Stmt} {f : Addr} {fd : FuncData} {ps : List Str} (F : Fun K x qual st f fd)
  (h : ∀ (kV doc pm : Value) (an : Option Addr) (cdv ct : Value) (us : List Value), us.length = ps.length → bindArgs (W.fnOf x qual (defArgs st) (defBody st) (defScope st) .none kV doc pm an cdv ct) ⟨us, []⟩ = pure (ps.zip us)) : Binds K fd ps [] := by
 obtain ⟨oc, od, kV, doc, pm, an, cdv, ct, osl, rfl, lk, hcd⟩ := F.ex
 exact .all (h kV doc pm an cdv ct)
theorem fun_mk {x qual : Str} {st : Stmt} {f : Addr} {oc : Value} {od an : Option Addr} {osl : Array (Option Value)} {kV doc pm cdv ct : Value} (l : K.lookup f = some ⟨oc, od, .func (W.fnOf x qual (defArgs st) (defBody st) (defScope st) .none kV doc pm an cdv ct), osl⟩)
  (c : W.codeIn K cdv qual = true) (k : W.keepIn K (.ref f) = true) : Fun K x qual st f (W.fnOf x qual (defArgs st) (defBody st) (defScope st) .none kV doc pm an cdv ct) := ⟨⟨oc, od, kV, doc, pm, an, cdv, ct, osl, rfl, l, c⟩, k⟩
end
section
variable {X : Cx}
theorem pv (i : Nat) {x : Str} {pos : Pos} (hN : X.N[i]? = some x := by rfl) (hv : Vis X.env.scope x := by first | exact Or.inl rfl | exact Or.inr (Or.inl rfl) | exact Or.inr (Or.inr rfl)) (hd : (x == ("__debug__" : Str)) = false := by decide)
  (hcd : (x == ("__classdict__" : Str)) = false := by decide) : PE X (.Name x pos) (tVar i) := pe_var hN hv hd hcd
end
def Same (H H' : Hp) : Prop := ∀ b o, H b = some o → H' b = some o
theorem Same.refl (H : Hp) : Same H H := fun _ _ h => h
theorem Same.trans {H H1 H2 : Hp} (a : Same H H1) (b : Same H1 H2) : Same H H2 := fun c o h => b c o (a c o h)
theorem Same.free {H H' : Hp} (e : Same H H') {l : Addr} (h : H' l = Option.none) : H l = Option.none := by
 cases q : H l with
 | none => rfl
 | some o =>
  rw [e l o q] at h
  cases h
theorem Same.seq {K : W.Frag} {H H' : Hp} {a : Addr} {xs : List V} (e : Same H H') (h : SqL K H a xs) : SqL K H' a xs := by
 rcases h with (h | ⟨o, h⟩) | h
 ·exact .inl (.inl (e _ _ h))
 ·exact .inl (.inr ⟨o, e _ _ h⟩)
 ·exact .inr h
end L2
set_option maxHeartbeats 4000000
namespace L2
open PySem PySem.Spec PyProof.Rows
theorem ObjOk.there {P : Program} {w : World} {H : Hp} {h : Heap} {a : Addr} {o : HO} (x : ObjOk P w H h a o) : ∃ ob, h.get? a = some ob := by
 cases o with
 | lst xs => obtain ⟨_, _, _, _, e⟩ := x; exact ⟨_, e⟩
 | tup xs => obtain ⟨_, _, _, p⟩ := x; obtain ⟨o, e, _⟩ := p; exact ⟨_, e⟩
 | dK kvs => obtain ⟨_, _, _, _, o, _, _, e, _⟩ := x; exact ⟨_, e⟩
 | dT kvs => obtain ⟨_, _, _, _, o, _, _, e, _⟩ := x; exact ⟨_, e⟩
 | set S n => obtain ⟨o, _, _, _, e, _⟩ := x; exact ⟨_, e⟩
 | ins C dx fs => obtain ⟨_, _, _, e, _⟩ := x; exact ⟨_, e⟩
 | own y => obtain ⟨_, e⟩ := x; exact ⟨_, e⟩
 | xd fs => obtain ⟨_, ⟨_, _, _, e, _⟩, _⟩ := x; exact ⟨_, e⟩
 | rng lo hi => obtain ⟨_, _, _, e⟩ := x; exact ⟨_, e⟩
 | frz ob u => obtain ⟨e, _⟩ := x; exact ⟨_, e⟩
 | tbl ps => obtain ⟨_, e, _⟩ := x; exact ⟨_, e⟩
 | met f y => exact ⟨_, (show h.get? a = some _ from x)⟩
 | ext φ => obtain ⟨_, ⟨_, e⟩, _⟩ := x; exact ⟨_, e⟩
def Imp (X : Cx) (pins : List (Addr × Obj)) (H : Hp) (b : Addr) : Prop := H b ≠ none ∨ (b ∉ X.ex ∧ ∃ o, X.s₀.heap.get? b = some o) ∨ ∃ p ∈ X.pn ++ pins, p.1 = b
def ctxV : Option Addr → Value
 | none => .none
 | some a => .ref a
def TrX (h B : Heap) (e : Addr) (cls : Value) (cx : Option Addr) (fl : Value) : Prop :=
 ∃ oe vs T oT ts, (h.get? e = some oe ∧ oe.cls = cls ∧ oe.data = .fields vs) ∧ (vs[1]? = some (.ref T) ∧ vs[2]? = some (ctxV cx)) ∧ (B.get? T = none ∧ T ≠ e) ∧ h.get? T = some oT ∧ oT.data = .fields ts ∧ ts[3]? = some fl
inductive Ph where | new | fly | any
def XTr (B h : Heap) (a : Addr) (cls : Value) (cx : Option Addr) : Ph → Prop
 | .new => ∃ oe vs, h.get? a = some oe ∧ oe.cls = cls ∧ oe.data = .fields vs ∧ vs[1]? = some .none ∧ vs[2]? = some (ctxV cx)
 | .fly => TrX h B a cls cx .none
 | .any => ∃ fl, TrX h B a cls cx fl
theorem XTr.there {B h : Heap} {a : Addr} {cls : Value} {cx : Option Addr} {ph : Ph} (x : XTr B h a cls cx ph) : ∃ oe vs, h.get? a = some oe ∧ oe.cls = cls ∧ oe.data = .fields vs ∧ vs[2]? = some (ctxV cx) := by
 cases ph with
 | new => obtain ⟨oe, vs, h1, h2, h3, _, h4⟩ := x; exact ⟨oe, vs, h1, h2, h3, h4⟩
 | fly => obtain ⟨oe, vs, _, _, _, ⟨h1, h2, h3⟩, ⟨_, h4⟩, _⟩ := x; exact ⟨oe, vs, h1, h2, h3, h4⟩
 | any => obtain ⟨_, oe, vs, _, _, _, ⟨h1, h2, h3⟩, ⟨_, h4⟩, _⟩ := x; exact ⟨oe, vs, h1, h2, h3, h4⟩
structure XAt (X : Cx) (pins : List (Addr × Obj)) (H : Hp) (s : Shared) (a : Addr) (cls : Value) (cx : Option Addr) (B : Heap) (ph : Ph) : Prop where
 free : H a = none
 stays : B.StaysIn s.heap
 fresh : B.get? a = none
 frames : s.heap.FunFrames B X.stack
 cov : ∀ b o, s.heap.get? b = some o → Imp X pins H b → b ∉ frs X.stack → B.get? b = some o
 tr : XTr B s.heap a cls cx ph
section
variable {X : Cx} {pins : List (Addr × Obj)} {σ : St} {H : Hp} {s : Shared} {a : Addr} {cls : Value} {cx : Option Addr} {B h' : Heap} {ph : Ph}
theorem Imp.there (I : Inv X pins σ H s) {b : Addr} (i : Imp X pins H b) : ∃ o, s.heap.get? b = some o := by
 rcases i with i | ⟨hx, o, i⟩ | ⟨p, hp, e⟩
 ·cases q : H b with
  | none => exact absurd q i
  | some u => exact (I.hok b u q).there
 ·exact I.base.there b o i hx
 ·exact ⟨p.2, by rw [← e]; exact (I.pin p hp).1⟩
theorem Inv.exc (I : Inv X pins σ H s) (cov : ∀ b o, s.heap.get? b = some o → Imp X pins H b → b ∉ frs X.stack → B.get? b = some o) (st : B.StaysIn h') (ups : s.heap.UpToSlots h') :
  Inv X pins σ H { s with heap := h' } := by
 have fr : ∀ b, b ∈ frs X.stack → ∀ o, s.heap.get? b = some o → ∃ sl, h'.get? b = some { o with slots := sl } := fun b hb o e => by
  obtain ⟨_, o', e', d⟩ := I.stack.mem hb
  rw [e] at e'; cases e'
  exact ups b o e d
 have nfr : ∀ b, b ∉ X.fs → b ≠ X.env.locals → b ∉ frs X.stack := fun b h1 h2 z => (List.mem_cons.mp (I.stkSub b z)).elim h2 h1
 have neL : ∀ b o, X.s₀.heap.get? b = some o → b ≠ X.env.locals := fun b o e => Nat.ne_of_lt (Nat.lt_of_lt_of_le (Heap.lt_size e) I.ok.above)
 have cellK : ∀ c v, s.heap.IsCell c v → h'.IsCell c v := fun c v ⟨o, ho, hd⟩ => by
  obtain ⟨sl, q⟩ := ups c o ho (fun vs z => by rw [hd] at z; cases z)
  exact ⟨_, q, hd⟩
 refine ⟨I.ok, I.os, I.bare, ⟨fun b o e n hb hx => ?_, fun b o e n hb hx => ?_, I.base.free, fun b o e hx => ?_, I.base.tups, I.base.frzs, I.base.tbls⟩, ?_, fun x c e => ?_, I.free, I.freeC, fun p hp => ?_, ?_, I.len⟩
 ·exact st _ _ (cov b o (I.base.keep b o e n hb hx) (.inr (.inl ⟨hx, o, e⟩)) (nfr b hb (neL b o e)))
 ·obtain ⟨sl, e1⟩ := I.base.slot b o e n hb hx
  have hb' : b ∈ frs X.stack := by
   rcases I.ok.stk with q | ⟨q, hf⟩
   ·rw [q]; exact hb
   ·rw [q]; unfold frs; rw [List.filterMap_cons, hf]; exact List.mem_cons_of_mem _ hb
  obtain ⟨sl', e2⟩ := fr b hb' _ e1
  exact ⟨sl', e2⟩
 ·obtain ⟨o', e1⟩ := I.base.there b o e hx
  by_cases hb : b ∈ frs X.stack
  ·obtain ⟨sl, q⟩ := fr b hb _ e1
   exact ⟨_, q⟩
  ·exact ⟨o', st _ _ (cov b o' e1 (.inr (.inl ⟨hx, o, e⟩)) hb)⟩
 ·obtain ⟨m, hn, hl⟩ := I.loc
  refine ⟨m, ups.ns hn, fun i x v e1 e2 e3 => ?_⟩
  obtain ⟨u, r, l⟩ := hl i x v e1 e2 e3
  refine ⟨u, r, ?_⟩
  rcases l with l | ⟨k, c, e, z⟩
  ·exact .inl l
  ·exact .inr ⟨k, c, e, cellK c _ z⟩
 ·obtain ⟨v, z⟩ := I.cell x c e
  exact ⟨v, cellK c v z⟩
 ·obtain ⟨e, n, ne, nf, d⟩ := I.pin p hp
  exact ⟨st _ _ (cov p.1 p.2 e (.inr (.inr ⟨p, hp, rfl⟩)) (nfr p.1 nf ne)), n, ne, nf, d⟩
 ·intro b u e
  refine (I.hok b u e).stay (fun c v hc q => ?_) (fun _ q => q) (fun _ _ q => q) fun _ _ _ q => q
  have hc' : H c ≠ none := by
   rcases hc with z | z
   ·rw [z, e]; exact fun q => nomatch q
   ·rw [z]; exact fun q => nomatch q
  exact st _ _ (cov c v q (.inl hc') fun z => hc' (I.stkFree c z))
variable {M : Model} {A : Around} {E : Value → Shared → Prop} {Q : Unit → Shared → Prop}
end
def CXe (P : Program) (w : World) : CXT := fun outer H s E e s' =>
 ∃ (a : Addr) (cls : Value) (cx : Option Addr) (H' : Hp) (B : Heap), e = .ref a ∧ s'.os = s.os ∧ AllBare s'.gens ∧ Un (frs outer) [] H H' s.heap s'.heap ∧ HOk P w H' s'.heap ∧ B.StaysIn s'.heap ∧ B.get? a = none ∧ s'.heap.FunFrames B outer ∧
  TrX s'.heap B a cls cx .none ∧ H' a = none ∧ (∀ b o, s'.heap.get? b = some o → (H' b ≠ none ∨ ∃ o', s.heap.get? b = some o') → b ∉ frs outer → B.get? b = some o) ∧ E cls cx H'
end L2
namespace PySem.W
open PySem PySem.Spec PySem.Calls PyProof.Rows
structure ExcT (K : Frag) (C : Addr) : Prop where
 ga : findIn K (.ref C) "__getattribute__" = some (some (.builtin "BaseException.__getattribute__"))
 gt : findIn K (.ref C) "__getattr__" = some none
 cl : findIn K (.ref C) "__class__" = some (some (.builtin "object.__class__"))
 mo : mroIn K C (.type "object") = some true
 sb : subIn K (.ref C) (.type "BaseException") = some true
section
variable {prog : Program} {w : World} {A : Around} {E : Value → Shared → Prop} {h : Heap} {g : Array GenState} {d : Drawn} {t : Nat} {os : OsState} {K : Frag} {x C : Addr} {o : Obj} {R : Result → Shared → Prop}
theorem exc_class_get {tp : Value} (X : K.In h) (hx : h.get? x = some o) (hc : o.cls = .ref C) (hm : mroIn K C (.type "object") = some true)
  (q : R (.ok (.ret (.ref C))) ⟨h, g, d, t, os⟩) : codeAny (model prog w) A (.call (.builtin "getset_descriptor.__get__") ⟨[.builtin "object.__class__", .ref x, tp], []⟩) R ⟨h, g, d, t, os⟩ := by
 have L0 : Looks (model prog w) h (typeOf (.ref x)) (.ref C) := hc ▸ (Looks.ld hx).andThen .now
 have L1 := looks_mroIn (M := model prog w) X hm
 refine codeAny_call_builtin KF.slot_gs.plain KF.entry_gs (KF.slot_gs.check _ _ _ _ _ _ _ _ KF.type_class (KF.args_gs _ _ _) ?_)
 unfold Builtin.«getset_descriptor.__get__» Builtin.Getset_descriptor.descrGet
 rw [dga_obj]
 refine wpAny_bind (wpAny_pure ?_)
 unfold Builtin.Getset_descriptor.descrGetter Builtin.Getset_descriptor.descrCheckInstance Builtin.Getset_descriptor.descrNameAndClass isInstance
 simp only [KF.owner_class]
 repeat lk
 refine ⟨Code.quiet_builtin _ (by decide +kernel), codeAny_builtin KF.entry_class ?_⟩
 unfold Builtin.«object.__class__» shownTypeOf
 repeat lk
 exact q
theorem exc_class_entry {tk : Tok} {Q : Fin → Shared → Prop} (X : K.In h) (T : ExcT K C) (hx : h.get? x = some o) (hc : o.cls = .ref C) (q : Q (.done (.ret (.ref C))) ⟨h, g, d, t, os⟩) :
  wpAny (model prog w) A (Builtin.«object.__getattribute__» ⟨[.ref x, .str "__class__" tk], []⟩) Q E ⟨h, g, d, t, os⟩ := by
 have L0 : Looks (model prog w) h (typeOf (.ref x)) (.ref C) := hc ▸ (Looks.ld hx).andThen .now
 have L1 := looks_findIn (M := model prog w) X T.cl
 have hT5 : (⟨h, g, d, t, os⟩ : Shared).TypeIs (.builtin "object.__class__") "getset_descriptor" := F.typeOf_object_class
 have f5 := F.typeOf_object_class
 have f6 := F.slot_gs_get.lookup
 have f7 := F.slot_gs_set.lookup
 repeat (any_goals (first | assumption | (with_reducible refine L0.at ?_) | (with_reducible refine wpAny_bind (L0.at ?_)) | (with_reducible refine L1.at ?_) | (with_reducible refine wpAny_bind (L1.at ?_)) | wp_step))
 refine exc_class_get X hx hc T.mo ?_
 repeat (any_goals (first | assumption | wp_step))
theorem exc_check_ga {M : Model} {nameV : Value} {Q : Unit → Shared → Prop} (X : K.In h) (T : ExcT K C) (hx : h.get? x = some o) (hc : o.cls = .ref C) (hq : Q () ⟨h, g, d, t, os⟩) : wpAny M A (checkBuiltinCall "BaseException.__getattribute__" ⟨[.ref x, nameV], []⟩) Q E ⟨h, g, d, t, os⟩ := by
 have hk : builtinKind "BaseException.__getattribute__" = some .slot := by decide +kernel
 have hsplit : splitId "BaseException.__getattribute__" = some ("BaseException", "__getattribute__") := by decide +kernel
 have L0 : Looks M h (typeOf (.ref x)) (.ref C) := hc ▸ (Looks.ld hx).andThen .now
 have L1 := looks_subIn (M := M) X T.sb
 have L2 : Looks M h (isInstance (.ref x) (.type "BaseException")) true := L0.andThen L1
 have ha := F.args_bexc_ga (.ref x) nameV
 simp only [checkBuiltinCall, hk, hsplit]
 refine wpAny_bind (L2.at ?_)
 repeat (first | assumption | wp_step)
theorem exc_class_by {tk : Tok} {Q : Value → Shared → Prop} (X : K.In h) (T : ExcT K C) (hx : h.get? x = some o) (hc : o.cls = .ref C) (hq : Q (.ref C) ⟨h, g, d, t, os⟩) : wpAny (model prog w) A (getAttrBy (.ref x) (.str "__class__" tk) false) Q E ⟨h, g, d, t, os⟩ := by
 have L0 : Looks (model prog w) h (typeOf (.ref x)) (.ref C) := hc ▸ (Looks.ld hx).andThen .now
 have L1 := looks_findIn (M := model prog w) X T.ga
 have L2 := looks_findIn (M := model prog w) X T.gt
 have f3 := F.attr_ValueError.ga.bind (.ref x)
 have hx2 : (Value.builtin "BaseException.__getattribute__" == Value.builtin "object.__getattribute__") = false := by decide +kernel
 have hx1 : (onTheHeap (Value.ref C) && Value.builtin "BaseException.__getattribute__" == Value.builtin "object.__getattribute__") = false := by rw [hx2]; rfl
 repeat (any_goals (first | assumption | (with_reducible refine L0.at ?_) | (with_reducible refine wpAny_bind (L0.at ?_)) | (with_reducible refine L1.at ?_) | (with_reducible refine wpAny_bind (L1.at ?_)) | (with_reducible refine L2.at ?_) | (with_reducible refine wpAny_bind (L2.at ?_)) | wp_step))
 refine codeAny_call_builtin F.attr_ValueError.ga.plain F.entry_bexc_ga (exc_check_ga X T hx hc (exc_class_entry X T hx hc ?_))
 repeat (any_goals (first | assumption | wp_step))
theorem exc_class_attr {Q : Option Value → Shared → Prop} (X : K.In h) (T : ExcT K C) (hx : h.get? x = some o) (hc : o.cls = .ref C) (hq : Q (some (.ref C)) ⟨h, g, d, t + 1, os⟩) : wpAny (model prog w) A (getAttr? (.ref x) "__class__") Q E ⟨h, g, d, t, os⟩ := by
 unfold getAttr? getAttrBy?
 repeat (any_goals (first | assumption | with_reducible apply exc_class_by X T hx hc | wp_step))
end
def ExcAtC (x C : Addr) (h : Heap) : Prop := ∃ o vs, h.get? x = some o ∧ o.cls = .ref C ∧ o.data = .fields vs
theorem kitx_exc {K : Frag} {x C : Addr} (T : ExcT K C) : KitX K (.ref x) (.ref C) (ExcAtC x C) where
 ty := fun _ _ _ ⟨_, _, hx, hc, _⟩ => hc ▸ (Looks.ld hx).andThen .now
 it := fun M h X _ => by
  have hm := T.mo
  unfold mroIn at hm
  obtain ⟨cd, hcd⟩ : ∃ cd, clsIn K C = some cd := by
   cases q : clsIn K C with
   | none => rw [q] at hm; cases hm
   | some cd => exact ⟨cd, rfl⟩
  unfold clsIn at hcd
  split at hcd
  ·rename_i c' d' cd' sl' ho
   intro A' Q' E' s' k q
   unfold isType loadHead
   exact wpAny_bind (wpAny_loadPart (k _ _ (X _ _ ho)) (wpAny_pure q))
  ·cases hcd
 ne := fun h tp dd its n sl X htp => by
  have hm := T.mo
  unfold mroIn at hm
  obtain ⟨cd, hcd⟩ : ∃ cd, clsIn K C = some cd := by
   cases q : clsIn K C with
   | none => rw [q] at hm; cases hm
   | some cd => exact ⟨cd, rfl⟩
  refine Bool.eq_false_iff.mpr fun q => ?_
  have e : C = tp := Value.ref.inj (beq_iff_eq.mp q)
  subst e
  unfold clsIn at hcd
  split at hcd
  ·rename_i c' d' cd' sl' ho
   have z := (X _ _ ho).symm.trans htp
   cases z
  ·cases hcd
 ca := fun {_ _ _ _ _ s} X ⟨_, _, hx, hc, _⟩ k => by
  obtain ⟨h, g, d, t, os⟩ := s
  exact exc_class_attr X T hx hc k
end PySem.W
namespace L2
open PySem PySem.Spec PyProof.Rows
abbrev TJ := St → Hp → Str → (Str → Hp → Prop) → Prop
section
variable {X : Cx} {E : XK}
theorem XAt.first {pins : List (Addr × Obj)} {σ : St} {H : Hp} {s : Shared} {h' : Heap} {a : Addr} {cls : Value} {cx : Option Addr} {oe : Obj} {vs : Array Value} (I : Inv X pins σ H s) (k : ∀ b o, s.heap.get? b = some o → h'.get? b = some o)
  (n : s.heap.get? a = none) (g : h'.get? a = some oe) (hc : oe.cls = cls) (hd : oe.data = .fields vs) (z1 : vs[1]? = some .none) (z2 : vs[2]? = some (ctxV cx)) :
  Inv X pins σ H { s with heap := h' } ∧ XAt X pins H { s with heap := h' } a cls cx (W.hideAll s.heap (frs X.stack)) .new := by
 have I' : Inv X pins σ H { s with heap := h' } := I.kept (t' := s.toks) k
 have fr : H a = none := by
  cases q : H a with
  | none => rfl
  | some u => obtain ⟨o, e⟩ := (I.hok a u q).there; rw [n] at e; cases e
 refine ⟨I', fr, fun b o e => k b o (W.of_hideAll _ e), ?_, (W.funFrames_hide I.stack fun env he b hb => List.mem_filterMap.mpr ⟨env, he, hb⟩).of_keeps fun b o e _ => ⟨o, k b o e, rfl⟩, fun b o e i n => ?_, ⟨oe, vs, g, hc, hd, z1, z2⟩⟩
 ·cases q : (W.hideAll s.heap (frs X.stack)).get? a with
  | none => rfl
  | some o => have := W.of_hideAll _ q; rw [n] at this; cases this
 ·obtain ⟨o1, e1⟩ := i.there I
  have e2 := k _ _ e1
  rw [e] at e2; cases e2
  exact W.hideAll_get _ e1 n
theorem XAt.made {pins : List (Addr × Obj)} {σ : St} {H : Hp} {s : Shared} {h' : Heap} {a : Addr} {cls : Value} {vs : List Value} (I : Inv X pins σ H s) (m : Heap.MadeExcOf s.heap h' a cls vs) :
  Inv X pins σ H { s with heap := h' } ∧ XAt X pins H { s with heap := h' } a cls none (W.hideAll s.heap (frs X.stack)) .new := by
 obtain ⟨t, he, _, _⟩ := m.there
 exact XAt.first I m.keeps m.new he rfl rfl rfl rfl
end
def ExcO (a : Addr) (cls : Value) (cx : Option Addr) : HO := .ext fun h => ∃ o vs, h.get? a = some o ∧ o.cls = cls ∧ o.data = .fields vs ∧ vs[2]? = some (ctxV cx)
section
variable {X : Cx} {pins : List (Addr × Obj)} {σ : St} {H : Hp} {s : Shared} {a : Addr} {cls : Value} {cx : Option Addr} {B : Heap} {ph : Ph}
theorem XAt.nofr (x : XAt X pins H s a cls cx B ph) : a ∉ frs X.stack := fun z => by
 obtain ⟨oe, vs, e, _, d, _⟩ := x.tr.there
 obtain ⟨_, o, e', d'⟩ := x.frames.mem z
 rw [e] at e'; cases e'
 exact d' vs d
end
theorem pass0e {X : Cx} {P : Program} {w : World} : Passes (CXe P w) X E0 := fun _ _ _ _ _ _ _ h => by
 obtain ⟨_, _, _, _, _, _, _, _, _, _, _, _, _, _, _, _, hE⟩ := h
 exact hE.elim
section
variable {P : Program} {w : World} {K : W.Frag} {mg : Str → Option Value} {base : Heap}
theorem Fun.okE {x qual : Str} {st : Stmt} {f : Addr} {fd : FuncData} {N ps : List Str} {k : Nat} {sp : Sp} (F : Fun K x qual st f fd) (S : FnScope N ps (defScope st)) (len : ∀ vs H Q E, sp vs H Q E → vs.length = ps.length)
  (hbody : ∀ (cdv : Value) (A : Around) (outer : List Env) (s : Shared) (H : Hp) (vs : List V) (Q : VK) (E : XK), Room k (A.deeper (envOfC qual (defScope st) s.heap.objs.size f cdv)) → sp vs H Q E →
   ∃ t, PSs (cxOf (CXe P w) P w K mg base N qual (defScope st) f cdv A outer s H E) (defBody st) t ∧ t { nx := fun _ H' => Q .non H', rt := Q } (start N vs) H) : FnOk P w K mg base (CXe P w) (k + 1) f fd ps sp := by
 obtain ⟨oc, od, kV, doc, pm, an, cdv, ct, osl, rfl, lk, hcd⟩ := F.ex
 exact fn_of lk hcd S len fun A outer s H vs Q E hr hsp => hbody cdv A outer s H vs Q E hr hsp
structure FunD (K : W.Frag) (x qual : Str) (st : Stmt) (dT : Addr) (f : Addr) (fd : FuncData) : Prop where
 ex : ∃ (oc : Value) (od : Option Addr) (kV doc pm : Value) (an : Option Addr) (cdv ct : Value) (osl : Array (Option Value)),
  fd = W.fnOf x qual (defArgs st) (defBody st) (defScope st) (.ref dT) kV doc pm an cdv ct ∧ K.lookup f = some ⟨oc, od, .func fd, osl⟩ ∧ W.codeIn K cdv qual = true
 kp : W.keepIn K (.ref f) = true
theorem FunD.okE {x qual : Str} {st : Stmt} {dT f : Addr} {fd : FuncData} {N ps : List Str} {k : Nat} {sp : Sp} (F : FunD K x qual st dT f fd) (S : FnScope N ps (defScope st)) (len : ∀ vs H Q E, sp vs H Q E → vs.length = ps.length)
  (hbody : ∀ (cdv : Value) (A : Around) (outer : List Env) (s : Shared) (H : Hp) (vs : List V) (Q : VK) (E : XK), Room k (A.deeper (envOfC qual (defScope st) s.heap.objs.size f cdv)) → sp vs H Q E →
   ∃ t, PSs (cxOf (CXe P w) P w K mg base N qual (defScope st) f cdv A outer s H E) (defBody st) t ∧ t { nx := fun _ H' => Q .non H', rt := Q } (start N vs) H) : FnOk P w K mg base (CXe P w) (k + 1) f fd ps sp := by
 obtain ⟨oc, od, kV, doc, pm, an, cdv, ct, osl, rfl, lk, hcd⟩ := F.ex
 exact fn_of lk hcd S len fun A outer s H vs Q E hr hsp => hbody cdv A outer s H vs Q E hr hsp
theorem FunD.binds {x qual : Str} {st : Stmt} {dT f : Addr} {fd : FuncData} {ps : List Str} {ds : List Value} {items : List Value} {o : Obj} {nn : Nat} (F : FunD K x qual st dT f fd) (ho : K.lookup dT = some o) (hs : o.data = .seq items.toArray nn)
  (h : ∀ (kV doc pm : Value) (an : Option Addr) (cdv ct : Value) (us : List Value), (us ++ ds).length = ps.length → ∃ k : Option (Array Value) → Sem (List (Str × Value)),
   bindArgs (W.fnOf x qual (defArgs st) (defBody st) (defScope st) (.ref dT) kV doc pm an cdv ct) ⟨us, []⟩ = seqItems? (.ref dT) >>= k ∧ k (some items.toArray) = pure (ps.zip (us ++ ds))) : Binds K fd ps ds := by
 obtain ⟨oc, od, kV, doc, pm, an, cdv, ct, osl, rfl, lk, hcd⟩ := F.ex
 intro s us KX hl
 obtain ⟨k, h1, h2⟩ := h kV doc pm an cdv ct us hl
 exact W.binds_K KX rfl ho hs h1 h2
end
structure RoomW (k : Nat) (A : Around) : Prop where
 dp : A.depth + 3 * k + 5 < recursionLimit
 un : A.units + 16 * k + 200 < cLine
theorem Room.w {k : Nat} {A : Around} (r : Room k A) (h : Option Value) : RoomW k (A.mark h) := ⟨r.dp, r.un⟩
theorem RoomW.deeper {k : Nat} {A : Around} (r : RoomW (k + 1) A) (env : Env) : RoomW k (A.deeper env) :=
 ⟨by have := r.dp; show A.depth + 1 + 3 * k + 5 < _; omega, by have := r.un; show A.units + 3 + 16 * k + 200 < _; omega⟩
def clsV : V → Option Value
 | .ty n => some (.type n)
 | .ref a => some (.ref a)
 | _ => none
theorem clsV_of {y : V} {c u : Value} (e : clsV y = some c) (r : RelV y u) : u = c := by
 cases y with
 | ty n => cases e; exact r
 | ref a => cases e; exact r
 | _ => cases e
inductive TyX (K : W.Frag) (H : Hp) : V → Value → Prop where
 | of {x : V} {t : Value} (h : TyOf K H x t) : TyX K H x t
 | exc {a C : Addr} {cx : Option Addr} (h : H a = some (ExcO a (.ref C) cx)) (T : W.ExcT K C) : TyX K H (.ref a) (.ref C)
section
variable {X : Cx} {pins : List (Addr × Obj)} {σ : St} {H : Hp} {s : Shared} {A : Around} {E : Value → Shared → Prop} {Q : Value → Shared → Prop}
theorem TyX.kit {x : V} {u t : Value} (I : Inv X pins σ H s) (rx : RelV x u) (ty : TyX X.K H x t) : ∃ Φ : Heap → Prop, W.KitX X.K u t Φ ∧ Φ s.heap ∧ u ≠ .builtin "__main__.__loader__#opaque" := by
 cases ty with
 | @exc a C cx h T =>
  cases (show u = Value.ref a from rx)
  obtain ⟨⟨o, vs, h1, h2, h3, _⟩, _⟩ := (show ObjOk X.prog X.w H s.heap a (ExcO a (.ref C) cx) from I.hok a _ h)
  exact ⟨_, W.kitx_exc T, ⟨o, vs, h1, h2, h3⟩, fun z => nomatch z⟩
 | of h =>
 cases h with
 | non => cases (show u = Value.none from rx); exact ⟨_, W.kitx_none, True.intro, fun z => nomatch z⟩
 | bl y => cases (show u = Value.bool y from rx); exact ⟨_, W.kitx_bool, True.intro, fun z => nomatch z⟩
 | int i => obtain ⟨t, q⟩ := (show ∃ t, u = Value.int i t from rx); cases q; exact ⟨_, W.kitx_int, True.intro, fun z => nomatch z⟩
 | str y => obtain ⟨t, q⟩ := (show ∃ t, u = Value.str y t from rx); cases q; exact ⟨_, W.kitx_str, True.intro, fun z => nomatch z⟩
 | flt y => obtain ⟨t, q⟩ := (show ∃ t, u = Value.float y t from rx); cases q; exact ⟨_, W.kitx_float, True.intro, fun z => nomatch z⟩
 | @lst a xs ea =>
  cases (show u = Value.ref a from rx)
  obtain ⟨_, _, n, _, h1⟩ := (show ObjOk X.prog X.w H s.heap a (.lst xs) from I.hok a _ ea)
  exact ⟨_, W.kitx_list, ⟨_, h1, rfl⟩, fun z => nomatch z⟩
 | @frz a ob xs ea =>
  cases (show u = Value.ref a from rx)
  obtain ⟨_, _, _, n, _, h1⟩ := (show ObjOk X.prog X.w H s.heap a (.frz ob (.lst xs)) from I.hok a _ ea)
  exact ⟨_, W.kitx_list, ⟨_, h1, rfl⟩, fun z => nomatch z⟩
 | @tup a xs ea =>
  cases (show u = Value.ref a from rx)
  obtain ⟨_, _, _, p⟩ := (show ObjOk X.prog X.w H s.heap a (.tup xs) from I.hok a _ ea)
  obtain ⟨o, h1, h2, _⟩ := p
  exact ⟨_, W.kitx_tuple, ⟨o, h1, h2⟩, fun z => nomatch z⟩
 | @dK a kvs ea =>
  cases (show u = Value.ref a from rx)
  obtain ⟨_, _, vs, _, p⟩ := (show ObjOk X.prog X.w H s.heap a (.dK kvs) from I.hok a _ ea)
  obtain ⟨o, es, ep, h1, h2, _⟩ := p
  exact ⟨_, W.kitx_dict, ⟨o, h1, h2.1⟩, fun z => nomatch z⟩
 | @dT a kvs ea =>
  cases (show u = Value.ref a from rx)
  obtain ⟨_, _, xs, _, o, es, ep, h1, h2, _⟩ := (show ObjOk X.prog X.w H s.heap a (.dT kvs) from I.hok a _ ea)
  exact ⟨_, W.kitx_dict, ⟨o, h1, h2.1⟩, fun z => nomatch z⟩
 | @ins a C dx fs ea cl ha hn htk hm =>
  cases (show u = Value.ref a from rx)
  obtain ⟨mA, O, _⟩ := ins_get I.hok ea
  obtain ⟨od, J, _⟩ := O.look
  exact ⟨_, W.kitx_own (cl.get _) cl.hd ha hn htk hm, J, fun z => nomatch z⟩
def rIsi (K : W.Frag) : List V → Hp → VK → Prop := fun xs H Q => ∃ x y t c b, xs = [x, y] ∧ clsV y = some c ∧ TyX K H x t ∧ W.kitOne K t c = some b ∧ Q (.bl b) H
theorem call_isi : CallR X (.builtin "isinstance") (rIsi X.K) := by
 intro pins s σ H xs us Q I r h
 obtain ⟨x, y, t, c, b, rfl, e1, e2, e3, q⟩ := h
 obtain ⟨u, v, rfl, r1, r2⟩ := vals2 r
 obtain rfl := clsV_of e1 r2
 obtain ⟨Φ, Z, p, n⟩ := e2.kit I r1
 exact W.kia_one Z I.kIn p e3 n fun tk => ⟨.bl b, H, I.tok _, rfl, q⟩
end
def eqVs : List V → List V → Bool
 | [], [] => true
 | x :: xs, y :: ys => eqV x y && eqVs xs ys
 | _, _ => false
section
variable {X : Cx} {pins : List (Addr × Obj)} {σ : St} {H : Hp} {s : Shared}
theorem op_mulB : OpR X (binaryOp .Mult) (rI IntMulOk fun i j => .int (i * j)) := opI fun _ _ _ _ _ _ _ hc q => mul_int q hc
theorem op_fdivB : OpR X (binaryOp .FloorDiv) (rI (fun _ j => 0 < j ∧ j.natAbs.log2 < 9000) fun i j => .int (i / j)) := opI fun i j _ _ _ _ _ hc q => by
 have h0 : j ≠ 0 := by have := hc.1; omega
 refine floordiv_int h0 ?_ (.inl (PyProof.noPylong_of_log2 hc.2))
 rw [Int.fdiv_eq_ediv_of_nonneg _ (Int.le_of_lt hc.1)]
 exact q
end
open PySem.W PySem.Calls
theorem script_bits {ns : List Int} (h : WData.layableAll [WData.list (ns.map WData.int)] = true) : ∀ n ∈ ns, Builtin.Int.intBits n ≤ 2 ^ 20 := fun n hn => by
 have h1 : (WData.list (ns.map WData.int)).layable = true := layableW_arg h _ (List.mem_singleton.mpr rfl)
 have h2 := layableW_item h1 (WData.int n) (List.mem_map.mpr ⟨n, hn, rfl⟩)
 have h3 := (layableW_iff.mp h2).2.2
 simpa only [WData.weight, Builtin.Int.intBits] using h3
theorem walk_ofB {l : OpenLaw} {n k : Nat} {q : Program} {loose : List Str} {XP : (Str → Option Value) → Heap → Prop} {YP : World → Heap → Prop} {d : DefRec} {K : Params → Frag} {CX : World → CXT} {sp : World → Sp} {x : Str}
  (hn : l.most = some n) (hn2 : n ≤ sizeLine) (hdf : d.params.defaults = []) (hr : Room k callerA)
  (hY : ∀ (w : World) (h : Heap), YP w h → (K w.params).In h)
  (F : ∀ (w : World) (mg : Str → Option Value) (fa : Addr) (h : Heap), (K w.params).In h → h.Ns mainGlobals mg → mg d.name = some (.ref fa) →
   ∃ fd : FuncData, (∀ (s : Shared) (u : Value), BindsTo s fd ⟨[u], []⟩ [(x, u)]) ∧
    ∀ base : Heap, (K w.params).In base → base.Ns mainGlobals mg → FnOk l.prog w (K w.params) mg base (CX w) k fa fd [x] (sp w))
  (hsp : ∀ (w : World) (H : Hp) (a : Addr) (ns : List Int), ns.length ≤ n → (∀ m ∈ ns, Builtin.Int.intBits m ≤ 2 ^ 20) → Only H → SqL (K w.params) H a (ns.map V.int) → sp w [.ref a] H (fun v _ => v = .bl true) fun _ _ _ => False)
  (hCX : ∀ (w : World) (H : Hp) (s : Shared) (e : Value) (s' : Shared), CX w [] H s (fun _ _ _ => False) e s' → False) :
  WalkO q loose XP YP l.row.toRowW d [] (fun f vs => PySem.call f vs) := by
 intro w s₀ s₁ mg mb G Y fa o pm cd doc dV kV ho hd hcd hD hmg hg args vals as hpre hlay hrd hwl hlo
 obtain rfl : dV = .none := Dflts.none hD hdf
 obtain rfl : kV = .none := Dflts.noKw hD
 obtain ⟨a, vs, ns, rfl, rfl, hobj, hints, hlen⟩ := Att.script_of hn hpre hwl
 have KX := hY w _ Y
 obtain ⟨fd, hb, hF⟩ := F w mg fa _ KX G.T.g hmg
 refine enter_call (codeAny_mono (law_call KX G.T.g G.T.b G.T.builtins G.T.nolimit hg hobj hints (Nat.le_trans hlen hn2) hr hF hb (fun H hO hS => hsp w H a ns hlen (script_bits hlay) hO hS) fun H e s' => hCX w H s₁ e s') fun r s' hq => ?_)
 obtain ⟨rfl, h2, h3, h4⟩ := hq
 exact ⟨.inl ⟨.bool true, .bool true, [], rfl, fun _ => rfl, .bool true, Att.post_true l _, fun _ => ⟨List.Pairwise.nil, fun _ hm => (nomatch hm)⟩⟩, h2, h3, h4⟩
theorem noCXe {P : Program} {w : World} {outer : List Env} (H : Hp) (s : Shared) (e : Value) (s' : Shared) (h : CXe P w outer H s (fun _ _ _ => False) e s') : False := by
 obtain ⟨_, _, _, _, _, _, _, _, _, _, _, _, _, _, _, _, hE⟩ := h
 exact hE
structure Own (P : Program) (w : World) (K : W.Frag) (mg : Str → Option Value) (base : Heap) (k : Nat) (x : Str) (ps : List Str) (sp : Sp) : Prop where
 ex : ∃ f fd, FnOk P w K mg base (CXe P w) k f fd ps sp ∧ Binds K fd ps [] ∧ W.keepIn K (.ref f) = true ∧ mg x = some (.ref f)
structure OwnD (P : Program) (w : World) (K : W.Frag) (mg : Str → Option Value) (base : Heap) (k : Nat) (x : Str) (ps : List Str) (sp : Sp) (d : V) : Prop where
 ex : ∃ f fd du, FnOk P w K mg base (CXe P w) k f fd ps sp ∧ Binds K fd ps [] ∧ Binds K fd ps [du] ∧ RelV d du ∧ W.keepIn K (.ref f) = true ∧ mg x = some (.ref f)
section
variable {X : Cx} {k k' : Nat} {ps : List Str} {sp : Sp} {x : Str} {p pos : Pos} {e : Expr} {es : List Expr} {t : TA} {E : XK} {d : V}
theorem pe_own (G : Own X.prog X.w X.K X.mg X.base k x ps sp) (hr : Room k' X.A) (hk : k ≤ k') (hx : Passes (CXe X.prog X.w) X E) (ha : PA X (e :: es) t) (hg : Gl X x := by rfl)
  (hdb : (x == ("__debug__" : Str)) = false := by decide) (he : starEach (e :: es) X.env = (false, eval e X.env) :: starEach es X.env := by rfl) (hpl : (backTo pos (starEach es X.env)).any (·.1) = false := by rfl) :
  PE X (.Call (.Name x p) (e :: es) [] pos) (tCall sp [] E t) := by
 obtain ⟨f, fd, F, b, kp, m⟩ := G.ex
 exact pe_call F (hr.mono hk) hg m kp b .nil hx ha hdb he hpl
end
theorem bt_int : bootBuiltins "int" = some (.type "int") := by decide +kernel
theorem bt_bool : bootBuiltins "bool" = some (.type "bool") := by decide +kernel
theorem bt_list : bootBuiltins "list" = some (.type "list") := by decide +kernel
theorem bt_tuple : bootBuiltins "tuple" = some (.type "tuple") := by decide +kernel
theorem bt_isinstance : bootBuiltins "isinstance" = some (.builtin "isinstance") := by decide +kernel
theorem bt_len : bootBuiltins "len" = some (.builtin "len") := by decide +kernel
theorem same_new {H : Hp} {p : Addr} (h : H p = none) (o : HO) : Same H (upd H p o) := fun b u q => by rw [upd_ne (ne_of_none q h)]; exact q
def Scr (K : W.Frag) (H : Hp) (a : Addr) (xs : List V) : Prop := (∃ o, H a = some (.frz o (.lst xs))) ∨
  ∃ (o : Obj) (its : Array Value) (n : Nat), K.lookup a = some o ∧ o.cls = .type "list" ∧ o.dict = none ∧ o.data = .seq its n ∧ its.size ≤ sizeLine ∧ Vals xs its.toList
theorem Scr.seq {K : W.Frag} {H : Hp} {a : Addr} {xs : List V} (h : Scr K H a xs) : SqL K H a xs := h.elim (fun z => .inl (.inr z)) .inr
theorem Scr.of {K : W.Frag} {H : Hp} {a : Addr} {xs : List V} (h : SqL K H a xs) (o : Only H) : Scr K H a xs := by
 rcases h with (h | h) | h
 ·rcases o a with z | ⟨o, ys, z⟩
  ·rw [h] at z; cases z
  ·rw [h] at z; cases z
 ·exact .inl h
 ·exact .inr h
theorem Scr.same {K : W.Frag} {H H' : Hp} {a : Addr} {xs : List V} (g : Same H H') (h : Scr K H a xs) : Scr K H' a xs := h.elim (fun ⟨o, z⟩ => .inl ⟨o, g _ _ z⟩) .inr
theorem Scr.upd {K : W.Frag} {H : Hp} {a l : Addr} {xs ys : List V} {o : HO} (hl : H l = some (.lst ys)) (h : Scr K H a xs) : Scr K (L2.upd H l o) a xs := h.elim (fun ⟨ob, z⟩ => .inl ⟨ob, by rw [upd_ne (ne_of z hl (by intro q; cases q))]; exact z⟩) .inr
section
variable {prog : Program} {w : World} {A : Around} {R : Result → Shared → Prop} {s : Shared}
theorem compLoop_go {elt target iter : Expr} {ifs : List Expr} {scope : Scope} {pos : Pos} {it acc : Value} {env : Env} {N : Value → Shared → Prop} (hN : N = notedBy (model prog w) A env fun e s' => R (.error e) s') (I : Nat → Shared → Prop)
  (turn : ∀ n s, I n s → wpAny (model prog w) A (pyNext it) (fun r s₁ => match r with
   | none => R (.ok .next) s₁
   | some v => wpAny (model prog w) A (letOwnedTupleGo target it v) (fun _ s₁' => wpAny (model prog w) A (assign target env v) (fun _ s₂ =>
     wpAny (model prog w) A (forIn ifs true fun c r => if r = true then do let ok ← isTrue c env (eval c env); pure (ForInStep.yield ok) else pure (ForInStep.yield r)) (fun ok s₃ =>
      if ok = true then wpAny (model prog w) A (eval elt env) (fun x s₄ =>
       wpAny (model prog w) A (call (.builtin "list.append") [acc, x]) (fun _ s₅ => ∃ m, m < n ∧ I m s₅) N s₄) N s₃
      else ∃ m, m < n ∧ I m s₃) N s₂) N s₁') N s₁) N s)
  (n : Nat) (h : I n s) :
  codeAny (model prog w) A (.compLoop (.ListComp elt [⟨target, iter, ifs, 0⟩] scope pos) 0 it acc env) R s := by
 subst hN
 refine codeAny_loop rfl I (fun k z q => ?_) n h
 show wpAny _ A ((compTurn (.ListComp elt [⟨target, iter, ifs, 0⟩] scope pos) 0 it acc env).onRaise (fun ex => do noteFrame ex env; theTreesLotGoes ex)) _ _ z
 refine wpAny_noted ?_
 rw [compTurn_list]
 refine wpAny_bind (wpAny_standAt (wpAny_bind (thn (turn k z q) fun r z1 q1 => ?_)))
 cases r with
 | none => exact wpAny_pure q1
 | some v =>
  refine wpAny_bind (thn q1 fun _ z2 q2 => ?_)
  refine wpAny_bind (thn q2 fun _ z3 q3 => ?_)
  refine wpAny_bind (thn q3 fun ok z4 q4 => ?_)
  cases ok with
  | false => exact wpAny_pure ⟨rfl, q4⟩
  | true => exact wpAny_bind (wpAny_bind (thn q4 fun x z5 q5 => wpAny_bind (thn q5 fun _ z6 q6 => wpAny_pure (wpAny_pure ⟨rfl, q6⟩))))
end
def capOf (cells : List (Str × Addr)) : List (Str × NameKind) → List (Str × Addr) → List (Str × Addr)
 | [], acc => acc
 | (n, k) :: r, acc => if k == .free then (match cells.lookup n with
   | some c => capOf cells r ((n, c) :: acc)
   | none => capOf cells r acc) else capOf cells r acc
theorem capOf_acc {cells : List (Str × Addr)} {x : Str} {c : Addr} : ∀ {names : List (Str × NameKind)} {acc : List (Str × Addr)}, (∀ d, acc.lookup x = some d → cells.lookup x = some d) → (capOf cells names acc).lookup x = some c → cells.lookup x = some c
 | [], acc, h, e => h c e
 | (n, k) :: r, acc, h, e => by
  unfold capOf at e
  split at e
  ·split at e
   ·rename_i c' hc'
    refine capOf_acc (fun d q => ?_) e
    rw [List.lookup_cons] at q
    split at q
    ·rename_i hx
     have hx' : x = n := by simpa using hx
     cases q
     rw [hx']; exact hc'
    ·exact h d q
   ·exact capOf_acc h e
  ·exact capOf_acc h e
theorem capOf_keeps {cells : List (Str × Addr)} {x : Str} : ∀ {names : List (Str × NameKind)} {acc : List (Str × Addr)}, (∃ d, acc.lookup x = some d) → ∃ d, (capOf cells names acc).lookup x = some d
 | [], acc, h => h
 | (n, k) :: r, acc, h => by
  unfold capOf
  split
  ·split
   ·refine capOf_keeps ?_
    rw [List.lookup_cons]
    split
    ·exact ⟨_, rfl⟩
    ·exact h
   ·exact capOf_keeps h
  ·exact capOf_keeps h
theorem capOf_has {cells : List (Str × Addr)} {x : Str} : ∀ {names : List (Str × NameKind)} {acc : List (Str × Addr)}, (x, NameKind.free) ∈ names → (∃ c, cells.lookup x = some c) → ∃ d, (capOf cells names acc).lookup x = some d
 | [], acc, h, _ => by simp at h
 | (n, k) :: r, acc, h, hc => by
  unfold capOf
  rcases List.mem_cons.mp h with e | h
  ·cases e
   obtain ⟨c, hc⟩ := hc
   rw [if_pos (by rfl), hc]
   exact capOf_keeps ⟨c, by simp [List.lookup_cons]⟩
  ·split
   ·split
    ·exact capOf_has h hc
    ·exact capOf_has h hc
   ·exact capOf_has h hc
theorem closure_go {env : Env} : ∀ (names : List (Str × NameKind)) (acc : List (Str × Addr)), (∀ y ∈ names, y.2 = .free → ∃ c, env.cells.lookup y.1 = some c) →
  (forIn names acc fun (x : Str × NameKind) (cs : List (Str × Addr)) => if (x.2 == NameKind.free) = true then do let a ← cellOf env x.1; pure (ForInStep.yield ((x.1, a) :: cs)) else pure (ForInStep.yield cs) : Sem (List (Str × Addr))) = pure (capOf env.cells names acc)
 | [], acc, _ => rfl
 | (n, k) :: r, acc, h => by
  rw [List.forIn_cons]
  unfold capOf
  by_cases hk : (k == NameKind.free) = true
  ·obtain ⟨c, hc⟩ := h (n, k) List.mem_cons_self (by simpa using hk)
   have e : cellOf env n = pure c := by unfold cellOf; rw [hc]
   rw [if_pos hk, if_pos hk, hc, e]
   exact closure_go r _ fun y hy => h y (List.mem_cons_of_mem _ hy)
  ·rw [if_neg hk, if_neg hk]
   exact closure_go r acc fun y hy => h y (List.mem_cons_of_mem _ hy)
theorem closure_cap {scope : Scope} {env : Env} (h : ∀ y ∈ scope.names, y.2 = .free → ∃ c, env.cells.lookup y.1 = some c) : closureFor scope env = pure (capOf env.cells scope.names []) := by
 have := closure_go (env := env) scope.names [] h
 unfold closureFor
 exact (congrArg (· >>= pure) this).trans (by first | rfl | simp)
theorem lookup_relabel {env : Env} : ∀ {names : List (Str × NameKind)} {x : Str} {k' : NameKind},
  (names.map fun (n, k) => if (k == NameKind.free && env.scope.kind == .function && env.kindOf n == some .cell) then (n, NameKind.cell) else (n, k)).lookup x = some k' →
  ∃ k, names.lookup x = some k ∧ (k' = k ∨ (k = .free ∧ k' = .cell))
 | [], _, _, h => by simp at h
 | (n, k) :: r, x, k', h => by
  rw [List.map_cons] at h
  dsimp only at h
  by_cases hc : (k == NameKind.free && env.scope.kind == .function && env.kindOf n == some .cell) = true
  ·rw [if_pos hc, List.lookup_cons] at h
   rw [List.lookup_cons]
   split at h
   ·rename_i hx
    cases h
    have hk : k = .free := by
     have := (Bool.and_eq_true _ _ ▸ (Bool.and_eq_true _ _ ▸ hc).1).1
     simpa using this
    exact ⟨k, rfl, .inr ⟨hk, rfl⟩⟩
   ·rename_i hx
    obtain ⟨k2, q1, q2⟩ := lookup_relabel h
    exact ⟨k2, q1, q2⟩
  ·rw [if_neg hc, List.lookup_cons] at h
   rw [List.lookup_cons]
   split at h
   ·rename_i hx
    cases h
    exact ⟨k, rfl, .inl rfl⟩
   ·rename_i hx
    obtain ⟨k2, q1, q2⟩ := lookup_relabel h
    exact ⟨k2, q1, q2⟩
theorem lookup_relabel_free {env : Env} : ∀ {names : List (Str × NameKind)} {x : Str}, names.lookup x = some .free →
  (names.map fun (n, k) => if (k == NameKind.free && env.scope.kind == .function && env.kindOf n == some .cell) then (n, NameKind.cell) else (n, k)).lookup x = some .cell ∨
  (names.map fun (n, k) => if (k == NameKind.free && env.scope.kind == .function && env.kindOf n == some .cell) then (n, NameKind.cell) else (n, k)).lookup x = some .free
 | [], _, h => by simp at h
 | (n, k) :: r, x, h => by
  rw [List.map_cons]
  dsimp only
  rw [List.lookup_cons] at h
  by_cases hc : (k == NameKind.free && env.scope.kind == .function && env.kindOf n == some .cell) = true
  ·rw [if_pos hc, List.lookup_cons]
   split at h
   ·rename_i hx
    left; rfl
   ·rename_i hx
    exact lookup_relabel_free (env := env) h
  ·rw [if_neg hc, List.lookup_cons]
   split at h
   ·rename_i hx
    right; exact h
   ·rename_i hx
    exact lookup_relabel_free (env := env) h
structure CompSc (Sc scope : Scope) (N Nc : List Str) (k : Nat) (js : List Nat) : Prop where
 cell : ∀ y ∈ scope.names, y.2 ≠ .cell
 kind : scope.kind = .function
 names : ∀ y ∈ scope.names, y.2 = .local → scope.names.lookup y.1 = some .local
 free : ∀ y ∈ scope.names, y.2 = .free → Sc.names.lookup y.1 = some .cell ∨ Sc.names.lookup y.1 = some .free
 nd : Nc.Nodup
 len : Nc.length = k + js.length
 cap : (Nc.drop k).map some = js.map fun j => N[j]?
 caps : ∀ x ∈ Nc.drop k, scope.names.lookup x = some .free
def compSt (k : Nat) (js : List Nat) (σ : St) : St := List.replicate k none ++ js.map fun j => (σ[j]?).getD none
theorem mem_free {names : List (Str × NameKind)} {x : Str} {k : NameKind} (h : names.lookup x = some k) : (x, k) ∈ names := PySem.mem_of_lookup h
abbrev compCx (X : Cx) (scope : Scope) (Nc : List Str) (C : Addr) (s3 : Shared) (H3 : Hp) (fp : List Addr) (xe : Value → Shared → Prop) : Cx :=
 { X with N := Nc, s₀ := s3, H₀ := H3, env := compEnvC scope (capOf X.env.cells scope.names []) C X.env, outer := X.stack, ex := fp, fn := fun _ => false, pn := [], xe := xe }
section
variable {X : Cx} {pins : List (Addr × Obj)} {σ : St} {H3 : Hp} {s3 : Shared} {scope : Scope} {Nc : List Str} {k : Nat} {js : List Nat} {fp : List Addr} {xe : Value → Shared → Prop} {h₁ : Heap} {m₀ : Str → Option Value} {tk : Nat}
theorem comp_cells (I : Inv X pins σ H3 s3) (S : CompSc X.env.scope scope X.N Nc k js) : ∀ y ∈ scope.names, y.2 = .free → ∃ c, X.env.cells.lookup y.1 = some c := fun y hy hk => I.ok.has y.1 (S.free y hy hk)
theorem comp_sub {x : Str} {c : Addr} (e : (capOf X.env.cells scope.names []).lookup x = some c) : X.env.cells.lookup x = some c := capOf_acc (fun d q => by simp at q) e
theorem comp_inv (I : Inv X pins σ H3 s3) (S : CompSc X.env.scope scope X.N Nc k js) (hf : ∀ b ∈ fp, FpOk X pins H3 b) (hfo : ∀ b ∈ fp, b < s3.heap.objs.size) (hns : h₁.Ns s3.heap.objs.size m₀) (old : ∀ b o, s3.heap.get? b = some o → h₁.get? b = some o) :
  Inv (compCx X scope Nc s3.heap.objs.size s3 H3 fp xe) [] (compSt k js σ) H3 { s3 with heap := h₁, toks := tk } := by
 have ok := I.ok
 have hb0 : ∀ b o, X.base.get? b = some o → b < X.s₀.heap.objs.size := fun b o e => Nat.lt_of_lt_of_le (Heap.lt_size e) ok.bsz
 refine ⟨⟨ok.mod, S.kind, ok.glob, ok.blt, Nat.le_refl _, fun x y c h1 h2 => ok.inj x y c (comp_sub h1) (comp_sub h2), fun x hx => ?_, (fun x c z => nomatch z), ok.hd, ok.frames, .inl rfl, fun b hb => ⟨Nat.ne_of_lt (hfo b hb), fun x c e => (hf b hb).2.2.2.2.1 x c (comp_sub e)⟩, I.bs, Nat.le_trans ok.bsz I.sz, fun b o e hb => ?_, fun b hb z => ?_, I.stack, I.stkFree⟩,
  rfl, I.bare, Un.kept old, ⟨m₀, hns, fun i x v e1 e2 e3 => ?_⟩, fun x c e => ?_, I.hok.fresh (Nat.le_refl _), fun x c e => I.freeC x c (comp_sub e), fun p hp => absurd (show p ∈ ([] : List (Addr × Obj)) from hp) (by simp), I.hok.kept old, ?_⟩
 ·have hx : (relabel scope X.env).names.lookup x = some .cell ∨ (relabel scope X.env).names.lookup x = some .free := hx
  have hfree : scope.names.lookup x = some .free := by
   rcases hx with hx | hx
   ·obtain ⟨k2, q1, q2⟩ := lookup_relabel (env := X.env) hx
    rcases q2 with q2 | ⟨q2, _⟩
    ·subst q2; exact absurd rfl (S.cell _ (mem_free q1))
    ·rw [q2] at q1; exact q1
   ·obtain ⟨k2, q1, q2⟩ := lookup_relabel (env := X.env) hx
    rcases q2 with q2 | ⟨q2, q3⟩
    ·subst q2; exact q1
    ·cases q3
  exact capOf_has (mem_free hfree) (ok.has x (S.free _ (mem_free hfree) rfl))
 ·rcases (hf b hb).2.2.2.1 with z | z
  ·exact ok.noex b o e z
  ·exact absurd (Nat.lt_of_lt_of_le (hb0 b o e) z) (Nat.lt_irrefl _)
 ·rcases List.mem_cons.mp (I.stkSub b z) with q | q
  ·exact (hf b hb).2.1 q
  ·exact (hf b hb).2.2.1 q
 ·have hlen : (List.replicate k (none : Option V)).length = k := List.length_replicate
  by_cases hi : i < k
  ·unfold compSt at e2
   rw [List.getElem?_append_left (by omega), List.getElem?_replicate] at e2
   split at e2 <;> cases e2
  ·unfold compSt at e2
   rw [List.getElem?_append_right (by omega), hlen, List.getElem?_map] at e2
   cases hj : js[i - k]? with
   | none => rw [hj] at e2; cases e2
   | some j =>
    rw [hj] at e2
    have e2' : (σ[j]?).getD none = some v := Option.some.inj e2
    have hσ : σ[j]? = some (some v) := by
     cases q : σ[j]? with
     | none => rw [q] at e2'; cases e2'
     | some y => rw [q] at e2'; simp at e2'; rw [e2']
    have hx : (Nc.drop k)[i - k]? = some x := by rw [List.getElem?_drop]; rw [show k + (i - k) = i by omega]; exact e1
    have hNj : X.N[j]? = some x := by
     have := congrArg (fun l => l[i - k]?) S.cap
     simp only [List.getElem?_map, hx, hj, Option.map_some] at this
     exact (Option.some.inj this).symm
    have hfr : scope.names.lookup x = some .free := S.caps x (List.mem_of_getElem? hx)
    have hk := S.free _ (mem_free hfr) rfl
    obtain ⟨m, hn, hl⟩ := I.loc
    obtain ⟨u, r, l⟩ := hl j x v hNj hσ (.inr hk)
    refine ⟨u, r, .inr ⟨lookup_relabel_free hfr, ?_⟩⟩
    rcases l with ⟨l1, _⟩ | ⟨_, c, hc, hcell⟩
    ·have l1 : X.env.scope.names.lookup x = some .local := l1
     rcases hk with hk | hk
     ·rw [l1] at hk; cases hk
     ·rw [l1] at hk; cases hk
    ·obtain ⟨d, hd⟩ := capOf_has (cells := X.env.cells) (acc := []) (mem_free hfr) ⟨c, hc⟩
     have := comp_sub hd
     rw [hc] at this; cases this
     obtain ⟨o, ho, hdd⟩ := hcell
     exact ⟨c, hd, ⟨o, old _ _ ho, hdd⟩⟩
 ·obtain ⟨v, o, ho, hd⟩ := I.cell x c (comp_sub e)
  exact ⟨v, o, old _ _ ho, hd⟩
 ·unfold compSt
  rw [List.length_append, List.length_replicate, List.length_map]
  exact S.len.symm
end
def PF (X : Cx) (ifs : List Expr) (t : TT) : Prop :=
 ∀ (pins : List (Addr × Obj)) (s : Shared) (σ : St) (H : Hp) (Q : Bool → Hp → Prop), Inv X pins σ H s → t σ H Q →
  wpAny (model X.prog X.w) X.A (forIn ifs true fun c r => if r = true then do let ok ← isTrue c X.env (eval c X.env); pure (ForInStep.yield ok) else pure (ForInStep.yield r)) (TP X pins σ Q) X.xe s
def tTrue : TT := fun _ H Q => Q true H
theorem pf_nil {X : Cx} : PF X [] tTrue := fun pins s σ H Q I h => wpAny_tests_nil ⟨H, I, h⟩
def tCompR (J : It) (g : TG) (tf : TT) (te : TE) (k : Nat) (σ0 : St) (D : Addr) (Fin : Hp → Prop) (H1 : Hp) : Prop :=
 ∃ W : Nat → Nat → List V → Hp → Prop, (∃ m, W 0 m [] (upd H1 D (.lst []))) ∧ ∀ i m ys H, W i m ys H →
  (J.stop i H ∧ Fin H) ∨ (J.go i H ∧ ∃ N : List V → Hp → Prop, (∀ ys' H', N ys' H' → ∃ m', m' < m ∧ W (i + 1) m' ys' H') ∧ ∀ x H', J.yld i H x H' → g x σ0 H' fun σ2 H2 => (σ2.drop k = σ0.drop k ∧ σ2.length = σ0.length) ∧ tf σ2 H2 fun b H3 =>
   if b = true then te σ2 H3 fun y H4 => H4 D = some (.lst ys) ∧ ys.length < sizeLine ∧ N (ys ++ [y]) (upd H4 D (.lst (ys ++ [y]))) else N ys H3)
section
variable {X : Cx} {pins : List (Addr × Obj)} {σ : St} {H : Hp} {s : Shared} {elt tg iter : Expr} {ifs : List Expr} {scope : Scope} {pos : Pos} {Nc : List Str} {k : Nat} {js : List Nat} {g : TG} {tf : TT} {te : TE}
theorem comp_block {J : It} {fp : List Addr} {it : Addr} {tn : Nat → Heap → Prop} {E : Value → Shared → Prop} {RR : Value → Addr → Result → Shared → Prop} {Fin : Addr → Hp → Prop} (hc : X.calm = true) (S : CompSc X.env.scope scope X.N Nc k js)
  (hg : ∀ C s3 H3 fp xe, PG (compCx X scope Nc C s3 H3 fp xe) tg g) (hf : ∀ C s3 H3 fp xe, PF (compCx X scope Nc C s3 H3 fp xe) ifs tf)
  (he : ∀ C D H3, ∃ xe : Value → Shared → Prop, (∀ e s', xe e s' → notedBy (model X.prog X.w) X.A (compEnvC scope (capOf X.env.cells scope.names []) C X.env) (fun e s' => RR (.ref D) C (.error e) s') e s') ∧
   ∀ s3, Inv X pins σ H3 s3 → C = s3.heap.objs.size → (∀ b ∈ fp, FpOk X pins H3 b) → PE (compCx X scope Nc C s3 H3 fp xe) elt te)
  (I2 : Inv X pins σ H s) (T : Turn X.prog X.w X.K tg J fp it tn) (st2 : tn 0 s.heap) (f2 : ∀ b ∈ fp, FpOk X pins H b) (hR : ∀ D, H D = none → tCompR J g tf te k (compSt k js σ) D (Fin D) H)
  (hRR : ∀ D C H' s' m', Inv X pins σ H' s' → s'.heap.Ns C m' → H' C = none → C ≠ X.env.locals → X.s₀.heap.objs.size ≤ C → (∀ x c, X.env.cells.lookup x = some c → c ≠ C) → (∀ p ∈ X.pn ++ pins, p.1 ≠ C) → Fin D H' → RR (.ref D) C (.ok .next) s') :
  wpAny (model X.prog X.w) X.A (newList []) (fun acc s₃ => wpAny (model X.prog X.w) X.A (newFunctionEnv scope X.env.globals (capOf X.env.cells scope.names []) [] X.env.qual none .none (some X.env)) (fun cenv s₄ =>
   codeAny (model X.prog X.w) X.A (.compStart (.ListComp elt [⟨tg, iter, ifs, 0⟩] scope pos) 0 (.ref it) acc { cenv with scope := relabel scope X.env }) (RR acc cenv.locals) s₄) E s₃) E s := by
 refine wpAny_newObj_type (wpAny_newFunctionEnv S.cell (by intro y hy; simp at hy) (fun h₁ hns₁ hsb₁ => ?_) S.kind)
 dsimp only at hns₁ hsb₁ ⊢
 have I3 : Inv X pins σ (upd H s.heap.objs.size (.lst [])) { s with heap := s.heap.push { cls := .type "list", data := .seq ([] : List Value).toArray }, toks := s.toks } := I2.lnew (its := []) .nil (Nat.zero_le _)
 have hDn : H s.heap.objs.size = none := I2.fresh
 obtain ⟨W, ⟨m0, w0⟩, turn⟩ := hR _ hDn
 generalize hs3 : ({ s with heap := s.heap.push { cls := .type "list", data := .seq ([] : List Value).toArray }, toks := s.toks } : Shared) = s3 at I3
 have e3 : s3.heap = s.heap.push { cls := .type "list", dict := none, data := .seq ([] : List Value).toArray } := by rw [← hs3]
 rw [← e3] at hns₁ hsb₁ ⊢
 have fpo : ∀ b ∈ fp, b < s.heap.objs.size := fun b hb => by obtain ⟨o, e, _⟩ := T.obj _ _ st2 b hb; exact Heap.lt_size e
 have sz3 : s3.heap.objs.size = s.heap.objs.size + 1 := by rw [e3, Heap.size_push]
 have fpo3 : ∀ b ∈ fp, b < s3.heap.objs.size := fun b hb => by rw [sz3]; exact Nat.lt_succ_of_lt (fpo b hb)
 have f3 : ∀ b ∈ fp, FpOk X pins (upd H s.heap.objs.size (.lst [])) b := fun b hb => ⟨by rw [upd_ne (Nat.ne_of_lt (fpo b hb))]; exact (f2 b hb).1, (f2 b hb).2⟩
 have old : ∀ b o, s3.heap.get? b = some o → h₁.get? b = some o := fun b o e => hsb₁.extBut b o (Nat.ne_of_lt (Heap.lt_size e)) (Heap.get?_push_of_some _ e)
 have oldS : ∀ b o, s.heap.get? b = some o → h₁.get? b = some o := fun b o e => old b o (by rw [e3]; exact Heap.get?_push_of_some _ e)
 obtain ⟨xe, hxe, hel⟩ := he s3.heap.objs.size s.heap.objs.size (upd H s.heap.objs.size (.lst []))
 have hel := hel s3 I3 rfl f3
 have I4 : Inv (compCx X scope Nc s3.heap.objs.size s3 (upd H s.heap.objs.size (.lst [])) fp xe) [] (compSt k js σ) (upd H s.heap.objs.size (.lst [])) { s3 with heap := h₁, toks := s.toks + ([] : List (Str × Value)).length } :=
  comp_inv I3 S f3 fpo3 hns₁ old
 have st4 : tn 0 h₁ := T.keep _ _ _ st2 fun b hb o e => oldS b o e
 have es3 : ({ s3 with heap := h₁, toks := s.toks + ([] : List (Str × Value)).length } : Shared) = { s with heap := h₁, toks := s.toks + ([] : List (Str × Value)).length } := by rw [← hs3]
 rw [es3] at I4
 have ok := I2.ok
 have lk := I3.lt
 have hCL : s3.heap.objs.size ≠ X.env.locals := Nat.ne_of_gt lk
 have stat : ∀ {H' : Hp}, (∀ b ∈ fp, H' b = none) → ∀ b ∈ fp, FpOk (compCx X scope Nc s3.heap.objs.size s3 (upd H s.heap.objs.size (.lst [])) fp xe) [] H' b := fun hn b hb =>
  ⟨hn b hb, Nat.ne_of_lt (fpo3 b hb), fun z => (List.mem_cons.mp (I3.stkSub b z)).elim (fun q => (f3 b hb).2.1 q) fun q => (f3 b hb).2.2.1 q, .inl hb, fun x c e => (f3 b hb).2.2.2.2.1 x c (comp_sub e), fun p hp => absurd (show p ∈ ([] : List (Addr × Obj)) from hp) (by simp)⟩
 have loop : codeAny (model X.prog X.w) X.A (.compLoop (.ListComp elt [⟨tg, iter, ifs, 0⟩] scope pos) 0 (.ref it) (.ref s.heap.objs.size) (compEnvC scope (capOf X.env.cells scope.names []) s3.heap.objs.size X.env))
    (RR (.ref s.heap.objs.size) s3.heap.objs.size) { s with heap := h₁, toks := s.toks + ([] : List (Str × Value)).length } := by
  refine compLoop_go rfl (fun n s' => ∃ i ys H', Inv (compCx X scope Nc s3.heap.objs.size s3 (upd H s.heap.objs.size (.lst [])) fp xe) [] (compSt k js σ) H' s' ∧ tn i s'.heap ∧ (∀ b ∈ fp, H' b = none) ∧ W i n ys H') ?_ m0 ⟨0, [], _, I4, st4, fun b hb => (f3 b hb).1, w0⟩
  rintro n s5 ⟨i, ys, H5, I5, st5, fr5, w5⟩
  rcases turn i n ys H5 w5 with ⟨stop, fin⟩ | ⟨go, Nx, hNx, step⟩
  ·refine thn (T.done (compCx X scope Nc s3.heap.objs.size s3 (upd H s.heap.objs.size (.lst [])) fp xe) rfl rfl rfl hc i [] s5 (compSt k js σ) H5 _ I5 (stat fr5) st5 stop) fun r s6 ⟨hr, I6⟩ => ?_
   subst hr
   obtain ⟨m6, hn6, _⟩ := I6.loc
   have J : Inv X pins σ H5 s6 := I3.call' (ch := fp) (I6.os.trans rfl) I6.base I6.hok I6.bare fun b hb => ⟨(f3 b hb).2.2.2.1, (f3 b hb).2.1, (f3 b hb).2.2.2.2.1, (f3 b hb).2.2.2.2.2⟩
   refine hRR _ _ H5 s6 m6 J hn6 I6.free hCL (I3.sz) (fun x c e z => ?_) (fun p hp z => ?_) fin
   ·obtain ⟨v, q⟩ := I3.cell x c e
    exact absurd q.lt (by rw [z]; exact Nat.lt_irrefl _)
   ·exact absurd (Heap.lt_size (I3.pin p hp).1) (by rw [z]; exact Nat.lt_irrefl _)
  ·refine thn (T.item (compCx X scope Nc s3.heap.objs.size s3 (upd H s.heap.objs.size (.lst [])) fp xe) rfl rfl rfl hc i [] s5 (compSt k js σ) H5 _ I5 (stat fr5) st5 go) fun r s6 ⟨u, hr, h6⟩ => ?_
   subst hr
   refine thn h6 fun _ s7 ⟨x, H7, I7, r7, y7, st7, fr7⟩ => ?_
   have I7' := I7.pinned (stat fr7) (T.obj _ _ st7)
   refine wpAny_mono (hg _ _ _ _ _ _ s7 _ H7 x u _ I7' r7 (step x H7 y7)) (fun _ s8 ⟨σ8, H8, I8, ⟨d8, l8⟩, q8⟩ => ?_) fun e s' z => hxe e s' z
   refine wpAny_mono (hf _ _ _ _ _ _ s8 σ8 H8 _ I8 q8) (fun b s9 ⟨H9, I9, q9⟩ => ?_) fun e s' z => hxe e s' z
   have again : ∀ {H' : Hp} {s' : Shared} {ys' : List V}, Inv (compCx X scope Nc s3.heap.objs.size s3 (upd H s.heap.objs.size (.lst [])) fp xe) ([] ++ pinsAt fp s7.heap) σ8 H' s' → Nx ys' H' →
     ∃ m, m < n ∧ ∃ i ys H', Inv (compCx X scope Nc s3.heap.objs.size s3 (upd H s.heap.objs.size (.lst [])) fp xe) [] (compSt k js σ) H' s' ∧ tn i s'.heap ∧ (∀ b ∈ fp, H' b = none) ∧ W i m ys H' := fun {H' s' ys'} I' hw => by
    obtain ⟨m', hm, w'⟩ := hNx _ _ hw
    refine ⟨m', hm, i + 1, ys', H', (I'.unpinned).weak l8.symm fun j v e => ?_, T.keep _ _ _ st7 fun b hb o e => (I'.pin (b, o) (List.mem_append_right _ (List.mem_append_right _ (mem_pinsAt hb e)))).1, fun b hb => ?_, w'⟩
    ·by_cases hj : j < k
     ·unfold compSt at e
      rw [List.getElem?_append_left (by rw [List.length_replicate]; exact hj), List.getElem?_replicate] at e
      split at e <;> cases e
     ·have e' : ((compSt k js σ).drop k)[j - k]? = some (some v) := by rw [List.getElem?_drop, show k + (j - k) = j by omega]; exact e
      rw [← d8, List.getElem?_drop, show k + (j - k) = j by omega] at e'
      exact e'
    ·obtain ⟨o, e, d⟩ := T.obj _ _ st7 b hb
     exact (I'.pin (b, o) (List.mem_append_right _ (List.mem_append_right _ (mem_pinsAt hb e)))).2.1
   cases b with
   | false =>
    rw [if_neg Bool.false_ne_true] at q9 ⊢
    exact again I9 q9
   | true =>
    rw [if_pos rfl] at q9 ⊢
    refine wpAny_mono (hel _ s9 σ8 H9 _ I9 q9) (fun v s10 ⟨y, H10, I10, r10, hD, hz, w'⟩ => ?_) fun e s' z => hxe e s' z
    refine wpAny_mono (mt_append (X := compCx X scope Nc s3.heap.objs.size s3 (upd H s.heap.objs.size (.lst [])) fp xe) _ s10 σ8 H10 (.ref s.heap.objs.size) [y] (.ref s.heap.objs.size) [v] (fun _ H' => H' = upd H10 s.heap.objs.size (.lst (ys ++ [y]))) I10 rfl (.cons r10 .nil)
     ⟨_, ys, y, rfl, rfl, hD, hz, rfl⟩) (fun _ s11 ⟨_, H11, I11, _, q11⟩ => ?_) fun e s' z => hxe e s' z
    subst q11
    exact again I11 w'
 exact codeAny_compStart_list loop (T.self _ 0 _ _ _ st4 loop)
end
def tComp (wi : TI) (g : TG) (tf : TT) (te : TE) (k : Nat) (js : List Nat) : TE := fun σ H Q => wi σ H fun J H1 => ∀ D, H1 D = none → tCompR J g tf te k (compSt k js σ) D (fun H' => Q (.ref D) H') H1
def tCompSet (i : Nat) (wi : TI) (g : TG) (tf : TT) (te : TE) (k : Nat) (js : List Nat) : TS := fun N σ H => wi σ H fun J H1 => ∀ D, H1 D = none → tCompR J g tf te k (compSt k js σ) D (fun H' => N.nx (σ.set i (some (.ref D))) H') H1
section
variable {X : Cx} {elt tg iter : Expr} {ifs : List Expr} {scope : Scope} {pos : Pos} {Nc : List Str} {k : Nat} {js : List Nat} {wi : TI} {g : TG} {tf : TT} {te : TE}
theorem pe_comp (hc : X.calm = true) (S : CompSc X.env.scope scope X.N Nc k js) (hi : PI X tg iter wi) (hg : ∀ C s3 H3 fp xe, PG (compCx X scope Nc C s3 H3 fp xe) tg g) (hf : ∀ C s3 H3 fp xe, PF (compCx X scope Nc C s3 H3 fp xe) ifs tf)
  (he : ∀ C s3 H3 fp xe, PE (compCx X scope Nc C s3 H3 fp xe) elt te) (hs : ∀ x, foldedSetIterable iter X.env x = pure x := by intro _; rfl) : PE X (.ListComp elt [⟨tg, iter, ifs, 0⟩] scope pos) (tComp wi g tf te k js) := by
 intro pins s σ H Q I h
 rw [eval_ListComp]
 refine wpAny_comprehension_free (use := none) rfl hs (closure_cap (comp_cells I S)) S.kind S.names (thn (hi pins s σ H _ I h) fun v s1 h1 => thn h1 fun itv s2 h2 => ?_)
 obtain ⟨it, fp, tn, J, H2, rfl, I2, T, st2, f2, hR⟩ := h2
 refine comp_block (RR := fun acc C => compPost (model X.prog X.w) X.A X.xe none (EP X pins σ Q) acc C) (Fin := fun D H' => Q (.ref D) H') hc S hg hf (fun C D H3 => ⟨fun _ _ => False, fun _ _ z => z.elim, fun s3 _ _ _ => he _ _ _ _ _⟩) I2 T st2 f2 hR ?_
 intro D C H' s' m' I' hn hC hCL hsz hcl hpn q
 exact ⟨m', hn, fun h' hs' => ⟨.ref D, H', I'.turned (t' := s'.toks) (fun b o hb e => (hs'.2 b hb).trans e) hC hCL (.inr hsz) hcl hpn, rfl, q⟩⟩
theorem ps_compSet {i : Nat} {y : Str} {py spos : Pos} (hc : X.calm = true) (S : CompSc X.env.scope scope X.N Nc k js) (hN : X.N.Nodup) (hy : X.N[i]? = some y) (hi : PI X tg iter wi) (hg : ∀ C s3 H3 fp xe, PG (compCx X scope Nc C s3 H3 fp xe) tg g) (hf : ∀ C s3 H3 fp xe, PF (compCx X scope Nc C s3 H3 fp xe) ifs tf)
  (he : ∀ C s3 H3 fp xe, PE (compCx X scope Nc C s3 H3 fp xe) elt te) (hl : X.env.scope.names.lookup y = some .local := by rfl) (hs : ∀ x, foldedSetIterable iter X.env x = pure x := by intro _; rfl)
  (hsw : swapsWith (.ListComp elt [⟨tg, iter, ifs, 0⟩] scope pos) (some (.Name y py)) spos.line X.env = pure true := by rfl) : PS X (.Assign [.Name y py] (.ListComp elt [⟨tg, iter, ifs, 0⟩] scope pos) spos) (tCompSet i wi g tf te k js) := by
 intro pins s σ H N I h
 rw [exec_Assign_Name_used _ _ _ _ hsw]
 refine wpAny_bind (wpAny_standAt (wpAny_bind ?_))
 show wpAny _ X.A (do let _ ← comprehension (.ListComp elt [⟨tg, iter, ifs, 0⟩] scope pos) scope X.env _ (newList []) false (eval iter X.env) (some (assign (.Name y py) X.env))) _ _ s
 refine wpAny_bind (thn (wpAny_comprehension_free (use := some (assign (.Name y py) X.env)) (Q := fun _ z => SP X pins N .next z) rfl hs (closure_cap (comp_cells I S)) S.kind S.names
  (thn (hi pins s σ H _ I h) fun v s1 h1 => thn h1 fun itv s2 h2 => ?_)) fun _ z hq => wpAny_pure (wpAny_pure hq))
 obtain ⟨it, fp, tn, J, H2, rfl, I2, T, st2, f2, hR⟩ := h2
 refine comp_block (RR := fun acc C => compPost (model X.prog X.w) X.A X.xe (some (assign (.Name y py) X.env)) (fun _ z => SP X pins N .next z) acc C) (Fin := fun D H' => N.nx (σ.set i (some (.ref D))) H') hc S hg hf
  (fun C D H3 => ⟨fun _ _ => False, fun _ _ z => z.elim, fun s3 _ _ _ => he _ _ _ _ _⟩) I2 T st2 f2 hR ?_
 intro D C H' s' m' I' hn hC hCL hsz hcl hpn q
 show wpAny _ X.A (assign (.Name y py) X.env (.ref D)) _ _ s'
 refine wpAny_assign_Name (store_ok2 (v := .ref D) I' hN hy (.inl hl) rfl (fun s'' I'' ⟨a, hsb, ha⟩ => ?_) (.inr hl))
 have hCa : C ≠ a := by
  rcases ha with ha | ha
  ·rw [ha]; exact hCL
  ·exact fun z => hcl y a ha z.symm
 exact ⟨m', hn.sameBut hsb hCa, fun h' hs' => ⟨_, H', I''.turned (t' := s''.toks) (fun b o hb e => (hs'.2 b hb).trans e) hC hCL (.inr hsz) hcl hpn, q⟩⟩
end
theorem comp_list {K : W.Frag} {a : Addr} {xs : List V} {g : TG} {tf : TT} {te : TE} {k : Nat} {σ0 : St} {D : Addr} {Fin : Hp → Prop} {H1 : Hp} (Pv : Nat → List V → Hp → Prop) (h0 : Pv 0 [] (upd H1 D (.lst []))) (hl : ∀ i ys H, i ≤ xs.length → Pv i ys H → SqL K H a xs)
  (hs : ∀ i x ys H, xs[i]? = some x → Pv i ys H → g x σ0 H fun σ2 H2 => (σ2.drop k = σ0.drop k ∧ σ2.length = σ0.length) ∧ tf σ2 H2 fun b H3 =>
   if b = true then te σ2 H3 fun y H4 => H4 D = some (.lst ys) ∧ ys.length < sizeLine ∧ Pv (i + 1) (ys ++ [y]) (upd H4 D (.lst (ys ++ [y]))) else Pv (i + 1) ys H3)
  (hd : ∀ ys H, Pv xs.length ys H → Fin H) : tCompR (Itl K a) g tf te k σ0 D Fin H1 := by
 refine ⟨fun i m ys H => m = xs.length - i ∧ i ≤ xs.length ∧ Pv i ys H, ⟨xs.length, by simp, Nat.zero_le _, h0⟩, ?_⟩
 rintro i m ys H ⟨rfl, hi, p⟩
 have q := hl i ys H hi p
 by_cases hlt : i < xs.length
 ·refine .inr ⟨⟨xs, xs[i], q, by simp [hlt]⟩, Pv (i + 1), fun ys' H' z => ⟨xs.length - (i + 1), by omega, rfl, hlt, z⟩, fun x H' y => ?_⟩
  obtain ⟨e, y⟩ := y
  subst e
  exact hs i x ys _ (y xs q) p
 ·have e : i = xs.length := by omega
  subst e
  exact .inl ⟨⟨xs, q, Nat.le_refl _⟩, hd ys H p⟩
section
variable {X : Cx}
theorem bt_max : bootBuiltins "max" = some (.builtin "max") := by decide +kernel
end
section
variable {X : Cx} {K : W.Frag}
theorem ixK_list (hK : X.K = K := by rfl) : IxR X (rIxL K) := hK ▸ ix_list
theorem ixK_tup (hK : X.K = K := by rfl) : IxR X (rIxT K) := hK ▸ ix_tup
theorem slK_list (hK : X.K = K := by rfl) : SlR X (rSlL K) := hK ▸ sl_list
theorem opK_ltT (hu : X.A.units < cLine) (hK : X.K = K := by rfl) : OpR X (compareOp .Lt) (rLtT K) := hK ▸ op_ltT hu
def rLenSeq (K : W.Frag) : List V → Hp → VK → Prop := fun xs H Q => ∃ p ys, xs = [.ref p] ∧ (SqL K H p ys ∨ SqT K H p ys) ∧ Q (.int ys.length) H
theorem callK_len_seq (hK : X.K = K := by rfl) : CallR X (.builtin "len") (rLenSeq K) := hK ▸ call_len_seq
def rListOf (K : W.Frag) : List V → Hp → VK → Prop := fun xs H Q => ∃ p ys, xs = [.ref p] ∧ (SqL K H p ys ∨ SqT K H p ys) ∧ ∀ l, H l = none → Q (.ref l) (upd H l (.lst ys))
theorem callK_list_of (hK : X.K = K := by rfl) : CallR X (.type "list") (rListOf K) := hK ▸ call_list_of
theorem callK_isi (hK : X.K = K := by rfl) : CallR X (.builtin "isinstance") (rIsi K) := hK ▸ call_isi
theorem pgK_tup {es : List Expr} {k : Nat} {t : TGs} {n : Nat} {pos : Pos} (hc : X.calm = true) (h : PGs X es t) (hK : X.K = K := by rfl) (hn : (assignEach es X.env).length = n := by rfl) (hst : (assignEach es X.env).findIdx? (·.1) = none := by rfl) :
  PG X (.Tuple es k pos) (gTup K n t) := hK ▸ pg_tup hc h hn hst
variable {o e : Expr} {es : List Expr} {to : TE} {t : TA} {name : Str} {apos cpos : Pos} {T id : String} {r : V → List V → Hp → VK → Prop}
theorem pe_bmK (pa : PlainAttrs T) (slot : Slot T name id) (hty : typeOf (.builtin id) = pure (.type "method_descriptor")) (hm : MtR X id r) (ho : PE X o to) (ha : PA X (e :: es) t) (hK : X.K = K := by rfl)
  (hbase : attributeBase o name X.env (eval o X.env) = eval o X.env := by rfl)
  (hfew : ((backTo cpos (starEach (e :: es) X.env)).all (fun x => !x.1) && (backToKw cpos (keywordEach [] X.env)).all (fun x => x.1.isSome)
   && decide ((e :: es).length + ([] : List Keyword).length + (if ([] : List Keyword).isEmpty then 0 else 1) < 30)) = true := by rfl)
  (hline : (apos.endLine == cpos.line) = true := by rfl) (hs : starEach (e :: es) X.env = (false, eval e X.env) :: starEach es X.env := by rfl) (hplain : (backTo cpos (starEach es X.env)).any (·.1) = false := by rfl) :
  PE X (.Call (.Attribute o name apos) (e :: es) [] cpos) (tBM K T r to t) := hK ▸ pe_bm pa slot hty hm ho ha hbase hfew hline hs hplain
end
section
variable {X : Cx}
theorem all_range : ∀ (bs : List Bool), (List.range bs.length).all (fun i => bs.getD i false) = bs.all id
 | [] => rfl
 | b :: r => by
  rw [List.length_cons, List.range_succ_eq_map, List.all_cons, List.all_map, List.all_cons, ← all_range r]; rfl
def rAll (K : W.Frag) : List V → Hp → VK → Prop := fun xs H Q => ∃ (a : Addr) (bs : List Bool), xs = [.ref a] ∧ SqL K H a (bs.map V.bl) ∧ Q (.bl (bs.all id)) H
theorem bools_at {bs : List Bool} {us : List Value} (r : Vals (bs.map V.bl) us) {i : Nat} {v : Value} (h : us.toArray[i]? = some v) : v = .bool (bs.getD i false) := by
 have h : us[i]? = some v := by simpa using h
 have hi : i < bs.length := by
  have := (List.getElem?_eq_some_iff.mp h).1
  rw [← r.length, List.length_map] at this; exact this
 obtain ⟨u, hu, ru⟩ := r.get (i := i) (x := .bl (bs.getD i false)) (by rw [List.getElem?_map, List.getElem?_eq_getElem hi]; simp [hi])
 rw [h] at hu; cases hu
 exact ru
theorem truth_bools {prog : Program} {w : World} {A : Around} {bs : List Bool} {us : List Value} (r : Vals (bs.map V.bl) us) : TruthOf prog w A (fun i v => us.toArray[i]? = some v) (fun i => bs.getD i false) := fun i v s Q E hP hQ => by
 rw [bools_at r hP]
 exact wpAny_truthy_bool hQ
theorem callK_all {K : W.Frag} (hc : X.calm = true := by rfl) (hK : X.K = K := by rfl) : CallR X (.builtin "all") (rAll K) := by
 subst hK
 intro pins s σ H xs us Q I r h
 obtain ⟨a, bs, rfl, hq, q⟩ := h
 obtain ⟨u, rfl, ru⟩ := r.one
 cases (show u = Value.ref a from ru)
 obtain ⟨its, rv, pl, hz⟩ := I.list hq
 have hlt : a < s.heap.objs.size := by obtain ⟨_, e, _⟩ := pl.isList; exact Heap.lt_size e
 refine call_all_walk (wpAny_pyIter_list pl.isList ⟨_, _, _, _, _, _, _, rfl, Walks.list (A := X.A.in1) (I.ok.hd hc) s.heap.objs.size a (Nat.ne_of_lt hlt) its.toArray, ⟨⟨_, Heap.get?_push_size _ rfl, rfl, rfl⟩, pl.isList.push _⟩, truth_bools rv, fun h' tk hk => ?_⟩)
 have I' : Inv X pins σ H { s with heap := h', toks := tk } := I.kept fun b o e => hk b o (by simpa using Nat.ne_of_lt (Heap.lt_size e)) (Heap.get?_push_of_some _ e)
 refine ⟨.bl _, H, I', rfl, ?_⟩
 rw [show its.toArray.size = bs.length by rw [List.size_toArray, ← rv.length, List.length_map], all_range]
 exact q
theorem bt_all : bootBuiltins "all" = some (.builtin "all") := by decide +kernel
end
theorem ints_items : ∀ {ns : List Int} {us : List Value}, Vals (ns.map V.int) us → ∃ ps : List (Int × Tok), us = ps.map (fun p => Value.int p.1 p.2) ∧ ps.map (·.1) = ns
 | [], _, .nil => ⟨[], rfl, rfl⟩
 | n :: ns, _, .cons r t => by
  obtain ⟨tk, rfl⟩ := r
  obtain ⟨ps, rfl, e⟩ := ints_items t
  exact ⟨(n, tk) :: ps, rfl, by rw [List.map_cons, e]⟩
def Gd (n : Nat) (lt : Nat → Nat → Bool) {α : Type} : KasT α → (α → Prop) → Prop
 | .ret a, P => P a
 | .ask i j k, P => i < n ∧ j < n ∧ Gd n lt (k (lt i j)) P
theorem Gd.mono {n : Nat} {lt : Nat → Nat → Bool} {α : Type} {P P' : α → Prop} (h : ∀ a, P a → P' a) : ∀ {t : KasT α}, Gd n lt t P → Gd n lt t P'
 | .ret a, g => h a g
 | .ask i j k, g => ⟨g.1, g.2.1, Gd.mono h g.2.2⟩
theorem Gd.bind {n : Nat} {lt : Nat → Nat → Bool} {α β : Type} {P : β → Prop} {f : α → KasT β} : ∀ {t : KasT α}, Gd n lt t (fun a => Gd n lt (f a) P) → Gd n lt (t.bind f) P
 | .ret a, g => g
 | .ask i j k, g => ⟨g.1, g.2.1, Gd.bind (t := k (lt i j)) g.2.2⟩
theorem Gd.wp {n : Nat} {lt : Nat → Nat → Bool} {α : Type} {cmp : Nat → Nat → (Bool → Shared → Prop) → Shared → Prop} {s : Shared} (hc : ∀ i j C, i < n → j < n → C (lt i j) s → cmp i j C s) {P : α → Prop} {Q : α → Shared → Prop} (q : ∀ a, P a → Q a s) : ∀ {t : KasT α}, Gd n lt t P → t.kasWp cmp Q s
 | .ret a, g => q a g
 | .ask i j k, g => hc i j _ g.1 g.2.1 (Gd.wp hc q (t := k (lt i j)) g.2.2)
def ga (p : Array Nat) (k : Nat) : Nat := p.getD k 0
theorem ga_eq (p : Array Nat) (k : Nat) : ga p k = (p[k]?).getD 0 := by
 unfold ga; simp [Array.getD_eq_getD_getElem?]
structure TPre (lt : Nat → Nat → Bool) : Prop where
 irr : ∀ i, lt i i = false
 tr : ∀ i j k, lt j i = false → lt k j = false → lt k i = false
 asy : ∀ i j, lt i j = true → lt j i = false
section
variable {n : Nat} {lt : Nat → Nat → Bool}
def Up (lt : Nat → Nat → Bool) (p : Array Nat) (m : Nat) : Prop := ∀ i j, i ≤ j → j < m → lt (ga p j) (ga p i) = false
def Dn (lt : Nat → Nat → Bool) (p : Array Nat) (m : Nat) : Prop := ∀ i j, i ≤ j → j < m → lt (ga p i) (ga p j) = false
def Pmn (n : Nat) (p : Array Nat) : Prop := p.toList.Perm (List.range n)
theorem Pmn.size {p : Array Nat} (h : Pmn n p) : p.size = n := by have := h.length_eq; simpa using this
theorem Pmn.bd {p : Array Nat} (h : Pmn n p) {k : Nat} (hk : k < n) : ga p k < n := by
 have hs := h.size
 have : ga p k ∈ p.toList := by
  have e : ga p k = p[k]'(by omega) := by unfold ga; simp [Array.getD, hs, hk]
  rw [e]; exact Array.getElem_mem_toList _
 exact List.mem_range.mp (h.mem_iff.mp this)
theorem Pmn.rev {p : Array Nat} (h : Pmn n p) (i j : Nat) : Pmn n (kas_rev p i j) := ((Array.perm_iff_toList_perm.mp (mirror_perm p i j _)).trans h)
theorem Pmn.bub {p : Array Nat} (h : Pmn n p) (i j : Nat) : Pmn n (bubble p i j) := ((Array.perm_iff_toList_perm.mp (bubble_perm p i j)).trans h)
theorem ga_rev {p : Array Nat} {i j : Nat} (hj : j ≤ p.size) (k : Nat) : ga (kas_rev p i j) k = if i ≤ k ∧ k < j then ga p (i + j - 1 - k) else ga p k := by
 rw [ga_eq, kas_rev, getElem?_mirror_all hj]
 split <;> rw [ga_eq]
theorem ga_bub {p : Array Nat} {src d : Nat} (hs : src < p.size) (hd : d ≤ src) (k : Nat) : ga (bubble p src d) k = if k = src - d then ga p src else if src - d < k ∧ k ≤ src then ga p (k - 1) else ga p k := by
 rw [ga_eq, getElem?_bubble hs d hd]
 split
 ·rw [ga_eq]
 ·split <;> rw [ga_eq]
theorem gd_asc (T : TPre lt) {p : Array Nat} (hp : Pmn n p) : ∀ (f k : Nat), 1 ≤ k → k + f ≤ n → Up lt p k → Gd n lt (kas_asc p f k) (fun m => k ≤ m ∧ m ≤ k + f ∧ Up lt p m ∧ (m < k + f → lt (ga p m) (ga p (m - 1)) = true))
 | 0, k, _, _, u => ⟨Nat.le_refl _, Nat.le_refl _, u, fun z => absurd z (by omega)⟩
 | f + 1, k, h1, h2, u => by
  refine ⟨hp.bd (by omega), hp.bd (by omega), ?_⟩
  cases c : lt (p.getD k 0) (p.getD (k - 1) 0) with
  | true => simp only [if_true]; exact ⟨Nat.le_refl _, by omega, u, fun _ => c⟩
  | false =>
   simp only [Bool.false_eq_true, if_false]
   refine (gd_asc T hp f (k + 1) (by omega) (by omega) fun i j hij hj => ?_).mono fun m h => ⟨by omega, by omega, h.2.2.1, fun z => h.2.2.2 (by omega)⟩
   by_cases hjk : j < k
   ·exact u i j hij hjk
   ·have e : j = k := by omega
    subst e
    by_cases hik : i = j
    ·subst hik; exact T.irr _
    ·exact T.tr _ _ _ (u i (j - 1) (by omega) (by omega)) c
theorem gd_desc (T : TPre lt) : ∀ (f : Nat) (p : Array Nat) (k q : Nat), Pmn n p → q + 1 ≤ k → k + f ≤ n → Dn lt p k → (∀ i, k - (q + 1) ≤ i → i < k → lt (ga p (k - 1)) (ga p i) = false ∧ lt (ga p i) (ga p (k - 1)) = false) →
  Gd n lt (kas_desc f p k q) (fun r => Pmn n r.1 ∧ k ≤ r.2.1 ∧ r.2.1 ≤ k + f ∧ r.2.2 + 1 ≤ r.2.1 ∧ Dn lt r.1 r.2.1 ∧ ∀ i, r.2.1 - (r.2.2 + 1) ≤ i → i < r.2.1 → lt (ga r.1 (r.2.1 - 1)) (ga r.1 i) = false ∧ lt (ga r.1 i) (ga r.1 (r.2.1 - 1)) = false)
 | 0, p, k, q, hp, hq, hk, d, eq => ⟨hp, Nat.le_refl _, Nat.le_refl _, hq, d, eq⟩
 | f + 1, p, k, q, hp, hq, hk, d, eq => by
  refine ⟨hp.bd (by omega), hp.bd (by omega), ?_⟩
  have ext : ∀ p' : Array Nat, Dn lt p' k → (lt (ga p' (k - 1)) (ga p' k) = false) → Dn lt p' (k + 1) := fun p' d' c i j hij hj => by
   by_cases hjk : j < k
   ·exact d' i j hij hjk
   ·have e : j = k := by omega
    subst e
    by_cases hik : i = j
    ·subst hik; exact T.irr _
    ·exact T.tr _ _ _ c (d' i (j - 1) (by omega) (by omega))
  cases c : lt (p.getD k 0) (p.getD (k - 1) 0) with
  | true =>
   simp only [if_true]
   have c' : lt (ga p (k - 1)) (ga p k) = false := T.asy _ _ c
   have one : ∀ p' : Array Nat, ∀ i, k + 1 - (0 + 1) ≤ i → i < k + 1 → lt (ga p' (k + 1 - 1)) (ga p' i) = false ∧ lt (ga p' i) (ga p' (k + 1 - 1)) = false := fun p' i h1 h2 => by
    have e : i = k + 1 - 1 := by omega
    rw [e]; exact ⟨T.irr _, T.irr _⟩
   by_cases hq0 : q > 0
   ·rw [if_pos hq0]
    have hps := hp.size
    have gr := ga_rev (p := p) (i := k - (q + 1)) (j := k) (by omega)
    have eqv : ∀ i, i < k → lt (ga (kas_rev p (k - (q + 1)) k) i) (ga p i) = false ∧ lt (ga p i) (ga (kas_rev p (k - (q + 1)) k) i) = false := fun i hi => by
     rw [gr]
     split
     ·rename_i z
      have a := eq (k - (q + 1) + k - 1 - i) (by omega) (by omega)
      have b := eq i z.1 z.2
      exact ⟨T.tr _ _ _ b.1 a.2, T.tr _ _ _ a.1 b.2⟩
     ·exact ⟨T.irr _, T.irr _⟩
    have gk : ga (kas_rev p (k - (q + 1)) k) k = ga p k := by rw [gr, if_neg (by omega)]
    have dr : Dn lt (kas_rev p (k - (q + 1)) k) k := fun i j hij hj => T.tr _ _ _ (T.tr _ _ _ (eqv j hj).2 (d i j hij hj)) (eqv i (by omega)).1
    exact (gd_desc T f _ (k + 1) 0 (hp.rev _ _) (by omega) (by omega) (ext _ dr (by rw [gk]; exact T.tr _ _ _ c' (eqv (k - 1) (by omega)).1)) (one _)).mono fun r h => ⟨h.1, by omega, by omega, h.2.2.2⟩
   ·rw [if_neg hq0]
    exact (gd_desc T f _ (k + 1) 0 hp (by omega) (by omega) (ext _ d c') (one _)).mono fun r h => ⟨h.1, by omega, by omega, h.2.2.2⟩
  | false =>
   simp only [Bool.false_eq_true, if_false]
   refine ⟨hp.bd (by omega), hp.bd (by omega), ?_⟩
   cases e : lt (p.getD (k - 1) 0) (p.getD k 0) with
   | true => simp only [if_true]; exact ⟨hp, Nat.le_refl _, Nat.le_add_right _ _, hq, d, eq⟩
   | false =>
    simp only [Bool.false_eq_true, if_false]
    refine (gd_desc T f p (k + 1) (q + 1) hp (by omega) (by omega) (ext _ d e) fun i h1 h2 => ?_).mono fun r h => ⟨h.1, by omega, by omega, h.2.2.2⟩
    rw [Nat.add_sub_cancel]
    by_cases hik : i = k
    ·subst hik; exact ⟨T.irr _, T.irr _⟩
    ·have a := eq i (by omega) (by omega)
     exact ⟨T.tr _ _ _ a.1 c, T.tr _ _ _ e a.2⟩
theorem gd_tail3 (T : TPre lt) {p : Array Nat} {k : Nat} (hp : Pmn n p) (h1 : 1 ≤ k) (hk : k ≤ n) (d : Dn lt p k) : Gd n lt (kas_tail3 k n p) (fun r => Pmn n r.2 ∧ 1 ≤ r.1 ∧ r.1 ≤ n ∧ Up lt r.2 r.1) := by
 have hps := hp.size
 have gr := ga_rev (p := p) (i := 0) (j := k) (by omega)
 refine Gd.bind ((gd_asc T (hp.rev 0 k) (n - k) k h1 (by omega) fun i j hij hj => ?_).mono fun m h => ⟨hp.rev 0 k, by show 1 ≤ m; omega, by show m ≤ n; omega, h.2.2.1⟩)
 rw [gr, gr, if_pos (by omega), if_pos (by omega)]
 exact d _ _ (by omega) (by omega)
theorem gd_descPart (T : TPre lt) {p : Array Nat} {k : Nat} (hp : Pmn n p) (hk : k + 1 ≤ n) (d : Dn lt p (k + 1)) : Gd n lt (kas_descPart k n p) (fun r => Pmn n r.2 ∧ 1 ≤ r.1 ∧ r.1 ≤ n ∧ Up lt r.2 r.1) := by
 refine Gd.bind ((gd_desc T (n - (k + 1)) p (k + 1) 0 hp (by omega) (by omega) d fun i h1 h2 => ?_).mono fun r h => ?_)
 ·have e : i = k + 1 - 1 := by omega
  rw [e]; exact ⟨T.irr _, T.irr _⟩
 ·obtain ⟨p', m, q⟩ := r
  obtain ⟨hp', hm1, hm2, hq, d', eq⟩ := h
  dsimp only at *
  have hps := hp'.size
  split
  ·have gr := ga_rev (p := p') (i := m - (q + 1)) (j := m) (by omega)
   have eqv : ∀ i, i < m → lt (ga (kas_rev p' (m - (q + 1)) m) i) (ga p' i) = false ∧ lt (ga p' i) (ga (kas_rev p' (m - (q + 1)) m) i) = false := fun i hi => by
    rw [gr]
    split
    ·rename_i z
     have a := eq (m - (q + 1) + m - 1 - i) (by omega) (by omega)
     have b := eq i z.1 z.2
     exact ⟨T.tr _ _ _ b.1 a.2, T.tr _ _ _ a.1 b.2⟩
    ·exact ⟨T.irr _, T.irr _⟩
   exact gd_tail3 T (hp'.rev _ _) (by omega) (by omega) fun i j hij hj => T.tr _ _ _ (T.tr _ _ _ (eqv j hj).2 (d' i j hij hj)) (eqv i (by omega)).1
  ·exact gd_tail3 T hp' (by omega) (by omega) d'
theorem gd_count (T : TPre lt) {p : Array Nat} (hp : Pmn n p) (h1 : 1 ≤ n) : Gd n lt (kas_count n p) (fun r => Pmn n r.2 ∧ 1 ≤ r.1 ∧ r.1 ≤ n ∧ Up lt r.2 r.1) := by
 have hps := hp.size
 refine Gd.bind ((gd_asc T hp (n - 1) 1 (Nat.le_refl _) (by omega) fun i j hij hj => ?_).mono fun m h => ?_)
 ·have e : i = j := by omega
  rw [e]; exact T.irr _
 ·obtain ⟨hm1, hm2, u, z⟩ := h
  split
  ·exact ⟨hp, hm1, by omega, u⟩
  ·rename_i ne
   have hlt : m < n := by
    have : m ≠ n := fun q => ne (by rw [q]; exact beq_self_eq_true _)
    omega
   have zl := z (by omega)
   split
   ·rename_i m1
    refine ⟨hp.bd (by omega), hp.bd (by omega), ?_⟩
    cases c : lt (p.getD 0 0) (p.getD (m - 1) 0) with
    | true => simp only [if_true]; exact ⟨hp, hm1, by omega, u⟩
    | false =>
     simp only [Bool.false_eq_true, if_false]
     have gr := ga_rev (p := p) (i := 0) (j := m) (by omega)
     refine gd_descPart T (hp.rev 0 m) (by omega) fun i j hij hj => ?_
     have all : ∀ a b, a < m → b < m → lt (ga p a) (ga p b) = false := fun a b ha hb =>
      T.tr _ _ _ (u b (m - 1) (by omega) (by omega)) (T.tr _ _ _ c (u 0 a (by omega) ha))
     rw [gr, gr]
     by_cases hjm : j < m
     ·rw [if_pos (by omega), if_pos (by omega)]; exact all _ _ (by omega) (by omega)
     ·have e : j = m := by omega
      subst e
      rw [if_neg (show ¬ (0 ≤ j ∧ j < j) by omega)]
      by_cases hij' : i = j
      ·subst hij'; rw [if_neg (by omega)]; exact T.irr _
      ·rw [if_pos (by omega)]
       exact T.tr _ _ _ (T.asy _ _ zl) (all _ _ (by omega) (by omega))
   ·rename_i m1
    have e : m = 1 := by omega
    subst e
    refine gd_descPart T hp (by omega) fun i j hij hj => ?_
    by_cases hij' : i = j
    ·subst hij'; exact T.irr _
    ·have e1 : i = 0 := by omega
     have e2 : j = 1 := by omega
     subst e1 e2
     exact T.asy _ _ zl
theorem gd_place (T : TPre lt) {p : Array Nat} (hp : Pmn n p) {k : Nat} (hk : k < n) (u : Up lt p k) : ∀ (f l r : Nat), l ≤ r → r ≤ k → r - l ≤ f → (∀ i, i < l → lt (ga p k) (ga p i) = false) → (∀ i, r ≤ i → i < k → lt (ga p i) (ga p k) = false) →
  Gd n lt (kas_place p k f l r) (fun m => m ≤ k ∧ (∀ i, i < m → lt (ga p k) (ga p i) = false) ∧ ∀ i, m ≤ i → i < k → lt (ga p i) (ga p k) = false)
 | 0, l, r, h1, h2, h3, a, b => ⟨by omega, a, fun i hi => b i (by omega)⟩
 | f + 1, l, r, h1, h2, h3, a, b => by
  show Gd n lt (if l ≥ r then _ else _) _
  split
  ·exact ⟨by omega, a, fun i hi => b i (by omega)⟩
  ·refine ⟨hp.bd hk, hp.bd (by omega), ?_⟩
   cases c : lt (p.getD k 0) (p.getD ((l + r) / 2) 0) with
   | true =>
    simp only [if_true]
    refine gd_place T hp hk u f l ((l + r) / 2) (by omega) (by omega) (by omega) a fun i hi hik => ?_
    exact T.tr _ _ _ (T.asy _ _ c) (u ((l + r) / 2) i hi hik)
   | false =>
    simp only [Bool.false_eq_true, if_false]
    refine gd_place T hp hk u f ((l + r) / 2 + 1) r (by omega) (by omega) (by omega) (fun i hi => ?_) b
    exact T.tr _ _ _ (u i ((l + r) / 2) (by omega) (by omega)) c
theorem gd_bin (T : TPre lt) : ∀ (f : Nat) (p : Array Nat) (k : Nat), Pmn n p → k + f = n → Up lt p k → Gd n lt (kas_bin f p k) (fun p' => Pmn n p' ∧ Up lt p' n)
 | 0, p, k, hp, hk, u => by
  have e : k = n := by omega
  subst e; exact ⟨hp, u⟩
 | f + 1, p, k, hp, hk, u => by
  have hps := hp.size
  refine Gd.bind ((gd_place T hp (by omega) u k 0 k (by omega) (by omega) (by omega) (fun i hi => by omega) (fun i h1 h2 => by omega)).mono fun l h => ?_)
  obtain ⟨hl, a, b⟩ := h
  have gb := ga_bub (p := p) (src := k) (d := k - l) (by omega) (by omega)
  refine gd_bin T f _ (k + 1) (hp.bub _ _) (by omega) fun i j hij hj => ?_
  rw [gb, gb]
  have el : k - (k - l) = l := by omega
  rw [el]
  by_cases e : i = j
  ·subst e; exact T.irr _
  by_cases hjl : j = l
  ·rw [if_pos hjl, if_neg (by omega), if_neg (by omega)]; exact a i (by omega)
  ·rw [if_neg hjl]
   by_cases hil : i = l
   ·rw [if_pos hil, if_pos (by omega)]; exact b (j - 1) (by omega) (by omega)
   ·rw [if_neg hil]
    by_cases h1 : l < j ∧ j ≤ k
    ·rw [if_pos h1]
     by_cases h2 : l < i ∧ i ≤ k
     ·rw [if_pos h2]; exact u _ _ (by omega) (by omega)
     ·rw [if_neg h2]; exact u _ _ (by omega) (by omega)
    ·rw [if_neg h1, if_neg (by omega)]; exact u _ _ hij (by omega)
theorem gd_sort (T : TPre lt) (h1 : 1 ≤ n) : Gd n lt (kas_sort n) (fun p => Pmn n p ∧ Up lt p n) := by
 refine Gd.bind ((gd_count T (p := List.toArray (List.range n)) (by unfold Pmn; simp) h1).mono fun r h => ?_)
 obtain ⟨hp, m1, m2, u⟩ := h
 split
 ·exact gd_bin T _ _ _ hp (by omega) (by rw [Nat.max_eq_left m1]; exact u)
 ·have e : r.1 = n := by omega
  exact ⟨hp, e ▸ u⟩
end
section
variable {prog : Program} {w : World} {A : Around} {E : Value → Shared → Prop} {s : Shared} {b fin : Bool} {Q : Bool → Shared → Prop}
theorem katlex_ints : ∀ {vs ws : List Value} {ns ms : List Int} (i : Nat), IntsAre vs ns → IntsAre ws ms → fin = decide (ns.length < ms.length) → Q (HT.lexLt ns ms) s → KatLex prog w A true fin Q (vs.zip ws) i s
 | _, _, _, _, i, .nil, .nil, hf, h => by rw [List.zip_nil_left]; refine kat_nil ?_; rw [hf]; exact h
 | _, _, _, _, i, .nil, .cons c u t, hf, h => by
  rw [List.zip_nil_left]; refine kat_nil ?_; rw [hf, decide_eq_true (by simp)]; exact h
 | _, _, _, _, i, .cons a t r, .nil, hf, h => by
  rw [List.zip_nil_right]; refine kat_nil ?_; rw [hf, decide_eq_false (by simp)]; exact h
 | _, _, _, _, i, .cons (ns := ns) a t r, .cons (ns := ms) c u r', hf, h => by
  rw [List.zip_cons_cons]
  rw [HT.lexLt_cons] at h
  refine kat_cons (wpAny_eqBool_int (kat_go (fun e => ?_) fun e => ?_))
  ·rw [if_pos (by simpa using e)] at h
   exact kat_yes (katlex_ints (i + 1) r r' (by rw [hf]; simp) h)
  ·rw [if_neg (by simpa using e)] at h
   refine kat_no ?_
   by_cases hi : i = 0
   ·subst hi
    show wpAny _ _ (oneLt' true _ _) _ _ _
    exact oneLt_int h
   ·have e0 : (true && i == 0) = false := by simpa using hi
    rw [e0]
    exact kat_one _ _ (PyProof.Rows.lt_int h)
def TupKey (h : Heap) (v : Value) (k : List Int) : Prop := ∃ a o xs m, v = .ref a ∧ h.get? a = some o ∧ o.cls = .type "tuple" ∧ o.data = .seq xs m ∧ IntsAre xs.toList k ∧ k ≠ []
theorem TupKey.keeps {h h' : Heap} {v : Value} {k : List Int} (t : TupKey h v k) (kp : ∀ a o, h.get? a = some o → h'.get? a = some o) : TupKey h' v k := by
 obtain ⟨a, o, xs, m, e, ho, r⟩ := t
 exact ⟨a, o, xs, m, e, kp _ _ ho, r⟩
theorem TupKey.lt {v u : Value} {k l : List Int} {C : Bool → Shared → Prop} {E : Value → Shared → Prop} (t : TupKey s.heap v k) (t' : TupKey s.heap u l) (h : C (HT.lexLt k l) s) : wpAny (model prog w) A (keyLt' (tuples' true) v u) C E s := by
 obtain ⟨a, o, xs, m, rfl, ho, _, hd, hi, _⟩ := t
 obtain ⟨a', o', xs', m', rfl, ho', _, hd', hi', _⟩ := t'
 have z1 : xs.size = k.length := by rw [← hi.length]; simp
 have z2 : xs'.size = l.length := by rw [← hi'.length]; simp
 exact kat_lt ho hd ho' hd' (katlex_ints 0 hi hi' (by rw [z1, z2]) h)
def TKs (h : Heap) : List Value → List (List Int) → Prop
 | [], [] => True
 | v :: vs, k :: ks => TupKey h v k ∧ TKs h vs ks
 | _, _ => False
theorem TKs.keeps {h h' : Heap} (kp : ∀ a o, h.get? a = some o → h'.get? a = some o) : ∀ {vs : List Value} {ks : List (List Int)}, TKs h vs ks → TKs h' vs ks
 | [], [], _ => trivial
 | [], _ :: _, t => t.elim
 | _ :: _, [], t => t.elim
 | v :: vs, k :: ks, t => ⟨t.1.keeps kp, TKs.keeps kp t.2⟩
theorem TKs.len {h : Heap} : ∀ {vs : List Value} {ks : List (List Int)}, TKs h vs ks → vs.length = ks.length
 | [], [], _ => rfl
 | [], _ :: _, t => t.elim
 | _ :: _, [], t => t.elim
 | v :: vs, k :: ks, t => by simp [t.2.len]
theorem TKs.at {h : Heap} : ∀ {vs : List Value} {ks : List (List Int)} (i : Nat), TKs h vs ks → i < vs.length → TupKey h (vs.getD i Value.none) (ks.getD i [])
 | [], _, i, _, hi => absurd hi (Nat.not_lt_zero _)
 | _ :: _, [], _, t, _ => t.elim
 | v :: vs, k :: ks, 0, t, _ => t.1
 | v :: vs, k :: ks, i + 1, t, hi => TKs.at (vs := vs) (ks := ks) i t.2 (by simpa using hi)
end
theorem bt_sorted : bootBuiltins "sorted" = some (.builtin "sorted") := by decide +kernel
theorem intsAre_map' : ∀ ps : List (Int × Tok), IntsAre (ps.map fun p => Value.int p.1 p.2) (ps.map (·.1))
 | [] => .nil
 | p :: ps => .cons p.1 p.2 (intsAre_map' ps)
namespace F'
end F'
open PySem PySem.Spec PyProof.Rows PySem.W
section
variable {prog : Program} {w : World} {A : Around} {E : Value → Shared → Prop} {s : Shared} {fin : Bool} {Q : Bool → Shared → Prop}
theorem katlex_pre {rs rs' : List Value} : ∀ {vs ws : List Value} {ns ms : List Int} (i : Nat), IntsAre vs ns → IntsAre ws ms → ns.length = ms.length → ns ≠ ms → Q (HT.lexLt ns ms) s → KatLex prog w A true fin Q ((vs ++ rs).zip (ws ++ rs')) i s
 | _, _, _, _, i, .nil, .nil, _, hn, _ => absurd rfl hn
 | _, _, _, _, i, .nil, .cons c u t, hf, _, _ => by simp at hf
 | _, _, _, _, i, .cons a t r, .nil, hf, _, _ => by simp at hf
 | _, _, _, _, i, .cons (ns := ns) a t r, .cons (ns := ms) c u r', hf, hn, h => by
  rw [List.cons_append, List.cons_append, List.zip_cons_cons]
  rw [HT.lexLt_cons] at h
  refine kat_cons (wpAny_eqBool_int (kat_go (fun e => ?_) fun e => ?_))
  ·have e' : a = c := by simpa using e
   rw [if_pos e'] at h
   exact kat_yes (katlex_pre (i + 1) r r' (by simpa using hf) (fun z => hn (by rw [e', z])) h)
  ·rw [if_neg (by simpa using e)] at h
   refine kat_no ?_
   by_cases hi : i = 0
   ·subst hi
    show wpAny _ _ (oneLt' true _ _) _ _ _
    exact oneLt_int h
   ·have e0 : (true && i == 0) = false := by simpa using hi
    rw [e0]
    exact kat_one _ _ (PyProof.Rows.lt_int h)
def TupPre (h : Heap) (v : Value) (k : List Int) : Prop := ∃ a o xs m vs rs, v = .ref a ∧ h.get? a = some o ∧ o.cls = .type "tuple" ∧ o.data = .seq xs m ∧ xs.toList = vs ++ rs ∧ IntsAre vs k ∧ k ≠ [] ∧ ∀ u ∈ xs.toList, (u == u) = true
theorem TupPre.keeps {h h' : Heap} {v : Value} {k : List Int} (t : TupPre h v k) (kp : ∀ a o, h.get? a = some o → h'.get? a = some o) : TupPre h' v k := by
 obtain ⟨a, o, xs, m, vs, rs, e, ho, r⟩ := t
 exact ⟨a, o, xs, m, vs, rs, e, kp _ _ ho, r⟩
theorem TupPre.lt {v u : Value} {k l : List Int} {C : Bool → Shared → Prop} (t : TupPre s.heap v k) (t' : TupPre s.heap u l) (hl : k.length = l.length) (hn : k ≠ l) (h : C (HT.lexLt k l) s) : wpAny (model prog w) A (keyLt' (tuples' true) v u) C E s := by
 obtain ⟨a, o, xs, m, vs, rs, rfl, ho, _, hd, hx, hi, _⟩ := t
 obtain ⟨a', o', xs', m', vs', rs', rfl, ho', _, hd', hx', hi', _⟩ := t'
 refine kat_lt ho hd ho' hd' ?_
 rw [hx, hx']
 exact katlex_pre 0 hi hi' hl hn h
def TPs (h : Heap) : List Value → List (List Int) → Prop
 | [], [] => True
 | v :: vs, k :: ks => TupPre h v k ∧ TPs h vs ks
 | _, _ => False
theorem TPs.keeps {h h' : Heap} (kp : ∀ a o, h.get? a = some o → h'.get? a = some o) : ∀ {vs : List Value} {ks : List (List Int)}, TPs h vs ks → TPs h' vs ks
 | [], [], _ => trivial
 | [], _ :: _, t => t.elim
 | _ :: _, [], t => t.elim
 | v :: vs, k :: ks, t => ⟨t.1.keeps kp, TPs.keeps kp t.2⟩
theorem TPs.at {h : Heap} : ∀ {vs : List Value} {ks : List (List Int)} (i : Nat), TPs h vs ks → i < vs.length → TupPre h (vs.getD i Value.none) (ks.getD i [])
 | [], _, i, _, hi => absurd hi (Nat.not_lt_zero _)
 | _ :: _, [], _, t, _ => t.elim
 | v :: vs, k :: ks, 0, t, _ => t.1
 | v :: vs, k :: ks, i + 1, t, hi => TPs.at (vs := vs) (ks := ks) i t.2 (by simpa using hi)
end
theorem codeAmong_app {pos : Pos} {a b : Int} {c cv : Value} (l : List Value) (h : TriplesOk l) (e : codeAmong pos (l ++ [rawInt a, rawInt b, c]) = some cv) : codeAmong pos l = some cv ∨ cv = c := by
 fun_induction TriplesOk l with
 | case1 =>
  simp only [List.nil_append, codeAmong, rawInt] at e
  split at e
  ·exact .inr (Option.some.inj e).symm
  ·cases e
 | case2 a t b u x rest ih =>
  simp only [List.cons_append, codeAmong] at e ⊢
  split at e
  ·exact .inl (by rename_i z; rw [if_pos z]; exact e)
  ·rename_i z; rw [if_neg z]; exact ih h e
 | case3 => exact h.elim
def CodeQ (oc : Obj) (q : Str) : Prop := ∃ vs t, oc.data = .fields vs ∧ vs[1]? = some (.str q t)
section
variable {X : Cx} {pins : List (Addr × Obj)} {σ : St} {H : Hp} {s : Shared} {params : Arguments} {body : Expr} {scope : Scope} {lpos : Pos} {c P : Addr} {q : Str} {tq : Tok} {qs : Array Value} {Q : Value → Shared → Prop} {E : Value → Shared → Prop}
theorem Inv.grown {h' : Heap} {tk : Nat} {c' : Addr} {oc : Obj} {ps : Array Value} {a b : Int} (I : Inv X pins σ H s) (hT : H P = some (.tbl qs)) (hqs : qs[0]? = some (Value.str q tq)) (eP : s.heap.get? P = some (tabObj ps)) (tr : TriplesOk ps.toList)
  (al : ∀ pos cv, codeAmong pos ps.toList = some cv → ∃ c oc u, cv = Value.ref c ∧ H c = some (.frz oc u) ∧ ∃ vs q' t t2, oc.data = .fields vs ∧ vs[1]? = some (Value.str q' t2) ∧ qs[0]? = some (Value.str q' t))
  (hx : Heap.ExtBut P s.heap h') (hge : s.heap.objs.size ≤ c') (hoc : h'.get? c' = some oc) (hq : CodeQ oc q) (htb : h'.get? P = some (tabObj (ps ++ #[rawInt a, rawInt b, .ref c']))) :
  Inv X pins σ (upd H c' (.frz oc (.own c'))) { s with heap := h', toks := tk } := by
 have hn : H c' = none := I.hok.fresh hge
 have neP : ∀ b', H b' = none → b' ≠ P := fun b' n z => by rw [z, hT] at n; cases n
 refine I.un (t' := tk) ⟨fun b o e n _ _ => hx b o (neP b n) e, fun b o e n _ _ => ⟨o.slots, hx b o (neP b n) e⟩, fun b o e n _ => by rw [upd_ne (Nat.ne_of_lt (Nat.lt_of_lt_of_le (Heap.lt_size e) hge))]; exact n, fun b o e _ => ?_, fun b xs e => by rw [upd_ne (ne_of_none e hn)]; exact e, fun b o u e => by rw [upd_ne (ne_of_none e hn)]; exact e, fun b qs e => ⟨#[], by rw [upd_ne (ne_of_none e hn), e]; simp⟩⟩ fun b u e => ?_
 ·by_cases z : b = P
  ·rw [z]; exact ⟨_, htb⟩
  ·exact ⟨o, hx b o z e⟩
 ·by_cases z : b = c'
  ·subst z
   rw [upd_same] at e; cases e
   exact ⟨hoc, oc, hoc⟩
  ·rw [upd_ne z] at e
   by_cases y : b = P
   ·subst y
    rw [hT] at e; cases e
    refine ⟨_, htb, by rw [Array.toList_append]; exact TriplesOk_snoc _ _ _ _ tr, fun pos cv e => ?_⟩
    rw [Array.toList_append] at e
    rcases codeAmong_app _ tr e with e | rfl
    ·obtain ⟨c, o, u, e1, e2, r⟩ := al pos cv e
     exact ⟨c, o, u, e1, by rw [upd_ne (ne_of_none e2 hn)]; exact e2, r⟩
    ·obtain ⟨vs, t, d1, d2⟩ := hq
     exact ⟨c', oc, .own c', rfl, upd_same, vs, q, tq, t, d1, d2, hqs⟩
   ·refine (I.hok b u e).stay (fun d v hd r => hx d v ?_ r) (fun d r => by rw [upd_ne (ne_of_none r hn)]; exact r) (fun d xs r => by rw [upd_ne (ne_of_none r hn)]; exact r) fun d o u r => by rw [upd_ne (ne_of_none r hn)]; exact r
    rcases hd with rfl | hd
    ·exact y
    ·intro z; rw [z, hT] at hd; cases hd
end
section
variable {X : Cx} {pins : List (Addr × Obj)} {σ : St} {H : Hp} {s : Shared} {A' : Around} {E : Value → Shared → Prop}
theorem FpOk.to {H' : Hp} {b : Addr} (f : FpOk X pins H b) (n : H' b = none) : FpOk X pins H' b := ⟨n, f.2⟩
end
def TbAt (P : Addr) (q : Str) (H : Hp) : Prop := ∃ (qs : Array Value) (t : Tok), H P = some (.tbl qs) ∧ qs[0]? = some (Value.str q t)
theorem TbAt.now {P : Addr} {q : Str} {fs ex : List Addr} {H H' : Hp} {h h' : Heap} (t : TbAt P q H) (u : Un fs ex H H' h h') : TbAt P q H' := by
 obtain ⟨qs, t, e, e2⟩ := t
 obtain ⟨more, e3⟩ := u.tbls _ _ e
 refine ⟨_, t, e3, ?_⟩
 have h0 : 0 < qs.size := by
  by_cases z : 0 < qs.size
  ·exact z
  ·rw [Array.getElem?_eq_none (by omega)] at e2; cases e2
 rw [Array.getElem?_append_left h0]; exact e2
def TbAll (TB : List (Addr × Str)) (H : Hp) : Prop := ∀ P q, TB.lookup P = some q → TbAt P q H
theorem TbAll.now {TB : List (Addr × Str)} {fs ex : List Addr} {H H' : Hp} {h h' : Heap} (t : TbAll TB H) (u : Un fs ex H H' h h') : TbAll TB H' := fun P q e => (t P q e).now u
end L2
namespace HT
open PySem PyProof.Rows
end HT
namespace L2
open PySem PySem.Spec PyProof.Rows
open PySem.W
def Rise (a : Array Nat) : Prop := a.toList.Pairwise (· < ·)
theorem Rise.lt {a : Array Nat} (h : Rise a) {i j : Nat} (hij : i < j) (hj : j < a.size) : a.getD i 0 < a.getD j 0 := by
 have hi : i < a.size := Nat.lt_trans hij hj
 have := List.pairwise_iff_getElem.mp h i j (by simpa using hi) (by simpa using hj) hij
 simpa [Array.getD, hi, hj] using this
theorem below_go (xs : Array Nat) (j : Nat) (hr : Rise xs) : ∀ (fuel lo hi : Nat), hi - lo ≤ fuel → lo ≤ hi → hi ≤ xs.size → (∀ i, i < lo → xs.getD i 0 < j) → (∀ i, hi ≤ i → i < xs.size → j ≤ xs.getD i 0) →
  SetTable.below.go xs j fuel lo hi ≤ xs.size ∧ (∀ i, i < SetTable.below.go xs j fuel lo hi → xs.getD i 0 < j) ∧ (∀ i, SetTable.below.go xs j fuel lo hi ≤ i → i < xs.size → j ≤ xs.getD i 0)
 | 0, lo, hi, hf, hl, hs, h1, h2 => by
  rw [SetTable.below.go.eq_def]
  exact ⟨by show lo ≤ _; omega, h1, fun i hi' hi2 => h2 i (by have : lo ≤ i := hi'; omega) hi2⟩
 | fuel + 1, lo, hi, hf, hl, hs, h1, h2 => by
  rw [SetTable.below.go.eq_def]
  show (if lo < hi then (if xs.getD ((lo + hi) / 2) j < j then SetTable.below.go xs j fuel ((lo + hi) / 2 + 1) hi else SetTable.below.go xs j fuel lo ((lo + hi) / 2)) else lo) ≤ xs.size ∧ (∀ i, i < (if lo < hi then (if xs.getD ((lo + hi) / 2) j < j then SetTable.below.go xs j fuel ((lo + hi) / 2 + 1) hi else SetTable.below.go xs j fuel lo ((lo + hi) / 2)) else lo) → xs.getD i 0 < j) ∧ (∀ i, (if lo < hi then (if xs.getD ((lo + hi) / 2) j < j then SetTable.below.go xs j fuel ((lo + hi) / 2 + 1) hi else SetTable.below.go xs j fuel lo ((lo + hi) / 2)) else lo) ≤ i → i < xs.size → j ≤ xs.getD i 0)
  by_cases c : lo < hi
  ·rw [if_pos c]
   have hm : (lo + hi) / 2 < xs.size := by omega
   have e : xs.getD ((lo + hi) / 2) j = xs.getD ((lo + hi) / 2) 0 := by simp [Array.getD, hm]
   by_cases c2 : xs.getD ((lo + hi) / 2) j < j
   ·rw [if_pos c2]
    refine below_go xs j hr fuel _ hi (by omega) (by omega) hs (fun i hi' => ?_) h2
    by_cases z : i = (lo + hi) / 2
    ·rw [z, ← e]; exact c2
    ·have := hr.lt (i := i) (j := (lo + hi) / 2) (by omega) hm
     omega
   ·rw [if_neg c2]
    refine below_go xs j hr fuel lo _ (by omega) (by omega) (by omega) h1 (fun i hi' hi2 => ?_)
    by_cases z : i = (lo + hi) / 2
    ·rw [z, ← e]; omega
    ·have := hr.lt (i := (lo + hi) / 2) (j := i) (by omega) hi2
     omega
  ·rw [if_neg c]
   exact ⟨by omega, h1, fun i hi' hi2 => h2 i (by omega) hi2⟩
theorem below_ok {xs : Array Nat} (j : Nat) (hr : Rise xs) : SetTable.below xs j ≤ xs.size ∧ (∀ i, i < SetTable.below xs j → xs.getD i 0 < j) ∧ (∀ i, SetTable.below xs j ≤ i → i < xs.size → j ≤ xs.getD i 0) :=
 below_go xs j hr xs.size 0 xs.size (by omega) (by omega) (Nat.le_refl _) (fun i h => by omega) (fun i h h2 => by omega)
theorem below_is {xs : Array Nat} {j p : Nat} (hr : Rise xs) (hp : p ≤ xs.size) (h1 : ∀ i, i < p → xs.getD i 0 < j) (h2 : ∀ i, p ≤ i → i < xs.size → j ≤ xs.getD i 0) : SetTable.below xs j = p := by
 obtain ⟨a, b, c⟩ := below_ok j hr
 by_cases z : SetTable.below xs j < p
 ·have := h1 _ z
  have := c _ (Nat.le_refl _) (by omega)
  omega
 ·by_cases z2 : p < SetTable.below xs j
  ·have := b _ z2
   have := h2 _ (Nat.le_refl _) (by omega)
   omega
  ·omega
theorem rise_put {t : SetTable} {j : Nat} (hr : Rise t.place) (hj : (t.place[SetTable.below t.place j]? == some j) = false) : Rise (t.put j).1.place := by
 obtain ⟨a, b, c⟩ := below_ok j hr
 show (SetTable.insertAt t.place (SetTable.below t.place j) j).toList.Pairwise (· < ·)
 rw [SetTable.toList_insertAt, List.pairwise_append]
 have hn : ∀ i, SetTable.below t.place j ≤ i → i < t.place.size → j < t.place.getD i 0 := by
  intro i h1 h2
  have h3 := c i h1 h2
  by_cases z : t.place.getD i 0 = j
  ·exfalso
   have : i = SetTable.below t.place j := by
    by_cases q : SetTable.below t.place j < i
    ·have := hr.lt q h2
     have := c (SetTable.below t.place j) (Nat.le_refl _) (by omega)
     omega
    ·omega
   rw [← this] at hj
   have e : t.place[i]? = some j := by rw [Array.getElem?_eq_getElem h2]; congr 1; simpa [Array.getD, h2] using z
   rw [e] at hj
   simp at hj
  ·omega
 have mt : ∀ x ∈ t.place.toList.take (SetTable.below t.place j), x < j := by
  intro x hx
  obtain ⟨i, hi, e⟩ := List.getElem_of_mem hx
  rw [List.length_take] at hi
  rw [List.getElem_take] at e
  have hi3 : t.place.toList.length = t.place.size := by simp
  have hi2 : i < t.place.size := by omega
  have := b i (by omega)
  simp [Array.getD, hi2] at this
  simp at e
  omega
 have md : ∀ x ∈ t.place.toList.drop (SetTable.below t.place j), j < x := by
  intro x hx
  obtain ⟨i, hi, e⟩ := List.getElem_of_mem hx
  rw [List.length_drop] at hi
  rw [List.getElem_drop] at e
  have hi3 : t.place.toList.length = t.place.size := by simp
  have hi2 : SetTable.below t.place j + i < t.place.size := by omega
  have := hn (SetTable.below t.place j + i) (by omega) hi2
  simp [Array.getD, hi2] at this
  simp at e
  omega
 refine ⟨List.Pairwise.sublist (List.take_sublist _ _) hr, List.pairwise_cons.mpr ⟨md, List.Pairwise.sublist (List.drop_sublist _ _) hr⟩, fun x hx y hy => ?_⟩
 rcases List.mem_cons.mp hy with rfl | hy
 ·exact mt x hx
 ·have := mt x hx
  have := md y hy
  omega
structure TbR (led : Bool) (t : SetTable) : Prop where
 rise : Rise t.place
 dum : t.dummies = #[]
 led : t.led = led
theorem TbR.standIn {led : Bool} {t : SetTable} (T : TbR led t) (n : Nat) : TbR led (t.standIn n) := by
 refine ⟨?_, rfl, T.led⟩
 show (Array.range n).toList.Pairwise (· < ·)
 rw [Array.toList_range]
 exact List.pairwise_lt_range
theorem TbR.orStandIn {led : Bool} {t : SetTable} (T : TbR led t) (n : Nat) : TbR led (t.orStandIn n) := by
 unfold SetTable.orStandIn
 split
 ·exact T
 ·exact T.standIn n
theorem has_nil (j : Nat) : SetTable.has #[] j = false := by
 unfold SetTable.has
 simp
theorem probe_go {t : SetTable} (hd : t.dummies = #[]) (ha : Nat → Int) (h : Int) : ∀ (fuel : Nat) (p : SetTable.Probe), p.dummy = none → ∀ j d, SetTable.probe.go t ha h fuel p = some (.empty j d) → d = none ∧ (t.place[SetTable.below t.place j]? == some j) = false
 | 0, p, _, j, d, e => by rw [SetTable.probe.go.eq_def] at e; cases e
 | fuel + 1, p, hp, j, d, e => by
  rw [SetTable.probe.go.eq_def] at e
  have adv : (t.advance p).dummy = none := by
   unfold SetTable.advance
   split
   ·exact hp
   ·exact hp
  have e : (match t.slot p.j with
   | SetTable.Slot.empty => some (SetTable.Met.empty p.j p.dummy)
   | SetTable.Slot.dummy => SetTable.probe.go t ha h fuel (t.advance { j := p.j, more := p.more, i := p.i, perturb := p.perturb, dummy := some p.j })
   | SetTable.Slot.live i => if (ha i == h) = true then some (SetTable.Met.candidate p.j i (t.advance p)) else SetTable.probe.go t ha h fuel (t.advance p)) = some (.empty j d) := e
  split at e
  ·rename_i hs
   injection e with e
   injection e with e1 e2
   subst e1
   refine ⟨by rw [← e2]; exact hp, ?_⟩
   unfold SetTable.slot at hs
   by_cases z : (t.place[SetTable.below t.place p.j]? == some p.j) = true
   ·rw [if_pos z] at hs; cases hs
   ·simpa using z
  ·rename_i hs
   exfalso
   unfold SetTable.slot at hs
   rw [hd, has_nil] at hs
   by_cases z : (t.place[SetTable.below t.place p.j]? == some p.j) = true
   ·rw [if_pos z] at hs; cases hs
   ·rw [if_neg z, if_neg (by decide)] at hs; cases hs
  ·split at e
   ·cases e
   ·exact probe_go hd ha h fuel _ adv j d e
theorem layNew_tb {led : Bool} {t : SetTable} (T : TbR led t) (es : Array (Int × Value)) (h : Int) (x : Value) : TbR led (layNew t es h x).2.1 := by
 unfold layNew
 cases e : t.freeSlot h with
 | none => exact T.standIn _
 | some q =>
  obtain ⟨slot, wd⟩ := q
  show TbR led ((t.put slot).1.orStandIn _)
  refine TbR.orStandIn (t := (t.put slot).1) ⟨?_, ?_, T.led⟩ _
  ·unfold SetTable.freeSlot at e
   split at e
   ·rename_i j d hp
    obtain ⟨h1, h2⟩ := probe_go T.dum _ h _ (t.probeStart h) rfl j d hp
    subst h1
    injection e with e
    injection e with e1 e2
    have e1 : j = slot := e1
    subst e1
    exact rise_put T.rise h2
   ·cases e
  ·show (if SetTable.has t.dummies slot = true then _ else t.dummies) = #[]
   rw [T.dum, has_nil]
   rfl
theorem relayAll_tb {led : Bool} {t : SetTable} (T : TbR led t) (es : Array (Int × Value)) (wanted : Nat) : TbR led (relayAll t es wanted).2.1 := by
 unfold relayAll
 cases e : t.relaid (Array.map (fun x => x.fst) es) wanted with
 | none => exact T.standIn _
 | some q =>
  obtain ⟨t', order⟩ := q
  show TbR led (if _ then _ else _ : _ × _ × _).2.1
  split
  ·show TbR led t'
   unfold SetTable.relaid SetTable.laid at e
   cases e2 : SetTable.layClean (SetTable.sizeAbove wanted - 1) (Array.map (fun x => x.fst) es) with
   | none => rw [e2] at e; cases e
   | some owner =>
    rw [e2] at e
    have e := Option.some.inj e
    injection e with e1 e3
    rw [← e1]
    refine ⟨?_, rfl, T.led⟩
    show (List.map (fun x => x.fst) (List.filterMap (fun j => Option.map (fun x => (j, x)) (owner.getD j none)) (List.range (SetTable.sizeAbove wanted - 1 + 1)))).toArray.toList.Pairwise (· < ·)
    rw [List.toList_toArray, List.pairwise_map]
    refine List.Pairwise.filterMap _ (R := (· < ·)) ?_ List.pairwise_lt_range
    intro a b hab x hx y hy
    cases ea : owner.getD a none with
    | none => simp [ea] at hx
    | some u => cases eb : owner.getD b none with
     | none => simp [eb] at hy
     | some v =>
      simp [ea] at hx
      simp [eb] at hy
      subst hx; subst hy
      exact hab
  ·exact T.standIn _
def keyE (e : Int × Value) : Int := match e.2 with
 | .int k _ => k
 | _ => 0
def IsI (e : Int × Value) : Prop := ∃ k t, e = (hashInt k, Value.int k t)
structure SetR (w : World) (h : Heap) (a : Addr) (L : List Int) : Prop where
 ex : ∃ o es ep t, h.get? a = some o ∧ o.ExactSet ∧ o.data = .set es ep t ∧ (∀ e ∈ es.toList, IsI e) ∧ (es.toList.map keyE).Nodup ∧ (∀ k, k ∈ es.toList.map keyE ↔ k ∈ L) ∧ es.size < scanBound ∧ t.fits es.size = true ∧ TbR (!w.params.followText "set-order") t
section
variable {prog : Program} {w : World} {A : Around} {E : Value → Shared → Prop} {s : Shared}
theorem isInt_int (k : Int) (t : Tok) : Value.isInt k (.int k t) = true := by simp [Value.isInt]
theorem isInt_iff {k j : Int} {t : Tok} : Value.isInt k (.int j t) = true ↔ j = k := by
 constructor
 ·intro h; simp [Value.isInt] at h; exact h
 ·rintro rfl; exact isInt_int _ _
theorem elems_of {es : List (Int × Value)} (h : ∀ e ∈ es, IsI e) : ElemsOf (intKind prog w) es := by
 intro e he
 obtain ⟨k, t, rfl⟩ := h e he
 exact ⟨⟨k, isInt_int k t, rfl⟩, rfl⟩
theorem find_in {es : List (Int × Value)} (h : ∀ e ∈ es, IsI e) (k : Int) : (∃ j, List.findIdx? (fun e => Value.isInt k e.snd) es = some j ∧ k ∈ es.map keyE) ∨ (List.findIdx? (fun e => Value.isInt k e.snd) es = none ∧ k ∉ es.map keyE) := by
 have hi : ∀ e ∈ es, (Value.isInt k e.snd = true ↔ keyE e = k) := by
  intro e he
  obtain ⟨j, t, rfl⟩ := h e he
  exact isInt_iff
 cases e : List.findIdx? (fun e => Value.isInt k e.snd) es with
 | none =>
  refine .inr ⟨rfl, fun m => ?_⟩
  obtain ⟨x, hx, hk⟩ := List.mem_map.mp m
  rw [List.findIdx?_eq_none_iff] at e
  have := e x hx
  rw [(hi x hx).mpr hk] at this
  cases this
 | some j =>
  refine .inl ⟨j, rfl, ?_⟩
  rw [List.findIdx?_eq_some_iff_getElem] at e
  obtain ⟨h1, h2, _⟩ := e
  exact List.mem_map.mpr ⟨es[j], List.getElem_mem h1, (hi _ (List.getElem_mem h1)).mp h2⟩
theorem get_store (prog : Program) (w : World) {h : Heap} {a : Addr} {o : Obj} {es es' : Array (Int × Value)} {ep : Nat} {t t' : SetTable} (ho : h.get? a = some o) (hx : o.ExactSet) (hd : o.data = .set es ep t) (hI : ∀ e ∈ es'.toList, IsI e) (hs : es'.size < scanBound) (hf : t'.fits es'.size = true) :
  (h.update a (Obj.putSet es' t')).get? a = some { cls := o.cls, dict := o.dict, data := .set es' (ep + 1) t', slots := o.slots } := by
 classical
 exact (SetOf_store (knd := intKind prog w) ho hx hd (S' := fun k => decide (∃ e, e ∈ es'.toList ∧ (intKind prog w).is k e.snd = true)) (elems_of hI) (fun k => decide_eq_true_iff) hs hf).1
theorem add_tail {g : Bool → Sem Unit} (hg : ∀ b s₁ (Q' : Unit → Shared → Prop), Q' () s₁ → wpAny (model prog w) A (g b) Q' E s₁) {a : Addr} {L : List Int} {k : Int} {u : Tok} {o : Obj} {es es1 : Array (Int × Value)} {ep : Nat} {t t1 : SetTable} {wd gave : Bool} {R : Option Bool → Shared → Prop}
  (ho : s.heap.get? a = some o) (hx : o.ExactSet) (hd : o.data = .set es ep t) (hI1 : ∀ e ∈ es1.toList, IsI e) (hN1 : (es1.toList.map keyE).Nodup) (hL1 : ∀ k', k' ∈ es1.toList.map keyE ↔ k' ∈ L) (hs1 : es1.size < scanBound) (hfit : t1.fits es1.size = true) (T1 : TbR (!w.params.followText "set-order") t1)
  (fin1 : ∀ h1, Heap.SameBut a s.heap h1 → SetR w h1 a L → R (some true) { s with heap := h1 }) :
  wpAny (model prog w) A (do
   g gave
   if t1.plain = true then do
    let byValue ← hashByValue 8 (.int k u)
    storeSet a es1 (if byValue = true then t1 else { t1 with plain := false })
    if (!wd && (if byValue = true then t1 else { t1 with plain := false }).tooFull) = true then do
     g (relayAll (if byValue = true then t1 else { t1 with plain := false }) es1 (SetTable.grown es1.size)).2.2
     storeSet a (relayAll (if byValue = true then t1 else { t1 with plain := false }) es1 (SetTable.grown es1.size)).1 (relayAll (if byValue = true then t1 else { t1 with plain := false }) es1 (SetTable.grown es1.size)).2.1
     pure (some true)
    else pure (some true)
   else do
    let byValue ← pure true
    storeSet a es1 (if byValue = true then t1 else { t1 with plain := false })
    if (!wd && (if byValue = true then t1 else { t1 with plain := false }).tooFull) = true then do
     g (relayAll (if byValue = true then t1 else { t1 with plain := false }) es1 (SetTable.grown es1.size)).2.2
     storeSet a (relayAll (if byValue = true then t1 else { t1 with plain := false }) es1 (SetTable.grown es1.size)).1 (relayAll (if byValue = true then t1 else { t1 with plain := false }) es1 (SetTable.grown es1.size)).2.1
     pure (some true)
    else pure (some true)) R E s := by
 have hsl : es1.size ≤ sizeLine := fits_of_scanBound hs1
 have rest : wpAny (model prog w) A (do
    storeSet a es1 t1
    if (!wd && t1.tooFull) = true then do
     g (relayAll t1 es1 (SetTable.grown es1.size)).2.2
     storeSet a (relayAll t1 es1 (SetTable.grown es1.size)).1 (relayAll t1 es1 (SetTable.grown es1.size)).2.1
     pure (some true)
    else pure (some true)) R E s := by
  refine wpAny_bind (wpAny_storeSet_of ho hd ?_ hsl)
  have g1 := get_store prog w ho hx hd hI1 hs1 hfit
  have x1 : (Obj.mk o.cls o.dict (.set es1 (ep + 1) t1) o.slots).ExactSet := hx
  have sm1 := Heap.SameBut.update s.heap a (Obj.putSet es1 t1)
  by_cases c : (!wd && t1.tooFull) = true
  ·rw [if_pos c]
   have hp2 := relayAll_perm t1 es1 (SetTable.grown es1.size)
   have hf2 := relayAll_fits t1 es1 (SetTable.grown es1.size)
   have T2 := relayAll_tb T1 es1 (SetTable.grown es1.size)
   generalize relayAll t1 es1 (SetTable.grown es1.size) = q2 at *
   obtain ⟨es2, t2, gave2⟩ := q2
   have hp2 : es2.toList.Perm es1.toList := hp2
   have hI2 : ∀ e ∈ es2.toList, IsI e := fun e he => hI1 e (hp2.mem_iff.mp he)
   have hz2 : es2.size = es1.size := by have := hp2.length_eq; simpa using this
   have hpk2 := hp2.map keyE
   refine wpAny_bind (hg _ _ _ ?_)
   refine wpAny_bind (wpAny_storeSet_of g1 rfl ?_ (by show es2.size ≤ _; rw [hz2]; exact hsl))
   refine wpAny_pure ?_
   have g2 := get_store prog w g1 x1 rfl hI2 (by rw [hz2]; exact hs1) hf2
   have sm2 := Heap.SameBut.update (s.heap.update a (Obj.putSet es1 t1)) a (Obj.putSet es2 t2)
   exact fin1 _ ⟨sm2.1.trans sm1.1, fun b hb => (sm2.2 b hb).trans (sm1.2 b hb)⟩ ⟨_, es2, _, t2, g2, x1, rfl, hI2, hpk2.nodup_iff.mpr hN1, fun k' => (hpk2.mem_iff).trans (hL1 k'), by rw [hz2]; exact hs1, hf2, T2⟩
  ·rw [if_neg c]
   exact wpAny_pure (fin1 _ sm1 ⟨_, es1, _, t1, g1, x1, rfl, hI1, hN1, hL1, hs1, hfit, T1⟩)
 refine wpAny_bind (hg _ _ _ ?_)
 split
 ·refine wpAny_bind ?_
  rw [hashByValue.eq_3 8 k u]
  exact wpAny_pure rest
 ·exact wpAny_bind (wpAny_pure rest)
theorem add_R {a : Addr} {L : List Int} {k : Int} {u : Tok} {Q : Bool → Shared → Prop} (S : SetR w s.heap a L) (hn : ∀ es : List Int, es.Nodup → (∀ k, k ∈ es ↔ k ∈ L) → es.length + 1 < scanBound)
  (h : ∀ h' b, Heap.SameBut a s.heap h' → SetR w h' a (L ++ [k]) → Q b { s with heap := h' }) : wpAny (model prog w) A (setAddHashed a (.int k u) (hashInt k)) Q E s := by
 obtain ⟨o, es, ep, t, ho, hx, hd, hI, hN, hL, hs, hf, T⟩ := S.ex
 have hlen : es.size + 1 < scanBound := by
  have := hn _ hN hL
  simpa using this
 unfold setAddHashed
 refine wpAny_holding ?_
 rw [setAddHashedIn.eq_def]
 show wpAny _ _ (setState a >>= _) _ _ _
 refine wpAny_bind (wpAny_setState_of ho hd hf ?_)
 show wpAny _ _ (if byScan (.int k u) es = true then _ else _) _ _ _
 rw [if_pos (byScan_of (knd := intKind prog w) rfl hs (elems_of hI))]
 refine wpAny_bind ?_
 unfold setAddByScan
 refine wpAny_bind (wpAny_rule ?_)
 refine wpAny_bind (wpAny_setScan_of (knd := intKind prog w) (k := k) (isInt_int k u) ho hd hf (elems_of hI) ?_)
 have hsame : Heap.SameBut a s.heap s.heap := ⟨rfl, fun b _ => rfl⟩
 rcases find_in hI k with ⟨j, e, m⟩ | ⟨e, m⟩
 ·have e : List.findIdx? (fun e => (intKind prog w).is k e.snd) es.toList = some j := e
  rw [e]
  show wpAny _ _ (pure (some false)) _ _ _
  refine wpAny_pure ?_
  show wpAny _ _ (pure false) _ _ _
  refine wpAny_pure ?_
  refine h s.heap false hsame ⟨o, es, ep, t, ho, hx, hd, hI, hN, fun k' => ?_, hs, hf, T⟩
  rw [hL k', List.mem_append, List.mem_singleton]
  constructor
  ·exact .inl
  ·rintro (z | rfl)
   ·exact z
   ·exact (hL _).mp m
 ·have e : List.findIdx? (fun e => (intKind prog w).is k e.snd) es.toList = none := e
  rw [e]
  have hp := layNew_perm t es (hashInt k) (.int k u)
  have hfit := layNew_fits t es (hashInt k) (.int k u)
  have T1 := layNew_tb T es (hashInt k) (.int k u)
  dsimp only
  generalize layNew t es (hashInt k) (.int k u) = q at *
  obtain ⟨es1, t1, wd, gave⟩ := q
  have hI1 : ∀ e ∈ es1.toList, IsI e := fun e he => by
   have := (hp.mem_iff (a := e)).mp he
   rw [Array.toList_push, List.mem_append, List.mem_singleton] at this
   rcases this with z | rfl
   ·exact hI e z
   ·exact ⟨k, u, rfl⟩
  have hpk : (es1.toList.map keyE).Perm (es.toList.map keyE ++ [k]) := by
   have := hp.map keyE
   rw [Array.toList_push, List.map_append] at this
   exact this
  have hN1 : (es1.toList.map keyE).Nodup := by
   rw [hpk.nodup_iff, List.nodup_append]
   exact ⟨hN, by simp, fun x hx y hy => by rw [List.mem_singleton.mp hy]; rintro rfl; exact m hx⟩
  have hL1 : ∀ k', k' ∈ es1.toList.map keyE ↔ k' ∈ L ++ [k] := fun k' => by
   rw [hpk.mem_iff, List.mem_append, List.mem_append, hL k']
  have hz : es1.size = es.size + 1 := by
   have := hp.length_eq
   simpa using this
  have hs1 : es1.size < scanBound := by omega
  refine add_tail (fun b s₁ Q' q => ?_) ho hx hd hI1 hN1 hL1 hs1 hfit T1 fun h1 sm z => wpAny_pure (h h1 true sm z)
  cases b with
  | true => exact wpAny_rule q
  | false => exact wpAny_pure q
end
theorem nodup_le : ∀ (es L : List Int), es.Nodup → (∀ x ∈ es, x ∈ L) → es.length ≤ L.length
 | [], L, _, _ => Nat.zero_le _
 | x :: es, L, h, m => by
  rw [List.nodup_cons] at h
  have hx := m x List.mem_cons_self
  have := nodup_le es (L.erase x) h.2 fun y hy => (List.mem_erase_of_ne (show y ≠ x from fun z => h.1 (by rw [← z]; exact hy))).mpr (m y (List.mem_cons_of_mem _ hy))
  rw [List.length_erase_of_mem hx] at this
  have : 0 < L.length := List.length_pos_of_mem hx
  rw [List.length_cons]
  omega
section
variable {prog : Program} {w : World} {A : Around} {E : Value → Shared → Prop} {s : Shared}
theorem SetR.frame {h h' : Heap} {a : Addr} {L : List Int} (S : SetR w h a L) (e : ∀ o, h.get? a = some o → h'.get? a = some o) : SetR w h' a L := by
 obtain ⟨o, es, ep, t, ho, r⟩ := S.ex
 exact ⟨o, es, ep, t, e o ho, r⟩
theorem setAdd_R {a : Addr} {L : List Int} {k : Int} {u : Tok} {Q : Bool → Shared → Prop} (S : SetR w s.heap a L) (hn : L.length + 1 < scanBound)
  (h : ∀ h' b, Heap.SameBut a s.heap h' → SetR w h' a (L ++ [k]) → Q b { s with heap := h', toks := s.toks + 1 }) : wpAny (model prog w) A (setAdd a (.int k u)) Q E s := by
 unfold setAdd
 refine wpAny_holding ?_
 refine wpAny_bind ((intKind prog w).pyHash (k := k) (isInt_int k u) ?_)
 refine add_R (s := { s with toks := s.toks + 1 }) S (fun es hN hL => ?_) h
 have := nodup_le es L hN fun x hx => (hL x).mp hx
 omega
theorem upd_loop {R : Result → Shared → Prop} {I : Addr} {fp wr : List Addr} {G : Array GenState → Array GenState → Prop} {n : Nat} {P : Nat → Value → Prop} {St : Nat → Shared → Prop} (W : WalksS prog w A.in1 I fp wr G n P St) (S : Addr) (hS : S ∉ fp) (val : Nat → Int) (hv : ∀ i v, P i v → ∃ t, v = Value.int (val i) t) (hn : n + 1 < scanBound) :
  ∀ (k i : Nat) (s : Shared), n - i = k → i ≤ n → St i s → SetR w s.heap S ((List.range i).map val) → (∀ s', Moved (S :: wr) G s s' → SetR w s'.heap S ((List.range n).map val) → R (.ok (.ret .none)) s') →
   codeAny (model prog w) A (.builtin "set.update.loop" ⟨[.ref S, .ref I], []⟩) R s := by
 intro k
 induction k with
 | zero =>
  intro i s hk hi st SR fin
  have e : i = n := by omega
  subst e
  refine codeAny_builtin F.entry_set_update_loop ?_
  rw [Around.under_plainId F.plain_set_update_loop _]
  show wpAny _ A.in1 (pyNext (.ref I) >>= _) _ _ _
  refine wpAny_bind (W.done s _ _ st fun s' mv => ?_)
  refine wpAny_pure (fin s' ⟨fun b o hb e => mv.heap b o (fun z => hb (List.mem_cons_of_mem _ z)) e, mv.gens, mv.drawn, mv.os, mv.toks⟩ (SR.frame fun o e => mv.heap S o (fun z => hS (W.sub S z)) e))
 | succ k ih =>
  intro i s hk hi st SR fin
  refine codeAny_builtin F.entry_set_update_loop ?_
  rw [Around.under_plainId F.plain_set_update_loop _]
  show wpAny _ A.in1 (pyNext (.ref I) >>= _) _ _ _
  refine wpAny_bind (W.item i s _ _ (by omega) st fun v s' pv st' mv => ?_)
  obtain ⟨t, rfl⟩ := hv i v pv
  refine wpAny_bind (wpAny_holding (setAdd_R (L := (List.range i).map val) (SR.frame fun o e => mv.heap S o (fun z => hS (W.sub S z)) e) (by rw [List.length_map, List.length_range]; omega) fun h' b sm SR' => ?_))
  refine wpAny_pure ⟨plainId_quiet F.plain_set_update_loop _, ih (i + 1) _ (by omega) (by omega) (W.frame (i + 1) s' h' (s'.toks + 1) st' (Nat.le_succ _) fun b hb o e => (sm.2 b (fun z => hS (z ▸ hb))).trans e) ?_ fun s'' mv2 SR2 => fin s'' ⟨fun b o hb e => ?_, W.gtrans _ _ _ mv.gens mv2.gens, mv2.drawn.trans mv.drawn, mv2.os.trans mv.os, Nat.le_trans mv.toks (Nat.le_trans (Nat.le_succ _) mv2.toks)⟩ SR2⟩
  ·rw [List.range_succ, List.map_append]
   exact SR'
  ·refine mv2.heap b o hb ((sm.2 b fun z => hb (z ▸ List.mem_cons_self)).trans (mv.heap b o (fun z => hb (List.mem_cons_of_mem _ z)) e))
theorem code_set_new_led (a : Value) {Q₁ : Value → Shared → Prop} (h : Q₁ (.ref s.heap.objs.size) { s with heap := s.heap.push { cls := .type "set", data := .set #[] 0 (SetTable.fresh 0 0 (!w.params.followText "set-order")) } }) :
  codeAny (model prog w) A (.call (.builtin "set.__new__") ⟨[.type "set", a], []⟩) (wants Q₁ E) s := by
 refine codeAny_call_builtin F.plain_set_new F.entry_set_new ?_
 rw [F.newCall_set_1 a]
 refine wpAny_pure ?_
 show wpAny _ _ (Builtin.Frozenset.newClass "set" ⟨[.type "set", a], []⟩ >>= _) _ _ _
 refine wpAny_bind ?_
 unfold Builtin.Frozenset.newClass
 dsimp only
 refine wpAny_bind (m := PySem.isType (.type "set")) (wpAny_pure ?_)
 rw [if_neg (by decide)]
 refine wpAny_bind ?_
 rw [sub_set_self]
 refine wpAny_pure ?_
 rw [if_neg (by decide)]
 refine wpAny_pure ?_
 refine wpAny_bind ?_
 show wpAny _ _ (newSet (.type "set")) _ _ _
 unfold newSet setsByText
 refine wpAny_bind ?_
 refine wpAny_bind (wpAny_askSetting ?_)
 refine wpAny_pure ?_
 refine wpAny_newObj_type ?_
 exact wpAny_pure h
theorem init_set_R {a l : Addr} {items : Array Value} {ns : List Int} {R : PySem.Fin → Shared → Prop} {E' : Value → Shared → Prop} (hh : A.handled = none) (hl : s.heap.IsList l items) (hi : IntsAre items.toList ns) (hn : items.size + 1 < scanBound) (hal : a ≠ l)
  (ho : s.heap.get? a = some { cls := .type "set", data := .set #[] 0 (SetTable.fresh 0 0 (!w.params.followText "set-order")) })
  (h : ∀ s', SetR w s'.heap a ns → (∀ b o, b ≠ a → s.heap.get? b = some o → s'.heap.get? b = some o) → s'.gens = s.gens → s'.drawn = s.drawn → s'.os = s.os → R (.done (.ret .none)) s') :
  wpAny (model prog w) A (Builtin.«set.__init__» ⟨[.ref a, .ref l], []⟩) R E' s := by
 have tset : s.TypeIs (.ref a) "set" := ⟨_, ho, rfl⟩
 have tlst : s.TypeIs (.ref l) "list" := by obtain ⟨o, h1, h2, _⟩ := hl; exact ⟨o, h1, h2⟩
 have hfit : (SetTable.fresh 0 0 (!w.params.followText "set-order")).fits (#[] : Array (Int × Value)).size = true := by
  show (SetTable.fits _ 0) = true
  rw [SetTable.fits.eq_1]
  rfl
 unfold Builtin.«set.__init__»
 refine wpAny_bind (m := noKeywords "set" _) (wpAny_pure ?_)
 dsimp only
 refine wpAny_bind ?_
 unfold typeNameOfCut shownTypeOf
 refine wpAny_bind ?_
 refine wpAny_bind (wpAny_typeOf tset ?_)
 rw [if_neg (by decide)]
 refine wpAny_pure ?_
 refine wpAny_pure ?_
 refine wpAny_bind (m := checkCount _ 0 1 _) (wpAny_pure ?_)
 refine wpAny_bind (m := Builtin.Frozenset.addrOf _) (wpAny_pure ?_)
 refine wpAny_bind ?_
 unfold setUsed
 refine wpAny_bind (wpAny_setState_of ho rfl hfit ?_)
 refine wpAny_pure ?_
 refine wpAny_ite_false rfl ?_
 refine wpAny_bind ?_
 unfold Builtin.Frozenset.updateFrom
 refine wpAny_bind ?_
 unfold Builtin.Frozenset.isAnySet
 refine wpAny_bind (wpAny_isInstance tlst F.sub_list_set ?_)
 show wpAny _ _ (PySem.isInstance (.ref l) (.type "frozenset")) _ _ _
 refine wpAny_isInstance tlst F.sub_list_frozenset ?_
 rw [if_neg (by decide)]
 refine wpAny_bind (wpAny_typeOf tlst ?_)
 rw [if_neg (by decide)]
 refine wpAny_bind (wpAny_pyIter_list hl ?_)
 refine wpAny_bind (wpAny_runValue ?_)
 have hI : s.heap.objs.size ≠ l := by
  obtain ⟨o, h1, _⟩ := hl
  exact Nat.ne_of_gt (Heap.lt_size h1)
 have hIa : s.heap.objs.size ≠ a := Nat.ne_of_gt (Heap.lt_size ho)
 have W := (Walks.list (prog := prog) (w := w) (A := A.in1) hh s.heap.objs.size l (Ne.symm hI) items).toS
 refine upd_loop W a (by simp [Ne.symm hIa, hal]) (fun i => ns.getD i 0) (fun i v e => hi.int_at i v (by simpa using e)) hn items.size 0 _ rfl (Nat.zero_le _) ⟨?_, ?_⟩ ?_ fun s' mv SR => ?_
 ·exact ⟨_, Heap.get?_push_size _ rfl, rfl, rfl⟩
 ·exact hl.push _
 ·refine ⟨_, #[], 0, _, Heap.get?_push_of_some _ ho, ⟨rfl, rfl, rfl⟩, rfl, fun e he => absurd he (by simp), by simp, fun k => by simp, by decide, hfit, ⟨by simp [SetTable.fresh, Rise], rfl, rfl⟩⟩
 ·refine wpAny_pure ?_
  refine wpAny_pure (h s' ?_ (fun b o hb e => mv.heap b o (by simp [hb]; exact Nat.ne_of_lt (Heap.lt_size e)) (Heap.get?_push_of_some _ e)) mv.gens mv.drawn mv.os)
  have e : (List.range items.size).map (fun i => ns.getD i 0) = ns := by
   have hlen : items.size = ns.length := by
    have : ∀ {vs : List Value} {ns : List Int}, IntsAre vs ns → vs.length = ns.length := by
     intro vs ns h
     induction h with
     | nil => rfl
     | cons n t _ ih => simp [ih]
    simpa using this hi
   rw [hlen]
   apply List.ext_getElem
   ·simp
   ·intro i h1 h2
    simp [h2]
  rw [← e]
  exact SR
theorem call_set_R {l : Addr} {items : Array Value} {ns : List Int} {Q : Value → Shared → Prop} (hh : A.handled = none) (hl : s.heap.IsList l items) (hi : IntsAre items.toList ns) (hn : items.size + 1 < scanBound)
  (h : ∀ s', SetR w s'.heap s.heap.objs.size ns → (∀ b o, s.heap.get? b = some o → s'.heap.get? b = some o) → s'.gens = s.gens → s'.drawn = s.drawn → s'.os = s.os → Q (.ref s.heap.objs.size) s') :
  wpAny (model prog w) A (call (.type "set") [.ref l]) Q E s := by
 have ho : (s.heap.push { cls := .type "set", data := .set #[] 0 (SetTable.fresh 0 0 (!w.params.followText "set-order")) }).get? s.heap.objs.size = some { cls := .type "set", data := .set #[] 0 (SetTable.fresh 0 0 (!w.params.followText "set-order")) } := Heap.get?_push_size _ rfl
 have hne : s.heap.objs.size ≠ l := by
  obtain ⟨o, h1, _⟩ := hl
  exact Nat.ne_of_gt (Heap.lt_size h1)
 refine wpAny_call (codeAny_of_tree ?_)
 show wpAny _ _ (pure (PySem.Fin.again (.builtin "type.__call__" ⟨[.type "set", .ref l], []⟩))) _ _ _
 refine wpAny_pure ⟨Code.quiet_builtin _ (by decide +kernel), codeAny_builtin F.entry_type_call ?_⟩
 rw [Around.under_plain (weight_type_call_type _ _ _) rfl]
 unfold Builtin.«type.__call__»
 dsimp only
 refine wpAny_ite_false (by decide) ?_
 refine wpAny_ite_false (by decide +kernel) ?_
 refine wpAny_bind (wpAny_of_eq (F.typeCall_set_1 _) ?_)
 obtain ⟨c, tl, e⟩ := F.called_set.mro
 refine wpAny_bind (wpAny_of_eq e ?_)
 refine wpAny_ite_false (by rfl) ?_
 refine wpAny_bind (wpAny_of_eq F.called_set.made ?_)
 dsimp only
 refine wpAny_bind (wpAny_pure ?_)
 refine wpAny_bind (wpAny_holding (wpAny_call (code_set_new_led (Q₁ := _) _ ?_)))
 refine wpAny_bind (wpAny_isInstance (T := "set") (U := "set") ⟨_, ho, rfl⟩ sub_set_self ?_)
 refine wpAny_ite_false (by rfl) ?_
 refine wpAny_bind (wpAny_holding (wpAny_callSpecial?_slot (T := "set") ⟨_, ho, rfl⟩ F.called_set.init (wpAny_call (codeAny_call_builtin F.called_set.init.plain F.entry_set_init (check_set_init_1 ⟨_, ho, rfl⟩ ?_)))))
 refine init_set_R (A := A.in1.in1) hh (hl.push _) hi hn hne ho fun s' SR kp hg hd hos => ?_
 dsimp only
 refine wpAny_ite_false (by decide) ?_
 refine wpAny_pure (h s' SR (fun b o e => kp b o (Nat.ne_of_lt (Heap.lt_size e)) (Heap.get?_push_of_some _ e)) hg hd hos)
end
theorem entry_set_iter : entryFor table "set.__iter__" = some Builtin.«frozenset.__iter__» := entryFor_alias (by kernel_rfl) rfl (show Manifest.canonical (String.map (fun c => if (c.isAlphanum || c == '_' || c == '.') = true then c else '_') "set.__iter__") ++ "" = "frozenset.__iter__" by decide +kernel) (by kernel_rfl)
theorem entry_set_next : entryFor table "set_iterator.__next__" = some Builtin.«set_iterator.__next__» := entryFor_of_fast (by kernel_rfl)
theorem slot_set_next : Slot "set_iterator" (Str.ofString "__next__") "set_iterator.__next__" :=
 Slot.of (owner := "set_iterator") (n := "__next__") rfl (by decide +kernel) (by decide +kernel) (by decide +kernel) (.inl (by decide +kernel)) (by rfl) (by decide +kernel)
section
variable {prog : Program} {w : World} {A : Around} {E : Value → Shared → Prop} {s : Shared}
theorem hint_set {r : Addr} {Q : Bool → Shared → Prop} (h : s.TypeIs (.ref r) "set") (q : Q false s) : wpAny (model prog w) A (Builtin.List.listLengthHint (.ref r)) Q E s := by
 unfold Builtin.List.listLengthHint
 refine wpAny_bind (wpAny_specialOf h F.slot_set_len.lookup ?_)
 dsimp only
 rw [show splitId "set.__len__" = some ("set", "__len__") from by rfl]
 dsimp only
 refine wpAny_bind (wpAny_isInstance h sub_set_self ?_)
 refine wpAny_ite_false rfl ?_
 refine wpAny_ite_true (by decide +kernel) ?_
 refine wpAny_bind (wpAny_typeOf h ?_)
 exact wpAny_pure q
theorem erase_perm {α : Type} : ∀ {l : List α} {i : Nat} (h : i < l.length), (l[i] :: l.eraseIdx i).Perm l
 | x :: l, 0, _ => .refl _
 | x :: l, i + 1, h => by
  have h' : i < l.length := by simpa using h
  show (l[i] :: x :: l.eraseIdx i).Perm (x :: l)
  exact (List.Perm.swap _ _ _).trans ((erase_perm h').cons x)
theorem pick_go {α : Type} (next : Nat → Nat) : ∀ (fuel k : Nat) (left : List α) (out : Array α), left.length ≤ fuel → (pickOrder.go next fuel k left out).toList.Perm (out.toList ++ left)
 | 0, k, left, out, h => by
  have e : left = [] := List.eq_nil_of_length_eq_zero (by omega)
  rw [pickOrder.go.eq_1, e, List.append_nil]
 | fuel + 1, k, left, out, h => by
  rw [pickOrder.go.eq_def]
  dsimp only
  cases e : left[next k % left.length]? with
  | none =>
   dsimp only
   have e0 : left = [] := by
    cases left with
    | nil => rfl
    | cons x l =>
     have : next k % (x :: l).length < (x :: l).length := Nat.mod_lt _ (by simp)
     rw [List.getElem?_eq_getElem this] at e
     cases e
   rw [e0, List.append_nil]
  | some x =>
   dsimp only
   obtain ⟨hlt, hx⟩ := List.getElem?_eq_some_iff.mp e
   refine (pick_go next fuel (k + 1) (left.eraseIdx (next k % left.length)) (out.push x) ?_).trans ?_
   ·rw [List.length_eraseIdx_of_lt hlt]; omega
   ·rw [Array.toList_push, List.append_assoc]
    refine List.Perm.append_left _ ?_
    have := erase_perm hlt
    rw [hx] at this
    exact this
theorem pick_perm {α : Type} (next : Nat → Nat) (xs : Array α) : (pickOrder next xs).toList.Perm xs.toList := by
 have := pick_go next xs.size 0 xs.toList #[] (by simp)
 simpa [pickOrder] using this
theorem draw_perm {α : Type} : ∀ (n : Nat) (xs : List α) {Q : List α → Shared → Prop} {s : Shared}, xs.length ≤ n → (∀ ys d, ys.Perm xs → Q ys { s with drawn := d }) → wpAny (model prog w) A (drawOrder n xs) Q E s
 | 0, xs, Q, s, h, q => by
  have e : xs = [] := List.eq_nil_of_length_eq_zero (by omega)
  subst e
  rw [drawOrder.eq_1]
  exact wpAny_pure (q [] s.drawn (.refl _))
 | n + 1, [], Q, s, h, q => by
  rw [drawOrder.eq_2 _ (by omega)]
  exact wpAny_pure (q [] s.drawn (.refl _))
 | n + 1, x :: xs, Q, s, h, q => by
  rw [drawOrder.eq_def]
  dsimp only
  refine wpAny_bind ?_
  intro Γ p hΓ
  unfold choose
  rw [Sem.wp_choose]
  refine ⟨by simp, ?_⟩
  have hlt : (model prog w).w.draws Source.order (s.drawn.get Source.order) % (x :: xs).length < (x :: xs).length := Nat.mod_lt _ (by simp)
  generalize (model prog w).w.draws Source.order (s.drawn.get Source.order) % (x :: xs).length = i at *
  show Sem.wp _ Γ (pure i) _ _ p _
  refine (wpAny_pure (M := model prog w) (A := A) (E := E) (a := i) (Q := fun i s' => wpAny (model prog w) A (match (x :: xs)[i]? with
   | some x_2 => do
    let __do_lift ← drawOrder n ((x :: xs).eraseIdx i)
    pure (x_2 :: __do_lift)
   | none => unsupported "internal:drawOrder") Q E s') (s := { s with drawn := s.drawn.bump Source.order }) ?_) Γ p hΓ
  rw [List.getElem?_eq_getElem hlt]
  dsimp only
  refine wpAny_bind (draw_perm n _ (by rw [List.length_eraseIdx_of_lt hlt]; omega) fun ys d hy => ?_)
  refine wpAny_pure (q _ d ?_)
  exact (hy.cons _).trans (erase_perm hlt)
end
def itO (first : Value) (i : Nat) (a : Addr) (n ep : Nat) : Obj := { cls := .type "set_iterator", data := .fields #[first, .int (i : Int) 0, .ref a, .int (n : Int) 0, .int (ep : Int) 0] }
section
variable {prog : Program} {w : World} {A : Around} {E : Value → Shared → Prop} {s : Shared}
theorem next_set {I a : Addr} {es : Array (Int × Value)} {ep i : Nat} {first : Value} {Q : Option Value → Shared → Prop} (hI : s.heap.get? I = some (itO first i a es.size ep))
  (h : wpAny (model prog w) A.in1 (Builtin.«set_iterator.__next__» ⟨[.ref I], []⟩) (fun fin s' => ∃ v, fin = .done (.ret v) ∧ Q (some v) s') (fun e s' => (∃ x o, e = .ref x ∧ s'.heap.get? x = some o ∧ o.cls = .type "StopIteration") ∧ Q none s') s) :
  wpAny (model prog w) A (pyNext (.ref I)) Q E s := by
 unfold pyNext
 refine wpAny_bind (wpAny_attempt (wpAny_callSpecial?_slot (T := "set_iterator") ⟨_, hI, rfl⟩ slot_set_next (wpAny_call_entry slot_set_next ⟨_, hI, rfl⟩ entry_set_next (wpAny_mono h (fun fin s' ⟨v, e, q⟩ => ⟨v, e, ?_⟩) fun e s' ⟨⟨x, o, e1, e2, e3⟩, q⟩ => ?_) (by rfl))))
 ·exact wpAny_pure q
 ·subst e1
  refine wpAny_bind (wpAny_isInstance (T := "StopIteration") ⟨o, e2, e3⟩ isSubtype_stop ?_)
  exact wpAny_ite_true rfl (wpAny_pure q)
theorem next_int {I a : Addr} {o : Obj} {es : Array (Int × Value)} {ep i slot nx : Nat} {t : SetTable} {x : Value} {Q : Option Value → Shared → Prop} (hI : s.heap.get? I = some (itO (.int (slot : Int) 0) i a es.size ep)) (ho : s.heap.get? a = some o) (hd : o.data = .set es ep t) (hf : t.fits es.size = true)
  (hs : ∀ {A' : Around} {E' : Value → Shared → Prop} {Q' : Option (Value × Nat) → Shared → Prop}, Q' (some (x, nx)) s → wpAny (model prog w) A' (setNext a slot i ep) Q' E' s)
  (q : ∀ h', h'.get? I = some (itO (.int (nx : Int) 0) (i + 1) a es.size ep) → Heap.SameBut I s.heap h' → Q (some x) { s with heap := h' }) : wpAny (model prog w) A (pyNext (.ref I)) Q E s := by
 refine next_set hI ?_
 unfold Builtin.«set_iterator.__next__»
 refine wpAny_bind (m := slotArgs "__next__" 0 _) (wpAny_pure ?_)
 dsimp only
 refine wpAny_bind (wpAny_fieldsOf hI rfl ?_)
 dsimp only
 refine wpAny_bind (wpAny_setEntries_of ho hd hf ?_)
 refine wpAny_ite_false (by simp) ?_
 simp only [Int.toNat_natCast]
 refine wpAny_bind (hs ?_)
 dsimp only
 refine wpAny_bind (wpAny_setField_rec hI (by simp) fun h1 g1 s1 => ?_)
 refine wpAny_bind (wpAny_setField_rec (s := { s with heap := h1 }) g1 (by simp) fun h2 g2 s2 => ?_)
 refine wpAny_pure ⟨x, rfl, q h2 ?_ ⟨s2.1.trans s1.1, fun b hb => (s2.2 b hb).trans (s1.2 b hb)⟩⟩
 rw [g2]
 rfl
theorem end_int {I a : Addr} {o : Obj} {es : Array (Int × Value)} {ep i slot : Nat} {t : SetTable} {Q : Option Value → Shared → Prop} (hh : A.handled = none) (hI : s.heap.get? I = some (itO (.int (slot : Int) 0) i a es.size ep)) (ho : s.heap.get? a = some o) (hd : o.data = .set es ep t) (hf : t.fits es.size = true)
  (hs : ∀ {A' : Around} {E' : Value → Shared → Prop} {Q' : Option (Value × Nat) → Shared → Prop}, Q' none s → wpAny (model prog w) A' (setNext a slot i ep) Q' E' s)
  (q : ∀ h', (∀ b o, b ≠ I → s.heap.get? b = some o → h'.get? b = some o) → Q none { s with heap := h' }) : wpAny (model prog w) A (pyNext (.ref I)) Q E s := by
 refine next_set hI ?_
 unfold Builtin.«set_iterator.__next__»
 refine wpAny_bind (m := slotArgs "__next__" 0 _) (wpAny_pure ?_)
 dsimp only
 refine wpAny_bind (wpAny_fieldsOf hI rfl ?_)
 dsimp only
 refine wpAny_bind (wpAny_setEntries_of ho hd hf ?_)
 refine wpAny_ite_false (by simp) ?_
 simp only [Int.toNat_natCast]
 refine wpAny_bind (hs ?_)
 dsimp only
 refine wpAny_bind (wpAny_setField_rec hI (by simp) fun h1 g1 s1 => ?_)
 refine wpAny_bind ?_
 unfold newExc
 refine wpAny_bind (wpAny_newTuple ?_ (Nat.zero_le _))
 refine wpAny_bind ?_
 unfold firstArgMember
 dsimp only
 refine wpAny_bind (wpAny_pure ?_)
 refine wpAny_pure ?_
 refine wpAny_newObj_type ?_
 refine wpAny_raiseNew_none hh ⟨⟨_, _, rfl, Heap.get?_push_size _ rfl, rfl⟩, ?_⟩
 exact q _ fun b o hb e => Heap.get?_push_of_some _ (Heap.get?_push_of_some _ ((s1.2 b hb).trans e))
theorem next_drawn {I a T : Addr} {o : Obj} {es : Array (Int × Value)} {ep i j : Nat} {t : SetTable} {ps : List Nat} {e : Int × Value} {Q : Option Value → Shared → Prop} (hI : s.heap.get? I = some (itO (.ref T) i a es.size ep)) (ho : s.heap.get? a = some o) (hd : o.data = .set es ep t) (hf : t.fits es.size = true)
  (hT : s.heap.get? T = some (seqObj "tuple" (ps.map fun (i : Nat) => rawInt (i : Int)).toArray 0)) (hj : ps[i]? = some j) (he : es[j]? = some e)
  (q : ∀ h', h'.get? I = some (itO (.ref T) (i + 1) a es.size ep) → Heap.SameBut I s.heap h' → Q (some e.2) { s with heap := h' }) : wpAny (model prog w) A (pyNext (.ref I)) Q E s := by
 refine next_set hI ?_
 unfold Builtin.«set_iterator.__next__»
 refine wpAny_bind (m := slotArgs "__next__" 0 _) (wpAny_pure ?_)
 dsimp only
 refine wpAny_bind (wpAny_fieldsOf hI rfl ?_)
 dsimp only
 refine wpAny_bind (wpAny_setEntries_of ho hd hf ?_)
 refine wpAny_ite_false (by simp) ?_
 simp only [Int.toNat_natCast]
 refine wpAny_bind (wpAny_seqItems hT rfl ?_)
 have e0 : (ps.map fun (i : Nat) => rawInt (i : Int)).toArray[i]? = some (.int (j : Int) 0) := by
  rw [List.getElem?_toArray, List.getElem?_map, hj]
  rfl
 dsimp only
 rw [e0]
 dsimp only
 refine wpAny_bind ?_
 unfold setNextDrawn
 refine wpAny_bind (wpAny_setState_of ho hd hf ?_)
 dsimp only
 refine wpAny_ite_false (by simp) ?_
 rw [Int.toNat_natCast, he]
 refine wpAny_pure ?_
 refine wpAny_bind (wpAny_setField_rec hI (by simp) fun h1 g1 s1 => ?_)
 refine wpAny_pure ⟨e.2, rfl, q h1 ?_ s1⟩
 rw [g1]
 rfl
theorem end_drawn {I a T : Addr} {o : Obj} {es : Array (Int × Value)} {ep i : Nat} {t : SetTable} {ps : List Nat} {Q : Option Value → Shared → Prop} (hh : A.handled = none) (hI : s.heap.get? I = some (itO (.ref T) i a es.size ep)) (ho : s.heap.get? a = some o) (hd : o.data = .set es ep t) (hf : t.fits es.size = true)
  (hT : s.heap.get? T = some (seqObj "tuple" (ps.map fun (i : Nat) => rawInt (i : Int)).toArray 0)) (hj : ps[i]? = none)
  (q : ∀ h', (∀ b o, b ≠ I → s.heap.get? b = some o → h'.get? b = some o) → Q none { s with heap := h' }) : wpAny (model prog w) A (pyNext (.ref I)) Q E s := by
 refine next_set hI ?_
 unfold Builtin.«set_iterator.__next__»
 refine wpAny_bind (m := slotArgs "__next__" 0 _) (wpAny_pure ?_)
 dsimp only
 refine wpAny_bind (wpAny_fieldsOf hI rfl ?_)
 dsimp only
 refine wpAny_bind (wpAny_setEntries_of ho hd hf ?_)
 refine wpAny_ite_false (by simp) ?_
 simp only [Int.toNat_natCast]
 refine wpAny_bind (wpAny_seqItems hT rfl ?_)
 have e0 : (ps.map fun (i : Nat) => rawInt (i : Int)).toArray[i]? = none := by
  rw [List.getElem?_toArray, List.getElem?_map, hj]
  rfl
 dsimp only
 rw [e0]
 dsimp only
 refine wpAny_bind (wpAny_setField_rec hI (by simp) fun h1 g1 s1 => ?_)
 refine wpAny_bind (wpAny_setField_rec (s := { s with heap := h1 }) g1 (by simp) fun h2 g2 s2 => ?_)
 refine wpAny_bind ?_
 unfold newExc
 refine wpAny_bind (wpAny_newTuple ?_ (Nat.zero_le _))
 refine wpAny_bind ?_
 unfold firstArgMember
 dsimp only
 refine wpAny_bind (wpAny_pure ?_)
 refine wpAny_pure ?_
 refine wpAny_newObj_type ?_
 refine wpAny_raiseNew_none hh ⟨⟨_, _, rfl, Heap.get?_push_size _ rfl, rfl⟩, ?_⟩
 exact q _ fun b o hb e => Heap.get?_push_of_some _ (Heap.get?_push_of_some _ ((s2.2 b hb).trans ((s1.2 b hb).trans e)))
end
theorem entry_si_iter : entryFor table "set_iterator.__iter__" = some Builtin.«dict_keyiterator.__iter__» := entryFor_alias (by kernel_rfl) rfl (show Manifest.canonical (String.map (fun c => if (c.isAlphanum || c == '_' || c == '.') = true then c else '_') "set_iterator.__iter__") ++ "" = "dict_keyiterator.__iter__" by decide +kernel) (by kernel_rfl)
theorem slot_si_iter : Slot "set_iterator" (Str.ofString "__iter__") "set_iterator.__iter__" :=
 Slot.of (owner := "set_iterator") (n := "__iter__") rfl (by decide +kernel) (by decide +kernel) (by decide +kernel) (.inl (by decide +kernel)) (by rfl) (by decide +kernel)
section
variable {prog : Program} {w : World} {A : Around} {E : Value → Shared → Prop} {s : Shared}
theorem setNext_text {a : Addr} {o : Obj} {es : Array (Int × Value)} {ep : Nat} {t : SetTable} (ho : s.heap.get? a = some o) (hd : o.data = .set es ep t) (hf : t.fits es.size = true) (bt : w.params.followText "set-order" = true) (slot i : Nat) {Q : Option (Value × Nat) → Shared → Prop}
  (q : Q (((pickOrder (w.params.setOrder a ep) es)[i]?).map fun e => (e.2, slot)) s) : wpAny (model prog w) A (setNext a slot i ep) Q E s := by
 unfold setNext
 refine wpAny_bind (wpAny_setState_of ho hd hf ?_)
 dsimp only
 unfold setsByText
 refine wpAny_bind (wpAny_bind (wpAny_askSetting (wpAny_pure ?_)))
 refine wpAny_ite_true (by show decide (w.params.followText "set-order" = true) = true; rw [bt]; rfl) ?_
 refine wpAny_ite_false (by simp) ?_
 refine wpAny_bind ?_
 unfold setWalk
 refine wpAny_bind (wpAny_setState_of ho hd hf ?_)
 dsimp only
 unfold setsByText
 refine wpAny_bind (wpAny_bind (wpAny_askSetting (wpAny_pure ?_)))
 refine wpAny_ite_true (by show decide (w.params.followText "set-order" = true) = true; rw [bt]; rfl) ?_
 refine wpAny_bind (wpAny_askSetting ?_)
 refine wpAny_pure ?_
 exact wpAny_pure q
def slotAt (t : SetTable) (i : Nat) : Nat := if i = 0 then 0 else t.place.getD (i - 1) 0 + 1
theorem below_slot {t : SetTable} {i : Nat} (hr : Rise t.place) (hi : i ≤ t.place.size) : SetTable.below t.place (slotAt t i) = i := by
 refine below_is hr hi (fun k hk => ?_) (fun k hk hk2 => ?_)
 ·unfold slotAt
  rw [if_neg (by omega)]
  by_cases z : k = i - 1
  ·rw [z]; omega
  ·have := hr.lt (i := k) (j := i - 1) (by omega) (by omega)
   omega
 ·unfold slotAt
  by_cases z : i = 0
  ·rw [if_pos z]; omega
  ·rw [if_neg z]
   have := hr.lt (i := i - 1) (j := k) (by omega) hk2
   omega
theorem setNext_plain {a : Addr} {o : Obj} {es : Array (Int × Value)} {ep : Nat} {t : SetTable} (ho : s.heap.get? a = some o) (hd : o.data = .set es ep t) (hf : t.fits es.size = true) (bt : w.params.followText "set-order" = false) (hp : (!t.plain && decide (es.size > 1)) = false) (T : TbR true t) (i g : Nat) (hi : i ≤ es.size) {Q : Option (Value × Nat) → Shared → Prop}
  (q : Q ((es[i]?).map fun e => (e.2, slotAt t (i + 1))) s) : wpAny (model prog w) A (setNext a (slotAt t i) g ep) Q E s := by
 have hps : t.place.size = es.size := by
  rw [SetTable.fits.eq_1, Bool.and_eq_true] at hf
  exact beq_iff_eq.mp hf.1
 unfold setNext
 refine wpAny_bind (wpAny_setState_of ho hd hf ?_)
 dsimp only
 unfold setsByText
 refine wpAny_bind (wpAny_bind (wpAny_askSetting (wpAny_pure ?_)))
 refine wpAny_ite_false (by show decide (w.params.followText "set-order" = true) = false; rw [bt]; rfl) ?_
 refine wpAny_ite_false (by show decide ((!t.plain && decide (es.size > 1)) = true) = false; rw [hp]; rfl) ?_
 show wpAny _ _ ((if (!t.led && !es.isEmpty) = true then unsupported "set:maker-not-led" else pure ()) >>= _) _ _ _
 rw [T.led]
 refine wpAny_bind (wpAny_ite_false rfl (wpAny_pure ?_))
 rw [below_slot T.rise (by omega)]
 by_cases z : i < es.size
 ·rw [Array.getElem?_eq_getElem z] at q ⊢
  have z2 : i < t.place.size := by omega
  rw [Array.getElem?_eq_getElem z2]
  refine wpAny_pure ?_
  have e : slotAt t (i + 1) = t.place[i] + 1 := by
   unfold slotAt
   rw [if_neg (by omega), Nat.add_sub_cancel]
   simp [Array.getD, z2]
  rw [e] at q
  exact q
 ·rw [Array.getElem?_eq_none (by omega)] at q ⊢
  exact wpAny_pure q
theorem self_si {I a : Addr} {first : Value} {i n ep : Nat} {Q : Value → Shared → Prop} (hI : s.heap.get? I = some (itO first i a n ep)) (q : Q (.ref I) s) : wpAny (model prog w) A (pyIter (.ref I)) Q E s := by
 have tI : s.TypeIs (.ref I) "set_iterator" := ⟨_, hI, rfl⟩
 refine wpAny_pyIter_slot tI slot_si_iter (wpAny_call_entry slot_si_iter tI entry_si_iter ?_ (by rfl))
 unfold Builtin.«dict_keyiterator.__iter__»
 refine wpAny_bind (m := slotArgs "__iter__" 0 _) (wpAny_pure ?_)
 exact wpAny_pure ⟨_, rfl, "set_iterator", _, tI, slot_set_next.lookup, q⟩
theorem walks_int {I a : Addr} {o : Obj} {es : Array (Int × Value)} {ep : Nat} {t : SetTable} {ord : List (Int × Value)} {sl : Nat → Nat} (hne : I ≠ a) (hd : o.data = .set es ep t) (hf : t.fits es.size = true) (hl : ord.length = es.size)
  (hn : ∀ (s : Shared) (i : Nat) {A' : Around} {E' : Value → Shared → Prop} {Q' : Option (Value × Nat) → Shared → Prop}, s.heap.get? a = some o → i ≤ es.size → Q' ((ord[i]?).map fun e => (e.2, sl (i + 1))) s → wpAny (model prog w) A' (setNext a (sl i) i ep) Q' E' s) (hh : A.handled = none) :
  WalksS prog w A I [I, a] [I] (fun x y => y = x) es.size (fun i v => ∃ e, ord[i]? = some e ∧ v = e.2) (fun i s => s.heap.get? I = some (itO (.int (sl i : Int) 0) i a es.size ep) ∧ s.heap.get? a = some o) where
 sub := fun b hb => by simp only [List.mem_singleton] at hb; simp [hb]
 grefl := fun _ => rfl
 gtrans := fun _ _ _ h1 h2 => h2.trans h1
 frame := fun i s h' tk ⟨h1, h2⟩ _ k => ⟨k I (by simp) _ h1, k a (by simp) _ h2⟩
 item := fun i s Q E hi ⟨h1, h2⟩ k => by
  have e := List.getElem?_eq_getElem (l := ord) (i := i) (by omega)
  refine next_int (x := ord[i].2) (nx := sl (i + 1)) h1 h2 hd hf (fun q' => hn s i h2 (by omega) (by rw [e]; exact q')) fun h' g' sm => k _ { s with heap := h' } ⟨_, e, rfl⟩ ⟨g', (sm.2 a (Ne.symm hne)).trans h2⟩ ⟨fun b o hb eb => (sm.2 b (fun z => hb (by simp [z]))).trans eb, rfl, rfl, rfl, Nat.le_refl _⟩
 done := fun s Q E ⟨h1, h2⟩ k => by
  have e := List.getElem?_eq_none (l := ord) (i := es.size) (by omega)
  exact end_int hh h1 h2 hd hf (fun q' => hn s es.size h2 (Nat.le_refl _) (by rw [e]; exact q')) fun h' kp => k { s with heap := h' } ⟨fun b o hb eb => kp b o (fun z => hb (by simp [z])) eb, rfl, rfl, rfl, Nat.le_refl _⟩
 self := fun i s Q E ⟨h1, _⟩ q => self_si h1 q
theorem walks_drawn {I a T : Addr} {o : Obj} {es : Array (Int × Value)} {ep : Nat} {t : SetTable} {ps : List Nat} (hne : I ≠ a) (hnT : I ≠ T) (hd : o.data = .set es ep t) (hf : t.fits es.size = true) (hp : ps.Perm (List.range es.size)) (hh : A.handled = none) :
  WalksS prog w A I [I, a, T] [I] (fun x y => y = x) es.size (fun i v => ∃ e, (ps.map fun j => es.getD j (0, .none))[i]? = some e ∧ v = e.2) (fun i s => s.heap.get? I = some (itO (.ref T) i a es.size ep) ∧ s.heap.get? a = some o ∧ s.heap.get? T = some (seqObj "tuple" (ps.map fun (i : Nat) => rawInt (i : Int)).toArray 0)) where
 sub := fun b hb => by simp only [List.mem_singleton] at hb; simp [hb]
 grefl := fun _ => rfl
 gtrans := fun _ _ _ h1 h2 => h2.trans h1
 frame := fun i s h' tk ⟨h1, h2, h3⟩ _ k => ⟨k I (by simp) _ h1, k a (by simp) _ h2, k T (by simp) _ h3⟩
 item := fun i s Q E hi ⟨h1, h2, h3⟩ k => by
  have hlen : ps.length = es.size := by rw [hp.length_eq, List.length_range]
  have e := List.getElem?_eq_getElem (l := ps) (i := i) (by omega)
  have hj : ps[i] < es.size := List.mem_range.mp (hp.mem_iff.mp (List.getElem_mem _))
  have e2 : es[ps[i]]? = some (es.getD ps[i] (0, .none)) := by rw [Array.getElem?_eq_getElem hj]; simp [Array.getD, hj]
  refine next_drawn h1 h2 hd hf h3 e e2 fun h' g' sm => k _ { s with heap := h' } ⟨_, by rw [List.getElem?_map, e]; rfl, rfl⟩ ⟨g', (sm.2 a (Ne.symm hne)).trans h2, (sm.2 T (Ne.symm hnT)).trans h3⟩ ⟨fun b o hb eb => (sm.2 b (fun z => hb (by simp [z]))).trans eb, rfl, rfl, rfl, Nat.le_refl _⟩
 done := fun s Q E ⟨h1, h2, h3⟩ k => by
  have hlen : ps.length = es.size := by rw [hp.length_eq, List.length_range]
  exact end_drawn hh h1 h2 hd hf h3 (List.getElem?_eq_none (by omega)) fun h' kp => k { s with heap := h' } ⟨fun b o hb eb => kp b o (fun z => hb (by simp [z])) eb, rfl, rfl, rfl, Nat.le_refl _⟩
 self := fun i s Q E ⟨h1, _⟩ q => self_si h1 q
theorem iter_set {a : Addr} {o : Obj} {es : Array (Int × Value)} {ep : Nat} {t : SetTable} {Q : Value → Shared → Prop} (ho : s.heap.get? a = some o) (hx : o.ExactSet) (hd : o.data = .set es ep t) (hf : t.fits es.size = true) (T : TbR (!w.params.followText "set-order") t) (hs : es.size < scanBound)
  (q : ∀ (I : Addr) (fp : List Addr) (ord : List (Int × Value)) (St : Nat → Shared → Prop) (s' : Shared), (∀ A', A'.handled = none → WalksS prog w A' I fp [I] (fun x y => y = x) es.size (fun i v => ∃ e, ord[i]? = some e ∧ v = e.2) St) → St 0 s' → ord.Perm es.toList → (∀ b o, s.heap.get? b = some o → s'.heap.get? b = some o ∧ b ≠ I) → (∀ b ∈ fp, b = a ∨ s.heap.get? b = none) → s'.gens = s.gens → s'.os = s.os → s.toks ≤ s'.toks → (∀ b ∈ fp, ∃ o, s'.heap.get? b = some o) → Q (.ref I) s') :
  wpAny (model prog w) A (pyIter (.ref a)) Q E s := by
 have tset : s.TypeIs (.ref a) "set" := ⟨o, ho, hx.1⟩
 have hsl : es.size ≤ sizeLine := fits_of_scanBound hs
 refine wpAny_pyIter_slot tset F.slot_set_iter (wpAny_call_entry F.slot_set_iter tset entry_set_iter ?_ (F.args_set_iter_1 _))
 unfold Builtin.«frozenset.__iter__»
 refine wpAny_bind (m := Builtin.Frozenset.slot0 "__iter__" _) (wpAny_pure ?_)
 refine wpAny_bind (m := Builtin.Frozenset.sizeOf a) (wpAny_bind (wpAny_setEntries_of ho hd hf (wpAny_pure ?_)))
 refine wpAny_bind ?_
 unfold setDrawn
 refine wpAny_bind (wpAny_setState_of ho hd hf ?_)
 dsimp only
 unfold setsByText
 refine wpAny_bind (wpAny_bind (wpAny_askSetting (wpAny_pure ?_)))
 refine wpAny_pure ?_
 show wpAny _ _ (if (!w.params.followText "set-order" && (!t.plain && decide (es.size > 1))) = true then _ else _) _ _ _
 by_cases c : (!w.params.followText "set-order" && (!t.plain && decide (es.size > 1))) = true
 ·rw [if_pos c]
  refine wpAny_bind (draw_perm es.size (List.range es.size) (by simp) fun ps d hps => ?_)
  have hlen : ps.length = es.size := by rw [hps.length_eq, List.length_range]
  refine wpAny_bind (wpAny_newTuple ?_ (by rw [List.length_map, hlen]; exact hsl))
  have hoT := Heap.get?_push_of_some (seqObj "tuple" (ps.map fun (i : Nat) => rawInt (i : Int)).toArray 0) ho
  refine wpAny_bind (wpAny_setEpoch_of hoT hd hf ?_)
  refine wpAny_bind (m := newFields "set_iterator" _) (wpAny_newObj_type ?_ (by show 5 ≤ _; decide))
  have hIz : (s.heap.push (seqObj "tuple" (ps.map fun (i : Nat) => rawInt (i : Int)).toArray 0)).objs.size = s.heap.objs.size + 1 := size_push' _ _
  have haz : a < s.heap.objs.size := Heap.lt_size ho
  refine wpAny_pure ⟨_, rfl, "set_iterator", _, ⟨_, Heap.get?_push_size _ rfl, rfl⟩, slot_set_next.lookup, ?_⟩
  have hI : ((s.heap.push (seqObj "tuple" (ps.map fun (i : Nat) => rawInt (i : Int)).toArray 0)).push (itO (.ref s.heap.objs.size) 0 a es.size ep)).get? (s.heap.push (seqObj "tuple" (ps.map fun (i : Nat) => rawInt (i : Int)).toArray 0)).objs.size = some (itO (.ref s.heap.objs.size) 0 a es.size ep) := Heap.get?_push_size _ rfl
  have hT : (s.heap.push (seqObj "tuple" (ps.map fun (i : Nat) => rawInt (i : Int)).toArray 0)).get? s.heap.objs.size = some (seqObj "tuple" (ps.map fun (i : Nat) => rawInt (i : Int)).toArray 0) := Heap.get?_push_size _ rfl
  refine q _ [_, a, s.heap.objs.size] (ps.map fun j => es.getD j (0, .none)) _ _ (fun A' hA' => walks_drawn (Nat.ne_of_gt (by rw [hIz]; exact Nat.lt_succ_of_lt haz)) (Nat.ne_of_gt (by rw [hIz]; exact Nat.lt_succ_self _)) hd hf hps hA') ⟨hI, Heap.get?_push_of_some _ hoT, Heap.get?_push_of_some _ hT⟩ ?_ (fun b o e => ⟨Heap.get?_push_of_some _ (Heap.get?_push_of_some _ e), Nat.ne_of_lt (by rw [hIz]; exact Nat.lt_succ_of_lt (Heap.lt_size e))⟩) ?_ rfl rfl (Nat.le_refl _) ?_
  ·have := hps.map fun j => es.getD j (0, Value.none)
   refine this.trans (.of_eq ?_)
   apply List.ext_getElem
   ·simp
   ·intro i h1 h2
    have : i < es.size := by simpa using h2
    simp [Array.getD, this]
  ·intro b hb
   simp only [List.mem_cons, List.not_mem_nil, or_false] at hb
   rcases hb with rfl | rfl | rfl
   ·exact .inr (Heap.get?_none_of_le (by rw [hIz]; omega))
   ·exact .inl rfl
   ·exact .inr (Heap.get?_none_of_le (Nat.le_refl _))
  ·intro b hb
   simp only [List.mem_cons, List.not_mem_nil, or_false] at hb
   rcases hb with rfl | rfl | rfl
   ·exact ⟨_, hI⟩
   ·exact ⟨_, Heap.get?_push_of_some _ hoT⟩
   ·exact ⟨_, Heap.get?_push_of_some _ hT⟩
 ·rw [if_neg c]
  refine wpAny_bind (wpAny_pure ?_)
  refine wpAny_bind (wpAny_setEpoch_of ho hd hf ?_)
  refine wpAny_bind (m := newFields "set_iterator" _) (wpAny_newObj_type ?_ (by show 5 ≤ _; decide))
  have haz : a < s.heap.objs.size := Heap.lt_size ho
  refine wpAny_pure ⟨_, rfl, "set_iterator", _, ⟨_, Heap.get?_push_size _ rfl, rfl⟩, slot_set_next.lookup, ?_⟩
  have hI : (s.heap.push (itO (.int ((0 : Nat) : Int) 0) 0 a es.size ep)).get? s.heap.objs.size = some (itO (.int ((0 : Nat) : Int) 0) 0 a es.size ep) := Heap.get?_push_size _ rfl
  have fin : ∀ (ord : List (Int × Value)) (sl : Nat → Nat), sl 0 = 0 → ord.Perm es.toList → (∀ (s : Shared) (i : Nat) {A' : Around} {E' : Value → Shared → Prop} {Q' : Option (Value × Nat) → Shared → Prop}, s.heap.get? a = some o → i ≤ es.size → Q' ((ord[i]?).map fun e => (e.2, sl (i + 1))) s → wpAny (model prog w) A' (setNext a (sl i) i ep) Q' E' s) → Q (.ref s.heap.objs.size) { s with heap := s.heap.push (itO (.int ((0 : Nat) : Int) 0) 0 a es.size ep) } := by
   intro ord sl h0 hp hn
   refine q _ [s.heap.objs.size, a] ord _ _ (fun A' hA' => walks_int (sl := sl) (Nat.ne_of_gt haz) hd hf (by have := hp.length_eq; simpa using this) hn hA') ⟨by rw [h0]; exact hI, Heap.get?_push_of_some _ ho⟩ hp (fun b o e => ⟨Heap.get?_push_of_some _ e, Nat.ne_of_lt (Heap.lt_size e)⟩) ?_ rfl rfl (Nat.le_refl _) ?_
   ·intro b hb
    simp only [List.mem_cons, List.not_mem_nil, or_false] at hb
    rcases hb with rfl | rfl
    ·exact .inr (Heap.get?_none_of_le (Nat.le_refl _))
    ·exact .inl rfl
   ·intro b hb
    simp only [List.mem_cons, List.not_mem_nil, or_false] at hb
    rcases hb with rfl | rfl
    ·exact ⟨_, hI⟩
    ·exact ⟨_, Heap.get?_push_of_some _ ho⟩
  cases bt : w.params.followText "set-order" with
  | true =>
   refine fin (pickOrder (w.params.setOrder a ep) es).toList (fun _ => 0) rfl (pick_perm _ _) fun s i A' E' Q' h1 h2 q' => setNext_text h1 hd hf bt 0 i ?_
   rw [Array.getElem?_toList] at q'
   exact q'
  | false =>
   rw [bt] at c T
   refine fin es.toList (slotAt t) rfl (.refl _) fun s i A' E' Q' h1 h2 q' => setNext_plain h1 hd hf bt (by simpa using c) T i i h2 ?_
   rw [Array.getElem?_toList] at q'
   exact q'
end
section
variable {prog : Program} {w : World} {A : Around} {E : Value → Shared → Prop} {s : Shared}
theorem ints_keys {es : List (Int × Value)} (h : ∀ e ∈ es, IsI e) : IntsAre (es.map (·.2)) (es.map keyE) := by
 induction es with
 | nil => exact .nil
 | cons e es ih =>
  obtain ⟨k, t, rfl⟩ := h e List.mem_cons_self
  exact .cons k t (ih fun e m => h e (List.mem_cons_of_mem _ m))
theorem collect_set {a : Addr} {L : List Int} {Q : List Value → Shared → Prop} (S : SetR w s.heap a L) (hh : A.handled = none)
  (h : ∀ (s' : Shared) (vs : List Value) (ks : List Int), (∀ b o, s.heap.get? b = some o → s'.heap.get? b = some o) → s'.gens = s.gens → s'.os = s.os → s.heap.objs.size < s'.heap.objs.size → IntsAre vs ks → ks.Nodup → (∀ k, k ∈ ks ↔ k ∈ L) → Q vs s') :
  wpAny (model prog w) A (collect (.ref a)) Q E s := by
 obtain ⟨o, es, ep, t, ho, hx, hd, hI, hN, hL, hs, hf, T⟩ := S.ex
 have hsl : es.size ≤ sizeLine := fits_of_scanBound hs
 unfold collect
 refine wpAny_bind (wpAny_runValue (codeAny_builtin F.entry_proto_collect ?_))
 rw [Around.under_plainId F.plain_proto_collect _]
 show wpAny _ A.in1 (newList [] >>= fun l => again (.builtin "list.__iadd__" ⟨[l, .ref a], []⟩)) _ _ s
 refine wpAny_bind (wpAny_newObj_type ?_)
 refine wpAny_pure ⟨plainId_quiet F.plain_list_iadd _, codeAny_builtin F.entry_list_iadd ?_⟩
 rw [Around.under_plainId F.plain_list_iadd _]
 show wpAny _ A.in1 (Builtin.List.listExtendWith (.ref s.heap.objs.size) (.ref a) (.ref s.heap.objs.size)) _ _ _
 have hS : (s.heap.push { cls := .type "list", data := .seq ([] : List Value).toArray }).get? s.heap.objs.size = some (seqObj "list" #[] 0) := Heap.get?_push_size _ rfl
 have ho1 : (s.heap.push { cls := .type "list", data := .seq ([] : List Value).toArray }).get? a = some o := Heap.get?_push_of_some _ ho
 have hne : s.heap.objs.size ≠ a := Nat.ne_of_gt (Heap.lt_size ho)
 have kp1 : ∀ b o, s.heap.get? b = some o → (s.heap.push { cls := .type "list", data := .seq ([] : List Value).toArray }).get? b = some o := fun b o e => Heap.get?_push_of_some _ e
 generalize s.heap.push { cls := .type "list", data := .seq ([] : List Value).toArray } = h1 at *
 have hlt : ∀ b o, s.heap.get? b = some o → b ≠ s.heap.objs.size := fun b o e => Nat.ne_of_lt (Heap.lt_size e)
 generalize s.heap.objs.size = D at *
 unfold Builtin.List.listExtendWith
 have tset : ({ s with heap := h1 } : Shared).TypeIs (.ref a) "set" := ⟨o, ho1, hx.1⟩
 refine wpAny_bind (wpAny_typeOf tset ?_)
 refine wpAny_ite_false (by
  show decide ((D == a || _ || _) = true) = false
  rw [beq_false_of_ne hne]
  rfl) ?_
 refine wpAny_bind (iter_set (s := { s with heap := h1 }) ho1 hx hd hf T hs fun I fp ord St s' W st0 hp kp2 hfp hg hos htk hfo => ?_)
 have tset2 : s'.TypeIs (.ref a) "set" := ⟨o, (kp2 a o ho1).1, hx.1⟩
 refine wpAny_bind (wpAny_holding (hint_set tset2 ?_))
 refine wpAny_ite_true (by decide +kernel) ?_
 refine wpAny_bind (wpAny_rule ?_)
 have hDs : s'.heap.get? D = some (seqObj "list" #[] 0) := (kp2 D _ hS).1
 have hDf : D ∉ fp := fun z => by
  rcases hfp D z with z | z
  ·exact hne z
  ·have z : h1.get? D = none := z
   rw [hS] at z; cases z
 refine wpAny_bind ?_
 unfold Builtin.List.listTouch
 have sm1 := Heap.SameBut.update s'.heap D (Obj.mapSeq fun x => x.push Value.none)
 obtain ⟨c1, g1⟩ : ∃ c1, (s'.heap.update D (Obj.mapSeq fun x => x.push Value.none)).get? D = some (seqObj "list" (#[].push Value.none) c1) := ⟨_, get?_update_seq hDs fun x => x.push Value.none⟩
 refine wpAny_bind (listUpdate_at hDs rfl ?_ (Nat.zero_le _) (by decide))
 have sm2 := Heap.SameBut.update (s'.heap.update D (Obj.mapSeq fun x => x.push Value.none)) D (Obj.mapSeq fun x => x.pop)
 obtain ⟨c2, g2⟩ : ∃ c2, ((s'.heap.update D (Obj.mapSeq fun x => x.push Value.none)).update D (Obj.mapSeq fun x => x.pop)).get? D = some (seqObj "list" (#[].push Value.none).pop c2) := ⟨_, get?_update_seq g1 fun x => x.pop⟩
 refine listUpdate_at (s := { s' with heap := s'.heap.update D (Obj.mapSeq fun x => x.push Value.none) }) g1 rfl ?_ (by decide) (by decide)
 have kp3 : ∀ b o, b ≠ D → s'.heap.get? b = some o → ((s'.heap.update D (Obj.mapSeq fun x => x.push Value.none)).update D (Obj.mapSeq fun x => x.pop)).get? b = some o := fun b o hb e => (sm2.2 b hb).trans ((sm1.2 b hb).trans e)
 generalize (s'.heap.update D (Obj.mapSeq fun x => x.push Value.none)).update D (Obj.mapSeq fun x => x.pop) = h3 at *
 have hlen : ord.length = es.size := by have := hp.length_eq; simpa using this
 refine wpAny_pure ⟨plainId_quiet F.plain_extend_loop _, codeAny_extend_loopS (W A.in1 hh) hsl D hDf (.ref D) es.size 0 { s' with heap := h3 } #[] c2 rfl (Nat.zero_le _) ((W A.in1 hh).frame 0 s' h3 s'.toks st0 (Nat.le_refl _) fun b hb o e => kp3 b o (fun z => hDf (z ▸ hb)) e) g2 ⟨rfl, fun j v e => by simp at e⟩ fun s4 acc c' mv hD4 items => ?_⟩
 show wpAny _ A (load D >>= _) _ _ _
 refine wpAny_bind (wpAny_load hD4 ?_)
 have hacc : acc.toList = ord.map (·.2) := by
  apply List.ext_getElem?
  intro j
  by_cases z : j < acc.size
  ·have e := Array.getElem?_eq_getElem z
   obtain ⟨e', h1', h2'⟩ := items.2 j _ e
   rw [Array.getElem?_toList, e, List.getElem?_map, h1', h2']
   rfl
  ·rw [Array.getElem?_toList, Array.getElem?_eq_none (by omega), List.getElem?_eq_none (by rw [List.length_map, hlen, ← items.1]; omega)]
 have hIo : ∀ e ∈ ord, IsI e := fun e he => hI e (hp.mem_iff.mp he)
 refine wpAny_pure (h s4 acc.toList (ord.map keyE) (fun b o e => mv.heap b o ?_ (kp3 b o (hlt b o e) (kp2 b o (kp1 b o e)).1)) (mv.gens.trans hg) (mv.os.trans hos) (Heap.lt_size hD4) (by rw [hacc]; exact ints_keys hIo) ((hp.map keyE).nodup_iff.mpr hN) fun k => ((hp.map keyE).mem_iff).trans (hL k))
 simp only [List.mem_cons, List.not_mem_nil, or_false, not_or]
 exact ⟨hlt b o e, (kp2 b o (kp1 b o e)).2⟩
end
theorem tpre_int (key : Nat → Int) : TPre (fun i j => decide (key i < key j)) := by
 refine ⟨fun i => by simp, fun i j k h1 h2 => ?_, fun i j h => ?_⟩
 ·have h1 := of_decide_eq_false h1
  have h2 := of_decide_eq_false h2
  exact decide_eq_false (by omega)
 ·have h := of_decide_eq_true h
  exact decide_eq_false (by omega)
theorem intsAre_len' : ∀ {vs : List Value} {ns : List Int}, IntsAre vs ns → vs.length = ns.length := by
 intro vs ns h
 induction h with
 | nil => rfl
 | cons n t _ ih => simp [ih]
theorem intsAre_atD {vs : List Value} {ns : List Int} (h : IntsAre vs ns) {i : Nat} (hi : i < vs.length) : ∃ t, vs.getD i Value.none = .int (ns.getD i 0) t := by
 obtain ⟨t, e⟩ := h.int_at i vs[i] (List.getElem?_eq_getElem hi)
 refine ⟨t, ?_⟩
 rw [List.getD_eq_getElem?_getD, List.getElem?_eq_getElem hi]
 exact e
theorem intsAre_memS {vs : List Value} {ns : List Int} (h : IntsAre vs ns) : ∀ v ∈ vs, ∃ n t, v = Value.int n t := by
 induction h with
 | nil => intro v m; cases m
 | cons n t _ ih =>
  intro v m
  rcases List.mem_cons.mp m with rfl | m
  ·exact ⟨n, t, rfl⟩
  ·exact ih v m
section
variable {prog : Program} {w : World} {A : Around} {E : Value → Shared → Prop} {s : Shared}
theorem sort_ints {D : Addr} {h1 : Heap} {vs : List Value} {ks : List Int} {Q : Value → Shared → Prop} (hoL : h1.get? D = some (seqObj "list" vs.toArray 0)) (hk : IntsAre vs ks) (h64 : vs.length < 64) (keep : ∀ b o, s.heap.get? b = some o → h1.get? b = some o) (nD : ∀ b o, s.heap.get? b = some o → b ≠ D)
  (h : ∀ (h' : Heap) (p : List Nat) (c : Nat), (∀ b o, s.heap.get? b = some o → h'.get? b = some o) → h'.get? D = some (seqObj "list" (p.map fun i => vs.getD i Value.none).toArray c) → p.Perm (List.range vs.length) →
   p.Pairwise (fun i j => decide (ks.getD j 0 < ks.getD i 0) = false) → Q (.ref D) { s with heap := h' }) :
  wpAny (model prog w) A.in1 (holding [.ref D] (call (.builtin "list.sort") [.ref D] []) >>= fun _ => (ret (.ref D) : Sem PySem.Fin)) (fun fin s' => ∃ v, fin = .done (.ret v) ∧ Q v s') E { s with heap := h1 } := by
 refine wpAny_bind (wpAny_holding (wpAny_call_entry slot_list_sort ⟨_, hoL, rfl⟩ entry_list_sort ?body (args_list_sort _)))
 case body =>
  have hD : D < h1.objs.size := Heap.lt_size hoL
  have s1 := Heap.SameBut.update h1 D (Obj.mapSeq fun _ => (#[] : Array Value))
  obtain ⟨e1, ho1⟩ : ∃ e1, (h1.update D (Obj.mapSeq fun _ => (#[] : Array Value))).get? D = some (seqObj "list" #[] e1) := ⟨_, get?_update_seq hoL fun _ => #[]⟩
  have keep2 : ∀ b o, s.heap.get? b = some o → (((h1.update D (Obj.mapSeq fun _ => (#[] : Array Value))).push (seqObj "tuple" vs.toArray 0)).push (seqObj "list" #[] 0)).get? b = some o := fun b o q => by
   have hb : b ≠ D := nD b o q
   exact Heap.get?_push_of_some _ (Heap.get?_push_of_some _ ((s1.2 b hb).trans (keep b o q)))
  have ho6 : (((h1.update D (Obj.mapSeq fun _ => (#[] : Array Value))).push (seqObj "tuple" vs.toArray 0)).push (seqObj "list" #[] 0)).get? D = some (seqObj "list" #[] e1) := Heap.get?_push_of_some _ (Heap.get?_push_of_some _ ho1)
  rw [list_sort_plain]
  refine wpAny_bind (listItems_at (s := { s with heap := h1 }) hoL rfl ?_)
  refine wpAny_bind (listUpdate_at (s := { s with heap := h1 }) hoL rfl ?_ (by rw [List.size_toArray, sizeLine_eq]; omega) (Nat.zero_le _))
  refine wpAny_bind (seqEpoch_at ho1 rfl ?_)
  refine wpAny_bind (wpAny_newTuple ?_ (by show vs.length ≤ _; rw [sizeLine_eq]; omega))
  refine wpAny_bind (wpAny_newList ?_ (Nat.zero_le _))
  refine wpAny_holding ?_
  show wpAny (model prog w) _ _ _ E { s with heap := ((h1.update D (Obj.mapSeq fun _ => (#[] : Array Value))).push (seqObj "tuple" vs.toArray 0)).push (seqObj "list" #[] 0) }
  dsimp only
  generalize ((h1.update D (Obj.mapSeq fun _ => (#[] : Array Value))).push (seqObj "tuple" vs.toArray 0)).push (seqObj "list" #[] 0) = h2 at keep2 ho6 ⊢
  have last : ∀ (st' : SortSt) (p : List Nat), (arrOf st').map (·.2) = (p.map fun i => vs.getD i Value.none).toArray → failedOf st' = none → p.Perm (List.range vs.length) → p.Pairwise (fun i j => decide (ks.getD j 0 < ks.getD i 0) = false) →
    wpAny (model prog w) A.in1.in1 (do
     let touched := (← seqEpoch D) != e1
     Builtin.List.listUpdate (.ref D) fun _ => (arrOf st').map (·.2)
     if let some e := failedOf st' then rule "list.sort.comparison-raised"; throw e
     if touched then rule "list.sort.modified"; raiseError "ValueError" "list modified during sort"
     ret .none : Sem PySem.Fin) (fun fin s' => ∃ v, fin = .done (.ret v) ∧ wpAny (model prog w) A.in1 (pure (.done (.ret (.ref D))) : Sem PySem.Fin) (fun fin s' => ∃ v, fin = .done (.ret v) ∧ Q v s') E s') E { s with heap := h2 } := by
   intro st' p hout hf hp hs
   have hsz3 : ((p.map fun i => vs.getD i Value.none).toArray).size = vs.length := by rw [List.size_toArray, List.length_map, hp.length_eq, List.length_range]
   have s2 := Heap.SameBut.update h2 D (Obj.mapSeq fun _ => (p.map fun i => vs.getD i Value.none).toArray)
   obtain ⟨c2, hc2⟩ : ∃ c2, (h2.update D (Obj.mapSeq fun _ => (p.map fun i => vs.getD i Value.none).toArray)).get? D = some (seqObj "list" (p.map fun i => vs.getD i Value.none).toArray c2) := ⟨_, get?_update_seq ho6 fun _ => _⟩
   rw [hout, hf]
   refine wpAny_bind (seqEpoch_at ho6 rfl ?_)
   refine wpAny_bind (listUpdate_at (s := { s with heap := h2 }) ho6 rfl ?_ (Nat.zero_le _) (Nat.le_trans (Nat.le_of_eq hsz3) (by rw [sizeLine_eq]; omega)))
   simp only [bne_self_eq_false, Bool.false_eq_true, if_false]
   exact wpAny_pure ⟨_, rfl, wpAny_pure ⟨_, rfl, h _ p c2 (fun b o q => by
    have hb : b ≠ D := nD b o q
    exact (s2.2 b hb).trans (keep2 b o q)) hc2 hp hs⟩⟩
  by_cases h2' : vs.toArray.size < 2
  ·rw [if_pos h2', if_pos h2']
   refine wpAny_bind (wpAny_pure ?_)
   rw [StateT.run_pure]
   refine wpAny_bind (wpAny_pure ?_)
   have hlen : vs.length < 2 := by simpa using h2'
   refine last (SortSt.mk' general' (vs.toArray.zip vs.toArray) #[] 7 none) (List.range vs.length) ?_ rfl (List.Perm.refl _) ?_
   ·show (vs.toArray.zip vs.toArray).map (·.2) = _
    match vs, hlen with
    | [], _ => simp
    | [_], _ => simp
   ·match hn : vs.length, hlen with
    | 0, _ => exact .nil
    | 1, _ => exact List.pairwise_singleton _ _
  ·rw [if_neg h2', if_neg h2']
   have hlen : 2 ≤ vs.length := by simp at h2'; omega
   refine wpAny_bind (kas_kind (T := .type "int") hlen (fun v hv => by obtain ⟨i, t, rfl⟩ := intsAre_memS hk v hv; exact .of_pure rfl) (by decide +kernel) (by decide +kernel) ?_)
   have gd := gd_sort (n := vs.length) (tpre_int fun i => ks.getD i 0) (by omega)
   refine wpAny_bind (wpAny_mono (kat_run (κ := oneType') (vs := vs) (ks := vs) (Q := fun st' s' => ∃ p : Array Nat, p.size = vs.length ∧ arrOf st' = p.map (kas_item (vs.toArray.zip vs.toArray)) ∧ failedOf st' = none ∧ s' = { s with heap := h2 } ∧ Pmn vs.length p ∧ Up (fun i j => decide (ks.getD i 0 < ks.getD j 0)) p vs.length)
    (G := fun p s' => s' = { s with heap := h2 } ∧ Pmn vs.length p ∧ Up (fun i j => decide (ks.getD i 0 < ks.getD j 0)) p vs.length)
    rfl hlen h64 (fun p' st' s' a1 a2 a3 a4 => ⟨p', a1, a2, a3, a4⟩) (gd.wp (fun i j C hi hj hC => by
     obtain ⟨t1, e1⟩ := intsAre_atD hk hi
     obtain ⟨t2, e2⟩ := intsAre_atD hk hj
     show wpAny _ _ (keyLt' oneType' (vs.getD i Value.none) (vs.getD j Value.none)) _ _ _
     rw [e1, e2]
     exact kat_lt_int hC) fun p hp => ⟨rfl, hp⟩)) ?_ fun _ _ x => x)
   rintro ⟨⟨⟩, st'⟩ s' ⟨p, hp, har, hf, rfl, hP, hU⟩
   refine last st' p.toList (kat_snds rfl har) hf hP ?_
   rw [List.pairwise_iff_getElem]
   intro i j hi hj hij
   have hU' := hU i j (by omega) (by rw [← hp]; simpa using hj)
   simp only [Array.length_toList] at hi hj
   have e1 : ga p i = p[i] := by unfold ga; simp [Array.getD, hi]
   have e2 : ga p j = p[j] := by unfold ga; simp [Array.getD, hj]
   rw [e1, e2] at hU'
   simpa using hU'
theorem pw_get {ks : List Int} {p : List Nat} (hd : ks.Nodup) (hp : p.Perm (List.range ks.length)) (hs : p.Pairwise (fun i j => decide (ks.getD j 0 < ks.getD i 0) = false)) : (p.map fun i => ks.getD i 0).Pairwise (· < ·) ∧ ∀ k, k ∈ (p.map fun i => ks.getD i 0) ↔ k ∈ ks := by
 have hpm : (p.map fun i => ks.getD i 0).Perm ks := by
  have := hp.map fun i => ks.getD i 0
  refine this.trans (.of_eq ?_)
  apply List.ext_getElem
  ·simp
  ·intro i h1 h2
   simp [h2]
 have hnd : (p.map fun i => ks.getD i 0).Nodup := hpm.nodup_iff.mpr hd
 refine ⟨?_, fun k => hpm.mem_iff⟩
 rw [List.pairwise_map]
 rw [List.nodup_iff_pairwise_ne, List.pairwise_map] at hnd
 refine (hs.and hnd).imp ?_
 intro i j ⟨h1, h2⟩
 have := of_decide_eq_false h1
 omega
theorem vals_ints' : ∀ {vs : List Value} {ks : List Int} (p : List Nat), IntsAre vs ks → (∀ i ∈ p, i < vs.length) → Vals ((p.map fun i => ks.getD i 0).map V.int) (p.map fun i => vs.getD i Value.none)
 | _, _, [], _, _ => .nil
 | vs, ks, i :: p, r, h => by
  obtain ⟨t, e⟩ := intsAre_atD r (h i (by simp))
  exact .cons ⟨t, e⟩ (vals_ints' p r fun j hj => h j (by simp [hj]))
theorem sorted_set {a : Addr} {L : List Int} {Q : Value → Shared → Prop} (S : SetR w s.heap a L) (hh : A.handled = none) (h64 : L.length < 64)
  (h : ∀ (s' : Shared) (D : Addr) (vs : List Value) (ks : List Int) (c : Nat), (∀ b o, s.heap.get? b = some o → s'.heap.get? b = some o) → s'.gens = s.gens → s'.os = s.os → s.heap.objs.size ≤ D → s'.heap.get? D = some (seqObj "list" vs.toArray c) → Vals (ks.map V.int) vs → vs.length < 64 → ks.Pairwise (· < ·) → (∀ k, k ∈ ks ↔ k ∈ L) → Q (.ref D) s') :
  wpAny (model prog w) A (call (.builtin "sorted") [.ref a]) Q E s := by
 refine Calls.call_function_entry kind_sorted plain_sorted entry_sorted (args_sorted1 _) ?_
 unfold Builtin.«sorted»
 refine wpAny_bind (m := checkCount "sorted" 1 1 _) (wpAny_pure ?_)
 refine wpAny_bind (collect_set (A := A.in1) S hh fun s1 vs ks kp hg hos hsz hi hd hL => ?_)
 have hle : vs.length < 64 := by
  have := nodup_le ks L hd fun x m => (hL x).mp m
  rw [intsAre_len' hi]
  omega
 refine wpAny_bind (wpAny_newList ?_ (by rw [sizeLine_eq]; omega))
 refine sort_ints (s := s1) (h1 := s1.heap.push (seqObj "list" vs.toArray 0)) (Heap.get?_push_size _ rfl) hi hle (fun b o e => Heap.get?_push_of_some _ e) (fun b o e => Nat.ne_of_lt (Heap.lt_size e)) fun h' p c kp2 hD hp hs => ?_
 have hp2 : p.Perm (List.range ks.length) := by rw [← intsAre_len' hi]; exact hp
 obtain ⟨q1, q2⟩ := pw_get hd hp2 hs
 exact h { s1 with heap := h' } s1.heap.objs.size _ _ c (fun b o e => kp2 b o (kp b o e)) hg hos (Nat.le_of_lt hsz) hD (vals_ints' p hi fun i m => List.mem_range.mp (hp.mem_iff.mp m)) (by rw [List.length_map, hp.length_eq, List.length_range]; exact hle) q1 fun k => (q2 k).trans (hL k)
end
def tSortS (K : W.Frag) (ta : TA) : TE := fun σ H Q => ta σ H fun xs H1 => ∃ (a : Addr) (ns : List Int), xs = [.ref a] ∧ SqL K H1 a (ns.map V.int) ∧ ns.length < 64 ∧
 ∀ l (ks : List Int), H1 l = none → ks.Pairwise (· < ·) → (∀ k, k ∈ ks ↔ k ∈ ns) → Q (.ref l) (upd H1 l (.lst (ks.map V.int)))
theorem bt_set : bootBuiltins "set" = some (.type "set") := by decide +kernel
section
variable {X : Cx}
theorem Inv.laidD {pins : List (Addr × Obj)} {σ : St} {H : Hp} {s s' : Shared} {a : Addr} {o : HO} (I : Inv X pins σ H s) (k : ∀ b u, s.heap.get? b = some u → s'.heap.get? b = some u) (hg : s'.gens = s.gens) (hos : s'.os = s.os) (hp : s.heap.objs.size ≤ a) (new : ObjOk X.prog X.w (upd H a o) s'.heap a o) : Inv X pins σ (upd H a o) s' := by
 have J := I.laid (t' := s'.toks) k hp new
 have hb : AllBare s'.gens := by rw [hg]; exact I.bare
 obtain ⟨ok, os, bare, base, loc, cell, free, freeC, pin, hok, len⟩ := J
 exact ⟨ok, hos.trans I.os, hb, base, loc, cell, free, freeC, pin, hok, len⟩
theorem pe_sortS {e : Expr} {p p2 pos pos2 : Pos} {ta : TA} (hcalm : X.calm = true) (hg : Gl X "sorted") (hm : X.mg "sorted" = none) (hg2 : Gl X "set") (hm2 : X.mg "set" = none) (ha : PA X [e] ta)
  (he : starEach [Expr.Call (.Name "set" p2) [e] [] pos2] X.env = (false, eval (.Call (.Name "set" p2) [e] [] pos2) X.env) :: starEach [] X.env := by rfl) (hplain : (backTo pos (starEach [] X.env)).any (·.1) = false := by rfl)
  (he2 : starEach [e] X.env = (false, eval e X.env) :: starEach [] X.env := by rfl) (hpl2 : (backTo pos2 (starEach [] X.env)).any (·.1) = false := by rfl) :
  PE X (.Call (.Name "sorted" p) [.Call (.Name "set" p2) [e] [] pos2] [] pos) (tSortS X.K ta) := by
 intro pins s σ H Q I h
 have hh : X.A.handled = none := I.ok.hd hcalm
 refine wpAny_Call_Name_kw (ld_blt I hg hm bt_sorted ?_)
 refine PyProof.Rows.callWith_builtin1 ?_ he hplain
 rw [he]
 show wpAny _ _ (spliced ((false, eval (.Call (.Name "set" p2) [e] [] pos2) X.env) :: backTo pos (starEach [] X.env))) _ _ s
 refine Calls.spliced_cons ?_
 refine wpAny_Call_Name_kw (ld_blt I hg2 hm2 bt_set ?_)
 refine PyProof.Rows.callWith_type1 (thn (ha pos2 pins s σ H _ I h) fun us s1 ⟨vs, H1, I1, r1, a, ns, e1, hq, h64, q⟩ => ?_) he2 hpl2
 subst e1
 obtain ⟨u, rfl, ru⟩ := r1.one
 cases (show u = Value.ref a from ru)
 obtain ⟨its, rv, pl, hz⟩ := I1.list hq
 obtain ⟨ps, rfl, ep⟩ := ints_items rv
 have hi := intsAre_map' ps
 have hln : ps.length = ns.length := by rw [← ep]; simp
 refine call_set_R (A := X.A) hh pl.isList (by simpa using hi) (by simp [hln]; show _ < 4096; omega) fun s2 SR kp hg2 hd2 ho2 => ?_
 refine Calls.spliced_nil ?_
 refine sorted_set SR hh (by rw [ep]; exact h64) fun s3 D vs ks c kp2 hg3 ho3 hD hDo rvs hlen hpw hmem => ?_
 have hsz : s1.heap.objs.size ≤ D := by
  obtain ⟨o, es, ep', t, ho, _⟩ := SR.ex
  exact Nat.le_trans (Nat.le_of_lt (Heap.lt_size ho)) hD
 refine ⟨.ref D, upd H1 D (.lst (ks.map V.int)), I1.laidD (s' := s3) (fun b o e => kp2 b o (kp b o e)) (hg3.trans hg2) (ho3.trans ho2) hsz ?_, rfl, q D ks (I1.hok.fresh hsz) hpw fun k => by rw [hmem k, ep]⟩
 refine ⟨?_, vs, c, rvs, hDo⟩
 rw [rvs.length, sizeLine_eq]
 omega
end
inductive D where
 | non | bl (b : Bool) | int (i : Int) | str (x : Str) | ty (n : String) | cls (n : Str) | tup (ds : List D) | lst (ds : List D) | scr (ns : List Int) | exc (c : Str) | obj (c : Str) (ns : List Str) (ds : List D)
mutual
def Rp (K : W.Frag) (cl : Str → Addr) (F : Hp) : D → V → Prop
 | .non, v => v = .non
 | .bl b, v => v = .bl b
 | .int i, v => v = .int i
 | .str x, v => v = .str x
 | .ty n, v => v = .ty n
 | .cls n, v => v = .ref (cl n)
 | .tup ds, v => ∃ a xs, v = .ref a ∧ F a = some (.tup xs) ∧ Rps K cl F ds xs
 | .lst ds, v => ∃ a xs, v = .ref a ∧ F a = some (.lst xs) ∧ Rps K cl F ds xs
 | .scr ns, v => ∃ a, v = .ref a ∧ Scr K F a (ns.map V.int)
 | .exc c, v => ∃ a cx, v = .ref a ∧ F a = some (ExcO a (.ref (cl c)) cx)
 | .obj c ns ds, v => ∃ a dx xs, v = .ref a ∧ F a = some (.ins (cl c) dx (ns.zip xs)) ∧ ns.length = xs.length ∧ Rps K cl F ds xs
def Rps (K : W.Frag) (cl : Str → Addr) (F : Hp) : List D → List V → Prop
 | [], vs => vs = []
 | d :: ds, vs => ∃ v r, vs = v :: r ∧ Rp K cl F d v ∧ Rps K cl F ds r
end
section
variable {K : W.Frag} {cl : Str → Addr} {F F' H H' : Hp}
mutual
theorem Rp.mono (g : Same F F') : ∀ (d : D) (v : V), Rp K cl F d v → Rp K cl F' d v
 | .non, _, h => by simpa only [Rp] using h
 | .bl _, _, h => by simpa only [Rp] using h
 | .int _, _, h => by simpa only [Rp] using h
 | .str _, _, h => by simpa only [Rp] using h
 | .ty _, _, h => by simpa only [Rp] using h
 | .cls _, _, h => by simpa only [Rp] using h
 | .tup ds, v, h => by
  simp only [Rp] at h ⊢
  obtain ⟨a, xs, e, h1, h2⟩ := h
  exact ⟨a, xs, e, g _ _ h1, Rps.mono g ds xs h2⟩
 | .lst ds, v, h => by
  simp only [Rp] at h ⊢
  obtain ⟨a, xs, e, h1, h2⟩ := h
  exact ⟨a, xs, e, g _ _ h1, Rps.mono g ds xs h2⟩
 | .scr ns, v, h => by
  simp only [Rp] at h ⊢
  obtain ⟨a, e, h1⟩ := h
  exact ⟨a, e, h1.same g⟩
 | .exc c, v, h => by
  simp only [Rp] at h ⊢
  obtain ⟨a, cx, e, h1⟩ := h
  exact ⟨a, cx, e, g _ _ h1⟩
 | .obj c ns ds, v, h => by
  simp only [Rp] at h ⊢
  obtain ⟨a, dx, xs, e, h1, hl, h2⟩ := h
  exact ⟨a, dx, xs, e, g _ _ h1, hl, Rps.mono g ds xs h2⟩
theorem Rps.mono (g : Same F F') : ∀ (ds : List D) (vs : List V), Rps K cl F ds vs → Rps K cl F' ds vs
 | [], _, h => by simpa only [Rps] using h
 | d :: ds, vs, h => by
  simp only [Rps] at h ⊢
  obtain ⟨v, r, e, h1, h2⟩ := h
  exact ⟨v, r, e, Rp.mono g d v h1, Rps.mono g ds r h2⟩
end
theorem Rps.nil : Rps K cl F [] [] := by simp only [Rps]
theorem Rps.cons {d : D} {v : V} {ds : List D} {vs : List V} (h : Rp K cl F d v) (t : Rps K cl F ds vs) : Rps K cl F (d :: ds) (v :: vs) := by simp only [Rps]; exact ⟨v, vs, rfl, h, t⟩
theorem Rps.inv {d : D} {ds : List D} {vs : List V} (h : Rps K cl F (d :: ds) vs) : ∃ v r, vs = v :: r ∧ Rp K cl F d v ∧ Rps K cl F ds r := by simpa only [Rps] using h
theorem Rps.inv0 {vs : List V} (h : Rps K cl F [] vs) : vs = [] := by simpa only [Rps] using h
theorem Rps.length : ∀ {ds : List D} {vs : List V}, Rps K cl F ds vs → ds.length = vs.length
 | [], vs, h => by rw [h.inv0]; rfl
 | d :: ds, vs, h => by obtain ⟨v, r, rfl, _, t⟩ := h.inv; simp [t.length]
theorem Rps.get : ∀ {ds : List D} {vs : List V} {i : Nat} {d : D}, Rps K cl F ds vs → ds[i]? = some d → ∃ v, vs[i]? = some v ∧ Rp K cl F d v
 | [], _, _, _, _, e => by simp at e
 | d :: ds, vs, 0, x, h, e => by
  obtain ⟨v, r, rfl, h1, _⟩ := h.inv
  simp at e; subst e
  exact ⟨v, rfl, h1⟩
 | d :: ds, vs, i + 1, x, h, e => by
  obtain ⟨v, r, rfl, _, t⟩ := h.inv
  obtain ⟨u, h1, h2⟩ := t.get (i := i) (d := x) (by simpa using e)
  exact ⟨u, by simpa using h1, h2⟩
theorem Rps.get' {ds : List D} {vs : List V} {i : Nat} {v : V} (h : Rps K cl F ds vs) (e : vs[i]? = some v) : ∃ d, ds[i]? = some d ∧ Rp K cl F d v := by
 have hi : i < ds.length := by
  have := (List.getElem?_eq_some_iff.mp e).1
  rw [h.length]; exact this
 obtain ⟨u, h1, h2⟩ := h.get (List.getElem?_eq_getElem hi)
 rw [e] at h1; cases h1
 exact ⟨_, List.getElem?_eq_getElem hi, h2⟩
theorem Rps.append : ∀ {ds es : List D} {vs us : List V}, Rps K cl F ds vs → Rps K cl F es us → Rps K cl F (ds ++ es) (vs ++ us)
 | [], _, _, _, h, t => by rw [h.inv0]; exact t
 | d :: ds, _, _, _, h, t => by obtain ⟨v, r, rfl, h1, h2⟩ := h.inv; exact .cons h1 (h2.append t)
theorem Rps.one {d : D} {v : V} (h : Rp K cl F d v) : Rps K cl F [d] [v] := .cons h .nil
theorem Rps.set {d : D} {v : V} (r : Rp K cl F d v) : ∀ {ds : List D} {vs : List V} (i : Nat), Rps K cl F ds vs → Rps K cl F (ds.set i d) (vs.set i v)
 | [], _, _, h => by rw [h.inv0]; exact .nil
 | _ :: _, _, 0, h => by obtain ⟨_, _, rfl, _, h2⟩ := h.inv; exact .cons r h2
 | _ :: _, _, i + 1, h => by obtain ⟨_, _, rfl, h1, h2⟩ := h.inv; exact .cons h1 (h2.set r i)
theorem Rps.drop : ∀ {ds : List D} {vs : List V} (n : Nat), Rps K cl F ds vs → Rps K cl F (ds.drop n) (vs.drop n)
 | _, _, 0, h => h
 | [], _, _ + 1, h => by rw [h.inv0]; exact .nil
 | _ :: _, _, n + 1, h => by obtain ⟨_, _, rfl, _, h2⟩ := h.inv; exact h2.drop n
theorem Rps.take : ∀ {ds : List D} {vs : List V} (n : Nat), Rps K cl F ds vs → Rps K cl F (ds.take n) (vs.take n)
 | _, _, 0, h => .nil
 | [], _, _ + 1, h => by rw [h.inv0]; exact .nil
 | _ :: _, _, n + 1, h => by obtain ⟨_, _, rfl, h1, h2⟩ := h.inv; exact .cons h1 (h2.take n)
theorem Rps.ints : ∀ {ns : List Int} {vs : List V}, Rps K cl F (ns.map D.int) vs → vs = ns.map V.int
 | [], _, h => h.inv0
 | n :: ns, _, h => by
  obtain ⟨v, r, rfl, h1, h2⟩ := h.inv
  rw [h2.ints]
  simp only [Rp] at h1
  rw [h1]; rfl
theorem Rps.ofInts : ∀ {ns : List Int}, Rps K cl F (ns.map D.int) (ns.map V.int)
 | [] => .nil
 | _ :: _ => .cons (by simp only [Rp]) Rps.ofInts
theorem Rps.bls : ∀ {bs : List Bool} {vs : List V}, Rps K cl F (bs.map D.bl) vs → vs = bs.map V.bl
 | [], _, h => h.inv0
 | n :: ns, _, h => by
  obtain ⟨v, r, rfl, h1, h2⟩ := h.inv
  rw [h2.bls]
  simp only [Rp] at h1
  rw [h1]; rfl
theorem Rps.strs : ∀ {bs : List Str} {vs : List V}, Rps K cl F (bs.map D.str) vs → vs = bs.map V.str
 | [], _, h => h.inv0
 | n :: ns, _, h => by
  obtain ⟨v, r, rfl, h1, h2⟩ := h.inv
  rw [h2.strs]
  simp only [Rp] at h1
  rw [h1]; rfl
end
inductive Sl where | no | fz (d : D) | ow (ds : List D) | hd (ds : List D)
abbrev DE := List Sl
def Mu (env : DE) (i : Nat) : Prop := ∃ ds : List D, env[i]? = some (.ow ds) ∨ env[i]? = some (.hd ds)
def Ow (σ : St) (env : DE) (a : Addr) : Prop := ∃ (i : Nat) (ds : List D), env[i]? = some (Sl.ow ds) ∧ σ[i]? = some (some (V.ref a))
structure Rel (K : W.Frag) (cl : Str → Addr) (σ : St) (H F : Hp) (env : DE) : Prop where
 sub : Same F H
 len : σ.length = env.length
 fz : ∀ (i : Nat) (d : D), env[i]? = some (.fz d) → ∃ v, σ[i]? = some (some v) ∧ Rp K cl F d v
 mu : ∀ (i : Nat) (ds : List D), (env[i]? = some (.ow ds) ∨ env[i]? = some (.hd ds)) → ∃ a xs, σ[i]? = some (some (.ref a)) ∧ H a = some (.lst xs) ∧ F a = none ∧ Rps K cl F ds xs
 inj : ∀ (i j : Nat) (a : Addr), Mu env i → Mu env j → σ[i]? = some (some (.ref a)) → σ[j]? = some (some (.ref a)) → i = j
structure Frm (σ : St) (H F : Hp) (env : DE) (σ' : St) (H' F' : Hp) (env' : DE) : Prop where
 fz : Same F F'
 hid : ∀ a o, H a = some o → F a = none → ¬ Ow σ env a → H' a = some o ∧ F' a = none ∧ ¬ Ow σ' env' a
 keep : ∀ (i : Nat) (ds : List D), env[i]? = some (.hd ds) → env'[i]? = some (.hd ds) ∧ σ'[i]? = σ[i]?
 dom : ∀ a, H' a = none → H a = none
structure Gr (H F H' F' : Hp) : Prop where
 fz : Same F F'
 sub : Same F' H'
 hid : ∀ a o, H a = some o → F a = none → H' a = some o ∧ F' a = none
section
variable {K : W.Frag} {cl : Str → Addr} {σ σ' σ'' : St} {H H' H'' F F' F'' : Hp} {env env' env'' : DE}
theorem Frm.refl : Frm σ H F env σ H F env := ⟨Same.refl _, fun _ _ h f o => ⟨h, f, o⟩, fun _ _ h => ⟨h, rfl⟩, fun _ h => h⟩
theorem Frm.trans (a : Frm σ H F env σ' H' F' env') (b : Frm σ' H' F' env' σ'' H'' F'' env'') : Frm σ H F env σ'' H'' F'' env'' :=
 ⟨a.fz.trans b.fz, fun x o h f w => by obtain ⟨h1, f1, w1⟩ := a.hid x o h f w; exact b.hid x o h1 f1 w1,
  fun i ds h => by obtain ⟨h1, e1⟩ := a.keep i ds h; obtain ⟨h2, e2⟩ := b.keep i ds h1; exact ⟨h2, e2.trans e1⟩, fun x h => a.dom x (b.dom x h)⟩
theorem Gr.dom (g : Gr H F H' F') (a : Addr) (h : H' a = none) : H a = none := by
 cases e : H a with
 | none => rfl
 | some o =>
  cases f : F a with
  | none => rw [(g.hid a o e f).1] at h; cases h
  | some u => rw [g.sub _ _ (g.fz _ _ f)] at h; cases h
theorem Rel.gr (R : Rel K cl σ H F env) (g : Gr H F H' F') : Rel K cl σ H' F' env :=
 ⟨g.sub, R.len, fun i d h => by obtain ⟨v, e, r⟩ := R.fz i d h; exact ⟨v, e, r.mono g.fz⟩,
  fun i ds h => by obtain ⟨a, xs, e, hH, hF, r⟩ := R.mu i ds h; obtain ⟨h1, f1⟩ := g.hid a _ hH hF; exact ⟨a, xs, e, h1, f1, r.mono g.fz⟩, R.inj⟩
theorem Rel.frm (R : Rel K cl σ H F env) (g : Gr H F H' F') : Frm σ H F env σ H' F' env :=
 ⟨g.fz, fun a o h f w => by obtain ⟨h1, f1⟩ := g.hid a o h f; exact ⟨h1, f1, w⟩, fun _ _ h => ⟨h, rfl⟩, g.dom⟩
theorem Gr.refl (s : Same F H) : Gr H F H F := ⟨Same.refl _, s, fun _ _ h f => ⟨h, f⟩⟩
theorem Gr.trans (a : Gr H F H' F') (b : Gr H' F' H'' F'') : Gr H F H'' F'' := ⟨a.fz.trans b.fz, b.sub, fun x o h f => by obtain ⟨h1, f1⟩ := a.hid x o h f; exact b.hid x o h1 f1⟩
theorem Gr.new {p : Addr} {o : HO} (s : Same F H) (hp : H p = none) : Gr H F (upd H p o) (upd F p o) := by
 have fp : F p = none := s.free hp
 refine ⟨same_new fp o, fun b u e => ?_, fun a u e f => ?_⟩
 ·by_cases z : b = p
  ·subst z; rw [upd_same] at e ⊢; exact e
  ·rw [upd_ne z] at e ⊢; exact s _ _ e
 ·have z : a ≠ p := fun z => by rw [z, hp] at e; cases e
  rw [upd_ne z, upd_ne z]; exact ⟨e, f⟩
theorem Rel.freeze {i : Nat} {ds : List D} (R : Rel K cl σ H F env) (h : env[i]? = some (.ow ds)) : ∃ a F', σ[i]? = some (some (.ref a)) ∧ Frm σ H F env σ H F' (env.set i (.fz (.lst ds))) ∧ Rel K cl σ H F' (env.set i (.fz (.lst ds))) ∧ Rp K cl F' (.lst ds) (.ref a) := by
 obtain ⟨a, xs, e, hH, hF, r⟩ := R.mu i ds (.inl h)
 have hi : i < env.length := (List.getElem?_eq_some_iff.mp h).1
 have sF : Same F (upd F a (.lst xs)) := same_new hF _
 have oth : ∀ j, j ≠ i → (env.set i (.fz (.lst ds)))[j]? = env[j]? := fun j hj => List.getElem?_set_ne (Ne.symm hj)
 have self : (env.set i (.fz (.lst ds)))[i]? = some (.fz (.lst ds)) := List.getElem?_set_self hi
 have mui : ∀ j, Mu (env.set i (.fz (.lst ds))) j → j ≠ i ∧ Mu env j := fun j ⟨es, q⟩ => by
  by_cases z : j = i
  ·subst z; rw [self] at q; rcases q with q | q <;> cases q
  ·rw [oth j z] at q; exact ⟨z, es, q⟩
 have rl : Rp K cl (upd F a (.lst xs)) (.lst ds) (.ref a) := by simp only [Rp]; exact ⟨a, xs, rfl, upd_same, r.mono sF⟩
 refine ⟨a, upd F a (.lst xs), e, ⟨sF, fun b o hb fb w => ?_, fun j es q => ?_, fun _ h => h⟩, ⟨fun b o q => ?_, by rw [List.length_set]; exact R.len, fun j d q => ?_, fun j es q => ?_, fun j k b hj hk e1 e2 => R.inj j k b (mui j hj).2 (mui k hk).2 e1 e2⟩, rl⟩
 ·have z : b ≠ a := fun z => w ⟨i, ds, h, by rw [z]; exact e⟩
  refine ⟨hb, by rw [upd_ne z]; exact fb, fun ⟨j, es, q, e1⟩ => ?_⟩
  by_cases y : j = i
  ·subst y; rw [self] at q; cases q
  ·rw [oth j y] at q; exact w ⟨j, es, q, e1⟩
 ·have z : j ≠ i := fun z => by subst z; rw [h] at q; cases q
  exact ⟨by rw [oth j z]; exact q, rfl⟩
 ·by_cases z : b = a
  ·subst z; rw [upd_same] at q; cases q; exact hH
  ·rw [upd_ne z] at q; exact R.sub _ _ q
 ·by_cases z : j = i
  ·subst z; rw [self] at q; cases q; exact ⟨_, e, rl⟩
  ·rw [oth j z] at q; obtain ⟨v, e1, r1⟩ := R.fz j d q; exact ⟨v, e1, r1.mono sF⟩
 ·have z : j ≠ i := (mui j ⟨es, q⟩).1
  rw [oth j z] at q
  obtain ⟨b, ys, e1, h1, f1, r1⟩ := R.mu j es q
  have nb : b ≠ a := fun y => z (R.inj j i b ⟨es, q⟩ ⟨ds, .inl h⟩ e1 (by rw [y]; exact e))
  exact ⟨b, ys, e1, h1, by rw [upd_ne nb]; exact f1, r1.mono sF⟩
theorem Rel.put {i : Nat} {d : D} {v : V} (R : Rel K cl σ H F env) (hi : i < env.length) (nh : ∀ ds, env[i]? ≠ some (.hd ds)) (r : Rp K cl F d v) : Rel K cl (σ.set i (some v)) H F (env.set i (.fz d)) := by
 refine ⟨R.sub, by rw [List.length_set, List.length_set]; exact R.len, fun j e q => ?_, fun j es q => ?_, fun j k b hj hk e1 e2 => ?_⟩
 ·by_cases z : j = i
  ·subst z
   rw [List.getElem?_set_self hi] at q; cases q
   exact ⟨v, List.getElem?_set_self (by rw [R.len]; exact hi), r⟩
  ·rw [List.getElem?_set_ne (Ne.symm z)] at q
   obtain ⟨u, e1, r1⟩ := R.fz j e q
   exact ⟨u, by rw [List.getElem?_set_ne (Ne.symm z)]; exact e1, r1⟩
 ·have z : j ≠ i := fun z => by
   subst z
   rw [List.getElem?_set_self hi] at q
   rcases q with q | q <;> cases q
  rw [List.getElem?_set_ne (Ne.symm z)] at q
  obtain ⟨a, xs, e1, h1, f1, r1⟩ := R.mu j es q
  exact ⟨a, xs, by rw [List.getElem?_set_ne (Ne.symm z)]; exact e1, h1, f1, r1⟩
 ·have nz : ∀ j, Mu (env.set i (.fz d)) j → j ≠ i ∧ Mu env j := fun j ⟨es, q⟩ => by
   by_cases z : j = i
   ·subst z
    rw [List.getElem?_set_self hi] at q
    rcases q with q | q <;> cases q
   ·rw [List.getElem?_set_ne (Ne.symm z)] at q; exact ⟨z, es, q⟩
  obtain ⟨zj, mj⟩ := nz j hj
  obtain ⟨zk, mk⟩ := nz k hk
  rw [List.getElem?_set_ne (Ne.symm zj)] at e1
  rw [List.getElem?_set_ne (Ne.symm zk)] at e2
  exact R.inj j k b mj mk e1 e2
theorem Rel.putO {i : Nat} {ds : List D} {a : Addr} {xs : List V} (R : Rel K cl σ H F env) (hi : i < env.length) (hH : H a = some (.lst xs)) (hF : F a = none) (na : ∀ j, Mu env j → σ[j]? ≠ some (some (.ref a))) (r : Rps K cl F ds xs) : Rel K cl (σ.set i (some (.ref a))) H F (env.set i (.ow ds)) := by
 have his : i < σ.length := by rw [R.len]; exact hi
 have nz : ∀ j, j ≠ i → Mu (env.set i (.ow ds)) j → Mu env j := fun j z ⟨es, q⟩ => by
  rw [List.getElem?_set_ne (Ne.symm z)] at q; exact ⟨es, q⟩
 refine ⟨R.sub, by rw [List.length_set, List.length_set]; exact R.len, fun j e q => ?_, fun j es q => ?_, fun j k b hj hk e1 e2 => ?_⟩
 ·have z : j ≠ i := fun z => by subst z; rw [List.getElem?_set_self hi] at q; cases q
  rw [List.getElem?_set_ne (Ne.symm z)] at q
  obtain ⟨u, e1, r1⟩ := R.fz j e q
  exact ⟨u, by rw [List.getElem?_set_ne (Ne.symm z)]; exact e1, r1⟩
 ·by_cases z : j = i
  ·subst z
   rw [List.getElem?_set_self hi] at q
   rcases q with q | q
   ·cases q; exact ⟨a, xs, List.getElem?_set_self his, hH, hF, r⟩
   ·cases q
  ·rw [List.getElem?_set_ne (Ne.symm z)] at q
   obtain ⟨b, ys, e1, h1, f1, r1⟩ := R.mu j es q
   exact ⟨b, ys, by rw [List.getElem?_set_ne (Ne.symm z)]; exact e1, h1, f1, r1⟩
 ·by_cases zj : j = i
  ·by_cases zk : k = i
   ·rw [zj, zk]
   ·subst zj
    rw [List.getElem?_set_self his] at e1
    rw [List.getElem?_set_ne (Ne.symm zk)] at e2
    cases e1
    exact absurd e2 (na k (nz k zk hk))
  ·rw [List.getElem?_set_ne (Ne.symm zj)] at e1
   by_cases zk : k = i
   ·subst zk
    rw [List.getElem?_set_self his] at e2
    cases e2
    exact absurd e1 (na j (nz j zj hj))
   ·rw [List.getElem?_set_ne (Ne.symm zk)] at e2
    exact R.inj j k b (nz j zj hj) (nz k zk hk) e1 e2
theorem Frm.put {i : Nat} {d : D} {x : Option V} (nh : ∀ ds, env[i]? ≠ some (.hd ds)) : Frm σ H F env (σ.set i x) H F (env.set i (.fz d)) := by
 refine ⟨Same.refl _, fun a o h f w => ⟨h, f, fun ⟨j, ds, q, e⟩ => ?_⟩, fun j ds q => ?_, fun _ h => h⟩
 ·by_cases z : j = i
  ·subst z
   have hj : j < env.length := by have := (List.getElem?_eq_some_iff.mp q).1; rwa [List.length_set] at this
   rw [List.getElem?_set_self hj] at q
   cases q
  ·rw [List.getElem?_set_ne (Ne.symm z)] at q e
   exact w ⟨j, ds, q, e⟩
 ·have z : j ≠ i := fun z => by subst z; exact nh ds q
  rw [List.getElem?_set_ne (Ne.symm z), List.getElem?_set_ne (Ne.symm z)]
  exact ⟨q, rfl⟩
theorem Frm.putO {i : Nat} {es : List D} {a : Addr} (f : Frm σ H F env σ' H' F' env') (ha : H a = none) (nh : ∀ ds, env'[i]? ≠ some (.hd ds)) : Frm σ H F env (σ'.set i (some (.ref a))) H' F' (env'.set i (.ow es)) := by
 refine ⟨f.fz, fun b o h g w => ?_, fun j ds q => ?_, f.dom⟩
 ·obtain ⟨h1, f1, w1⟩ := f.hid b o h g w
  refine ⟨h1, f1, fun ⟨j, ds, q, e⟩ => ?_⟩
  by_cases z : j = i
  ·subst z
   have hj : j < σ'.length := by have := (List.getElem?_eq_some_iff.mp e).1; rwa [List.length_set] at this
   rw [List.getElem?_set_self hj] at e
   cases e
   rw [ha] at h; cases h
  ·rw [List.getElem?_set_ne (Ne.symm z)] at q e
   exact w1 ⟨j, ds, q, e⟩
 ·obtain ⟨q1, e1⟩ := f.keep j ds q
  have z : j ≠ i := fun z => by subst z; exact nh ds q1
  rw [List.getElem?_set_ne (Ne.symm z), List.getElem?_set_ne (Ne.symm z)]
  exact ⟨q1, e1⟩
end
inductive R (α : Type) where | ok (a : α) (e : DE) | ex (c : Str)
inductive RS where | nx (e : DE) | rt (d : D) | ro (ds : List D) | rz (dss : List (List D)) | bk (e : DE) | ct (e : DE) | ex (c : Str)
def bnd {α β : Type} (x : Option (R α)) (k : α → DE → Option (R β)) : Option (R β) := match x with
 | none => none
 | some (.ok a e) => k a e
 | some (.ex c) => some (.ex c)
def sbn {α : Type} (x : Option (R α)) (k : α → DE → Option RS) : Option RS := match x with
 | none => none
 | some (.ok a e) => k a e
 | some (.ex c) => some (.ex c)
def opt {α : Type} (x : Option α) (e : DE) : Option (R α) := match x with
 | none => none
 | some a => some (.ok a e)
@[simp] theorem bnd_ok {α β : Type} (a : α) (e : DE) (k : α → DE → Option (R β)) : bnd (some (.ok a e)) k = k a e := rfl
@[simp] theorem bnd_ex {α β : Type} (c : Str) (k : α → DE → Option (R β)) : bnd (some (.ex c)) k = some (.ex c) := rfl
@[simp] theorem bnd_no {α β : Type} (k : α → DE → Option (R β)) : bnd (none : Option (R α)) k = none := rfl
@[simp] theorem sbn_ok {α : Type} (a : α) (e : DE) (k : α → DE → Option RS) : sbn (some (.ok a e)) k = k a e := rfl
@[simp] theorem sbn_ex {α : Type} (c : Str) (k : α → DE → Option RS) : sbn (some (.ex c)) k = some (.ex c) := rfl
@[simp] theorem sbn_no {α : Type} (k : α → DE → Option RS) : sbn (none : Option (R α)) k = none := rfl
@[simp] theorem opt_some {α : Type} (a : α) (e : DE) : opt (some a) e = some (.ok a e) := rfl
@[simp] theorem opt_none {α : Type} (e : DE) : opt (none : Option α) e = none := rfl
structure FX (σ : St) (H F : Hp) (env : DE) (H' F' : Hp) : Prop where
 fz : Same F F'
 sub : Same F' H'
 hid : ∀ a o, H a = some o → F a = none → ¬ Ow σ env a → H' a = some o ∧ F' a = none
 dom : ∀ a, H' a = none → H a = none
section
variable {K : W.Frag} {cl : Str → Addr} {E : XK} {σ σ' : St} {H H' H1 F F' F1 : Hp} {env env' env1 : DE} {α β γ δ : Type}
theorem Frm.fx {H2 F2 : Hp} (a : Frm σ H F env σ' H1 F1 env1) (b : FX σ' H1 F1 env1 H2 F2) : FX σ H F env H2 F2 :=
 ⟨a.fz.trans b.fz, b.sub, fun x o h f w => by obtain ⟨h1, f1, w1⟩ := a.hid x o h f w; exact b.hid x o h1 f1 w1, fun x h => a.dom x (b.dom x h)⟩
theorem Frm.toFX (a : Frm σ H F env σ' H1 F1 env1) (s : Same F1 H1) : FX σ H F env H1 F1 := ⟨a.fz, s, fun x o h f w => by obtain ⟨h1, f1, _⟩ := a.hid x o h f w; exact ⟨h1, f1⟩, a.dom⟩
abbrev Py (α β : Type) := α → St → Hp → Hp → Hp → DE → β → Prop
def PM (P : Py α β) : Prop := ∀ a σ H0 H1 H' F' e b, (∀ x : Addr, H1 x = none → H0 x = none) → P a σ H1 H' F' e b → P a σ H0 H' F' e b
def Ct (K : W.Frag) (cl : Str → Addr) (E : XK) (P : Py α β) (r : Option (R α)) (σ : St) (H F : Hp) (env : DE) (Q : β → Hp → Prop) : Prop := match r with
 | none => False
 | some (.ok a e) => ∀ b H' F', Frm σ H F env σ H' F' e → Rel K cl σ H' F' e → P a σ H H' F' e b → Q b H'
 | some (.ex c) => ∀ H' F', FX σ H F env H' F' → E (.ref (cl c)) none H'
def Rz (K : W.Frag) (cl : Str → Addr) (F' H' : Hp) (nw : Addr → Prop) (dss : List (List D)) (as : List Addr) : Prop := as.Nodup ∧ as.length = dss.length ∧ ∀ (k : Nat) (a : Addr) (ds : List D), as[k]? = some a → dss[k]? = some ds → ∃ xs, H' a = some (.lst xs) ∧ F' a = none ∧ nw a ∧ Rps K cl F' ds xs
theorem Rz.imp {nw nw' : Addr → Prop} {dss : List (List D)} {as : List Addr} (h : Rz K cl F' H' nw dss as) (i : ∀ a xs, H' a = some (.lst xs) → F' a = none → nw a → nw' a) : Rz K cl F' H' nw' dss as :=
 ⟨h.1, h.2.1, fun k a ds e1 e2 => by obtain ⟨xs, h1, h2, h3, h4⟩ := h.2.2 k a ds e1 e2; exact ⟨xs, h1, h2, i a xs h1 h2 h3, h4⟩⟩
def Cs (K : W.Frag) (cl : Str → Addr) (E : XK) (r : Option RS) (σ : St) (H F : Hp) (env : DE) (N : Ends) : Prop := match r with
 | none => False
 | some (.nx e) => ∀ σ' H' F', Frm σ H F env σ' H' F' e → Rel K cl σ' H' F' e → N.nx σ' H'
 | some (.bk e) => ∀ σ' H' F', Frm σ H F env σ' H' F' e → Rel K cl σ' H' F' e → N.bk σ' H'
 | some (.ct e) => ∀ σ' H' F', Frm σ H F env σ' H' F' e → Rel K cl σ' H' F' e → N.ct σ' H'
 | some (.rt d) => ∀ v H' F', FX σ H F env H' F' → Rp K cl F' d v → N.rt v H'
 | some (.ro ds) => ∀ a xs H' F', FX σ H F env H' F' → H' a = some (.lst xs) → F' a = none → (∀ o, H a = some o → Ow σ env a) → Rps K cl F' ds xs → N.rt (.ref a) H'
 | some (.rz dss) => ∀ p as H' F', FX σ H F env H' F' → H p = none → H' p = some (.tup (as.map V.ref)) → F' p = none → Rz K cl F' H' (fun a => ∀ o, H a = some o → Ow σ env a) dss as → N.rt (.ref p) H'
 | some (.ex c) => ∀ H' F', FX σ H F env H' F' → E (.ref (cl c)) none H'
theorem Ct.mono {P : Py α β} {r : Option (R α)} {Q Q' : β → Hp → Prop} (h : Ct K cl E P r σ H F env Q) (q : ∀ b H', Q b H' → Q' b H') : Ct K cl E P r σ H F env Q' := by
 unfold Ct at h ⊢
 split at h
 ·exact h
 ·exact fun b H' F' f R p => q _ _ (h b H' F' f R p)
 ·exact h
theorem Ct.from {P2 : Py γ δ} {r : Option (R γ)} {Q : δ → Hp → Prop} (f : Frm σ H F env σ H1 F1 env1) (pm : PM P2) (h : Ct K cl E P2 r σ H F env Q) : Ct K cl E P2 r σ H1 F1 env1 Q := by
 unfold Ct at h ⊢
 split at h
 ·exact h
 ·exact fun b H' F' f2 R2 p2 => h b H' F' (f.trans f2) R2 (pm _ _ _ _ _ _ _ _ f.dom p2)
 ·exact fun H' F' x => h H' F' (f.fx x)
theorem Ct.bnd {P1 : Py α β} {P2 : Py γ δ} {r : Option (R α)} {k : α → DE → Option (R γ)} {Q : δ → Hp → Prop} (h : Ct K cl E P2 (bnd r k) σ H F env Q) (pm : PM P2) :
  Ct K cl E P1 r σ H F env fun b H1 => ∃ F1 env1 a, Same F F1 ∧ Rel K cl σ H1 F1 env1 ∧ P1 a σ H H1 F1 env1 b ∧ Ct K cl E P2 (k a env1) σ H1 F1 env1 Q := by
 unfold Ct
 rcases r with _ | ⟨a, e⟩ | c
 ·exact h
 ·intro b H1 F1 f R p
  refine ⟨F1, e, a, f.fz, R, p, ?_⟩
  have h : Ct K cl E P2 (k a e) σ H F env Q := h
  exact Ct.from f pm h
 ·exact h
theorem Cs.from {r : Option RS} {N : Ends} (f : Frm σ H F env σ' H1 F1 env1) (h : Cs K cl E r σ H F env N) : Cs K cl E r σ' H1 F1 env1 N := by
 unfold Cs at h ⊢
 split at h
 ·exact h
 ·exact fun σ' H' F' f2 R2 => h σ' H' F' (f.trans f2) R2
 ·exact fun σ' H' F' f2 R2 => h σ' H' F' (f.trans f2) R2
 ·exact fun σ' H' F' f2 R2 => h σ' H' F' (f.trans f2) R2
 ·exact fun v H' F' x p => h v H' F' (f.fx x) p
 ·refine fun a xs H' F' x ha fa nw p => h a xs H' F' (f.fx x) ha fa (fun o e => ?_) p
  refine Classical.byContradiction fun w => ?_
  cases q : F a with
  | none =>
   obtain ⟨h1, f1, w1⟩ := f.hid a o e q w
   exact w1 (nw o h1)
  | some u => rw [x.fz _ _ (f.fz _ _ q)] at fa; cases fa
 ·refine fun p as H' F' x hp ht fp rz => h p as H' F' (f.fx x) (f.dom p hp) ht fp (rz.imp fun a xs ha fa nw o e => ?_)
  refine Classical.byContradiction fun w => ?_
  cases q : F a with
  | none =>
   obtain ⟨h1, f1, w1⟩ := f.hid a o e q w
   exact w1 (nw o h1)
  | some u => rw [x.fz _ _ (f.fz _ _ q)] at fa; cases fa
 ·exact fun H' F' x => h H' F' (f.fx x)
theorem Cs.bnd {P1 : Py α β} {r : Option (R α)} {k : α → DE → Option RS} {N : Ends} (h : Cs K cl E (sbn r k) σ H F env N) :
  Ct K cl E P1 r σ H F env fun b H1 => ∃ F1 env1 a, Frm σ H F env σ H1 F1 env1 ∧ Rel K cl σ H1 F1 env1 ∧ P1 a σ H H1 F1 env1 b ∧ Cs K cl E (k a env1) σ H F env N := by
 unfold Ct
 rcases r with _ | ⟨a, e⟩ | c
 ·exact h
 ·intro b H1 F1 f R p
  exact ⟨F1, e, a, f, R, p, h⟩
 ·exact h
end
def PZ (K : W.Frag) (cl : Str → Addr) : Py D V := fun d _ _ _ F' _ v => Rp K cl F' d v
def PAs (K : W.Frag) (cl : Str → Addr) : Py (List D) (List V) := fun ds _ _ _ F' _ vs => Rps K cl F' ds vs
def PB : Py Bool Bool := fun b _ _ _ _ _ c => c = b
def PI' : Py (Option Int) (Option Int) := fun b _ _ _ _ _ c => c = b
def PN (K : W.Frag) (cl : Str → Addr) : Py (List D) V := fun ds σ H H' F' e v => ∃ a xs, v = .ref a ∧ H a = none ∧ H' a = some (.lst xs) ∧ F' a = none ∧ (∀ j, Mu e j → σ[j]? ≠ some (some (.ref a))) ∧ Rps K cl F' ds xs
theorem pm_Z {K cl} : PM (PZ K cl) := fun _ _ _ _ _ _ _ _ _ h => h
theorem pm_A {K cl} : PM (PAs K cl) := fun _ _ _ _ _ _ _ _ _ h => h
theorem pm_B : PM PB := fun _ _ _ _ _ _ _ _ _ h => h
theorem pm_I : PM PI' := fun _ _ _ _ _ _ _ _ _ h => h
theorem pm_N {K cl} : PM (PN K cl) := fun _ _ _ _ _ _ _ _ g ⟨a, xs, e, h, r⟩ => ⟨a, xs, e, g a h, r⟩
abbrev ZF := DE → Option (R D)
abbrev NF := DE → Option (R (List D))
abbrev AF := DE → Option (R (List D))
abbrev BF := DE → Option (R Bool)
abbrev OF := DE → Option (R (Option Int))
abbrev SF := DE → Option RS
section
variable (K : W.Frag) (cl : Str → Addr) (E : XK)
def RfZ (t : TE) (f : ZF) : Prop := ∀ σ H Q env F, Rel K cl σ H F env → Ct K cl E (PZ K cl) (f env) σ H F env Q → t σ H Q
def RfN (t : TE) (f : NF) : Prop := ∀ σ H Q env F, Rel K cl σ H F env → Ct K cl E (PN K cl) (f env) σ H F env Q → t σ H Q
def RfA (t : TA) (f : AF) : Prop := ∀ σ H Q env F, Rel K cl σ H F env → Ct K cl E (PAs K cl) (f env) σ H F env Q → t σ H Q
def RfB (t : TT) (f : BF) : Prop := ∀ σ H Q env F, Rel K cl σ H F env → Ct K cl E PB (f env) σ H F env Q → t σ H Q
def RfO (t : TO) (f : OF) : Prop := ∀ σ H Q env F, Rel K cl σ H F env → Ct K cl E PI' (f env) σ H F env Q → t σ H Q
def RfS (t : TS) (f : SF) : Prop := ∀ (N : Ends) σ H env F, Rel K cl σ H F env → Cs K cl E (f env) σ H F env N → t N σ H
end
def eC (d : D) : ZF := fun e => some (.ok d e)
def eV (i : Nat) : ZF := fun e => match e[i]? with
 | some (.fz d) => some (.ok d e)
 | some (.ow ds) => some (.ok (.lst ds) (e.set i (.fz (.lst ds))))
 | _ => none
def look (e : DE) (i : Nat) : Option D := match e[i]? with
 | some (.fz d) => some d
 | some (.ow ds) => some (.lst ds)
 | some (.hd ds) => some (.lst ds)
 | _ => none
def Rb (K : W.Frag) (cl : Str → Addr) (F H : Hp) (d : D) (v : V) : Prop := Rp K cl F d v ∨ ∃ a xs ds, v = .ref a ∧ d = .lst ds ∧ H a = some (.lst xs) ∧ Rps K cl F ds xs
section
variable {K : W.Frag} {cl : Str → Addr} {E : XK} {σ : St} {H F : Hp} {env : DE}
theorem Rel.look {i : Nat} {d : D} (R : Rel K cl σ H F env) (h : look env i = some d) : ∃ v, σ[i]? = some (some v) ∧ Rb K cl F H d v := by
 unfold L2.look at h
 split at h
 ·rename_i q; cases h; obtain ⟨v, e, r⟩ := R.fz i d q; exact ⟨v, e, .inl r⟩
 ·rename_i ds q; cases h; obtain ⟨a, xs, e, hH, _, r⟩ := R.mu i ds (.inl q); exact ⟨_, e, .inr ⟨a, xs, ds, rfl, rfl, hH, r⟩⟩
 ·rename_i ds q; cases h; obtain ⟨a, xs, e, hH, _, r⟩ := R.mu i ds (.inr q); exact ⟨_, e, .inr ⟨a, xs, ds, rfl, rfl, hH, r⟩⟩
 ·cases h
theorem rf_c {v : V} {d : D} (h : ∀ F, Rp K cl F d v := by intro F; simp only [Rp]) : RfZ K cl E (tC v) (eC d) := fun σ H Q env F R h' => h' v H F Frm.refl R (h F)
theorem rf_v {i : Nat} : RfZ K cl E (tVar i) (eV i) := by
 intro σ H Q env F R h
 unfold eV at h
 split at h
 ·rename_i d q
  obtain ⟨v, e, r⟩ := R.fz i d q
  exact ⟨v, e, h v H F Frm.refl R r⟩
 ·rename_i ds q
  obtain ⟨a, F', e, fr, R', r⟩ := R.freeze q
  exact ⟨_, e, h _ H F' fr R' r⟩
 ·exact h.elim
end
def OpOk (K : W.Frag) (cl : Str → Addr) (r : R2) (g : D → D → Option D) : Prop := ∀ x y d e z H F Q, Same F H → Rb K cl F H d x → Rb K cl F H e y → g d e = some z → (∀ v H' F', Gr H F H' F' → Rp K cl F' z v → Q v H') → r x y H Q
def eB (g : D → D → Option D) (f k : ZF) : ZF := fun e => bnd (f e) fun d e1 => bnd (k e1) fun d' e2 => opt (g d d') e2
def eBV (g : D → D → Option D) (i : Nat) (k : ZF) : ZF := fun e => match look e i with
 | none => none
 | some _ => bnd (k e) fun d' e2 => match look e2 i with
  | some d => opt (g d d') e2
  | none => none
def eBVV (g : D → D → Option D) (i j : Nat) : ZF := fun e => match look e i, look e j with
 | some d, some d' => opt (g d d') e
 | _, _ => none
section
variable {K : W.Frag} {cl : Str → Addr} {E : XK} {r : R2} {g : D → D → Option D} {ta tb : TE} {f k : ZF} {i j : Nat}
theorem OpOk.fin {σ : St} {H F : Hp} {env : DE} {x y : V} {d e : D} {Q : VK} (ok : OpOk K cl r g) (R : Rel K cl σ H F env) (hx : Rb K cl F H d x) (hy : Rb K cl F H e y) (h : Ct K cl E (PZ K cl) (opt (g d e) env) σ H F env Q) : r x y H Q := by
 cases hz : g d e with
 | none => rw [hz] at h; exact h.elim
 | some z =>
  rw [hz] at h
  exact ok x y d e z H F Q R.sub hx hy hz fun v H' F' gr p => h v H' F' (R.frm gr) (R.gr gr) p
theorem rf_op (ok : OpOk K cl r g) (ha : RfZ K cl E ta f) (hb : RfZ K cl E tb k) : RfZ K cl E (tOp r ta tb) (eB g f k) := by
 intro σ H Q env F R h
 refine ha σ H _ env F R ((Ct.bnd h pm_Z).mono fun x H1 ⟨F1, e1, d, s1, R1, p1, h1⟩ => ?_)
 refine hb σ H1 _ e1 F1 R1 ((Ct.bnd h1 pm_Z).mono fun y H2 ⟨F2, e2, e, s2, R2, p2, h2⟩ => ?_)
 exact ok.fin R2 (.inl (Rp.mono s2 _ _ p1)) (.inl p2) h2
theorem rf_opV (ok : OpOk K cl r g) (hb : RfZ K cl E tb k) : RfZ K cl E (tOp r (tVar i) tb) (eBV g i k) := by
 intro σ H Q env F R h
 unfold eBV at h
 cases q : look env i with
 | none => rw [q] at h; exact h.elim
 | some d0 =>
  rw [q] at h
  obtain ⟨x, e0, _⟩ := R.look q
  refine ⟨x, e0, hb σ H _ env F R ((Ct.bnd h pm_Z).mono fun y H2 ⟨F2, e2, e, s2, R2, p2, h2⟩ => ?_)⟩
  cases q2 : look e2 i with
  | none => rw [q2] at h2; exact h2.elim
  | some d =>
   rw [q2] at h2
   obtain ⟨x', e', rb⟩ := R2.look q2
   rw [e0] at e'; cases e'
   exact ok.fin R2 rb (.inl p2) h2
theorem rf_opVV (ok : OpOk K cl r g) : RfZ K cl E (tOp r (tVar i) (tVar j)) (eBVV g i j) := by
 intro σ H Q env F R h
 unfold eBVV at h
 cases q : look env i with
 | none => rw [q] at h; exact h.elim
 | some d =>
  cases q2 : look env j with
  | none => rw [q, q2] at h; exact h.elim
  | some d' =>
   rw [q, q2] at h
   obtain ⟨x, e, rb⟩ := R.look q
   obtain ⟨y, e', rb'⟩ := R.look q2
   exact ⟨x, e, y, e', ok.fin R rb rb' h⟩
end
section
variable {K : W.Frag} {cl : Str → Addr} {E : XK}
theorem Rb.int {F H : Hp} {i : Int} {v : V} (h : Rb K cl F H (.int i) v) : v = .int i := by
 rcases h with h | ⟨_, _, _, _, z, _⟩
 ·simpa only [Rp] using h
 ·cases z
theorem Rb.bl {F H : Hp} {i : Bool} {v : V} (h : Rb K cl F H (.bl i) v) : v = .bl i := by
 rcases h with h | ⟨_, _, _, _, z, _⟩
 ·simpa only [Rp] using h
 ·cases z
theorem Rb.str {F H : Hp} {i : Str} {v : V} (h : Rb K cl F H (.str i) v) : v = .str i := by
 rcases h with h | ⟨_, _, _, _, z, _⟩
 ·simpa only [Rp] using h
 ·cases z
theorem Rb.non {F H : Hp} {v : V} (h : Rb K cl F H .non v) : v = .non := by
 rcases h with h | ⟨_, _, _, _, z, _⟩
 ·simpa only [Rp] using h
 ·cases z
theorem Rb.lst {F H : Hp} {ds : List D} {v : V} (s : Same F H) (h : Rb K cl F H (.lst ds) v) : ∃ a xs, v = .ref a ∧ H a = some (.lst xs) ∧ Rps K cl F ds xs := by
 rcases h with h | ⟨a, xs, ds', e, z, h, r⟩
 ·simp only [Rp] at h
  obtain ⟨a, xs, e, h, r⟩ := h
  exact ⟨a, xs, e, s _ _ h, r⟩
 ·cases z; exact ⟨a, xs, e, h, r⟩
theorem Rb.tup {F H : Hp} {ds : List D} {v : V} (s : Same F H) (h : Rb K cl F H (.tup ds) v) : ∃ a xs, v = .ref a ∧ H a = some (.tup xs) ∧ Rps K cl F ds xs := by
 rcases h with h | ⟨_, _, _, _, z, _⟩
 ·simp only [Rp] at h
  obtain ⟨a, xs, e, h, r⟩ := h
  exact ⟨a, xs, e, s _ _ h, r⟩
 ·cases z
theorem Rb.scr {F H : Hp} {ns : List Int} {v : V} (s : Same F H) (h : Rb K cl F H (.scr ns) v) : ∃ a, v = .ref a ∧ Scr K H a (ns.map V.int) := by
 rcases h with h | ⟨_, _, _, _, z, _⟩
 ·simp only [Rp] at h
  obtain ⟨a, e, h⟩ := h
  exact ⟨a, e, h.same s⟩
 ·cases z
def gI (C : Int → Int → Prop) [∀ i j, Decidable (C i j)] (g : Int → Int → D) : D → D → Option D
 | .int i, .int j => if C i j then some (g i j) else none
 | _, _ => none
def gI0 (g : Int → Int → D) : D → D → Option D
 | .int i, .int j => some (g i j)
 | _, _ => none
theorem ok_I {C : Int → Int → Prop} [∀ i j, Decidable (C i j)] {g : Int → Int → V} {g' : Int → Int → D} (hg : ∀ F i j, Rp K cl F (g' i j) (g i j)) : OpOk K cl (rI C g) (gI C g') := by
 intro x y d e z H F Q s hx hy h q
 unfold gI at h
 split at h
 ·rename_i i j
  split at h
  ·rename_i c; cases h
   exact ⟨i, j, hx.int, hy.int, c, q _ H F (.refl s) (hg F i j)⟩
  ·cases h
 ·cases h
theorem ok_I0 {g : Int → Int → V} {g' : Int → Int → D} (hg : ∀ F i j, Rp K cl F (g' i j) (g i j)) : OpOk K cl (rI0 g) (gI0 g') := by
 intro x y d e z H F Q s hx hy h q
 unfold gI0 at h
 split at h
 ·rename_i i j
  cases h
  exact ⟨i, j, hx.int, hy.int, q _ H F (.refl s) (hg F i j)⟩
 ·cases h
end
section
variable {K : W.Frag} {cl : Str → Addr} {E : XK} {σ : St} {H F : Hp} {env : DE}
theorem Rel.newN {p : Addr} {o : HO} (R : Rel K cl σ H F env) (hp : H p = none) : Rel K cl σ (upd H p o) F env ∧ Frm σ H F env σ (upd H p o) F env := by
 have fp : F p = none := R.sub.free hp
 have ne : ∀ a u, H a = some u → a ≠ p := fun a u h z => by rw [z, hp] at h; cases h
 refine ⟨⟨R.sub.trans (same_new hp _), R.len, R.fz, fun i ds h => ?_, R.inj⟩, ⟨Same.refl _, fun a u h f w => ?_, fun _ _ h => ⟨h, rfl⟩, fun a h => ?_⟩⟩
 ·obtain ⟨a, xs, e, hH, hF, r⟩ := R.mu i ds h
  exact ⟨a, xs, e, by rw [upd_ne (ne _ _ hH)]; exact hH, hF, r⟩
 ·exact ⟨by rw [upd_ne (ne _ _ h)]; exact h, f, w⟩
 ·by_cases z : a = p
  ·rw [z]; exact hp
  ·rw [upd_ne z] at h; exact h
theorem Ct.newN {p : Addr} {xs : List V} {ds : List D} {Q : VK} (R : Rel K cl σ H F env) (hp : H p = none) (r : Rps K cl F ds xs) (h : Ct K cl E (PN K cl) (some (.ok ds env)) σ H F env Q) : Q (.ref p) (upd H p (.lst xs)) := by
 obtain ⟨R', f⟩ := R.newN (o := .lst xs) hp
 refine h _ _ F f R' ⟨p, xs, rfl, hp, upd_same, R.sub.free hp, fun j mj e => ?_, r⟩
 obtain ⟨ds', q⟩ := mj
 obtain ⟨a, ys, e1, hH, _⟩ := R.mu j ds' q
 rw [e] at e1; cases e1
 rw [hp] at hH; cases hH
def zN (f : NF) : ZF := fun e => bnd (f e) fun ds e1 => some (.ok (.lst ds) e1)
theorem rf_zN {t : TE} {f : NF} (h : RfN K cl E t f) : RfZ K cl E t (zN f) := by
 intro σ H Q env F R q
 refine h σ H Q env F R ?_
 unfold zN at q
 rcases hf : f env with _ | ⟨ds, e1⟩ | c
 ·rw [hf] at q; exact q
 ·rw [hf] at q
  rintro b H' F' fr R' ⟨a, xs, rfl, hn, hH, hF, nm, r⟩
  have sF : Same F' (upd F' a (.lst xs)) := same_new hF _
  refine q _ H' (upd F' a (.lst xs)) ⟨fr.fz.trans sF, fun b o hb fb w => ?_, fr.keep, fr.dom⟩ ⟨fun b o z => ?_, R'.len, fun i d z => ?_, fun i es z => ?_, R'.inj⟩ (by show Rp K cl _ (.lst ds) _; simp only [Rp]; exact ⟨a, xs, rfl, upd_same, r.mono sF⟩)
  ·obtain ⟨h1, f1, w1⟩ := fr.hid b o hb fb w
   have nb : b ≠ a := fun z => by rw [z, hn] at hb; cases hb
   exact ⟨h1, by rw [upd_ne nb]; exact f1, w1⟩
  ·by_cases y : b = a
   ·subst y; rw [upd_same] at z; cases z; exact hH
   ·rw [upd_ne y] at z; exact R'.sub _ _ z
  ·obtain ⟨v, e, r1⟩ := R'.fz i d z
   exact ⟨v, e, r1.mono sF⟩
  ·obtain ⟨b, ys, e, h1, f1, r1⟩ := R'.mu i es z
   have nb : b ≠ a := fun y => nm i ⟨es, z⟩ (by rw [e, y])
   exact ⟨b, ys, e, h1, by rw [upd_ne nb]; exact f1, r1.mono sF⟩
 ·rw [hf] at q; exact q
def aN : AF := fun e => some (.ok [] e)
def aC (f : ZF) (k : AF) : AF := fun e => bnd (f e) fun d e1 => bnd (k e1) fun ds e2 => some (.ok (d :: ds) e2)
theorem rf_aN : RfA K cl E tNil aN := fun σ H Q env F R h => h [] H F Frm.refl R .nil
theorem rf_aC {te : TE} {ta : TA} {f : ZF} {k : AF} (hf : RfZ K cl E te f) (hk : RfA K cl E ta k) : RfA K cl E (tCons te ta) (aC f k) := by
 intro σ H Q env F R h
 refine hf σ H _ env F R ((Ct.bnd h pm_A).mono fun x H1 ⟨F1, e1, d, s1, R1, p1, h1⟩ => ?_)
 refine hk σ H1 _ e1 F1 R1 ((Ct.bnd h1 pm_A).mono fun xs H2 ⟨F2, e2, ds, s2, R2, p2, h2⟩ => ?_)
 exact h2 (x :: xs) H2 F2 Frm.refl R2 (.cons (Rp.mono s2 _ _ p1) p2)
def eT (f : AF) : ZF := fun e => bnd (f e) fun ds e1 => if ds.length ≤ sizeLine then some (.ok (.tup ds) e1) else none
def eL (f : AF) : NF := fun e => bnd (f e) fun ds e1 => if ds.length ≤ sizeLine then some (.ok ds e1) else none
theorem rf_T {ta : TA} {f : AF} (hf : RfA K cl E ta f) : RfZ K cl E (tTup ta) (eT f) := by
 intro σ H Q env F R h
 refine hf σ H _ env F R ((Ct.bnd h pm_Z).mono fun xs H1 ⟨F1, e1, ds, s1, R1, p1, h1⟩ => ?_)
 have hl : ds.length = xs.length := Rps.length p1
 split at h1
 ·rename_i z
  refine ⟨by rw [← hl]; exact z, fun p hp => ?_⟩
  have g : Gr H1 F1 (upd H1 p (.tup xs)) (upd F1 p (.tup xs)) := .new R1.sub hp
  exact h1 _ _ _ (R1.frm g) (R1.gr g) (by show Rp K cl _ (.tup ds) _; simp only [Rp]; exact ⟨p, xs, rfl, upd_same, Rps.mono g.fz _ _ p1⟩)
 ·exact h1.elim
theorem rf_L {ta : TA} {f : AF} (hf : RfA K cl E ta f) : RfN K cl E (tLst ta) (eL f) := by
 intro σ H Q env F R h
 refine hf σ H _ env F R ((Ct.bnd h pm_N).mono fun xs H1 ⟨F1, e1, ds, s1, R1, p1, h1⟩ => ?_)
 have hl : ds.length = xs.length := Rps.length p1
 split at h1
 ·rename_i z
  exact ⟨by rw [← hl]; exact z, fun p hp => Ct.newN R1 hp p1 h1⟩
 ·exact h1.elim
def bZ (f : ZF) : BF := fun e => bnd (f e) fun d e1 => match d with
 | .bl b => some (.ok b e1)
 | _ => none
theorem rf_bZ {t : TE} {f : ZF} (hf : RfZ K cl E t f) : RfB K cl E (tB t) (bZ f) := by
 intro σ H Q env F R h
 refine hf σ H _ env F R ((Ct.bnd h pm_B).mono fun x H1 ⟨F1, e1, d, s1, R1, p1, h1⟩ => ?_)
 split at h1
 ·rename_i b
  have : x = .bl b := by have := (show Rp K cl F1 (.bl b) x from p1); simpa only [Rp] using this
  exact ⟨b, this, h1 b H1 F1 Frm.refl R1 rfl⟩
 ·exact h1.elim
theorem rf_bT {t : TE} {f : ZF} (hf : RfZ K cl E t f) : RfB K cl E (tTest t) (bZ f) := rf_bZ hf
def bNot (f : BF) : BF := fun e => bnd (f e) fun b e1 => some (.ok (!b) e1)
def bAnd (f k : BF) : BF := fun e => bnd (f e) fun b e1 => if b = true then k e1 else some (.ok false e1)
def bOr (f k : BF) : BF := fun e => bnd (f e) fun b e1 => if b = true then some (.ok true e1) else k e1
theorem rf_bNot {t : TT} {f : BF} (hf : RfB K cl E t f) : RfB K cl E (tNot t) (bNot f) := by
 intro σ H Q env F R h
 refine hf σ H _ env F R ((Ct.bnd h pm_B).mono fun x H1 ⟨F1, e1, d, s1, R1, p1, h1⟩ => ?_)
 cases (show x = d from p1)
 exact h1 _ H1 F1 Frm.refl R1 rfl
theorem rf_bAnd {t u : TT} {f k : BF} (hf : RfB K cl E t f) (hk : RfB K cl E u k) : RfB K cl E (tAnd t u) (bAnd f k) := by
 intro σ H Q env F R h
 refine hf σ H _ env F R ((Ct.bnd h pm_B).mono fun x H1 ⟨F1, e1, d, s1, R1, p1, h1⟩ => ?_)
 cases (show x = d from p1)
 by_cases z : x = true
 ·rw [if_pos z] at h1 ⊢; exact hk σ H1 Q e1 F1 R1 h1
 ·rw [if_neg z] at h1 ⊢; exact h1 _ H1 F1 Frm.refl R1 rfl
theorem rf_bOr {t u : TT} {f k : BF} (hf : RfB K cl E t f) (hk : RfB K cl E u k) : RfB K cl E (tOr t u) (bOr f k) := by
 intro σ H Q env F R h
 refine hf σ H _ env F R ((Ct.bnd h pm_B).mono fun x H1 ⟨F1, e1, d, s1, R1, p1, h1⟩ => ?_)
 cases (show x = d from p1)
 by_cases z : x = true
 ·rw [if_pos z] at h1 ⊢; exact h1 _ H1 F1 Frm.refl R1 rfl
 ·rw [if_neg z] at h1 ⊢; exact hk σ H1 Q e1 F1 R1 h1
def eNot (f : ZF) : ZF := fun e => bnd (f e) fun d e1 => match d with
 | .bl b => some (.ok (.bl (!b)) e1)
 | _ => none
def eAnd (f k : ZF) : ZF := fun e => bnd (f e) fun d e1 => match d with
 | .bl b => if b = true then k e1 else some (.ok (.bl false) e1)
 | _ => none
def eOr (f k : ZF) : ZF := fun e => bnd (f e) fun d e1 => match d with
 | .bl b => if b = true then some (.ok (.bl true) e1) else k e1
 | _ => none
theorem rf_Not {t : TE} {f : ZF} (hf : RfZ K cl E t f) : RfZ K cl E (tNotV t) (eNot f) := by
 intro σ H Q env F R h
 refine hf σ H _ env F R ((Ct.bnd h pm_Z).mono fun x H1 ⟨F1, e1, d, s1, R1, p1, h1⟩ => ?_)
 split at h1
 ·rename_i b
  have : x = .bl b := by have := (show Rp K cl F1 (.bl b) x from p1); simpa only [Rp] using this
  exact ⟨b, this, h1 _ H1 F1 Frm.refl R1 (by show Rp K cl F1 (.bl _) _; simp only [Rp])⟩
 ·exact h1.elim
theorem rf_And {t u : TE} {f k : ZF} (hf : RfZ K cl E t f) (hk : RfZ K cl E u k) : RfZ K cl E (tAndV t u) (eAnd f k) := by
 intro σ H Q env F R h
 refine hf σ H _ env F R ((Ct.bnd h pm_Z).mono fun x H1 ⟨F1, e1, d, s1, R1, p1, h1⟩ => ?_)
 split at h1
 ·rename_i b
  have : x = .bl b := by have := (show Rp K cl F1 (.bl b) x from p1); simpa only [Rp] using this
  refine ⟨b, this, ?_⟩
  by_cases z : b = true
  ·rw [if_pos z] at h1 ⊢; exact hk σ H1 Q e1 F1 R1 h1
  ·rw [if_neg z] at h1 ⊢; exact h1 _ H1 F1 Frm.refl R1 (by show Rp K cl F1 (.bl _) _; simp only [Rp])
 ·exact h1.elim
theorem rf_Or {t u : TE} {f k : ZF} (hf : RfZ K cl E t f) (hk : RfZ K cl E u k) : RfZ K cl E (tOrV t u) (eOr f k) := by
 intro σ H Q env F R h
 refine hf σ H _ env F R ((Ct.bnd h pm_Z).mono fun x H1 ⟨F1, e1, d, s1, R1, p1, h1⟩ => ?_)
 split at h1
 ·rename_i b
  have : x = .bl b := by have := (show Rp K cl F1 (.bl b) x from p1); simpa only [Rp] using this
  refine ⟨b, this, ?_⟩
  by_cases z : b = true
  ·rw [if_pos z] at h1 ⊢; exact h1 _ H1 F1 Frm.refl R1 (by show Rp K cl F1 (.bl _) _; simp only [Rp])
  ·rw [if_neg z] at h1 ⊢; exact hk σ H1 Q e1 F1 R1 h1
 ·exact h1.elim
def CbOk (K : W.Frag) (cl : Str → Addr) (r : List V → Hp → VK → Prop) (g : List D → Option D) : Prop := ∀ xs ds z H F Q, Same F H → Rps K cl F ds xs → g ds = some z → (∀ v H' F', Gr H F H' F' → Rp K cl F' z v → Q v H') → r xs H Q
def CbOk1 (K : W.Frag) (cl : Str → Addr) (r : List V → Hp → VK → Prop) (g : D → Option D) : Prop := ∀ x d z H F Q, Same F H → Rb K cl F H d x → g d = some z → (∀ v H' F', Gr H F H' F' → Rp K cl F' z v → Q v H') → r [x] H Q
def eCB (g : List D → Option D) (f : AF) : ZF := fun e => bnd (f e) fun ds e1 => opt (g ds) e1
def eCV (g : D → Option D) (i : Nat) : ZF := fun e => match look e i with
 | some d => opt (g d) e
 | none => none
theorem rf_CB {r : List V → Hp → VK → Prop} {g : List D → Option D} {t : TA} {f : AF} (ok : CbOk K cl r g) (hf : RfA K cl E t f) : RfZ K cl E (tCB r t) (eCB g f) := by
 intro σ H Q env F R h
 refine hf σ H _ env F R ((Ct.bnd h pm_Z).mono fun x H1 ⟨F1, e1, d, s1, R1, p1, h1⟩ => ?_)
 cases hz : g d with
 | none => rw [hz] at h1; exact h1.elim
 | some z =>
  rw [hz] at h1
  exact ok x d z H1 F1 Q R1.sub p1 hz fun v H' F' gr p => h1 v H' F' (R1.frm gr) (R1.gr gr) p
theorem rf_CV {r : List V → Hp → VK → Prop} {g : D → Option D} {i : Nat} (ok : CbOk1 K cl r g) : RfZ K cl E (tCB r (tCons (tVar i) tNil)) (eCV g i) := by
 intro σ H Q env F R h
 unfold eCV at h
 cases q : look env i with
 | none => rw [q] at h; exact h.elim
 | some d =>
  rw [q] at h
  obtain ⟨x, e, rb⟩ := R.look q
  refine ⟨x, e, ?_⟩
  cases hz : g d with
  | none => simp only [hz, opt_none] at h; exact h.elim
  | some z =>
   simp only [hz, opt_some] at h
   exact ok x d z H F Q R.sub rb hz fun v H' F' gr p => h v H' F' (R.frm gr) (R.gr gr) p
def g1 (g : D → Option D) : List D → Option D
 | [d] => g d
 | _ => none
theorem CbOk1.cb {r : List V → Hp → VK → Prop} {g : D → Option D} (ok : CbOk1 K cl r g) : CbOk K cl r (g1 g) := by
 intro xs ds z H F Q s hx h q
 unfold g1 at h
 split at h
 ·obtain ⟨v, r, rfl, h1, h2⟩ := hx.inv
  rw [h2.inv0]
  exact ok v _ z H F Q s (.inl h1) h q
 ·cases h
def CnOk (K : W.Frag) (cl : Str → Addr) (r : List V → Hp → VK → Prop) (g : D → Option (List D)) : Prop := ∀ x d zs H F Q, Same F H → Rb K cl F H d x → g d = some zs → (∀ p xs, H p = none → Rps K cl F zs xs → Q (.ref p) (upd H p (.lst xs))) → r [x] H Q
def nCV (g : D → Option (List D)) (i : Nat) : NF := fun e => match look e i with
 | some d => opt (g d) e
 | none => none
theorem rf_nCV {r : List V → Hp → VK → Prop} {g : D → Option (List D)} {i : Nat} (ok : CnOk K cl r g) : RfN K cl E (tCB r (tCons (tVar i) tNil)) (nCV g i) := by
 intro σ H Q env F R h
 unfold nCV at h
 cases q : look env i with
 | none => rw [q] at h; exact h.elim
 | some d =>
  rw [q] at h
  obtain ⟨x, e, rb⟩ := R.look q
  refine ⟨x, e, ?_⟩
  cases hz : g d with
  | none => simp only [hz, opt_none] at h; exact h.elim
  | some z =>
   simp only [hz, opt_some] at h
   exact ok x d z H F Q R.sub rb hz fun p xs hp r => Ct.newN R hp r h
def OnOk (K : W.Frag) (cl : Str → Addr) (r : R2) (g : D → D → Option (List D)) : Prop := ∀ x y d e zs H F Q, Same F H → Rb K cl F H d x → Rb K cl F H e y → g d e = some zs → (∀ p xs, H p = none → Rps K cl F zs xs → Q (.ref p) (upd H p (.lst xs))) → r x y H Q
def nB (g : D → D → Option (List D)) (f k : ZF) : NF := fun e => bnd (f e) fun d e1 => bnd (k e1) fun d' e2 => opt (g d d') e2
theorem rf_nB {r : R2} {g : D → D → Option (List D)} {ta tb : TE} {f k : ZF} (ok : OnOk K cl r g) (ha : RfZ K cl E ta f) (hb : RfZ K cl E tb k) : RfN K cl E (tOp r ta tb) (nB g f k) := by
 intro σ H Q env F R h
 refine ha σ H _ env F R ((Ct.bnd h pm_N).mono fun x H1 ⟨F1, e1, d, s1, R1, p1, h1⟩ => ?_)
 refine hb σ H1 _ e1 F1 R1 ((Ct.bnd h1 pm_N).mono fun y H2 ⟨F2, e2, e, s2, R2, p2, h2⟩ => ?_)
 cases hz : g d e with
 | none => rw [hz] at h2; exact h2.elim
 | some z =>
  rw [hz] at h2
  exact ok x y d e z H2 F2 Q R2.sub (.inl (Rp.mono s2 _ _ p1)) (.inl p2) hz fun p xs hp r => Ct.newN R2 hp r h2
end
section
variable {K : W.Frag} {cl : Str → Addr} {E : XK} {σ : St} {H F : Hp} {env : DE}
instance decMul (i j : Int) : Decidable (IntMulOk i j) := by unfold IntMulOk; infer_instance
instance decPow (i j : Int) : Decidable (CPow i j) := by unfold CPow; infer_instance
abbrev gAdd := gI0 fun i j => .int (i + j)
abbrev gSub' := gI0 fun i j => .int (i - j)
abbrev gMul := gI IntMulOk fun i j => .int (i * j)
abbrev gDiv := gI (fun _ j => 0 < j ∧ j.natAbs.log2 < 9000) fun i j => .int (i / j)
abbrev gMod := gI (fun _ j => 0 < j) fun i j => .int (i % j)
abbrev gPow := gI CPow fun i j => .int (i ^ j.toNat)
abbrev gLt := gI0 fun i j => .bl (decide (i < j))
abbrev gLe := gI0 fun i j => .bl (decide (i ≤ j))
abbrev gGt := gI0 fun i j => .bl (decide (j < i))
abbrev gGe := gI0 fun i j => .bl (decide (j ≤ i))
theorem ok_add : OpOk K cl (rI0 fun i j => .int (i + j)) gAdd := ok_I0 fun F i j => by simp only [Rp]
theorem ok_sub : OpOk K cl (rI0 fun i j => .int (i - j)) gSub' := ok_I0 fun F i j => by simp only [Rp]
theorem ok_mul : OpOk K cl (rI IntMulOk fun i j => .int (i * j)) gMul := ok_I fun F i j => by simp only [Rp]
theorem ok_div : OpOk K cl (rI (fun _ j => 0 < j ∧ j.natAbs.log2 < 9000) fun i j => .int (i / j)) gDiv := ok_I fun F i j => by simp only [Rp]
theorem ok_mod : OpOk K cl (rI (fun _ j => 0 < j) fun i j => .int (i % j)) gMod := ok_I fun F i j => by simp only [Rp]
theorem ok_pow : OpOk K cl (rI CPow fun i j => .int (i ^ j.toNat)) gPow := ok_I fun F i j => by simp only [Rp]
theorem ok_lt : OpOk K cl (rI0 fun i j => .bl (decide (i < j))) gLt := ok_I0 fun F i j => by simp only [Rp]
theorem ok_le : OpOk K cl (rI0 fun i j => .bl (decide (i ≤ j))) gLe := ok_I0 fun F i j => by simp only [Rp]
theorem ok_gt : OpOk K cl (rI0 fun i j => .bl (decide (j < i))) gGt := ok_I0 fun F i j => by simp only [Rp]
theorem ok_ge : OpOk K cl (rI0 fun i j => .bl (decide (j ≤ i))) gGe := ok_I0 fun F i j => by simp only [Rp]
def toV : D → Option V
 | .non => some .non
 | .bl b => some (.bl b)
 | .int i => some (.int i)
 | .str x => some (.str x)
 | _ => none
theorem Rb.toV {d : D} {v u : V} (h : Rb K cl F H d v) (e : toV d = some u) : v = u := by
 cases d with
 | non => cases e; exact h.non
 | bl b => cases e; exact h.bl
 | int i => cases e; exact h.int
 | str x => cases e; exact h.str
 | _ => cases e
def gEq (neg : Bool) (d e : D) : Option D := match toV d, toV e with
 | some x, some y => if scal x y = true then some (.bl (if neg then !decide (x = y) else decide (x = y))) else none
 | _, _ => none
theorem ok_eq : OpOk K cl rEq (gEq false) := by
 intro x y d e z H F Q s hx hy h q
 unfold gEq at h
 split at h
 ·rename_i u w hu hw
  split at h
  ·rename_i c; cases h
   rw [hx.toV hu, hy.toV hw]
   exact ⟨c, q _ H F (.refl s) (by simp only [Rp]; rfl)⟩
  ·cases h
 ·cases h
theorem ok_ne : OpOk K cl rNe (gEq true) := by
 intro x y d e z H F Q s hx hy h q
 unfold gEq at h
 split at h
 ·rename_i u w hu hw
  split at h
  ·rename_i c; cases h
   rw [hx.toV hu, hy.toV hw]
   exact ⟨c, q _ H F (.refl s) (by simp only [Rp]; rfl)⟩
  ·cases h
 ·cases h
@[simp] theorem gEq_int (neg : Bool) (a b : Int) : gEq neg (.int a) (.int b) = some (.bl (if neg then !decide (a = b) else decide (a = b))) := by
 unfold gEq toV
 simp only [scal, if_true, V.int.injEq]
def gIsN (neg : Bool) (d e : D) : Option D := match d, e with
 | .non, .non => some (.bl (!neg))
 | _, .non => some (.bl neg)
 | _, _ => none
theorem Rb.notNon {d : D} {v : V} (h : Rb K cl F H d v) (n : d ≠ .non) : v ≠ .non := by
 rcases h with h | ⟨_, _, _, rfl, _⟩
 ·cases d <;> simp only [Rp] at h
  ·exact absurd rfl n
  all_goals first | (rw [h]; intro z; cases z) | (obtain ⟨_, _, rfl, _⟩ := h; intro z; cases z) | (obtain ⟨_, rfl, _⟩ := h; intro z; cases z) | (obtain ⟨_, _, _, rfl, _⟩ := h; intro z; cases z)
 ·intro z; cases z
theorem ok_isN : OpOk K cl (fun x y H Q => y = .non ∧ Q (.bl (decide (x = .non))) H) (gIsN false) := by
 intro x y d e z H F Q s hx hy h q
 unfold gIsN at h
 split at h
 ·cases h; rw [hx.non]; exact ⟨hy.non, q _ H F (.refl s) (by simp [Rp])⟩
 ·rename_i n; cases h
  exact ⟨hy.non, q _ H F (.refl s) (by simp only [Rp]; rw [decide_eq_false (hx.notNon n)])⟩
 ·cases h
theorem ok_notN : OpOk K cl (fun x y H Q => y = .non ∧ Q (.bl (!decide (x = .non))) H) (gIsN true) := by
 intro x y d e z H F Q s hx hy h q
 unfold gIsN at h
 split at h
 ·cases h; rw [hx.non]; exact ⟨hy.non, q _ H F (.refl s) (by simp [Rp])⟩
 ·rename_i n; cases h
  exact ⟨hy.non, q _ H F (.refl s) (by simp only [Rp]; rw [decide_eq_false (hx.notNon n)]; rfl)⟩
 ·cases h
theorem Rps.atI {ds : List D} {xs : List V} {i : Int} {d : D} (h : Rps K cl F ds xs) (e : atI ds i = some d) : ∃ v, L2.atI xs i = some v ∧ Rp K cl F d v := by
 unfold L2.atI at e ⊢
 rw [← h.length]
 cases q : ixN ds.length i with
 | none => rw [q] at e; cases e
 | some j => rw [q] at e; exact h.get e
def gIxL (d e : D) : Option D := match d, e with
 | .lst ds, .int i => atI ds i
 | .scr ns, .int i => (atI ns i).map .int
 | _, _ => none
def gIxT (d e : D) : Option D := match d, e with
 | .tup ds, .int i => atI ds i
 | _, _ => none
theorem atI_map {α β : Type} (f : α → β) (xs : List α) (i : Int) : atI (xs.map f) i = (atI xs i).map f := by
 unfold L2.atI
 rw [List.length_map]
 cases ixN xs.length i with
 | none => rfl
 | some j => simp
theorem ok_ixL : OpOk K cl (rIxL K) gIxL := by
 intro x y d e z H F Q s hx hy h q
 unfold gIxL at h
 split at h
 ·obtain ⟨a, xs, rfl, hH, r⟩ := hx.lst s
  obtain ⟨v, e, p⟩ := r.atI h
  exact ⟨a, xs, _, v, rfl, hy.int, .of hH, e, q v H F (.refl s) p⟩
 ·rename_i ns i
  obtain ⟨a, rfl, hS⟩ := hx.scr s
  cases hz : atI ns i with
  | none => rw [hz] at h; cases h
  | some n =>
   rw [hz] at h; cases h
   exact ⟨a, _, _, .int n, rfl, hy.int, hS.seq, by rw [atI_map, hz]; rfl, q _ H F (.refl s) (by simp only [Rp])⟩
 ·cases h
theorem ok_ixT : OpOk K cl (rIxT K) gIxT := by
 intro x y d e z H F Q s hx hy h q
 unfold gIxT at h
 split at h
 ·obtain ⟨a, xs, rfl, hH, r⟩ := hx.tup s
  obtain ⟨v, e, p⟩ := r.atI h
  exact ⟨a, xs, _, v, rfl, hy.int, .of hH, e, q v H F (.refl s) p⟩
 ·cases h
def eqD : D → D → Bool
 | .non, .non => true
 | .bl a, .bl b => a == b
 | .bl a, .int b => (if a then 1 else 0) == b
 | .int a, .bl b => a == (if b then 1 else 0)
 | .int a, .int b => a == b
 | .str a, .str b => a == b
 | _, _ => false
def eqDs : List D → List D → Bool
 | [], [] => true
 | x :: xs, y :: ys => eqD x y && eqDs xs ys
 | _, _ => false
def flatD : D → Bool
 | .non => true
 | .bl _ => true
 | .int _ => true
 | .str _ => true
 | _ => false
theorem Rp.flat {d : D} {v : V} (h : Rp K cl F d v) (f : flatD d = true) : toV d = some v ∧ flatV v = true := by
 cases d <;> simp only [Rp] at h <;> first | (subst h; exact ⟨rfl, rfl⟩) | cases f
theorem Rps.flat : ∀ {ds : List D} {vs : List V}, Rps K cl F ds vs → ds.all flatD = true → vs.all flatV = true
 | [], _, h, _ => by rw [h.inv0]; rfl
 | d :: ds, _, h, f => by
  obtain ⟨v, r, rfl, h1, h2⟩ := h.inv
  rw [List.all_cons, Bool.and_eq_true] at f
  rw [List.all_cons, (h1.flat f.1).2, h2.flat f.2]; rfl
theorem Rp.eq {d e : D} {v u : V} (h : Rp K cl F d v) (g : Rp K cl F e u) (fd : flatD d = true) (fe : flatD e = true) : eqV v u = eqD d e := by
 have h1 := (h.flat fd).1
 have h2 := (g.flat fe).1
 cases d <;> cases e <;> first | (cases h1; cases h2; rfl) | (cases fd; done) | (cases fe; done)
theorem Rps.eq : ∀ {ds es : List D} {vs us : List V}, Rps K cl F ds vs → Rps K cl F es us → ds.all flatD = true → es.all flatD = true → eqVs vs us = eqDs ds es
 | [], [], _, _, h, g, _, _ => by rw [h.inv0, g.inv0]; rfl
 | [], _ :: _, _, _, h, g, _, _ => by rw [h.inv0]; obtain ⟨_, _, rfl, _, _⟩ := g.inv; rfl
 | _ :: _, [], _, _, h, g, _, _ => by rw [g.inv0]; obtain ⟨_, _, rfl, _, _⟩ := h.inv; rfl
 | d :: ds, e :: es, _, _, h, g, fd, fe => by
  obtain ⟨v, r, rfl, h1, h2⟩ := h.inv
  obtain ⟨u, r', rfl, g1, g2⟩ := g.inv
  rw [List.all_cons, Bool.and_eq_true] at fd fe
  unfold eqVs eqDs
  rw [h1.eq g1 fd.1 fe.1, h2.eq g2 fd.2 fe.2]
def gCat (d e : D) : Option (List D) := match d, e with
 | .lst ds, .lst es => if ds.length + es.length ≤ sizeLine then some (ds ++ es) else none
 | _, _ => none
theorem ok_cat : OnOk K cl rCat gCat := by
 intro x y d e zs H F Q s hx hy h q
 unfold gCat at h
 split at h
 ·split at h
  ·rename_i c; cases h
   obtain ⟨a, xs, rfl, hH, r⟩ := hx.lst s
   obtain ⟨b, ys, rfl, hH', r'⟩ := hy.lst s
   exact ⟨a, b, xs, ys, rfl, rfl, hH, hH', by rw [← r.length, ← r'.length]; exact c, fun p hp => q p _ hp (r.append r')⟩
  ·cases h
 ·cases h
def gLen : D → Option D
 | .lst ds => some (.int ds.length)
 | .tup ds => some (.int ds.length)
 | .scr ns => some (.int ns.length)
 | _ => none
theorem ok_len : CbOk1 K cl (rLenSeq K) gLen := by
 intro x d z H F Q s hx h q
 unfold gLen at h
 split at h
 ·cases h
  obtain ⟨a, xs, rfl, hH, r⟩ := hx.lst s
  exact ⟨a, xs, rfl, .inl (.of hH), q _ H F (.refl s) (by simp only [Rp]; rw [r.length])⟩
 ·cases h
  obtain ⟨a, xs, rfl, hH, r⟩ := hx.tup s
  exact ⟨a, xs, rfl, .inr (.of hH), q _ H F (.refl s) (by simp only [Rp]; rw [r.length])⟩
 ·cases h
  obtain ⟨a, rfl, hS⟩ := hx.scr s
  exact ⟨a, _, rfl, .inl hS.seq, q _ H F (.refl s) (by simp only [Rp]; rw [List.length_map])⟩
 ·cases h
def gList : D → Option (List D)
 | .lst ds => some ds
 | .tup ds => some ds
 | .scr ns => some (ns.map .int)
 | _ => none
theorem ok_list : CnOk K cl (rListOf K) gList := by
 intro x d zs H F Q s hx h q
 unfold gList at h
 split at h
 ·cases h
  obtain ⟨a, xs, rfl, hH, r⟩ := hx.lst s
  exact ⟨a, xs, rfl, .inl (.of hH), fun p hp => q p _ hp r⟩
 ·cases h
  obtain ⟨a, xs, rfl, hH, r⟩ := hx.tup s
  exact ⟨a, xs, rfl, .inr (.of hH), fun p hp => q p _ hp r⟩
 ·cases h
  obtain ⟨a, rfl, hS⟩ := hx.scr s
  exact ⟨a, _, rfl, .inl hS.seq, fun p hp => q p _ hp Rps.ofInts⟩
 ·cases h
def bools : List D → Option (List Bool)
 | [] => some []
 | .bl b :: ds => (bools ds).map (b :: ·)
 | _ => none
theorem bools_eq : ∀ {ds : List D} {bs : List Bool}, bools ds = some bs → ds = bs.map .bl
 | [], _, h => by cases h; rfl
 | .bl b :: ds, _, h => by
  unfold bools at h
  cases q : bools ds with
  | none => rw [q] at h; cases h
  | some bs => rw [q] at h; cases h; rw [bools_eq q]; rfl
 | .non :: _, _, h => by cases h
 | .int _ :: _, _, h => by cases h
 | .str _ :: _, _, h => by cases h
 | .ty _ :: _, _, h => by cases h
 | .cls _ :: _, _, h => by cases h
 | .tup _ :: _, _, h => by cases h
 | .lst _ :: _, _, h => by cases h
 | .scr _ :: _, _, h => by cases h
 | .exc _ :: _, _, h => by cases h
 | .obj _ _ _ :: _, _, h => by cases h
def gAll : D → Option D
 | .lst ds => (bools ds).map fun bs => .bl (bs.all id)
 | _ => none
theorem ok_all : CbOk1 K cl (rAll K) gAll := by
 intro x d z H F Q s hx h q
 unfold gAll at h
 split at h
 ·rename_i ds
  cases hb : bools ds with
  | none => rw [hb] at h; cases h
  | some bs =>
   rw [hb] at h; cases h
   obtain ⟨a, xs, rfl, hH, r⟩ := hx.lst s
   rw [bools_eq hb] at r
   rw [r.bls] at hH
   exact ⟨a, bs, rfl, .of hH, q _ H F (.refl s) (by simp only [Rp])⟩
 ·cases h
end
inductive R1 where | ret (d : D) | own (ds : List D) | owz (dss : List (List D)) | ex (c : Str)
def spD (K : W.Frag) (cl : Str → Addr) (g : List D → Option R1) : Sp := fun vs H Q E => ∃ ds F, Same F H ∧ Rps K cl F ds vs ∧ match g ds with
 | none => False
 | some (.ret d) => ∀ v H' F', Gr H F H' F' → Rp K cl F' d v → Q v H'
 | some (.own es) => ∀ a xs H' F', Gr H F H' F' → H a = none → H' a = some (.lst xs) → F' a = none → Rps K cl F' es xs → Q (.ref a) H'
 | some (.owz dss) => ∀ p as H' F', Gr H F H' F' → H p = none → H' p = some (.tup (as.map V.ref)) → F' p = none → Rz K cl F' H' (fun a => H a = none) dss as → Q (.ref p) H'
 | some (.ex c) => ∀ H' F', Gr H F H' F' → E (.ref (cl c)) none H'
def toZ (r : Option R1) (e : DE) : Option (R D) := match r with
 | none => none
 | some (.ret d) => some (.ok d e)
 | some (.own ds) => some (.ok (.lst ds) e)
 | some (.owz _) => none
 | some (.ex c) => some (.ex c)
def toZ0 (r : Option R1) (e : DE) : Option (R D) := match r with
 | some (.ret d) => some (.ok d e)
 | some (.own ds) => some (.ok (.lst ds) e)
 | _ => none
def eCall0 (g : List D → Option R1) (f : AF) : ZF := fun e => bnd (f e) fun ds e1 => toZ0 (g ds) e1
def put (i : Nat) (s : Sl) (e : DE) : Option RS := match e[i]? with
 | none => none
 | some (.hd _) => none
 | some _ => some (.nx (e.set i s))
def toSet (i : Nat) (r : Option R1) (e : DE) : Option RS := match r with
 | none => none
 | some (.ret d) => put i (.fz d) e
 | some (.own ds) => put i (.ow ds) e
 | some (.owz _) => none
 | some (.ex c) => some (.ex c)
def toSet0 (i : Nat) (r : Option R1) (e : DE) : Option RS := match r with
 | some (.ret d) => put i (.fz d) e
 | some (.own ds) => put i (.ow ds) e
 | _ => none
def toRet (r : Option R1) : Option RS := match r with
 | none => none
 | some (.ret d) => some (.rt d)
 | some (.own ds) => some (.ro ds)
 | some (.owz dss) => some (.rz dss)
 | some (.ex c) => some (.ex c)
def toRet0 (r : Option R1) : Option RS := match r with
 | some (.ret d) => some (.rt d)
 | some (.own ds) => some (.ro ds)
 | _ => none
def sNx : SF := fun e => some (.nx e)
def sSeq (f k : SF) : SF := fun e => match f e with
 | some (.nx e1) => k e1
 | r => r
def sSet (i : Nat) (f : ZF) : SF := fun e => sbn (f e) fun d e1 => put i (.fz d) e1
def sSetN (i : Nat) (f : NF) : SF := fun e => sbn (f e) fun ds e1 => put i (.ow ds) e1
def sSetC0 (i : Nat) (g : List D → Option R1) (f : AF) : SF := fun e => sbn (f e) fun ds e1 => toSet0 i (g ds) e1
def sRet (f : ZF) : SF := fun e => sbn (f e) fun d _ => some (.rt d)
def sRetN (f : NF) : SF := fun e => sbn (f e) fun ds _ => some (.ro ds)
def sIf (c : BF) (f k : SF) : SF := fun e => sbn (c e) fun b e1 => if b = true then f e1 else k e1
def sApp (i : Nat) (f : ZF) : SF := fun e => match look e i with
 | some (.lst _) => sbn (f e) fun d e1 => match e1[i]? with
  | some (.ow ds) => if ds.length < sizeLine then some (.nx (e1.set i (.ow (ds ++ [d])))) else none
  | _ => none
 | _ => none
section
variable {K : W.Frag} {cl : Str → Addr} {E : XK} {σ : St} {H F : Hp} {env : DE}
theorem Gr.fx {H' F' : Hp} (g : Gr H F H' F') : FX σ H F env H' F' := ⟨g.fz, g.sub, fun a o h f _ => g.hid a o h f, g.dom⟩
theorem call_z {g : List D → Option R1} {ds : List D} {vs : List V} {Q : VK} (R : Rel K cl σ H F env) (p : Rps K cl F ds vs) (h : Ct K cl E (PZ K cl) (toZ (g ds) env) σ H F env Q) : spD K cl g (vs ++ []) H Q E := by
 rw [List.append_nil]
 refine ⟨ds, F, R.sub, p, ?_⟩
 unfold toZ at h
 split at h
 ·exact h.elim
 ·exact fun v H' F' gr r => h v H' F' (R.frm gr) (R.gr gr) r
 ·rename_i es _
  intro a xs H' F' gr ha hH hF r
  have sF : Same F' (upd F' a (.lst xs)) := same_new hF _
  have gr' : Gr H F H' (upd F' a (.lst xs)) := by
   refine ⟨gr.fz.trans sF, fun b o z => ?_, fun b o hb fb => ?_⟩
   ·by_cases y : b = a
    ·subst y; rw [upd_same] at z; cases z; exact hH
    ·rw [upd_ne y] at z; exact gr.sub _ _ z
   ·obtain ⟨h1, f1⟩ := gr.hid b o hb fb
    have nb : b ≠ a := fun z => by rw [z, ha] at hb; cases hb
    exact ⟨h1, by rw [upd_ne nb]; exact f1⟩
  exact h _ H' _ (R.frm gr') (R.gr gr') (by show Rp K cl _ (.lst es) _; simp only [Rp]; exact ⟨a, xs, rfl, upd_same, r.mono sF⟩)
 ·exact h.elim
 ·exact fun H' F' gr => h H' F' gr.fx
theorem toZ_of0 {r : Option R1} {e : DE} {P : Py D V} {Q : VK} (h : Ct K cl E P (toZ0 r e) σ H F env Q) : toZ r e = toZ0 r e ∧ ∀ c, r ≠ some (.ex c) := by
 unfold toZ0 at h
 split at h
 ·exact ⟨rfl, fun c z => by cases z⟩
 ·exact ⟨rfl, fun c z => by cases z⟩
 ·exact h.elim
theorem rf_Call0 {g : List D → Option R1} {t : TA} {f : AF} (hf : RfA K cl E t f) : RfZ K cl E (tCall (spD K cl g) [] E0 t) (eCall0 g f) := by
 intro σ H Q env F R h
 refine hf σ H _ env F R ((Ct.bnd h pm_Z).mono fun vs H1 ⟨F1, e1, ds, s1, R1, p1, h1⟩ => ?_)
 refine call_z R1 p1 ?_
 obtain ⟨z, n⟩ := toZ_of0 h1
 rw [z]
 unfold Ct at h1 ⊢
 split at h1
 ·exact h1
 ·exact h1
 ·rename_i c q
  exact absurd q (by unfold toZ0; split <;> intro y <;> cases y)
theorem rf_Nx : RfS K cl E tNext sNx := fun N σ H env F R h => h σ H F Frm.refl R
theorem rf_Seq {t u : TS} {f k : SF} (hf : RfS K cl E t f) (hk : RfS K cl E u k) : RfS K cl E (tSeq t u) (sSeq f k) := by
 intro N σ H env F R h
 refine hf _ σ H env F R ?_
 unfold sSeq at h
 split at h
 ·rename_i e1 q
  rw [q]
  intro σ' H' F' fr R'
  exact hk N σ' H' e1 F' R' (h.from fr)
 ·rename_i n
  unfold Cs at h ⊢
  split at h
  ·exact h
  ·rename_i e q; exact absurd q (n e)
  all_goals exact h
theorem putS {i : Nat} {s : Sl} {e : DE} {N : Ends} {σ0 : St} {H0 F0 : Hp} {env0 : DE} (h : Cs K cl E (put i s e) σ0 H0 F0 env0 N) : i < e.length ∧ (∀ ds, e[i]? ≠ some (.hd ds)) ∧ Cs K cl E (some (.nx (e.set i s))) σ0 H0 F0 env0 N := by
 unfold put at h
 split at h
 ·exact h.elim
 ·exact h.elim
 ·rename_i z n q
  exact ⟨(List.getElem?_eq_some_iff.mp q).1, fun ds y => by rw [q] at y; cases y; exact n ds rfl, h⟩
theorem rf_Set {i : Nat} {t : TE} {f : ZF} (hf : RfZ K cl E t f) : RfS K cl E (tAsg t (gName i)) (sSet i f) := by
 intro N σ H env F R h
 refine hf σ H _ env F R ((Cs.bnd h).mono fun x H1 ⟨F1, e1, d, fr, R1, p1, h1⟩ => ?_)
 obtain ⟨hi, nh, h2⟩ := putS h1
 exact h2 _ H1 F1 (fr.trans (Frm.put nh)) (R1.put hi nh p1)
theorem rf_SetN {i : Nat} {t : TE} {f : NF} (hf : RfN K cl E t f) : RfS K cl E (tAsg t (gName i)) (sSetN i f) := by
 intro N σ H env F R h
 refine hf σ H _ env F R ((Cs.bnd h).mono fun x H1 ⟨F1, e1, ds, fr, R1, p1, h1⟩ => ?_)
 obtain ⟨a, xs, rfl, hn, hH, hF, nm, r⟩ := p1
 obtain ⟨hi, nh, h2⟩ := putS h1
 exact h2 _ H1 F1 (fr.putO hn nh) (R1.putO hi hH hF nm r)
theorem rf_Ret {t : TE} {f : ZF} (hf : RfZ K cl E t f) : RfS K cl E (tRet t) (sRet f) := by
 intro N σ H env F R h
 exact hf σ H _ env F R ((Cs.bnd h).mono fun x H1 ⟨F1, e1, d, fr, R1, p1, h1⟩ => h1 x H1 F1 (fr.toFX R1.sub) p1)
theorem rf_RetN {t : TE} {f : NF} (hf : RfN K cl E t f) : RfS K cl E (tRet t) (sRetN f) := by
 intro N σ H env F R h
 refine hf σ H _ env F R ((Cs.bnd h).mono fun x H1 ⟨F1, e1, ds, fr, R1, p1, h1⟩ => ?_)
 obtain ⟨a, xs, rfl, hn, hH, hF, nm, r⟩ := p1
 exact h1 a xs H1 F1 (fr.toFX R1.sub) hH hF (fun o e => by rw [hn] at e; cases e) r
theorem rf_If' {c : TT} {t u : TS} {b : BF} {f k : SF} (hc : RfB K cl E c b) (hf : RfS K cl E t f) (hk : RfS K cl E u k) : RfS K cl E (tIfS c t u) (sIf b f k) := by
 intro N σ H env F R h
 refine hc σ H _ env F R ((Cs.bnd h).mono fun x H1 ⟨F1, e1, d, fr, R1, p1, h1⟩ => ?_)
 cases (show x = d from p1)
 by_cases z : x = true
 ·rw [if_pos z] at h1 ⊢; exact hf N σ H1 e1 F1 R1 (h1.from fr)
 ·rw [if_neg z] at h1 ⊢; exact hk N σ H1 e1 F1 R1 (h1.from fr)
theorem rf_SetC0 {i : Nat} {g : List D → Option R1} {t : TA} {f : AF} (hf : RfA K cl E t f) : RfS K cl E (tAsg (tCall (spD K cl g) [] E0 t) (gName i)) (sSetC0 i g f) := by
 intro N σ H env F R h
 refine hf σ H _ env F R ((Cs.bnd h).mono fun vs H1 ⟨F1, e1, ds, fr, R1, p1, h1⟩ => ?_)
 show spD K cl g (vs ++ []) H1 _ E0
 rw [List.append_nil]
 refine ⟨ds, F1, R1.sub, p1, ?_⟩
 unfold toSet0 at h1
 split at h1
 ·rename_i q; rw [q]
  obtain ⟨hi, nh, h2⟩ := putS h1
  exact fun v H' F' gr r => h2 _ H' F' ((fr.trans (R1.frm gr)).trans (Frm.put nh)) ((R1.gr gr).put hi nh r)
 ·rename_i q; rw [q]
  obtain ⟨hi, nh, h2⟩ := putS h1
  intro a xs H' F' gr ha hH hF r
  refine h2 _ H' F' ((fr.trans (R1.frm gr)).putO (fr.dom a ha) nh) ((R1.gr gr).putO hi hH hF (fun j mj e => ?_) r)
  obtain ⟨es, q⟩ := mj
  obtain ⟨b, ys, e', hb, _⟩ := R1.mu j es q
  rw [e] at e'; cases e'
  rw [ha] at hb; cases hb
 ·exact h1.elim
theorem Rel.change {i : Nat} {ds es : List D} {a : Addr} {ys : List V} (R : Rel K cl σ H F env) (h : env[i]? = some (.ow ds)) (e : σ[i]? = some (some (.ref a))) (r : Rps K cl F es ys) :
  Rel K cl σ (upd H a (.lst ys)) F (env.set i (.ow es)) ∧ Frm σ H F env σ (upd H a (.lst ys)) F (env.set i (.ow es)) := by
 obtain ⟨a', xs, e', hH, hF, _⟩ := R.mu i ds (.inl h)
 rw [e] at e'; cases e'
 have hi : i < env.length := (List.getElem?_eq_some_iff.mp h).1
 have self : (env.set i (.ow es))[i]? = some (.ow es) := List.getElem?_set_self hi
 have oth : ∀ j, j ≠ i → (env.set i (.ow es))[j]? = env[j]? := fun j hj => List.getElem?_set_ne (Ne.symm hj)
 have mui : ∀ j, Mu (env.set i (.ow es)) j → Mu env j := fun j ⟨fs, q⟩ => by
  by_cases z : j = i
  ·subst z; exact ⟨ds, .inl h⟩
  ·rw [oth j z] at q; exact ⟨fs, q⟩
 refine ⟨⟨fun b o q => ?_, by rw [List.length_set]; exact R.len, fun j d q => ?_, fun j fs q => ?_, fun j k b hj hk => R.inj j k b (mui j hj) (mui k hk)⟩, ⟨Same.refl _, fun b o hb fb w => ?_, fun j fs q => ?_, fun b q => ?_⟩⟩
 ·have z : b ≠ a := fun z => by rw [z, hF] at q; cases q
  rw [upd_ne z]; exact R.sub _ _ q
 ·have z : j ≠ i := fun z => by subst z; rw [self] at q; cases q
  rw [oth j z] at q; exact R.fz j d q
 ·by_cases z : j = i
  ·subst z
   rw [self] at q
   rcases q with q | q
   ·cases q; exact ⟨a, ys, e, upd_same, hF, r⟩
   ·cases q
  ·rw [oth j z] at q
   obtain ⟨b, zs, e1, h1, f1, r1⟩ := R.mu j fs q
   have nb : b ≠ a := fun y => z (R.inj j i b ⟨fs, q⟩ ⟨ds, .inl h⟩ e1 (by rw [y]; exact e))
   exact ⟨b, zs, e1, by rw [upd_ne nb]; exact h1, f1, r1⟩
 ·have z : b ≠ a := fun z => w ⟨i, ds, h, by rw [z]; exact e⟩
  refine ⟨by rw [upd_ne z]; exact hb, fb, fun ⟨j, fs, q, e1⟩ => ?_⟩
  by_cases y : j = i
  ·subst y; rw [e] at e1; cases e1; exact z rfl
  ·rw [oth j y] at q; exact w ⟨j, fs, q, e1⟩
 ·have z : j ≠ i := fun z => by subst z; rw [h] at q; cases q
  exact ⟨by rw [oth j z]; exact q, rfl⟩
 ·by_cases z : b = a
  ·rw [z, upd_same] at q; cases q
  ·rw [upd_ne z] at q; exact q
theorem rf_App {i : Nat} {t : TE} {f : ZF} (hf : RfZ K cl E t f) : RfS K cl E (tDrop (tBM K "list" rAppend (tVar i) (tCons t tNil))) (sApp i f) := by
 intro N σ H env F R h
 unfold sApp at h
 split at h
 ·rename_i ds0 q
  obtain ⟨x, e0, rb⟩ := R.look q
  obtain ⟨a0, xs0, rfl, hH0, _⟩ := rb.lst R.sub
  refine ⟨_, e0, .inl ⟨rfl, xs0, .of hH0⟩, ?_⟩
  ·refine hf σ H _ env F R ((Cs.bnd h).mono fun y H1 ⟨F1, e1, d, fr, R1, p1, h1⟩ => ?_)
   split at h1
   ·rename_i ds q1
    split at h1
    ·rename_i c
     obtain ⟨a, xs, e, hH, hF, r⟩ := R1.mu i ds (.inl q1)
     rw [e0] at e; cases e
     obtain ⟨R2, f2⟩ := R1.change q1 e0 (r.append (.one p1))
     exact ⟨_, xs, y, rfl, rfl, hH, by rw [← r.length]; exact c, h1 σ _ F1 (fr.trans f2) R2⟩
    ·exact h1.elim
   ·exact h1.elim
 ·exact h.elim
end
abbrev GF := D → DE → Option DE
def bName (i : Nat) : GF := fun d e => match e[i]? with
 | none => none
 | some (.hd _) => none
 | some _ => some (e.set i (.fz d))
def bEach : List GF → List D → DE → Option DE
 | [], [], e => some e
 | b :: bs, d :: ds, e => match b d e with
  | none => none
  | some e1 => bEach bs ds e1
 | _, _, _ => none
def bTup (bs : List GF) : GF := fun d e => match d with
 | .tup ds => bEach bs ds e
 | _ => none
section
variable (K : W.Frag) (cl : Str → Addr)
def RfG (k : Nat) (g : TG) (b : GF) : Prop := ∀ v σ H Q d env env' F, Rel K cl σ H F env → Rp K cl F d v → b d env = some env' → (∀ σ', σ'.drop k = σ.drop k → σ'.length = σ.length → Frm σ H F env σ' H F env' → Rel K cl σ' H F env' → Q σ' H) → g v σ H Q
def RfGs (k : Nat) (t : TGs) (bs : List GF) : Prop := ∀ vs σ H Q ds env env' F, Rel K cl σ H F env → Rps K cl F ds vs → bEach bs ds env = some env' → (∀ σ', σ'.drop k = σ.drop k → σ'.length = σ.length → Frm σ H F env σ' H F env' → Rel K cl σ' H F env' → Q σ' H) → t vs σ H Q
end
section
variable {K : W.Frag} {cl : Str → Addr} {E : XK} {σ : St} {H F : Hp} {env : DE} {k : Nat}
theorem drop_set {α : Type} {l : List α} {i k : Nat} {x : α} (h : i < k) : (l.set i x).drop k = l.drop k := by
 apply List.ext_getElem?
 intro j
 rw [List.getElem?_drop, List.getElem?_drop, List.getElem?_set_ne (by omega)]
theorem rf_gName {i : Nat} (hi : i < k) : RfG K cl k (gName i) (bName i) := by
 intro v σ H Q d env env' F R p h q
 unfold bName at h
 split at h
 ·cases h
 ·cases h
 ·rename_i z n e
  cases h
  have nh : ∀ ds, env[i]? ≠ some (.hd ds) := fun ds y => by rw [e] at y; cases y; exact n ds rfl
  exact q _ (drop_set hi) List.length_set (Frm.put nh) (R.put (List.getElem?_eq_some_iff.mp e).1 nh p)
theorem rf_gNil : RfGs K cl k gNil [] := by
 intro vs σ H Q ds env env' F R p h q
 cases ds with
 | nil => cases h; exact ⟨p.inv0, q σ rfl rfl Frm.refl R⟩
 | cons _ _ => cases h
theorem rf_gCons {t : TG} {u : TGs} {b : GF} {bs : List GF} (h1 : RfG K cl k t b) (h2 : RfGs K cl k u bs) : RfGs K cl k (gCons t u) (b :: bs) := by
 intro vs σ H Q ds env env' F R p h q
 cases ds with
 | nil => cases h
 | cons d ds =>
  obtain ⟨v, r, rfl, p1, p2⟩ := p.inv
  unfold bEach at h
  split at h
  ·cases h
  ·rename_i e1 hb
   refine ⟨v, r, rfl, h1 v σ H _ d env e1 F R p1 hb fun σ1 d1 l1 f1 R1 => ?_⟩
   exact h2 r σ1 H _ ds e1 env' F R1 p2 h fun σ2 d2 l2 f2 R2 => q σ2 (d2.trans d1) (l2.trans l1) (f1.trans f2) R2
theorem bEach_len : ∀ {bs : List GF} {ds : List D} {e e' : DE}, bEach bs ds e = some e' → ds.length = bs.length
 | [], [], _, _, _ => rfl
 | [], _ :: _, _, _, h => by cases h
 | _ :: _, [], _, _, h => by cases h
 | b :: bs, d :: ds, e, e', h => by
  unfold bEach at h
  split at h
  ·cases h
  ·simp [bEach_len h]
theorem rf_gTup {t : TGs} {bs : List GF} {n : Nat} (h : RfGs K cl k t bs) (hn : bs.length = n) : RfG K cl k (gTup K n t) (bTup bs) := by
 intro v σ H Q d env env' F R p e q
 unfold bTup at e
 split at e
 ·rename_i ds
  simp only [Rp] at p
  obtain ⟨a, xs, rfl, hF, r⟩ := p
  exact ⟨a, xs, rfl, .of (R.sub _ _ hF), by rw [← r.length, bEach_len e, hn], h xs σ H Q ds env env' F R r e q⟩
 ·cases e
def sAsg (f : ZF) (b : GF) : SF := fun e => sbn (f e) fun d e1 => match b d e1 with
 | none => none
 | some e2 => some (.nx e2)
theorem rf_Asg {t : TE} {g : TG} {f : ZF} {b : GF} (hf : RfZ K cl E t f) (hg : RfG K cl k g b) : RfS K cl E (tAsg t g) (sAsg f b) := by
 intro N σ H env F R h
 refine hf σ H _ env F R ((Cs.bnd h).mono fun x H1 ⟨F1, e1, d, fr, R1, p1, h1⟩ => ?_)
 split at h1
 ·exact h1.elim
 ·rename_i e2 hb
  exact hg x σ H1 _ d e1 e2 F1 R1 p1 hb fun σ' _ _ f2 R2 => h1 σ' H1 F1 (fr.trans f2) R2
def forD (b : GF) (body : SF) : List D → DE → Option RS
 | [], e => some (.nx e)
 | d :: ds, e => match b d e with
  | none => none
  | some e1 => match body e1 with
   | some (.nx e2) => forD b body ds e2
   | some (.ct e2) => forD b body ds e2
   | some (.bk e2) => some (.nx e2)
   | r => r
theorem for_turn {b : GF} {body : SF} {g : TG} {tb : TS} {d : D} {x : V} {ds : List D} {e1 : DE} {N : Ends} {σ1 : St} {H1 F1 : Hp} {Pv : St → Hp → Prop} (hb : RfS K cl E tb body) (hg : RfG K cl k g b)
  (f1 : Frm σ H F env σ1 H1 F1 e1) (R1 : Rel K cl σ1 H1 F1 e1) (p : Rp K cl F1 d x) (h : Cs K cl E (forD b body (d :: ds) e1) σ H F env N)
  (hP : ∀ σ' H' F' e', Frm σ H F env σ' H' F' e' → Rel K cl σ' H' F' e' → Cs K cl E (forD b body ds e') σ H F env N → Pv σ' H') :
  g x σ1 H1 fun σ2 H2 => tb { N with nx := Pv, ct := Pv, bk := N.nx } σ2 H2 := by
 unfold forD at h
 split at h
 ·exact h.elim
 ·rename_i e2 hbd
  refine hg x σ1 H1 _ d e1 e2 F1 R1 p hbd fun σ2 _ _ f2 R2 => ?_
  refine hb _ σ2 H1 e2 F1 R2 ?_
  split at h
  ·rename_i e3 q; rw [q]
   exact fun σ' H' F' f3 R3 => hP σ' H' F' e3 ((f1.trans f2).trans f3) R3 h
  ·rename_i e3 q; rw [q]
   exact fun σ' H' F' f3 R3 => hP σ' H' F' e3 ((f1.trans f2).trans f3) R3 h
  ·rename_i e3 q; rw [q]
   exact fun σ' H' F' f3 R3 => h σ' H' F' ((f1.trans f2).trans f3) R3
  ·rename_i n1 n2 n3
   have h2 := h.from (f1.trans f2)
   unfold Cs at h2 ⊢
   split at h2
   ·exact h2
   ·rename_i e q; exact absurd q (n1 e)
   ·rename_i e q; exact absurd q (n3 e)
   ·rename_i e q; exact absurd q (n2 e)
   ·exact h2
   ·exact h2
   ·exact h2
   ·exact h2
theorem drop_cons {α : Type} {l : List α} {i : Nat} {x : α} (h : l[i]? = some x) : l.drop i = x :: l.drop (i + 1) := by
 obtain ⟨hi, e⟩ := List.getElem?_eq_some_iff.mp h
 rw [← e]; exact List.drop_eq_getElem_cons hi
theorem forL {b : GF} {body : SF} {g : TG} {tb : TS} {ds : List D} {xs : List V} {a : Addr} {N : Ends} (hb : RfS K cl E tb body) (hg : RfG K cl k g b) (R : Rel K cl σ H F env)
  (hl : ∀ σ' H' F' e', Frm σ H F env σ' H' F' e' → Rel K cl σ' H' F' e' → SqL K H' a xs) (r : Rps K cl F ds xs) (h : Cs K cl E (forD b body ds env) σ H F env N) :
  ∃ W : Nat → Nat → St → Hp → Prop, (∃ m, W 0 m σ H) ∧ ∀ i m σ H, W i m σ H →
   ((Itl K a).stop i H ∧ N.nx σ H) ∨ ((Itl K a).go i H ∧ ∃ M : St → Hp → Prop, (∀ σ' H', M σ' H' → ∃ m', m' < m ∧ W (i + 1) m' σ' H') ∧ ∀ x H', (Itl K a).yld i H x H' → g x σ H' fun σ2 H2 => tb { N with nx := M, ct := M, bk := N.nx } σ2 H2) := by
 refine for_list (xs := xs) (fun i σ' H' => ∃ F' e', Frm σ H F env σ' H' F' e' ∧ Rel K cl σ' H' F' e' ∧ Cs K cl E (forD b body (ds.drop i) e') σ H F env N) ⟨F, env, Frm.refl, R, h⟩ (fun i σ' H' _ ⟨F', e', f, R', _⟩ => hl σ' H' F' e' f R') (fun i x σ' H' hx ⟨F', e', f, R', h'⟩ => ?_) (fun σ' H' ⟨F', e', f, R', h'⟩ => ?_)
 ·obtain ⟨d, hd, p⟩ := r.get' hx
  rw [drop_cons hd] at h'
  exact for_turn hb hg f R' (Rp.mono f.fz _ _ p) h' fun σ2 H2 F2 e2 f2 R2 h2 => ⟨F2, e2, f2, R2, h2⟩
 ·rw [← r.length, List.drop_length] at h'
  exact h' σ' H' F' f R'
def seqL : D → Option (List D)
 | .lst ds => some ds
 | .scr ns => some (ns.map .int)
 | _ => none
theorem Rp.seqL {d : D} {ds : List D} {v : V} (p : Rp K cl F d v) (s : L2.seqL d = some ds) : ∃ a xs, v = .ref a ∧ Rps K cl F ds xs ∧ ∀ H', Same F H' → SqL K H' a xs := by
 unfold L2.seqL at s
 split at s
 ·cases s; simp only [Rp] at p
  obtain ⟨a, xs, e, h, r⟩ := p
  exact ⟨a, xs, e, r, fun H' g => .of (g _ _ h)⟩
 ·cases s; simp only [Rp] at p
  obtain ⟨a, e, h⟩ := p
  exact ⟨a, _, e, Rps.ofInts, fun H' g => (h.same g).seq⟩
 ·cases s
end
section
variable {K : W.Frag} {cl : Str → Addr} {E : XK} {σ : St} {H F : Hp} {env : DE} {k : Nat}
def unhide (i : Nat) (ds : List D) (r : Option RS) : Option RS := match r with
 | some (.nx e) => some (.nx (e.set i (.ow ds)))
 | some (.bk _) => none
 | some (.ct _) => none
 | r => r
theorem Rel.hide {i : Nat} {ds : List D} (R : Rel K cl σ H F env) (h : env[i]? = some (.ow ds)) : Rel K cl σ H F (env.set i (.hd ds)) := by
 have hi : i < env.length := (List.getElem?_eq_some_iff.mp h).1
 have self : (env.set i (.hd ds))[i]? = some (.hd ds) := List.getElem?_set_self hi
 have oth : ∀ j, j ≠ i → (env.set i (.hd ds))[j]? = env[j]? := fun j hj => List.getElem?_set_ne (Ne.symm hj)
 have mui : ∀ (j : Nat) (fs : List D), (env.set i (.hd ds))[j]? = some (.ow fs) ∨ (env.set i (.hd ds))[j]? = some (.hd fs) → env[j]? = some (.ow fs) ∨ env[j]? = some (.hd fs) := fun j fs q => by
  by_cases z : j = i
  ·subst z; rw [self] at q; rcases q with q | q <;> cases q; exact .inl h
  ·rw [oth j z] at q; exact q
 refine ⟨R.sub, by rw [List.length_set]; exact R.len, fun j d q => ?_, fun j fs q => R.mu j fs (mui j fs q), fun j l b ⟨fs, q⟩ ⟨gs, q'⟩ => R.inj j l b ⟨fs, mui j fs q⟩ ⟨gs, mui l gs q'⟩⟩
 have z : j ≠ i := fun z => by subst z; rw [self] at q; cases q
 rw [oth j z] at q; exact R.fz j d q
theorem Ow.hide {i : Nat} {ds : List D} {a : Addr} (w : Ow σ (env.set i (.hd ds)) a) : Ow σ env a := by
 obtain ⟨j, fs, q, e⟩ := w
 by_cases z : j = i
 ·subst z
  have hj : j < env.length := by have := (List.getElem?_eq_some_iff.mp q).1; rwa [List.length_set] at this
  rw [List.getElem?_set_self hj] at q; cases q
 ·rw [List.getElem?_set_ne (Ne.symm z)] at q; exact ⟨j, fs, q, e⟩
theorem Rel.unhide {i : Nat} {ds : List D} (R : Rel K cl σ H F env) (h : env[i]? = some (.hd ds)) : Rel K cl σ H F (env.set i (.ow ds)) := by
 have hi : i < env.length := (List.getElem?_eq_some_iff.mp h).1
 have self : (env.set i (.ow ds))[i]? = some (.ow ds) := List.getElem?_set_self hi
 have oth : ∀ j, j ≠ i → (env.set i (.ow ds))[j]? = env[j]? := fun j hj => List.getElem?_set_ne (Ne.symm hj)
 have mui : ∀ (j : Nat) (fs : List D), (env.set i (.ow ds))[j]? = some (.ow fs) ∨ (env.set i (.ow ds))[j]? = some (.hd fs) → env[j]? = some (.ow fs) ∨ env[j]? = some (.hd fs) := fun j fs q => by
  by_cases z : j = i
  ·subst z; rw [self] at q; rcases q with q | q <;> cases q; exact .inr h
  ·rw [oth j z] at q; exact q
 refine ⟨R.sub, by rw [List.length_set]; exact R.len, fun j d q => ?_, fun j fs q => R.mu j fs (mui j fs q), fun j l b ⟨fs, q⟩ ⟨gs, q'⟩ => R.inj j l b ⟨fs, mui j fs q⟩ ⟨gs, mui l gs q'⟩⟩
 have z : j ≠ i := fun z => by subst z; rw [self] at q; cases q
 rw [oth j z] at q; exact R.fz j d q
theorem Cs.hide {i : Nat} {ds : List D} {r : Option RS} {N : Ends} (R : Rel K cl σ H F env) (h : env[i]? = some (.ow ds)) (c : Cs K cl E (unhide i ds r) σ H F env N) : Cs K cl E r σ H F (env.set i (.hd ds)) N := by
 have hi : i < env.length := (List.getElem?_eq_some_iff.mp h).1
 have self : (env.set i (.hd ds))[i]? = some (.hd ds) := List.getElem?_set_self hi
 have fx : ∀ {H' F'}, FX σ H F (env.set i (.hd ds)) H' F' → FX σ H F env H' F' := fun x => ⟨x.fz, x.sub, fun a o h f w => x.hid a o h f fun y => w y.hide, x.dom⟩
 rcases r with _ | r
 ·exact c
 cases r with
 | nx e =>
  intro σ' H' F' f R'
  obtain ⟨q, eσ⟩ := f.keep i ds self
  refine c σ' H' F' ⟨f.fz, fun a o ha fa w => ?_, fun j fs q' => ?_, f.dom⟩ (R'.unhide q)
  ·obtain ⟨h1, f1, w1⟩ := f.hid a o ha fa fun y => w y.hide
   refine ⟨h1, f1, fun ⟨j, fs, q2, e2⟩ => ?_⟩
   by_cases z : j = i
   ·subst z
    rw [eσ] at e2
    exact w ⟨j, ds, h, e2⟩
   ·rw [List.getElem?_set_ne (Ne.symm z)] at q2
    exact w1 ⟨j, fs, q2, e2⟩
  ·have z : j ≠ i := fun z => by subst z; rw [h] at q'; cases q'
   obtain ⟨q2, e2⟩ := f.keep j fs (by rw [List.getElem?_set_ne (Ne.symm z)]; exact q')
   exact ⟨by rw [List.getElem?_set_ne (Ne.symm z)]; exact q2, e2⟩
 | bk e => exact c.elim
 | ct e => exact c.elim
 | rt d => exact fun v H' F' x p => c v H' F' (fx x) p
 | ro es => exact fun a xs H' F' x ha fa nw p => c a xs H' F' (fx x) ha fa (fun o e => (nw o e).hide) p
 | rz dss => exact fun p as H' F' x hp ht fp rz => c p as H' F' (fx x) hp ht fp (rz.imp fun a xs ha fa nw o e => (nw o e).hide)
 | ex n => exact fun H' F' x => c H' F' (fx x)
def sForV (i : Nat) (b : GF) (body : SF) : SF := fun e => match e[i]? with
 | some (.fz d) => (match seqL d with
  | none => none
  | some ds => forD b body ds e)
 | some (.ow ds) => unhide i ds (forD b body ds (e.set i (.hd ds)))
 | some (.hd ds) => forD b body ds e
 | _ => none
theorem Rel.hid_stays {i : Nat} {ds : List D} (R : Rel K cl σ H F env) (h : env[i]? = some (.hd ds)) : ∃ a xs, σ[i]? = some (some (.ref a)) ∧ Rps K cl F ds xs ∧ H a = some (.lst xs) ∧ ∀ σ' H' F' e', Frm σ H F env σ' H' F' e' → H' a = some (.lst xs) := by
 obtain ⟨a, xs, e, hH, hF, r⟩ := R.mu i ds (.inr h)
 refine ⟨a, xs, e, r, hH, fun σ' H' F' e' f => (f.hid a _ hH hF fun ⟨j, fs, q, e'⟩ => ?_).1⟩
 have z : i = j := R.inj i j a ⟨ds, .inr h⟩ ⟨fs, .inl q⟩ e e'
 subst z; rw [h] at q; cases q
theorem rf_ForV {i : Nat} {g : TG} {tb : TS} {b : GF} {body : SF} (hg : RfG K cl k g b) (hb : RfS K cl E tb body) : RfS K cl E (tFor (iList K (tVar i)) g tb) (sForV i b body) := by
 intro N σ H env F R h
 unfold sForV at h
 split at h
 ·rename_i d q
  split at h
  ·exact h.elim
  ·rename_i ds hs
   obtain ⟨v, e, p⟩ := R.fz i d q
   obtain ⟨a, xs, rfl, r, hl⟩ := Rp.seqL p hs
   exact ⟨_, e, a, rfl, ⟨xs, hl H R.sub⟩, forL hb hg R (fun σ' H' F' e' f2 R2 => hl H' (f2.fz.trans R2.sub)) r h⟩
 ·rename_i ds q
  have hi : i < env.length := (List.getElem?_eq_some_iff.mp q).1
  have R' := R.hide q
  obtain ⟨a, xs, e, r, hH, st⟩ := R'.hid_stays (i := i) (ds := ds) (List.getElem?_set_self hi)
  exact ⟨_, e, a, rfl, ⟨xs, .of hH⟩, forL hb hg R' (fun σ' H' F' e' f2 R2 => .of (st σ' H' F' e' f2)) r (h.hide R q)⟩
 ·rename_i ds q
  obtain ⟨a, xs, e, r, hH, st⟩ := R.hid_stays q
  exact ⟨_, e, a, rfl, ⟨xs, .of hH⟩, forL hb hg R (fun σ' H' F' e' f2 R2 => .of (st σ' H' F' e' f2)) r h⟩
 ·exact h.elim
def noHd (e : DE) : Bool := e.all fun s => match s with
 | .hd _ => false
 | _ => true
def sTryAs (n i : Nat) (exm : Str → Bool) (body suite : SF) : SF := fun e => match body e with
 | some (.ex c) => if (exm c && noHd e) = true then (match suite ((List.replicate n Sl.no).set i (.fz (.exc c))) with
   | some (.nx e2) => put i .no e2
   | some (.rt d) => some (.rt d)
   | some (.ro ds) => some (.ro ds)
   | _ => none) else none
 | r => r
theorem Rel.drop {i : Nat} (R : Rel K cl σ H F env) (nh : ∀ ds, env[i]? ≠ some (.hd ds)) : Rel K cl (σ.set i none) H F (env.set i .no) ∧ Frm σ H F env (σ.set i none) H F (env.set i .no) := by
 have key : ∀ (j : Nat) (s : Sl), (env.set i .no)[j]? = some s → s ≠ .no → j ≠ i ∧ env[j]? = some s := fun j s q ns => by
  by_cases z : j = i
  ·subst z
   have hj : j < env.length := by have := (List.getElem?_eq_some_iff.mp q).1; rwa [List.length_set] at this
   rw [List.getElem?_set_self hj] at q; cases q; exact absurd rfl ns
  ·rw [List.getElem?_set_ne (Ne.symm z)] at q; exact ⟨z, q⟩
 have muk : ∀ j, Mu (env.set i .no) j → j ≠ i ∧ Mu env j := fun j ⟨ds, q⟩ => by
  rcases q with q | q
  ·obtain ⟨z, q⟩ := key j _ q (fun z => by cases z); exact ⟨z, ds, .inl q⟩
  ·obtain ⟨z, q⟩ := key j _ q (fun z => by cases z); exact ⟨z, ds, .inr q⟩
 refine ⟨⟨R.sub, by rw [List.length_set, List.length_set]; exact R.len, fun j d q => ?_, fun j ds q => ?_, fun j l b hj hl e1 e2 => ?_⟩, ⟨Same.refl _, fun a o h f w => ⟨h, f, fun ⟨j, ds, q, e⟩ => ?_⟩, fun j ds q => ?_, fun _ h => h⟩⟩
 ·obtain ⟨z, q⟩ := key j _ q (fun z => by cases z)
  obtain ⟨v, e, p⟩ := R.fz j d q
  exact ⟨v, by rw [List.getElem?_set_ne (Ne.symm z)]; exact e, p⟩
 ·have : j ≠ i ∧ (env[j]? = some (.ow ds) ∨ env[j]? = some (.hd ds)) := by
   rcases q with q | q
   ·obtain ⟨z, q⟩ := key j _ q (fun z => by cases z); exact ⟨z, .inl q⟩
   ·obtain ⟨z, q⟩ := key j _ q (fun z => by cases z); exact ⟨z, .inr q⟩
  obtain ⟨z, q⟩ := this
  obtain ⟨a, xs, e, r⟩ := R.mu j ds q
  exact ⟨a, xs, by rw [List.getElem?_set_ne (Ne.symm z)]; exact e, r⟩
 ·obtain ⟨zj, mj⟩ := muk j hj
  obtain ⟨zl, ml⟩ := muk l hl
  rw [List.getElem?_set_ne (Ne.symm zj)] at e1
  rw [List.getElem?_set_ne (Ne.symm zl)] at e2
  exact R.inj j l b mj ml e1 e2
 ·obtain ⟨z, q⟩ := key j _ q (fun z => by cases z)
  rw [List.getElem?_set_ne (Ne.symm z)] at e
  exact w ⟨j, ds, q, e⟩
 ·have z : j ≠ i := fun z => by subst z; exact nh ds q
  rw [List.getElem?_set_ne (Ne.symm z), List.getElem?_set_ne (Ne.symm z)]
  exact ⟨q, rfl⟩
end
section
variable {K : W.Frag} {cl : Str → Addr} {E : XK} {σ : St} {H F : Hp} {env : DE} {k : Nat}
def capS : Option Sl → Sl
 | some (.fz d) => .fz d
 | some (.ow ds) => .hd ds
 | some (.hd ds) => .hd ds
 | _ => .no
def compE (k : Nat) (js : List Nat) (e : DE) : DE := List.replicate k .no ++ js.map fun j => capS e[j]?
def compD (b : GF) (c : BF) (el : ZF) (ec : DE) (eo : DE) : List D → List D → Option (R (List D))
 | [], acc => some (.ok acc eo)
 | d :: ds, acc => match b d ec with
  | none => none
  | some e1 => bnd (c e1) fun t e2 => if t = true then bnd (el e2) fun y _ => if acc.length < sizeLine then compD b c el ec eo ds (acc ++ [y]) else none
   else compD b c el ec eo ds acc
theorem compE_get {js : List Nat} {e : DE} {i : Nat} {s : Sl} (h : (compE k js e)[i]? = some s) (n : s ≠ .no) : k ≤ i ∧ ∃ j, js[i - k]? = some j ∧ capS e[j]? = s := by
 unfold compE at h
 by_cases z : i < k
 ·rw [List.getElem?_append_left (by rw [List.length_replicate]; exact z), List.getElem?_replicate, if_pos z] at h
  cases h; exact absurd rfl n
 ·rw [List.getElem?_append_right (by rw [List.length_replicate]; omega), List.length_replicate, List.getElem?_map] at h
  cases q : js[i - k]? with
  | none => rw [q] at h; cases h
  | some j => rw [q] at h; cases h; exact ⟨by omega, j, rfl, rfl⟩
theorem compSt_get {js : List Nat} {i j : Nat} {v : V} (hk : k ≤ i) (hj : js[i - k]? = some j) (h : σ[j]? = some (some v)) : (compSt k js σ)[i]? = some (some v) := by
 unfold compSt
 rw [List.getElem?_append_right (by rw [List.length_replicate]; exact hk), List.length_replicate, List.getElem?_map, hj]
 simp [h]
theorem Rel.comp {js : List Nat} (R : Rel K cl σ H F env) (nd : js.Nodup) : Rel K cl (compSt k js σ) H F (compE k js env) := by
 have cap : ∀ {j : Nat} {ds : List D}, capS env[j]? = .hd ds → env[j]? = some (.ow ds) ∨ env[j]? = some (.hd ds) := fun {j ds} h => by
  unfold capS at h
  split at h
  ·cases h
  ·rename_i q; cases h; exact .inl q
  ·rename_i q; cases h; exact .inr q
  ·cases h
 have noow : ∀ {j : Nat} {ds : List D}, capS env[j]? ≠ .ow ds := fun {j ds} h => by
  unfold capS at h
  split at h <;> cases h
 have mu' : ∀ (i : Nat) (ds : List D), ((compE k js env)[i]? = some (.ow ds) ∨ (compE k js env)[i]? = some (.hd ds)) → k ≤ i ∧ ∃ j, js[i - k]? = some j ∧ (env[j]? = some (.ow ds) ∨ env[j]? = some (.hd ds)) := fun i ds q => by
  rcases q with q | q
  ·obtain ⟨hk, j, hj, c⟩ := compE_get q (fun z => by cases z); exact absurd c noow
  ·obtain ⟨hk, j, hj, c⟩ := compE_get q (fun z => by cases z); exact ⟨hk, j, hj, cap c⟩
 refine ⟨R.sub, ?_, fun i d q => ?_, fun i ds q => ?_, fun i l b ⟨ds, q⟩ ⟨es, q'⟩ e1 e2 => ?_⟩
 ·unfold compSt compE
  rw [List.length_append, List.length_append, List.length_replicate, List.length_replicate, List.length_map, List.length_map]
 ·obtain ⟨hk, j, hj, c⟩ := compE_get q (fun z => by cases z)
  have : env[j]? = some (.fz d) := by
   unfold capS at c
   split at c
   ·rename_i q; cases c; exact q
   all_goals cases c
  obtain ⟨v, e, p⟩ := R.fz j d this
  exact ⟨v, compSt_get hk hj e, p⟩
 ·obtain ⟨hk, j, hj, c⟩ := mu' i ds q
  obtain ⟨a, xs, e, r⟩ := R.mu j ds c
  exact ⟨a, xs, compSt_get hk hj e, r⟩
 ·obtain ⟨hk, j, hj, c⟩ := mu' i ds q
  obtain ⟨hl, m, hm, c'⟩ := mu' l es q'
  obtain ⟨a, xs, e, _⟩ := R.mu j ds c
  obtain ⟨a', xs', e', _⟩ := R.mu m es c'
  have h1 := compSt_get (k := k) hk hj e
  have h2 := compSt_get (k := k) hl hm e'
  rw [e1] at h1; cases h1
  rw [e2] at h2; cases h2
  have jm : j = m := R.inj j m b ⟨ds, c⟩ ⟨es, c'⟩ e e'
  subst jm
  obtain ⟨hi', ei⟩ := List.getElem?_eq_some_iff.mp hj
  obtain ⟨hl', el⟩ := List.getElem?_eq_some_iff.mp hm
  have : i - k = l - k := (List.getElem_inj nd).mp (ei.trans el.symm)
  omega
def NoOw (e : DE) : Prop := ∀ (i : Nat) (ds : List D), e[i]? ≠ some (.ow ds)
theorem noow_comp {js : List Nat} {e : DE} : NoOw (compE k js e) := fun i ds q => by
 obtain ⟨hk, j, hj, c⟩ := compE_get q (fun z => by cases z)
 unfold capS at c
 split at c <;> cases c
theorem NoOw.not {e : DE} (n : NoOw e) {σ : St} {a : Addr} : ¬ Ow σ e a := fun ⟨i, ds, q, _⟩ => n i ds q
theorem Frm.gr {σ' : St} {H' F' : Hp} {env' : DE} (f : Frm σ H F env σ' H' F' env') (n : NoOw env) (s : Same F' H') : Gr H F H' F' := ⟨f.fz, s, fun a o h g => by obtain ⟨h1, f1, _⟩ := f.hid a o h g n.not; exact ⟨h1, f1⟩⟩
theorem FX.gr {H' F' : Hp} (f : FX σ H F env H' F') (n : NoOw env) : Gr H F H' F' := ⟨f.fz, f.sub, fun a o h g => f.hid a o h g n.not⟩
structure Grow (K : W.Frag) (cl : Str → Addr) (σ : St) (H0 F0 : Hp) (env : DE) (B : Addr) (acc : List D) (ys : List V) (H F : Hp) : Prop where
 rel : Rel K cl σ H F env
 frm : Frm σ H0 F0 env σ H F env
 new : H0 B = none
 at_ : H B = some (.lst ys)
 un : F B = none
 far : ∀ j, Mu env j → σ[j]? ≠ some (some (.ref B))
 rps : Rps K cl F acc ys
 stay : ∀ a o, H0 a = some o → F0 a = none → H a = some o ∧ F a = none
theorem Grow.start {B : Addr} (R : Rel K cl σ H F env) (hB : H B = none) : Grow K cl σ H F env B [] [] (upd H B (.lst [])) F := by
 obtain ⟨R', f⟩ := R.newN (o := .lst []) hB
 refine ⟨R', f, hB, upd_same, R.sub.free hB, fun j ⟨ds, q⟩ e => ?_, .nil, fun a o h f => ⟨by rw [upd_ne (fun z => by rw [z, hB] at h; cases h)]; exact h, f⟩⟩
 obtain ⟨a, ys, e1, hH, _⟩ := R.mu j ds q
 rw [e] at e1; cases e1
 rw [hB] at hH; cases hH
theorem Grow.gr {B : Addr} {acc : List D} {ys : List V} {H0 F0 H' F' : Hp} (g : Grow K cl σ H0 F0 env B acc ys H F) (r : Gr H F H' F') : Grow K cl σ H0 F0 env B acc ys H' F' :=
 ⟨g.rel.gr r, g.frm.trans (g.rel.frm r), g.new, (r.hid B _ g.at_ g.un).1, (r.hid B _ g.at_ g.un).2, g.far, g.rps.mono r.fz, fun a o h f => by obtain ⟨h1, f1⟩ := g.stay a o h f; exact r.hid a o h1 f1⟩
theorem Grow.push {B : Addr} {acc : List D} {ys : List V} {H0 F0 : Hp} {d : D} {y : V} (g : Grow K cl σ H0 F0 env B acc ys H F) (p : Rp K cl F d y) : Grow K cl σ H0 F0 env B (acc ++ [d]) (ys ++ [y]) (upd H B (.lst (ys ++ [y]))) F := by
 have ne : ∀ a o, F a = some o → a ≠ B := fun a o h z => by rw [z, g.un] at h; cases h
 refine ⟨⟨fun a o h => by rw [upd_ne (ne a o h)]; exact g.rel.sub _ _ h, g.rel.len, g.rel.fz, fun j ds q => ?_, g.rel.inj⟩, ⟨g.frm.fz, fun a o h f w => ?_, g.frm.keep, fun a h => ?_⟩, g.new, upd_same, g.un, g.far, g.rps.append (.one p), fun a o h f => by rw [upd_ne (fun z => by rw [z, g.new] at h; cases h)]; exact g.stay a o h f⟩
 ·obtain ⟨a, xs, e, hH, r⟩ := g.rel.mu j ds q
  have z : a ≠ B := fun z => g.far j ⟨ds, q⟩ (by rw [e, z])
  exact ⟨a, xs, e, by rw [upd_ne z]; exact hH, r⟩
 ·have z : a ≠ B := fun z => by rw [z, g.new] at h; cases h
  rw [upd_ne z]; exact g.frm.hid a o h f w
 ·by_cases z : a = B
  ·rw [z, upd_same] at h; cases h
  ·rw [upd_ne z] at h; exact g.frm.dom a h
theorem comp_turn {b : GF} {c : BF} {el : ZF} {g : TG} {tf : TT} {te : TE} {js : List Nat} {B : Addr} {d : D} {x : V} {ds acc : List D} {ys : List V} {H0 F0 : Hp} {Q : VK} {Pv : List V → Hp → Prop} (nd : js.Nodup)
  (hg : RfG K cl k g b) (hc : RfB K cl E tf c) (he : RfZ K cl E te el) (gw : Grow K cl σ H0 F0 env B acc ys H F) (p : Rp K cl F d x)
  (h : Ct K cl E (PN K cl) (compD b c el (compE k js env) env (d :: ds) acc) σ H0 F0 env Q)
  (hP : ∀ acc' ys' H' F', Grow K cl σ H0 F0 env B acc' ys' H' F' → Ct K cl E (PN K cl) (compD b c el (compE k js env) env ds acc') σ H0 F0 env Q → Pv ys' H') :
  g x (compSt k js σ) H fun σ2 H2 => (σ2.drop k = (compSt k js σ).drop k ∧ σ2.length = (compSt k js σ).length) ∧ tf σ2 H2 fun t H3 =>
   if t = true then te σ2 H3 fun y H4 => H4 B = some (.lst ys) ∧ ys.length < sizeLine ∧ Pv (ys ++ [y]) (upd H4 B (.lst (ys ++ [y]))) else Pv ys H3 := by
 unfold compD at h
 have Rc : Rel K cl (compSt k js σ) H F (compE k js env) := gw.rel.comp nd
 split at h
 ·exact h.elim
 ·rename_i e1 hb
  refine hg x _ H _ d _ e1 F Rc p hb fun σ2 d2 l2 f2 R2 => ⟨⟨d2, l2⟩, ?_⟩
  have n1 : NoOw (compE k js env) := noow_comp
  -- ways out by an exception
  have exc : ∀ {H' F' : Hp} {σ' : St} {e' : DE} {H'' F'' : Hp} {n : Str}, Frm (compSt k js σ) H F (compE k js env) σ' H' F' e' → FX σ' H' F' e' H'' F'' → (∀ H' F', FX σ H0 F0 env H' F' → E (.ref (cl n)) none H') → E (.ref (cl n)) none H'' := fun {H' F' σ' e' H'' F'' n} f fx q => by
   have gr : Gr H F H'' F'' := (f.fx fx).gr n1
   exact q _ _ (gw.frm.fx gr.fx)
  refine hc σ2 H _ e1 F R2 ?_
  cases hce : c e1 with
  | none => rw [hce] at h; exact h.elim
  | some rc =>
   rw [hce] at h
   cases rc with
   | ex n => exact fun H' F' fx => exc f2 fx h
   | ok t e2 =>
    intro t' H3 F3 f3 R3 ht
    have ht : t' = t := ht
    subst ht
    have h : Ct K cl E (PN K cl) (if t' = true then bnd (el e2) fun y _ => if acc.length < sizeLine then compD b c el (compE k js env) env ds (acc ++ [y]) else none else compD b c el (compE k js env) env ds acc) σ H0 F0 env Q := h
    have gr3 : Gr H F H3 F3 := (f2.trans f3).gr n1 R3.sub
    by_cases z : t' = true
    ·rw [if_pos z] at h ⊢
     refine he σ2 H3 _ e2 F3 R3 ?_
     cases hel : el e2 with
     | none => rw [hel] at h; exact h.elim
     | some re =>
      rw [hel] at h
      cases re with
      | ex n => exact fun H' F' fx => exc (f2.trans f3) fx h
      | ok y e3 =>
       intro v H4 F4 f4 R4 hv
       have h : Ct K cl E (PN K cl) (if acc.length < sizeLine then compD b c el (compE k js env) env ds (acc ++ [y]) else none) σ H0 F0 env Q := h
       split at h
       ·rename_i hlen
        have gr4 : Gr H F H4 F4 := ((f2.trans f3).trans f4).gr n1 R4.sub
        have gw4 := gw.gr gr4
        exact ⟨gw4.at_, by rw [← gw4.rps.length]; exact hlen, hP _ _ _ _ (gw4.push hv) h⟩
       ·exact h.elim
    ·rw [if_neg z] at h ⊢
     exact hP _ _ _ _ (gw.gr gr3) h
theorem comp_fin {b : GF} {c : BF} {el : ZF} {js : List Nat} {B : Addr} {acc : List D} {ys : List V} {H0 F0 : Hp} {Q : VK} (gw : Grow K cl σ H0 F0 env B acc ys H F) (h : Ct K cl E (PN K cl) (compD b c el (compE k js env) env [] acc) σ H0 F0 env Q) : Q (.ref B) H :=
 h _ H F gw.frm gw.rel ⟨B, ys, rfl, gw.new, gw.at_, gw.un, gw.far, gw.rps⟩
theorem compL {b : GF} {c : BF} {el : ZF} {g : TG} {tf : TT} {te : TE} {js : List Nat} {ds : List D} {xs : List V} {a B : Addr} {Q : VK} (nd : js.Nodup) (hg : RfG K cl k g b) (hc : RfB K cl E tf c) (he : RfZ K cl E te el) (R : Rel K cl σ H F env) (hB : H B = none)
  (hl : ∀ H' F', Same F F' → Same F' H' → (∀ a o, H a = some o → F a = none → H' a = some o ∧ F' a = none) → SqL K H' a xs) (r : Rps K cl F ds xs) (h : Ct K cl E (PN K cl) (compD b c el (compE k js env) env ds []) σ H F env Q) :
  tCompR (Itl K a) g tf te k (compSt k js σ) B (fun H' => Q (.ref B) H') H := by
 refine comp_list (xs := xs) (fun i ys H' => ∃ F' acc, Grow K cl σ H F env B acc ys H' F' ∧ Ct K cl E (PN K cl) (compD b c el (compE k js env) env (ds.drop i) acc) σ H F env Q) ⟨F, [], .start R hB, h⟩ (fun i ys H' _ ⟨F', acc, gw, _⟩ => hl H' F' gw.frm.fz gw.rel.sub gw.stay) (fun i x ys H' hx ⟨F', acc, gw, h'⟩ => ?_) (fun ys H' ⟨F', acc, gw, h'⟩ => ?_)
 ·obtain ⟨d, hd, p⟩ := r.get' hx
  rw [drop_cons hd] at h'
  exact comp_turn (Pv := fun ys' H2 => ∃ F' acc, Grow K cl σ H F env B acc ys' H2 F' ∧ Ct K cl E (PN K cl) (compD b c el (compE k js env) env (ds.drop (i + 1)) acc) σ H F env Q) nd hg hc he gw (Rp.mono gw.frm.fz _ _ p) h' fun acc' ys' H2 F2 gw2 h2 => ⟨F2, acc', gw2, h2⟩
 ·rw [← r.length, List.drop_length] at h'
  exact comp_fin gw h'
def bTrue : BF := fun e => some (.ok true e)
theorem rf_bTrue : RfB K cl E tTrue bTrue := fun σ H Q env F R h => h true H F Frm.refl R rfl
def nComp (k : Nat) (js : List Nat) (f : ZF) (b : GF) (c : BF) (el : ZF) : NF := fun e => bnd (f e) fun d e1 => match seqL d with
 | none => none
 | some ds => compD b c el (compE k js e1) e1 ds []
def nCompV (i : Nat) (k : Nat) (js : List Nat) (b : GF) (c : BF) (el : ZF) : NF := fun e => match look e i with
 | some d => (match seqL d with
  | none => none
  | some ds => compD b c el (compE k js e) e ds [])
 | none => none
theorem rf_Comp {t : TE} {g : TG} {tf : TT} {te : TE} {js : List Nat} {f : ZF} {b : GF} {c : BF} {el : ZF} (nd : js.Nodup) (hf : RfZ K cl E t f) (hg : RfG K cl k g b) (hc : RfB K cl E tf c) (he : RfZ K cl E te el) : RfN K cl E (tComp (iList K t) g tf te k js) (nComp k js f b c el) := by
 intro σ H Q env F R h
 refine hf σ H _ env F R ((Ct.bnd h pm_N).mono fun x H1 ⟨F1, e1, d, s1, R1, p1, h1⟩ => ?_)
 split at h1
 ·exact h1.elim
 ·rename_i ds hs
  obtain ⟨a, xs, rfl, r, hl⟩ := Rp.seqL p1 hs
  exact ⟨a, rfl, ⟨xs, hl H1 R1.sub⟩, fun B hB => compL nd hg hc he R1 hB (fun H' F' f2 s2 _ => hl H' (f2.trans s2)) r h1⟩
theorem rf_CompV {i : Nat} {g : TG} {tf : TT} {te : TE} {js : List Nat} {b : GF} {c : BF} {el : ZF} (nd : js.Nodup) (hg : RfG K cl k g b) (hc : RfB K cl E tf c) (he : RfZ K cl E te el) : RfN K cl E (tComp (iList K (tVar i)) g tf te k js) (nCompV i k js b c el) := by
 intro σ H Q env F R h
 unfold nCompV look at h
 cases q : env[i]? with
 | none => rw [q] at h; exact h.elim
 | some s =>
  rw [q] at h
  cases s with
  | no => exact h.elim
  | fz d =>
   have h : Ct K cl E (PN K cl) (match seqL d with
    | none => none
    | some ds => compD b c el (compE k js env) env ds []) σ H F env Q := h
   split at h
   ·exact h.elim
   ·rename_i ds hs
    obtain ⟨v, e, p⟩ := R.fz i d q
    obtain ⟨a, xs, rfl, r, hl⟩ := Rp.seqL p hs
    exact ⟨_, e, a, rfl, ⟨xs, hl H R.sub⟩, fun B hB => compL nd hg hc he R hB (fun H' F' f2 s2 _ => hl H' (f2.trans s2)) r h⟩
  | ow ds =>
   have h : Ct K cl E (PN K cl) (compD b c el (compE k js env) env ds []) σ H F env Q := h
   obtain ⟨a, xs, e, hH, hF, r⟩ := R.mu i ds (.inl q)
   exact ⟨_, e, a, rfl, ⟨xs, .of hH⟩, fun B hB => compL nd hg hc he R hB (fun H' F' _ _ st => .of (st a _ hH hF).1) r h⟩
  | hd ds =>
   have h : Ct K cl E (PN K cl) (compD b c el (compE k js env) env ds []) σ H F env Q := h
   obtain ⟨a, xs, e, hH, hF, r⟩ := R.mu i ds (.inr q)
   exact ⟨_, e, a, rfl, ⟨xs, .of hH⟩, fun B hB => compL nd hg hc he R hB (fun H' F' _ _ st => .of (st a _ hH hF).1) r h⟩
theorem rf_SetComp {i : Nat} {wi : TI} {g : TG} {tf : TT} {te : TE} {js : List Nat} {f : NF} (h : RfN K cl E (tComp wi g tf te k js) f) : RfS K cl E (tCompSet i wi g tf te k js) (sSetN i f) := fun N σ H env F R q => rf_SetN h N σ H env F R q
end
def fD (n m : Nat) (body : SF) (ds : List D) : Option R1 := if ds.length = m then (match body (ds.map .fz ++ List.replicate (n - ds.length) .no) with
 | some (.nx _) => some (.ret .non)
 | some (.rt d) => some (.ret d)
 | some (.ro es) => some (.own es)
 | some (.rz dss) => some (.owz dss)
 | some (.ex c) => some (.ex c)
 | _ => none) else none
section
variable {P : Program} {w : World} {K : W.Frag} {mg : Str → Option Value} {base : Heap} {cl : Str → Addr}
theorem start_rel {N : List Str} {vs : List V} {ds : List D} {H F : Hp} (s : Same F H) (p : Rps K cl F ds vs) : Rel K cl (start N vs) H F (ds.map .fz ++ List.replicate (N.length - ds.length) .no) ∧ NoOw (ds.map .fz ++ List.replicate (N.length - ds.length) .no) := by
 have key : ∀ (i : Nat) (t : Sl), (ds.map Sl.fz ++ List.replicate (N.length - ds.length) .no)[i]? = some t → t ≠ .no → ∃ d, ds[i]? = some d ∧ t = .fz d := fun i t q n => by
  by_cases z : i < ds.length
  ·rw [List.getElem?_append_left (by rw [List.length_map]; exact z), List.getElem?_map] at q
   cases hd : ds[i]? with
   | none => rw [hd] at q; cases q
   | some d => rw [hd] at q; cases q; exact ⟨d, rfl, rfl⟩
  ·rw [List.getElem?_append_right (by rw [List.length_map]; omega), List.getElem?_replicate] at q
   split at q
   ·cases q; exact absurd rfl n
   ·cases q
 have no : NoOw (ds.map .fz ++ List.replicate (N.length - ds.length) .no) := fun i es q => by
  obtain ⟨d, _, z⟩ := key i _ q (fun z => by cases z); cases z
 refine ⟨⟨s, ?_, fun i d q => ?_, fun i es q => ?_, fun i j b ⟨es, q⟩ _ _ _ => ?_⟩, no⟩
 ·unfold start
  rw [List.length_append, List.length_append, List.length_map, List.length_map, List.length_replicate, List.length_replicate, p.length]
 ·obtain ⟨d', hd, z⟩ := key i _ q (fun z => by cases z)
  cases z
  obtain ⟨v, hv, r⟩ := p.get hd
  refine ⟨v, ?_, r⟩
  unfold start
  rw [List.getElem?_append_left (by rw [List.length_map]; exact (List.getElem?_eq_some_iff.mp hv).1), List.getElem?_map, hv]; rfl
 ·rcases q with q | q
  ·obtain ⟨d, _, z⟩ := key i _ q (fun z => by cases z); cases z
  ·obtain ⟨d, _, z⟩ := key i _ q (fun z => by cases z); cases z
 ·rcases q with q | q
  ·obtain ⟨d, _, z⟩ := key i _ q (fun z => by cases z); cases z
  ·obtain ⟨d, _, z⟩ := key i _ q (fun z => by cases z); cases z
theorem spD_len {n m : Nat} {body : SF} {vs : List V} {H : Hp} {Q : VK} {E : XK} (h : spD K cl (fD n m body) vs H Q E) : vs.length = m := by
 obtain ⟨ds, F, s, p, h⟩ := h
 unfold fD at h
 by_cases z : ds.length = m
 ·rw [← p.length]; exact z
 ·rw [if_neg z] at h; exact h.elim
theorem body_reads {N : List Str} {m : Nat} {body : SF} {t : TS} {vs : List V} {H : Hp} {Q : VK} {E : XK} (hb : RfS K cl E t body) (h : spD K cl (fD N.length m body) vs H Q E) : t { nx := fun _ H' => Q .non H', rt := Q } (start N vs) H := by
 obtain ⟨ds, F, s, p, h⟩ := h
 obtain ⟨R, no⟩ := start_rel (N := N) s p
 refine hb _ _ H _ F R ?_
 unfold fD at h
 by_cases z : ds.length = m
 ·rw [if_pos z] at h
  cases r : body (ds.map .fz ++ List.replicate (N.length - ds.length) .no) with
  | none => rw [r] at h; exact h.elim
  | some rs =>
   rw [r] at h
   cases rs with
   | nx e => exact fun σ' H' F' f R' => h .non H' F' (f.gr no R'.sub) (by simp only [Rp])
   | rt d => exact fun v H' F' x q => h v H' F' (x.gr no) q
   | ro es =>
    refine fun a xs H' F' x ha fa nw q => h a xs H' F' (x.gr no) ?_ ha fa q
    cases e : H a with
    | none => rfl
    | some o => exact absurd (nw o e) no.not
   | rz dss =>
    refine fun p as H' F' x hp ht fp rz => h p as H' F' (x.gr no) hp ht fp (rz.imp fun a xs ha fa nw => ?_)
    cases e : H a with
    | none => rfl
    | some o => exact absurd (nw o e) no.not
   | bk e => exact h.elim
   | ct e => exact h.elim
   | ex c => exact fun H' F' x => h H' F' (x.gr no)
 ·rw [if_neg z] at h; exact h.elim
theorem Fun.okD {x qual : Str} {st : Stmt} {f : Addr} {fd : FuncData} {N ps : List Str} {k : Nat} {body : SF} (F : Fun K x qual st f fd) (S : FnScope N ps (defScope st))
  (hbody : ∀ (cdv : Value) (A : Around) (outer : List Env) (s : Shared) (H : Hp) (E : XK), Room k (A.deeper (envOfC qual (defScope st) s.heap.objs.size f cdv)) →
   ∃ t, PSs (cxOf (CXe P w) P w K mg base N qual (defScope st) f cdv A outer s H E) (defBody st) t ∧ RfS K cl E t body) : FnOk P w K mg base (CXe P w) (k + 1) f fd ps (spD K cl (fD N.length ps.length body)) :=
 F.okE S (fun vs H Q E h => spD_len h) fun cdv A outer s H vs Q E hr h => by
  obtain ⟨t, h1, h2⟩ := hbody cdv A outer s H E hr
  exact ⟨t, h1, body_reads h2 h⟩
theorem FunD.okD {x qual : Str} {st : Stmt} {dT f : Addr} {fd : FuncData} {N ps : List Str} {k : Nat} {body : SF} (F : FunD K x qual st dT f fd) (S : FnScope N ps (defScope st))
  (hbody : ∀ (cdv : Value) (A : Around) (outer : List Env) (s : Shared) (H : Hp) (E : XK), Room k (A.deeper (envOfC qual (defScope st) s.heap.objs.size f cdv)) →
   ∃ t, PSs (cxOf (CXe P w) P w K mg base N qual (defScope st) f cdv A outer s H E) (defBody st) t ∧ RfS K cl E t body) : FnOk P w K mg base (CXe P w) (k + 1) f fd ps (spD K cl (fD N.length ps.length body)) :=
 F.okE S (fun vs H Q E h => spD_len h) fun cdv A outer s H vs Q E hr h => by
  obtain ⟨t, h1, h2⟩ := hbody cdv A outer s H E hr
  exact ⟨t, h1, body_reads h2 h⟩
theorem spD_law {g : List D → Option R1} {vs : List V} {H : Hp} {Q : VK} {E : XK} {a : Addr} {ns : List Int} (e : vs = [.ref a]) (h : Scr K H a (ns.map V.int)) (q : ∀ H', Q (.bl true) H') (m : g [.scr ns] = some (.ret (.bl true))) : spD K cl g vs H Q E := by
 refine ⟨[.scr ns], H, Same.refl _, ?_, ?_⟩
 ·rw [e]; exact .one (by simp only [Rp]; exact ⟨a, rfl, h⟩)
 ·rw [m]
  intro v H' F' _ p
  have p : Rp K cl F' (.bl true) v := p
  simp only [Rp] at p
  rw [p]; exact q H'
def tyN : D → Option String
 | .non => some "NoneType"
 | .bl _ => some "bool"
 | .int _ => some "int"
 | .str _ => some "str"
 | .lst _ => some "list"
 | .tup _ => some "tuple"
 | _ => none
theorem kit_tab {K : W.Frag} (t n : String) (ht : t ∈ ["NoneType", "bool", "int", "str", "list", "tuple"]) (hn : n ∈ ["bool", "int", "str", "list", "tuple"]) : W.kitOne K (.type t) (.type n) = some (t == n || (t == "bool" && n == "int")) := by
 simp only [List.mem_cons, List.not_mem_nil, or_false] at ht hn
 rcases ht with rfl | rfl | rfl | rfl | rfl | rfl <;> rcases hn with rfl | rfl | rfl | rfl | rfl <;> first | rfl | with_unfolding_all rfl
def gIsi : List D → Option D
 | [d, .ty n] => match tyN d with
  | some t => if n ∈ ["bool", "int", "str", "list", "tuple"] then some (.bl (t == n || (t == "bool" && n == "int"))) else none
  | none => none
 | _ => none
theorem tyN_mem {d : D} {t : String} (h : tyN d = some t) : t ∈ ["NoneType", "bool", "int", "str", "list", "tuple"] := by
 cases d <;> cases h <;> decide
theorem tyN_of {F H : Hp} {d : D} {t : String} {v : V} (s : Same F H) (p : Rp K cl F d v) (h : tyN d = some t) : TyX K H v (.type t) := by
 cases d <;> cases h <;> simp only [Rp] at p
 ·subst p; exact .of .non
 ·subst p; exact .of (.bl _)
 ·subst p; exact .of (.int _)
 ·subst p; exact .of (.str _)
 ·obtain ⟨a, xs, rfl, h, _⟩ := p; exact .of (.tup (s _ _ h))
 ·obtain ⟨a, xs, rfl, h, _⟩ := p; exact .of (.lst (s _ _ h))
def gIsiV (n : String) (d : D) : Option D := match tyN d with
 | some t => if n ∈ ["bool", "int", "str", "list", "tuple"] then some (.bl (t == n || (t == "bool" && n == "int"))) else none
 | none => none
def eIsiV (i : Nat) (n : String) : ZF := fun e => match look e i with
 | some d => opt (gIsiV n d) e
 | none => none
theorem rf_IsiV {E : XK} {i : Nat} {n : String} {t : TE} (ht : t = tC (.ty n) := by rfl) : RfZ K cl E (tCB (rIsi K) (tCons (tVar i) (tCons t tNil))) (eIsiV i n) := by
 subst ht
 intro σ H Q env F R h
 unfold eIsiV at h
 cases q : look env i with
 | none => rw [q] at h; exact h.elim
 | some d =>
  rw [q] at h
  obtain ⟨x, e, rb⟩ := R.look q
  refine ⟨x, e, ?_⟩
  cases hz : gIsiV n d with
  | none => simp only [hz, opt_none] at h; exact h.elim
  | some z =>
   simp only [hz, opt_some] at h
   unfold gIsiV at hz
   split at hz
   ·rename_i t ht
    split at hz
    ·rename_i hn; cases hz
     refine ⟨x, _, _, _, _, rfl, rfl, ?_, kit_tab t n (tyN_mem ht) hn, h _ H F Frm.refl R (by show Rp K cl F (.bl _) _; simp only [Rp])⟩
     rcases rb with p | ⟨a, xs, ds, rfl, rfl, hH, _⟩
     ·exact tyN_of R.sub p ht
     ·cases ht; exact .of (.lst hH)
    ·cases hz
   ·cases hz
end
section
variable {α β : Type}
def seqR (r : Option RS) (k : SF) : Option RS := match r with
 | some (.nx e) => k e
 | r => r
theorem sSeq_eq {f k : SF} {e : DE} : sSeq f k e = seqR (f e) k := rfl
theorem seqR_nx {e : DE} {k : SF} : seqR (some (.nx e)) k = k e := rfl
theorem seqR_rt {d : D} {k : SF} : seqR (some (.rt d)) k = some (.rt d) := rfl
theorem seqR_ro {d : List D} {k : SF} : seqR (some (.ro d)) k = some (.ro d) := rfl
theorem seqR_ex {d : Str} {k : SF} : seqR (some (.ex d)) k = some (.ex d) := rfl
theorem seqR_bk {e : DE} {k : SF} : seqR (some (.bk e)) k = some (.bk e) := rfl
theorem seqR_ct {e : DE} {k : SF} : seqR (some (.ct e)) k = some (.ct e) := rfl
theorem seqR_no {k : SF} : seqR none k = none := rfl
theorem seqR_ite {c : Prop} [Decidable c] {a b : Option RS} {k : SF} : seqR (if c then a else b) k = if c then seqR a k else seqR b k := by split <;> rfl
theorem sbn_ite {c : Prop} [Decidable c] {a b : Option (R α)} {k : α → DE → Option RS} : sbn (if c then a else b) k = if c then sbn a k else sbn b k := by split <;> rfl
theorem toZ_ret {d : D} {e : DE} : toZ (some (.ret d)) e = some (.ok d e) := rfl
theorem toZ_own {d : List D} {e : DE} : toZ (some (.own d)) e = some (.ok (.lst d) e) := rfl
theorem toZ_ex {d : Str} {e : DE} : toZ (some (.ex d)) e = some (.ex d) := rfl
theorem toZ0_ret {d : D} {e : DE} : toZ0 (some (.ret d)) e = some (.ok d e) := rfl
theorem toZ0_own {d : List D} {e : DE} : toZ0 (some (.own d)) e = some (.ok (.lst d) e) := rfl
theorem toSet_ret {i : Nat} {d : D} {e : DE} : toSet i (some (.ret d)) e = put i (.fz d) e := rfl
theorem toSet_own {i : Nat} {d : List D} {e : DE} : toSet i (some (.own d)) e = put i (.ow d) e := rfl
theorem toSet_ex {i : Nat} {d : Str} {e : DE} : toSet i (some (.ex d)) e = some (.ex d) := rfl
theorem toSet0_ret {i : Nat} {d : D} {e : DE} : toSet0 i (some (.ret d)) e = put i (.fz d) e := rfl
theorem toSet0_own {i : Nat} {d : List D} {e : DE} : toSet0 i (some (.own d)) e = put i (.ow d) e := rfl
theorem toRet_ret {d : D} : toRet (some (.ret d)) = some (.rt d) := rfl
theorem toRet_own {d : List D} : toRet (some (.own d)) = some (.ro d) := rfl
theorem toRet_ex {d : Str} : toRet (some (.ex d)) = some (.ex d) := rfl
theorem toRet0_ret {d : D} : toRet0 (some (.ret d)) = some (.rt d) := rfl
theorem toRet0_own {d : List D} : toRet0 (some (.own d)) = some (.ro d) := rfl
def finR (r : Option RS) : Option R1 := match r with
 | some (.nx _) => some (.ret .non)
 | some (.rt d) => some (.ret d)
 | some (.ro es) => some (.own es)
 | some (.rz dss) => some (.owz dss)
 | some (.ex c) => some (.ex c)
 | _ => none
theorem fD_eq {n m : Nat} {body : SF} {ds : List D} (h : ds.length = m) : fD n m body ds = finR (body (ds.map .fz ++ List.replicate (n - m) .no)) := by
 unfold fD; rw [if_pos h, h]; rfl
theorem finR_nx {e : DE} : finR (some (.nx e)) = some (.ret .non) := rfl
theorem finR_rt {d : D} : finR (some (.rt d)) = some (.ret d) := rfl
theorem finR_rz {d : List (List D)} : finR (some (.rz d)) = some (.owz d) := rfl
theorem seqR_rz {d : List (List D)} {k : SF} : seqR (some (.rz d)) k = some (.rz d) := rfl
theorem toRet_owz {d : List (List D)} : toRet (some (.owz d)) = some (.rz d) := rfl
theorem finR_ro {d : List D} : finR (some (.ro d)) = some (.own d) := rfl
theorem finR_ex {d : Str} : finR (some (.ex d)) = some (.ex d) := rfl
theorem finR_ite {c : Prop} [Decidable c] {a b : Option RS} : finR (if c then a else b) = if c then finR a else finR b := by split <;> rfl
def forK (r : Option RS) (k : SF) : Option RS := match r with
 | some (.nx e) => k e
 | some (.ct e) => k e
 | some (.bk e) => some (.nx e)
 | r => r
theorem forK_nx {e : DE} {k : SF} : forK (some (.nx e)) k = k e := rfl
theorem forK_ct {e : DE} {k : SF} : forK (some (.ct e)) k = k e := rfl
theorem forK_bk {e : DE} {k : SF} : forK (some (.bk e)) k = some (.nx e) := rfl
theorem forK_rt {d : D} {k : SF} : forK (some (.rt d)) k = some (.rt d) := rfl
theorem forK_rz {d : List (List D)} {k : SF} : forK (some (.rz d)) k = some (.rz d) := rfl
theorem forK_ro {d : List D} {k : SF} : forK (some (.ro d)) k = some (.ro d) := rfl
theorem forK_ex {d : Str} {k : SF} : forK (some (.ex d)) k = some (.ex d) := rfl
theorem forD_nil {b : GF} {body : SF} {e : DE} : forD b body [] e = some (.nx e) := rfl
def optR (x : Option DE) (k : SF) : Option RS := match x with
 | none => none
 | some e => k e
theorem forD_step {b : GF} {body : SF} {d : D} {ds : List D} {e : DE} : forD b body (d :: ds) e = optR (b d e) fun e1 => forK (body e1) (forD b body ds) := by
 rw [forD]; cases b d e <;> rfl
theorem optR_some {e : DE} {k : SF} : optR (some e) k = k e := rfl
def tryR (n i : Nat) (exm : Str → Bool) (suite : SF) (e : DE) (r : Option RS) : Option RS := match r with
 | some (.ex c) => if (exm c && noHd e) = true then (match suite ((List.replicate n Sl.no).set i (.fz (.exc c))) with
   | some (.nx e2) => put i .no e2
   | some (.rt d) => some (.rt d)
   | some (.ro ds) => some (.ro ds)
   | _ => none) else none
 | r => r
theorem sTryAs_eq {n i : Nat} {exm : Str → Bool} {body suite : SF} {e : DE} : sTryAs n i exm body suite e = tryR n i exm suite e (body e) := rfl
def susR (i : Nat) (r : Option RS) : Option RS := match r with
 | some (.nx e2) => put i .no e2
 | some (.rt d) => some (.rt d)
 | some (.ro ds) => some (.ro ds)
 | _ => none
theorem susR_nx {i : Nat} {e : DE} : susR i (some (.nx e)) = put i .no e := rfl
theorem susR_rt {i : Nat} {d : D} : susR i (some (.rt d)) = some (.rt d) := rfl
theorem susR_ro {i : Nat} {d : List D} : susR i (some (.ro d)) = some (.ro d) := rfl
theorem tryR_ex {n i : Nat} {exm : Str → Bool} {suite : SF} {e : DE} {c : Str} : tryR n i exm suite e (some (.ex c)) = if (exm c && noHd e) = true then susR i (suite ((List.replicate n Sl.no).set i (.fz (.exc c)))) else none := rfl
theorem tryR_rt {n i : Nat} {exm : Str → Bool} {suite : SF} {e : DE} {d : D} : tryR n i exm suite e (some (.rt d)) = some (.rt d) := rfl
theorem tryR_ro {n i : Nat} {exm : Str → Bool} {suite : SF} {e : DE} {d : List D} : tryR n i exm suite e (some (.ro d)) = some (.ro d) := rfl
theorem tryR_nx {n i : Nat} {exm : Str → Bool} {suite : SF} {e e1 : DE} : tryR n i exm suite e (some (.nx e1)) = some (.nx e1) := rfl
theorem gAdd_eq (a b : Int) : gAdd (.int a) (.int b) = some (.int (a + b)) := rfl
theorem gSub_eq (a b : Int) : gSub' (.int a) (.int b) = some (.int (a - b)) := rfl
theorem gLt_eq (a b : Int) : gLt (.int a) (.int b) = some (.bl (decide (a < b))) := rfl
theorem gLe_eq (a b : Int) : gLe (.int a) (.int b) = some (.bl (decide (a ≤ b))) := rfl
theorem gGt_eq (a b : Int) : gGt (.int a) (.int b) = some (.bl (decide (b < a))) := rfl
theorem gGe_eq (a b : Int) : gGe (.int a) (.int b) = some (.bl (decide (b ≤ a))) := rfl
theorem gMul_eq {a b : Int} (h : IntMulOk a b) : gMul (.int a) (.int b) = some (.int (a * b)) := by show (if _ then _ else _) = _; rw [if_pos h]
theorem gDiv_eq {a b : Int} (h : 0 < b ∧ b.natAbs.log2 < 9000) : gDiv (.int a) (.int b) = some (.int (a / b)) := by show (if _ then _ else _) = _; rw [if_pos h]
theorem gMod_eq {a b : Int} (h : 0 < b) : gMod (.int a) (.int b) = some (.int (a % b)) := by show (if _ then _ else _) = _; rw [if_pos h]
theorem gPow_eq {a b : Int} (h : CPow a b) : gPow (.int a) (.int b) = some (.int (a ^ b.toNat)) := by show (if _ then _ else _) = _; rw [if_pos h]
end
def Fits (i : Int) : Prop := Builtin.Int.intBits i ≤ 2 ^ 20
theorem bits_le {a b : Int} (h : a.natAbs ≤ b.natAbs) : Builtin.Int.intBits a ≤ Builtin.Int.intBits b := by
 unfold Builtin.Int.intBits
 split
 ·exact Nat.zero_le _
 ·rename_i ha
  have ha' : a.natAbs ≠ 0 := by
   intro z; apply ha; first | exact Int.natAbs_eq_zero.mp z | (simpa using z)
  have hb' : b.natAbs ≠ 0 := by omega
  split
  ·rename_i hb
   exact absurd (by first | exact Int.natAbs_eq_zero.mpr hb | (simpa using hb)) hb'
  ·have h1 : b.natAbs < 2 ^ (b.natAbs.log2 + 1) := Nat.lt_log2_self
   have h2 : a.natAbs.log2 < b.natAbs.log2 + 1 := (Nat.log2_lt ha').mpr (by omega)
   omega
theorem Fits.le {a b : Int} (h : Fits b) (l : a.natAbs ≤ b.natAbs) : Fits a := Nat.le_trans (bits_le l) h
theorem Fits.mod {i n : Int} (hn : 0 < n) (h : Fits n) : Fits (i % n) := by
 refine h.le ?_
 have h1 := Int.emod_nonneg i (show n ≠ 0 by omega)
 have h2 := Int.emod_lt_of_pos i hn
 omega
theorem mul_small {a b : Int} (h : a.natAbs < 2 ^ 64) : IntMulOk a b := IntMulOk.of_left (intBits_le_64 (by omega) (by omega))
theorem mul_small' {a b : Int} (h : b.natAbs < 2 ^ 64) : IntMulOk a b := IntMulOk.of_right (intBits_le_64 (by omega) (by omega))
theorem gMul_r {a b : Int} (h : b.natAbs < 2 ^ 64) : gMul (.int a) (.int b) = some (.int (a * b)) := gMul_eq (mul_small' h)
section
variable {α : Type}
theorem atI_0 {a : α} {l : List α} : atI (a :: l) 0 = some a := by unfold atI ixN; simp
theorem atI_s {a : α} {l : List α} {n : Nat} : atI (a :: l) ((n : Int) + 1) = atI l n := by
 unfold atI ixN
 have h1 : (0 : Int) ≤ (n : Int) + 1 := by omega
 have h2 : (0 : Int) ≤ (n : Int) := by omega
 rw [if_pos h1, if_pos h2]
 by_cases z : (n : Int) < (l.length : Int)
 ·rw [if_pos z, if_pos (by rw [List.length_cons]; push_cast; omega)]
  show (a :: l)[((n : Int) + 1).toNat]? = l[((n : Int)).toNat]?
  rw [show ((n : Int) + 1).toNat = n + 1 by omega, show ((n : Int)).toNat = n by omega]
  rfl
 ·rw [if_neg z, if_neg (by rw [List.length_cons]; push_cast; omega)]
  rfl
theorem atI_1 {a b : α} {l : List α} : atI (a :: b :: l) 1 = some b := (atI_s (n := 0)).trans atI_0
theorem atI_2 {a b c : α} {l : List α} : atI (a :: b :: c :: l) 2 = some c := (atI_s (n := 1)).trans atI_1
theorem atI_3 {a b c d : α} {l : List α} : atI (a :: b :: c :: d :: l) 3 = some d := (atI_s (n := 2)).trans atI_2
theorem atI_4 {a b c d e : α} {l : List α} : atI (a :: b :: c :: d :: e :: l) 4 = some e := (atI_s (n := 3)).trans atI_3
theorem atI_5 {a b c d e f : α} {l : List α} : atI (a :: b :: c :: d :: e :: f :: l) 5 = some f := (atI_s (n := 4)).trans atI_4
theorem atI_in {l : List α} {i : Int} (h0 : 0 ≤ i) (h1 : i < l.length) : ∃ a, atI l i = some a ∧ a ∈ l := by
 unfold atI ixN
 rw [if_pos h0, if_pos h1]
 have h : i.toNat < l.length := by omega
 exact ⟨l[i.toNat], by show l[i.toNat]? = _; exact List.getElem?_eq_getElem h, List.getElem_mem h⟩
end
def cellAt (ns : List Int) (k : Int) : Int := ns.getD k.toNat 0
theorem cell_eq {ns : List Int} {k : Int} (hk : 0 ≤ k) : (if k < (ns.length : Int) then (match atI ns k with
  | none => none
  | some n => some (R1.ret (D.int n))) else some (R1.ret (D.int 0))) = some (R1.ret (D.int (cellAt ns k))) := by
 unfold cellAt
 by_cases z : k < (ns.length : Int)
 ·rw [if_pos z]
  have h : k.toNat < ns.length := by omega
  have e : atI ns k = some ns[k.toNat] := by
   unfold atI ixN
   rw [if_pos hk, if_pos z]
   exact List.getElem?_eq_getElem h
  rw [e, List.getD_eq_getElem?_getD, List.getElem?_eq_getElem h]; rfl
 ·rw [if_neg z, List.getD_eq_getElem?_getD, List.getElem?_eq_none (by omega)]; rfl
section
variable {K : W.Frag} {cl : Str → Addr} {E : XK} {σ : St} {H F : Hp} {env : DE} {k : Nat}
def oS (f : ZF) : OF := fun e => bnd (f e) fun d e1 => match d with
 | .int i => some (.ok (some i) e1)
 | _ => none
theorem rf_oS {t : TE} {f : ZF} (hf : RfZ K cl E t f) : RfO K cl E (tPart t) (oS f) := by
 intro σ H Q env F R h
 refine hf σ H _ env F R ((Ct.bnd h pm_I).mono fun x H1 ⟨F1, e1, d, s1, R1, p1, h1⟩ => ?_)
 split at h1
 ·rename_i i
  have : x = .int i := by have := (show Rp K cl F1 (.int i) x from p1); simpa only [Rp] using this
  exact ⟨i, this, h1 _ H1 F1 Frm.refl R1 rfl⟩
 ·exact h1.elim
def cutD (xs : List D) (lo hi : Option Int) : List D := (xs.drop (HT.sIx xs.length 0 lo)).take (HT.sIx xs.length xs.length hi - HT.sIx xs.length 0 lo)
theorem Rps.cut {ds : List D} {xs : List V} (h : Rps K cl F ds xs) (lo hi : Option Int) : Rps K cl F (cutD ds lo hi) (cutV xs lo hi) := by
 unfold cutD cutV
 rw [h.length]
 exact (h.drop _).take _
def nSlV (i : Nat) (l u : OF) : NF := fun e => match look e i with
 | none => none
 | some _ => bnd (l e) fun lo e2 => bnd (u e2) fun hi e3 => match look e3 i with
  | some d => (match seqL d with
   | some ds => some (.ok (cutD ds lo hi) e3)
   | none => none)
  | none => none
theorem Rb.seqL {d : D} {ds : List D} {v : V} (s : Same F H) (p : Rb K cl F H d v) (q : L2.seqL d = some ds) : ∃ a xs, v = .ref a ∧ Rps K cl F ds xs ∧ SqL K H a xs := by
 rcases p with p | ⟨a, xs, es, e, rfl, h, r⟩
 ·obtain ⟨a, xs, e, r, l⟩ := Rp.seqL p q; exact ⟨a, xs, e, r, l H s⟩
 ·cases q; exact ⟨a, xs, e, r, .of h⟩
theorem rf_SlV {i : Nat} {tl tu : TO} {l u : OF} (hl : RfO K cl E tl l) (hu : RfO K cl E tu u) : RfN K cl E (tSl (rSlL K) (tVar i) tl tu) (nSlV i l u) := by
 intro σ H Q env F R h
 unfold nSlV at h
 cases q : look env i with
 | none => rw [q] at h; exact h.elim
 | some d0 =>
  rw [q] at h
  obtain ⟨x, e0, _⟩ := R.look q
  refine ⟨x, e0, ?_⟩
  refine hl σ H _ env F R ((Ct.bnd h pm_N).mono fun lo H2 ⟨F2, e2, lo', s2, R2, p2, h2⟩ => ?_)
  refine hu σ H2 _ e2 F2 R2 ((Ct.bnd h2 pm_N).mono fun hi H3 ⟨F3, e3, hi', s3, R3, p3, h3⟩ => ?_)
  cases (show lo = lo' from p2)
  cases (show hi = hi' from p3)
  cases q2 : look e3 i with
  | none => simp only [q2] at h3; exact h3.elim
  | some d =>
   simp only [q2] at h3
   obtain ⟨x', e', rb⟩ := R3.look q2
   rw [e0] at e'; cases e'
   split at h3
   ·rename_i ds hs
    obtain ⟨a, xs, rfl, r, hq⟩ := rb.seqL R3.sub hs
    exact ⟨a, xs, rfl, hq, fun p hp => Ct.newN R3 hp (r.cut _ _) h3⟩
   ·exact h3.elim
end
section
variable {P : Program} {w : World} {mg : Str → Option Value} {base : Heap} {K : W.Frag} {cl : Str → Addr} {E : XK} {σ : St} {H F : Hp} {env : DE} {k : Nat}
def intsD : List D → Option (List Int)
 | [] => some []
 | .int b :: ds => (intsD ds).map (b :: ·)
 | _ => none
theorem ints_eq : ∀ {ds : List D} {bs : List Int}, intsD ds = some bs → ds = bs.map .int
 | [], _, h => by cases h; rfl
 | .int b :: ds, _, h => by
  unfold intsD at h
  cases q : intsD ds with
  | none => rw [q] at h; cases h
  | some bs => rw [q] at h; cases h; rw [ints_eq q]; rfl
 | .non :: _, _, h => by cases h
 | .bl _ :: _, _, h => by cases h
 | .str _ :: _, _, h => by cases h
 | .ty _ :: _, _, h => by cases h
 | .cls _ :: _, _, h => by cases h
 | .tup _ :: _, _, h => by cases h
 | .lst _ :: _, _, h => by cases h
 | .scr _ :: _, _, h => by cases h
 | .exc _ :: _, _, h => by cases h
 | .obj _ _ _ :: _, _, h => by cases h
theorem ints_map : ∀ (ns : List Int), intsD (ns.map .int) = some ns
 | [] => rfl
 | n :: ns => by show (intsD (ns.map .int)).map (n :: ·) = _; rw [ints_map ns]; rfl
end
def optB (x : Option DE) (k : DE → Option (R (List D))) : Option (R (List D)) := match x with
 | none => none
 | some e => k e
theorem optB_some {e : DE} {k : DE → Option (R (List D))} : optB (some e) k = k e := rfl
theorem compD_nil {b : GF} {c : BF} {el : ZF} {ec eo : DE} {acc : List D} : compD b c el ec eo [] acc = some (.ok acc eo) := rfl
theorem compD_cons {b : GF} {c : BF} {el : ZF} {ec eo : DE} {d : D} {ds acc : List D} : compD b c el ec eo (d :: ds) acc = optB (b d ec) fun e1 => bnd (c e1) fun t e2 => if t = true then bnd (el e2) fun y _ => if acc.length < sizeLine then compD b c el ec eo ds (acc ++ [y]) else none else compD b c el ec eo ds acc := by
 rw [compD]; cases b d ec <;> rfl
section
variable {K : W.Frag} {cl : Str → Addr} {E : XK} {σ : St} {H F : Hp} {env : DE} {k : Nat}
def gMax2 : List D → Option D
 | [.int i, .int j] => some (.int (if j > i then j else i))
 | _ => none
def gMin2 : List D → Option D
 | [.int i, .int j] => some (.int (if j < i then j else i))
 | _ => none
theorem ok_max2 : CbOk K cl (fun xs H Q => ∃ i j, xs = [.int i, .int j] ∧ Q (.int (if j > i then j else i)) H) gMax2 := by
 intro xs ds z H F Q s p h q
 unfold gMax2 at h
 split at h
 ·rename_i i j; cases h
  exact ⟨i, j, Rps.ints (ns := [i, j]) p, q _ H F (.refl s) (by simp only [Rp])⟩
 ·cases h
theorem ok_min2 : CbOk K cl (fun xs H Q => ∃ i j, xs = [.int i, .int j] ∧ Q (.int (if j < i then j else i)) H) gMin2 := by
 intro xs ds z H F Q s p h q
 unfold gMin2 at h
 split at h
 ·rename_i i j; cases h
  exact ⟨i, j, Rps.ints (ns := [i, j]) p, q _ H F (.refl s) (by simp only [Rp])⟩
 ·cases h
theorem bt_min : bootBuiltins "min" = some (.builtin "min") := by decide +kernel
def gInt1 : D → Option D
 | .int i => some (.int i)
 | .bl b => some (.int (if b then 1 else 0))
 | _ => none
theorem ok_int1 : CbOk1 K cl (fun xs H Q => (∃ i, xs = [.int i] ∧ Q (.int i) H) ∨ ∃ k, xs = [.bl k] ∧ Q (.int (if k then 1 else 0)) H) gInt1 := by
 intro x d z H F Q s hx h q
 unfold gInt1 at h
 split at h
 ·rename_i i; cases h; rw [hx.int]; exact .inl ⟨i, rfl, q _ H F (.refl s) (by simp only [Rp])⟩
 ·rename_i i; cases h; rw [hx.bl]; exact .inr ⟨i, rfl, q _ H F (.refl s) (by simp only [Rp])⟩
 ·cases h
theorem Rb.flat {d : D} {v : V} (h : Rb K cl F H d v) (f : flatD d = true) : Rp K cl F d v := by
 rcases h with h | ⟨_, _, _, _, rfl, _⟩
 ·exact h
 ·cases f
end
mutual
def eqB : D → D → Bool
 | .tup ds, e => (match e with
  | .tup es => eqBs ds es
  | _ => false)
 | .lst ds, e => (match e with
  | .lst es => eqBs ds es
  | _ => false)
 | d, e => eqD d e
def eqBs : List D → List D → Bool
 | [], es => es.isEmpty
 | d :: ds, es => (match es with
  | [] => false
  | e :: es => eqB d e && eqBs ds es)
end
mutual
def plainD : D → Bool
 | .tup ds => plainDs ds
 | .lst ds => plainDs ds
 | d => flatD d
def plainDs : List D → Bool
 | [] => true
 | d :: ds => plainD d && plainDs ds
end
mutual
def depD : D → Nat
 | .tup ds => depDs ds + 1
 | .lst ds => depDs ds + 1
 | _ => 0
def depDs : List D → Nat
 | [] => 0
 | d :: ds => max (depD d) (depDs ds)
end
def eAtD (ds es : List D) (j : Nat) : Bool := match ds[j]?, es[j]? with
 | some d, some e => eqB d e
 | _, _ => true
theorem eqBs_range : ∀ {ds es : List D}, ds.length = es.length → (List.range ds.length).all (eAtD ds es) = eqBs ds es
 | [], [], _ => by simp [eqBs]
 | d :: ds, e :: es, h => by
  have h' : ds.length = es.length := by simpa using h
  simp only [eqBs]
  show (List.range (ds.length + 1)).all _ = (eqB d e && eqBs ds es)
  rw [List.range_succ_eq_map, List.all_cons, List.all_map, ← eqBs_range h']
  rfl
theorem eqBs_len : ∀ {ds es : List D}, ds.length ≠ es.length → eqBs ds es = false
 | [], [], h => absurd rfl h
 | _ :: _, [], _ => by simp [eqBs]
 | [], _ :: _, _ => by simp [eqBs]
 | d :: ds, e :: es, h => by
  simp only [eqBs]
  rw [eqBs_len (fun q => h (by simp [q])), Bool.and_false]
section
variable {K : W.Frag} {cl : Str → Addr} {F : Hp}
theorem eqD_flat {d e : D} {v : V} (fd : flatD d = true) (p : Rp K cl F d v) (q : Rp K cl F e v) (pe : plainD e = true) : eqD d e = true := by
 cases d <;> first | (cases fd; done) | skip
 all_goals simp only [Rp] at p; subst p
 all_goals cases e <;> simp only [Rp] at q <;> first | (cases q; done) | (cases q; simp [eqD]; done) | (obtain ⟨_, _, z, _⟩ := q; cases z; done) | (obtain ⟨_, z, _⟩ := q; cases z; done) | (simp [plainD, flatD] at pe; done)
mutual
theorem same_eq : ∀ (d e : D) (v : V), Rp K cl F d v → Rp K cl F e v → plainD d = true → plainD e = true → eqB d e = true
 | .tup ds, e, v, p, q, pd, pe => by
  simp only [Rp] at p
  obtain ⟨a, xs, rfl, ha, r⟩ := p
  cases e <;> simp only [Rp] at q
  case tup es =>
   obtain ⟨a', ys, z, ha', r'⟩ := q
   cases z; rw [ha] at ha'; cases ha'
   simp only [plainD] at pd pe
   simp only [eqB]
   exact sames_eq ds es xs r r' pd pe
  case lst es =>
   obtain ⟨a', ys, z, ha', r'⟩ := q
   cases z; rw [ha] at ha'; cases ha'
  all_goals first | (cases q; done) | (simp [plainD, flatD] at pe; done)
 | .lst ds, e, v, p, q, pd, pe => by
  simp only [Rp] at p
  obtain ⟨a, xs, rfl, ha, r⟩ := p
  cases e <;> simp only [Rp] at q
  case lst es =>
   obtain ⟨a', ys, z, ha', r'⟩ := q
   cases z; rw [ha] at ha'; cases ha'
   simp only [plainD] at pd pe
   simp only [eqB]
   exact sames_eq ds es xs r r' pd pe
  case tup es =>
   obtain ⟨a', ys, z, ha', r'⟩ := q
   cases z; rw [ha] at ha'; cases ha'
  all_goals first | (cases q; done) | (simp [plainD, flatD] at pe; done)
 | .non, e, v, p, q, pd, pe => by simp only [eqB]; exact eqD_flat rfl p q pe
 | .bl _, e, v, p, q, pd, pe => by simp only [eqB]; exact eqD_flat rfl p q pe
 | .int _, e, v, p, q, pd, pe => by simp only [eqB]; exact eqD_flat rfl p q pe
 | .str _, e, v, p, q, pd, pe => by simp only [eqB]; exact eqD_flat rfl p q pe
 | .ty _, e, v, p, q, pd, pe => by simp [plainD, flatD] at pd
 | .cls _, e, v, p, q, pd, pe => by simp [plainD, flatD] at pd
 | .scr _, e, v, p, q, pd, pe => by simp [plainD, flatD] at pd
 | .exc _, e, v, p, q, pd, pe => by simp [plainD, flatD] at pd
 | .obj _ _ _, e, v, p, q, pd, pe => by simp [plainD, flatD] at pd
theorem sames_eq : ∀ (ds es : List D) (vs : List V), Rps K cl F ds vs → Rps K cl F es vs → plainDs ds = true → plainDs es = true → eqBs ds es = true
 | [], es, vs, p, q, _, _ => by
  rw [p.inv0] at q
  cases es with
  | nil => simp [eqBs]
  | cons e es => obtain ⟨_, _, z, _⟩ := q.inv; cases z
 | d :: ds, es, vs, p, q, pd, pe => by
  obtain ⟨v, r, rfl, p1, p2⟩ := p.inv
  cases es with
  | nil => have := q.inv0; cases this
  | cons e es =>
   obtain ⟨v', r', z, q1, q2⟩ := q.inv
   cases z
   simp only [plainDs, Bool.and_eq_true] at pd pe
   simp only [eqBs]
   rw [same_eq d e v p1 q1 pd.1 pe.1, sames_eq ds es r p2 q2 pd.2 pe.2]; rfl
end
end
section
variable {X : Cx} {cl : Str → Addr} {F : Hp} {pins : List (Addr × Obj)} {σ : St} {H : Hp} {s : Shared}
theorem ref_flat {a : Addr} {d : D} {v : V} {u : Value} {A : Around} (hu : A.units < cLine) (hl : (∃ xs, SqL X.K H a xs) ∨ ∃ xs, SqT X.K H a xs) (I : Inv X pins σ H s) (f : flatD d = true) (p : Rp X.K cl F d v) (r : RelV v u) : SeqAt.EqAt A s (.ref a) u false ∧ SeqAt.EqAt A s u (.ref a) false := by
 rcases hl with ⟨xs, h⟩ | ⟨xs, h⟩
 ·obtain ⟨us, r1, p1, z1⟩ := I.list h
  have q := p1.isList
  cases d <;> first | (cases f; done) | skip
  all_goals simp only [Rp] at p; subst p
  ·cases r; exact ⟨.list_none q hu, .none_list q hu⟩
  ·cases r; exact ⟨.list_bool _ q hu, .bool_list _ q hu⟩
  ·obtain ⟨t, rfl⟩ := r; exact ⟨.list_int _ _ q hu, .int_list _ _ q hu⟩
  ·obtain ⟨t, rfl⟩ := r; exact ⟨.list_str _ _ q hu, .str_list _ _ q hu⟩
 ·obtain ⟨us, r1, q, z1⟩ := I.tuple h
  cases d <;> first | (cases f; done) | skip
  all_goals simp only [Rp] at p; subst p
  ·cases r; exact ⟨.tuple_none q hu, .none_tuple q hu⟩
  ·cases r; exact ⟨.tuple_bool _ q hu, .bool_tuple _ q hu⟩
  ·obtain ⟨t, rfl⟩ := r; exact ⟨.tuple_int _ _ q hu, .int_tuple _ _ q hu⟩
  ·obtain ⟨t, rfl⟩ := r; exact ⟨.tuple_str _ _ q hu, .str_tuple _ _ q hu⟩
theorem flat_plain {d : D} (p : plainD d = true) : flatD d = true ∨ (∃ ds, d = .tup ds) ∨ ∃ ds, d = .lst ds := by
 cases d <;> first | exact .inl rfl | exact .inr (.inl ⟨_, rfl⟩) | exact .inr (.inr ⟨_, rfl⟩) | (simp [plainD, flatD] at p; done)
theorem eqB_flat {d e : D} (f : flatD d = true) : eqB d e = eqD d e := by cases d <;> first | (cases f; done) | simp only [eqB]
theorem flat_deep {d e : D} {v u : V} {a b : Value} {A : Around} (I : Inv X pins σ H s) (sF : Same F H) (hu : A.units < cLine) (f : flatD d = true) (p : Rp X.K cl F d v) (q : Rp X.K cl F e u) (rv : RelV v a) (ru : RelV u b) (pe : plainD e = true) : SeqAt.EqAt A s a b (eqB d e) := by
 rw [eqB_flat f]
 rcases flat_plain pe with fe | ⟨es, rfl⟩ | ⟨es, rfl⟩
 ·rw [← p.eq q f fe]
  exact eqAt_V rv ru (p.flat f).2 (q.flat fe).2
 ·simp only [Rp] at q
  obtain ⟨c, ys, rfl, hb, r'⟩ := q
  cases ru
  have := (ref_flat (A := A) hu (.inr ⟨ys, .of (sF _ _ hb)⟩) I f p rv).2
  have z : eqD d (.tup es) = false := by cases d <;> first | (cases f; done) | rfl
  rw [z]; exact this
 ·simp only [Rp] at q
  obtain ⟨c, ys, rfl, hb, r'⟩ := q
  cases ru
  have := (ref_flat (A := A) hu (.inl ⟨ys, .of (sF _ _ hb)⟩) I f p rv).2
  have z : eqD d (.lst es) = false := by cases d <;> first | (cases f; done) | rfl
  rw [z]; exact this
mutual
theorem deep_eq (I : Inv X pins σ H s) (sF : Same F H) : ∀ (d e : D) (v u : V) (a b : Value) (A : Around), A.units + depD d < cLine → Rp X.K cl F d v → Rp X.K cl F e u → RelV v a → RelV u b → plainD d = true → plainD e = true → SeqAt.EqAt A s a b (eqB d e)
 | .tup ds, e, v, u, va, ua, A, hu, p, q, rv, ru, pd, pe => by
  have p0 := p
  have hu' : A.units < cLine := by omega
  simp only [depD] at hu
  simp only [Rp] at p
  obtain ⟨a, xs, rfl, ha, r⟩ := p
  cases rv
  have ha' := sF _ _ ha
  rcases flat_plain pe with f | ⟨es, rfl⟩ | ⟨es, rfl⟩
  ·have := (ref_flat (A := A) hu' (.inr ⟨xs, .of ha'⟩) I f q ru).1
   have z : eqB (.tup ds) e = false := by cases e <;> first | (cases f; done) | simp only [eqB]
   rw [z]; exact this
  ·have q0 := q
   simp only [Rp] at q
   obtain ⟨b, ys, rfl, hb, r'⟩ := q
   cases ru
   have hb' := sF _ _ hb
   by_cases z : a = b
   ·subst z
    rw [same_eq _ _ _ p0 q0 pd pe]
    exact .same _
   ·obtain ⟨us, r1, p1, _⟩ := I.tuple (.of ha')
    obtain ⟨ws, r2, p2, _⟩ := I.tuple (.of hb')
    simp only [plainD] at pd pe
    have he : ∀ j (h1 : j < us.toArray.size) (h2 : j < ws.toArray.size), SeqAt.EqAt A.in1 s us.toArray[j] ws.toArray[j] (eAtD ds es j) := deep_eqs I sF ds es xs ys us ws A.in1 (by show A.units + 1 + depDs ds < cLine; omega) r r' r1 r2 pd pe
    have := SeqAt.EqAt.of_refs z (SeqAt.RcAt.tuples p1 p2 hu' he)
    have e1 : us.toArray.size = ds.length := by simp [← r1.length, r.length]
    have e2 : ws.toArray.size = es.length := by simp [← r2.length, r'.length]
    rw [e1, e2] at this
    simp only [eqB]
    by_cases hl : ds.length = es.length
    ·rw [← hl, Nat.min_self, eqBs_range hl, beq_self_eq_true, Bool.and_true] at this
     exact this
    ·rw [eqBs_len hl]
     rw [beq_eq_false_iff_ne.mpr hl, Bool.and_false] at this
     exact this
  ·simp only [Rp] at q
   obtain ⟨b, ys, rfl, hb, r'⟩ := q
   cases ru
   obtain ⟨us, r1, p1, _⟩ := I.tuple (.of ha')
   obtain ⟨ws, r2, p2, _⟩ := I.list (.of (sF _ _ hb))
   simp only [eqB]
   exact .tuple_list p1 p2.isList hu'
 | .lst ds, e, v, u, va, ua, A, hu, p, q, rv, ru, pd, pe => by
  have p0 := p
  have hu' : A.units < cLine := by omega
  simp only [depD] at hu
  simp only [Rp] at p
  obtain ⟨a, xs, rfl, ha, r⟩ := p
  cases rv
  have ha' := sF _ _ ha
  rcases flat_plain pe with f | ⟨es, rfl⟩ | ⟨es, rfl⟩
  ·have := (ref_flat (A := A) hu' (.inl ⟨xs, .of ha'⟩) I f q ru).1
   have z : eqB (.lst ds) e = false := by cases e <;> first | (cases f; done) | simp only [eqB]
   rw [z]; exact this
  ·simp only [Rp] at q
   obtain ⟨b, ys, rfl, hb, r'⟩ := q
   cases ru
   obtain ⟨us, r1, p1, _⟩ := I.list (.of ha')
   obtain ⟨ws, r2, p2, _⟩ := I.tuple (.of (sF _ _ hb))
   simp only [eqB]
   exact .list_tuple p1.isList p2 hu'
  ·have q0 := q
   simp only [Rp] at q
   obtain ⟨b, ys, rfl, hb, r'⟩ := q
   cases ru
   have hb' := sF _ _ hb
   by_cases z : a = b
   ·subst z
    rw [same_eq _ _ _ p0 q0 pd pe]
    exact .same _
   ·obtain ⟨us, r1, p1, _⟩ := I.list (.of ha')
    obtain ⟨ws, r2, p2, _⟩ := I.list (.of hb')
    simp only [plainD] at pd pe
    have he : ∀ j (h1 : j < us.toArray.size) (h2 : j < ws.toArray.size), SeqAt.EqAt A.in1 s us.toArray[j] ws.toArray[j] (eAtD ds es j) := deep_eqs I sF ds es xs ys us ws A.in1 (by show A.units + 1 + depDs ds < cLine; omega) r r' r1 r2 pd pe
    have e1 : us.toArray.size = ds.length := by simp [← r1.length, r.length]
    have e2 : ws.toArray.size = es.length := by simp [← r2.length, r'.length]
    simp only [eqB]
    by_cases hl : ds.length = es.length
    ·have := SeqAt.EqAt.of_refs z (SeqAt.RcAt.lists p1.isList p2.isList (by rw [e1, e2, hl]) hu' he)
     rw [e1, eqBs_range hl] at this
     exact this
    ·rw [eqBs_len hl]
     exact SeqAt.EqAt.of_refs z (SeqAt.RcAt.lists_lengths p1.isList p2.isList (by rw [e1, e2]; simp [hl]) hu')
 | .non, e, v, u, va, ua, A, hu, p, q, rv, ru, pd, pe => flat_deep I sF (by omega) rfl p q rv ru pe
 | .bl _, e, v, u, va, ua, A, hu, p, q, rv, ru, pd, pe => flat_deep I sF (by omega) rfl p q rv ru pe
 | .int _, e, v, u, va, ua, A, hu, p, q, rv, ru, pd, pe => flat_deep I sF (by omega) rfl p q rv ru pe
 | .str _, e, v, u, va, ua, A, hu, p, q, rv, ru, pd, pe => flat_deep I sF (by omega) rfl p q rv ru pe
 | .ty _, e, v, u, va, ua, A, hu, p, q, rv, ru, pd, pe => by simp [plainD, flatD] at pd
 | .cls _, e, v, u, va, ua, A, hu, p, q, rv, ru, pd, pe => by simp [plainD, flatD] at pd
 | .scr _, e, v, u, va, ua, A, hu, p, q, rv, ru, pd, pe => by simp [plainD, flatD] at pd
 | .exc _, e, v, u, va, ua, A, hu, p, q, rv, ru, pd, pe => by simp [plainD, flatD] at pd
 | .obj _ _ _, e, v, u, va, ua, A, hu, p, q, rv, ru, pd, pe => by simp [plainD, flatD] at pd
theorem deep_eqs (I : Inv X pins σ H s) (sF : Same F H) : ∀ (ds es : List D) (xs ys : List V) (us ws : List Value) (A : Around), A.units + depDs ds < cLine → Rps X.K cl F ds xs → Rps X.K cl F es ys → Vals xs us → Vals ys ws → plainDs ds = true → plainDs es = true → ∀ j (h1 : j < us.toArray.size) (h2 : j < ws.toArray.size), SeqAt.EqAt A s us.toArray[j] ws.toArray[j] (eAtD ds es j)
 | [], es, xs, ys, us, ws, A, hu, p, q, rv, rw', pd, pe => fun j h1 h2 => by
  rw [p.inv0] at rv; cases rv; simp at h1
 | d :: ds, es, xs, ys, us, ws, A, hu, p, q, rv, rw', pd, pe => fun j h1 h2 => by
  obtain ⟨x, xs', rfl, p1, p2⟩ := p.inv
  cases rv with
  | cons r1 t1 =>
   cases es with
   | nil => rw [q.inv0] at rw'; cases rw'; simp at h2
   | cons e es =>
    obtain ⟨y, ys', rfl, q1, q2⟩ := q.inv
    cases rw' with
    | cons r2 t2 =>
     simp only [plainDs, Bool.and_eq_true] at pd pe
     simp only [depDs] at hu
     cases j with
     | zero => exact deep_eq I sF d e x y _ _ A (by omega) p1 q1 r1 r2 pd.1 pe.1
     | succ j =>
      have := deep_eqs I sF ds es xs' ys' _ _ A (by omega) p2 q2 t1 t2 pd.2 pe.2 j (by simpa using h1) (by simpa using h2)
      simpa [eAtD] using this
end
end
theorem hu40 {A : Around} {k : Nat} (hr : Room k A) : A.units + 41 < cLine := Nat.lt_of_le_of_lt (Nat.add_le_add_left (by decide : 41 ≤ 64) _) hr.units
def seqD? : D → Bool
 | .tup _ => true
 | .lst _ => true
 | _ => false
theorem Rb.toRp {K : W.Frag} {cl : Str → Addr} {F H : Hp} {d : D} {v : V} (s : Same F H) (h : Rb K cl F H d v) : ∃ F', Same F F' ∧ Same F' H ∧ Rp K cl F' d v := by
 rcases h with h | ⟨a, xs, ds, rfl, rfl, ha, r⟩
 ·exact ⟨F, Same.refl _, s, h⟩
 ·have g : Same F (upd F a (.lst xs)) := fun b o q => by
   by_cases z : b = a
   ·subst z; have := s _ _ q; rw [ha] at this; cases this; exact upd_same
   ·rw [upd_ne z]; exact q
  refine ⟨upd F a (.lst xs), g, fun b o q => ?_, ?_⟩
  ·by_cases z : b = a
   ·subst z; rw [upd_same] at q; cases q; exact ha
   ·rw [upd_ne z] at q; exact s _ _ q
  ·simp only [Rp]; exact ⟨a, xs, rfl, upd_same, r.mono g⟩
section
variable {X : Cx} {cl : Str → Addr} {F : Hp} {pins : List (Addr × Obj)} {σ : St} {H : Hp} {s : Shared}
theorem rc_flat {a : Addr} {d : D} {v : V} {u : Value} {A : Around} (hu : A.units < cLine) (hl : (∃ xs, SqL X.K H a xs) ∨ ∃ xs, SqT X.K H a xs) (I : Inv X pins σ H s) (f : flatD d = true) (p : Rp X.K cl F d v) (r : RelV v u) :
  (SeqAt.RcAt A s (.ref a) u false ∧ SeqAt.RcAt A s u (.ref a) false) ∧ SeqAt.RcNeAt A s (.ref a) u true ∧ SeqAt.RcNeAt A s u (.ref a) true := by
 rcases hl with ⟨xs, h⟩ | ⟨xs, h⟩
 ·obtain ⟨us, r1, p1, z1⟩ := I.list h
  have q := p1.isList
  cases d <;> first | (cases f; done) | skip
  all_goals simp only [Rp] at p; subst p
  ·cases r; exact ⟨⟨.list_none q hu, .none_list q hu⟩, .list_none q hu, .none_list q hu⟩
  ·cases r; exact ⟨⟨.list_bool _ q hu, .bool_list _ q hu⟩, .list_bool _ q hu, .bool_list _ q hu⟩
  ·obtain ⟨t, rfl⟩ := r; exact ⟨⟨.list_int _ _ q hu, .int_list _ _ q hu⟩, .list_int _ _ q hu, .int_list _ _ q hu⟩
  ·obtain ⟨t, rfl⟩ := r; exact ⟨⟨.list_str _ _ q hu, .str_list _ _ q hu⟩, .list_str _ _ q hu, .str_list _ _ q hu⟩
 ·obtain ⟨us, r1, q, z1⟩ := I.tuple h
  cases d <;> first | (cases f; done) | skip
  all_goals simp only [Rp] at p; subst p
  ·cases r; exact ⟨⟨.tuple_none q hu, .none_tuple q hu⟩, .tuple_none q hu, .none_tuple q hu⟩
  ·cases r; exact ⟨⟨.tuple_bool _ q hu, .bool_tuple _ q hu⟩, .tuple_bool _ q hu, .bool_tuple _ q hu⟩
  ·obtain ⟨t, rfl⟩ := r; exact ⟨⟨.tuple_int _ _ q hu, .int_tuple _ _ q hu⟩, .tuple_int _ _ q hu, .int_tuple _ _ q hu⟩
  ·obtain ⟨t, rfl⟩ := r; exact ⟨⟨.tuple_str _ _ q hu, .str_tuple _ _ q hu⟩, .tuple_str _ _ q hu, .str_tuple _ _ q hu⟩
theorem rc_deep {d e : D} {v u : V} {a b : Value} {A : Around} (I : Inv X pins σ H s) (sF : Same F H) (hu : A.units + depD d < cLine) (p : Rp X.K cl F d v) (q : Rp X.K cl F e u) (rv : RelV v a) (ru : RelV u b) (pd : plainD d = true) (pe : plainD e = true) (hs : seqD? d = true ∨ seqD? e = true) :
  SeqAt.RcAt A s a b (eqB d e) ∧ SeqAt.RcNeAt A s a b (!eqB d e) := by
 have hu' : A.units < cLine := by omega
 rcases flat_plain pd with fd | ⟨ds, rfl⟩ | ⟨ds, rfl⟩
 ·have se : seqD? e = true := hs.resolve_left (by cases d <;> first | (cases fd; done) | simp [seqD?])
  rcases flat_plain pe with fe | ⟨es, rfl⟩ | ⟨es, rfl⟩
  ·cases e <;> first | (cases fe; done) | (cases se; done)
  ·simp only [Rp] at q
   obtain ⟨c, ys, rfl, hb, r'⟩ := q
   cases ru
   have := rc_flat (A := A) hu' (.inr ⟨ys, .of (sF _ _ hb)⟩) I fd p rv
   have z : eqB d (.tup es) = false := by cases d <;> first | (cases fd; done) | simp [eqB, eqD]
   rw [z]; exact ⟨this.1.2, this.2.2⟩
  ·simp only [Rp] at q
   obtain ⟨c, ys, rfl, hb, r'⟩ := q
   cases ru
   have := rc_flat (A := A) hu' (.inl ⟨ys, .of (sF _ _ hb)⟩) I fd p rv
   have z : eqB d (.lst es) = false := by cases d <;> first | (cases fd; done) | simp [eqB, eqD]
   rw [z]; exact ⟨this.1.2, this.2.2⟩
 ·simp only [depD] at hu
  simp only [Rp] at p
  obtain ⟨l, xs, rfl, ha, r⟩ := p
  cases rv
  have ha' := sF _ _ ha
  obtain ⟨us, r1, p1, _⟩ := I.tuple (.of ha')
  rcases flat_plain pe with fe | ⟨es, rfl⟩ | ⟨es, rfl⟩
  ·have := rc_flat (A := A) hu' (.inr ⟨xs, .of ha'⟩) I fe q ru
   have z : eqB (.tup ds) e = false := by cases e <;> first | (cases fe; done) | simp only [eqB]
   rw [z]; exact ⟨this.1.1, this.2.1⟩
  ·simp only [Rp] at q
   obtain ⟨c, ys, rfl, hb, r'⟩ := q
   cases ru
   obtain ⟨ws, r2, p2, _⟩ := I.tuple (.of (sF _ _ hb))
   simp only [plainD] at pd pe
   have he := deep_eqs I sF ds es xs ys us ws A.in1 (by show A.units + 1 + depDs ds < cLine; omega) r r' r1 r2 pd pe
   have h1 := SeqAt.RcAt.tuples p1 p2 hu' he
   have h2 := SeqAt.RcNeAt.tuples p1 p2 hu' he
   have e1 : us.toArray.size = ds.length := by simp [← r1.length, r.length]
   have e2 : ws.toArray.size = es.length := by simp [← r2.length, r'.length]
   rw [e1, e2] at h1 h2
   simp only [eqB]
   by_cases hl : ds.length = es.length
   ·rw [← hl, Nat.min_self, eqBs_range hl, beq_self_eq_true, Bool.and_true] at h1 h2
    exact ⟨h1, h2⟩
   ·rw [eqBs_len hl]
    rw [beq_eq_false_iff_ne.mpr hl, Bool.and_false] at h1 h2
    exact ⟨h1, h2⟩
  ·simp only [Rp] at q
   obtain ⟨c, ys, rfl, hb, r'⟩ := q
   cases ru
   obtain ⟨ws, r2, p2, _⟩ := I.list (.of (sF _ _ hb))
   simp only [eqB]
   exact ⟨.tuple_list p1 p2.isList hu', .tuple_list p1 p2.isList hu'⟩
 ·simp only [depD] at hu
  simp only [Rp] at p
  obtain ⟨l, xs, rfl, ha, r⟩ := p
  cases rv
  have ha' := sF _ _ ha
  obtain ⟨us, r1, p1, _⟩ := I.list (.of ha')
  rcases flat_plain pe with fe | ⟨es, rfl⟩ | ⟨es, rfl⟩
  ·have := rc_flat (A := A) hu' (.inl ⟨xs, .of ha'⟩) I fe q ru
   have z : eqB (.lst ds) e = false := by cases e <;> first | (cases fe; done) | simp only [eqB]
   rw [z]; exact ⟨this.1.1, this.2.1⟩
  ·simp only [Rp] at q
   obtain ⟨c, ys, rfl, hb, r'⟩ := q
   cases ru
   obtain ⟨ws, r2, p2, _⟩ := I.tuple (.of (sF _ _ hb))
   simp only [eqB]
   exact ⟨.list_tuple p1.isList p2 hu', .list_tuple p1.isList p2 hu'⟩
  ·simp only [Rp] at q
   obtain ⟨c, ys, rfl, hb, r'⟩ := q
   cases ru
   obtain ⟨ws, r2, p2, _⟩ := I.list (.of (sF _ _ hb))
   simp only [plainD] at pd pe
   have he := deep_eqs I sF ds es xs ys us ws A.in1 (by show A.units + 1 + depDs ds < cLine; omega) r r' r1 r2 pd pe
   have e1 : us.toArray.size = ds.length := by simp [← r1.length, r.length]
   have e2 : ws.toArray.size = es.length := by simp [← r2.length, r'.length]
   simp only [eqB]
   by_cases hl : ds.length = es.length
   ·have h1 := SeqAt.RcAt.lists p1.isList p2.isList (by rw [e1, e2, hl]) hu' he
    have h2 := SeqAt.RcNeAt.lists p1.isList p2.isList (by rw [e1, e2, hl]) hu' he
    rw [e1, eqBs_range hl] at h1 h2
    exact ⟨h1, h2⟩
   ·rw [eqBs_len hl]
    exact ⟨SeqAt.RcAt.lists_lengths p1.isList p2.isList (by rw [e1, e2]; simp [hl]) hu', SeqAt.RcNeAt.lists_lengths p1.isList p2.isList (by rw [e1, e2]; simp [hl]) hu'⟩
end
def rEqT (K : W.Frag) (cl : Str → Addr) (neg : Bool) : R2 := fun x y H Q => ∃ F d e, Same F H ∧ Rp K cl F d x ∧ Rp K cl F e y ∧ plainD d = true ∧ plainD e = true ∧ depD d ≤ 40 ∧ (seqD? d = true ∨ seqD? e = true) ∧ Q (.bl (if neg then !eqB d e else eqB d e)) H
theorem opK_neT {X : Cx} {K : W.Frag} {cl : Str → Addr} (hu : X.A.units + 41 < cLine) (hK : X.K = K := by rfl) : OpR X (compareOp .NotEq) (rEqT K cl true) := by
 subst hK
 intro pins s σ H x y v u Q I rx ry h
 obtain ⟨F, d, e, sF, p, q, pd, pe, hd, hs, hQ⟩ := h
 exact (rc_deep I sF (by omega) p q rx ry pd pe hs).2 X.prog X.w _ _ ⟨.bl _, H, I, rfl, hQ⟩
def gEqT (neg : Bool) (d e : D) : Option D := if (plainD d && plainD e && decide (depD d ≤ 40) && (seqD? d || seqD? e)) = true then some (.bl (if neg then !eqB d e else eqB d e)) else none
theorem ok_eqT {K : W.Frag} {cl : Str → Addr} {neg : Bool} : OpOk K cl (rEqT K cl neg) (gEqT neg) := by
 intro x y d e z H F Q s hx hy h q
 unfold gEqT at h
 split at h
 ·rename_i c; cases h
  simp only [Bool.and_eq_true, Bool.or_eq_true, decide_eq_true_eq] at c
  obtain ⟨F1, g1, s1, p1⟩ := hx.toRp s
  have hy1 : Rb K cl F1 H e y := by
   rcases hy with hy | ⟨a, xs, ds, e1, e2, ha, r⟩
   ·exact .inl (hy.mono g1)
   ·exact .inr ⟨a, xs, ds, e1, e2, ha, r.mono g1⟩
  obtain ⟨F2, g2, s2, p2⟩ := hy1.toRp s1
  exact ⟨F2, d, e, s2, p1.mono g2, p2, c.1.1.1, c.1.1.2, c.1.2, c.2, q _ H F (.refl s) (by simp only [Rp])⟩
 ·cases h
mutual
theorem eqB_refl : ∀ (d : D), plainD d = true → eqB d d = true
 | .tup ds, h => by simp only [plainD] at h; simp only [eqB]; exact eqBs_refl ds h
 | .lst ds, h => by simp only [plainD] at h; simp only [eqB]; exact eqBs_refl ds h
 | .non, _ => by simp [eqB, eqD]
 | .bl _, _ => by simp [eqB, eqD]
 | .int _, _ => by simp [eqB, eqD]
 | .str _, _ => by simp [eqB, eqD]
 | .ty _, h => by simp [plainD, flatD] at h
 | .cls _, h => by simp [plainD, flatD] at h
 | .scr _, h => by simp [plainD, flatD] at h
 | .exc _, h => by simp [plainD, flatD] at h
 | .obj _ _ _, h => by simp [plainD, flatD] at h
theorem eqBs_refl : ∀ (ds : List D), plainDs ds = true → eqBs ds ds = true
 | [], _ => by simp [eqBs]
 | d :: ds, h => by
  simp only [plainDs, Bool.and_eq_true] at h
  simp only [eqBs]
  rw [eqB_refl d h.1, eqBs_refl ds h.2]; rfl
end
theorem gEqT_refl {d : D} (neg : Bool) (h1 : plainD d = true) (h2 : depD d ≤ 40) (h3 : seqD? d = true) : gEqT neg d d = some (.bl (!neg)) := by
 unfold gEqT
 rw [if_pos (by simp [h1, h2, h3]), eqB_refl d h1]
 cases neg <;> rfl
theorem plainDs_map {α : Type} {f : α → D} {l : List α} (h : ∀ a ∈ l, plainD (f a) = true) : plainDs (l.map f) = true := by
 induction l with
 | nil => rfl
 | cons a l ih =>
  simp only [List.map_cons, plainDs, Bool.and_eq_true]
  exact ⟨h a List.mem_cons_self, ih fun b hb => h b (List.mem_cons_of_mem _ hb)⟩
theorem depDs_map {α : Type} {f : α → D} {l : List α} {n : Nat} (h : ∀ a ∈ l, depD (f a) ≤ n) : depDs (l.map f) ≤ n := by
 induction l with
 | nil => simp [depDs]
 | cons a l ih =>
  simp only [List.map_cons, depDs]
  have := h a List.mem_cons_self
  have := ih fun b hb => h b (List.mem_cons_of_mem _ hb)
  omega
section
variable {K : W.Frag} {cl : Str → Addr} {E : XK} {σ : St} {H F : Hp} {env : DE} {k : Nat}
def RfSx (K : W.Frag) (cl : Str → Addr) (E : XK) (a : Addr) (t : TS) (f : SF) : Prop := ∀ (N : Ends) σ H env F, Rel K cl σ H F env → (∃ cls, F a = some (ExcO a cls none)) → Cs K cl E (f env) σ H F env N → t N σ H
theorem RfS.x {a : Addr} {t : TS} {f : SF} (h : RfS K cl E t f) : RfSx K cl E a t f := fun N σ H env F R _ c => h N σ H env F R c
end
def frzS : Sl → Sl
 | .ow ds => .fz (.lst ds)
 | .hd ds => .fz (.lst ds)
 | s => s
def frzE : DE → DE
 | [] => []
 | s :: e => frzS s :: frzE e
mutual
def noL : D → Bool
 | .lst _ => false
 | .scr _ => false
 | .exc _ => false
 | .obj _ _ _ => false
 | .tup ds => noLs ds
 | _ => true
def noLs : List D → Bool
 | [] => true
 | d :: ds => noL d && noLs ds
end
section
variable {K : W.Frag} {cl : Str → Addr} {E : XK} {σ : St} {H F F1 H' F' F2 : Hp} {env : DE}
mutual
theorem Rp.noL (g : ∀ b o, F' b = some o → (∀ xs, o ≠ .lst xs) → F2 b = some o) : ∀ (d : D) (v : V), L2.noL d = true → Rp K cl F' d v → Rp K cl F2 d v
 | .non, _, _, h => by simpa only [Rp] using h
 | .bl _, _, _, h => by simpa only [Rp] using h
 | .int _, _, _, h => by simpa only [Rp] using h
 | .str _, _, _, h => by simpa only [Rp] using h
 | .ty _, _, _, h => by simpa only [Rp] using h
 | .cls _, _, _, h => by simpa only [Rp] using h
 | .tup ds, v, n, h => by
  simp only [Rp] at h ⊢
  obtain ⟨a, xs, e, h1, h2⟩ := h
  exact ⟨a, xs, e, g _ _ h1 (fun _ z => nomatch z), Rps.noL g ds xs (by simpa only [L2.noL] using n) h2⟩
 | .lst ds, v, n, h => by simp [L2.noL] at n
 | .scr ns, v, n, h => by simp [L2.noL] at n
 | .exc c, v, n, h => by simp [L2.noL] at n
 | .obj _ _ _, v, n, h => by simp [L2.noL] at n
theorem Rps.noL (g : ∀ b o, F' b = some o → (∀ xs, o ≠ .lst xs) → F2 b = some o) : ∀ (ds : List D) (vs : List V), L2.noLs ds = true → Rps K cl F' ds vs → Rps K cl F2 ds vs
 | [], _, _, h => by simpa only [Rps] using h
 | d :: ds, vs, n, h => by
  simp only [Rps] at h ⊢
  simp only [L2.noLs, Bool.and_eq_true] at n
  obtain ⟨v, r, e, h1, h2⟩ := h
  exact ⟨v, r, e, Rp.noL g d v n.1 h1, Rps.noL g ds r n.2 h2⟩
end
def zLend (f : ZF) : ZF := fun e => match f (frzE e) with
 | some (.ok d _) => if noL d = true then some (.ok d e) else none
 | some (.ex c) => some (.ex c)
 | none => none
def bLend (f : BF) : BF := fun e => match f (frzE e) with
 | some (.ok d _) => some (.ok d e)
 | some (.ex c) => some (.ex c)
 | none => none
def bLd (r : Option (R Bool)) (e : DE) : Option (R Bool) := match r with
 | some (.ok d _) => some (.ok d e)
 | some (.ex c) => some (.ex c)
 | none => none
def zLd (r : Option (R D)) (e : DE) : Option (R D) := match r with
 | some (.ok d _) => if noL d = true then some (.ok d e) else none
 | some (.ex c) => some (.ex c)
 | none => none
theorem bLend_eq (f : BF) (e : DE) : bLend f e = bLd (f (frzE e)) e := rfl
theorem zLend_eq (f : ZF) (e : DE) : zLend f e = zLd (f (frzE e)) e := rfl
theorem bLd_ok (d : Bool) (e e2 : DE) : bLd (some (.ok d e2)) e = some (.ok d e) := rfl
theorem bLd_ex (c : Str) (e : DE) : bLd (some (.ex c)) e = some (.ex c) := rfl
theorem zLd_ok (d : D) (e e2 : DE) : zLd (some (.ok d e2)) e = if noL d = true then some (.ok d e) else none := rfl
theorem zLd_ex (c : Str) (e : DE) : zLd (some (.ex c)) e = some (.ex c) := rfl
variable {k : Nat}
end
def un : Option D → Sl
 | none => .no
 | some d => .fz d
def notHd : Sl → Bool
 | .hd _ => false
 | _ => true
def okS : Option Sl → Bool
 | none => false
 | some s => notHd s
theorem notHd_un (o : Option D) : notHd (un o) = true := by cases o <;> rfl
theorem notHd_no : notHd .no = true := rfl
theorem notHd_fz (d : D) : notHd (.fz d) = true := rfl
theorem notHd_ow (d : List D) : notHd (.ow d) = true := rfl
theorem notHd_hd (d : List D) : notHd (.hd d) = false := rfl
theorem okS_some (s : Sl) : okS (some s) = notHd s := rfl
theorem okS_none : okS none = false := rfl
theorem frzS_no : frzS .no = .no := rfl
theorem frzS_fz (d : D) : frzS (.fz d) = .fz d := rfl
theorem frzS_ow (d : List D) : frzS (.ow d) = .fz (.lst d) := rfl
theorem frzS_hd (d : List D) : frzS (.hd d) = .fz (.lst d) := rfl
theorem put_eq (i : Nat) (s : Sl) (e : DE) : put i s e = if okS e[i]? = true then some (.nx (e.set i s)) else none := by
 unfold put okS
 cases e[i]? with
 | none => rfl
 | some t => cases t <;> rfl
theorem bName_eq (i : Nat) (d : D) (e : DE) : bName i d e = if okS e[i]? = true then some (e.set i (.fz d)) else none := by
 unfold bName okS
 cases e[i]? with
 | none => rfl
 | some t => cases t <;> rfl
theorem frzS_un (o : Option D) : frzS (un o) = un o := by cases o <;> rfl
theorem noHd_nil : noHd [] = true := rfl
theorem noHd_cons (s : Sl) (e : DE) : noHd (s :: e) = (notHd s && noHd e) := by cases s <;> rfl
def nxOf (r : Option RS) : Option RS := match r with
 | some (.ct e) => some (.nx e)
 | r => r
theorem nxOf_nx (e : DE) : nxOf (some (.nx e)) = some (.nx e) := rfl
theorem nxOf_ct (e : DE) : nxOf (some (.ct e)) = some (.nx e) := rfl
theorem nxOf_rt (d : D) : nxOf (some (.rt d)) = some (.rt d) := rfl
theorem nxOf_ex (c : Str) : nxOf (some (.ex c)) = some (.ex c) := rfl
theorem nxOf_rz (d : List (List D)) : nxOf (some (.rz d)) = some (.rz d) := rfl
theorem nxOf_ro (d : List D) : nxOf (some (.ro d)) = some (.ro d) := rfl
theorem forK_nxOf {r : Option RS} {k : SF} : forK r k = forK (nxOf r) k := by
 cases r with
 | none => rfl
 | some r => cases r <;> rfl
theorem for_map' {α : Type} {b : GF} {body : SF} (f : α → D) (I : List α → DE → Prop) (l0 : List α) : ∀ (l pre : List α) (e : DE), l0 = pre ++ l → I pre e → (∀ pre x post e, l0 = pre ++ x :: post → I pre e → ∃ e2, nxOf (optR (b (f x) e) body) = some (.nx e2) ∧ I (pre ++ [x]) e2) → ∃ e', forD b body (l.map f) e = some (.nx e') ∧ I l0 e'
 | [], pre, e, hl, h, _ => ⟨e, rfl, by rw [hl, List.append_nil]; exact h⟩
 | x :: l, pre, e, hl, h, hs => by
  obtain ⟨e2, h2, h3⟩ := hs pre x l e hl h
  obtain ⟨e', h4, h5⟩ := for_map' f I l0 l (pre ++ [x]) e2 (by rw [hl, List.append_assoc]; rfl) h3 hs
  refine ⟨e', ?_, h5⟩
  rw [List.map_cons, forD_step]
  cases q : b (f x) e with
  | none => rw [q] at h2; cases h2
  | some e1 =>
   rw [q] at h2
   have h2 : nxOf (body e1) = some (.nx e2) := h2
   rw [optR_some, forK_nxOf, h2]; exact h4
theorem for_map {α : Type} {b : GF} {body : SF} (f : α → D) (I : List α → DE → Prop) (l : List α) (e : DE) (h : I [] e) (hs : ∀ pre x post e, l = pre ++ x :: post → I pre e → ∃ e2, nxOf (optR (b (f x) e) body) = some (.nx e2) ∧ I (pre ++ [x]) e2) : ∃ e', forD b body (l.map f) e = some (.nx e') ∧ I l e' :=
 for_map' f I l l [] e rfl h hs
def isEnd : RS → Bool
 | .rt _ => true
 | .ro _ => true
 | .rz _ => true
 | .ex _ => true
 | _ => false
theorem for_stop' {α : Type} {b : GF} {body : SF} {r : RS} (hr : isEnd r = true) (f : α → D) (I : List α → DE → Prop) (p : α → Bool) (l0 : List α) : ∀ (l pre : List α) (e : DE), l0 = pre ++ l → I pre e → (∀ pre x post e, l0 = pre ++ x :: post → I pre e → if p x = true then nxOf (optR (b (f x) e) body) = some r else ∃ e2, nxOf (optR (b (f x) e) body) = some (.nx e2) ∧ I (pre ++ [x]) e2) →
  if l.any p = true then forD b body (l.map f) e = some r else ∃ e', forD b body (l.map f) e = some (.nx e') ∧ I l0 e'
 | [], pre, e, hl, h, _ => ⟨e, rfl, by rw [hl, List.append_nil]; exact h⟩
 | x :: l, pre, e, hl, h, hs => by
  have h2 := hs pre x l e hl h
  rw [List.any_cons, List.map_cons, forD_step]
  by_cases z : p x = true
  ·rw [if_pos z] at h2
   rw [z, Bool.true_or, if_pos rfl]
   cases q : b (f x) e with
   | none => rw [q] at h2; cases h2
   | some e1 =>
    rw [q] at h2
    have h2 : nxOf (body e1) = some r := h2
    rw [optR_some, forK_nxOf, h2]
    cases r <;> first | rfl | cases hr
  ·rw [if_neg z] at h2
   obtain ⟨e2, h2, h4⟩ := h2
   have := for_stop' hr f I p l0 l (pre ++ [x]) e2 (by rw [hl, List.append_assoc]; rfl) h4 hs
   rw [Bool.eq_false_iff.mpr z, Bool.false_or]
   cases q : b (f x) e with
   | none => rw [q] at h2; cases h2
   | some e1 =>
    rw [q] at h2
    have h2 : nxOf (body e1) = some (.nx e2) := h2
    rw [optR_some, forK_nxOf, h2]; exact this
theorem for_stop {α : Type} {b : GF} {body : SF} {r : RS} (hr : isEnd r = true) (f : α → D) (I : List α → DE → Prop) (p : α → Bool) (l : List α) (e : DE) (h : I [] e) (hs : ∀ pre x post e, l = pre ++ x :: post → I pre e → if p x = true then nxOf (optR (b (f x) e) body) = some r else ∃ e2, nxOf (optR (b (f x) e) body) = some (.nx e2) ∧ I (pre ++ [x]) e2) :
  if l.any p = true then forD b body (l.map f) e = some r else ∃ e', forD b body (l.map f) e = some (.nx e') ∧ I l e' :=
 for_stop' hr f I p l l [] e rfl h hs
theorem comp_map {α : Type} {b : GF} {c : BF} {el : ZF} {ec eo : DE} (f : α → D) (g : α → D) (q : α → Bool) : ∀ (l : List α) (acc : List D), acc.length + l.length ≤ sizeLine → (∀ x ∈ l, ∃ e1 e2, b (f x) ec = some e1 ∧ c e1 = some (.ok (q x) e2) ∧ (q x = true → ∃ e3, el e2 = some (.ok (g x) e3))) → compD b c el ec eo (l.map f) acc = some (.ok (acc ++ (l.filter q).map g) eo)
 | [], acc, _, _ => by simp only [List.filter_nil, List.map_nil, List.append_nil]; rfl
 | x :: l, acc, hl, h => by
  obtain ⟨e1, e2, h1, h2, h3⟩ := h x List.mem_cons_self
  have hl' : acc.length < sizeLine := by rw [List.length_cons] at hl; omega
  rw [List.map_cons, compD_cons, h1, optB_some, h2, bnd_ok]
  by_cases z : q x = true
  ·obtain ⟨e3, h4⟩ := h3 z
   rw [if_pos z, h4, bnd_ok, if_pos hl', comp_map f g q l (acc ++ [g x]) (by rw [List.length_append, List.length_cons, List.length_nil]; rw [List.length_cons] at hl; omega) (fun y m => h y (List.mem_cons_of_mem _ m)), List.filter_cons_of_pos z, List.map_cons, List.append_assoc]; rfl
  ·rw [if_neg z, comp_map f g q l acc (by rw [List.length_cons] at hl; omega) (fun y m => h y (List.mem_cons_of_mem _ m)), List.filter_cons_of_neg z]
theorem cut_mid {ds : List D} {v u : Int} (h : 0 ≤ v) (h2 : v ≤ u) : cutD ds (some v) (some u) = (ds.drop v.toNat).take (u - v).toNat := by
 unfold cutD
 obtain ⟨n, rfl⟩ := Int.eq_ofNat_of_zero_le h
 obtain ⟨m, rfl⟩ := Int.eq_ofNat_of_zero_le (Int.le_trans h h2)
 rw [HT.sIx_nat, HT.sIx_nat, Int.toNat_natCast]
 have e : ((m : Int) - (n : Int)).toNat = m - n := by omega
 rw [e]
 by_cases z : n ≤ ds.length
 ·rw [Nat.min_eq_left z]
  by_cases y : m ≤ ds.length
  ·rw [Nat.min_eq_left y]
  ·rw [Nat.min_eq_right (by omega), List.take_of_length_le (by rw [List.length_drop]; exact Nat.le_refl _), List.take_of_length_le (by rw [List.length_drop]; omega)]
 ·rw [List.drop_of_length_le (show ds.length ≤ min n ds.length by omega), List.drop_of_length_le (by omega), List.take_nil, List.take_nil]
def mapI {α : Type} (g : Nat → α → D) (n : Nat) : List α → List D
 | [] => []
 | x :: l => g n x :: mapI g (n + 1) l
theorem mapI_map {α : Type} (f : α → D) : ∀ (n : Nat) (l : List α), l.map f = mapI (fun _ => f) n l
 | _, [] => rfl
 | n, x :: l => by rw [List.map_cons, mapI, mapI_map f (n + 1) l]
theorem for_or' {α : Type} {b : GF} {body : SF} (g : Nat → α → D) (I : List α → DE → Prop) (Z : List α → α → RS → Prop) (l0 : List α) : ∀ (l pre : List α) (e : DE), l0 = pre ++ l → I pre e →
  (∀ pre x post e, l0 = pre ++ x :: post → I pre e → (∃ r, isEnd r = true ∧ nxOf (optR (b (g pre.length x) e) body) = some r ∧ Z pre x r) ∨ (∃ e2, nxOf (optR (b (g pre.length x) e) body) = some (.nx e2) ∧ I (pre ++ [x]) e2)) →
  ((∃ pr x post r, l0 = pr ++ x :: post ∧ isEnd r = true ∧ forD b body (mapI g pre.length l) e = some r ∧ Z pr x r ∧ ∃ e', I pr e') ∨ (∃ e', forD b body (mapI g pre.length l) e = some (.nx e') ∧ I l0 e'))
 | [], pre, e, hl, h, _ => .inr ⟨e, rfl, by rw [hl, List.append_nil]; exact h⟩
 | x :: l, pre, e, hl, h, hs => by
  have hstep : ∀ r, nxOf (optR (b (g pre.length x) e) body) = some r → forD b body (mapI g pre.length (x :: l)) e = forK (some r) (forD b body (mapI g (pre.length + 1) l)) := fun r h2 => by
   rw [mapI, forD_step]
   cases q : b (g pre.length x) e with
   | none => rw [q] at h2; cases h2
   | some e1 =>
    rw [q] at h2
    have h2 : nxOf (body e1) = some r := h2
    rw [optR_some, forK_nxOf, h2]
  rcases hs pre x l e hl h with ⟨r, hr, h2, hz⟩ | ⟨e2, h2, h3⟩
  ·refine .inl ⟨pre, x, l, r, hl, hr, ?_, hz, e, h⟩
   rw [hstep r h2]
   cases r <;> first | rfl | cases hr
  ·have ih := for_or' g I Z l0 l (pre ++ [x]) e2 (by rw [hl, List.append_assoc]; rfl) h3 hs
   rw [List.length_append, List.length_singleton] at ih
   rw [hstep _ h2]
   exact ih
theorem for_or {α : Type} {b : GF} {body : SF} (g : Nat → α → D) (I : List α → DE → Prop) (Z : List α → α → RS → Prop) (l : List α) (e : DE) (h : I [] e)
  (hs : ∀ pre x post e, l = pre ++ x :: post → I pre e → (∃ r, isEnd r = true ∧ nxOf (optR (b (g pre.length x) e) body) = some r ∧ Z pre x r) ∨ (∃ e2, nxOf (optR (b (g pre.length x) e) body) = some (.nx e2) ∧ I (pre ++ [x]) e2)) :
  (∃ pre x post r, l = pre ++ x :: post ∧ isEnd r = true ∧ forD b body (mapI g 0 l) e = some r ∧ Z pre x r ∧ ∃ e', I pre e') ∨ (∃ e', forD b body (mapI g 0 l) e = some (.nx e') ∧ I l e') :=
 for_or' g I Z l l [] e rfl h hs
section
variable {K : W.Frag} {cl : Str → Addr} {E : XK}
def gLtT (d e : D) : Option D := match d, e with
 | .tup ds, .tup es => match intsD ds, intsD es with
  | some ns, some ms => some (.bl (HT.lexLt ns ms))
  | _, _ => none
 | _, _ => none
theorem ok_ltT : OpOk K cl (rLtT K) gLtT := by
 intro x y d e z H F Q s hx hy h q
 unfold gLtT at h
 split at h
 ·rename_i ds es
  split at h
  ·rename_i ns ms h1 h2
   cases h
   obtain ⟨a, xs, rfl, hH, r⟩ := hx.tup s
   obtain ⟨b, ys, rfl, hH', r'⟩ := hy.tup s
   rw [ints_eq h1] at r
   rw [ints_eq h2] at r'
   rw [r.ints] at hH
   rw [r'.ints] at hH'
   exact ⟨a, b, ns, ms, rfl, rfl, .of hH, .of hH', q _ H F (.refl s) (by simp only [Rp])⟩
  ·cases h
 ·cases h
end
open Classical in
section
variable {K : W.Frag} {cl : Str → Addr} {E : XK} {σ : St} {H F : Hp} {env : DE}
abbrev HF := Str → SF
def hN : HF := fun _ _ => none
end
section
variable {K : W.Frag} {cl : Str → Addr} {E : XK} {σ : St} {H F : Hp} {env : DE}
theorem Rps.lookup {f : Str} : ∀ {ns : List Str} {ds : List D} {xs : List V} {z : D}, Rps K cl F ds xs → (ns.zip ds).lookup f = some z → ∃ v, (ns.zip xs).lookup f = some v ∧ Rp K cl F z v
 | [], ds, xs, z, _, h => by simp at h
 | n :: ns, [], xs, z, r, h => by simp at h
 | n :: ns, d :: ds, xs, z, r, h => by
  obtain ⟨v, ys, rfl, p, r'⟩ := r.inv
  rw [List.zip_cons_cons, List.lookup_cons] at h ⊢
  by_cases q : (f == n) = true
  ·rw [q] at h ⊢; cases h; exact ⟨v, rfl, p⟩
  ·rw [Bool.not_eq_true _ |>.mp q] at h ⊢; exact r'.lookup h
end
structure GrM (a : Addr) (H F H' F' : Hp) : Prop where
 fz : Same F F'
 sub : Same F' H'
 hid : ∀ b o, b ≠ a → H b = some o → F b = none → H' b = some o ∧ F' b = none
 dom : ∀ b, H' b = none → H b = none
structure Bs (a : Addr) (σ : St) (env : DE) (H0 F0 H F : Hp) : Prop where
 fz : Same F0 F
 hid : ∀ b o, b ≠ a → H0 b = some o → F0 b = none → H b = some o ∧ F b = none ∧ ¬ Ow σ env b
 dom : ∀ b, H b = none → H0 b = none
section
variable {K : W.Frag} {cl : Str → Addr} {E : XK} {σ : St} {H F : Hp} {env : DE}
theorem Bs.frm {a : Addr} {ds : List D} {σ' : St} {env' : DE} {H0 F0 H' F' : Hp} (B : Bs a σ env H0 F0 H F) (f : Frm σ H F env σ' H' F' env') : Bs a σ' env' H0 F0 H' F' :=
 ⟨B.fz.trans f.fz, fun b o n h g => by obtain ⟨h1, f1, w1⟩ := B.hid b o n h g; exact f.hid b o h1 f1 w1, fun b h => B.dom b (f.dom b h)⟩
theorem Bs.gr {a : Addr} {H0 F0 : Hp} (B : Bs a σ env H0 F0 H F) (s : Same F H) : GrM a H0 F0 H F :=
 ⟨B.fz, s, fun b o n h g => by obtain ⟨h1, f1, _⟩ := B.hid b o n h g; exact ⟨h1, f1⟩, B.dom⟩
end
section
variable {P : Program} {w : World} {K : W.Frag} {mg : Str → Option Value} {base : Heap} {cl : Str → Addr} {TB : List (Addr × Str)}
variable {X : Cx} {k k' : Nat} {x : Str} {ps : List Str} {sp : Sp} {E : XK} {e : Expr} {es : List Expr} {t : TA} {p pos : Pos} {d : V}
theorem OwnD.own (G : OwnD P w K mg base k x ps sp d) : Own P w K mg base k x ps sp := by
 obtain ⟨f, fd, du, F, b, bd, rd, kp, m⟩ := G.ex
 exact ⟨f, fd, F, b, kp, m⟩
end
def insU (k : Int) : List Int → List Int
 | [] => [k]
 | x :: r => if k < x then k :: x :: r else if k = x then x :: r else x :: insU k r
def sortU : List Int → List Int
 | [] => []
 | k :: r => insU k (sortU r)
theorem insU_mem {k x : Int} : ∀ {l : List Int}, x ∈ insU k l ↔ x = k ∨ x ∈ l
 | [] => by simp [insU]
 | y :: l => by
  unfold insU
  split
  ·simp
  ·split
   ·rename_i h; subst h; simp
   ·rw [List.mem_cons, insU_mem, List.mem_cons]
    constructor
    ·rintro (h | h | h)
     ·exact .inr (.inl h)
     ·exact .inl h
     ·exact .inr (.inr h)
    ·rintro (h | h | h)
     ·exact .inr (.inl h)
     ·exact .inl h
     ·exact .inr (.inr h)
theorem insU_pw {k : Int} : ∀ {l : List Int}, l.Pairwise (· < ·) → (insU k l).Pairwise (· < ·)
 | [], _ => List.pairwise_singleton _ _
 | y :: l, h => by
  unfold insU
  have h' := List.pairwise_cons.mp h
  split
  ·rename_i hk
   refine List.pairwise_cons.mpr ⟨fun x m => ?_, h⟩
   rcases List.mem_cons.mp m with rfl | m
   ·exact hk
   ·exact Int.lt_trans hk (h'.1 x m)
  ·split
   ·exact h
   ·refine List.pairwise_cons.mpr ⟨fun x m => ?_, insU_pw h'.2⟩
    rcases insU_mem.mp m with rfl | m
    ·omega
    ·exact h'.1 x m
theorem sortU_mem {x : Int} : ∀ {l : List Int}, x ∈ sortU l ↔ x ∈ l
 | [] => by simp [sortU]
 | k :: l => by unfold sortU; rw [insU_mem, sortU_mem, List.mem_cons]
theorem sortU_pw : ∀ l : List Int, (sortU l).Pairwise (· < ·)
 | [] => .nil
 | k :: l => insU_pw (sortU_pw l)
theorem pwU_eq : ∀ {a b : List Int}, a.Pairwise (· < ·) → b.Pairwise (· < ·) → (∀ x, x ∈ a ↔ x ∈ b) → a = b
 | [], [], _, _, _ => rfl
 | [], y :: b, _, _, h => absurd ((h y).mpr List.mem_cons_self) List.not_mem_nil
 | x :: a, [], _, _, h => absurd ((h x).mp List.mem_cons_self) List.not_mem_nil
 | x :: a, y :: b, ha, hb, h => by
  have ha' := List.pairwise_cons.mp ha
  have hb' := List.pairwise_cons.mp hb
  have e : x = y := by
   rcases List.mem_cons.mp ((h x).mp List.mem_cons_self) with e | m
   ·exact e
   ·rcases List.mem_cons.mp ((h y).mpr List.mem_cons_self) with e | m2
    ·exact e.symm
    ·have := hb'.1 x m
     have := ha'.1 y m2
     omega
  subst e
  congr 1
  refine pwU_eq ha'.2 hb'.2 fun z => ?_
  constructor
  ·intro m
   rcases List.mem_cons.mp ((h z).mp (List.mem_cons_of_mem _ m)) with e | m2
   ·subst e; have := ha'.1 z m; omega
   ·exact m2
  ·intro m
   rcases List.mem_cons.mp ((h z).mpr (List.mem_cons_of_mem _ m)) with e | m2
   ·subst e; have := hb'.1 z m; omega
   ·exact m2
def nSortS (f : AF) : NF := fun e => bnd (f e) fun ds e1 => match ds with
 | [.lst xs] => (match intsD xs with
  | some ns => if ns.length < 64 then some (.ok ((sortU ns).map .int) e1) else none
  | none => none)
 | _ => none
section
variable {K : W.Frag} {cl : Str → Addr} {E : XK}
theorem rf_SortS {t : TA} {f : AF} (hf : RfA K cl E t f) : RfN K cl E (tSortS K t) (nSortS f) := by
 intro σ H Q env F R h
 refine hf σ H _ env F R ((Ct.bnd h pm_N).mono fun vs H1 ⟨F1, e1, ds, s1, R1, p1, h1⟩ => ?_)
 split at h1
 ·rename_i xs
  split at h1
  ·rename_i ns hn
   split at h1
   ·rename_i hl
    obtain ⟨v, r, rfl, q1, q2⟩ := Rps.inv p1
    rw [q2.inv0]
    simp only [Rp] at q1
    obtain ⟨a, ys, rfl, ha, rr⟩ := q1
    rw [ints_eq hn] at rr
    rw [rr.ints] at ha
    refine ⟨a, ns, rfl, .of (R1.sub _ _ ha), hl, fun l ks hl' hpw hm => ?_⟩
    have e : ks = sortU ns := pwU_eq hpw (sortU_pw ns) fun x => (hm x).trans sortU_mem.symm
    subst e
    exact Ct.newN R1 hl' Rps.ofInts h1
   ·exact h1.elim
  ·exact h1.elim
 ·exact h1.elim
end
end L2
namespace Law
open PySem L2 PyProof.Rows
def top (i : Nat) : Stmt := PySem.Challenge.pw_cratefit_k54_no_free_place_is_less.main.body.getD i (.Pass ⟨0, 0, 0, 0⟩)
abbrev s_apart : Stmt := top 1
abbrev s_lies_in : Stmt := top 2
abbrev s_least_place : Stmt := top 4
abbrev s_l_whole : Stmt := top 6
abbrev s_l_cell : Stmt := top 7
abbrev s_l_long : Stmt := top 8
abbrev s_l_ends : Stmt := top 9
abbrev s_l_spot : Stmt := top 10
abbrev s_l_new : Stmt := top 11
abbrev s_l_free : Stmt := top 12
abbrev s_l_ends_drawn : Stmt := top 13
abbrev s_law : Stmt := top 14
variable {P : Program} {w : World} {K : PySem.W.Frag} {mg : Str → Option Value} {base : Heap} {c : Str → Addr}
structure Txt (K : PySem.W.Frag) (mg : Str → Option Value) (c : Str → Addr) : Prop where
 z_all : mg "all" = none
 z_bool : mg "bool" = none
 z_int : mg "int" = none
 z_isinstance : mg "isinstance" = none
 z_len : mg "len" = none
 z_list : mg "list" = none
 z_max : mg "max" = none
 z_min : mg "min" = none
 z_set : mg "set" = none
 z_sorted : mg "sorted" = none
 z_tuple : mg "tuple" = none
def b_apart : SF := (sSeq (sSet 2 (eOr (eB gLe (eB gIxT (eV 0) (eC (.int 2))) (eB gIxT (eV 1) (eC (.int 0)))) (eB gLe (eB gIxT (eV 1) (eC (.int 2))) (eB gIxT (eV 0) (eC (.int 0)))))) (sSeq (sSet 3 (eOr (eB gLe (eB gIxT (eV 0) (eC (.int 3))) (eB gIxT (eV 1) (eC (.int 1)))) (eB gLe (eB gIxT (eV 1) (eC (.int 3))) (eB gIxT (eV 0) (eC (.int 1)))))) (sRet (eOr (eV 2) (eV 3)))))
def d_apart : List D → Option R1 := fD 4 2 b_apart
theorem sc_apart : FnScope ["one", "other", "across", "up"] ["one", "other"] (defScope s_apart) := ⟨rfl, rfl, rfl, by decide +kernel, rfl, by decide +kernel, by decide +kernel⟩
seal PSs PS PE PA PT
theorem ok_apart {f : Addr} {fd : FuncData} (F : Fun K "apart" "apart" s_apart f fd) (T : Txt K mg c)  : FnOk P w K mg base (CXe P w) 3 f fd ["one", "other"] (spD K c d_apart) :=
 F.okD (k := 2) sc_apart fun cdv A outer s H E hr => ⟨_, (pss_cons (ps_set (i := 2) sc_apart.nd rfl (Or.inl rfl) (pe_or (pe_cmpR op_le (pe_ix (ixK_tup (K := K)) (pv 0) pe_int (fun _ _ => rfl)) (pe_ix (ixK_tup (K := K)) (pv 1) pe_int (fun _ _ => rfl)) (nomark _)) (pe_one (pe_cmpR op_le (pe_ix (ixK_tup (K := K)) (pv 1) pe_int (fun _ _ => rfl)) (pe_ix (ixK_tup (K := K)) (pv 0) pe_int (fun _ _ => rfl)) (nomark _))))) (pss_cons (ps_set (i := 3) sc_apart.nd rfl (Or.inl rfl) (pe_or (pe_cmpR op_le (pe_ix (ixK_tup (K := K)) (pv 0) pe_int (fun _ _ => rfl)) (pe_ix (ixK_tup (K := K)) (pv 1) pe_int (fun _ _ => rfl)) (nomark _)) (pe_one (pe_cmpR op_le (pe_ix (ixK_tup (K := K)) (pv 1) pe_int (fun _ _ => rfl)) (pe_ix (ixK_tup (K := K)) (pv 0) pe_int (fun _ _ => rfl)) (nomark _))))) (pss_one (ps_ret (pe_or (pv 2) (pe_one (pv 3))))))), (rf_Seq (rf_Set (rf_Or (rf_op ok_le (rf_op ok_ixT rf_v rf_c) (rf_op ok_ixT rf_v rf_c)) (rf_op ok_le (rf_op ok_ixT rf_v rf_c) (rf_op ok_ixT rf_v rf_c)))) (rf_Seq (rf_Set (rf_Or (rf_op ok_le (rf_op ok_ixT rf_v rf_c) (rf_op ok_ixT rf_v rf_c)) (rf_op ok_le (rf_op ok_ixT rf_v rf_c) (rf_op ok_ixT rf_v rf_c)))) (rf_Ret (rf_Or rf_v rf_v))))⟩
def b_lies_in : SF := (sSeq (sAsg (eV 1) (bTup [(bName 2), (bName 3), (bName 4), (bName 5)])) (sRet (eAnd (eB gGe (eV 2) (eC (.int 0))) (eAnd (eB gGe (eV 3) (eC (.int 0))) (eAnd (eB gLe (eV 4) (eB gIxT (eV 0) (eC (.int 0)))) (eB gLe (eV 5) (eB gIxT (eV 0) (eC (.int 1)))))))))
def d_lies_in : List D → Option R1 := fD 6 2 b_lies_in
theorem sc_lies_in : FnScope ["box", "spot", "x", "y", "x2", "y2"] ["box", "spot"] (defScope s_lies_in) := ⟨rfl, rfl, rfl, by decide +kernel, rfl, by decide +kernel, by decide +kernel⟩
theorem ok_lies_in {f : Addr} {fd : FuncData} (F : Fun K "lies_in" "lies_in" s_lies_in f fd) (T : Txt K mg c)  : FnOk P w K mg base (CXe P w) 3 f fd ["box", "spot"] (spD K c d_lies_in) :=
 F.okD (k := 2) sc_lies_in fun cdv A outer s H E hr => ⟨_, (pss_cons (ps_asg (pv 1) (pgK_tup (K := K) (n := 4) rfl (pgs_cons (pg_name (i := 2) sc_lies_in.nd rfl (Or.inl rfl)) (pgs_cons (pg_name (i := 3) sc_lies_in.nd rfl (Or.inl rfl)) (pgs_cons (pg_name (i := 4) sc_lies_in.nd rfl (Or.inl rfl)) (pgs_cons (pg_name (i := 5) sc_lies_in.nd rfl (Or.inl rfl)) pgs_nil)))))) (pss_one (ps_ret (pe_and (pe_cmpR op_ge (pv 2) pe_int (nomark _)) (pe_and (pe_cmpR op_ge (pv 3) pe_int (nomark _)) (pe_and (pe_cmpR op_le (pv 4) (pe_ix (ixK_tup (K := K)) (pv 0) pe_int (fun _ _ => rfl)) (nomark _)) (pe_one (pe_cmpR op_le (pv 5) (pe_ix (ixK_tup (K := K)) (pv 0) pe_int (fun _ _ => rfl)) (nomark _))))))))), (rf_Seq (rf_Asg rf_v (rf_gTup (rf_gCons (rf_gName (k := 6) (by decide)) (rf_gCons (rf_gName (k := 6) (by decide)) (rf_gCons (rf_gName (k := 6) (by decide)) (rf_gCons (rf_gName (k := 6) (by decide)) rf_gNil)))) rfl)) (rf_Ret (rf_And (rf_op ok_ge rf_v rf_c) (rf_And (rf_op ok_ge rf_v rf_c) (rf_And (rf_op ok_le rf_v (rf_op ok_ixT rf_v rf_c)) (rf_op ok_le rf_v (rf_op ok_ixT rf_v rf_c)))))))⟩
def b_least_place : SF := (sSeq (sSetN 4 (nSortS (aC (zN (nB gCat (zN (eL (aC (eC (.int 0)) aN))) (zN (nCompV 1 1 [] (bName 0) bTrue (eB gIxT (eV 0) (eC (.int 3))))))) aN))) (sSeq (sSetN 5 (nSortS (aC (zN (nB gCat (zN (eL (aC (eC (.int 0)) aN))) (zN (nCompV 1 1 [] (bName 0) bTrue (eB gIxT (eV 0) (eC (.int 2))))))) aN))) (sSeq (sForV 4 (bName 6) (sForV 5 (bName 7) (sSeq (sSet 8 (eT (aC (eV 7) (aC (eV 6) (aC (eB gAdd (eV 7) (eV 2)) (aC (eB gAdd (eV 6) (eV 3)) aN)))))) (sIf (bAnd (bZ (eCall0 d_lies_in (aC (eV 0) (aC (eV 8) aN)))) (bZ (eCB (g1 gAll) (aC (zN (nCompV 1 1 [8] (bName 0) bTrue (eCall0 d_apart (aC (eV 1) (aC (eV 0) aN))))) aN)))) (sRet (eT (aC (eV 7) (aC (eV 6) aN)))) sNx)))) (sRet (eC .non)))))
def d_least_place : List D → Option R1 := fD 9 4 b_least_place
theorem sc_least_place : FnScope ["box", "spots", "w", "h", "ys", "xs", "y", "x", "spot"] ["box", "spots", "w", "h"] (defScope s_least_place) := ⟨rfl, rfl, rfl, by decide +kernel, rfl, by decide +kernel, by decide +kernel⟩
theorem ok_least_place {f : Addr} {fd : FuncData} (F : Fun K "least_place" "least_place" s_least_place f fd) (T : Txt K mg c) (G_apart : Own P w K mg base 3 "apart" ["one", "other"] (spD K c d_apart)) (G_lies_in : Own P w K mg base 3 "lies_in" ["box", "spot"] (spD K c d_lies_in)) : FnOk P w K mg base (CXe P w) 5 f fd ["box", "spots", "w", "h"] (spD K c d_least_place) :=
 F.okD (k := 4) sc_least_place fun cdv A outer s H E hr => ⟨_, (pss_cons (ps_set (i := 4) sc_least_place.nd rfl (Or.inl rfl) (pe_sortS rfl rfl T.z_sorted rfl T.z_set (pa_cons (pe_op op_cat (pe_lst (pa_cons pe_int pa_nil)) (pe_comp (Nc := ["spot"]) (k := 1) (js := []) rfl ⟨by decide +kernel, rfl, by decide +kernel, (by change ∀ y ∈ Scope.names _, y.2 = NameKind.free → (defScope s_least_place).names.lookup y.1 = some .cell ∨ (defScope s_least_place).names.lookup y.1 = some .free; decide +kernel), by decide +kernel, rfl, rfl, by decide +kernel⟩ (pi_list (pv 1)) (fun _ _ _ _ _ => (pg_name (i := 0) (by show List.Nodup [("spot" : Str)]; decide +kernel) rfl (Or.inl rfl))) (fun _ _ _ _ _ => pf_nil) (fun _ _ _ _ _ => (pe_ix (ixK_tup (K := K)) (pv 0) pe_int (fun _ _ => rfl))))) pa_nil))) (pss_cons (ps_set (i := 5) sc_least_place.nd rfl (Or.inl rfl) (pe_sortS rfl rfl T.z_sorted rfl T.z_set (pa_cons (pe_op op_cat (pe_lst (pa_cons pe_int pa_nil)) (pe_comp (Nc := ["spot"]) (k := 1) (js := []) rfl ⟨by decide +kernel, rfl, by decide +kernel, (by change ∀ y ∈ Scope.names _, y.2 = NameKind.free → (defScope s_least_place).names.lookup y.1 = some .cell ∨ (defScope s_least_place).names.lookup y.1 = some .free; decide +kernel), by decide +kernel, rfl, rfl, by decide +kernel⟩ (pi_list (pv 1)) (fun _ _ _ _ _ => (pg_name (i := 0) (by show List.Nodup [("spot" : Str)]; decide +kernel) rfl (Or.inl rfl))) (fun _ _ _ _ _ => pf_nil) (fun _ _ _ _ _ => (pe_ix (ixK_tup (K := K)) (pv 0) pe_int (fun _ _ => rfl))))) pa_nil))) (pss_cons (ps_for PassesOwn.leaving rfl (pi_list (pv 4)) (pg_name (i := 6) sc_least_place.nd rfl (Or.inl rfl)) (pss_one (ps_for PassesOwn.leaving rfl (pi_list (pv 5)) (pg_name (i := 7) sc_least_place.nd rfl (Or.inl rfl)) (pss_cons (ps_set (i := 8) sc_least_place.nd rfl (Or.inr rfl) (pe_tup (pa_cons (pv 7) (pa_cons (pv 6) (pa_cons (pe_op op_add (pv 7) (pv 2)) (pa_cons (pe_op op_add (pv 6) (pv 3)) pa_nil)))))) (pss_one (ps_if (PW.pt (pw_and (pt_val (pe_own G_lies_in hr (by decide) pass0e (pa_cons (pv 0) (pa_cons (pv 8) pa_nil)))) (pw_and1 (pt_val (pe_callB (callK_all (K := K)) rfl T.z_all bt_all (pa_cons (pe_comp (Nc := ["other", "spot"]) (k := 1) (js := [8]) rfl ⟨by decide +kernel, rfl, by decide +kernel, (by change ∀ y ∈ Scope.names _, y.2 = NameKind.free → (defScope s_least_place).names.lookup y.1 = some .cell ∨ (defScope s_least_place).names.lookup y.1 = some .free; decide +kernel), by decide +kernel, rfl, rfl, by decide +kernel⟩ (pi_list (pv 1)) (fun _ _ _ _ _ => (pg_name (i := 0) (by show List.Nodup [("other" : Str), ("spot" : Str)]; decide +kernel) rfl (Or.inl rfl))) (fun _ _ _ _ _ => pf_nil) (fun _ _ _ _ _ => (pe_own G_apart hr (by decide) pass0e (pa_cons (pv 1) (pa_cons (pv 0) pa_nil))))) pa_nil)))))) (pss_one (ps_ret (pe_tup (pa_cons (pv 7) (pa_cons (pv 6) pa_nil))))) pss_nil)))))) (pss_one (ps_ret pe_non))))), (rf_Seq (rf_SetN (rf_SortS (rf_aC (rf_zN (rf_nB ok_cat (rf_zN (rf_L (rf_aC rf_c rf_aN))) (rf_zN (rf_CompV (by decide) (rf_gName (k := 1) (by decide)) rf_bTrue (rf_op ok_ixT rf_v rf_c))))) rf_aN))) (rf_Seq (rf_SetN (rf_SortS (rf_aC (rf_zN (rf_nB ok_cat (rf_zN (rf_L (rf_aC rf_c rf_aN))) (rf_zN (rf_CompV (by decide) (rf_gName (k := 1) (by decide)) rf_bTrue (rf_op ok_ixT rf_v rf_c))))) rf_aN))) (rf_Seq (rf_ForV (rf_gName (k := 9) (by decide)) (rf_ForV (rf_gName (k := 9) (by decide)) (rf_Seq (rf_Set (rf_T (rf_aC rf_v (rf_aC rf_v (rf_aC (rf_op ok_add rf_v rf_v) (rf_aC (rf_op ok_add rf_v rf_v) rf_aN)))))) (rf_If' (rf_bAnd (rf_bZ (rf_Call0 (rf_aC rf_v (rf_aC rf_v rf_aN)))) (rf_bZ (rf_CB ok_all.cb (rf_aC (rf_zN (rf_CompV (by decide) (rf_gName (k := 1) (by decide)) rf_bTrue (rf_Call0 (rf_aC rf_v (rf_aC rf_v rf_aN))))) rf_aN)))) (rf_Ret (rf_T (rf_aC rf_v (rf_aC rf_v rf_aN)))) rf_Nx)))) (rf_Ret rf_c))))⟩
def b_l_whole : SF := (sRet (eAnd (eIsiV 0 "int") (eNot (eIsiV 0 "bool"))))
def d_l_whole : List D → Option R1 := fD 1 1 b_l_whole
theorem sc_l_whole : FnScope ["_law_found"] ["_law_found"] (defScope s_l_whole) := ⟨rfl, rfl, rfl, by decide +kernel, rfl, by decide +kernel, by decide +kernel⟩
theorem ok_l_whole {f : Addr} {fd : FuncData} (F : Fun K "_law_whole" "_law_whole" s_l_whole f fd) (T : Txt K mg c)  : FnOk P w K mg base (CXe P w) 3 f fd ["_law_found"] (spD K c d_l_whole) :=
 F.okD (k := 2) sc_l_whole fun cdv A outer s H E hr => ⟨_, (pss_one (ps_ret (pe_and (pe_callB (callK_isi (K := K)) rfl T.z_isinstance bt_isinstance (pa_cons (pv 0) (pa_cons (pe_bltn (v := .ty "int") rfl T.z_int bt_int rfl) pa_nil))) (pe_one (pe_not (pe_callB (callK_isi (K := K)) rfl T.z_isinstance bt_isinstance (pa_cons (pv 0) (pa_cons (pe_bltn (v := .ty "bool") rfl T.z_bool bt_bool rfl) pa_nil)))))))), (rf_Ret (rf_And rf_IsiV (rf_Not rf_IsiV)))⟩
def b_l_cell : SF := (sSeq (sIf (bZ (eB gLt (eV 1) (eCV gLen 0))) (sRet (eBV gIxL 0 (eV 1))) sNx) (sRet (eC (.int 0))))
def d_l_cell : List D → Option R1 := fD 2 2 b_l_cell
theorem sc_l_cell : FnScope ["_law_script", "_law_k"] ["_law_script", "_law_k"] (defScope s_l_cell) := ⟨rfl, rfl, rfl, by decide +kernel, rfl, by decide +kernel, by decide +kernel⟩
theorem ok_l_cell {f : Addr} {fd : FuncData} (F : Fun K "_law_cell" "_law_cell" s_l_cell f fd) (T : Txt K mg c)  : FnOk P w K mg base (CXe P w) 3 f fd ["_law_script", "_law_k"] (spD K c d_l_cell) :=
 F.okD (k := 2) sc_l_cell fun cdv A outer s H E hr => ⟨_, (pss_cons (ps_if (pt_cmpR op_lt (pv 1) (pe_callB (callK_len_seq (K := K)) rfl T.z_len bt_len (pa_cons (pv 0) pa_nil)) (nomark _)) (pss_one (ps_ret (pe_ix (ixK_list (K := K)) (pv 0) (pv 1) (fun _ _ => rfl)))) pss_nil) (pss_one (ps_ret pe_int))), (rf_Seq (rf_If' (rf_bT (rf_op ok_lt rf_v (rf_CV ok_len))) (rf_Ret (rf_opV ok_ixL rf_v)) rf_Nx) (rf_Ret rf_c))⟩
def b_l_long : SF := (sSeq (sIf (bZ (eB (gEq false) (eB gMod (eV 0) (eC (.int 3))) (eC (.int 1)))) (sRet (eB gAdd (eC (.int 1)) (eB gMod (eB gDiv (eV 0) (eC (.int 3))) (eB gSub' (eB gPow (eC (.int 10)) (eC (.int 40))) (eC (.int 1)))))) sNx) (sRet (eB gAdd (eC (.int 1)) (eB gMod (eB gDiv (eV 0) (eC (.int 3))) (eC (.int 12))))))
def d_l_long : List D → Option R1 := fD 1 1 b_l_long
theorem sc_l_long : FnScope ["_law_cell_here"] ["_law_cell_here"] (defScope s_l_long) := ⟨rfl, rfl, rfl, by decide +kernel, rfl, by decide +kernel, by decide +kernel⟩
theorem ok_l_long {f : Addr} {fd : FuncData} (F : Fun K "_law_long" "_law_long" s_l_long f fd) (T : Txt K mg c)  : FnOk P w K mg base (CXe P w) 3 f fd ["_law_cell_here"] (spD K c d_l_long) :=
 F.okD (k := 2) sc_l_long fun cdv A outer s H E hr => ⟨_, (pss_cons (ps_if (pt_cmpR op_eq (pe_op op_mod (pv 0) pe_int) pe_int (nomark _)) (pss_one (ps_ret (pe_op op_add pe_int (pe_op op_mod (pe_op op_fdivB (pv 0) pe_int) (pe_op op_sub (pe_op op_pow pe_int pe_int) pe_int))))) pss_nil) (pss_one (ps_ret (pe_op op_add pe_int (pe_op op_mod (pe_op op_fdivB (pv 0) pe_int) pe_int))))), (rf_Seq (rf_If' (rf_bT (rf_op ok_eq (rf_op ok_mod rf_v rf_c) rf_c)) (rf_Ret (rf_op ok_add rf_c (rf_op ok_mod (rf_op ok_div rf_v rf_c) (rf_op ok_sub (rf_op ok_pow rf_c rf_c) rf_c)))) rf_Nx) (rf_Ret (rf_op ok_add rf_c (rf_op ok_mod (rf_op ok_div rf_v rf_c) rf_c))))⟩
def b_l_ends : SF := (sSeq (sSet 2 (eCB gMax2 (aC (eC (.int 1)) (aC (eB gDiv (eV 1) (eC (.int 6))) aN)))) (sSeq (sSet 3 (eCB gMin2 (aC (eB gSub' (eV 1) (eC (.int 1))) (aC (eB gAdd (eB gMul (eV 2) (eB gMod (eV 0) (eC (.int 6)))) (eB gMod (eB gDiv (eV 0) (eC (.int 36))) (eC (.int 2)))) aN)))) (sRet (eT (aC (eV 3) (aC (eCB gMin2 (aC (eV 1) (aC (eB gAdd (eV 3) (eB gMul (eV 2) (eB gAdd (eC (.int 1)) (eB gMod (eB gDiv (eV 0) (eC (.int 6))) (eC (.int 3)))))) aN))) aN))))))
def d_l_ends : List D → Option R1 := fD 4 2 b_l_ends
theorem sc_l_ends : FnScope ["_law_cell_here", "_law_side", "_law_unit", "_law_low"] ["_law_cell_here", "_law_side"] (defScope s_l_ends) := ⟨rfl, rfl, rfl, by decide +kernel, rfl, by decide +kernel, by decide +kernel⟩
theorem ok_l_ends {f : Addr} {fd : FuncData} (F : Fun K "_law_ends" "_law_ends" s_l_ends f fd) (T : Txt K mg c)  : FnOk P w K mg base (CXe P w) 3 f fd ["_law_cell_here", "_law_side"] (spD K c d_l_ends) :=
 F.okD (k := 2) sc_l_ends fun cdv A outer s H E hr => ⟨_, (pss_cons (ps_set (i := 2) sc_l_ends.nd rfl (Or.inl rfl) (pe_callB (call_max2 rfl) rfl T.z_max bt_max (pa_cons pe_int (pa_cons (pe_op op_fdivB (pv 1) pe_int) pa_nil)))) (pss_cons (ps_set (i := 3) sc_l_ends.nd rfl (Or.inl rfl) (pe_callB (call_min2 rfl) rfl T.z_min bt_min (pa_cons (pe_op op_sub (pv 1) pe_int) (pa_cons (pe_op op_add (pe_op op_mulB (pv 2) (pe_op op_mod (pv 0) pe_int)) (pe_op op_mod (pe_op op_fdivB (pv 0) pe_int) pe_int)) pa_nil)))) (pss_one (ps_ret (pe_tup (pa_cons (pv 3) (pa_cons (pe_callB (call_min2 rfl) rfl T.z_min bt_min (pa_cons (pv 1) (pa_cons (pe_op op_add (pv 3) (pe_op op_mulB (pv 2) (pe_op op_add pe_int (pe_op op_mod (pe_op op_fdivB (pv 0) pe_int) pe_int)))) pa_nil))) pa_nil))))))), (rf_Seq (rf_Set (rf_CB ok_max2 (rf_aC rf_c (rf_aC (rf_op ok_div rf_v rf_c) rf_aN)))) (rf_Seq (rf_Set (rf_CB ok_min2 (rf_aC (rf_op ok_sub rf_v rf_c) (rf_aC (rf_op ok_add (rf_op ok_mul rf_v (rf_op ok_mod rf_v rf_c)) (rf_op ok_mod (rf_op ok_div rf_v rf_c) rf_c)) rf_aN)))) (rf_Ret (rf_T (rf_aC rf_v (rf_aC (rf_CB ok_min2 (rf_aC rf_v (rf_aC (rf_op ok_add rf_v (rf_op ok_mul rf_v (rf_op ok_add rf_c (rf_op ok_mod (rf_op ok_div rf_v rf_c) rf_c)))) rf_aN))) rf_aN))))))⟩
def b_l_spot : SF := (sSeq (sSet 2 (eB gMod (eB gMul (eV 0) (eC (.int 48271))) (eC (.int 1000003)))) (sSeq (sSetC0 3 d_l_ends (aC (eV 2) (aC (eB gIxT (eV 1) (eC (.int 0))) aN))) (sSeq (sSetC0 4 d_l_ends (aC (eB gDiv (eV 2) (eC (.int 72))) (aC (eB gIxT (eV 1) (eC (.int 1))) aN))) (sRet (eT (aC (eB gIxT (eV 3) (eC (.int 0))) (aC (eB gIxT (eV 4) (eC (.int 0))) (aC (eB gIxT (eV 3) (eC (.int 1))) (aC (eB gIxT (eV 4) (eC (.int 1))) aN)))))))))
def d_l_spot : List D → Option R1 := fD 5 2 b_l_spot
theorem sc_l_spot : FnScope ["_law_cell_here", "_law_box", "_law_mixed", "_law_across", "_law_up"] ["_law_cell_here", "_law_box"] (defScope s_l_spot) := ⟨rfl, rfl, rfl, by decide +kernel, rfl, by decide +kernel, by decide +kernel⟩
theorem ok_l_spot {f : Addr} {fd : FuncData} (F : Fun K "_law_spot" "_law_spot" s_l_spot f fd) (T : Txt K mg c) (G_l_ends : Own P w K mg base 3 "_law_ends" ["_law_cell_here", "_law_side"] (spD K c d_l_ends)) : FnOk P w K mg base (CXe P w) 5 f fd ["_law_cell_here", "_law_box"] (spD K c d_l_spot) :=
 F.okD (k := 4) sc_l_spot fun cdv A outer s H E hr => ⟨_, (pss_cons (ps_set (i := 2) sc_l_spot.nd rfl (Or.inl rfl) (pe_op op_mod (pe_op op_mulB (pv 0) pe_int) pe_int)) (pss_cons (ps_set (i := 3) sc_l_spot.nd rfl (Or.inl rfl) (pe_own G_l_ends hr (by decide) pass0e (pa_cons (pv 2) (pa_cons (pe_ix (ixK_tup (K := K)) (pv 1) pe_int (fun _ _ => rfl)) pa_nil)))) (pss_cons (ps_set (i := 4) sc_l_spot.nd rfl (Or.inl rfl) (pe_own G_l_ends hr (by decide) pass0e (pa_cons (pe_op op_fdivB (pv 2) pe_int) (pa_cons (pe_ix (ixK_tup (K := K)) (pv 1) pe_int (fun _ _ => rfl)) pa_nil)))) (pss_one (ps_ret (pe_tup (pa_cons (pe_ix (ixK_tup (K := K)) (pv 3) pe_int (fun _ _ => rfl)) (pa_cons (pe_ix (ixK_tup (K := K)) (pv 4) pe_int (fun _ _ => rfl)) (pa_cons (pe_ix (ixK_tup (K := K)) (pv 3) pe_int (fun _ _ => rfl)) (pa_cons (pe_ix (ixK_tup (K := K)) (pv 4) pe_int (fun _ _ => rfl)) pa_nil)))))))))), (rf_Seq (rf_Set (rf_op ok_mod (rf_op ok_mul rf_v rf_c) rf_c)) (rf_Seq (rf_SetC0 (rf_aC rf_v (rf_aC (rf_op ok_ixT rf_v rf_c) rf_aN))) (rf_Seq (rf_SetC0 (rf_aC (rf_op ok_div rf_v rf_c) (rf_aC (rf_op ok_ixT rf_v rf_c) rf_aN))) (rf_Ret (rf_T (rf_aC (rf_op ok_ixT rf_v rf_c) (rf_aC (rf_op ok_ixT rf_v rf_c) (rf_aC (rf_op ok_ixT rf_v rf_c) (rf_aC (rf_op ok_ixT rf_v rf_c) rf_aN)))))))))⟩
def b_l_new : SF := (sSeq (sSet 2 (eCB gMax2 (aC (eC (.int 1)) (aC (eB gDiv (eV 1) (eC (.int 6))) aN)))) (sSeq (sIf (bZ (eB (gEq false) (eB gMod (eV 0) (eC (.int 3))) (eC (.int 2)))) (sRet (eB gAdd (eC (.int 1)) (eB gMod (eB gDiv (eV 0) (eC (.int 3))) (eB gAdd (eV 1) (eC (.int 1)))))) sNx) (sRet (eCB gMax2 (aC (eC (.int 1)) (aC (eCB gMin2 (aC (eV 1) (aC (eB gSub' (eB gAdd (eB gMul (eV 2) (eB gAdd (eC (.int 1)) (eB gMod (eB gDiv (eV 0) (eC (.int 3))) (eC (.int 4))))) (eB gMod (eB gDiv (eV 0) (eC (.int 12))) (eC (.int 3)))) (eC (.int 1))) aN))) aN))))))
def d_l_new : List D → Option R1 := fD 3 2 b_l_new
theorem sc_l_new : FnScope ["_law_cell_here", "_law_side", "_law_unit"] ["_law_cell_here", "_law_side"] (defScope s_l_new) := ⟨rfl, rfl, rfl, by decide +kernel, rfl, by decide +kernel, by decide +kernel⟩
theorem ok_l_new {f : Addr} {fd : FuncData} (F : Fun K "_law_new" "_law_new" s_l_new f fd) (T : Txt K mg c)  : FnOk P w K mg base (CXe P w) 3 f fd ["_law_cell_here", "_law_side"] (spD K c d_l_new) :=
 F.okD (k := 2) sc_l_new fun cdv A outer s H E hr => ⟨_, (pss_cons (ps_set (i := 2) sc_l_new.nd rfl (Or.inl rfl) (pe_callB (call_max2 rfl) rfl T.z_max bt_max (pa_cons pe_int (pa_cons (pe_op op_fdivB (pv 1) pe_int) pa_nil)))) (pss_cons (ps_if (pt_cmpR op_eq (pe_op op_mod (pv 0) pe_int) pe_int (nomark _)) (pss_one (ps_ret (pe_op op_add pe_int (pe_op op_mod (pe_op op_fdivB (pv 0) pe_int) (pe_op op_add (pv 1) pe_int))))) pss_nil) (pss_one (ps_ret (pe_callB (call_max2 rfl) rfl T.z_max bt_max (pa_cons pe_int (pa_cons (pe_callB (call_min2 rfl) rfl T.z_min bt_min (pa_cons (pv 1) (pa_cons (pe_op op_sub (pe_op op_add (pe_op op_mulB (pv 2) (pe_op op_add pe_int (pe_op op_mod (pe_op op_fdivB (pv 0) pe_int) pe_int))) (pe_op op_mod (pe_op op_fdivB (pv 0) pe_int) pe_int)) pe_int) pa_nil))) pa_nil))))))), (rf_Seq (rf_Set (rf_CB ok_max2 (rf_aC rf_c (rf_aC (rf_op ok_div rf_v rf_c) rf_aN)))) (rf_Seq (rf_If' (rf_bT (rf_op ok_eq (rf_op ok_mod rf_v rf_c) rf_c)) (rf_Ret (rf_op ok_add rf_c (rf_op ok_mod (rf_op ok_div rf_v rf_c) (rf_op ok_add rf_v rf_c)))) rf_Nx) (rf_Ret (rf_CB ok_max2 (rf_aC rf_c (rf_aC (rf_CB ok_min2 (rf_aC rf_v (rf_aC (rf_op ok_sub (rf_op ok_add (rf_op ok_mul rf_v (rf_op ok_add rf_c (rf_op ok_mod (rf_op ok_div rf_v rf_c) rf_c))) (rf_op ok_mod (rf_op ok_div rf_v rf_c) rf_c)) rf_c) rf_aN))) rf_aN))))))⟩
def b_l_free : SF := (sSeq (sSet 4 (eB gAdd (eB gIxT (eV 2) (eC (.int 0))) (eB gIxT (eV 3) (eC (.int 0))))) (sSeq (sSet 5 (eB gAdd (eB gIxT (eV 2) (eC (.int 1))) (eB gIxT (eV 3) (eC (.int 1))))) (sSeq (sIf (bOr (bZ (eB gLt (eB gIxT (eV 2) (eC (.int 0))) (eC (.int 0)))) (bOr (bZ (eB gLt (eB gIxT (eV 2) (eC (.int 1))) (eC (.int 0)))) (bOr (bZ (eB gGt (eV 4) (eB gIxT (eV 0) (eC (.int 0))))) (bZ (eB gGt (eV 5) (eB gIxT (eV 0) (eC (.int 1)))))))) (sRet (eC (.bl false))) sNx) (sSeq (sForV 1 (bName 6) (sIf (bAnd (bZ (eB gLt (eB gIxT (eV 2) (eC (.int 0))) (eB gIxT (eV 6) (eC (.int 2))))) (bAnd (bZ (eB gLt (eB gIxT (eV 6) (eC (.int 0))) (eV 4))) (bAnd (bZ (eB gLt (eB gIxT (eV 2) (eC (.int 1))) (eB gIxT (eV 6) (eC (.int 3))))) (bZ (eB gLt (eB gIxT (eV 6) (eC (.int 1))) (eV 5)))))) (sRet (eC (.bl false))) sNx)) (sRet (eC (.bl true)))))))
def d_l_free : List D → Option R1 := fD 7 4 b_l_free
theorem sc_l_free : FnScope ["_law_box", "_law_spots", "_law_place", "_law_sides", "_law_x2", "_law_y2", "_law_spot_here"] ["_law_box", "_law_spots", "_law_place", "_law_sides"] (defScope s_l_free) := ⟨rfl, rfl, rfl, by decide +kernel, rfl, by decide +kernel, by decide +kernel⟩
theorem ok_l_free {f : Addr} {fd : FuncData} (F : Fun K "_law_free" "_law_free" s_l_free f fd) (T : Txt K mg c)  : FnOk P w K mg base (CXe P w) 3 f fd ["_law_box", "_law_spots", "_law_place", "_law_sides"] (spD K c d_l_free) :=
 F.okD (k := 2) sc_l_free fun cdv A outer s H E hr => ⟨_, (pss_cons (ps_set (i := 4) sc_l_free.nd rfl (Or.inl rfl) (pe_op op_add (pe_ix (ixK_tup (K := K)) (pv 2) pe_int (fun _ _ => rfl)) (pe_ix (ixK_tup (K := K)) (pv 3) pe_int (fun _ _ => rfl)))) (pss_cons (ps_set (i := 5) sc_l_free.nd rfl (Or.inl rfl) (pe_op op_add (pe_ix (ixK_tup (K := K)) (pv 2) pe_int (fun _ _ => rfl)) (pe_ix (ixK_tup (K := K)) (pv 3) pe_int (fun _ _ => rfl)))) (pss_cons (ps_if (PW.pt (pw_or (pt_cmpR op_lt (pe_ix (ixK_tup (K := K)) (pv 2) pe_int (fun _ _ => rfl)) pe_int (nomark _)) (pw_or (pt_cmpR op_lt (pe_ix (ixK_tup (K := K)) (pv 2) pe_int (fun _ _ => rfl)) pe_int (nomark _)) (pw_or (pt_cmpR op_gt (pv 4) (pe_ix (ixK_tup (K := K)) (pv 0) pe_int (fun _ _ => rfl)) (nomark _)) (pw_or1 (pt_cmpR op_gt (pv 5) (pe_ix (ixK_tup (K := K)) (pv 0) pe_int (fun _ _ => rfl)) (nomark _))))))) (pss_one (ps_ret pe_bl)) pss_nil) (pss_cons (ps_for PassesOwn.leaving rfl (pi_list (pv 1)) (pg_name (i := 6) sc_l_free.nd rfl (Or.inl rfl)) (pss_one (ps_if (PW.pt (pw_and (pt_cmpR op_lt (pe_ix (ixK_tup (K := K)) (pv 2) pe_int (fun _ _ => rfl)) (pe_ix (ixK_tup (K := K)) (pv 6) pe_int (fun _ _ => rfl)) (nomark _)) (pw_and (pt_cmpR op_lt (pe_ix (ixK_tup (K := K)) (pv 6) pe_int (fun _ _ => rfl)) (pv 4) (nomark _)) (pw_and (pt_cmpR op_lt (pe_ix (ixK_tup (K := K)) (pv 2) pe_int (fun _ _ => rfl)) (pe_ix (ixK_tup (K := K)) (pv 6) pe_int (fun _ _ => rfl)) (nomark _)) (pw_and1 (pt_cmpR op_lt (pe_ix (ixK_tup (K := K)) (pv 6) pe_int (fun _ _ => rfl)) (pv 5) (nomark _))))))) (pss_one (ps_ret pe_bl)) pss_nil))) (pss_one (ps_ret pe_bl)))))), (rf_Seq (rf_Set (rf_op ok_add (rf_op ok_ixT rf_v rf_c) (rf_op ok_ixT rf_v rf_c))) (rf_Seq (rf_Set (rf_op ok_add (rf_op ok_ixT rf_v rf_c) (rf_op ok_ixT rf_v rf_c))) (rf_Seq (rf_If' (rf_bOr (rf_bT (rf_op ok_lt (rf_op ok_ixT rf_v rf_c) rf_c)) (rf_bOr (rf_bT (rf_op ok_lt (rf_op ok_ixT rf_v rf_c) rf_c)) (rf_bOr (rf_bT (rf_op ok_gt rf_v (rf_op ok_ixT rf_v rf_c))) (rf_bT (rf_op ok_gt rf_v (rf_op ok_ixT rf_v rf_c)))))) (rf_Ret rf_c) rf_Nx) (rf_Seq (rf_ForV (rf_gName (k := 7) (by decide)) (rf_If' (rf_bAnd (rf_bT (rf_op ok_lt (rf_op ok_ixT rf_v rf_c) (rf_op ok_ixT rf_v rf_c))) (rf_bAnd (rf_bT (rf_op ok_lt (rf_op ok_ixT rf_v rf_c) rf_v)) (rf_bAnd (rf_bT (rf_op ok_lt (rf_op ok_ixT rf_v rf_c) (rf_op ok_ixT rf_v rf_c))) (rf_bT (rf_op ok_lt (rf_op ok_ixT rf_v rf_c) rf_v))))) (rf_Ret rf_c) rf_Nx)) (rf_Ret rf_c)))))⟩
def b_l_ends_drawn : SF := (sSeq (sSetN 6 (nB gCat (zN (eL (aC (eC (.int 0)) (aC (eB gMod (eBV gIxL 0 (eC (.int 0))) (eB gAdd (eB gIxT (eV 2) (eV 4)) (eC (.int 1)))) aN)))) (zN (nCompV 1 1 [4] (bName 0) bTrue (eB gIxT (eV 0) (eB gAdd (eV 1) (eC (.int 2)))))))) (sSeq (sIf (bZ (eB gGt (eCV gLen 1) (eC (.int 0)))) (sApp 6 (eB gSub' (eB gIxT (eBV gIxL 1 (eB gMod (eBV gIxL 0 (eC (.int 1))) (eCV gLen 1))) (eV 4)) (eB gIxT (eV 3) (eV 4)))) sNx) (sSeq (sIf (bZ (eB (gIsN true) (eV 5) (eC .non))) (sApp 6 (eB gSub' (eB gIxT (eV 5) (eV 4)) (eC (.int 1)))) sNx) (sRetN (nSortS (aC (eV 6) aN))))))
def d_l_ends_drawn : List D → Option R1 := fD 7 6 b_l_ends_drawn
theorem sc_l_ends_drawn : FnScope ["_law_cells", "_law_spots", "_law_box", "_law_sides", "_law_way", "_law_told", "_law_some"] ["_law_cells", "_law_spots", "_law_box", "_law_sides", "_law_way", "_law_told"] (defScope s_l_ends_drawn) := ⟨rfl, rfl, rfl, by decide +kernel, rfl, by decide +kernel, by decide +kernel⟩
theorem ok_l_ends_drawn {f : Addr} {fd : FuncData} (F : Fun K "_law_ends_drawn" "_law_ends_drawn" s_l_ends_drawn f fd) (T : Txt K mg c)  : FnOk P w K mg base (CXe P w) 3 f fd ["_law_cells", "_law_spots", "_law_box", "_law_sides", "_law_way", "_law_told"] (spD K c d_l_ends_drawn) :=
 F.okD (k := 2) sc_l_ends_drawn fun cdv A outer s H E hr => ⟨_, (pss_cons (ps_set (i := 6) sc_l_ends_drawn.nd rfl (Or.inl rfl) (pe_op op_cat (pe_lst (pa_cons pe_int (pa_cons (pe_op op_mod (pe_ix (ixK_list (K := K)) (pv 0) pe_int (fun _ _ => rfl)) (pe_op op_add (pe_ix (ixK_tup (K := K)) (pv 2) (pv 4) (fun _ _ => rfl)) pe_int)) pa_nil))) (pe_comp (Nc := ["_law_spot_here", "_law_way"]) (k := 1) (js := [4]) rfl ⟨by decide +kernel, rfl, by decide +kernel, (by change ∀ y ∈ Scope.names _, y.2 = NameKind.free → (defScope s_l_ends_drawn).names.lookup y.1 = some .cell ∨ (defScope s_l_ends_drawn).names.lookup y.1 = some .free; decide +kernel), by decide +kernel, rfl, rfl, by decide +kernel⟩ (pi_list (pv 1)) (fun _ _ _ _ _ => (pg_name (i := 0) (by show List.Nodup [("_law_spot_here" : Str), ("_law_way" : Str)]; decide +kernel) rfl (Or.inl rfl))) (fun _ _ _ _ _ => pf_nil) (fun _ _ _ _ _ => (pe_ix (ixK_tup (K := K)) (pv 0) (pe_op op_add (pv 1) pe_int) (fun _ _ => rfl)))))) (pss_cons (ps_if (pt_cmpR op_gt (pe_callB (callK_len_seq (K := K)) rfl T.z_len bt_len (pa_cons (pv 1) pa_nil)) pe_int (nomark _)) (pss_one (ps_expr (pe_bmK (K := K) PySem.F.plainAttrs_list PySem.F.slot_list_append PySem.F.type_list_append mt_append (pv 6) (pa_cons (pe_op op_sub (pe_ix (ixK_tup (K := K)) (pe_ix (ixK_list (K := K)) (pv 1) (pe_op op_mod (pe_ix (ixK_list (K := K)) (pv 0) pe_int (fun _ _ => rfl)) (pe_callB (callK_len_seq (K := K)) rfl T.z_len bt_len (pa_cons (pv 1) pa_nil))) (fun _ _ => rfl)) (pv 4) (fun _ _ => rfl)) (pe_ix (ixK_tup (K := K)) (pv 3) (pv 4) (fun _ _ => rfl))) pa_nil)))) pss_nil) (pss_cons (ps_if (pt_cmpR op_notN (pv 5) pe_non (nomark _)) (pss_one (ps_expr (pe_bmK (K := K) PySem.F.plainAttrs_list PySem.F.slot_list_append PySem.F.type_list_append mt_append (pv 6) (pa_cons (pe_op op_sub (pe_ix (ixK_tup (K := K)) (pv 5) (pv 4) (fun _ _ => rfl)) pe_int) pa_nil)))) pss_nil) (pss_one (ps_ret (pe_sortS rfl rfl T.z_sorted rfl T.z_set (pa_cons (pv 6) pa_nil))))))), (rf_Seq (rf_SetN (rf_nB ok_cat (rf_zN (rf_L (rf_aC rf_c (rf_aC (rf_op ok_mod (rf_opV ok_ixL rf_c) (rf_op ok_add (rf_op ok_ixT rf_v rf_v) rf_c)) rf_aN)))) (rf_zN (rf_CompV (by decide) (rf_gName (k := 1) (by decide)) rf_bTrue (rf_op ok_ixT rf_v (rf_op ok_add rf_v rf_c)))))) (rf_Seq (rf_If' (rf_bT (rf_op ok_gt (rf_CV ok_len) rf_c)) (rf_App (rf_op ok_sub (rf_op ok_ixT (rf_opV ok_ixL (rf_op ok_mod (rf_opV ok_ixL rf_c) (rf_CV ok_len))) rf_v) (rf_op ok_ixT rf_v rf_v))) rf_Nx) (rf_Seq (rf_If' (rf_bT (rf_op ok_notN rf_v rf_c)) (rf_App (rf_op ok_sub (rf_op ok_ixT rf_v rf_v) rf_c)) rf_Nx) (rf_RetN (rf_SortS (rf_aC rf_v rf_aN))))))⟩
def b_law : SF := (sSeq (sSet 1 (eT (aC (eCall0 d_l_long (aC (eCall0 d_l_cell (aC (eV 0) (aC (eC (.int 0)) aN))) aN)) (aC (eCall0 d_l_long (aC (eCall0 d_l_cell (aC (eV 0) (aC (eC (.int 1)) aN))) aN)) aN)))) (sSeq (sSet 2 (eT (aC (eCall0 d_l_new (aC (eCall0 d_l_cell (aC (eV 0) (aC (eC (.int 2)) aN))) (aC (eB gIxT (eV 1) (eC (.int 0))) aN))) (aC (eCall0 d_l_new (aC (eCall0 d_l_cell (aC (eV 0) (aC (eC (.int 3)) aN))) (aC (eB gIxT (eV 1) (eC (.int 1))) aN))) aN)))) (sSeq (sSet 3 (eB gAdd (eC (.int 33)) (eB gMul (eC (.int 16)) (eCB (g1 gInt1) (aC (eB (gEq false) (eB gMod (eCall0 d_l_cell (aC (eV 0) (aC (eC (.int 4)) aN))) (eC (.int 8))) (eC (.int 7))) aN))))) (sSeq (sSetN 4 (nComp 1 [1] (zN (nSlV 0 (oS (eC (.int 9))) (oS (eV 3)))) (bName 0) bTrue (eCall0 d_l_spot (aC (eV 0) (aC (eV 1) aN))))) (sSeq (sSetN 5 (nCV gList 4)) (sSeq (sSetC0 6 d_least_place (aC (eV 1) (aC (eV 5) (aC (eB gIxT (eV 2) (eC (.int 0))) (aC (eB gIxT (eV 2) (eC (.int 1))) aN))))) (sSeq (sIf (bZ (eBVV (gEqT true) 5 4)) (sRet (eC (.bl false))) sNx) (sSeq (sIf (bZ (eB (gIsN true) (eV 6) (eC .non))) (sSeq (sIf (bOr (bNot (bZ (eIsiV 6 "tuple"))) (bOr (bZ (eB (gEq true) (eCV gLen 6) (eC (.int 2)))) (bOr (bNot (bZ (eCall0 d_l_whole (aC (eB gIxT (eV 6) (eC (.int 0))) aN)))) (bNot (bZ (eCall0 d_l_whole (aC (eB gIxT (eV 6) (eC (.int 1))) aN))))))) (sRet (eC (.bl false))) sNx) (sIf (bNot (bZ (eCall0 d_l_free (aC (eV 1) (aC (eV 4) (aC (eV 6) (aC (eV 2) aN))))))) (sRet (eC (.bl false))) sNx)) sNx) (sSeq (sSetC0 7 d_l_ends_drawn (aC (zN (eL (aC (eCall0 d_l_cell (aC (eV 0) (aC (eC (.int 5)) aN))) (aC (eCall0 d_l_cell (aC (eV 0) (aC (eC (.int 6)) aN))) aN)))) (aC (eV 4) (aC (eV 1) (aC (eV 2) (aC (eC (.int 0)) (aC (eV 6) aN))))))) (sSeq (sSetC0 8 d_l_ends_drawn (aC (zN (eL (aC (eCall0 d_l_cell (aC (eV 0) (aC (eC (.int 7)) aN))) (aC (eCall0 d_l_cell (aC (eV 0) (aC (eC (.int 8)) aN))) aN)))) (aC (eV 4) (aC (eV 1) (aC (eV 2) (aC (eC (.int 1)) (aC (eV 6) aN))))))) (sSeq (sForV 7 (bName 9) (sForV 8 (bName 10) (sIf (bZ (eCall0 d_l_free (aC (eV 1) (aC (eV 4) (aC (eT (aC (eV 9) (aC (eV 10) aN))) (aC (eV 2) aN)))))) (sIf (bOr (bZ (eB (gIsN false) (eV 6) (eC .non))) (bZ (eB gLtT (eT (aC (eV 10) (aC (eV 9) aN))) (eT (aC (eB gIxT (eV 6) (eC (.int 1))) (aC (eB gIxT (eV 6) (eC (.int 0))) aN)))))) (sRet (eC (.bl false))) sNx) sNx))) (sRet (eC (.bl true))))))))))))))
def d_law : List D → Option R1 := fD 11 1 b_law
theorem sc_law : FnScope ["_law_script", "_law_box", "_law_sides", "_law_last", "_law_spots", "_law_handed", "_law_found", "_law_lefts", "_law_floors", "_law_x", "_law_y"] ["_law_script"] (defScope s_law) := ⟨rfl, rfl, rfl, by decide +kernel, rfl, by decide +kernel, by decide +kernel⟩
theorem ok_law0 {f : Addr} {fd : FuncData} (F : Fun K "law" "law" s_law f fd) (T : Txt K mg c) (G_l_long : Own P w K mg base 3 "_law_long" ["_law_cell_here"] (spD K c d_l_long)) (G_l_cell : Own P w K mg base 3 "_law_cell" ["_law_script", "_law_k"] (spD K c d_l_cell)) (G_l_new : Own P w K mg base 3 "_law_new" ["_law_cell_here", "_law_side"] (spD K c d_l_new)) (G_l_spot : Own P w K mg base 5 "_law_spot" ["_law_cell_here", "_law_box"] (spD K c d_l_spot)) (G_least_place : Own P w K mg base 5 "least_place" ["box", "spots", "w", "h"] (spD K c d_least_place)) (G_l_whole : Own P w K mg base 3 "_law_whole" ["_law_found"] (spD K c d_l_whole)) (G_l_free : Own P w K mg base 3 "_law_free" ["_law_box", "_law_spots", "_law_place", "_law_sides"] (spD K c d_l_free)) (G_l_ends_drawn : Own P w K mg base 3 "_law_ends_drawn" ["_law_cells", "_law_spots", "_law_box", "_law_sides", "_law_way", "_law_told"] (spD K c d_l_ends_drawn)) : FnOk P w K mg base (CXe P w) 7 f fd ["_law_script"] (spD K c d_law) :=
 F.okD (k := 6) sc_law fun cdv A outer s H E hr => ⟨_, (pss_cons (ps_set (i := 1) sc_law.nd rfl (Or.inr rfl) (pe_tup (pa_cons (pe_own G_l_long hr (by decide) pass0e (pa_cons (pe_own G_l_cell hr (by decide) pass0e (pa_cons (pv 0) (pa_cons pe_int pa_nil))) pa_nil)) (pa_cons (pe_own G_l_long hr (by decide) pass0e (pa_cons (pe_own G_l_cell hr (by decide) pass0e (pa_cons (pv 0) (pa_cons pe_int pa_nil))) pa_nil)) pa_nil)))) (pss_cons (ps_set (i := 2) sc_law.nd rfl (Or.inl rfl) (pe_tup (pa_cons (pe_own G_l_new hr (by decide) pass0e (pa_cons (pe_own G_l_cell hr (by decide) pass0e (pa_cons (pv 0) (pa_cons pe_int pa_nil))) (pa_cons (pe_ix (ixK_tup (K := K)) (pv 1) pe_int (fun _ _ => rfl)) pa_nil))) (pa_cons (pe_own G_l_new hr (by decide) pass0e (pa_cons (pe_own G_l_cell hr (by decide) pass0e (pa_cons (pv 0) (pa_cons pe_int pa_nil))) (pa_cons (pe_ix (ixK_tup (K := K)) (pv 1) pe_int (fun _ _ => rfl)) pa_nil))) pa_nil)))) (pss_cons (ps_set (i := 3) sc_law.nd rfl (Or.inl rfl) (pe_op op_add pe_int (pe_op op_mulB pe_int (pe_callTy call_int1 rfl T.z_int bt_int (pa_cons (pe_cmpR op_eq (pe_op op_mod (pe_own G_l_cell hr (by decide) pass0e (pa_cons (pv 0) (pa_cons pe_int pa_nil))) pe_int) pe_int (nomark _)) pa_nil))))) (pss_cons (ps_compSet (i := 4) (Nc := ["_law_cell_here", "_law_box"]) (k := 1) (js := [1]) rfl ⟨by decide +kernel, rfl, by decide +kernel, (by change ∀ y ∈ Scope.names _, y.2 = NameKind.free → (defScope s_law).names.lookup y.1 = some .cell ∨ (defScope s_law).names.lookup y.1 = some .free; decide +kernel), by decide +kernel, rfl, rfl, by decide +kernel⟩ sc_law.nd rfl (pi_list (pe_slice (slK_list (K := K)) (pv 0) (po_some pe_int) (po_some (pv 3)))) (fun _ _ _ _ _ => (pg_name (i := 0) (by show List.Nodup [("_law_cell_here" : Str), ("_law_box" : Str)]; decide +kernel) rfl (Or.inl rfl))) (fun _ _ _ _ _ => pf_nil) (fun _ _ _ _ _ => (pe_own G_l_spot hr (by decide) pass0e (pa_cons (pv 0) (pa_cons (pv 1) pa_nil))))) (pss_cons (ps_set (i := 5) sc_law.nd rfl (Or.inl rfl) (pe_callTy (callK_list_of (K := K)) rfl T.z_list bt_list (pa_cons (pv 4) pa_nil))) (pss_cons (ps_set (i := 6) sc_law.nd rfl (Or.inl rfl) (pe_own G_least_place hr (by decide) pass0e (pa_cons (pv 1) (pa_cons (pv 5) (pa_cons (pe_ix (ixK_tup (K := K)) (pv 2) pe_int (fun _ _ => rfl)) (pa_cons (pe_ix (ixK_tup (K := K)) (pv 2) pe_int (fun _ _ => rfl)) pa_nil)))))) (pss_cons (ps_if (pt_cmpR (opK_neT (K := K) (cl := c) (hu40 hr)) (pv 5) (pv 4) (nomark _)) (pss_one (ps_ret pe_bl)) pss_nil) (pss_cons (ps_if (pt_cmpR op_notN (pv 6) pe_non (nomark _)) (pss_cons (ps_if (PW.pt (pw_or (pt_not (pt_val (pe_callB (callK_isi (K := K)) rfl T.z_isinstance bt_isinstance (pa_cons (pv 6) (pa_cons (pe_bltn (v := .ty "tuple") rfl T.z_tuple bt_tuple rfl) pa_nil))))) (pw_or (pt_cmpR op_ne (pe_callB (callK_len_seq (K := K)) rfl T.z_len bt_len (pa_cons (pv 6) pa_nil)) pe_int (nomark _)) (pw_or (pt_not (pt_val (pe_own G_l_whole hr (by decide) pass0e (pa_cons (pe_ix (ixK_tup (K := K)) (pv 6) pe_int (fun _ _ => rfl)) pa_nil)))) (pw_or1 (pt_not (pt_val (pe_own G_l_whole hr (by decide) pass0e (pa_cons (pe_ix (ixK_tup (K := K)) (pv 6) pe_int (fun _ _ => rfl)) pa_nil))))))))) (pss_one (ps_ret pe_bl)) pss_nil) (pss_one (ps_if (pt_not (pt_val (pe_own G_l_free hr (by decide) pass0e (pa_cons (pv 1) (pa_cons (pv 4) (pa_cons (pv 6) (pa_cons (pv 2) pa_nil))))))) (pss_one (ps_ret pe_bl)) pss_nil))) pss_nil) (pss_cons (ps_set (i := 7) sc_law.nd rfl (Or.inl rfl) (pe_own G_l_ends_drawn hr (by decide) pass0e (pa_cons (pe_lst (pa_cons (pe_own G_l_cell hr (by decide) pass0e (pa_cons (pv 0) (pa_cons pe_int pa_nil))) (pa_cons (pe_own G_l_cell hr (by decide) pass0e (pa_cons (pv 0) (pa_cons pe_int pa_nil))) pa_nil))) (pa_cons (pv 4) (pa_cons (pv 1) (pa_cons (pv 2) (pa_cons pe_int (pa_cons (pv 6) pa_nil)))))))) (pss_cons (ps_set (i := 8) sc_law.nd rfl (Or.inl rfl) (pe_own G_l_ends_drawn hr (by decide) pass0e (pa_cons (pe_lst (pa_cons (pe_own G_l_cell hr (by decide) pass0e (pa_cons (pv 0) (pa_cons pe_int pa_nil))) (pa_cons (pe_own G_l_cell hr (by decide) pass0e (pa_cons (pv 0) (pa_cons pe_int pa_nil))) pa_nil))) (pa_cons (pv 4) (pa_cons (pv 1) (pa_cons (pv 2) (pa_cons pe_int (pa_cons (pv 6) pa_nil)))))))) (pss_cons (ps_for PassesOwn.leaving rfl (pi_list (pv 7)) (pg_name (i := 9) sc_law.nd rfl (Or.inl rfl)) (pss_one (ps_for PassesOwn.leaving rfl (pi_list (pv 8)) (pg_name (i := 10) sc_law.nd rfl (Or.inl rfl)) (pss_one (ps_if (pt_val (pe_own G_l_free hr (by decide) pass0e (pa_cons (pv 1) (pa_cons (pv 4) (pa_cons (pe_tup (pa_cons (pv 9) (pa_cons (pv 10) pa_nil))) (pa_cons (pv 2) pa_nil)))))) (pss_one (ps_if (PW.pt (pw_or (pt_cmpR op_isN (pv 6) pe_non (nomark _)) (pw_or1 (pt_cmpR (opK_ltT (K := K) (Nat.lt_of_le_of_lt (Nat.le_add_right _ _) (hu40 hr))) (pe_tup (pa_cons (pv 10) (pa_cons (pv 9) pa_nil))) (pe_tup (pa_cons (pe_ix (ixK_tup (K := K)) (pv 6) pe_int (fun _ _ => rfl)) (pa_cons (pe_ix (ixK_tup (K := K)) (pv 6) pe_int (fun _ _ => rfl)) pa_nil))) (nomark _))))) (pss_one (ps_ret pe_bl)) pss_nil)) pss_nil))))) (pss_one (ps_ret pe_bl))))))))))))), (rf_Seq (rf_Set (rf_T (rf_aC (rf_Call0 (rf_aC (rf_Call0 (rf_aC rf_v (rf_aC rf_c rf_aN))) rf_aN)) (rf_aC (rf_Call0 (rf_aC (rf_Call0 (rf_aC rf_v (rf_aC rf_c rf_aN))) rf_aN)) rf_aN)))) (rf_Seq (rf_Set (rf_T (rf_aC (rf_Call0 (rf_aC (rf_Call0 (rf_aC rf_v (rf_aC rf_c rf_aN))) (rf_aC (rf_op ok_ixT rf_v rf_c) rf_aN))) (rf_aC (rf_Call0 (rf_aC (rf_Call0 (rf_aC rf_v (rf_aC rf_c rf_aN))) (rf_aC (rf_op ok_ixT rf_v rf_c) rf_aN))) rf_aN)))) (rf_Seq (rf_Set (rf_op ok_add rf_c (rf_op ok_mul rf_c (rf_CB ok_int1.cb (rf_aC (rf_op ok_eq (rf_op ok_mod (rf_Call0 (rf_aC rf_v (rf_aC rf_c rf_aN))) rf_c) rf_c) rf_aN))))) (rf_Seq (rf_SetComp (rf_Comp (by decide) (rf_zN (rf_SlV (rf_oS rf_c) (rf_oS rf_v))) (rf_gName (k := 1) (by decide)) rf_bTrue (rf_Call0 (rf_aC rf_v (rf_aC rf_v rf_aN))))) (rf_Seq (rf_SetN (rf_nCV ok_list)) (rf_Seq (rf_SetC0 (rf_aC rf_v (rf_aC rf_v (rf_aC (rf_op ok_ixT rf_v rf_c) (rf_aC (rf_op ok_ixT rf_v rf_c) rf_aN))))) (rf_Seq (rf_If' (rf_bT (rf_opVV ok_eqT)) (rf_Ret rf_c) rf_Nx) (rf_Seq (rf_If' (rf_bT (rf_op ok_notN rf_v rf_c)) (rf_Seq (rf_If' (rf_bOr (rf_bNot (rf_bZ rf_IsiV)) (rf_bOr (rf_bT (rf_op ok_ne (rf_CV ok_len) rf_c)) (rf_bOr (rf_bNot (rf_bZ (rf_Call0 (rf_aC (rf_op ok_ixT rf_v rf_c) rf_aN)))) (rf_bNot (rf_bZ (rf_Call0 (rf_aC (rf_op ok_ixT rf_v rf_c) rf_aN))))))) (rf_Ret rf_c) rf_Nx) (rf_If' (rf_bNot (rf_bZ (rf_Call0 (rf_aC rf_v (rf_aC rf_v (rf_aC rf_v (rf_aC rf_v rf_aN))))))) (rf_Ret rf_c) rf_Nx)) rf_Nx) (rf_Seq (rf_SetC0 (rf_aC (rf_zN (rf_L (rf_aC (rf_Call0 (rf_aC rf_v (rf_aC rf_c rf_aN))) (rf_aC (rf_Call0 (rf_aC rf_v (rf_aC rf_c rf_aN))) rf_aN)))) (rf_aC rf_v (rf_aC rf_v (rf_aC rf_v (rf_aC rf_c (rf_aC rf_v rf_aN))))))) (rf_Seq (rf_SetC0 (rf_aC (rf_zN (rf_L (rf_aC (rf_Call0 (rf_aC rf_v (rf_aC rf_c rf_aN))) (rf_aC (rf_Call0 (rf_aC rf_v (rf_aC rf_c rf_aN))) rf_aN)))) (rf_aC rf_v (rf_aC rf_v (rf_aC rf_v (rf_aC rf_c (rf_aC rf_v rf_aN))))))) (rf_Seq (rf_ForV (rf_gName (k := 11) (by decide)) (rf_ForV (rf_gName (k := 11) (by decide)) (rf_If' (rf_bZ (rf_Call0 (rf_aC rf_v (rf_aC rf_v (rf_aC (rf_T (rf_aC rf_v (rf_aC rf_v rf_aN))) (rf_aC rf_v rf_aN)))))) (rf_If' (rf_bOr (rf_bT (rf_op ok_isN rf_v rf_c)) (rf_bT (rf_op ok_ltT (rf_T (rf_aC rf_v (rf_aC rf_v rf_aN))) (rf_T (rf_aC (rf_op ok_ixT rf_v rf_c) (rf_aC (rf_op ok_ixT rf_v rf_c) rf_aN)))))) (rf_Ret rf_c) rf_Nx) rf_Nx))) (rf_Ret rf_c))))))))))))⟩
end Law
namespace Law
open PySem L2 PyProof.Rows
variable {P : Program} {w : World} {K : PySem.W.Frag} {mg : Str → Option Value} {base : Heap} {c : Str → Addr}
local macro_rules | `(tactic| walk_at "ev") => `(tactic| simp (decide := true) only [fD_eq, sSeq_eq, seqR_nx, seqR_rt, seqR_ro, seqR_rz, seqR_ex, seqR_bk, seqR_ct, seqR_no, seqR_ite, sbn_ite, toZ_ret, toZ_own, toZ_ex, toZ0_ret, toZ0_own, toSet_ret, toSet_own, toSet_ex, toSet0_ret, toSet0_own, toRet_ret, toRet_own, toRet_owz, toRet_ex, toRet0_ret, toRet0_own, finR_nx, finR_rt, finR_ro, finR_rz, finR_ex, finR_ite, forK_nx, forK_ct, forK_bk, forK_rt, forK_ro, forK_rz, forK_ex, forD_nil, forD_step, optR_some, nxOf_nx, nxOf_ct, nxOf_rt, nxOf_ex, nxOf_ro, nxOf_rz, optB_some, compD_nil, compD_cons, compE, capS, nComp, nCompV, bLend_eq, bLd_ok, bLd_ex, zLend_eq, zLd_ok, zLd_ex, frzE, frzS_no, frzS_fz, frzS_ow, frzS_hd, noL, noLs, nSlV, oS, sForV, unhide, sTryAs_eq, tryR_nx, tryR_ex, tryR_rt, tryR_ro, susR_nx, susR_rt, susR_ro, eqDs, eqD, gEqT, eqB, eqBs, plainD, plainDs, depD, depDs, seqD?, Nat.max_self, Nat.zero_max, Nat.max_zero, decide_true, Bool.or_true, Bool.true_or, Bool.or_false, List.isEmpty_nil, gMax2, gMin2, gInt1, List.any_cons, List.any_nil, flatD, List.all_cons, List.all_nil, Bool.and_self, Bool.and_true, Bool.true_and, beq_self_eq_true, gAdd_eq, gSub_eq, gLt_eq, gLe_eq, gGt_eq, gGe_eq, gMul_r, gDiv_eq, gMod_eq, gPow_eq, sIf, sSet, sSetN, sSetC0, sRet, sRetN, sNx, sAsg, sApp, put_eq, okS_some, okS_none, notHd_no, notHd_fz, notHd_ow, notHd_hd, notHd_un, frzS_un, noHd_nil, noHd_cons, eC, eV, eB, eBV, eBVV, eT, eL, zN, aN, aC, eCall0, eNot, eAnd, eOr, eCB, eCV, nCV, nB, gCat, g1, gLen, gList, bZ, bNot, bAnd, bOr, bTrue, bName_eq, bTup, bEach, bnd_ok, bnd_ex, bnd_no, sbn_ok, sbn_ex, sbn_no, opt_some, opt_none, look, gIxT, gIxL, gEq_int, gIsN, eIsiV, gIsiV, tyN, seqL, atI_0, atI_1, atI_2, atI_3, List.map_cons, List.map_nil, List.length_cons, List.length_nil, List.cons_append, List.nil_append, List.replicate_succ, List.replicate_zero, List.getElem?_cons_zero, List.getElem?_cons_succ, List.set_cons_zero, List.set_cons_succ, Nat.reduceAdd, Nat.reduceSub, if_true, if_false, Bool.not_true, Bool.not_false, Bool.not_not, Nat.zero_add, Bool.false_eq_true, decide_eq_true_eq, Bool.not_eq_true', decide_eq_false_iff_not, Option.map_some, Option.map_none, ite_self])
local macro_rules | `(tactic| walk_at "eh") => `(tactic| simp (decide := true) only [fD_eq, sSeq_eq, seqR_nx, seqR_rt, seqR_ro, seqR_rz, seqR_ex, seqR_bk, seqR_ct, seqR_no, seqR_ite, sbn_ite, toZ_ret, toZ_own, toZ_ex, toZ0_ret, toZ0_own, toSet_ret, toSet_own, toSet_ex, toSet0_ret, toSet0_own, toRet_ret, toRet_own, toRet_owz, toRet_ex, toRet0_ret, toRet0_own, finR_nx, finR_rt, finR_ro, finR_rz, finR_ex, finR_ite, forK_nx, forK_ct, forK_bk, forK_rt, forK_ro, forK_rz, forK_ex, forD_nil, forD_step, optR_some, nxOf_nx, nxOf_ct, nxOf_rt, nxOf_ex, nxOf_ro, nxOf_rz, optB_some, compD_nil, compD_cons, compE, capS, nComp, nCompV, bLend_eq, bLd_ok, bLd_ex, zLend_eq, zLd_ok, zLd_ex, frzE, frzS_no, frzS_fz, frzS_ow, frzS_hd, noL, noLs, nSlV, oS, sForV, unhide, sTryAs_eq, tryR_nx, tryR_ex, tryR_rt, tryR_ro, susR_nx, susR_rt, susR_ro, eqDs, eqD, gEqT, eqB, eqBs, plainD, plainDs, depD, depDs, seqD?, Nat.max_self, Nat.zero_max, Nat.max_zero, decide_true, Bool.or_true, Bool.true_or, Bool.or_false, List.isEmpty_nil, gMax2, gMin2, gInt1, List.any_cons, List.any_nil, flatD, List.all_cons, List.all_nil, Bool.and_self, Bool.and_true, Bool.true_and, beq_self_eq_true, gAdd_eq, gSub_eq, gLt_eq, gLe_eq, gGt_eq, gGe_eq, gMul_r, gDiv_eq, gMod_eq, gPow_eq, sIf, sSet, sSetN, sSetC0, sRet, sRetN, sNx, sAsg, sApp, put_eq, okS_some, okS_none, notHd_no, notHd_fz, notHd_ow, notHd_hd, notHd_un, frzS_un, noHd_nil, noHd_cons, eC, eV, eB, eBV, eBVV, eT, eL, zN, aN, aC, eCall0, eNot, eAnd, eOr, eCB, eCV, nCV, nB, gCat, g1, gLen, gList, bZ, bNot, bAnd, bOr, bTrue, bName_eq, bTup, bEach, bnd_ok, bnd_ex, bnd_no, sbn_ok, sbn_ex, sbn_no, opt_some, opt_none, look, gIxT, gIxL, gEq_int, gIsN, eIsiV, gIsiV, tyN, seqL, atI_0, atI_1, atI_2, atI_3, List.map_cons, List.map_nil, List.length_cons, List.length_nil, List.cons_append, List.nil_append, List.replicate_succ, List.replicate_zero, List.getElem?_cons_zero, List.getElem?_cons_succ, List.set_cons_zero, List.set_cons_succ, Nat.reduceAdd, Nat.reduceSub, if_true, if_false, Bool.not_true, Bool.not_false, Bool.not_not, Nat.zero_add, Bool.false_eq_true, decide_eq_true_eq, Bool.not_eq_true', decide_eq_false_iff_not, Option.map_some, Option.map_none, ite_self, *])
theorem cell_ok {ns : List Int} {k : Int} (hk : 0 ≤ k) : d_l_cell [.scr ns, .int k] = some (.ret (.int (cellAt ns k))) := by
 rw [← cell_eq hk]
 unfold d_l_cell b_l_cell
 walk_at "ev"
 split
 ·cases atI ns k <;> rfl
 ·rfl
theorem big : ∃ B : Int, gPow (.int 10) (.int 40) = some (.int B) ∧ B = 10 ^ 40 := ⟨_, gPow_eq (by decide +kernel), rfl⟩
theorem long_ok (c : Int) : ∃ r : Int, 1 ≤ r ∧ d_l_long [.int c] = some (.ret (.int r)) := by
 obtain ⟨B, hB, eB⟩ := big
 have m1 : gMod (.int (c / 3)) (.int (B - 1)) = some (.int (c / 3 % (B - 1))) := gMod_eq (by omega)
 have p1 : 0 ≤ c / 3 % (B - 1) := Int.emod_nonneg _ (by omega)
 clear eB
 unfold d_l_long b_l_long
 by_cases z : c % 3 = 1
 ·refine ⟨1 + c / 3 % (B - 1), by omega, ?_⟩
  clear p1
  walk_at "eh"
 ·refine ⟨1 + c / 3 % 12, by omega, ?_⟩
  clear p1
  walk_at "eh"
theorem max2_ok (a b : Int) : ∃ m : Int, gMax2 [.int a, .int b] = some (.int m) := ⟨_, rfl⟩
theorem min2_ok (a b : Int) : ∃ m : Int, gMin2 [.int a, .int b] = some (.int m) := ⟨_, rfl⟩
theorem ends_w (GX GN : List D → Option D) (c s u l r : Int) (h1 : GX [.int 1, .int (s / 6)] = some (.int u)) (m1 : gMul (.int u) (.int (c % 6)) = some (.int (u * (c % 6)))) (h2 : GN [.int (s - 1), .int (u * (c % 6) + c / 36 % 2)] = some (.int l)) (m2 : gMul (.int u) (.int (1 + c / 6 % 3)) = some (.int (u * (1 + c / 6 % 3)))) (h3 : GN [.int s, .int (l + u * (1 + c / 6 % 3))] = some (.int r)) :
  fD 4 2 (sSeq (sSet 2 (eCB GX (aC (eC (.int 1)) (aC (eB gDiv (eV 1) (eC (.int 6))) aN)))) (sSeq (sSet 3 (eCB GN (aC (eB gSub' (eV 1) (eC (.int 1))) (aC (eB gAdd (eB gMul (eV 2) (eB gMod (eV 0) (eC (.int 6)))) (eB gMod (eB gDiv (eV 0) (eC (.int 36))) (eC (.int 2)))) aN)))) (sRet (eT (aC (eV 3) (aC (eCB GN (aC (eV 1) (aC (eB gAdd (eV 3) (eB gMul (eV 2) (eB gAdd (eC (.int 1)) (eB gMod (eB gDiv (eV 0) (eC (.int 6))) (eC (.int 3)))))) aN))) aN)))))) [.int c, .int s] = some (.ret (.tup [.int l, .int r])) := by
 walk_at "eh"
theorem ends_ok (c s : Int) : ∃ l r : Int, d_l_ends [.int c, .int s] = some (.ret (.tup [.int l, .int r])) := by
 obtain ⟨u, h1⟩ := max2_ok 1 (s / 6)
 obtain ⟨l, h2⟩ := min2_ok (s - 1) (u * (c % 6) + c / 36 % 2)
 obtain ⟨r, h3⟩ := min2_ok s (l + u * (1 + c / 6 % 3))
 exact ⟨l, r, ends_w gMax2 gMin2 c s u l r h1 (gMul_r (by omega)) h2 (gMul_r (by omega)) h3⟩
theorem spot_w (EN : List D → Option R1) (c W H m a b x y : Int) (h0 : gMul (.int c) (.int 48271) = some (.int m)) (h1 : EN [.int (m % 1000003), .int W] = some (.ret (.tup [.int a, .int b]))) (h2 : EN [.int (m % 1000003 / 72), .int H] = some (.ret (.tup [.int x, .int y]))) :
  fD 5 2 (sSeq (sSet 2 (eB gMod (eB gMul (eV 0) (eC (.int 48271))) (eC (.int 1000003)))) (sSeq (sSetC0 3 EN (aC (eV 2) (aC (eB gIxT (eV 1) (eC (.int 0))) aN))) (sSeq (sSetC0 4 EN (aC (eB gDiv (eV 2) (eC (.int 72))) (aC (eB gIxT (eV 1) (eC (.int 1))) aN))) (sRet (eT (aC (eB gIxT (eV 3) (eC (.int 0))) (aC (eB gIxT (eV 4) (eC (.int 0))) (aC (eB gIxT (eV 3) (eC (.int 1))) (aC (eB gIxT (eV 4) (eC (.int 1))) aN)))))))) ) [.int c, .tup [.int W, .int H]] = some (.ret (.tup [.int a, .int x, .int b, .int y])) := by
 walk_at "eh"
structure Sp4 where
 a : Int
 b : Int
 c : Int
 d : Int
def sD (q : Sp4) : D := .tup [.int q.a, .int q.b, .int q.c, .int q.d]
theorem spot_ok (c W H : Int) (hc : Builtin.Int.intBits c ≤ 2 ^ 20) : ∃ q, d_l_spot [.int c, .tup [.int W, .int H]] = some (.ret (sD q)) := by
 obtain ⟨m, h0⟩ : ∃ m, gMul (.int c) (.int 48271) = some (.int m) := ⟨_, gMul_r (by omega)⟩
 obtain ⟨a, b, h1⟩ := ends_ok (m % 1000003) W
 obtain ⟨x, y, h2⟩ := ends_ok (m % 1000003 / 72) H
 exact ⟨⟨a, x, b, y⟩, spot_w d_l_ends c W H m a b x y h0 h1 h2⟩
theorem new_w (GX GN : List D → Option D) (c s u l r : Int) (h1 : GX [.int 1, .int (s / 6)] = some (.int u)) (m0 : gMod (.int (c / 3)) (.int (s + 1)) = some (.int (c / 3 % (s + 1)))) (m1 : gMul (.int u) (.int (1 + c / 3 % 4)) = some (.int (u * (1 + c / 3 % 4)))) (h2 : GN [.int s, .int (u * (1 + c / 3 % 4) + c / 12 % 3 - 1)] = some (.int l)) (h3 : GX [.int 1, .int l] = some (.int r)) (o : Int) (ho : (c % 3 = 2 ∧ o = 1 + c / 3 % (s + 1)) ∨ (¬ c % 3 = 2 ∧ o = r)) :
  fD 3 2 (sSeq (sSet 2 (eCB GX (aC (eC (.int 1)) (aC (eB gDiv (eV 1) (eC (.int 6))) aN)))) (sSeq (sIf (bZ (eB (gEq false) (eB gMod (eV 0) (eC (.int 3))) (eC (.int 2)))) (sRet (eB gAdd (eC (.int 1)) (eB gMod (eB gDiv (eV 0) (eC (.int 3))) (eB gAdd (eV 1) (eC (.int 1)))))) sNx) (sRet (eCB GX (aC (eC (.int 1)) (aC (eCB GN (aC (eV 1) (aC (eB gSub' (eB gAdd (eB gMul (eV 2) (eB gAdd (eC (.int 1)) (eB gMod (eB gDiv (eV 0) (eC (.int 3))) (eC (.int 4))))) (eB gMod (eB gDiv (eV 0) (eC (.int 12))) (eC (.int 3)))) (eC (.int 1))) aN))) aN)))))) [.int c, .int s] = some (.ret (.int o)) := by
 rcases ho with ⟨z, rfl⟩ | ⟨z, rfl⟩ <;> walk_at "eh"
theorem new_ok (c s : Int) (hs : 1 ≤ s) : ∃ o : Int, d_l_new [.int c, .int s] = some (.ret (.int o)) := by
 obtain ⟨u, h1⟩ := max2_ok 1 (s / 6)
 obtain ⟨l, h2⟩ := min2_ok s (u * (1 + c / 3 % 4) + c / 12 % 3 - 1)
 obtain ⟨r, h3⟩ := max2_ok 1 l
 by_cases z : c % 3 = 2
 ·exact ⟨_, new_w gMax2 gMin2 c s u l r h1 (gMod_eq (by omega)) (gMul_r (by omega)) h2 h3 _ (.inl ⟨z, rfl⟩)⟩
 ·exact ⟨_, new_w gMax2 gMin2 c s u l r h1 (gMod_eq (by omega)) (gMul_r (by omega)) h2 h3 _ (.inr ⟨z, rfl⟩)⟩
def inB4 (W H w h x y : Int) : Bool := decide (0 ≤ x ∧ 0 ≤ y ∧ x + w ≤ W ∧ y + h ≤ H)
def apB4 (w h x y : Int) (q : Sp4) : Bool := decide (x + w ≤ q.a ∨ q.c ≤ x ∨ y + h ≤ q.b ∨ q.d ≤ y)
def freeB (W H w h : Int) (L : List Sp4) (x y : Int) : Bool := inB4 W H w h x y && L.all (apB4 w h x y)
def Fr4 (W H w h : Int) (L : List Sp4) (x y : Int) : Prop := (0 ≤ x ∧ 0 ≤ y ∧ x + w ≤ W ∧ y + h ≤ H) ∧ ∀ q ∈ L, x + w ≤ q.a ∨ q.c ≤ x ∨ y + h ≤ q.b ∨ q.d ≤ y
theorem free_iff {W H w h : Int} {L : List Sp4} {x y : Int} : freeB W H w h L x y = true ↔ Fr4 W H w h L x y := by
 unfold freeB inB4 apB4 Fr4
 rw [Bool.and_eq_true, List.all_eq_true, decide_eq_true_iff]
 constructor
 ·rintro ⟨a, b⟩
  exact ⟨a, fun q m => of_decide_eq_true (b q m)⟩
 ·rintro ⟨a, b⟩
  exact ⟨a, fun q m => decide_eq_true (b q m)⟩
theorem top_of (l : List Int) (m : Int) (hm : 0 ≤ m) : ∃ t, (t = 0 ∨ t ∈ l) ∧ t ≤ m ∧ 0 ≤ t ∧ ∀ x ∈ l, x ≤ m → x ≤ t := by
 induction l with
 | nil => exact ⟨0, .inl rfl, hm, Int.le_refl _, fun x h => absurd h List.not_mem_nil⟩
 | cons a l ih =>
  obtain ⟨t, h1, h2, h3, h4⟩ := ih
  by_cases z : a ≤ m ∧ t < a
  ·refine ⟨a, .inr List.mem_cons_self, z.1, by omega, fun x hx hxm => ?_⟩
   rcases List.mem_cons.mp hx with rfl | hx
   ·exact Int.le_refl _
   ·have := h4 x hx hxm; omega
  ·refine ⟨t, h1.imp id (List.mem_cons_of_mem _), h2, h3, fun x hx hxm => ?_⟩
   rcases List.mem_cons.mp hx with rfl | hx
   ·omega
   ·exact h4 x hx hxm
theorem corner {W H w h : Int} {L : List Sp4} {x y : Int} (f : Fr4 W H w h L x y) : ∃ x0 y0, (x0 = 0 ∨ x0 ∈ L.map Sp4.c) ∧ (y0 = 0 ∨ y0 ∈ L.map Sp4.d) ∧ x0 ≤ x ∧ y0 ≤ y ∧ Fr4 W H w h L x0 y0 := by
 obtain ⟨⟨f1, f2, f3, f4⟩, f5⟩ := f
 obtain ⟨y0, a1, a2, a3, a4⟩ := top_of ((L.filter fun q => decide (¬ (x + w ≤ q.a ∨ q.c ≤ x))).map Sp4.d) y f2
 have g : ∀ q ∈ L, x + w ≤ q.a ∨ q.c ≤ x ∨ y0 + h ≤ q.b ∨ q.d ≤ y0 := by
  intro q m
  by_cases z : x + w ≤ q.a ∨ q.c ≤ x
  ·rcases z with z | z
   ·exact .inl z
   ·exact .inr (.inl z)
  ·rcases f5 q m with z1 | z1 | z1 | z1
   ·exact absurd (.inl z1) z
   ·exact absurd (.inr z1) z
   ·exact .inr (.inr (.inl (by omega)))
   ·exact .inr (.inr (.inr (a4 q.d (List.mem_map.mpr ⟨q, List.mem_filter.mpr ⟨m, decide_eq_true z⟩, rfl⟩) z1)))
 obtain ⟨x0, b1, b2, b3, b4⟩ := top_of ((L.filter fun q => decide (¬ (y0 + h ≤ q.b ∨ q.d ≤ y0))).map Sp4.c) x f1
 refine ⟨x0, y0, b1.imp id fun z => ?_, a1.imp id fun z => ?_, b2, a2, ⟨b3, a3, by omega, by omega⟩, fun q m => ?_⟩
 ·obtain ⟨q, m, e⟩ := List.mem_map.mp z
  exact List.mem_map.mpr ⟨q, (List.mem_filter.mp m).1, e⟩
 ·obtain ⟨q, m, e⟩ := List.mem_map.mp z
  exact List.mem_map.mpr ⟨q, (List.mem_filter.mp m).1, e⟩
 ·by_cases z : y0 + h ≤ q.b ∨ q.d ≤ y0
  ·rcases z with z | z
   ·exact .inr (.inr (.inl z))
   ·exact .inr (.inr (.inr z))
  ·rcases g q m with z1 | z1 | z1 | z1
   ·exact .inl (by omega)
   ·exact .inr (.inl (b4 q.c (List.mem_map.mpr ⟨q, List.mem_filter.mpr ⟨m, decide_eq_true z⟩, rfl⟩) z1))
   ·exact absurd (.inl z1) z
   ·exact absurd (.inr z1) z
theorem apart_eq (w h x y : Int) (q : Sp4) : d_apart [.tup [.int x, .int y, .int (x + w), .int (y + h)], sD q] = some (.ret (.bl (apB4 w h x y q))) := by
 obtain ⟨a, b, c, d⟩ := q
 unfold d_apart b_apart apB4 sD
 walk_at "ev"
 by_cases h1 : x + w ≤ a <;> by_cases h2 : c ≤ x <;> by_cases h3 : y + h ≤ b <;> by_cases h4 : d ≤ y <;> simp [h1, h2, h3, h4, seqR_nx, finR_rt]
theorem lies_eq (W H w h x y : Int) : d_lies_in [.tup [.int W, .int H], .tup [.int x, .int y, .int (x + w), .int (y + h)]] = some (.ret (.bl (inB4 W H w h x y))) := by
 unfold d_lies_in b_lies_in inB4
 walk_at "ev"
 by_cases h1 : 0 ≤ x <;> by_cases h2 : 0 ≤ y <;> by_cases h3 : x + w ≤ W <;> by_cases h4 : y + h ≤ H <;> simp [h1, h2, h3, h4, seqR_nx, finR_rt]
abbrev frB : SF := (sIf (bAnd (bZ (eB gLt (eB gIxT (eV 2) (eC (.int 0))) (eB gIxT (eV 6) (eC (.int 2))))) (bAnd (bZ (eB gLt (eB gIxT (eV 6) (eC (.int 0))) (eV 4))) (bAnd (bZ (eB gLt (eB gIxT (eV 2) (eC (.int 1))) (eB gIxT (eV 6) (eC (.int 3))))) (bZ (eB gLt (eB gIxT (eV 6) (eC (.int 1))) (eV 5)))))) (sRet (eC (.bl false))) sNx)
theorem fr_b (B A : D) (x y w h a b c d : Int) : frB [.fz B, .fz A, .fz (.tup [.int x, .int y]), .fz (.tup [.int w, .int h]), .fz (.int (x + w)), .fz (.int (y + h)), .fz (.tup [.int a, .int b, .int c, .int d])] = if x + w ≤ a ∨ c ≤ x ∨ y + h ≤ b ∨ d ≤ y then some (.nx [.fz B, .fz A, .fz (.tup [.int x, .int y]), .fz (.tup [.int w, .int h]), .fz (.int (x + w)), .fz (.int (y + h)), .fz (.tup [.int a, .int b, .int c, .int d])]) else some (.rt (.bl false)) := by
 unfold frB
 by_cases h1 : x < c
 ·by_cases h2 : a < x + w
  ·by_cases h3 : y < d
   ·by_cases h4 : b < y + h
    ·rw [if_neg (by omega)]; walk_at "eh"
    ·rw [if_pos (by omega)]; walk_at "eh"
   ·rw [if_pos (by omega)]; walk_at "eh"
  ·rw [if_pos (by omega)]; walk_at "eh"
 ·rw [if_pos (by omega)]; walk_at "eh"
theorem free_w (LP : SF) (W H x y w h : Int) (A : D) (r : Bool) (o6 : Option D) (hr : (¬ (0 ≤ x ∧ 0 ≤ y ∧ x + w ≤ W ∧ y + h ≤ H) ∧ r = false) ∨ ((0 ≤ x ∧ 0 ≤ y ∧ x + w ≤ W ∧ y + h ≤ H) ∧ ((LP [.fz (.tup [.int W, .int H]), .fz A, .fz (.tup [.int x, .int y]), .fz (.tup [.int w, .int h]), .fz (.int (x + w)), .fz (.int (y + h)), .no] = some (.rt (.bl false)) ∧ r = false) ∨ (LP [.fz (.tup [.int W, .int H]), .fz A, .fz (.tup [.int x, .int y]), .fz (.tup [.int w, .int h]), .fz (.int (x + w)), .fz (.int (y + h)), .no] = some (.nx [.fz (.tup [.int W, .int H]), .fz A, .fz (.tup [.int x, .int y]), .fz (.tup [.int w, .int h]), .fz (.int (x + w)), .fz (.int (y + h)), un o6]) ∧ r = true)))) :
  fD 7 4 (sSeq (sSet 4 (eB gAdd (eB gIxT (eV 2) (eC (.int 0))) (eB gIxT (eV 3) (eC (.int 0))))) (sSeq (sSet 5 (eB gAdd (eB gIxT (eV 2) (eC (.int 1))) (eB gIxT (eV 3) (eC (.int 1))))) (sSeq (sIf (bOr (bZ (eB gLt (eB gIxT (eV 2) (eC (.int 0))) (eC (.int 0)))) (bOr (bZ (eB gLt (eB gIxT (eV 2) (eC (.int 1))) (eC (.int 0)))) (bOr (bZ (eB gGt (eV 4) (eB gIxT (eV 0) (eC (.int 0))))) (bZ (eB gGt (eV 5) (eB gIxT (eV 0) (eC (.int 1)))))))) (sRet (eC (.bl false))) sNx) (sSeq LP (sRet (eC (.bl true))))))) [.tup [.int W, .int H], A, .tup [.int x, .int y], .tup [.int w, .int h]] = some (.ret (.bl r)) := by
 rcases hr with ⟨z, rfl⟩ | ⟨⟨z1, z2, z3, z4⟩, ⟨hl, rfl⟩ | ⟨hl, rfl⟩⟩
 ·by_cases c1 : x < 0
  ·walk_at "eh"
  ·by_cases c2 : y < 0
   ·walk_at "eh"
   ·by_cases c3 : W < x + w
    ·walk_at "eh"
    ·have c4 : H < y + h := by omega
     clear z
     walk_at "eh"
 ·have c1 : ¬ x < 0 := by omega
  have c2 : ¬ y < 0 := by omega
  have c3 : ¬ W < x + w := by omega
  have c4 : ¬ H < y + h := by omega
  clear z1 z2 z3 z4
  walk_at "eh"
 ·have c1 : ¬ x < 0 := by omega
  have c2 : ¬ y < 0 := by omega
  have c3 : ¬ W < x + w := by omega
  have c4 : ¬ H < y + h := by omega
  clear z1 z2 z3 z4
  walk_at "eh"
theorem free_ok (W H w h x y : Int) (L : List Sp4) : d_l_free [.tup [.int W, .int H], .lst (L.map sD), .tup [.int x, .int y], .tup [.int w, .int h]] = some (.ret (.bl (freeB W H w h L x y))) := by
 by_cases hin : 0 ≤ x ∧ 0 ≤ y ∧ x + w ≤ W ∧ y + h ≤ H
 ·have lp := for_stop (b := bName 6) (body := frB) (r := .rt (.bl false)) rfl sD (fun pre e => ∃ o6, e = [.fz (.tup [.int W, .int H]), .fz (.lst (L.map sD)), .fz (.tup [.int x, .int y]), .fz (.tup [.int w, .int h]), .fz (.int (x + w)), .fz (.int (y + h)), un o6]) (fun q => !apB4 w h x y q) L [.fz (.tup [.int W, .int H]), .fz (.lst (L.map sD)), .fz (.tup [.int x, .int y]), .fz (.tup [.int w, .int h]), .fz (.int (x + w)), .fz (.int (y + h)), .no] ⟨none, rfl⟩ (by
   rintro pre q post e hq ⟨o6, rfl⟩
   have hb : bName 6 (sD q) [.fz (.tup [.int W, .int H]), .fz (.lst (L.map sD)), .fz (.tup [.int x, .int y]), .fz (.tup [.int w, .int h]), .fz (.int (x + w)), .fz (.int (y + h)), un o6] = some [.fz (.tup [.int W, .int H]), .fz (.lst (L.map sD)), .fz (.tup [.int x, .int y]), .fz (.tup [.int w, .int h]), .fz (.int (x + w)), .fz (.int (y + h)), .fz (sD q)] := by cases o6 <;> rfl
   have hf := fr_b (.tup [.int W, .int H]) (.lst (L.map sD)) x y w h q.a q.b q.c q.d
   rw [hb, optR_some]
   by_cases z : x + w ≤ q.a ∨ q.c ≤ x ∨ y + h ≤ q.b ∨ q.d ≤ y
   ·rw [if_neg (by unfold apB4; rw [decide_eq_true z]; decide)]
    rw [if_pos z] at hf
    exact ⟨_, (congrArg nxOf hf).trans rfl, some (sD q), rfl⟩
   ·rw [if_pos (by unfold apB4; rw [decide_eq_false z]; rfl)]
    rw [if_neg z] at hf
    exact (congrArg nxOf hf).trans rfl)
  have e0 : freeB W H w h L x y = !(L.any fun q => !apB4 w h x y q) := by
   unfold freeB inB4
   rw [decide_eq_true hin, Bool.true_and, List.not_any_eq_all_not]
   simp
  by_cases ha : (L.any fun q => !apB4 w h x y q) = true
  ·rw [if_pos ha] at lp
   rw [e0, ha]
   exact free_w _ W H x y w h _ false none (.inr ⟨hin, .inl ⟨lp, rfl⟩⟩)
  ·rw [if_neg ha] at lp
   obtain ⟨e', lp, o6, rfl⟩ := lp
   rw [e0, Bool.eq_false_iff.mpr ha]
   exact free_w _ W H x y w h _ true o6 (.inr ⟨hin, .inr ⟨lp, rfl⟩⟩)
 ·have e0 : freeB W H w h L x y = false := by
   unfold freeB inB4
   rw [decide_eq_false hin]
   rfl
  rw [e0]
  exact free_w _ W H x y w h _ false none (.inl ⟨hin, rfl⟩)
abbrev lpI (LI : List D → Option R1) (CO : NF) (GA : D → Option D) : SF := (sSeq (sSet 8 (eT (aC (eV 7) (aC (eV 6) (aC (eB gAdd (eV 7) (eV 2)) (aC (eB gAdd (eV 6) (eV 3)) aN)))))) (sIf (bAnd (bZ (eCall0 LI (aC (eV 0) (aC (eV 8) aN)))) (bZ (eCB (g1 GA) (aC (zN CO) aN)))) (sRet (eT (aC (eV 7) (aC (eV 6) aN)))) sNx))
abbrev lpE (B A : D) (w h : Int) (Y X : List D) (y : Int) (s7 s8 : Sl) : DE := [.fz B, .fz A, .fz (.int w), .fz (.int h), .hd Y, .hd X, .fz (.int y), s7, s8]
theorem in_s (LI : List D → Option R1) (CO : NF) (GA : D → Option D) (w h x y : Int) (B A : D) (Y X Bs : List D) (o8 : Option D) (b1 b2 : Bool) (h1 : LI [B, .tup [.int x, .int y, .int (x + w), .int (y + h)]] = some (.ret (.bl b1)))
  (h2 : CO (lpE B A w h Y X y (.fz (.int x)) (.fz (.tup [.int x, .int y, .int (x + w), .int (y + h)]))) = some (.ok Bs (lpE B A w h Y X y (.fz (.int x)) (.fz (.tup [.int x, .int y, .int (x + w), .int (y + h)]))))) (h3 : GA (.lst Bs) = some (.bl b2)) :
  lpI LI CO GA (lpE B A w h Y X y (.fz (.int x)) (un o8)) = if (b1 && b2) = true then some (.rt (.tup [.int x, .int y])) else some (.nx (lpE B A w h Y X y (.fz (.int x)) (.fz (.tup [.int x, .int y, .int (x + w), .int (y + h)])))) := by
 unfold lpI
 unfold lpE at *
 cases b1 <;> cases b2 <;> cases o8 <;> simp only [un, Bool.and_true, Bool.and_false, Bool.false_and, Bool.true_and, Bool.false_eq_true, if_true, if_false] <;> walk_at "eh"
abbrev coA : NF := (nCompV 1 1 [8] (bName 0) bTrue (eCall0 d_apart (aC (eV 1) (aC (eV 0) aN))))
theorem co_ok (w h x y : Int) (L : List Sp4) (hl : L.length ≤ 1000) (B : D) (Y X : List D) : coA (lpE B (.lst (L.map sD)) w h Y X y (.fz (.int x)) (.fz (.tup [.int x, .int y, .int (x + w), .int (y + h)]))) = some (.ok (L.map fun q => .bl (apB4 w h x y q)) (lpE B (.lst (L.map sD)) w h Y X y (.fz (.int x)) (.fz (.tup [.int x, .int y, .int (x + w), .int (y + h)])))) := by
 show compD (bName 0) bTrue (eCall0 d_apart (aC (eV 1) (aC (eV 0) aN))) [.no, .fz (.tup [.int x, .int y, .int (x + w), .int (y + h)])] (lpE B (.lst (L.map sD)) w h Y X y (.fz (.int x)) (.fz (.tup [.int x, .int y, .int (x + w), .int (y + h)]))) (L.map sD) [] = _
 rw [comp_map sD (fun q => D.bl (apB4 w h x y q)) (fun _ => true) L [] (by show 0 + _ ≤ 2 ^ 24; omega) (fun q _ => ⟨[.fz (sD q), .fz (.tup [.int x, .int y, .int (x + w), .int (y + h)])], [.fz (sD q), .fz (.tup [.int x, .int y, .int (x + w), .int (y + h)])], rfl, rfl, fun _ => ⟨[.fz (sD q), .fz (.tup [.int x, .int y, .int (x + w), .int (y + h)])], by show toZ0 (d_apart [.tup [.int x, .int y, .int (x + w), .int (y + h)], sD q]) _ = _; rw [apart_eq]; rfl⟩⟩)]
 rw [List.filter_eq_self.mpr (fun _ _ => rfl)]
 rfl
theorem all_ok (L : List Sp4) (f : Sp4 → Bool) : gAll (.lst (L.map fun q => .bl (f q))) = some (.bl (L.all f)) := by
 have : ∀ L : List Sp4, bools (L.map fun q => .bl (f q)) = some (L.map f) := by
  intro L
  induction L with
  | nil => rfl
  | cons q L ih =>
   show (bools (L.map fun q => .bl (f q))).map (f q :: ·) = _
   rw [ih]
   rfl
 show (bools _).map _ = _
 rw [this]
 show some (D.bl ((L.map f).all id)) = _
 rw [List.all_map]
 rfl
abbrev lpB : SF := lpI d_lies_in coA gAll
theorem in_ok (W H w h y : Int) (L : List Sp4) (hl : L.length ≤ 1000) (Y : List D) (X : List Int) (o7 o8 : Option D) :
  (∃ pre x post, X = pre ++ x :: post ∧ (∀ x' ∈ pre, freeB W H w h L x' y = false) ∧ freeB W H w h L x y = true ∧ forD (bName 7) lpB (X.map D.int) (lpE (.tup [.int W, .int H]) (.lst (L.map sD)) w h Y (X.map D.int) y (un o7) (un o8)) = some (.rt (.tup [.int x, .int y])))
  ∨ ((∀ x ∈ X, freeB W H w h L x y = false) ∧ ∃ p7 p8, forD (bName 7) lpB (X.map D.int) (lpE (.tup [.int W, .int H]) (.lst (L.map sD)) w h Y (X.map D.int) y (un o7) (un o8)) = some (.nx (lpE (.tup [.int W, .int H]) (.lst (L.map sD)) w h Y (X.map D.int) y (un p7) (un p8)))) := by
 have e0 : X.map D.int = mapI (fun _ => D.int) 0 X := mapI_map D.int 0 X
 rcases for_or (b := bName 7) (body := lpB) (fun _ => D.int) (fun pre e => (∀ x' ∈ pre, freeB W H w h L x' y = false) ∧ ∃ p7 p8, e = lpE (.tup [.int W, .int H]) (.lst (L.map sD)) w h Y (X.map D.int) y (un p7) (un p8)) (fun pre x r => freeB W H w h L x y = true ∧ r = .rt (.tup [.int x, .int y])) X (lpE (.tup [.int W, .int H]) (.lst (L.map sD)) w h Y (X.map D.int) y (un o7) (un o8)) ⟨fun x' m => absurd m List.not_mem_nil, o7, o8, rfl⟩ (by
  rintro pre x post e hq ⟨hp, p7, p8, rfl⟩
  have hb : bName 7 (.int x) (lpE (.tup [.int W, .int H]) (.lst (L.map sD)) w h Y (X.map D.int) y (un p7) (un p8)) = some (lpE (.tup [.int W, .int H]) (.lst (L.map sD)) w h Y (X.map D.int) y (.fz (.int x)) (un p8)) := by cases p7 <;> rfl
  have st := in_s d_lies_in coA gAll w h x y (.tup [.int W, .int H]) (.lst (L.map sD)) Y (X.map D.int) _ p8 _ _ (lies_eq W H w h x y) (co_ok w h x y L hl _ Y _) (all_ok L _)
  rw [hb, optR_some]
  by_cases z : freeB W H w h L x y = true
  ·rw [if_pos (show (inB4 W H w h x y && L.all (apB4 w h x y)) = true from z)] at st
   exact .inl ⟨_, rfl, (congrArg nxOf st).trans rfl, z, rfl⟩
  ·rw [if_neg (show ¬ (inB4 W H w h x y && L.all (apB4 w h x y)) = true from z)] at st
   refine .inr ⟨_, (congrArg nxOf st).trans rfl, fun x' m => ?_, some (.int x), some (.tup [.int x, .int y, .int (x + w), .int (y + h)]), rfl⟩
   rcases List.mem_append.mp m with m | m
   ·exact hp x' m
   ·rw [List.mem_singleton.mp m]; exact Bool.eq_false_iff.mpr z) with ⟨pre, x, post, r, hq, _, hf, ⟨hx, rfl⟩, e', hp, _⟩ | ⟨e', hf, hp, p7, p8, rfl⟩
 ·exact .inl ⟨pre, x, post, hq, hp, hx, by rw [← e0] at hf; exact hf⟩
 ·exact .inr ⟨hp, p7, p8, by rw [← e0] at hf; exact hf⟩
abbrev ouE (B A : D) (w h : Int) (s4 : Sl) (X : List D) (s6 s7 s8 : Sl) : DE := [.fz B, .fz A, .fz (.int w), .fz (.int h), s4, .ow X, s6, s7, s8]
theorem ou_ok (W H w h : Int) (L : List Sp4) (hl : L.length ≤ 1000) (Y X : List Int) :
  (∃ pre y post px x qx, Y = pre ++ y :: post ∧ X = px ++ x :: qx ∧ (∀ y' ∈ pre, ∀ x' ∈ X, freeB W H w h L x' y' = false) ∧ (∀ x' ∈ px, freeB W H w h L x' y = false) ∧ freeB W H w h L x y = true ∧ sForV 4 (bName 6) (sForV 5 (bName 7) lpB) (ouE (.tup [.int W, .int H]) (.lst (L.map sD)) w h (.ow (Y.map D.int)) (X.map D.int) .no .no .no) = some (.rt (.tup [.int x, .int y])))
  ∨ ((∀ y ∈ Y, ∀ x ∈ X, freeB W H w h L x y = false) ∧ ∃ p6 p7 p8, sForV 4 (bName 6) (sForV 5 (bName 7) lpB) (ouE (.tup [.int W, .int H]) (.lst (L.map sD)) w h (.ow (Y.map D.int)) (X.map D.int) .no .no .no) = some (.nx (ouE (.tup [.int W, .int H]) (.lst (L.map sD)) w h (.ow (Y.map D.int)) (X.map D.int) (un p6) (un p7) (un p8)))) := by
 have e0 : Y.map D.int = mapI (fun _ => D.int) 0 Y := mapI_map D.int 0 Y
 have es : sForV 4 (bName 6) (sForV 5 (bName 7) lpB) (ouE (.tup [.int W, .int H]) (.lst (L.map sD)) w h (.ow (Y.map D.int)) (X.map D.int) .no .no .no) = unhide 4 (Y.map D.int) (forD (bName 6) (sForV 5 (bName 7) lpB) (Y.map D.int) (ouE (.tup [.int W, .int H]) (.lst (L.map sD)) w h (.hd (Y.map D.int)) (X.map D.int) .no .no .no)) := rfl
 rw [es]
 rcases for_or (b := bName 6) (body := sForV 5 (bName 7) lpB) (fun _ => D.int) (fun pre e => (∀ y' ∈ pre, ∀ x' ∈ X, freeB W H w h L x' y' = false) ∧ ∃ p6 p7 p8, e = ouE (.tup [.int W, .int H]) (.lst (L.map sD)) w h (.hd (Y.map D.int)) (X.map D.int) (un p6) (un p7) (un p8)) (fun pre y r => ∃ px x qx, X = px ++ x :: qx ∧ (∀ x' ∈ px, freeB W H w h L x' y = false) ∧ freeB W H w h L x y = true ∧ r = .rt (.tup [.int x, .int y])) Y (ouE (.tup [.int W, .int H]) (.lst (L.map sD)) w h (.hd (Y.map D.int)) (X.map D.int) .no .no .no) ⟨fun y' m => absurd m List.not_mem_nil, none, none, none, rfl⟩ (by
  rintro pre y post e hq ⟨hp, p6, p7, p8, rfl⟩
  have hb : bName 6 (.int y) (ouE (.tup [.int W, .int H]) (.lst (L.map sD)) w h (.hd (Y.map D.int)) (X.map D.int) (un p6) (un p7) (un p8)) = some (ouE (.tup [.int W, .int H]) (.lst (L.map sD)) w h (.hd (Y.map D.int)) (X.map D.int) (.fz (.int y)) (un p7) (un p8)) := by cases p6 <;> rfl
  rw [hb, optR_some]
  have e1 : sForV 5 (bName 7) lpB (ouE (.tup [.int W, .int H]) (.lst (L.map sD)) w h (.hd (Y.map D.int)) (X.map D.int) (.fz (.int y)) (un p7) (un p8)) = unhide 5 (X.map D.int) (forD (bName 7) lpB (X.map D.int) (lpE (.tup [.int W, .int H]) (.lst (L.map sD)) w h (Y.map D.int) (X.map D.int) y (un p7) (un p8))) := rfl
  rw [e1]
  rcases in_ok W H w h y L hl (Y.map D.int) X p7 p8 with ⟨px, x, qx, hX, hpx, hx, hf⟩ | ⟨hn, q7, q8, hf⟩
  ·rw [hf]
   exact .inl ⟨_, rfl, rfl, px, x, qx, hX, hpx, hx, rfl⟩
  ·rw [hf]
   refine .inr ⟨_, rfl, fun y' m => ?_, some (.int y), q7, q8, rfl⟩
   rcases List.mem_append.mp m with m | m
   ·exact hp y' m
   ·rw [List.mem_singleton.mp m]; exact hn) with ⟨pre, y, post, r, hq, _, hf, ⟨px, x, qx, hX, hpx, hx, rfl⟩, e', hp, _⟩ | ⟨e', hf, hp, p6, p7, p8, rfl⟩
 ·rw [← e0] at hf
  exact .inl ⟨pre, y, post, px, x, qx, hq, hX, hp, hpx, hx, by rw [hf]; rfl⟩
 ·rw [← e0] at hf
  exact .inr ⟨hp, p6, p7, p8, by rw [hf]; rfl⟩
abbrev coV (k : Int) : NF := (nCompV 1 1 [] (bName 0) bTrue (eB gIxT (eV 0) (eC (.int k))))
theorem cov_ok (f : Sp4 → Int) (k : Int) (hk : ∀ q, atI [D.int q.a, D.int q.b, D.int q.c, D.int q.d] k = some (.int (f q))) (L : List Sp4) (hl : L.length ≤ 1000) (B w h : D) (s4 : Sl) : coV k [.fz B, .fz (.lst (L.map sD)), .fz w, .fz h, s4, .no, .no, .no, .no] = some (.ok ((L.map f).map D.int) [.fz B, .fz (.lst (L.map sD)), .fz w, .fz h, s4, .no, .no, .no, .no]) := by
 show compD (bName 0) bTrue (eB gIxT (eV 0) (eC (.int k))) [.no] [.fz B, .fz (.lst (L.map sD)), .fz w, .fz h, s4, .no, .no, .no, .no] (L.map sD) [] = _
 rw [comp_map sD (fun q => D.int (f q)) (fun _ => true) L [] (by show 0 + _ ≤ 2 ^ 24; omega) (fun q _ => ⟨[.fz (sD q)], [.fz (sD q)], rfl, rfl, fun _ => ⟨[.fz (sD q)], by
  show opt (atI [D.int q.a, D.int q.b, D.int q.c, D.int q.d] k) _ = _
  rw [hk q]
  rfl⟩⟩)]
 rw [List.filter_eq_self.mpr (fun _ _ => rfl), List.map_map]
 rfl
abbrev nsV (CO : NF) : NF := nSortS (aC (zN (nB gCat (zN (eL (aC (eC (.int 0)) aN))) (zN CO))) aN)
theorem ns_a (GC : D → D → Option (List D)) (CO : NF) (e : DE) (A B : List D) (h : CO e = some (.ok A e)) (hg : GC (.lst [.int 0]) (.lst A) = some B) : (aC (zN (nB GC (zN (eL (aC (eC (.int 0)) aN))) (zN CO))) aN) e = some (.ok [.lst B] e) := by
 walk_at "eh"
theorem cat_ok (ks : List Int) (hl : ks.length < 1000) : gCat (.lst [.int 0]) (.lst (ks.map D.int)) = some ((0 :: ks).map D.int) := by
 show (if _ then _ else _) = _
 rw [if_pos (by rw [List.length_map]; show 1 + _ ≤ 2 ^ 24; omega)]
 rfl
theorem ns_v (f : AF) (e e1 : DE) (ks : List Int) (h : f e = some (.ok [.lst (ks.map D.int)] e1)) (hl : ks.length < 64) : nSortS f e = some (.ok ((sortU ks).map D.int) e1) := by
 unfold nSortS
 rw [h, bnd_ok]
 show (match intsD (ks.map D.int) with
  | some ns => if ns.length < 64 then some (L2.R.ok ((sortU ns).map D.int) e1) else none
  | none => none) = _
 rw [L2.ints_map]
 show (if ks.length < 64 then _ else _) = _
 rw [if_pos hl]
theorem ns_w (CO : NF) (e : DE) (ks : List Int) (h : CO e = some (.ok (ks.map D.int) e)) (hl : ks.length < 63) : nsV CO e = some (.ok ((sortU (0 :: ks)).map D.int) e) :=
 ns_v _ e e (0 :: ks) (ns_a gCat CO e _ _ h (cat_ok ks (by omega))) (by simp; omega)
theorem least_w (NY NX : NF) (LP : SF) (B A : D) (w h : D) (Y X : List D) (r : D) (o6 o7 o8 : Option D) (h1 : NY [.fz B, .fz A, .fz w, .fz h, .no, .no, .no, .no, .no] = some (.ok Y [.fz B, .fz A, .fz w, .fz h, .no, .no, .no, .no, .no])) (h2 : NX [.fz B, .fz A, .fz w, .fz h, .ow Y, .no, .no, .no, .no] = some (.ok X [.fz B, .fz A, .fz w, .fz h, .ow Y, .no, .no, .no, .no]))
  (h3 : LP [.fz B, .fz A, .fz w, .fz h, .ow Y, .ow X, .no, .no, .no] = some (.rt r) ∨ (LP [.fz B, .fz A, .fz w, .fz h, .ow Y, .ow X, .no, .no, .no] = some (.nx [.fz B, .fz A, .fz w, .fz h, .ow Y, .ow X, un o6, un o7, un o8]) ∧ r = .non)) :
  fD 9 4 (sSeq (sSetN 4 NY) (sSeq (sSetN 5 NX) (sSeq LP (sRet (eC .non))))) [B, A, w, h] = some (.ret r) := by
 rcases h3 with h3 | ⟨h3, rfl⟩ <;> walk_at "eh"
def oP : Option (Int × Int) → D
 | none => .non
 | some (x, y) => .tup [.int x, .int y]
def Least (W H w h : Int) (L : List Sp4) : Option (Int × Int) → Prop
 | none => ∀ x y, ¬ Fr4 W H w h L x y
 | some (x, y) => Fr4 W H w h L x y ∧ ∀ x' y', Fr4 W H w h L x' y' → y < y' ∨ (y = y' ∧ x ≤ x')
theorem pw_pre {l pre post : List Int} {x : Int} (hp : l.Pairwise (· < ·)) (e : l = pre ++ x :: post) : ∀ z ∈ l, z ∈ pre ∨ x ≤ z := by
 subst e
 intro z m
 rcases List.mem_append.mp m with m | m
 ·exact .inl m
 ·rcases List.mem_cons.mp m with rfl | m
  ·exact .inr (Int.le_refl _)
  ·have := (List.pairwise_cons.mp (List.pairwise_append.mp hp).2.1).1 z m
   exact .inr (by omega)
theorem least_ok (W H w h : Int) (L : List Sp4) (hl : L.length ≤ 60) : ∃ o, d_least_place [.tup [.int W, .int H], .lst (L.map sD), .int w, .int h] = some (.ret (oP o)) ∧ Least W H w h L o := by
 have hy := ns_w (coV 3) _ (L.map Sp4.d) (cov_ok Sp4.d 3 (fun q => atI_3) L (by omega) (.tup [.int W, .int H]) (.int w) (.int h) .no) (by rw [List.length_map]; omega)
 have hx := ns_w (coV 2) _ (L.map Sp4.c) (cov_ok Sp4.c 2 (fun q => atI_2) L (by omega) (.tup [.int W, .int H]) (.int w) (.int h) (.ow ((sortU (0 :: L.map Sp4.d)).map D.int))) (by rw [List.length_map]; omega)
 have inx : ∀ x, (x = 0 ∨ x ∈ L.map Sp4.c) → x ∈ sortU (0 :: L.map Sp4.c) := fun x m => sortU_mem.mpr (List.mem_cons.mpr m)
 have iny : ∀ x, (x = 0 ∨ x ∈ L.map Sp4.d) → x ∈ sortU (0 :: L.map Sp4.d) := fun x m => sortU_mem.mpr (List.mem_cons.mpr m)
 rcases ou_ok W H w h L (by omega) (sortU (0 :: L.map Sp4.d)) (sortU (0 :: L.map Sp4.c)) with ⟨pre, y, post, px, x, qx, eY, eX, h1, h2, h3, lp⟩ | ⟨hn, p6, p7, p8, lp⟩
 ·refine ⟨some (x, y), least_w _ _ _ _ _ _ _ _ _ _ none none none hy hx (.inl lp), free_iff.mp h3, fun x' y' f => ?_⟩
  obtain ⟨x0, y0, cx, cy, lx, ly, f0⟩ := corner f
  have f0 := free_iff.mpr f0
  rcases pw_pre (sortU_pw _) eY y0 (iny y0 cy) with m | m
  ·rw [h1 y0 m x0 (inx x0 cx)] at f0; cases f0
  ·by_cases z : y = y0
   ·subst z
    rcases pw_pre (sortU_pw _) eX x0 (inx x0 cx) with m2 | m2
    ·rw [h2 x0 m2] at f0; cases f0
    ·omega
   ·omega
 ·refine ⟨none, least_w _ _ _ _ _ _ _ _ _ _ p6 p7 p8 hy hx (.inr ⟨lp, rfl⟩), fun x' y' f => ?_⟩
  obtain ⟨x0, y0, cx, cy, lx, ly, f0⟩ := corner f
  have f0 := free_iff.mpr f0
  rw [hn y0 (iny y0 cy) x0 (inx x0 cx)] at f0
  cases f0
theorem ed_w (GX : D → D → Option D) (NC NS : NF) (c d k u v z : Int) (A A0 A1 A2 R : List D) (B S T q : D)
  (h0 : NC [.fz (.lst [.int c, .int d]), .fz (.lst A), .fz B, .fz S, .fz (.int k), .fz T, .no] = some (.ok A0 [.fz (.lst [.int c, .int d]), .fz (.lst A), .fz B, .fz S, .fz (.int k), .fz T, .no]))
  (h1 : (¬ (0 : Int) < (A.length : Int) ∧ A1 = A0) ∨ ((0 : Int) < (A.length : Int) ∧ gMod (.int d) (.int (A.length : Int)) = some (.int (d % (A.length : Int))) ∧ atI A (d % (A.length : Int)) = some q ∧ GX q (.int k) = some (.int u) ∧ GX S (.int k) = some (.int v) ∧ A0.length < sizeLine ∧ A1 = A0 ++ [.int (u - v)]))
  (h2 : (T = .non ∧ A2 = A1) ∨ (∃ x y : Int, T = .tup [.int x, .int y] ∧ GX T (.int k) = some (.int z) ∧ A1.length < sizeLine ∧ A2 = A1 ++ [.int (z - 1)])) (e' : DE)
  (h3 : NS [.fz (.lst [.int c, .int d]), .fz (.lst A), .fz B, .fz S, .fz (.int k), .fz T, .ow A2] = some (.ok R e')) :
  fD 7 6 (sSeq (sSetN 6 NC) (sSeq (sIf (bZ (eB gGt (eCV gLen 1) (eC (.int 0)))) (sApp 6 (eB gSub' (eB GX (eBV gIxL 1 (eB gMod (eBV gIxL 0 (eC (.int 1))) (eCV gLen 1))) (eV 4)) (eB GX (eV 3) (eV 4)))) sNx) (sSeq (sIf (bZ (eB (gIsN true) (eV 5) (eC .non))) (sApp 6 (eB gSub' (eB GX (eV 5) (eV 4)) (eC (.int 1)))) sNx) (sRetN NS)))) [.lst [.int c, .int d], .lst A, B, S, .int k, T] = some (.own R) := by
 rcases h1 with ⟨g, rfl⟩ | ⟨g1, g2, g3, g4, g5, g6, rfl⟩ <;> rcases h2 with ⟨rfl, rfl⟩ | ⟨x, y, rfl, g7, g8, rfl⟩ <;> walk_at "eh"
abbrev coK : NF := (nCompV 1 1 [4] (bName 0) bTrue (eB gIxT (eV 0) (eB gAdd (eV 1) (eC (.int 2)))))
theorem cok_ok (f : Sp4 → Int) (k : Int) (hk : ∀ q, atI [D.int q.a, D.int q.b, D.int q.c, D.int q.d] (k + 2) = some (.int (f q))) (L : List Sp4) (hl : L.length ≤ 1000) (C B S T : D) : coK [.fz C, .fz (.lst (L.map sD)), .fz B, .fz S, .fz (.int k), .fz T, .no] = some (.ok ((L.map f).map D.int) [.fz C, .fz (.lst (L.map sD)), .fz B, .fz S, .fz (.int k), .fz T, .no]) := by
 show compD (bName 0) bTrue (eB gIxT (eV 0) (eB gAdd (eV 1) (eC (.int 2)))) [.no, .fz (.int k)] [.fz C, .fz (.lst (L.map sD)), .fz B, .fz S, .fz (.int k), .fz T, .no] (L.map sD) [] = _
 rw [comp_map sD (fun q => D.int (f q)) (fun _ => true) L [] (by show 0 + _ ≤ 2 ^ 24; omega) (fun q _ => ⟨[.fz (sD q), .fz (.int k)], [.fz (sD q), .fz (.int k)], rfl, rfl, fun _ => ⟨[.fz (sD q), .fz (.int k)], by
  show opt (atI [D.int q.a, D.int q.b, D.int q.c, D.int q.d] (k + 2)) _ = _
  rw [hk q]
  rfl⟩⟩)]
 rw [List.filter_eq_self.mpr (fun _ _ => rfl), List.map_map]
 rfl
theorem nc_w (GX : D → D → Option D) (GC : D → D → Option (List D)) (CO : NF) (c d k s : Int) (A A0 R : List D) (B S T : D) (hb : GX B (.int k) = some (.int s)) (hm : gMod (.int c) (.int (s + 1)) = some (.int (c % (s + 1))))
  (h : CO [.fz (.lst [.int c, .int d]), .fz (.lst A), .fz B, .fz S, .fz (.int k), .fz T, .no] = some (.ok A0 [.fz (.lst [.int c, .int d]), .fz (.lst A), .fz B, .fz S, .fz (.int k), .fz T, .no])) (hg : GC (.lst [.int 0, .int (c % (s + 1))]) (.lst A0) = some R) :
  (nB GC (zN (eL (aC (eC (.int 0)) (aC (eB gMod (eBV gIxL 0 (eC (.int 0))) (eB gAdd (eB GX (eV 2) (eV 4)) (eC (.int 1)))) aN)))) (zN CO)) [.fz (.lst [.int c, .int d]), .fz (.lst A), .fz B, .fz S, .fz (.int k), .fz T, .no] = some (.ok R [.fz (.lst [.int c, .int d]), .fz (.lst A), .fz B, .fz S, .fz (.int k), .fz T, .no]) := by
 walk_at "eh"
theorem ed_ok (W H w h c d k s : Int) (L : List Sp4) (hl : L.length ≤ 41) (o : Option (Int × Int)) (f g : Sp4 → Int) (hf : ∀ q, atI [D.int q.a, D.int q.b, D.int q.c, D.int q.d] (k + 2) = some (.int (f q))) (hg : ∀ q, gIxT (sD q) (.int k) = some (.int (g q))) (hb : gIxT (.tup [.int W, .int H]) (.int k) = some (.int s)) (hs : 0 < s + 1) (v : Int) (hv : gIxT (.tup [.int w, .int h]) (.int k) = some (.int v)) (ht : ∀ x y : Int, ∃ z, gIxT (.tup [.int x, .int y]) (.int k) = some (.int z)) :
  ∃ E : List Int, d_l_ends_drawn [.lst [.int c, .int d], .lst (L.map sD), .tup [.int W, .int H], .tup [.int w, .int h], .int k, oP o] = some (.own (E.map D.int)) := by
 have co := cok_ok f k hf L (by omega) (.lst [.int c, .int d]) (.tup [.int W, .int H]) (.tup [.int w, .int h]) (oP o)
 have hc : gCat (.lst [.int 0, .int (c % (s + 1))]) (.lst ((L.map f).map D.int)) = some ((0 :: (c % (s + 1)) :: L.map f).map D.int) := by
  show (if _ then _ else _) = _
  rw [if_pos (by rw [List.length_map, List.length_map]; show 2 + _ ≤ 2 ^ 24; omega)]
  rfl
 have nc := nc_w gIxT gCat coK c d k s (L.map sD) _ _ _ _ _ hb (gMod_eq hs) co hc
 generalize hE : 0 :: (c % (s + 1)) :: L.map f = E0 at *
 have l0 : E0.length ≤ 43 := by rw [← hE]; simp; omega
 clear hE hc
 have s1 : ∃ (E1 : List Int) (u : Int) (q : D), E1.length ≤ 44 ∧ ((¬ (0 : Int) < ((L.map sD).length : Int) ∧ E1.map D.int = E0.map D.int) ∨ ((0 : Int) < ((L.map sD).length : Int) ∧ gMod (.int d) (.int ((L.map sD).length : Int)) = some (.int (d % ((L.map sD).length : Int))) ∧ atI (L.map sD) (d % ((L.map sD).length : Int)) = some q ∧ gIxT q (.int k) = some (.int u) ∧ gIxT (.tup [.int w, .int h]) (.int k) = some (.int v) ∧ (E0.map D.int).length < sizeLine ∧ E1.map D.int = E0.map D.int ++ [.int (u - v)])) := by
  by_cases z : (0 : Int) < ((L.map sD).length : Int)
  ·have q0 := Int.emod_nonneg d (show ((L.map sD).length : Int) ≠ 0 by omega)
   have q1 := Int.emod_lt_of_pos d z
   obtain ⟨x, hx, hm⟩ := atI_in (l := L.map sD) q0 q1
   obtain ⟨q, _, rfl⟩ := List.mem_map.mp hm
   exact ⟨E0 ++ [g q - v], g q, sD q, by simp; omega, .inr ⟨z, gMod_eq z, hx, hg q, hv, by rw [List.length_map]; show _ < 2 ^ 24; omega, by rw [List.map_append]; rfl⟩⟩
  ·exact ⟨E0, 0, .non, by omega, .inl ⟨z, rfl⟩⟩
 obtain ⟨E1, u, q, l1, s1⟩ := s1
 have s2 : ∃ (E2 : List Int) (z : Int), E2.length ≤ 45 ∧ ((oP o = .non ∧ E2.map D.int = E1.map D.int) ∨ (∃ x y : Int, oP o = .tup [.int x, .int y] ∧ gIxT (oP o) (.int k) = some (.int z) ∧ (E1.map D.int).length < sizeLine ∧ E2.map D.int = E1.map D.int ++ [.int (z - 1)])) := by
  cases o with
  | none => exact ⟨E1, 0, by omega, .inl ⟨rfl, rfl⟩⟩
  | some p =>
   obtain ⟨x, y⟩ := p
   obtain ⟨z, hz⟩ := ht x y
   exact ⟨E1 ++ [z - 1], z, by simp; omega, .inr ⟨x, y, rfl, hz, by rw [List.length_map]; show _ < 2 ^ 24; omega, by rw [List.map_append]; rfl⟩⟩
 obtain ⟨E2, z, l2, s2⟩ := s2
 refine ⟨sortU E2, ed_w gIxT _ _ c d k u v z (L.map sD) (E0.map D.int) (E1.map D.int) (E2.map D.int) _ _ _ _ q nc s1 s2 [.fz (.lst [.int c, .int d]), .fz (.lst (L.map sD)), .fz (.tup [.int W, .int H]), .fz (.tup [.int w, .int h]), .fz (.int k), .fz (oP o), .fz (.lst (E2.map D.int))] ?_⟩
 exact ns_v _ _ _ E2 rfl (by omega)
abbrev laI (FR : List D → Option R1) (GL : D → D → Option D) : SF := (sIf (bZ (eCall0 FR (aC (eV 1) (aC (eV 4) (aC (eT (aC (eV 9) (aC (eV 10) aN))) (aC (eV 2) aN)))))) (sIf (bOr (bZ (eB (gIsN false) (eV 6) (eC .non))) (bZ (eB GL (eT (aC (eV 10) (aC (eV 9) aN))) (eT (aC (eB gIxT (eV 6) (eC (.int 1))) (aC (eB gIxT (eV 6) (eC (.int 0))) aN)))))) (sRet (eC (.bl false))) sNx) sNx)
abbrev laE (s0 B S s3 A s5 : D) (T : D) (s7 s8 s9 s10 : Sl) : DE := [.fz s0, .fz B, .fz S, .fz s3, .fz A, .fz s5, .fz T, s7, s8, s9, s10]
theorem la_s (FR : List D → Option R1) (GL : D → D → Option D) (s0 B S s3 A s5 T : D) (X Y : List D) (x y : Int) (fr : Bool) (h1 : FR [B, A, .tup [.int x, .int y], S] = some (.ret (.bl fr))) (h2 : fr = true → ∃ u v : Int, T = .tup [.int u, .int v] ∧ GL (.tup [.int y, .int x]) (.tup [.int v, .int u]) = some (.bl false)) :
  laI FR GL (laE s0 B S s3 A s5 T (.hd X) (.hd Y) (.fz (.int x)) (.fz (.int y))) = some (.nx (laE s0 B S s3 A s5 T (.hd X) (.hd Y) (.fz (.int x)) (.fz (.int y)))) := by
 unfold laI
 unfold laE
 cases fr with
 | false => clear h2; walk_at "eh"
 | true =>
  obtain ⟨u, v, rfl, hg⟩ := h2 rfl
  walk_at "eh"
theorem lex2f {a b c d : Int} (h : a < c ∨ (a = c ∧ b ≤ d)) : HT.lexLt [c, d] [a, b] = false := by
 rw [HT.lexLt_cons]
 by_cases e : c = a
 ·rw [if_pos e, HT.lexLt_cons]
  by_cases e2 : d = b
  ·rw [if_pos e2]; rfl
  ·rw [if_neg e2]
   exact decide_eq_false (by omega)
 ·rw [if_neg e]
  exact decide_eq_false (by omega)
theorem la_in (W H w h : Int) (L : List Sp4) (o : Option (Int × Int)) (ho : Least W H w h L o) (s0 s3 s5 : D) (X : List D) (Y : List Int) (x : Int) (o10 : Option D) : ∃ p10, forD (bName 10) (laI d_l_free gLtT) (Y.map D.int) (laE s0 (.tup [.int W, .int H]) (.tup [.int w, .int h]) s3 (.lst (L.map sD)) s5 (oP o) (.hd X) (.hd (Y.map D.int)) (.fz (.int x)) (un o10)) = some (.nx (laE s0 (.tup [.int W, .int H]) (.tup [.int w, .int h]) s3 (.lst (L.map sD)) s5 (oP o) (.hd X) (.hd (Y.map D.int)) (.fz (.int x)) (un p10))) := by
 obtain ⟨e', h1, p10, rfl⟩ := for_map (b := bName 10) (body := laI d_l_free gLtT) D.int (fun _ e => ∃ p10, e = laE s0 (.tup [.int W, .int H]) (.tup [.int w, .int h]) s3 (.lst (L.map sD)) s5 (oP o) (.hd X) (.hd (Y.map D.int)) (.fz (.int x)) (un p10)) Y (laE s0 (.tup [.int W, .int H]) (.tup [.int w, .int h]) s3 (.lst (L.map sD)) s5 (oP o) (.hd X) (.hd (Y.map D.int)) (.fz (.int x)) (un o10)) ⟨o10, rfl⟩ (by
  rintro pre y post e hq ⟨p10, rfl⟩
  have hb : bName 10 (.int y) (laE s0 (.tup [.int W, .int H]) (.tup [.int w, .int h]) s3 (.lst (L.map sD)) s5 (oP o) (.hd X) (.hd (Y.map D.int)) (.fz (.int x)) (un p10)) = some (laE s0 (.tup [.int W, .int H]) (.tup [.int w, .int h]) s3 (.lst (L.map sD)) s5 (oP o) (.hd X) (.hd (Y.map D.int)) (.fz (.int x)) (.fz (.int y))) := by cases p10 <;> rfl
  refine ⟨_, ?_, some (.int y), rfl⟩
  rw [hb, optR_some, la_s d_l_free gLtT _ _ _ _ _ _ _ _ _ x y _ (free_ok W H w h x y L) (fun fr => by
   have f := free_iff.mp fr
   cases o with
   | none => exact absurd f (ho x y)
   | some p =>
    obtain ⟨u, v⟩ := p
    refine ⟨u, v, rfl, ?_⟩
    show some (D.bl (HT.lexLt [y, x] [v, u])) = _
    rw [lex2f (ho.2 x y f)])]
  rfl)
 exact ⟨p10, h1⟩
theorem la_ou (W H w h : Int) (L : List Sp4) (o : Option (Int × Int)) (ho : Least W H w h L o) (s0 s3 s5 : D) (X Y : List Int) : ∃ e, sForV 7 (bName 9) (sForV 8 (bName 10) (laI d_l_free gLtT)) (laE s0 (.tup [.int W, .int H]) (.tup [.int w, .int h]) s3 (.lst (L.map sD)) s5 (oP o) (.ow (X.map D.int)) (.ow (Y.map D.int)) .no .no) = some (.nx e) := by
 have es : sForV 7 (bName 9) (sForV 8 (bName 10) (laI d_l_free gLtT)) (laE s0 (.tup [.int W, .int H]) (.tup [.int w, .int h]) s3 (.lst (L.map sD)) s5 (oP o) (.ow (X.map D.int)) (.ow (Y.map D.int)) .no .no) = unhide 7 (X.map D.int) (forD (bName 9) (sForV 8 (bName 10) (laI d_l_free gLtT)) (X.map D.int) (laE s0 (.tup [.int W, .int H]) (.tup [.int w, .int h]) s3 (.lst (L.map sD)) s5 (oP o) (.hd (X.map D.int)) (.ow (Y.map D.int)) .no .no)) := rfl
 rw [es]
 obtain ⟨e', h1, _⟩ := for_map (b := bName 9) (body := sForV 8 (bName 10) (laI d_l_free gLtT)) D.int (fun _ e => ∃ p9 p10, e = laE s0 (.tup [.int W, .int H]) (.tup [.int w, .int h]) s3 (.lst (L.map sD)) s5 (oP o) (.hd (X.map D.int)) (.ow (Y.map D.int)) (un p9) (un p10)) X (laE s0 (.tup [.int W, .int H]) (.tup [.int w, .int h]) s3 (.lst (L.map sD)) s5 (oP o) (.hd (X.map D.int)) (.ow (Y.map D.int)) .no .no) ⟨none, none, rfl⟩ (by
  rintro pre x post e hq ⟨p9, p10, rfl⟩
  have hb : bName 9 (.int x) (laE s0 (.tup [.int W, .int H]) (.tup [.int w, .int h]) s3 (.lst (L.map sD)) s5 (oP o) (.hd (X.map D.int)) (.ow (Y.map D.int)) (un p9) (un p10)) = some (laE s0 (.tup [.int W, .int H]) (.tup [.int w, .int h]) s3 (.lst (L.map sD)) s5 (oP o) (.hd (X.map D.int)) (.ow (Y.map D.int)) (.fz (.int x)) (un p10)) := by cases p9 <;> rfl
  have e1 : sForV 8 (bName 10) (laI d_l_free gLtT) (laE s0 (.tup [.int W, .int H]) (.tup [.int w, .int h]) s3 (.lst (L.map sD)) s5 (oP o) (.hd (X.map D.int)) (.ow (Y.map D.int)) (.fz (.int x)) (un p10)) = unhide 8 (Y.map D.int) (forD (bName 10) (laI d_l_free gLtT) (Y.map D.int) (laE s0 (.tup [.int W, .int H]) (.tup [.int w, .int h]) s3 (.lst (L.map sD)) s5 (oP o) (.hd (X.map D.int)) (.hd (Y.map D.int)) (.fz (.int x)) (un p10))) := rfl
  obtain ⟨q10, hf⟩ := la_in W H w h L o ho s0 s3 s5 (X.map D.int) Y x p10
  refine ⟨_, ?_, some (.int x), q10, rfl⟩
  rw [hb, optR_some, e1, hf]
  rfl)
 rw [h1]
 exact ⟨_, rfl⟩
theorem whole_l (i : Int) : d_l_whole [.int i] = some (.ret (.bl true)) := by
 unfold d_l_whole b_l_whole
 walk_at "ev"
 rfl
theorem law_w (CE LO NE LP WH FR ED : List D → Option R1) (N3 : ZF) (CO : NF) (LS : SF) (GE : D → D → Option D) (ns : List Int) (c0 c1 c2 c3 c5 c6 c7 c8 W H w h n3 : Int) (A X Y : List D) (T : D) (e : DE)
  (a0 : CE [.scr ns, .int 0] = some (.ret (.int c0))) (a1 : CE [.scr ns, .int 1] = some (.ret (.int c1))) (a2 : CE [.scr ns, .int 2] = some (.ret (.int c2))) (a3 : CE [.scr ns, .int 3] = some (.ret (.int c3))) (a5 : CE [.scr ns, .int 5] = some (.ret (.int c5))) (a6 : CE [.scr ns, .int 6] = some (.ret (.int c6))) (a7 : CE [.scr ns, .int 7] = some (.ret (.int c7))) (a8 : CE [.scr ns, .int 8] = some (.ret (.int c8)))
  (l0 : LO [.int c0] = some (.ret (.int W))) (l1 : LO [.int c1] = some (.ret (.int H))) (w0 : NE [.int c2, .int W] = some (.ret (.int w))) (w1 : NE [.int c3, .int H] = some (.ret (.int h)))
  (hn : N3 [.fz (.scr ns), .fz (.tup [.int W, .int H]), .fz (.tup [.int w, .int h]), .no, .no, .no, .no, .no, .no, .no, .no] = some (.ok (.int n3) [.fz (.scr ns), .fz (.tup [.int W, .int H]), .fz (.tup [.int w, .int h]), .no, .no, .no, .no, .no, .no, .no, .no]))
  (hc : CO [.fz (.scr ns), .fz (.tup [.int W, .int H]), .fz (.tup [.int w, .int h]), .fz (.int n3), .no, .no, .no, .no, .no, .no, .no] = some (.ok A [.fz (.scr ns), .fz (.tup [.int W, .int H]), .fz (.tup [.int w, .int h]), .fz (.int n3), .no, .no, .no, .no, .no, .no, .no]))
  (hp : LP [.tup [.int W, .int H], .lst A, .int w, .int h] = some (.ret T)) (ge : GE (.lst A) (.lst A) = some (.bl false))
  (hT : T = .non ∨ (∃ x y : Int, T = .tup [.int x, .int y] ∧ WH [.int x] = some (.ret (.bl true)) ∧ WH [.int y] = some (.ret (.bl true)) ∧ FR [.tup [.int W, .int H], .lst A, .tup [.int x, .int y], .tup [.int w, .int h]] = some (.ret (.bl true))))
  (e0 : ED [.lst [.int c5, .int c6], .lst A, .tup [.int W, .int H], .tup [.int w, .int h], .int 0, T] = some (.own X)) (e1 : ED [.lst [.int c7, .int c8], .lst A, .tup [.int W, .int H], .tup [.int w, .int h], .int 1, T] = some (.own Y))
  (hl : LS [.fz (.scr ns), .fz (.tup [.int W, .int H]), .fz (.tup [.int w, .int h]), .fz (.int n3), .fz (.lst A), .fz (.lst A), .fz T, .ow X, .ow Y, .no, .no] = some (.nx e)) :
  fD 11 1 (sSeq (sSet 1 (eT (aC (eCall0 LO (aC (eCall0 CE (aC (eV 0) (aC (eC (.int 0)) aN))) aN)) (aC (eCall0 LO (aC (eCall0 CE (aC (eV 0) (aC (eC (.int 1)) aN))) aN)) aN)))) (sSeq (sSet 2 (eT (aC (eCall0 NE (aC (eCall0 CE (aC (eV 0) (aC (eC (.int 2)) aN))) (aC (eB gIxT (eV 1) (eC (.int 0))) aN))) (aC (eCall0 NE (aC (eCall0 CE (aC (eV 0) (aC (eC (.int 3)) aN))) (aC (eB gIxT (eV 1) (eC (.int 1))) aN))) aN)))) (sSeq (sSet 3 N3) (sSeq (sSetN 4 CO) (sSeq (sSetN 5 (nCV gList 4)) (sSeq (sSetC0 6 LP (aC (eV 1) (aC (eV 5) (aC (eB gIxT (eV 2) (eC (.int 0))) (aC (eB gIxT (eV 2) (eC (.int 1))) aN))))) (sSeq (sIf (bZ (eBVV GE 5 4)) (sRet (eC (.bl false))) sNx) (sSeq (sIf (bZ (eB (gIsN true) (eV 6) (eC .non))) (sSeq (sIf (bOr (bNot (bZ (eIsiV 6 "tuple"))) (bOr (bZ (eB (gEq true) (eCV gLen 6) (eC (.int 2)))) (bOr (bNot (bZ (eCall0 WH (aC (eB gIxT (eV 6) (eC (.int 0))) aN)))) (bNot (bZ (eCall0 WH (aC (eB gIxT (eV 6) (eC (.int 1))) aN))))))) (sRet (eC (.bl false))) sNx) (sIf (bNot (bZ (eCall0 FR (aC (eV 1) (aC (eV 4) (aC (eV 6) (aC (eV 2) aN))))))) (sRet (eC (.bl false))) sNx)) sNx) (sSeq (sSetC0 7 ED (aC (zN (eL (aC (eCall0 CE (aC (eV 0) (aC (eC (.int 5)) aN))) (aC (eCall0 CE (aC (eV 0) (aC (eC (.int 6)) aN))) aN)))) (aC (eV 4) (aC (eV 1) (aC (eV 2) (aC (eC (.int 0)) (aC (eV 6) aN))))))) (sSeq (sSetC0 8 ED (aC (zN (eL (aC (eCall0 CE (aC (eV 0) (aC (eC (.int 7)) aN))) (aC (eCall0 CE (aC (eV 0) (aC (eC (.int 8)) aN))) aN)))) (aC (eV 4) (aC (eV 1) (aC (eV 2) (aC (eC (.int 1)) (aC (eV 6) aN))))))) (sSeq LS (sRet (eC (.bl true))))))))))))))
   [.scr ns] = some (.ret (.bl true)) := by
 rcases hT with rfl | ⟨x, y, rfl, t1, t2, t3⟩ <;> walk_at "eh"
abbrev n3Z (CE : List D → Option R1) : ZF := (eB gAdd (eC (.int 33)) (eB gMul (eC (.int 16)) (eCB (g1 gInt1) (aC (eB (gEq false) (eB gMod (eCall0 CE (aC (eV 0) (aC (eC (.int 4)) aN))) (eC (.int 8))) (eC (.int 7))) aN))))
theorem n3_ok (CE : List D → Option R1) (ns : List Int) (c4 : Int) (B S : D) (a4 : CE [.scr ns, .int 4] = some (.ret (.int c4))) : ∃ n3 : Int, (n3 = 33 ∨ n3 = 49) ∧ n3Z CE [.fz (.scr ns), .fz B, .fz S, .no, .no, .no, .no, .no, .no, .no, .no] = some (.ok (.int n3) [.fz (.scr ns), .fz B, .fz S, .no, .no, .no, .no, .no, .no, .no, .no]) := by
 have m0 : gMul (.int 16) (.int 0) = some (.int (16 * 0)) := gMul_r (by decide)
 have m1 : gMul (.int 16) (.int 1) = some (.int (16 * 1)) := gMul_r (by decide)
 by_cases z : c4 % 8 = 7
 ·refine ⟨49, .inr rfl, ?_⟩
  unfold n3Z
  walk_at "eh"
  rfl
 ·refine ⟨33, .inl rfl, ?_⟩
  unfold n3Z
  walk_at "eh"
  rfl
theorem spots_ok (ns : List Int) (hb : ∀ m ∈ ns, Builtin.Int.intBits m ≤ 2 ^ 20) (W H n3 : Int) (h3 : n3 = 33 ∨ n3 = 49) (S : D) : ∃ L : List Sp4, L.length ≤ 40 ∧ nComp 1 [1] (zN (nSlV 0 (oS (eC (.int 9))) (oS (eV 3)))) (bName 0) bTrue (eCall0 d_l_spot (aC (eV 0) (aC (eV 1) aN))) [.fz (.scr ns), .fz (.tup [.int W, .int H]), .fz S, .fz (.int n3), .no, .no, .no, .no, .no, .no, .no] = some (.ok (L.map sD) [.fz (.scr ns), .fz (.tup [.int W, .int H]), .fz S, .fz (.int n3), .no, .no, .no, .no, .no, .no, .no]) := by
 let f : Int → Sp4 := fun c => if h : Builtin.Int.intBits c ≤ 2 ^ 20 then (spot_ok c W H h).choose else ⟨0, 0, 0, 0⟩
 have hf : ∀ c, Builtin.Int.intBits c ≤ 2 ^ 20 → d_l_spot [.int c, .tup [.int W, .int H]] = some (.ret (sD (f c))) := fun c h => by
  show d_l_spot _ = some (.ret (sD (if h : _ then _ else _)))
  rw [dif_pos h]
  exact (spot_ok c W H h).choose_spec
 refine ⟨((ns.drop 9).take (n3 - 9).toNat).map f, by rw [List.length_map, List.length_take]; omega, ?_⟩
 have hc : cutD (ns.map D.int) (some 9) (some n3) = ((ns.drop 9).take (n3 - 9).toNat).map D.int := by
  rw [cut_mid (by omega) (by omega), show (9 : Int).toNat = 9 by omega, List.map_take, List.map_drop]
 have e0 : (zN (nSlV 0 (oS (eC (.int 9))) (oS (eV 3)))) [.fz (.scr ns), .fz (.tup [.int W, .int H]), .fz S, .fz (.int n3), .no, .no, .no, .no, .no, .no, .no] = some (.ok (.lst (cutD (ns.map D.int) (some 9) (some n3))) [.fz (.scr ns), .fz (.tup [.int W, .int H]), .fz S, .fz (.int n3), .no, .no, .no, .no, .no, .no, .no]) := rfl
 unfold nComp
 rw [e0, hc, bnd_ok]
 show compD (bName 0) bTrue (eCall0 d_l_spot (aC (eV 0) (aC (eV 1) aN))) [.no, .fz (.tup [.int W, .int H])] [.fz (.scr ns), .fz (.tup [.int W, .int H]), .fz S, .fz (.int n3), .no, .no, .no, .no, .no, .no, .no] (((ns.drop 9).take (n3 - 9).toNat).map D.int) [] = _
 rw [comp_map D.int (fun c => sD (f c)) (fun _ => true) ((ns.drop 9).take (n3 - 9).toNat) [] (by rw [List.length_take]; show 0 + _ ≤ 2 ^ 24; omega) (fun c m => ⟨[.fz (.int c), .fz (.tup [.int W, .int H])], [.fz (.int c), .fz (.tup [.int W, .int H])], rfl, rfl, fun _ => ⟨[.fz (.int c), .fz (.tup [.int W, .int H])], by show toZ0 (d_l_spot [.int c, .tup [.int W, .int H]]) _ = _; rw [hf c (hb c (List.mem_of_mem_drop (List.mem_of_mem_take m)))]; rfl⟩⟩)]
 rw [List.filter_eq_self.mpr (fun _ _ => rfl), List.map_map]
 rfl
theorem eqL_ok (L : List Sp4) : gEqT true (.lst (L.map sD)) (.lst (L.map sD)) = some (.bl false) := by
 refine gEqT_refl true ?_ ?_ rfl
 ·simp only [plainD]
  exact plainDs_map fun _ _ => rfl
 ·simp only [depD]
  have := depDs_map (f := sD) (l := L) (n := 2) fun _ _ => Nat.le_of_ble_eq_true rfl
  omega
theorem main (ns : List Int) (hl : ns.length ≤ 63) (hb : ∀ m ∈ ns, Builtin.Int.intBits m ≤ 2 ^ 20) : d_law [.scr ns] = some (.ret (.bl true)) := by
 obtain ⟨W, pW, l0⟩ := long_ok (cellAt ns 0)
 obtain ⟨H, pH, l1⟩ := long_ok (cellAt ns 1)
 obtain ⟨w, w0⟩ := new_ok (cellAt ns 2) W pW
 obtain ⟨h, w1⟩ := new_ok (cellAt ns 3) H pH
 obtain ⟨n3, h3, hn⟩ := n3_ok d_l_cell ns (cellAt ns 4) (.tup [.int W, .int H]) (.tup [.int w, .int h]) (cell_ok (by omega))
 obtain ⟨L, hL, hC⟩ := spots_ok ns hb W H n3 h3 (.tup [.int w, .int h])
 obtain ⟨o, hp, ho⟩ := least_ok W H w h L (by omega)
 obtain ⟨X, e0⟩ := ed_ok W H w h (cellAt ns 5) (cellAt ns 6) 0 W L (by omega) o Sp4.c Sp4.a (fun q => atI_2) (fun q => atI_0) atI_0 (by omega) w atI_0 (fun x y => ⟨x, atI_0⟩)
 obtain ⟨Y, e1⟩ := ed_ok W H w h (cellAt ns 7) (cellAt ns 8) 1 H L (by omega) o Sp4.d Sp4.b (fun q => atI_3) (fun q => atI_1) atI_1 (by omega) h atI_1 (fun x y => ⟨y, atI_1⟩)
 obtain ⟨e, hls⟩ := la_ou W H w h L o ho (.scr ns) (.int n3) (.lst (L.map sD)) X Y
 refine law_w d_l_cell d_l_long d_l_new d_least_place d_l_whole d_l_free d_l_ends_drawn _ _ _ (gEqT true) ns _ _ _ _ _ _ _ _ W H w h n3 (L.map sD) _ _ (oP o) e (cell_ok (by omega)) (cell_ok (by omega)) (cell_ok (by omega)) (cell_ok (by omega)) (cell_ok (by omega)) (cell_ok (by omega)) (cell_ok (by omega)) (cell_ok (by omega)) l0 l1 w0 w1 hn hC hp (eqL_ok L) ?_ e0 e1 hls
 cases o with
 | none => exact .inl rfl
 | some p =>
  obtain ⟨x, y⟩ := p
  refine .inr ⟨x, y, rfl, whole_l x, whole_l y, ?_⟩
  rw [free_ok, free_iff.mpr ho.1]
def sp_law (K : PySem.W.Frag) (c : Str → Addr) : Sp := fun vs H Q _ => ∃ a, ∃ ns : List Int, vs = [.ref a] ∧ Scr K H a (ns.map V.int) ∧ (∀ m ∈ ns, Builtin.Int.intBits m ≤ 2 ^ 20) ∧ ns.length ≤ 63 ∧ ∀ H', Q (.bl true) H'
theorem ok_law {f : Addr} {fd : FuncData} (F : Fun K "law" "law" s_law f fd) (T : Txt K mg c) (G_l_long : Own P w K mg base 3 "_law_long" ["_law_cell_here"] (spD K c d_l_long)) (G_l_cell : Own P w K mg base 3 "_law_cell" ["_law_script", "_law_k"] (spD K c d_l_cell)) (G_l_new : Own P w K mg base 3 "_law_new" ["_law_cell_here", "_law_side"] (spD K c d_l_new)) (G_l_spot : Own P w K mg base 5 "_law_spot" ["_law_cell_here", "_law_box"] (spD K c d_l_spot)) (G_least_place : Own P w K mg base 5 "least_place" ["box", "spots", "w", "h"] (spD K c d_least_place)) (G_l_whole : Own P w K mg base 3 "_law_whole" ["_law_found"] (spD K c d_l_whole)) (G_l_free : Own P w K mg base 3 "_law_free" ["_law_box", "_law_spots", "_law_place", "_law_sides"] (spD K c d_l_free)) (G_l_ends_drawn : Own P w K mg base 3 "_law_ends_drawn" ["_law_cells", "_law_spots", "_law_box", "_law_sides", "_law_way", "_law_told"] (spD K c d_l_ends_drawn)) : FnOk P w K mg base (CXe P w) 7 f fd ["_law_script"] (sp_law K c) :=
 (ok_law0 F T G_l_long G_l_cell G_l_new G_l_spot G_least_place G_l_whole G_l_free G_l_ends_drawn).imp fun vs H Q E ⟨a, ns, e, h, hb, hl, q⟩ => spD_law e h q (main ns hl hb)
def cOf (l : List (Str × Addr)) (x : Str) : Addr := (l.lookup x).getD 0
theorem all_mk {w : World} {K : PySem.W.Frag} {h : Heap} {mg : Str → Option Value} {fa : Addr} (X : K.In h) (G : h.Ns mainGlobals mg) (hfa : mg "law" = some (.ref fa))
  {f_0 : Addr} {oc_0 kV_0 dc_0 pm_0 cd_0 ct_0 : Value} {od_0 an_0 : Option Addr} {sl_0 : Array (Option Value)} {f_1 : Addr} {oc_1 kV_1 dc_1 pm_1 cd_1 ct_1 : Value} {od_1 an_1 : Option Addr} {sl_1 : Array (Option Value)} {f_2 : Addr} {oc_2 kV_2 dc_2 pm_2 cd_2 ct_2 : Value} {od_2 an_2 : Option Addr} {sl_2 : Array (Option Value)} {f_3 : Addr} {oc_3 kV_3 dc_3 pm_3 cd_3 ct_3 : Value} {od_3 an_3 : Option Addr} {sl_3 : Array (Option Value)} {f_4 : Addr} {oc_4 kV_4 dc_4 pm_4 cd_4 ct_4 : Value} {od_4 an_4 : Option Addr} {sl_4 : Array (Option Value)} {f_5 : Addr} {oc_5 kV_5 dc_5 pm_5 cd_5 ct_5 : Value} {od_5 an_5 : Option Addr} {sl_5 : Array (Option Value)} {f_6 : Addr} {oc_6 kV_6 dc_6 pm_6 cd_6 ct_6 : Value} {od_6 an_6 : Option Addr} {sl_6 : Array (Option Value)} {f_7 : Addr} {oc_7 kV_7 dc_7 pm_7 cd_7 ct_7 : Value} {od_7 an_7 : Option Addr} {sl_7 : Array (Option Value)} {f_8 : Addr} {oc_8 kV_8 dc_8 pm_8 cd_8 ct_8 : Value} {od_8 an_8 : Option Addr} {sl_8 : Array (Option Value)} {f_9 : Addr} {oc_9 kV_9 dc_9 pm_9 cd_9 ct_9 : Value} {od_9 an_9 : Option Addr} {sl_9 : Array (Option Value)} {f_10 : Addr} {oc_10 kV_10 dc_10 pm_10 cd_10 ct_10 : Value} {od_10 an_10 : Option Addr} {sl_10 : Array (Option Value)} {f_11 : Addr} {oc_11 kV_11 dc_11 pm_11 cd_11 ct_11 : Value} {od_11 an_11 : Option Addr} {sl_11 : Array (Option Value)}
  (a_0 : PySem.W.nsIn K mainGlobals "apart" = some (some (.ref f_0)))
  (l_0 : K.lookup f_0 = some ⟨oc_0, od_0, .func (PySem.W.fnOf "apart" "apart" (defArgs s_apart) (defBody s_apart) (defScope s_apart) .none kV_0 dc_0 pm_0 an_0 cd_0 ct_0), sl_0⟩)
  (c_0 : PySem.W.codeIn K cd_0 "apart" = true)
  (k_0 : PySem.W.keepIn K (.ref f_0) = true)
  (a_1 : PySem.W.nsIn K mainGlobals "lies_in" = some (some (.ref f_1)))
  (l_1 : K.lookup f_1 = some ⟨oc_1, od_1, .func (PySem.W.fnOf "lies_in" "lies_in" (defArgs s_lies_in) (defBody s_lies_in) (defScope s_lies_in) .none kV_1 dc_1 pm_1 an_1 cd_1 ct_1), sl_1⟩)
  (c_1 : PySem.W.codeIn K cd_1 "lies_in" = true)
  (k_1 : PySem.W.keepIn K (.ref f_1) = true)
  (a_2 : PySem.W.nsIn K mainGlobals "least_place" = some (some (.ref f_2)))
  (l_2 : K.lookup f_2 = some ⟨oc_2, od_2, .func (PySem.W.fnOf "least_place" "least_place" (defArgs s_least_place) (defBody s_least_place) (defScope s_least_place) .none kV_2 dc_2 pm_2 an_2 cd_2 ct_2), sl_2⟩)
  (c_2 : PySem.W.codeIn K cd_2 "least_place" = true)
  (k_2 : PySem.W.keepIn K (.ref f_2) = true)
  (a_3 : PySem.W.nsIn K mainGlobals "_law_whole" = some (some (.ref f_3)))
  (l_3 : K.lookup f_3 = some ⟨oc_3, od_3, .func (PySem.W.fnOf "_law_whole" "_law_whole" (defArgs s_l_whole) (defBody s_l_whole) (defScope s_l_whole) .none kV_3 dc_3 pm_3 an_3 cd_3 ct_3), sl_3⟩)
  (c_3 : PySem.W.codeIn K cd_3 "_law_whole" = true)
  (k_3 : PySem.W.keepIn K (.ref f_3) = true)
  (a_4 : PySem.W.nsIn K mainGlobals "_law_cell" = some (some (.ref f_4)))
  (l_4 : K.lookup f_4 = some ⟨oc_4, od_4, .func (PySem.W.fnOf "_law_cell" "_law_cell" (defArgs s_l_cell) (defBody s_l_cell) (defScope s_l_cell) .none kV_4 dc_4 pm_4 an_4 cd_4 ct_4), sl_4⟩)
  (c_4 : PySem.W.codeIn K cd_4 "_law_cell" = true)
  (k_4 : PySem.W.keepIn K (.ref f_4) = true)
  (a_5 : PySem.W.nsIn K mainGlobals "_law_long" = some (some (.ref f_5)))
  (l_5 : K.lookup f_5 = some ⟨oc_5, od_5, .func (PySem.W.fnOf "_law_long" "_law_long" (defArgs s_l_long) (defBody s_l_long) (defScope s_l_long) .none kV_5 dc_5 pm_5 an_5 cd_5 ct_5), sl_5⟩)
  (c_5 : PySem.W.codeIn K cd_5 "_law_long" = true)
  (k_5 : PySem.W.keepIn K (.ref f_5) = true)
  (a_6 : PySem.W.nsIn K mainGlobals "_law_ends" = some (some (.ref f_6)))
  (l_6 : K.lookup f_6 = some ⟨oc_6, od_6, .func (PySem.W.fnOf "_law_ends" "_law_ends" (defArgs s_l_ends) (defBody s_l_ends) (defScope s_l_ends) .none kV_6 dc_6 pm_6 an_6 cd_6 ct_6), sl_6⟩)
  (c_6 : PySem.W.codeIn K cd_6 "_law_ends" = true)
  (k_6 : PySem.W.keepIn K (.ref f_6) = true)
  (a_7 : PySem.W.nsIn K mainGlobals "_law_spot" = some (some (.ref f_7)))
  (l_7 : K.lookup f_7 = some ⟨oc_7, od_7, .func (PySem.W.fnOf "_law_spot" "_law_spot" (defArgs s_l_spot) (defBody s_l_spot) (defScope s_l_spot) .none kV_7 dc_7 pm_7 an_7 cd_7 ct_7), sl_7⟩)
  (c_7 : PySem.W.codeIn K cd_7 "_law_spot" = true)
  (k_7 : PySem.W.keepIn K (.ref f_7) = true)
  (a_8 : PySem.W.nsIn K mainGlobals "_law_new" = some (some (.ref f_8)))
  (l_8 : K.lookup f_8 = some ⟨oc_8, od_8, .func (PySem.W.fnOf "_law_new" "_law_new" (defArgs s_l_new) (defBody s_l_new) (defScope s_l_new) .none kV_8 dc_8 pm_8 an_8 cd_8 ct_8), sl_8⟩)
  (c_8 : PySem.W.codeIn K cd_8 "_law_new" = true)
  (k_8 : PySem.W.keepIn K (.ref f_8) = true)
  (a_9 : PySem.W.nsIn K mainGlobals "_law_free" = some (some (.ref f_9)))
  (l_9 : K.lookup f_9 = some ⟨oc_9, od_9, .func (PySem.W.fnOf "_law_free" "_law_free" (defArgs s_l_free) (defBody s_l_free) (defScope s_l_free) .none kV_9 dc_9 pm_9 an_9 cd_9 ct_9), sl_9⟩)
  (c_9 : PySem.W.codeIn K cd_9 "_law_free" = true)
  (k_9 : PySem.W.keepIn K (.ref f_9) = true)
  (a_10 : PySem.W.nsIn K mainGlobals "_law_ends_drawn" = some (some (.ref f_10)))
  (l_10 : K.lookup f_10 = some ⟨oc_10, od_10, .func (PySem.W.fnOf "_law_ends_drawn" "_law_ends_drawn" (defArgs s_l_ends_drawn) (defBody s_l_ends_drawn) (defScope s_l_ends_drawn) .none kV_10 dc_10 pm_10 an_10 cd_10 ct_10), sl_10⟩)
  (c_10 : PySem.W.codeIn K cd_10 "_law_ends_drawn" = true)
  (k_10 : PySem.W.keepIn K (.ref f_10) = true)
  (a_11 : PySem.W.nsIn K mainGlobals "law" = some (some (.ref f_11)))
  (l_11 : K.lookup f_11 = some ⟨oc_11, od_11, .func (PySem.W.fnOf "law" "law" (defArgs s_law) (defBody s_law) (defScope s_law) .none kV_11 dc_11 pm_11 an_11 cd_11 ct_11), sl_11⟩)
  (c_11 : PySem.W.codeIn K cd_11 "law" = true)
  (k_11 : PySem.W.keepIn K (.ref f_11) = true)
  (z_all : PySem.W.nsIn K mainGlobals "all" = some none)
  (z_bool : PySem.W.nsIn K mainGlobals "bool" = some none)
  (z_int : PySem.W.nsIn K mainGlobals "int" = some none)
  (z_isinstance : PySem.W.nsIn K mainGlobals "isinstance" = some none)
  (z_len : PySem.W.nsIn K mainGlobals "len" = some none)
  (z_list : PySem.W.nsIn K mainGlobals "list" = some none)
  (z_max : PySem.W.nsIn K mainGlobals "max" = some none)
  (z_min : PySem.W.nsIn K mainGlobals "min" = some none)
  (z_set : PySem.W.nsIn K mainGlobals "set" = some none)
  (z_sorted : PySem.W.nsIn K mainGlobals "sorted" = some none)
  (z_tuple : PySem.W.nsIn K mainGlobals "tuple" = some none)
  : ∃ fd : FuncData, (∀ (s : Shared) (v : Value), BindsTo s fd ⟨[v], []⟩ [("_law_script", v)]) ∧ ∃ c : Str → Addr, ∀ base : Heap, K.In base → base.Ns mainGlobals mg → FnOk (PySem.Challenge.rw_cratefit_k54_no_free_place_is_less).prog w K mg base (CXe (PySem.Challenge.rw_cratefit_k54_no_free_place_is_less).prog w) 7 fa fd ["_law_script"] (sp_law K c) := by
 have e := hfa.symm.trans (PySem.W.mg_of X G a_11)
 cases e
 have T : Txt K mg (cOf []) := ⟨PySem.W.mg_none_of X G z_all, PySem.W.mg_none_of X G z_bool, PySem.W.mg_none_of X G z_int, PySem.W.mg_none_of X G z_isinstance, PySem.W.mg_none_of X G z_len, PySem.W.mg_none_of X G z_list, PySem.W.mg_none_of X G z_max, PySem.W.mg_none_of X G z_min, PySem.W.mg_none_of X G z_set, PySem.W.mg_none_of X G z_sorted, PySem.W.mg_none_of X G z_tuple⟩
 refine ⟨PySem.W.fnOf "law" "law" (defArgs s_law) (defBody s_law) (defScope s_law) .none kV_11 dc_11 pm_11 an_11 cd_11 ct_11, fun s v => .of_eq rfl, cOf [], fun base _ _ => ?_⟩
 have F_0 := fun_mk (st := s_apart) l_0 c_0 k_0
 have B_0 := F_0.binds (ps := ["one", "other"]) fun _ _ _ _ _ _ us hl => match us, hl with | [_, _], _ => rfl
 have O_0 : Own (PySem.Challenge.rw_cratefit_k54_no_free_place_is_less).prog w K mg base 3 "apart" ["one", "other"] (spD K (cOf []) d_apart) := ⟨_, _, ok_apart F_0 T  , B_0, k_0, PySem.W.mg_of X G a_0⟩
 have F_1 := fun_mk (st := s_lies_in) l_1 c_1 k_1
 have B_1 := F_1.binds (ps := ["box", "spot"]) fun _ _ _ _ _ _ us hl => match us, hl with | [_, _], _ => rfl
 have O_1 : Own (PySem.Challenge.rw_cratefit_k54_no_free_place_is_less).prog w K mg base 3 "lies_in" ["box", "spot"] (spD K (cOf []) d_lies_in) := ⟨_, _, ok_lies_in F_1 T  , B_1, k_1, PySem.W.mg_of X G a_1⟩
 have F_2 := fun_mk (st := s_least_place) l_2 c_2 k_2
 have B_2 := F_2.binds (ps := ["box", "spots", "w", "h"]) fun _ _ _ _ _ _ us hl => match us, hl with | [_, _, _, _], _ => rfl
 have O_2 : Own (PySem.Challenge.rw_cratefit_k54_no_free_place_is_less).prog w K mg base 5 "least_place" ["box", "spots", "w", "h"] (spD K (cOf []) d_least_place) := ⟨_, _, ok_least_place F_2 T O_0 O_1 , B_2, k_2, PySem.W.mg_of X G a_2⟩
 have F_3 := fun_mk (st := s_l_whole) l_3 c_3 k_3
 have B_3 := F_3.binds (ps := ["_law_found"]) fun _ _ _ _ _ _ us hl => match us, hl with | [_], _ => rfl
 have O_3 : Own (PySem.Challenge.rw_cratefit_k54_no_free_place_is_less).prog w K mg base 3 "_law_whole" ["_law_found"] (spD K (cOf []) d_l_whole) := ⟨_, _, ok_l_whole F_3 T  , B_3, k_3, PySem.W.mg_of X G a_3⟩
 have F_4 := fun_mk (st := s_l_cell) l_4 c_4 k_4
 have B_4 := F_4.binds (ps := ["_law_script", "_law_k"]) fun _ _ _ _ _ _ us hl => match us, hl with | [_, _], _ => rfl
 have O_4 : Own (PySem.Challenge.rw_cratefit_k54_no_free_place_is_less).prog w K mg base 3 "_law_cell" ["_law_script", "_law_k"] (spD K (cOf []) d_l_cell) := ⟨_, _, ok_l_cell F_4 T  , B_4, k_4, PySem.W.mg_of X G a_4⟩
 have F_5 := fun_mk (st := s_l_long) l_5 c_5 k_5
 have B_5 := F_5.binds (ps := ["_law_cell_here"]) fun _ _ _ _ _ _ us hl => match us, hl with | [_], _ => rfl
 have O_5 : Own (PySem.Challenge.rw_cratefit_k54_no_free_place_is_less).prog w K mg base 3 "_law_long" ["_law_cell_here"] (spD K (cOf []) d_l_long) := ⟨_, _, ok_l_long F_5 T  , B_5, k_5, PySem.W.mg_of X G a_5⟩
 have F_6 := fun_mk (st := s_l_ends) l_6 c_6 k_6
 have B_6 := F_6.binds (ps := ["_law_cell_here", "_law_side"]) fun _ _ _ _ _ _ us hl => match us, hl with | [_, _], _ => rfl
 have O_6 : Own (PySem.Challenge.rw_cratefit_k54_no_free_place_is_less).prog w K mg base 3 "_law_ends" ["_law_cell_here", "_law_side"] (spD K (cOf []) d_l_ends) := ⟨_, _, ok_l_ends F_6 T  , B_6, k_6, PySem.W.mg_of X G a_6⟩
 have F_7 := fun_mk (st := s_l_spot) l_7 c_7 k_7
 have B_7 := F_7.binds (ps := ["_law_cell_here", "_law_box"]) fun _ _ _ _ _ _ us hl => match us, hl with | [_, _], _ => rfl
 have O_7 : Own (PySem.Challenge.rw_cratefit_k54_no_free_place_is_less).prog w K mg base 5 "_law_spot" ["_law_cell_here", "_law_box"] (spD K (cOf []) d_l_spot) := ⟨_, _, ok_l_spot F_7 T O_6 , B_7, k_7, PySem.W.mg_of X G a_7⟩
 have F_8 := fun_mk (st := s_l_new) l_8 c_8 k_8
 have B_8 := F_8.binds (ps := ["_law_cell_here", "_law_side"]) fun _ _ _ _ _ _ us hl => match us, hl with | [_, _], _ => rfl
 have O_8 : Own (PySem.Challenge.rw_cratefit_k54_no_free_place_is_less).prog w K mg base 3 "_law_new" ["_law_cell_here", "_law_side"] (spD K (cOf []) d_l_new) := ⟨_, _, ok_l_new F_8 T  , B_8, k_8, PySem.W.mg_of X G a_8⟩
 have F_9 := fun_mk (st := s_l_free) l_9 c_9 k_9
 have B_9 := F_9.binds (ps := ["_law_box", "_law_spots", "_law_place", "_law_sides"]) fun _ _ _ _ _ _ us hl => match us, hl with | [_, _, _, _], _ => rfl
 have O_9 : Own (PySem.Challenge.rw_cratefit_k54_no_free_place_is_less).prog w K mg base 3 "_law_free" ["_law_box", "_law_spots", "_law_place", "_law_sides"] (spD K (cOf []) d_l_free) := ⟨_, _, ok_l_free F_9 T  , B_9, k_9, PySem.W.mg_of X G a_9⟩
 have F_10 := fun_mk (st := s_l_ends_drawn) l_10 c_10 k_10
 have B_10 := F_10.binds (ps := ["_law_cells", "_law_spots", "_law_box", "_law_sides", "_law_way", "_law_told"]) fun _ _ _ _ _ _ us hl => match us, hl with | [_, _, _, _, _, _], _ => rfl
 have O_10 : Own (PySem.Challenge.rw_cratefit_k54_no_free_place_is_less).prog w K mg base 3 "_law_ends_drawn" ["_law_cells", "_law_spots", "_law_box", "_law_sides", "_law_way", "_law_told"] (spD K (cOf []) d_l_ends_drawn) := ⟨_, _, ok_l_ends_drawn F_10 T  , B_10, k_10, PySem.W.mg_of X G a_10⟩
 have F_11 := fun_mk (st := s_law) l_11 c_11 k_11
 exact ok_law F_11 T O_5 O_4 O_8 O_7 O_2 O_3 O_9 O_10
end Law
namespace Law
open PySem L2 PyProof.Rows
theorem walk {q : Program} {loose : List Str} {XP : (Str → Option Value) → Heap → Prop} {YP : World → Heap → Prop} {d : DefRec} {K : Params → PySem.W.Frag} (hdf : d.params.defaults = []) (hY : ∀ (w : World) (h : Heap), YP w h → (K w.params).In h)
  (F : ∀ (w : World) (mg : Str → Option Value) (fa : Addr) (h : Heap), (K w.params).In h → h.Ns mainGlobals mg → mg d.name = some (.ref fa) →
   ∃ fd : FuncData, (∀ (s : Shared) (u : Value), BindsTo s fd ⟨[u], []⟩ [("_law_script", u)]) ∧ ∃ c : Str → Addr, ∀ base : Heap, (K w.params).In base → base.Ns mainGlobals mg → FnOk (PySem.Challenge.rw_cratefit_k54_no_free_place_is_less).prog w (K w.params) mg base (CXe (PySem.Challenge.rw_cratefit_k54_no_free_place_is_less).prog w) 7 fa fd ["_law_script"] (sp_law (K w.params) c)) :
  PySem.W.WalkO q loose XP YP (PySem.Challenge.rw_cratefit_k54_no_free_place_is_less).row.toRowW d [] (fun f vs => PySem.call f vs) := by
 refine L2.walk_ofB (l := PySem.Challenge.rw_cratefit_k54_no_free_place_is_less) (n := 63) (k := 7) (x := "_law_script") (K := K) (CX := fun w => CXe (PySem.Challenge.rw_cratefit_k54_no_free_place_is_less).prog w) (sp := fun w vs H Q E => ∀ c, sp_law (K w.params) c vs H Q E) rfl (by decide) hdf ⟨rfl, by decide, by decide⟩ hY (fun w mg fa h KX G hm => ?_) (fun w H a ns h1 h2 h3 h4 c => ⟨a, ns, rfl, .of h4 h3, h2, h1, fun _ => rfl⟩) fun w H s e s' z => noCXe H s e s' z
 obtain ⟨fd, hb, c, hF⟩ := F w mg fa h KX G hm
 exact ⟨fd, hb, fun base kb nb => (hF base kb nb).imp fun vs H Q E z => z c⟩
end Law
namespace PySem.W.Fast
def tw8987421724933235328:=0
def tw14571487535087065824:=0
def tw15956885001683692449:=0
def tw16758621926396492258:=0
def tw6627753385953433795:=0
def tw3994782910825096196:=0
def tw7365450125745328388:=0
def tw11183259737640229188:=0
def tw15097083074454831876:=0
def tw6856481187061577508:=0
def tw15163314987992975300:=0
def tw2600641472680559621:=0
def tw16504720648183754437:=0
def tw7132432762736109285:=0
def tw6460101721161855813:=0
def tw9173023096521374950:=0
def tw1975349811097369478:=0
def tw3946244523779876838:=0
def tw11947818195024181288:=0
def tw11464378314167702984:=0
def tw18156494115083747816:=0
def tw3792154083809913289:=0
def tw1465704735688375113:=0
def tw2968611703456196906:=0
def tw13219373913786616907:=0
def tw1279168575315752683:=0
def tw9453257851884794635:=0
def tw7564284351221818380:=0
def tw1346444418106138764:=0
def tw9494585750634852780:=0
def tw3300752527997927916:=0
def tw13437905949033138028:=0
def tw16833905989682345868:=0
def tw15812501728023138573:=0
def tw9766187039580805485:=0
def tw18348518416665472557:=0
def tw13397205391345821325:=0
def tw7297793970539190510:=0
def tw4135788578271267150:=0
def tw15641460783697244590:=0
def tw5342128253573477006:=0
def tw1186009960563409103:=0
def tw10598777211353161808:=0
def tw13888419551842844976:=0
def tw9647428772841866032:=0
def tw923193476161391536:=0
def tw13030216886453859633:=0
def tw7660952454712873521:=0
def tw13515542408230427954:=0
def tw3471382932952970578:=0
def tw14884889815325842611:=0
def tw7344671682057419539:=0
def tw1534545604197704756:=0
def tw8262462234417601396:=0
def tw12575407893527525332:=0
def tw17579942011434297461:=0
def tw550186980837228789:=0
def tw5915491285784800597:=0
def tw15284379770985950741:=0
def tw1446518959863659061:=0
def tw2559086320015072981:=0
def tw11734093341944195318:=0
def tw4055750441813389622:=0
def tw7304324973338190936:=0
def tw17534425962787276184:=0
def tw12999656013768501784:=0
def tw12215609253100150552:=0
def tw12118427055918955416:=0
def tw2325955348894539609:=0
def tw12981221585056846938:=0
def tw1917381174464519610:=0
def tw4508951098703052474:=0
def tw17284725540789676059:=0
def tw8436580296175210651:=0
def tw11142833277238681051:=0
def tw17282437862264517147:=0
def tw7366699453024859803:=0
def tw12703262498660633307:=0
def tw13579050542121926491:=0
def tw1153511459480347547:=0
def tw12996043380186614812:=0
def tw802636863564523004:=0
def tw4419617627793113181:=0
def tw5350125821792093661:=0
def tw15355530543726939486:=0
def tw9808871448793047103:=0
def tw18135955650935632959:=0
def tw1080698792382358879:=0
def tw16181203837799070335:=0
end PySem.W.Fast
open PySem.W
set_option maxRecDepth 100000 in
set_option maxHeartbeats 0 in
theorem PySem.Challenge.cw_cratefit_k54_no_free_place_is_less_holds : PySem.Challenge.rw_cratefit_k54_no_free_place_is_less.Holds := by
 w_on; o_law; k_head; (case hw => w_witness2)
 k_fill
 refine Law.walk rfl (fun w h Y => PySem.W.kIn_of Y) ?F
 case F =>
  intro w mg fa h KX G hmg
  refine' Law.all_mk KX G hmg ?a_apart ?l_apart ?c_apart ?k_apart ?a_lies_in ?l_lies_in ?c_lies_in ?k_lies_in ?a_least_place ?l_least_place ?c_least_place ?k_least_place ?a_l_whole ?l_l_whole ?c_l_whole ?k_l_whole ?a_l_cell ?l_l_cell ?c_l_cell ?k_l_cell ?a_l_long ?l_l_long ?c_l_long ?k_l_long ?a_l_ends ?l_l_ends ?c_l_ends ?k_l_ends ?a_l_spot ?l_l_spot ?c_l_spot ?k_l_spot ?a_l_new ?l_l_new ?c_l_new ?k_l_new ?a_l_free ?l_l_free ?c_l_free ?k_l_free ?a_l_ends_drawn ?l_l_ends_drawn ?c_l_ends_drawn ?k_l_ends_drawn ?a_law ?l_law ?c_law ?k_law ?z_all ?z_bool ?z_int ?z_isinstance ?z_len ?z_list ?z_max ?z_min ?z_set ?z_sorted ?z_tuple
  (case a_apart => k_is)
  (case l_apart => k_is)
  (case c_apart => k_is)
  (case k_apart => k_is)
  (case a_lies_in => k_is)
  (case l_lies_in => k_is)
  (case c_lies_in => k_is)
  (case k_lies_in => k_is)
  (case a_least_place => k_is)
  (case l_least_place => k_is)
  (case c_least_place => k_is)
  (case k_least_place => k_is)
  (case a_l_whole => k_is)
  (case l_l_whole => k_is)
  (case c_l_whole => k_is)
  (case k_l_whole => k_is)
  (case a_l_cell => k_is)
  (case l_l_cell => k_is)
  (case c_l_cell => k_is)
  (case k_l_cell => k_is)
  (case a_l_long => k_is)
  (case l_l_long => k_is)
  (case c_l_long => k_is)
  (case k_l_long => k_is)
  (case a_l_ends => k_is)
  (case l_l_ends => k_is)
  (case c_l_ends => k_is)
  (case k_l_ends => k_is)
  (case a_l_spot => k_is)
  (case l_l_spot => k_is)
  (case c_l_spot => k_is)
  (case k_l_spot => k_is)
  (case a_l_new => k_is)
  (case l_l_new => k_is)
  (case c_l_new => k_is)
  (case k_l_new => k_is)
  (case a_l_free => k_is)
  (case l_l_free => k_is)
  (case c_l_free => k_is)
  (case k_l_free => k_is)
  (case a_l_ends_drawn => k_is)
  (case l_l_ends_drawn => k_is)
  (case c_l_ends_drawn => k_is)
  (case k_l_ends_drawn => k_is)
  (case a_law => k_is)
  (case l_law => k_is)
  (case c_law => k_is)
  (case k_law => k_is)
  (case z_all => k_is)
  (case z_bool => k_is)
  (case z_int => k_is)
  (case z_isinstance => k_is)
  (case z_len => k_is)
  (case z_list => k_is)
  (case z_max => k_is)
  (case z_min => k_is)
  (case z_set => k_is)
  (case z_sorted => k_is)
  (case z_tuple => k_is)
