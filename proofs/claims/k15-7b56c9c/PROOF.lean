import PyProof.Rows.All
import Wide.All
import OpenK.AllK
import Wide.FinOn
import Lean
import PyProof.EqAt
import PyProof.EqKinds
import PyProof.TupleCall
import PySem.Challenge.RW_cratefit_k15_related
set_option Elab.async false
set_option linter.all false
set_option maxRecDepth 100000
namespace L2
open PySem PySem.Spec PyProof.Rows
abbrev Key := Sum Int Str
def keyIs : Key → Value → Bool
 | .inl k, v => Value.isInt k v
 | .inr x, v => Value.isStrOf x v
def keyH (w : World) : Key → Int
 | .inl k => hashInt k
 | .inr x => hashStr w x
theorem keyIs_shape : ∀ {k : Key} {v : Value}, keyIs k v = true → (∃ i t, k = Sum.inl i ∧ v = Value.int i t) ∨ (∃ x t, k = Sum.inr x ∧ v = Value.str x t)
 | .inl i, v, h => by
  obtain ⟨t, e⟩ := Value.isInt_shape (k := i) (v := v) h
  exact .inl ⟨i, t, rfl, e⟩
 | .inr x, v, h => by
  obtain ⟨t, e⟩ := Value.isStrOf_shape (x := x) (v := v) h
  exact .inr ⟨x, t, rfl, e⟩
theorem key_ll (a b : Int) : decide ((Sum.inl a : Key) = Sum.inl b) = (a == b) := by
 by_cases e : a = b
 ·subst e; simp
 ·have h : ¬ (Sum.inl a : Key) = Sum.inl b := fun q => e (Sum.inl.inj q)
  rw [decide_eq_false h]
  exact (beq_eq_false_iff_ne.mpr e).symm
theorem key_rr (a b : Str) : decide ((Sum.inr a : Key) = Sum.inr b) = decide (a = b) := by
 by_cases e : a = b
 ·subst e; simp
 ·have h : ¬ (Sum.inr a : Key) = Sum.inr b := fun q => e (Sum.inr.inj q)
  rw [decide_eq_false h, decide_eq_false e]
theorem key_lr (a : Int) (b : Str) : decide ((Sum.inl a : Key) = Sum.inr b) = false := decide_eq_false (fun q => nomatch q)
theorem key_rl (a : Str) (b : Int) : decide ((Sum.inr a : Key) = Sum.inl b) = false := decide_eq_false (fun q => nomatch q)
def mixKind (prog : Program) (w : World) : PySem.KeyKind prog w Key where
 is := keyIs
 hash := keyH w
 inj := fun v a b ha hb => by
  rcases keyIs_shape ha with ⟨i, t, rfl, rfl⟩ | ⟨x, t, rfl, rfl⟩
  ·rcases keyIs_shape hb with ⟨j, u, rfl, e⟩ | ⟨y, u, rfl, e⟩
   ·injection e with e1 _; rw [e1]
   ·exact nomatch e
  ·rcases keyIs_shape hb with ⟨j, u, rfl, e⟩ | ⟨y, u, rfl, e⟩
   ·exact nomatch e
   ·injection e with e1 _; rw [e1]
 byValue := fun k v h => by
  rcases keyIs_shape h with ⟨i, t, rfl, rfl⟩ | ⟨x, t, rfl, rfl⟩ <;> rfl
 pyHash := fun hv h => by
  rcases keyIs_shape hv with ⟨i, t, rfl, rfl⟩ | ⟨x, t, rfl, rfl⟩
  ·exact wpAny_pyHash_int h
  ·exact wpAny_pyHash_str h
 eqBool := fun hu hv h => by
  rcases keyIs_shape hu with ⟨i, t, rfl, rfl⟩ | ⟨x, t, rfl, rfl⟩
  ·rcases keyIs_shape hv with ⟨j, u, rfl, rfl⟩ | ⟨y, u, rfl, rfl⟩
   ·rw [key_ll] at h; exact wpAny_eqBool_int h
   ·rw [key_lr] at h; exact SeqAt.EqAt.int_str i t y u _ _ _ _ h
  ·rcases keyIs_shape hv with ⟨j, u, rfl, rfl⟩ | ⟨y, u, rfl, rfl⟩
   ·rw [key_rl] at h; exact SeqAt.EqAt.str_int x t j u _ _ _ _ h
   ·rw [key_rr] at h; exact wpAny_eqBool_str h
 «strs» := fun k x t v h => by
  rcases keyIs_shape h with ⟨i, u, rfl, e⟩ | ⟨y, u, rfl, e⟩
  ·exact nomatch e
  ·injection e with e1 _
   subst e1
   cases v <;> rfl
inductive V where
 | non | bl (b : Bool) | int (i : Int) | str (x : Str) | byt (b : Array UInt8) | flt (b : UInt64) | ref (a : Addr) | ty (n : String)
 deriving DecidableEq
def RelV : V → Value → Prop
 | .non, u => u = Value.none
 | .bl b, u => u = Value.bool b
 | .int i, u => ∃ t, u = Value.int i t
 | .str x, u => ∃ t, u = Value.str x t
 | .byt b, u => ∃ t, u = Value.bytes b t
 | .flt b, u => ∃ t, u = Value.float b t
 | .ref a, u => u = Value.ref a
 | .ty n, u => u = Value.type n
abbrev Vals : List V → List Value → Prop := Paired RelV
theorem Vals.length {xs : List V} {us : List Value} (r : Vals xs us) : xs.length = us.length := Paired.length r
theorem Vals.get : ∀ {xs : List V} {us : List Value} {i : Nat} {x : V}, Vals xs us → xs[i]? = some x → ∃ u, us[i]? = some u ∧ RelV x u
 | _, _, _, _, .nil, e => by simp at e
 | _, _, 0, _, .cons r _, e => by simp at e; subst e; exact ⟨_, rfl, r⟩
 | _, _, i + 1, x, .cons _ t, e => by
  obtain ⟨u, h1, h2⟩ := Vals.get (i := i) (x := x) t (by simpa using e)
  exact ⟨u, by simpa using h1, h2⟩
theorem Vals.set {x : V} {u : Value} (r : RelV x u) : ∀ {xs : List V} {us : List Value} (i : Nat), Vals xs us → Vals (xs.set i x) (us.set i u)
 | _, _, _, .nil => .nil
 | _, _, 0, .cons _ t => .cons r t
 | _, _, i + 1, .cons q t => .cons q (Vals.set r i t)
theorem Vals.append : ∀ {xs ys : List V} {us ws : List Value}, Vals xs us → Vals ys ws → Vals (xs ++ ys) (us ++ ws)
 | _, _, _, _, .nil, s => s
 | _, _, _, _, .cons r t, s => .cons r (Vals.append t s)
theorem Vals.take : ∀ {xs : List V} {us : List Value} (n : Nat), Vals xs us → Vals (xs.take n) (us.take n)
 | _, _, 0, _ => .nil
 | _, _, _ + 1, .nil => .nil
 | _, _, n + 1, .cons r t => .cons r (Vals.take n t)
theorem Vals.drop : ∀ {xs : List V} {us : List Value} (n : Nat), Vals xs us → Vals (xs.drop n) (us.drop n)
 | _, _, 0, r => r
 | _, _, _ + 1, .nil => .nil
 | _, _, n + 1, .cons _ t => Vals.drop n t
def RelO : Option V → Option Value → Prop
 | some v, some u => RelV v u
 | none, none => True
 | _, _ => False
def KV {κ : Type} : List (κ × V) → List (κ × Value) → Prop := Paired fun (p : κ × V) (q : κ × Value) => p.1 = q.1 ∧ RelV p.2 q.2
def kV : Key → V
 | .inl i => .int i
 | .inr x => .str x
inductive HO where
 /-- a list -/
 | lst (xs : List V)
 /-- a tuple (never changes) -/
 | tup (xs : List V)
 /-- a dict whose keys are ints and texts; one whose keys are tuples of ints and texts (the empty one is both) -/
 | dK (kvs : List (Key × V)) | dT (kvs : List (List Key × V))
 /-- a set of ints: its members, its size -/
 | set (S : Int → Bool) (n : Nat)
 /-- an instance of the class at C, its dict at dx, its attributes -/
 | ins (C dx : Addr) (fs : List (Str × V))
 /-- the dict of the instance at x -/
 | own (x : Addr)
 /-- the dict of an exception -/
 | xd (fs : List (Str × V))
 /-- a bound method, f of x -/
 | met (f x : Addr)
 /-- a range object lo, lo + 1, .. below hi -/
 | rng (lo hi : Int)
 /-- a thing that is known to the object (the script; a dict while a loop walks it): read, never written while it is so -/
 | frz (o : Obj) (u : HO)
 /-- a code object's table -/
 | tbl (ps : Array Value)
 /-- any other thing, by what is true of its one object (a def of one's own: SetO a S n := HO.ext fun h => ..) -/
 | ext (φ : Heap → Prop)
abbrev Hp := Addr → Option HO
def upd (H : Hp) (a : Addr) (o : HO) : Hp := fun b => if b = a then some o else H b
theorem upd_same {H : Hp} {a : Addr} {o : HO} : upd H a o a = some o := by unfold upd; rw [if_pos rfl]
theorem upd_ne {H : Hp} {a b : Addr} {o : HO} (h : b ≠ a) : upd H a o b = H b := by unfold upd; rw [if_neg h]
theorem ne_of {H : Hp} {a b : Addr} {o u : HO} (h : H a = some o) (h' : H b = some u) (d : o ≠ u) : a ≠ b := by
 intro e; subst e; rw [h] at h'; exact d (Option.some.inj h')
theorem ne_of_none {H : Hp} {a b : Addr} {o : HO} (h : H a = some o) (h' : H b = none) : a ≠ b := by
 intro e; subst e; rw [h] at h'; cases h'
section
variable (P : Program) (w : World)
def ObjOk (H : Hp) (h : Heap) (a : Addr) : HO → Prop
 | .lst xs => xs.length ≤ sizeLine ∧ ∃ (its : List Value) (n : Nat), Vals xs its ∧ h.get? a = some { cls := .type "list", data := .seq its.toArray n }
 | .tup xs => xs.length ≤ sizeLine ∧ ∃ its : List Value, Vals xs its ∧ IsTup h a its.toArray
 | .dK kvs => kvs.length ≤ sizeLine ∧ (a == sysModules) = false ∧ ∃ vs, KV kvs vs ∧ h.DictOf (mixKind P w) a vs
 | .dT kvs => kvs.length ≤ sizeLine ∧ (a == sysModules) = false ∧ ∃ xs : List (List Key × Addr × Value),
   Paired (fun (p : List Key × V) (q : List Key × Addr × Value) => p.1 = q.1 ∧ H q.2.1 = some (.tup (p.1.map kV)) ∧ RelV p.2 q.2.2) kvs xs ∧
   ∃ o es ep, h.get? a = some o ∧ o.ExactDict ∧ o.data = .dict es ep ∧ es.toList = xs.map (entryOfKey (tupleKind (mixKind P w))) ∧ (xs.map (·.1)).Nodup
 | .set S n => h.SetOf (intKind P w) a S n
 | .ins C dx fs => H dx = some (.own a) ∧ fs.length ≤ 1000 ∧ dx ≠ a ∧ h.get? a = some (W.instObj C dx) ∧
   ∃ mA, h.Ns1 dx mA ∧ (∀ f, RelO (fs.lookup f) (mA f)) ∧ PySem.Within mA (fs.map (·.1))
 | .own _ => ∃ o, h.get? a = some o
 | .xd fs => ∃ mA, h.Ns1 a mA ∧ ∀ f, RelO (fs.lookup f) (mA f)
 | .rng lo hi => ∃ t u v, h.get? a = some { cls := .type "range", data := .fields #[.int lo t, .int hi u, .int 1 v] }
 | .frz o u => h.get? a = some o ∧ ObjOk H h a u
 | .tbl ps => h.get? a = some { cls := .none, data := .fields ps }
 | .met f x => h.get? a = some (W.methodObj (.ref f) (.ref x))
 | .ext φ => φ h ∧ (∃ o, h.get? a = some o) ∧ ∀ h1 h2 : Heap, φ h1 → (∀ o, h1.get? a = some o → h2.get? a = some o) → φ h2
def HOk (H : Hp) (h : Heap) : Prop := ∀ a o, H a = some o → ObjOk P w H h a o
end
section
variable {P : Program} {w : World} {H H' : Hp} {h h' : Heap} {a : Addr} {o : HO}
theorem ObjOk.lt (x : ObjOk P w H h a o) : a < h.objs.size := by
 cases o with
 | lst xs => obtain ⟨_, _, _, _, e⟩ := x; exact Heap.lt_size e
 | tup xs => obtain ⟨_, _, _, p⟩ := x; exact p.lt
 | dK kvs => obtain ⟨_, _, _, _, o, _, _, e, _⟩ := x; exact Heap.lt_size e
 | dT kvs => obtain ⟨_, _, _, _, o, _, _, e, _⟩ := x; exact Heap.lt_size e
 | set S n => obtain ⟨o, _, _, _, e, _⟩ := x; exact Heap.lt_size e
 | ins C dx fs => obtain ⟨_, _, _, e, _⟩ := x; exact Heap.lt_size e
 | own y => obtain ⟨_, e⟩ := x; exact Heap.lt_size e
 | xd fs => obtain ⟨_, ⟨_, _, _, e, _⟩, _⟩ := x; exact Heap.lt_size e
 | rng lo hi => obtain ⟨_, _, _, e⟩ := x; exact Heap.lt_size e
 | frz ob u => obtain ⟨e, _⟩ := x; exact Heap.lt_size e
 | tbl ps => exact Heap.lt_size (show h.get? a = some _ from x)
 | met f y => exact Heap.lt_size (show h.get? a = some _ from x)
 | ext φ => obtain ⟨_, ⟨_, e⟩, _⟩ := x; exact Heap.lt_size e
theorem Paired.mapP {α β : Type} {F G : α → β → Prop} : ∀ {l₁ : List α} {l₂ : List β}, Paired F l₁ l₂ → (∀ a b, F a b → G a b) → Paired G l₁ l₂
 | _, _, .nil, _ => .nil
 | _, _, .cons r t, f => .cons (f _ _ r) (Paired.mapP t f)
theorem ObjOk.stay (x : ObjOk P w H h a o) (k : ∀ b u, (b = a ∨ H b = some (.own a)) → h.get? b = some u → h'.get? b = some u)
  (ho : ∀ b, H b = some (.own a) → H' b = some (.own a)) (ht : ∀ b xs, H b = some (.tup xs) → H' b = some (.tup xs)) : ObjOk P w H' h' a o := by
 induction o with
 | lst xs => obtain ⟨z, its, n, r, e⟩ := x; exact ⟨z, its, n, r, k _ _ (.inl rfl) e⟩
 | tup xs => obtain ⟨z, its, r, ob, e, c⟩ := x; exact ⟨z, its, r, ob, k _ _ (.inl rfl) e, c⟩
 | dK kvs => obtain ⟨z, y, vs, r, ob, es, ep, e, c⟩ := x; exact ⟨z, y, vs, r, ob, es, ep, k _ _ (.inl rfl) e, c⟩
 | dT kvs =>
  obtain ⟨z, y, xs, r, ob, es, ep, e, c⟩ := x
  exact ⟨z, y, xs, Paired.mapP r fun p q z => ⟨z.1, ht _ _ z.2.1, z.2.2⟩, ob, es, ep, k _ _ (.inl rfl) e, c⟩
 | set S n => obtain ⟨ob, es, ep, t, e, c⟩ := x; exact ⟨ob, es, ep, t, k _ _ (.inl rfl) e, c⟩
 | ins C dx fs =>
  obtain ⟨d, z, ne, e, mA, ⟨od, es, ep, e2, c⟩, r⟩ := x
  exact ⟨ho _ d, z, ne, k _ _ (.inl rfl) e, mA, ⟨od, es, ep, k _ _ (.inr d) e2, c⟩, r⟩
 | own y => obtain ⟨ob, e⟩ := x; exact ⟨ob, k _ _ (.inl rfl) e⟩
 | xd fs => obtain ⟨mA, ⟨od, es, ep, e, c⟩, r⟩ := x; exact ⟨mA, ⟨od, es, ep, k _ _ (.inl rfl) e, c⟩, r⟩
 | rng lo hi => obtain ⟨t, u, v, e⟩ := x; exact ⟨t, u, v, k _ _ (.inl rfl) e⟩
 | frz ob u ih => obtain ⟨e, q⟩ := x; exact ⟨k _ _ (.inl rfl) e, ih q⟩
 | tbl ps =>
  have e : h.get? a = some { cls := .none, data := .fields ps } := x
  show h'.get? a = some { cls := .none, data := .fields ps }
  exact k a _ (.inl rfl) e
 | met f y =>
  have e : h.get? a = some (W.methodObj (.ref f) (.ref y)) := x
  show h'.get? a = some (W.methodObj (.ref f) (.ref y))
  exact k a _ (.inl rfl) e
 | ext φ => obtain ⟨p, ⟨o, e⟩, st⟩ := x; exact ⟨st _ _ p fun o q => k _ _ (.inl rfl) q, ⟨o, k _ _ (.inl rfl) e⟩, st⟩
theorem HOk.lt (x : HOk P w H h) (e : H a = some o) : a < h.objs.size := (x a o e).lt
theorem HOk.fresh (x : HOk P w H h) (e : h.objs.size ≤ a) : H a = none := by
 cases q : H a with
 | none => rfl
 | some u => exact absurd (Nat.lt_of_lt_of_le (x.lt q) e) (Nat.lt_irrefl _)
theorem HOk.kept (x : HOk P w H h) (k : ∀ b u, h.get? b = some u → h'.get? b = some u) : HOk P w H h' := fun a o e =>
 (x a o e).stay (fun b u _ q => k b u q) (fun _ q => q) fun _ _ q => q
theorem HOk.laid (x : HOk P w H h) (k : ∀ b u, h.get? b = some u → h'.get? b = some u) (hp : h.objs.size ≤ a) (new : ObjOk P w (upd H a o) h' a o) : HOk P w (upd H a o) h' := fun b u e => by
 have hn := x.fresh hp
 by_cases hb : b = a
 ·subst hb; rw [upd_same] at e; cases e; exact new
 ·rw [upd_ne hb] at e
  exact (x b u e).stay (fun c v _ q => k c v q) (fun c q => by rw [upd_ne (ne_of_none q hn)]; exact q) fun c xs q => by rw [upd_ne (ne_of_none q hn)]; exact q
end
def Rd (H : Hp) (a : Addr) (u : HO) : Prop := H a = some u ∨ ∃ o, H a = some (.frz o u)
theorem Rd.of {H : Hp} {a : Addr} {u : HO} (h : H a = some u) : Rd H a u := .inl h
theorem Rd.ok {P : Program} {w : World} {H : Hp} {h : Heap} {a : Addr} {u : HO} (r : Rd H a u) (x : HOk P w H h) : ObjOk P w H h a u := by
 rcases r with r | ⟨o, r⟩
 ·exact x a u r
 ·obtain ⟨_, q⟩ := x a _ r
  exact q
def Mut : Option HO → Prop
 | some (.lst _) => True
 | some (.dK _) => True
 | some (.dT _) => True
 | some (.set _ _) => True
 | some (.ins _ _ _) => True
 | some (.ext _) => True
 | _ => False
section
variable {P : Program} {w : World} {H : Hp} {h h' : Heap} {x e : Addr} {o' : HO}
theorem HOk.write (ok : HOk P w H h) (mu : Mut (H x)) (he : e = x ∨ H e = some (.own x)) (k : ∀ b u, b ≠ e → h.get? b = some u → h'.get? b = some u) (heo : ∃ u, h'.get? e = some u)
  (new : ObjOk P w (upd H x o') h' x o') : HOk P w (upd H x o') h' := fun b u q => by
 have nown : ∀ c y, H c = some (.own y) → c ≠ x := fun c y r z => by subst z; rw [r] at mu; exact mu
 have ntup : ∀ c xs, H c = some (.tup xs) → c ≠ x := fun c xs r z => by subst z; rw [r] at mu; exact mu
 by_cases hb : b = x
 ·subst hb; rw [upd_same] at q; cases q; exact new
 ·rw [upd_ne hb] at q
  by_cases hbe : b = e
  ·have q' : H b = some (.own x) := by
    rcases he with z | z
    ·exact absurd (hbe.trans z) hb
    ·rw [hbe]; exact z
   rw [q] at q'; cases q'
   obtain ⟨v, hv⟩ := heo
   exact ⟨v, by rw [hbe]; exact hv⟩
  ·refine (ok b u q).stay (fun c v hc r => k c v ?_ r) (fun c r => by rw [upd_ne (nown c b r)]; exact r) fun c xs r => by rw [upd_ne (ntup c xs r)]; exact r
   rcases hc with rfl | hc
   ·exact hbe
   ·rintro rfl
    rcases he with z | z
    ·exact nown c b hc z
    ·rw [hc] at z; cases z; exact hb rfl
end
structure Un (fs ex : List Addr) (H H' : Hp) (h h' : Heap) : Prop where
 keep : ∀ b o, h.get? b = some o → H b = none → b ∉ fs → b ∉ ex → h'.get? b = some o
 slot : ∀ b o, h.get? b = some o → H b = none → b ∈ fs → b ∉ ex → ∃ sl, h'.get? b = some { o with slots := sl }
 free : ∀ b o, h.get? b = some o → H b = none → b ∉ ex → H' b = none
 there : ∀ b o, h.get? b = some o → b ∉ ex → ∃ o', h'.get? b = some o'
 tups : ∀ b xs, H b = some (.tup xs) → H' b = some (.tup xs)
 frzs : ∀ b o u, H b = some (.frz o u) → H' b = some (.frz o u)
 tbls : ∀ b ps, H b = some (.tbl ps) → ∃ more, H' b = some (.tbl (ps ++ more))
section
variable {fs fs' ex ex' : List Addr} {H H1 H2 : Hp} {h h1 h2 h' : Heap} {a x e : Addr} {o : HO}
theorem Un.any (u : Un fs ex H H1 h h1) {b : Addr} {ob : Obj} (q : h.get? b = some ob) (n : H b = none) (hx : b ∉ ex) : ∃ sl, h1.get? b = some { ob with slots := sl } := by
 by_cases hb : b ∈ fs
 ·exact u.slot b ob q n hb hx
 ·exact ⟨ob.slots, u.keep b ob q n hb hx⟩
theorem Un.trans (a : Un fs ex H H1 h h1) (b : Un fs ex H1 H2 h1 h2) : Un fs ex H H2 h h2 where
 keep := fun c ob q n hc hx => b.keep c ob (a.keep c ob q n hc hx) (a.free c ob q n hx) hc hx
 slot := fun c ob q n hc hx => by
  obtain ⟨sl, e1⟩ := a.slot c ob q n hc hx
  obtain ⟨sl', e2⟩ := b.slot c _ e1 (a.free c ob q n hx) hc hx
  exact ⟨sl', e2⟩
 free := fun c ob q n hx => by
  obtain ⟨o', e1⟩ := a.there c ob q hx
  exact b.free c o' e1 (a.free c ob q n hx) hx
 there := fun c ob q hx => by
  obtain ⟨o', e1⟩ := a.there c ob q hx
  exact b.there c o' e1 hx
 tups := fun c xs q => b.tups c xs (a.tups c xs q)
 frzs := fun c ob xs q => b.frzs c ob xs (a.frzs c ob xs q)
 tbls := fun c ps q => by
  obtain ⟨m1, e1⟩ := a.tbls c ps q
  obtain ⟨m2, e2⟩ := b.tbls c _ e1
  exact ⟨m1 ++ m2, by rw [e2, Array.append_assoc]⟩
theorem Un.kept (k : ∀ b u, h.get? b = some u → h'.get? b = some u) : Un fs ex H H h h' :=
 ⟨fun b ob q _ _ _ => k b ob q, fun b ob q _ _ _ => ⟨ob.slots, k b ob q⟩, fun _ _ _ n _ => n, fun b ob q _ => ⟨ob, k b ob q⟩, fun _ _ q => q, fun _ _ _ q => q, fun _ ps q => ⟨#[], by rw [q]; simp⟩⟩
theorem Un.refl : Un fs ex H H h h := Un.kept fun _ _ q => q
theorem Un.laid (k : ∀ b u, h.get? b = some u → h'.get? b = some u) (hp : h.objs.size ≤ a) (hn : H a = none) : Un fs ex H (upd H a o) h h' where
 keep := fun b u q _ _ _ => k b u q
 slot := fun b u q _ _ _ => ⟨u.slots, k b u q⟩
 free := fun b u q n _ => by rw [upd_ne (Nat.ne_of_lt (Nat.lt_of_lt_of_le (Heap.lt_size q) hp))]; exact n
 there := fun b u q _ => ⟨u, k b u q⟩
 tups := fun b xs q => by rw [upd_ne (ne_of_none q hn)]; exact q
 frzs := fun b u xs q => by rw [upd_ne (ne_of_none q hn)]; exact q
 tbls := fun b ps q => ⟨#[], by rw [upd_ne (ne_of_none q hn), q]; simp⟩
theorem Un.write (mu : Mut (H x)) (he : e = x ∨ H e = some (.own x)) (k : ∀ b u, b ≠ e → h.get? b = some u → h'.get? b = some u) (heo : ∃ u, h'.get? e = some u) : Un fs ex H (upd H x o) h h' := by
 have hx : ∀ b, H b = none → b ≠ x := fun b n z => by subst z; rw [n] at mu; exact mu
 have hb : ∀ b, H b = none → b ≠ e := fun b n z => by
  subst z
  rcases he with r | r
  ·exact hx b n r
  ·rw [n] at r; cases r
 have hm : ∀ b u, H b = some u → ¬ Mut (some u) → b ≠ x := fun b u q nm z => by subst z; rw [q] at mu; exact nm mu
 refine ⟨fun b u q n _ _ => k b u (hb b n) q, fun b u q n _ _ => ⟨u.slots, k b u (hb b n) q⟩, fun b u q n _ => by rw [upd_ne (hx b n)]; exact n, fun b u q _ => ?_,
  fun b xs q => by rw [upd_ne (hm b _ q fun z => z)]; exact q, fun b u xs q => by rw [upd_ne (hm b _ q fun z => z)]; exact q, fun b ps q => ⟨#[], by rw [upd_ne (hm b _ q fun z => z), q]; simp⟩⟩
 by_cases hbe : b = e
 ·subst hbe; exact heo
 ·exact ⟨u, k b u hbe q⟩
theorem Un.mono (u : Un fs ex H H1 h h1) (hs : ∀ b ∈ fs, b ∈ fs') (hx : ∀ b ∈ ex, b ∈ ex') : Un fs' ex' H H1 h h1 :=
 ⟨fun b ob q n hb he => u.keep b ob q n (fun z => hb (hs b z)) fun z => he (hx b z), fun _ _ q n _ he => u.any q n fun z => he (hx _ z), fun b ob q n he => u.free b ob q n fun z => he (hx b z), fun b ob q he => u.there b ob q fun z => he (hx b z), u.tups, u.frzs, u.tbls⟩
end
def trk (h : Heap) (H : Hp) : List Addr := (List.range h.objs.size).filter fun a => (H a).isSome
def hidT (h : Heap) (H : Hp) : Heap := W.hideAll h (trk h H)
theorem hidT_size (h : Heap) (H : Hp) : (hidT h H).objs.size = h.objs.size := W.hideAll_size _ _
theorem hidT_get {h : Heap} {H : Hp} {b : Addr} {o : Obj} (e : h.get? b = some o) (n : H b = none) : (hidT h H).get? b = some o :=
 W.hideAll_get _ e fun hm => by
  have q : (H b).isSome = true := (List.mem_filter.mp hm).2
  rw [n] at q; simp at q
theorem of_hidT {h : Heap} {H : Hp} {b : Addr} {o : Obj} (e : (hidT h H).get? b = some o) : h.get? b = some o ∧ H b = none := by
 have e' : h.get? b = some o := W.of_hideAll (trk h H) e
 refine ⟨e', ?_⟩
 cases q : H b with
 | none => rfl
 | some x =>
  have hm : b ∈ trk h H := List.mem_filter.mpr ⟨List.mem_range.mpr (Heap.lt_size e'), by simp [q]⟩
  have z : (hidT h H).get? b = none := W.hideAll_none (trk h H) hm
  rw [z] at e; cases e
def allNews (g h : Heap) (L : Addr) : List (Addr × Obj) := (List.range h.objs.size).filterMap fun a => if a = L ∨ (g.get? a).isSome = true then none else (h.get? a).map fun o => (a, o)
def rest (g h : Heap) (L d : Addr) : List (Addr × Obj) := (allNews g h L).filter fun p => decide (p.1 ≠ d)
structure Mod (K : W.Frag) (mg : Str → Option Value) (base : Heap) : Prop where
 kin : K.In base
 glob : base.Ns mainGlobals mg
 blt : ∃ mb, base.Ns builtinsNs mb ∧ ∀ x : Str, x ≠ "__name__" → mb x = bootBuiltins x
 nolimit : base.NoLimit
structure Cx where
 prog : Program
 w : World
 K : W.Frag
 mg : Str → Option Value
 base : Heap
 A : Around
 N : List Str
 s₀ : Shared
 H₀ : Hp
 env : Env
 outer : List Env
 stack : List Env
 ex : List Addr
 fn : Str → Bool
 calm : Bool
 pn : List (Addr × Obj)
 xe : Value → Shared → Prop
def frs (l : List Env) : List Addr := l.filterMap (·.frame)
abbrev Cx.fs (X : Cx) : List Addr := frs X.outer
def Vis (sc : Scope) (x : Str) : Prop := sc.names.lookup x = some .local ∨ sc.names.lookup x = some .cell ∨ sc.names.lookup x = some .free
def Loc (sc : Scope) (x : Str) : Prop := sc.names.lookup x = some .local ∨ sc.names.lookup x = some .cell
def Look (env : Env) (h : Heap) (m : Str → Option Value) (x : Str) (u : Value) : Prop :=
 (env.kindOf x = some .local ∧ m x = some u) ∨ ((env.kindOf x = some .cell ∨ env.kindOf x = some .free) ∧ ∃ c, env.cells.lookup x = some c ∧ h.IsCell c (some u))
structure Cx.Ok (X : Cx) : Prop where
 mod : Mod X.K X.mg X.base
 kind : X.env.scope.kind = .function
 glob : X.env.globals = mainGlobals
 blt : X.env.builtins = builtinsNs
 above : X.s₀.heap.objs.size ≤ X.env.locals
 inj : ∀ x y c, X.env.cells.lookup x = some c → X.env.cells.lookup y = some c → x = y
 has : ∀ x, (X.env.kindOf x = some .cell ∨ X.env.kindOf x = some .free) → ∃ c, X.env.cells.lookup x = some c
 cab : ∀ x c, X.fn x = true → X.env.cells.lookup x = some c → X.s₀.heap.objs.size ≤ c
 hd : X.calm = true → X.A.handled = none
 frames : X.A.frames = some X.stack
 stk : X.stack = X.outer ∨ (X.stack = X.env :: X.outer ∧ X.env.frame = some X.env.locals)
 exf : ∀ b ∈ X.ex, b ≠ X.env.locals ∧ ∀ x c, X.env.cells.lookup x = some c → c ≠ b
 bs : ∀ b o, X.base.get? b = some o → X.s₀.heap.get? b = some o ∧ X.H₀ b = none
 bsz : X.base.objs.size ≤ X.s₀.heap.objs.size
 noex : ∀ b o, X.base.get? b = some o → b ∉ X.ex
 exfs : ∀ b ∈ X.ex, b ∉ X.fs
 funs : X.s₀.heap.FunFrames X.base X.outer
 frf : ∀ b ∈ X.fs, X.H₀ b = none
structure Inv (X : Cx) (pins : List (Addr × Obj)) (σ : List (Option V)) (H : Hp) (s : Shared) : Prop where
 ok : X.Ok
 os : s.os = X.s₀.os
 bare : AllBare s.gens
 base : Un X.fs X.ex X.H₀ H X.s₀.heap s.heap
 loc : ∃ m, s.heap.Ns X.env.locals m ∧ ∀ (i : Nat) (x : Str) (v : V), X.N[i]? = some x → σ[i]? = some (some v) → Vis X.env.scope x → ∃ u, RelV v u ∧ Look X.env s.heap m x u
 cell : ∀ x c, X.env.cells.lookup x = some c → ∃ v, s.heap.IsCell c v
 free : H X.env.locals = none
 freeC : ∀ x c, X.env.cells.lookup x = some c → H c = none
 pin : ∀ p ∈ X.pn ++ pins, s.heap.get? p.1 = some p.2 ∧ H p.1 = none ∧ p.1 ≠ X.env.locals ∧ p.1 ∉ X.fs ∧ ∀ v, p.2.data ≠ .cell v
 hok : HOk X.prog X.w H s.heap
 len : σ.length = X.N.length
section
variable {X : Cx} {pins : List (Addr × Obj)} {σ : List (Option V)} {H H' : Hp} {s : Shared} {h' : Heap}
theorem Cx.Ok.nofr (ok : X.Ok) {b : Addr} {o : Obj} (e : X.base.get? b = some o) : b ∉ X.fs := fun hb => by
 have := (ok.funs.mem hb).1
 rw [e] at this; cases this
theorem Inv.bs (I : Inv X pins σ H s) : ∀ b o, X.base.get? b = some o → s.heap.get? b = some o ∧ H b = none := fun b o e =>
 ⟨I.base.keep b o (I.ok.bs b o e).1 (I.ok.bs b o e).2 (I.ok.nofr e) (I.ok.noex b o e), I.base.free b o (I.ok.bs b o e).1 (I.ok.bs b o e).2 (I.ok.noex b o e)⟩
theorem Inv.bk (I : Inv X pins σ H s) : ∀ b o, X.base.get? b = some o → s.heap.get? b = some o := fun b o e => (I.bs b o e).1
theorem Inv.mod (I : Inv X pins σ H s) : Mod X.K X.mg X.base := I.ok.mod
theorem Inv.kIn (I : Inv X pins σ H s) : X.K.In s.heap := I.ok.mod.kin.keeps I.bk
theorem Inv.nolimit (I : Inv X pins σ H s) : s.heap.NoLimit := I.ok.mod.nolimit.keeps I.bk
theorem Inv.fr (I : Inv X pins σ H s) : ∃ m, Fr X.base X.env.locals s.heap m :=
 let ⟨m, hn, _⟩ := I.loc
 ⟨m, hn, I.bk, Nat.le_trans I.ok.bsz I.ok.above⟩
theorem Inv.lt (I : Inv X pins σ H s) : X.env.locals < s.heap.objs.size := let ⟨_, hn, _⟩ := I.loc; hn.lt
theorem Inv.sz (I : Inv X pins σ H s) : X.s₀.heap.objs.size ≤ s.heap.objs.size := Nat.le_trans I.ok.above (Nat.le_of_lt I.lt)
theorem Inv.nofs (I : Inv X pins σ H s) {a : Addr} (h : s.heap.objs.size ≤ a) : a ∉ X.fs := fun hb => by
 obtain ⟨_, o, ho, _⟩ := I.ok.funs.mem hb
 exact absurd (Nat.lt_of_lt_of_le (Heap.lt_size ho) (Nat.le_trans I.sz h)) (Nat.lt_irrefl _)
theorem Inv.cne (I : Inv X pins σ H s) : ∀ x c, X.env.cells.lookup x = some c → c ≠ X.env.locals := fun x c e z => by
 obtain ⟨v, o, ho, hd⟩ := I.cell x c e
 obtain ⟨m, ⟨o', es, ep, ho', hd', _⟩, _⟩ := I.loc
 rw [z, ho'] at ho; cases ho; rw [hd'] at hd; cases hd
theorem Inv.funs (I : Inv X pins σ H s) : s.heap.FunFrames X.base X.outer := by
 have all : ∀ (l : List Env), (∀ b ∈ frs l, b ∈ X.fs) → X.s₀.heap.FunFrames X.base l → s.heap.FunFrames X.base l := by
  intro l
  induction l with
  | nil => intro _ _; trivial
  | cons env r ih =>
   intro hs hl
   obtain ⟨hk, ⟨L, o, hf, hn, ho, hd⟩, hr⟩ := hl
   have hL : L ∈ X.fs := hs L (by unfold frs; rw [List.filterMap_cons, hf]; exact List.mem_cons_self)
   obtain ⟨sl, e⟩ := I.base.slot L o ho (I.ok.frf L hL) hL fun z => I.ok.exfs L z hL
   exact ⟨hk, ⟨L, _, hf, hn, e, hd⟩, ih (fun b hb => hs b (by unfold frs; rw [List.filterMap_cons, hf]; exact List.mem_cons_of_mem _ hb)) hr⟩
 exact all X.outer (fun _ hb => hb) I.ok.funs
theorem Inv.stack (I : Inv X pins σ H s) : s.heap.FunFrames X.base X.stack := by
 rcases I.ok.stk with e | ⟨e, hf⟩
 ·rw [e]; exact I.funs
 ·rw [e]
  obtain ⟨m, hn, _⟩ := I.loc
  refine .cons (by rw [I.ok.kind]; decide) hf hn ?_ I.funs
  exact Heap.get?_none_of_le (Nat.le_trans I.ok.bsz I.ok.above)
theorem Inv.stkSub (I : Inv X pins σ H s) : ∀ b ∈ frs X.stack, b ∈ X.env.locals :: X.fs := fun b hb => by
 rcases I.ok.stk with e | ⟨e, hf⟩
 ·rw [e] at hb; exact List.mem_cons_of_mem _ hb
 ·rw [e] at hb
  unfold frs at hb
  rw [List.filterMap_cons, hf] at hb
  exact hb
theorem Inv.stkFree (I : Inv X pins σ H s) : ∀ b ∈ frs X.stack, H b = none := fun b hb => by
 rcases List.mem_cons.mp (I.stkSub b hb) with e | hb
 ·rw [e]; exact I.free
 ·obtain ⟨_, o, ho, _⟩ := I.ok.funs.mem hb
  exact I.base.free b o ho (I.ok.frf b hb) fun z => I.ok.exfs b z hb
theorem Inv.step {g' : Array GenState} {t' : Nat} {d' : Drawn} {ch : List Addr} (I : Inv X pins σ H s)
  (hch : ∀ b ∈ ch, (b ∈ X.ex ∨ X.s₀.heap.objs.size ≤ b) ∧ b ≠ X.env.locals ∧ (∀ x c, X.env.cells.lookup x = some c → c ≠ b) ∧ ∀ p ∈ X.pn ++ pins, p.1 ≠ b)
  (keep : ∀ b o, b ≠ X.env.locals → b ∉ X.fs → b ∉ ch → s.heap.get? b = some o → H b = none → h'.get? b = some o)
  (slot : ∀ b o, b ≠ X.env.locals → b ∈ X.fs → b ∉ ch → s.heap.get? b = some o → H b = none → ∃ sl, h'.get? b = some { o with slots := sl }) (free : ∀ b o, b ∉ ch → s.heap.get? b = some o → H b = none → H' b = none)
  (there : ∀ b o, b ∉ ch → s.heap.get? b = some o → ∃ o', h'.get? b = some o')
  (tups : ∀ b xs, H b = some (.tup xs) → H' b = some (.tup xs)) (frzs : ∀ b o u, H b = some (.frz o u) → H' b = some (.frz o u)) (tbls : ∀ b ps, H b = some (.tbl ps) → ∃ more, H' b = some (.tbl (ps ++ more)))
  (ns : ∀ m, s.heap.Ns X.env.locals m → h'.Ns X.env.locals m) (hok : HOk X.prog X.w H' h') (hg : AllBare g') :
  Inv X pins σ H' { s with heap := h', gens := g', drawn := d', toks := t' } := by
 have neL : ∀ b o, X.s₀.heap.get? b = some o → b ≠ X.env.locals := fun b o e => Nat.ne_of_lt (Nat.lt_of_lt_of_le (Heap.lt_size e) I.ok.above)
 have neC : ∀ b o, X.s₀.heap.get? b = some o → b ∉ X.ex → b ∉ ch := fun b o e hx hb => by
  rcases (hch b hb).1 with z | z
  ·exact hx z
  ·exact absurd (Nat.lt_of_lt_of_le (Heap.lt_size e) z) (Nat.lt_irrefl _)
 have cellK : ∀ x c, X.env.cells.lookup x = some c → ∀ v, s.heap.IsCell c v → h'.IsCell c v := fun x c e v ⟨o, ho, hd⟩ => by
  have nch : c ∉ ch := fun z => (hch c z).2.2.1 x c e rfl
  by_cases hc : c ∈ X.fs
  ·obtain ⟨sl, q⟩ := slot c o (I.cne x c e) hc nch ho (I.freeC x c e)
   exact ⟨_, q, hd⟩
  ·exact ⟨o, keep c o (I.cne x c e) hc nch ho (I.freeC x c e), hd⟩
 refine ⟨I.ok, I.os, hg, ⟨fun b o e n hb hx => ?_, fun b o e n hb hx => ?_, fun b o e n hx => ?_, fun b o e hx => ?_, fun b xs e => tups b xs (I.base.tups b xs e), fun b o xs e => frzs b o xs (I.base.frzs b o xs e), fun b ps e => ?_⟩, ?_, fun x c e => ?_, ?_, fun x c e => ?_, fun p hp => ?_, hok, I.len⟩
 ·exact keep b o (neL b o e) hb (neC b o e hx) (I.base.keep b o e n hb hx) (I.base.free b o e n hx)
 ·obtain ⟨sl, e1⟩ := I.base.slot b o e n hb hx
  obtain ⟨sl', e2⟩ := slot b _ (neL b o e) hb (neC b o e hx) e1 (I.base.free b o e n hx)
  exact ⟨sl', e2⟩
 ·obtain ⟨o', e1⟩ := I.base.there b o e hx
  exact free b o' (neC b o e hx) e1 (I.base.free b o e n hx)
 ·obtain ⟨o', e1⟩ := I.base.there b o e hx
  exact there b o' (neC b o e hx) e1
 ·obtain ⟨m1, e1⟩ := I.base.tbls b ps e
  obtain ⟨m2, e2⟩ := tbls b _ e1
  exact ⟨m1 ++ m2, by rw [e2, Array.append_assoc]⟩
 ·obtain ⟨m, hn, hl⟩ := I.loc
  refine ⟨m, ns m hn, fun i x v e1 e2 e3 => ?_⟩
  obtain ⟨u, r, l⟩ := hl i x v e1 e2 e3
  refine ⟨u, r, ?_⟩
  rcases l with l | ⟨k, c, e, z⟩
  ·exact .inl l
  ·exact .inr ⟨k, c, e, cellK x c e _ z⟩
 ·obtain ⟨v, z⟩ := I.cell x c e
  exact ⟨v, cellK x c e v z⟩
 ·obtain ⟨m, ⟨o, _, _, ho, _⟩, _⟩ := I.loc
  exact free _ o (fun z => (hch _ z).2.1 rfl) ho I.free
 ·obtain ⟨v, o, ho, hd⟩ := I.cell x c e
  exact free c o (fun z => (hch c z).2.2.1 x c e rfl) ho (I.freeC x c e)
 ·obtain ⟨e, n, ne, nf, d⟩ := I.pin p hp
  have nch : p.1 ∉ ch := fun z => (hch p.1 z).2.2.2 p hp rfl
  exact ⟨keep p.1 p.2 ne nf nch e n, free p.1 p.2 nch e n, ne, nf, d⟩
theorem Inv.un {t' : Nat} (I : Inv X pins σ H s) (u : Un X.fs [] H H' s.heap h') (hok : HOk X.prog X.w H' h') : Inv X pins σ H' { s with heap := h', toks := t' } := by
 obtain ⟨m, ⟨o, es, ep, ho, r⟩, _⟩ := id I.loc
 obtain ⟨sl, hL⟩ := u.any ho I.free (by simp)
 exact I.step (g' := s.gens) (d' := s.drawn) (ch := []) (fun _ z => nomatch z) (fun b o _ hb _ e n => u.keep b o e n hb (by simp)) (fun b o _ hb _ e n => u.slot b o e n hb (by simp)) (fun b o _ e n => u.free b o e n (by simp)) (fun b o _ e => u.there b o e (by simp)) u.tups u.frzs u.tbls (fun m' hm => by
  obtain ⟨o', es', ep', ho', r'⟩ := hm
  rw [ho] at ho'; cases ho'
  exact ⟨_, es', ep', hL, r'⟩) hok I.bare
theorem Inv.call {g' : Array GenState} {t' : Nat} {d' : Drawn} {ch : List Addr} (I : Inv X pins σ H s) (u : Un (frs X.stack) ch H H' s.heap h') (hok : HOk X.prog X.w H' h') (hg : AllBare g')
  (hch : ∀ b ∈ ch, (b ∈ X.ex ∨ X.s₀.heap.objs.size ≤ b) ∧ b ≠ X.env.locals ∧ (∀ x c, X.env.cells.lookup x = some c → c ≠ b) ∧ ∀ p ∈ X.pn ++ pins, p.1 ≠ b) :
  Inv X pins σ H' { s with heap := h', gens := g', drawn := d', toks := t' } := by
 obtain ⟨m, ⟨o, es, ep, ho, r⟩, _⟩ := id I.loc
 obtain ⟨sl, hL⟩ := u.any ho I.free fun z => (hch _ z).2.1 rfl
 exact I.step (ch := ch) hch (fun b o hL hb hc e n => u.keep b o e n (fun z => (List.mem_cons.mp (I.stkSub b z)).elim hL hb) hc) (fun b o _ _ hc e n => u.any e n hc) (fun b o hc e n => u.free b o e n hc) (fun b o hc e => u.there b o e hc) u.tups u.frzs u.tbls (fun m' hm => by
  obtain ⟨o', es', ep', ho', r'⟩ := hm
  rw [ho] at ho'; cases ho'
  exact ⟨_, es', ep', hL, r'⟩) hok hg
theorem Inv.turned {t' : Nat} {it : Addr} (I : Inv X pins σ H s) (k : ∀ b o, b ≠ it → s.heap.get? b = some o → h'.get? b = some o) (hn : H it = none) (hL : it ≠ X.env.locals)
  (h1 : it ∈ X.ex ∨ X.s₀.heap.objs.size ≤ it) (h2 : ∀ x c, X.env.cells.lookup x = some c → c ≠ it) (h3 : ∀ p ∈ X.pn ++ pins, p.1 ≠ it) : Inv X pins σ H { s with heap := h', toks := t' } := by
 have nit : ∀ b u, H b = some u → b ≠ it := fun b u e z => by rw [z, hn] at e; cases e
 refine I.step (g' := s.gens) (d' := s.drawn) (ch := [it]) (fun b hb => ?_) (fun b o _ _ hc e _ => k b o (fun z => hc (by simp [z])) e) (fun b o _ _ hc e _ => ⟨o.slots, k b o (fun z => hc (by simp [z])) e⟩) (fun _ _ _ _ n => n)
  (fun b o hc e => ⟨o, k b o (fun z => hc (by simp [z])) e⟩) (fun _ _ e => e) (fun _ _ _ e => e) (fun b ps e => ⟨#[], by rw [e]; simp⟩) (fun m hm => ?_) (fun b u e => ?_) I.bare
 ·have e : b = it := by simpa using hb
  subst e
  exact ⟨h1, hL, h2, h3⟩
 ·obtain ⟨o, es, ep, ho, r⟩ := hm
  exact ⟨o, es, ep, k _ o (Ne.symm hL) ho, r⟩
 ·refine (I.hok b u e).stay (fun c v hc q => k c v ?_ q) (fun _ q => q) fun _ _ q => q
  rcases hc with z | z
  ·rw [z]; exact nit b u e
  ·exact nit c _ z
theorem Inv.tok (I : Inv X pins σ H s) (t : Nat) : Inv X pins σ H { s with toks := t } := I.un (h' := s.heap) (t' := t) Un.refl I.hok
theorem Inv.kept {t' : Nat} (I : Inv X pins σ H s) (k : ∀ b u, s.heap.get? b = some u → h'.get? b = some u) : Inv X pins σ H { s with heap := h', toks := t' } := I.un (Un.kept k) (I.hok.kept k)
theorem Inv.laid {a : Addr} {o : HO} {t' : Nat} (I : Inv X pins σ H s) (k : ∀ b u, s.heap.get? b = some u → h'.get? b = some u) (hp : s.heap.objs.size ≤ a) (new : ObjOk X.prog X.w (upd H a o) h' a o) :
  Inv X pins σ (upd H a o) { s with heap := h', toks := t' } := I.un (Un.laid k hp (I.hok.fresh hp)) (I.hok.laid k hp new)
theorem Inv.write {x e : Addr} {o : HO} {t' : Nat} (I : Inv X pins σ H s) (mu : Mut (H x)) (he : e = x ∨ H e = some (.own x)) (k : ∀ b u, b ≠ e → s.heap.get? b = some u → h'.get? b = some u) (heo : ∃ u, h'.get? e = some u)
  (new : ObjOk X.prog X.w (upd H x o) h' x o) : Inv X pins σ (upd H x o) { s with heap := h', toks := t' } := I.un (Un.write mu he k heo) (I.hok.write mu he k heo new)
theorem Inv.weak {σ' : List (Option V)} (I : Inv X pins σ H s) (hl : σ'.length = σ.length) (w : ∀ (i : Nat) v, σ'[i]? = some (some v) → σ[i]? = some (some v)) : Inv X pins σ' H s :=
 ⟨I.ok, I.os, I.bare, I.base, let ⟨m, hn, hl'⟩ := I.loc; ⟨m, hn, fun i x v e1 e2 e3 => hl' i x v e1 (w i v e2) e3⟩, I.cell, I.free, I.freeC, I.pin, I.hok, hl.trans I.len⟩
theorem Inv.pins_of {pins' : List (Addr × Obj)} (I : Inv X pins σ H s) (h : ∀ p ∈ pins', s.heap.get? p.1 = some p.2 ∧ H p.1 = none ∧ p.1 ≠ X.env.locals ∧ p.1 ∉ X.fs ∧ ∀ v, p.2.data ≠ .cell v) : Inv X pins' σ H s :=
 ⟨I.ok, I.os, I.bare, I.base, I.loc, I.cell, I.free, I.freeC, fun p hp => (List.mem_append.mp hp).elim (fun z => I.pin p (List.mem_append_left _ z)) (h p), I.hok, I.len⟩
theorem nodup_ix {N : List Str} (hN : N.Nodup) {i j : Nat} {x : Str} (a : N[i]? = some x) (b : N[j]? = some x) : i = j := by
 obtain ⟨h1, e1⟩ := List.getElem?_eq_some_iff.mp a
 obtain ⟨h2, e2⟩ := List.getElem?_eq_some_iff.mp b
 exact (List.getElem_inj hN).mp (e1.trans e2.symm)
theorem store_ok2 {M : Model} {A : Around} {E : Value → Shared → Prop} {i : Nat} {x : Str} {v : V} {u : Value} {Q : Unit → Shared → Prop} (I : Inv X pins σ H s) (hN : X.N.Nodup) (hi : X.N[i]? = some x) (hx : Loc X.env.scope x) (r : RelV v u)
  (h : ∀ s', Inv X pins (σ.set i (some v)) H s' → (∃ a, Heap.SameBut a s.heap s'.heap ∧ (a = X.env.locals ∨ X.env.cells.lookup x = some a)) → Q () s') (hf : X.fn x = true ∨ X.env.scope.names.lookup x = some .local := by first | exact .inl rfl | exact .inr rfl | assumption) : wpAny M A (storeName X.env x u) Q E s := by
 obtain ⟨m, hn, hl⟩ := id I.loc
 have hcls : (X.env.scope.kind == .class || (X.env.scope.kind == .module && X.env.locals != X.env.globals)) = false := by rw [I.ok.kind]; rfl
 have hiσ : i < σ.length := by rw [I.len]; exact (List.getElem?_eq_some_iff.mp hi).1
 have cne := I.cne
 have tracked : ∀ {a : Addr} {h' : Heap}, (∃ o, s.heap.get? a = some o ∧ H a = none) → Heap.SameBut a s.heap h' → HOk X.prog X.w H h' := fun {a h'} ha hs b ob e => by
  obtain ⟨_, _, hfree⟩ := ha
  refine (I.hok b ob e).stay (fun c w' hc q => (hs.2 c ?_).trans q) (fun _ q => q) fun _ _ q => q
  rintro rfl
  rcases hc with rfl | hc
  ·rw [hfree] at e; cases e
  ·rw [hfree] at hc; cases hc
 rcases hx with hk | hk
 ·refine wpAny_storeName_local hk hn (fun h' hn' hs => ?_) hcls
  obtain ⟨oL, _, _, hoL, _⟩ := id hn
  refine h _ ⟨I.ok, I.os, I.bare, ⟨fun b o e n hb hx => ?_, fun b o e n hb hx => ?_, I.base.free, fun b o e hx => ?_, I.base.tups, I.base.frzs, I.base.tbls⟩, ⟨_, hn', fun j y v' e1 e2 e3 => ?_⟩, fun y c e => ?_, I.free, I.freeC, fun p hp => ?_, tracked ⟨oL, hoL, I.free⟩ hs, by simpa using I.len⟩ ⟨_, hs, .inl rfl⟩
  ·exact (hs.2 b (Nat.ne_of_lt (Nat.lt_of_lt_of_le (Heap.lt_size e) I.ok.above))).trans (I.base.keep b o e n hb hx)
  ·obtain ⟨sl, e1⟩ := I.base.slot b o e n hb hx
   exact ⟨sl, (hs.2 b (Nat.ne_of_lt (Nat.lt_of_lt_of_le (Heap.lt_size e) I.ok.above))).trans e1⟩
  ·obtain ⟨o', e1⟩ := I.base.there b o e hx
   exact ⟨o', (hs.2 b (Nat.ne_of_lt (Nat.lt_of_lt_of_le (Heap.lt_size e) I.ok.above))).trans e1⟩
  ·by_cases hj : j = i
   ·subst hj
    rw [hi] at e1; cases e1
    rw [List.getElem?_set_self hiσ] at e2
    cases e2
    exact ⟨u, r, .inl ⟨hk, by simp⟩⟩
   ·rw [List.getElem?_set_ne (Ne.symm hj)] at e2
    obtain ⟨u', r', q⟩ := hl j y v' e1 e2 e3
    refine ⟨u', r', ?_⟩
    rcases q with ⟨k, e⟩ | ⟨k, c, e, z⟩
    ·refine .inl ⟨k, ?_⟩
     have : y ≠ x := fun e => hj (nodup_ix hN e1 (e ▸ hi))
     simp [this, e]
    ·exact .inr ⟨k, c, e, z.sameBut hs (cne y c e)⟩
  ·obtain ⟨w', z⟩ := I.cell y c e
   exact ⟨w', z.sameBut hs (cne y c e)⟩
  ·obtain ⟨e, n, ne, nf, d⟩ := I.pin p hp
   exact ⟨(hs.2 p.1 ne).trans e, n, ne, nf, d⟩
 ·have hfn : X.fn x = true := by
   rcases hf with z | z
   ·exact z
   ·rw [z] at hk; cases hk
  obtain ⟨c, hc⟩ := I.ok.has x (.inl hk)
  obtain ⟨w', z⟩ := I.cell x c hc
  refine wpAny_storeName_cell I.ok.kind hk hc z (fun h' hc' hs => ?_)
  obtain ⟨oc, hoc, hocd⟩ := id z
  refine h { s with heap := h' } ⟨I.ok, I.os, I.bare, ⟨fun b o e n hb hx => ?_, fun b o e n hb hx => ?_, I.base.free, fun b o e hx => ?_, I.base.tups, I.base.frzs, I.base.tbls⟩, ⟨m, hn.sameBut hs (Ne.symm (cne x c hc)), fun j y v' e1 e2 e3 => ?_⟩, fun y c' e => ?_, I.free, I.freeC, fun p hp => ?_, tracked ⟨oc, hoc, I.freeC x c hc⟩ hs, by simpa using I.len⟩ ⟨c, hs, .inr hc⟩
  ·exact (hs.2 b (Nat.ne_of_lt (Nat.lt_of_lt_of_le (Heap.lt_size e) (I.ok.cab x c hfn hc)))).trans (I.base.keep b o e n hb hx)
  ·obtain ⟨sl, e1⟩ := I.base.slot b o e n hb hx
   exact ⟨sl, (hs.2 b (Nat.ne_of_lt (Nat.lt_of_lt_of_le (Heap.lt_size e) (I.ok.cab x c hfn hc)))).trans e1⟩
  ·obtain ⟨o', e1⟩ := I.base.there b o e hx
   exact ⟨o', (hs.2 b (Nat.ne_of_lt (Nat.lt_of_lt_of_le (Heap.lt_size e) (I.ok.cab x c hfn hc)))).trans e1⟩
  ·by_cases hj : j = i
   ·subst hj
    rw [hi] at e1; cases e1
    rw [List.getElem?_set_self hiσ] at e2
    cases e2
    exact ⟨u, r, .inr ⟨.inl hk, c, hc, hc'⟩⟩
   ·rw [List.getElem?_set_ne (Ne.symm hj)] at e2
    obtain ⟨u', r', q⟩ := hl j y v' e1 e2 e3
    refine ⟨u', r', ?_⟩
    rcases q with q | ⟨k, c', e, z'⟩
    ·exact .inl q
    ·refine .inr ⟨k, c', e, z'.sameBut hs ?_⟩
     rintro rfl
     exact hj (nodup_ix hN e1 (I.ok.inj _ _ _ e hc ▸ hi))
  ·by_cases hcc : c' = c
   ·subst hcc; exact ⟨_, hc'⟩
   ·obtain ⟨w2, z2⟩ := I.cell y c' e
    exact ⟨w2, z2.sameBut hs hcc⟩
  ·obtain ⟨e, n, ne, nf, d⟩ := I.pin p hp
   refine ⟨(hs.2 p.1 ?_).trans e, n, ne, nf, d⟩
   intro q
   rw [q, hoc] at e
   have q' : oc = p.2 := Option.some.inj e
   exact d w' (by rw [← q']; exact hocd)
theorem store_ok {M : Model} {A : Around} {E : Value → Shared → Prop} {i : Nat} {x : Str} {v : V} {u : Value} {Q : Unit → Shared → Prop} (I : Inv X pins σ H s) (hN : X.N.Nodup) (hi : X.N[i]? = some x) (hx : Loc X.env.scope x) (r : RelV v u)
  (h : ∀ s', Inv X pins (σ.set i (some v)) H s' → Q () s') (hf : X.fn x = true ∨ X.env.scope.names.lookup x = some .local := by first | exact .inl rfl | exact .inr rfl | assumption) : wpAny M A (storeName X.env x u) Q E s :=
 store_ok2 I hN hi hx r (fun s' I' _ => h s' I') hf
theorem Inv.call' {s' : Shared} {ch : List Addr} (I : Inv X pins σ H s) (ho : s'.os = s.os) (u : Un (frs X.stack) ch H H' s.heap s'.heap) (hok : HOk X.prog X.w H' s'.heap) (hg : AllBare s'.gens)
  (hch : ∀ b ∈ ch, (b ∈ X.ex ∨ X.s₀.heap.objs.size ≤ b) ∧ b ≠ X.env.locals ∧ (∀ x c, X.env.cells.lookup x = some c → c ≠ b) ∧ ∀ p ∈ X.pn ++ pins, p.1 ≠ b) : Inv X pins σ H' s' := by
 obtain ⟨h', g', d', t', o'⟩ := s'
 have e : o' = s.os := ho
 subst e
 exact I.call (g' := g') (t' := t') (d' := d') u hok hg hch
end
abbrev XK := Value → Option Addr → Hp → Prop
abbrev St := List (Option V)
abbrev VK := V → Hp → Prop
abbrev TE := St → Hp → VK → Prop
abbrev TT := St → Hp → (Bool → Hp → Prop) → Prop
abbrev TA := St → Hp → (List V → Hp → Prop) → Prop
structure Ends where
 nx : St → Hp → Prop
 rt : VK
 bk : St → Hp → Prop := fun _ _ => False
 ct : St → Hp → Prop := fun _ _ => False
abbrev TS := Ends → St → Hp → Prop
def EP (X : Cx) (pins : List (Addr × Obj)) (σ : St) (Q : VK) (u : Value) (s' : Shared) : Prop := ∃ v H', Inv X pins σ H' s' ∧ RelV v u ∧ Q v H'
def TP (X : Cx) (pins : List (Addr × Obj)) (σ : St) (Q : Bool → Hp → Prop) (b : Bool) (s' : Shared) : Prop := ∃ H', Inv X pins σ H' s' ∧ Q b H'
def AP (X : Cx) (pins : List (Addr × Obj)) (σ : St) (Q : List V → Hp → Prop) (us : List Value) (s' : Shared) : Prop := ∃ vs H', Inv X pins σ H' s' ∧ Vals vs us ∧ Q vs H'
def SP (X : Cx) (pins : List (Addr × Obj)) (D : Ends) (f : Flow) (s' : Shared) : Prop :=
 match f with
 | .next => ∃ σ' H', Inv X pins σ' H' s' ∧ D.nx σ' H'
 | .brk => ∃ σ' H', Inv X pins σ' H' s' ∧ D.bk σ' H'
 | .cont => ∃ σ' H', Inv X pins σ' H' s' ∧ D.ct σ' H'
 | .ret u => ∃ v σ' H', Inv X pins σ' H' s' ∧ RelV v u ∧ D.rt v H'
def PE (X : Cx) (e : Expr) (t : TE) : Prop :=
 ∀ (pins : List (Addr × Obj)) (s : Shared) (σ : St) (H : Hp) (Q : VK), Inv X pins σ H s → t σ H Q → wpAny (model X.prog X.w) X.A (eval e X.env) (EP X pins σ Q) X.xe s
def PT (X : Cx) (e : Expr) (t : TT) : Prop :=
 ∀ (pins : List (Addr × Obj)) (s : Shared) (σ : St) (H : Hp) (Q : Bool → Hp → Prop), Inv X pins σ H s → t σ H Q → wpAny (model X.prog X.w) X.A (isTrue e X.env (eval e X.env)) (TP X pins σ Q) X.xe s
def PW (X : Cx) (e : Expr) (t : TT) : Prop :=
 ∀ (whole : Sem Value) (pins : List (Addr × Obj)) (s : Shared) (σ : St) (H : Hp) (Q : Bool → Hp → Prop), Inv X pins σ H s → t σ H Q → wpAny (model X.prog X.w) X.A (isTrue e X.env whole) (TP X pins σ Q) X.xe s
theorem PW.pt {X : Cx} {e : Expr} {t : TT} (h : PW X e t) : PT X e t := h _
def PA (X : Cx) (es : List Expr) (t : TA) : Prop :=
 ∀ (pos : Pos) (pins : List (Addr × Obj)) (s : Shared) (σ : St) (H : Hp) (Q : List V → Hp → Prop), Inv X pins σ H s → t σ H Q → wpAny (model X.prog X.w) X.A (spliced (backTo pos (starEach es X.env))) (AP X pins σ Q) X.xe s
def PS (X : Cx) (st : Stmt) (t : TS) : Prop :=
 ∀ (pins : List (Addr × Obj)) (s : Shared) (σ : St) (H : Hp) (D : Ends), Inv X pins σ H s → t D σ H → wpAny (model X.prog X.w) X.A (exec st X.env) (SP X pins D) X.xe s
def PSs (X : Cx) (st : List Stmt) (t : TS) : Prop :=
 ∀ (pins : List (Addr × Obj)) (s : Shared) (σ : St) (H : Hp) (D : Ends), Inv X pins σ H s → t D σ H → wpAny (model X.prog X.w) X.A (execs st X.env) (SP X pins D) X.xe s
theorem thn {α : Type} {t : Sem α} {Q Q' : α → Shared → Prop} {M : Model} {A : Around} {E : Value → Shared → Prop} {s : Shared} (h : wpAny M A t Q E s) (hQ : ∀ a s, Q a s → Q' a s) : wpAny M A t Q' E s := wpAny_mono h hQ fun _ _ x => x
section
variable {X : Cx}
def tVar (i : Nat) : TE := fun σ H Q => ∃ v, σ[i]? = some (some v) ∧ Q v H
def tC (v : V) : TE := fun _ H Q => Q v H
theorem pe_var {i : Nat} {x : Str} {pos : Pos} (hN : X.N[i]? = some x) (hv : Vis X.env.scope x) (hd : (x == ("__debug__" : Str)) = false := by decide) (hcd : (x == ("__classdict__" : Str)) = false := by decide) : PE X (.Name x pos) (tVar i) := by
 intro pins s σ H Q I h
 obtain ⟨v, e, h⟩ := h
 obtain ⟨m, hn, hl⟩ := I.loc
 obtain ⟨u, r, l⟩ := hl i x v hN e hv
 have fin : EP X pins σ Q u s := ⟨v, H, I, r, h⟩
 rcases l with ⟨hk, hm⟩ | ⟨hk, c, hc, hcell⟩
 ·exact wpAny_Name (wpAny_loadName_local I.ok.kind hk hn hm fin) hd
 ·rcases hk with hk | hk
  ·exact wpAny_Name (wpAny_loadName_cell I.ok.kind hk hc hcell fin) hd
  ·exact wpAny_Name (wpAny_loadName_free I.ok.kind hk hc hcell fin hcd) hd
theorem pe_int {i j pos} : PE X (.Constant (.int i) j pos) (tC (.int i)) := fun _ _ _ H _ I h => wpAny_Constant_int ⟨.int i, H, I.tok _, ⟨_, rfl⟩, h⟩
theorem pe_bl {b j pos} : PE X (.Constant (.bool b) j pos) (tC (.bl b)) := fun _ _ _ H _ I h => Constant_bool ⟨.bl b, H, I, rfl, h⟩
theorem pe_str {x j pos} : PE X (.Constant (.str x) j pos) (tC (.str x)) := fun _ _ _ H _ I h => Calls.Constant_str ⟨.str x, H, I.tok _, ⟨_, rfl⟩, h⟩
def Gl (X : Cx) (x : Str) : Prop := X.env.kindOf x = some .globalImplicit
theorem ld_glob {E : Value → Shared → Prop} {pins : List (Addr × Obj)} {s : Shared} {σ : St} {H : Hp} {x : Str} {u : Value} {pos : Pos} {Q : Value → Shared → Prop} (I : Inv X pins σ H s) (hg : Gl X x) (hm : X.mg x = some u) (h : Q u s)
  (hd : (x == ("__debug__" : Str)) = false := by decide) : wpAny (model X.prog X.w) X.A (eval (.Name x pos) X.env) Q E s :=
 Calls.Name_function_global I.ok.kind hg (Calls.loadGlobal_global (by rw [I.ok.glob]; exact I.mod.glob.keeps I.bk) hm h) hd
theorem ld_blt {E : Value → Shared → Prop} {pins : List (Addr × Obj)} {s : Shared} {σ : St} {H : Hp} {x : Str} {u : Value} {pos : Pos} {Q : Value → Shared → Prop} (I : Inv X pins σ H s) (hg : Gl X x) (hm : X.mg x = none) (hv : bootBuiltins x = some u) (h : Q u s)
  (hn : x ≠ "__name__" := by decide) (hd : (x == ("__debug__" : Str)) = false := by decide) : wpAny (model X.prog X.w) X.A (eval (.Name x pos) X.env) Q E s := by
 obtain ⟨mb, h1, h2⟩ := I.mod.blt
 exact Calls.Name_function_global I.ok.kind hg (Calls.loadGlobal_builtin (by rw [I.ok.glob]; exact I.mod.glob.keeps I.bk) hm (by rw [I.ok.blt]; exact h1.keeps I.bk) ((h2 x hn).trans hv) h) hd
theorem pe_glob {x : Str} {v : V} {u : Value} {pos : Pos} (hg : Gl X x) (hm : X.mg x = some u) (r : RelV v u) (hd : (x == ("__debug__" : Str)) = false := by decide) : PE X (.Name x pos) (tC v) :=
 fun _ _ _ H _ I h => ld_glob I hg hm ⟨v, H, I, r, h⟩ hd
theorem pe_bltn {x : Str} {v : V} {u : Value} {pos : Pos} (hg : Gl X x) (hm : X.mg x = none) (hv : bootBuiltins x = some u) (r : RelV v u) (hn : x ≠ "__name__" := by decide) (hd : (x == ("__debug__" : Str)) = false := by decide) : PE X (.Name x pos) (tC v) :=
 fun _ _ _ H _ I h => ld_blt I hg hm hv ⟨v, H, I, r, h⟩ hn hd
variable {a b : Expr} {ta tb : TE} {pos : Pos}
def tB (t : TE) : TT := fun σ H Q => t σ H fun x H1 => ∃ c, x = .bl c ∧ Q c H1
theorem pt_val {e : Expr} {t : TE} (h : PE X e t) (he : ∀ whole, isTrue e X.env whole = (do let v ← whole; standAt e.pos; holding [v] (truthy v)) := by intro _; rfl) : PT X e (tB t) := by
 intro pins s σ H Q I hw
 refine isTrue_plain (thn (h pins s σ H _ I hw) fun v s1 ⟨x, H1, I1, r1, q1⟩ => ?_) (he _)
 obtain ⟨d, rfl, q⟩ := q1
 cases r1
 exact wpAny_truthy_bool ⟨H1, I1, q⟩
variable {tA tB' : TT} {rest : List Expr}
def tAnd (t u : TT) : TT := fun σ H Q => t σ H fun c H1 => if c = true then u σ H1 Q else Q false H1
def tOr (t u : TT) : TT := fun σ H Q => t σ H fun c H1 => if c = true then Q true H1 else u σ H1 Q
def tNot (t : TT) : TT := fun σ H Q => t σ H fun c H1 => Q (!c) H1
theorem pw_and1 (ha : PT X a tA) : PW X (.BoolOp .And [a] pos) tA := by
 intro wh pins s σ H Q I h
 refine isTrue_and (thn (ha pins s σ H Q I h) fun c s1 e => ?_)
 cases c with
 | true => exact isTrue_and_nil e
 | false => exact e
theorem pw_or1 (ha : PT X a tA) : PW X (.BoolOp .Or [a] pos) tA := by
 intro wh pins s σ H Q I h
 refine isTrue_or (thn (ha pins s σ H Q I h) fun c s1 e => ?_)
 cases c with
 | false => exact isTrue_or_nil e
 | true => exact e
theorem pw_and (ha : PT X a tA) (hb : PW X (.BoolOp .And (b :: rest) pos) tB') : PW X (.BoolOp .And (a :: b :: rest) pos) (tAnd tA tB') := by
 intro wh pins s σ H Q I h
 refine isTrue_and (thn (ha pins s σ H _ I h) fun c s1 ⟨H1, I1, q1⟩ => ?_)
 cases c with
 | true => exact hb wh pins s1 σ H1 Q I1 q1
 | false => exact ⟨H1, I1, q1⟩
theorem pw_or (ha : PT X a tA) (hb : PW X (.BoolOp .Or (b :: rest) pos) tB') : PW X (.BoolOp .Or (a :: b :: rest) pos) (tOr tA tB') := by
 intro wh pins s σ H Q I h
 refine isTrue_or (thn (ha pins s σ H _ I h) fun c s1 ⟨H1, I1, q1⟩ => ?_)
 cases c with
 | true => exact ⟨H1, I1, q1⟩
 | false => exact hb wh pins s1 σ H1 Q I1 q1
theorem pt_not (ha : PT X a tA) : PT X (.UnaryOp .Not a pos) (tNot tA) := by
 intro pins s σ H Q I h
 exact isTrue_not (ha pins s σ H (fun c H1 => Q (!c) H1) I h)
def tAndV (ta tb : TE) : TE := fun σ H Q => ta σ H fun x H1 => ∃ c, x = .bl c ∧ if c = true then tb σ H1 Q else Q (.bl false) H1
def tNotV (ta : TE) : TE := fun σ H Q => ta σ H fun x H1 => ∃ c, x = .bl c ∧ Q (.bl (!c)) H1
theorem pe_one {op} {t : TE} (h : PE X a t) : PE X (.BoolOp op [a] pos) t := fun pins s σ H Q I hw => BoolOp_one (h pins s σ H Q I hw)
theorem pe_and (ha : PE X a ta) (hb : PE X (.BoolOp .And (b :: rest) pos) tb) : PE X (.BoolOp .And (a :: b :: rest) pos) (tAndV ta tb) := by
 intro pins s σ H Q I h
 refine BoolOp_and (thn (ha pins s σ H _ I h) fun v s1 ⟨x, H1, I1, r1, q1⟩ => ?_)
 obtain ⟨c, rfl, q1⟩ := q1
 cases r1
 refine wpAny_truthy_bool ?_
 cases c with
 | true => exact hb pins s1 σ H1 Q I1 q1
 | false => exact ⟨.bl false, H1, I1, rfl, q1⟩
theorem pe_not (ha : PE X a ta) : PE X (.UnaryOp .Not a pos) (tNotV ta) := by
 intro pins s σ H Q I h
 refine UnaryOp_ (thn (ha pins s σ H _ I h) fun v s1 ⟨x, H1, I1, r1, q1⟩ => ?_)
 obtain ⟨c, rfl, q1⟩ := q1
 cases r1
 exact not_of (wpAny_truthy_bool ⟨.bl (!c), H1, I1, rfl, q1⟩)
end
def SqL (K : W.Frag) (H : Hp) (a : Addr) (xs : List V) : Prop :=
 Rd H a (.lst xs) ∨
  ∃ (o : Obj) (its : Array Value) (n : Nat), K.lookup a = some o ∧ o.cls = .type "list" ∧ o.dict = none ∧ o.data = .seq its n ∧ its.size ≤ sizeLine ∧ Vals xs its.toList
def SqT (K : W.Frag) (H : Hp) (a : Addr) (xs : List V) : Prop :=
 Rd H a (.tup xs) ∨
  ∃ (o : Obj) (its : Array Value) (n : Nat), K.lookup a = some o ∧ o.cls = .type "tuple" ∧ o.data = .seq its n ∧ its.size ≤ sizeLine ∧ Vals xs its.toList
def absV : Value → Option V
 | .none => some .non
 | .bool b => some (.bl b)
 | .int i _ => some (.int i)
 | .str x _ => some (.str x)
 | .bytes b _ => some (.byt b)
 | .float b _ => some (.flt b)
 | .ref a => some (.ref a)
 | .type n => some (.ty n)
 | _ => none
theorem RelV.abs {x : V} {u : Value} (r : RelV x u) : absV u = some x := by
 cases x with
 | non => cases r; rfl
 | bl _ => cases r; rfl
 | int _ => obtain ⟨t, rfl⟩ := r; rfl
 | str _ => obtain ⟨t, rfl⟩ := r; rfl
 | byt _ => obtain ⟨t, rfl⟩ := r; rfl
 | flt _ => obtain ⟨t, rfl⟩ := r; rfl
 | ref _ => cases r; rfl
 | ty _ => cases r; rfl
theorem RelV.inj {x y : V} {u : Value} (r : RelV x u) (q : RelV y u) : x = y := Option.some.inj (r.abs.symm.trans q.abs)
theorem Vals.inj : ∀ {xs ys : List V} {us : List Value}, Vals xs us → Vals ys us → xs = ys
 | _, _, _, .nil, .nil => rfl
 | _, _, _, .cons r t, .cons r' t' => by rw [r.inj r', Vals.inj t t']
section
variable {X : Cx} {pins : List (Addr × Obj)} {σ : St} {H : Hp} {s : Shared} {a : Addr} {xs ys : List V}
theorem SqL.of {K : W.Frag} (h : H a = some (.lst xs)) : SqL K H a xs := .inl (.inl h)
theorem SqT.of {K : W.Frag} (h : H a = some (.tup xs)) : SqT K H a xs := .inl (.inl h)
theorem Inv.list (I : Inv X pins σ H s) (h : SqL X.K H a xs) : ∃ its : List Value, Vals xs its ∧ PlainL s.heap a its.toArray ∧ xs.length ≤ sizeLine := by
 rcases h with h | ⟨o, its, n, hk, hc, hd, hs, hz, r⟩
 ·obtain ⟨z, its, n, r, e⟩ := h.ok I.hok
  exact ⟨its, r, ⟨_, n, e, rfl, rfl, rfl⟩, z⟩
 ·refine ⟨its.toList, r, ⟨o, n, I.kIn a o hk, hc, hd, by simpa using hs⟩, ?_⟩
  have e := r.length
  simp only [Array.length_toList] at e
  omega
theorem Inv.tuple (I : Inv X pins σ H s) (h : SqT X.K H a xs) : ∃ its : List Value, Vals xs its ∧ IsTup s.heap a its.toArray ∧ xs.length ≤ sizeLine := by
 rcases h with h | ⟨o, its, n, hk, hc, hs, hz, r⟩
 ·obtain ⟨z, its, r, p⟩ := h.ok I.hok
  exact ⟨its, r, p, z⟩
 ·refine ⟨its.toList, r, ⟨o, I.kIn a o hk, hc, n, by simpa using hs⟩, ?_⟩
  have e := r.length
  simp only [Array.length_toList] at e
  omega
theorem Inv.list_inj (I : Inv X pins σ H s) (h : SqL X.K H a xs) (h' : SqL X.K H a ys) : xs = ys := by
 obtain ⟨its, r, ⟨o, n, e, _, _, d⟩, _⟩ := I.list h
 obtain ⟨its', r', ⟨o', n', e', _, _, d'⟩, _⟩ := I.list h'
 rw [e] at e'; cases e'
 rw [d] at d'
 injection d' with d1 _
 have : its = its' := by simpa using congrArg Array.toList d1
 subst this
 exact r.inj r'
end
abbrev Cx.wish (X : Cx) (E : Value → Shared → Prop) : Cx := { X with xe := E }
abbrev Cx.nox (X : Cx) : Cx := X.wish fun _ _ => False
theorem Cx.Ok.wish {X : Cx} (ok : X.Ok) (E : Value → Shared → Prop) : (X.wish E).Ok :=
 ⟨ok.mod, ok.kind, ok.glob, ok.blt, ok.above, ok.inj, ok.has, ok.cab, ok.hd, ok.frames, ok.stk, ok.exf, ok.bs, ok.bsz, ok.noex, ok.exfs, ok.funs, ok.frf⟩
theorem Cx.Ok.unwish {X : Cx} {E : Value → Shared → Prop} (ok : (X.wish E).Ok) : X.Ok :=
 ⟨ok.mod, ok.kind, ok.glob, ok.blt, ok.above, ok.inj, ok.has, ok.cab, ok.hd, ok.frames, ok.stk, ok.exf, ok.bs, ok.bsz, ok.noex, ok.exfs, ok.funs, ok.frf⟩
section
variable {X : Cx} {pins : List (Addr × Obj)} {σ : St} {H : Hp} {s : Shared} {E : Value → Shared → Prop}
theorem Inv.wish (I : Inv X pins σ H s) (E : Value → Shared → Prop) : Inv (X.wish E) pins σ H s := ⟨I.ok.wish E, I.os, I.bare, I.base, I.loc, I.cell, I.free, I.freeC, I.pin, I.hok, I.len⟩
theorem Inv.unwish (I : Inv (X.wish E) pins σ H s) : Inv X pins σ H s := ⟨I.ok.unwish, I.os, I.bare, I.base, I.loc, I.cell, I.free, I.freeC, I.pin, I.hok, I.len⟩
theorem SP.unwish {D : Ends} {f : Flow} {s' : Shared} (h : SP (X.wish E) pins D f s') : SP X pins D f s' := by
 cases f with
 | next => obtain ⟨σ', H', I, q⟩ := h; exact ⟨σ', H', I.unwish, q⟩
 | brk => obtain ⟨σ', H', I, q⟩ := h; exact ⟨σ', H', I.unwish, q⟩
 | cont => obtain ⟨σ', H', I, q⟩ := h; exact ⟨σ', H', I.unwish, q⟩
 | ret u => obtain ⟨v, σ', H', I, r, q⟩ := h; exact ⟨v, σ', H', I.unwish, r, q⟩
theorem PE.nox {e : Expr} {t : TE} (h : PE X.nox e t) : PE X e t := fun pins s σ H Q I hw =>
 wpAny_mono (h pins s σ H Q (I.wish _) hw) (fun _ _ ⟨v, H', I', r, q⟩ => ⟨v, H', I'.unwish, r, q⟩) fun _ _ z => False.elim z
theorem PT.nox {e : Expr} {t : TT} (h : PT X.nox e t) : PT X e t := fun pins s σ H Q I hw =>
 wpAny_mono (h pins s σ H Q (I.wish _) hw) (fun _ _ ⟨H', I', q⟩ => ⟨H', I'.unwish, q⟩) fun _ _ z => False.elim z
theorem PSs.nox {st : List Stmt} {t : TS} (h : PSs X.nox st t) : PSs X st t := fun pins s σ H D I hw =>
 wpAny_mono (h pins s σ H D (I.wish _) hw) (fun _ _ q => q.unwish) fun _ _ z => False.elim z
end
section
variable {X : Cx} {st : Stmt} {rest : List Stmt} {t u : TS} {e : Expr} {te : TE} {pos : Pos}
def tNext : TS := fun D σ H => D.nx σ H
def tSeq (t u : TS) : TS := fun D σ H => t { D with nx := u D } σ H
theorem pss_nil : PSs X [] tNext := fun _ _ σ H _ I h => wpAny_execs_nil ⟨σ, H, I, h⟩
theorem pss_cons (h1 : PS X st t) (h2 : PSs X rest u) : PSs X (st :: rest) (tSeq t u) := by
 intro pins s σ H D I h
 refine wpAny_execs_cons (thn (h1 pins s σ H { D with nx := u D } I h) fun f s1 q => ?_)
 cases f with
 | next =>
  obtain ⟨σ', H', I', q⟩ := q
  exact h2 pins s1 σ' H' D I' q
 | ret v => exact q
 | brk => exact q
 | cont => exact q
theorem pss_one (h1 : PS X st t) : PSs X [st] t := by
 intro pins s σ H D I h
 refine wpAny_execs_cons (thn (h1 pins s σ H D I h) fun f s1 q => ?_)
 cases f with
 | next => exact wpAny_execs_nil q
 | ret v => exact q
 | brk => exact q
 | cont => exact q
theorem Inv.quiet {pins : List (Addr × Obj)} {σ : St} {H : Hp} {s : Shared} (I : Inv X pins σ H s) : interactive X.env = false := by simp [interactive, I.ok.kind]
def tDrop (te : TE) : TS := fun D σ H => te σ H fun _ H1 => D.nx σ H1
theorem ps_expr (he : PE X e te) (hs : swapsWith e none pos.line X.env = pure false := by rfl) : PS X (.Expr e pos) (tDrop te) := by
 intro pins s σ H D I h
 exact wpAny_Expr_any (thn (he pins s σ H _ I h) fun v s1 ⟨x, H1, I1, r1, q1⟩ => ⟨σ, H1, I1, q1⟩) I.quiet hs
def tRet (te : TE) : TS := fun D σ H => te σ H D.rt
theorem ps_ret (he : PE X e te) : PS X (.Return (some e) pos) (tRet te) := by
 intro pins s σ H D I h
 exact wpAny_Return_some (thn (he pins s σ H _ I h) fun v s1 ⟨x, H1, I1, r1, q1⟩ => ⟨x, σ, H1, I1, r1, q1⟩)
def tIfS (c : TT) (t u : TS) : TS := fun D σ H => c σ H fun b H1 => if b = true then t D σ H1 else u D σ H1
theorem ps_if {c : Expr} {a b : List Stmt} {tc : TT} (hc : PT X c tc) (ha : PSs X a t) (hb : PSs X b u) : PS X (.If c a b pos) (tIfS tc t u) := by
 intro pins s σ H D I h
 refine wpAny_If (thn (hc pins s σ H _ I h) fun d s1 ⟨H1, I1, q1⟩ => ?_)
 cases d with
 | true => exact ha pins s1 σ H1 D I1 q1
 | false => exact hb pins s1 σ H1 D I1 q1
end
abbrev TG := V → St → Hp → (St → Hp → Prop) → Prop
abbrev TGs := List V → St → Hp → (St → Hp → Prop) → Prop
def PG (X : Cx) (target : Expr) (t : TG) : Prop :=
 ∀ (pins : List (Addr × Obj)) (s : Shared) (σ : St) (H : Hp) (v : V) (u : Value) (Q : St → Hp → Prop), Inv X pins σ H s → RelV v u → t v σ H Q →
  wpAny (model X.prog X.w) X.A (assign target X.env u) (fun _ s' => ∃ σ' H', Inv X pins σ' H' s' ∧ Q σ' H') X.xe s
def PGs (X : Cx) (ts : List Expr) (t : TGs) : Prop :=
 ∀ (pins : List (Addr × Obj)) (s : Shared) (σ : St) (H : Hp) (vs : List V) (us : List Value) (Q : St → Hp → Prop), Inv X pins σ H s → Vals vs us → t vs σ H Q →
  wpAny (model X.prog X.w) X.A (assignInOrder ((assignEach ts X.env).map (·.2)) us) (fun _ s' => ∃ σ' H', Inv X pins σ' H' s' ∧ Q σ' H') X.xe s
abbrev TSet := V → V → V → Hp → (Hp → Prop) → Prop
def PSet (X : Cx) (t : TSet) : Prop :=
 ∀ (pins : List (Addr × Obj)) (s : Shared) (σ : St) (H : Hp) (o i v : V) (ov iv u : Value) (Q : Hp → Prop), Inv X pins σ H s → RelV o ov → RelV i iv → RelV v u → t o i v H Q →
  wpAny (model X.prog X.w) X.A (setItem ov iv u) (fun _ s' => ∃ H', Inv X pins σ H' s' ∧ Q H') X.xe s
section
variable {X : Cx} {pos : Pos}
def gName (i : Nat) : TG := fun v σ H Q => Q (σ.set i (some v)) H
theorem pg_name {i : Nat} {x : Str} (hN : X.N.Nodup) (hi : X.N[i]? = some x) (hx : Loc X.env.scope x) (hf : X.fn x = true ∨ X.env.scope.names.lookup x = some .local := by first | exact .inl rfl | exact .inr rfl | assumption) : PG X (.Name x pos) (gName i) := by
 intro pins s σ H v u Q I r h
 exact wpAny_assign_Name (store_ok I hN hi hx r (fun s' I' => ⟨_, H, I', h⟩) hf)
def gNil : TGs := fun vs σ H Q => vs = [] ∧ Q σ H
def gCons (t : TG) (u : TGs) : TGs := fun vs σ H Q => ∃ v r, vs = v :: r ∧ t v σ H fun σ' H' => u r σ' H' Q
theorem pgs_nil : PGs X [] gNil := by
 intro pins s σ H vs us Q I r h
 obtain ⟨e, h⟩ := h
 subst e
 cases r
 exact assignInOrder_nil ⟨σ, H, I, h⟩
theorem pgs_cons {e : Expr} {es : List Expr} {t : TG} {u : TGs} (h1 : PG X e t) (h2 : PGs X es u)
  (hs : (assignEach (e :: es) X.env).map (·.2) = assign e X.env :: (assignEach es X.env).map (·.2) := by rfl) : PGs X (e :: es) (gCons t u) := by
 intro pins s σ H vs us Q I r h
 obtain ⟨v, vr, e1, h⟩ := h
 subst e1
 cases r with
 | cons r rr =>
  rw [hs]
  refine assignInOrder_cons (thn (h1 pins s σ H _ _ _ I r h) fun _ s1 ⟨σ1, H1, I1, q1⟩ => ?_)
  exact h2 pins s1 σ1 H1 _ _ Q I1 rr q1
def gTup (K : W.Frag) (n : Nat) (t : TGs) : TG := fun v σ H Q => ∃ a xs, v = .ref a ∧ SqT K H a xs ∧ xs.length = n ∧ t xs σ H Q
theorem pg_tup {es : List Expr} {k : Nat} {t : TGs} {n : Nat} (hc : X.calm = true) (h : PGs X es t)
  (hn : (assignEach es X.env).length = n := by rfl) (hst : (assignEach es X.env).findIdx? (·.1) = none := by rfl) : PG X (.Tuple es k pos) (gTup X.K n t) := by
 intro pins s σ H v u Q I r hw
 obtain ⟨a, xs, e1, hq, hl, hw⟩ := hw
 subst e1
 cases r
 obtain ⟨its, rv, ht, hz⟩ := I.tuple hq
 refine assign_Tuple_tuple (I.ok.hd hc) ht (by simp [hn, ← hl, rv.length]) hst fun h' hx => ?_
 have I1 : Inv X pins σ H { s with heap := h' } := I.kept (t' := s.toks) fun b o e => hx b o (Nat.ne_of_lt (Heap.lt_size e)) e
 exact h pins _ σ H xs _ Q I1 (by simpa using rv) hw
def gSub (to ti : TE) (t : TSet) : TG := fun v σ H Q => to σ H fun o H1 => ti σ H1 fun i H2 => t o i v H2 fun H3 => Q σ H3
theorem pg_sub {o i : Expr} {to ti : TE} {t : TSet} (ho : PE X o to) (hi : PE X i ti) (hs : PSet X t)
  (ha : ∀ v, assign (.Subscript o i pos) X.env v = (do
   let ov ← holding [v] (eval o X.env)
   let iv ← holding [v, ov] (eval i X.env)
   standAt pos
   holding [v, ov, iv] (setItem ov iv v)
   release [v, ov, iv] []) := by intro _; rfl) : PG X (.Subscript o i pos) (gSub to ti t) := by
 intro pins s σ H v u Q I r h
 rw [ha]
 refine wpAny_bind (wpAny_holding (thn (ho pins s σ H _ I h) fun ov s1 ⟨x, H1, I1, r1, q1⟩ => ?_))
 refine wpAny_bind (wpAny_holding (thn (hi pins s1 σ H1 _ I1 q1) fun iv s2 ⟨y, H2, I2, r2, q2⟩ => ?_))
 refine wpAny_bind (wpAny_standAt (wpAny_bind (wpAny_holding (thn (hs pins s2 σ H2 x y v ov iv u _ I2 r1 r2 r q2) fun _ s3 ⟨H3, I3, q3⟩ => ?_))))
 exact wpAny_release ⟨σ, H3, I3, q3⟩
def tAsg (te : TE) (g : TG) : TS := fun D σ H => te σ H fun x H1 => g x σ H1 D.nx
theorem ps_asg {tg e : Expr} {te : TE} {g : TG} (he : PE X e te) (hg : PG X tg g) (hs : swapsWithSole [tg] e pos.line X.env = pure false := by rfl) (hw : swappedStores [tg] e X.env = pure none := by rfl)
  (h1 : (assignEach [tg] X.env).map (·.2) = [assign tg X.env] := by rfl) : PS X (.Assign [tg] e pos) (tAsg te g) := by
 intro pins s σ H D I h
 refine wpAny_Assign_stores (thn (he pins s σ H _ I h) fun v s1 ⟨x, H1, I1, r1, q1⟩ => ?_) hs hw
 rw [h1]
 exact thn (hg pins s1 σ H1 x v _ I1 r1 q1) fun _ s2 q => q
theorem ps_set {i : Nat} {x : Str} {e : Expr} {te : TE} {pos' : Pos} (hN : X.N.Nodup) (hi : X.N[i]? = some x) (hx : Loc X.env.scope x) (he : PE X e te) (hs : swapsWith e (some (.Name x pos')) pos.line X.env = pure false := by rfl) (hf : X.fn x = true ∨ X.env.scope.names.lookup x = some .local := by first | exact .inl rfl | exact .inr rfl | assumption) :
  PS X (.Assign [.Name x pos'] e pos) (tAsg te (gName i)) := by
 intro pins s σ H D I h
 refine wpAny_Assign_Name (thn (he pins s σ H _ I h) fun v s1 ⟨y, H1, I1, r1, q1⟩ => ?_) hs
 exact store_ok I1 hN hi hx r1 (fun s2 I2 => ⟨_, H1, I2, q1⟩) hf
end
structure It where
 go : Nat → Hp → Prop
 yld : Nat → Hp → V → Hp → Prop
 stop : Nat → Hp → Prop
def FpOk (X : Cx) (pins : List (Addr × Obj)) (H : Hp) (b : Addr) : Prop :=
 H b = none ∧ b ≠ X.env.locals ∧ b ∉ X.fs ∧ (b ∈ X.ex ∨ X.s₀.heap.objs.size ≤ b) ∧ (∀ x c, X.env.cells.lookup x = some c → c ≠ b) ∧ ∀ p ∈ X.pn ++ pins, p.1 ≠ b
theorem Inv.fpOk {X : Cx} {pins : List (Addr × Obj)} {σ : St} {H H' : Hp} {s : Shared} {b : Addr} (I : Inv X pins σ H s) (hb : s.heap.objs.size ≤ b) (hn : H' b = none) : FpOk X pins H' b := by
 refine ⟨hn, Nat.ne_of_gt (Nat.lt_of_lt_of_le I.lt hb), I.nofs hb, .inr (Nat.le_trans I.sz hb), fun x c e z => ?_, fun p hp z => ?_⟩
 ·obtain ⟨v, q⟩ := I.cell x c e
  exact absurd (Nat.lt_of_lt_of_le q.lt (by rw [z]; exact hb)) (Nat.lt_irrefl _)
 ·exact absurd (Nat.lt_of_lt_of_le (Heap.lt_size (I.pin p hp).1) (by rw [z]; exact hb)) (Nat.lt_irrefl _)
structure Turn (P : Program) (w : World) (K : W.Frag) (tg : Expr) (J : It) (fp : List Addr) (it : Addr) (tn : Nat → Heap → Prop) : Prop where
 mem : it ∈ fp
 obj : ∀ i h, tn i h → ∀ b ∈ fp, ∃ o, h.get? b = some o ∧ ∀ v, o.data ≠ .cell v
 keep : ∀ i h h', tn i h → (∀ b ∈ fp, ∀ o, h.get? b = some o → h'.get? b = some o) → tn i h'
 item : ∀ (X : Cx), X.prog = P → X.w = w → X.K = K → X.calm = true → ∀ (i : Nat) (pins : List (Addr × Obj)) (s : Shared) (σ : St) (H : Hp) (E : Value → Shared → Prop), Inv X pins σ H s → (∀ b ∈ fp, FpOk X pins H b) → tn i s.heap → J.go i H →
  wpAny (model P w) X.A (pyNext (.ref it)) (fun r s1 => ∃ u, r = some u ∧
   wpAny (model P w) X.A (letOwnedTupleGo tg (.ref it) u) (fun _ s2 => ∃ x H', Inv X pins σ H' s2 ∧ RelV x u ∧ J.yld i H x H' ∧ tn (i + 1) s2.heap ∧ ∀ b ∈ fp, H' b = none) E s1) E s
 done : ∀ (X : Cx), X.prog = P → X.w = w → X.K = K → X.calm = true → ∀ (i : Nat) (pins : List (Addr × Obj)) (s : Shared) (σ : St) (H : Hp) (E : Value → Shared → Prop), Inv X pins σ H s → (∀ b ∈ fp, FpOk X pins H b) → tn i s.heap → J.stop i H →
  wpAny (model P w) X.A (pyNext (.ref it)) (fun r s1 => r = none ∧ Inv X pins σ H s1) E s
 self : ∀ (A : Around) (i : Nat) (s : Shared) (Q : Value → Shared → Prop) (E : Value → Shared → Prop), tn i s.heap → Q (.ref it) s → wpAny (model P w) A (pyIter (.ref it)) Q E s
abbrev TI := St → Hp → (It → Hp → Prop) → Prop
def PIE (X : Cx) (pins : List (Addr × Obj)) (σ : St) (tg : Expr) (R : It → Hp → Prop) (itv : Value) (s2 : Shared) : Prop :=
 ∃ (it : Addr) (fp : List Addr) (tn : Nat → Heap → Prop) (J : It) (H' : Hp), itv = .ref it ∧ Inv X pins σ H' s2 ∧ Turn X.prog X.w X.K tg J fp it tn ∧ tn 0 s2.heap ∧ (∀ b ∈ fp, FpOk X pins H' b) ∧ R J H'
def PI (X : Cx) (tg iter : Expr) (wi : TI) : Prop :=
 ∀ (pins : List (Addr × Obj)) (s : Shared) (σ : St) (H : Hp) (R : It → Hp → Prop), Inv X pins σ H s → wi σ H R →
  wpAny (model X.prog X.w) X.A (eval iter X.env) (fun v s1 => wpAny (model X.prog X.w) X.A (pyIter v) (PIE X pins σ tg R) X.xe s1) X.xe s
theorem go_of {M : Model} {A : Around} {E : Value → Shared → Prop} {s : Shared} {tg : Expr} {it : Addr} {u : Value} {o : Obj} {n : String} {vs : Array Value} {Q : Unit → Shared → Prop} (ho : s.heap.get? it = some o) (hc : o.cls = .type n) (hd : o.data = .fields vs)
  (hn : ["enumerate", "zip", "dict_itemiterator", "dict_reverseitemiterator", "odict_iterator", "itertools.zip_longest", "itertools.pairwise"].contains n = false) (hQ : Q () s) : wpAny M A (letOwnedTupleGo tg (.ref it) u) Q E s := by
 unfold letOwnedTupleGo
 cases tg <;> first
  | exact wpAny_pure hQ
  | (cases u <;> first
    | exact wpAny_pure hQ
    | (refine wpAny_bind (wpAny_load ho ?_)
       rw [hc, hd]
       show wpAny M A (if (["enumerate", "zip", "dict_itemiterator", "dict_reverseitemiterator", "odict_iterator", "itertools.zip_longest", "itertools.pairwise"].contains n && vs[0]? == some (rawInt _)) = true then _ else _) Q E s
       rw [if_neg (by intro h; rw [hn, Bool.false_and] at h; cases h)]
       exact wpAny_pure hQ))
def Itr (lo : Int) (n : Nat) : It := ⟨fun i _ => i < n, fun i H x H' => H' = H ∧ x = .int (lo + i), fun i _ => n ≤ i⟩
theorem turn_range {P : Program} {w : World} {K : PySem.W.Frag} {tg : Expr} (it : Addr) (lo : Int) (n : Nat) : Turn P w K tg (Itr lo n) [it] it (fun i h => IsRangeIter h it (lo + (i : Nat) * 1) ((n : Int) - (i : Nat)) 1) where
 mem := by simp
 obj := fun i h st b hb => by
  have e : b = it := by simpa using hb
  subst e
  exact ⟨_, st, fun v z => by
   have z' : Data.fields _ = Data.cell v := z
   cases z'⟩
 keep := fun i h h' st k => k it (by simp) _ st
 item := by
  intro X hP hw hK hc i pins s σ H E I hf st hg
  subst hP hw hK
  obtain ⟨f0, f1, f2, f3, f4, f5⟩ := hf it (by simp)
  have W := Walks.range (prog := X.prog) (w := X.w) (I.ok.hd hc) it lo 1 n
  refine W.item i s _ _ hg st fun v h' tk hv st' kk => ?_
  obtain ⟨t, rfl⟩ := hv
  have I1 : Inv X pins σ H { s with heap := h', toks := tk } := I.turned (fun b o hb e => kk b o (by simpa using hb) e) f0 f1 f3 f4 f5
  refine ⟨_, rfl, go_of (s := { s with heap := h', toks := tk }) (n := "range_iterator") st' rfl rfl (by decide) ⟨.int (lo + i), H, I1, ⟨t, ?_⟩, ⟨rfl, rfl⟩, st', fun b hb => (hf b hb).1⟩⟩
  rw [Int.mul_one]
 done := by
  intro X hP hw hK hc i pins s σ H E I hf st hg
  subst hP hw hK
  obtain ⟨f0, f1, f2, f3, f4, f5⟩ := hf it (by simp)
  exact wpAny_pyNext_range_end (I.ok.hd hc) st (by have : n ≤ i := hg; omega) fun h' eb => ⟨rfl, I.turned (t' := s.toks) (fun b o hb e => eb b o hb e) f0 f1 f3 f4 f5⟩
 self := fun _ _ _ _ _ st h => wpAny_pyIter_rangeiter st h
section
variable {X : Cx} {tg : Expr}
theorem range_it {pins : List (Addr × Obj)} {σ : St} {H : Hp} {s : Shared} {R : It → Hp → Prop} {E : Value → Shared → Prop} {lo hi : Int} {t u v : Tok} {tk : Nat} (I : Inv X pins σ H s) (h1 : -(2 ^ 62) ≤ lo) (h2 : lo < 2 ^ 62) (h3 : -(2 ^ 62) ≤ hi) (h4 : hi < 2 ^ 62)
  (q : R (Itr lo (hi - lo).toNat) H) : wpAny (model X.prog X.w) X.A (pyIter (.ref s.heap.objs.size)) (PIE X pins σ tg R) E { s with heap := s.heap.push { cls := .type "range", data := .fields #[.int lo t, .int hi u, .int 1 v] }, toks := tk } := by
 refine wpAny_pyIter_range (IsRange.new ..) (small_one h1 h2 h3 h4) ?_
 have I1 : Inv X pins σ H { s with heap := s.heap.push { cls := .type "range", data := .fields #[.int lo t, .int hi u, .int 1 v] }, toks := tk } := I.kept fun b o e => Heap.get?_push_of_some _ e
 refine ⟨(s.heap.push { cls := .type "range", data := .fields #[.int lo t, .int hi u, .int 1 v] }).objs.size, [(s.heap.push { cls := .type "range", data := .fields #[.int lo t, .int hi u, .int 1 v] }).objs.size], _, _, H, rfl,
  I1.kept (t' := tk) fun b o e => Heap.get?_push_of_some _ e, turn_range _ lo (hi - lo).toNat, ?_, fun b hb => ?_, q⟩
 ·have e1 : lo + ((0 : Nat) : Int) * 1 = lo := by simp
  have e2 : (((hi - lo).toNat : Nat) : Int) - ((0 : Nat) : Int) = Builtin.Range.rangeSize lo hi 1 := by rw [rangeSize_one]; split <;> omega
  show IsRangeIter _ _ (lo + ((0 : Nat) : Int) * 1) ((((hi - lo).toNat : Nat) : Int) - ((0 : Nat) : Int)) 1
  rw [e1, e2]
  exact Heap.get?_push_size _ rfl
 ·have e : b = (s.heap.push { cls := .type "range", data := .fields #[.int lo t, .int hi u, .int 1 v] }).objs.size := by simpa using hb
  subst e
  exact I1.fpOk (Nat.le_refl _) (I1.hok.fresh (Nat.le_refl _))
def iRng1 (ta : TA) : TI := fun σ H R => ta σ H fun vs H1 => ∃ j : Int, vs = [.int j] ∧ -(2 ^ 62) ≤ j ∧ j < 2 ^ 62 ∧ R (Itr 0 j.toNat) H1
theorem pi_range1 {a : Expr} {ta : TA} {p pos : Pos} (hg : Gl X "range") (hm : X.mg "range" = none) (ha : PA X [a] ta) (hs : starEach [a] X.env = [(false, eval a X.env)] := by rfl) : PI X tg (.Call (.Name "range" p) [a] [] pos) (iRng1 ta) := by
 intro pins s σ H R I h
 refine Call_ (ld_blt I hg hm boot_range (PyProof.Rows.callWith_type1 (thn (ha pos pins s σ H _ I h) fun us s1 ⟨vs, H1, I1, r1, q1⟩ => ?_) hs rfl))
 obtain ⟨j, e, q1, q2, q⟩ := q1
 subst e
 cases r1 with
 | cons r rr =>
  cases rr
  obtain ⟨t, rfl⟩ := r
  exact call_range_1 (range_it I1 (by omega) (by omega) q1 q2 (by simpa using q))
def tFor (wi : TI) (g : TG) (tb : TS) : TS := fun D σ H => wi σ H fun J H1 => ∃ W : Nat → Nat → St → Hp → Prop, (∃ m, W 0 m σ H1) ∧ ∀ i m σ H, W i m σ H →
 (J.stop i H ∧ D.nx σ H) ∨ (J.go i H ∧ ∃ N : St → Hp → Prop, (∀ σ' H', N σ' H' → ∃ m', m' < m ∧ W (i + 1) m' σ' H') ∧ ∀ x H', J.yld i H x H' → g x σ H' fun σ2 H2 => tb { D with nx := N, ct := N, bk := D.nx } σ2 H2)
def pinsAt (fp : List Addr) (h : Heap) : List (Addr × Obj) := fp.filterMap fun b => (h.get? b).map fun o => (b, o)
theorem mem_pinsAt {fp : List Addr} {h : Heap} {b : Addr} {o : Obj} (hb : b ∈ fp) (e : h.get? b = some o) : (b, o) ∈ pinsAt fp h := List.mem_filterMap.mpr ⟨b, hb, by rw [e]; rfl⟩
theorem of_pinsAt {fp : List Addr} {h : Heap} {p : Addr × Obj} (hp : p ∈ pinsAt fp h) : p.1 ∈ fp ∧ h.get? p.1 = some p.2 := by
 obtain ⟨b, hb, e⟩ := List.mem_filterMap.mp hp
 cases q : h.get? b with
 | none => rw [q] at e; cases e
 | some o =>
  rw [q] at e
  have e' : (b, o) = p := Option.some.inj e
  subst e'
  exact ⟨hb, q⟩
theorem Inv.pinned {pins : List (Addr × Obj)} {σ : St} {H : Hp} {s : Shared} {fp : List Addr} (I : Inv X pins σ H s) (hf : ∀ b ∈ fp, FpOk X pins H b) (ho : ∀ b ∈ fp, ∃ o, s.heap.get? b = some o ∧ ∀ v, o.data ≠ .cell v) : Inv X (pins ++ pinsAt fp s.heap) σ H s :=
 I.pins_of fun p hp => (List.mem_append.mp hp).elim (fun z => I.pin p (List.mem_append_right _ z)) fun z => by
  obtain ⟨hb, e⟩ := of_pinsAt z
  obtain ⟨f0, f1, f2, _⟩ := hf p.1 hb
  obtain ⟨o, e', d⟩ := ho p.1 hb
  rw [e] at e'; cases e'
  exact ⟨e, f0, f1, f2, d⟩
theorem Inv.unpinned {pins pl : List (Addr × Obj)} {σ : St} {H : Hp} {s : Shared} (I : Inv X (pins ++ pl) σ H s) : Inv X pins σ H s := I.pins_of fun p hp => I.pin p (List.mem_append_right _ (List.mem_append_left _ hp))
theorem ps_for {iter : Expr} {body : List Stmt} {wi : TI} {g : TG} {tb : TS} {pos : Pos} (hp : PassesOwn (model X.prog X.w) X.A X.env X.xe) (hc : X.calm = true) (hi : PI X tg iter wi) (hg : PG X tg g) (hb : PSs X body tb)
  (hs : ∀ x, foldedSetIterable iter X.env x = pure x := by intro _; rfl) : PS X (.For tg iter body [] pos) (tFor wi g tb) := by
 intro pins s σ H D I h
 refine wpAny_For (thn (hi pins s σ H _ I h) fun v s1 h1 => thn h1 fun itv s2 h2 => ?_) hs
 obtain ⟨it, fp, tn, J, H2, e, I2, T, st2, f2, W, ⟨m0, w0⟩, turn⟩ := h2
 subst e
 -- what stays true of the iterator's objects through the loop
 have stat : ∀ {H' : Hp}, (∀ b ∈ fp, H' b = none) → ∀ b ∈ fp, FpOk X pins H' b := fun hn b hb => ⟨hn b hb, (f2 b hb).2⟩
 refine codeAny_forLoop_any (fun n s' => ∃ i σ' H', Inv X pins σ' H' s' ∧ tn i s'.heap ∧ (∀ b ∈ fp, H' b = none) ∧ W i n σ' H') ?_ m0 ⟨0, σ, H2, I2, st2, fun b hb => (f2 b hb).1, w0⟩
 rintro n s3 ⟨i, σ3, H3, I3, st3, fr3, w3⟩
 rcases turn i n σ3 H3 w3 with ⟨stop, qn⟩ | ⟨go, N, hN, step⟩
 ·refine wpAny_passesOwn hp (thn (T.done X rfl rfl rfl hc i pins s3 σ3 H3 X.xe I3 (stat fr3) st3 stop) fun r s4 ⟨hr, I4⟩ => ?_)
  subst hr
  exact wpAny_execs_nil ⟨σ3, H3, I4, qn⟩
 ·refine wpAny_passesOwn hp (thn (T.item X rfl rfl rfl hc i pins s3 σ3 H3 X.xe I3 (stat fr3) st3 go) fun r s4 ⟨u, hr, h4⟩ => ?_)
  subst hr
  refine wpAny_passesOwn hp (thn h4 fun _ s5 ⟨x, H5, I5, r5, y5, st5, fr5⟩ => ?_)
  have I5' := I5.pinned (stat fr5) (T.obj _ _ st5)
  refine wpAny_passesOwn hp (thn (hg _ s5 σ3 H5 x u _ I5' r5 (step x H5 y5)) fun _ s6 ⟨σ6, H6, I6, q6⟩ => ?_)
  refine wpAny_passesOwn hp (thn (hb _ s6 σ6 H6 _ I6 q6) fun f s7 q7 => ?_)
  have again : ∀ {σ7 : St} {H7 : Hp}, Inv X (pins ++ pinsAt fp s5.heap) σ7 H7 s7 → N σ7 H7 → ∃ m, m < n ∧ ∃ i σ' H', Inv X pins σ' H' s7 ∧ tn i s7.heap ∧ (∀ b ∈ fp, H' b = none) ∧ W i m σ' H' := fun {σ7 H7} I7 n7 => by
   obtain ⟨m', hm, w7⟩ := hN σ7 H7 n7
   refine ⟨m', hm, i + 1, σ7, H7, I7.unpinned, T.keep _ _ _ st5 fun b hb o e => (I7.pin (b, o) (List.mem_append_right _ (List.mem_append_right _ (mem_pinsAt hb e)))).1, fun b hb => ?_, w7⟩
   obtain ⟨o, e, d⟩ := T.obj _ _ st5 b hb
   exact (I7.pin (b, o) (List.mem_append_right _ (List.mem_append_right _ (mem_pinsAt hb e)))).2.1
  cases f with
  | next => obtain ⟨σ7, H7, I7, n7⟩ := q7; exact again I7 n7
  | cont => obtain ⟨σ7, H7, I7, n7⟩ := q7; exact again I7 n7
  | brk => obtain ⟨σ7, H7, I7, q7⟩ := q7; exact ⟨σ7, H7, I7.unpinned, q7⟩
  | ret v => obtain ⟨x7, σ7, H7, I7, r7, q7⟩ := q7; exact ⟨x7, σ7, H7, I7.unpinned, r7, q7⟩
end
theorem for_range {lo : Int} {n : Nat} {g : TG} {tb : TS} {D : Ends} {σ : St} {H : Hp} (Pv : Nat → St → Hp → Prop) (h0 : Pv 0 σ H)
  (hs : ∀ i σ H, i < n → Pv i σ H → g (.int (lo + i)) σ H fun σ2 H2 => tb { D with nx := Pv (i + 1), ct := Pv (i + 1), bk := D.nx } σ2 H2) (hd : ∀ σ H, Pv n σ H → D.nx σ H) :
  ∃ W : Nat → Nat → St → Hp → Prop, (∃ m, W 0 m σ H) ∧ ∀ i m σ H, W i m σ H →
   ((Itr lo n).stop i H ∧ D.nx σ H) ∨ ((Itr lo n).go i H ∧ ∃ N : St → Hp → Prop, (∀ σ' H', N σ' H' → ∃ m', m' < m ∧ W (i + 1) m' σ' H') ∧ ∀ x H', (Itr lo n).yld i H x H' → g x σ H' fun σ2 H2 => tb { D with nx := N, ct := N, bk := D.nx } σ2 H2) := by
 refine ⟨fun i m σ H => m = n - i ∧ i ≤ n ∧ Pv i σ H, ⟨n, by simp, Nat.zero_le _, h0⟩, ?_⟩
 rintro i m σ H ⟨rfl, hi, p⟩
 by_cases hlt : i < n
 ·refine .inr ⟨hlt, Pv (i + 1), fun σ' H' p' => ⟨n - (i + 1), by omega, rfl, hlt, p'⟩, fun x H' y => ?_⟩
  obtain ⟨e, y⟩ := y
  subst e y
  exact hs i σ _ hlt p
 ·have e : i = n := by omega
  subst e
  exact .inl ⟨Nat.le_refl _, hd σ H p⟩
abbrev R2 := V → V → Hp → VK → Prop
def OpR (X : Cx) (f : Value → Value → Sem Value) (r : R2) : Prop :=
 ∀ (pins : List (Addr × Obj)) (s : Shared) (σ : St) (H : Hp) (x y : V) (v u : Value) (Q : VK), Inv X pins σ H s → RelV x v → RelV y u → r x y H Q →
  wpAny (model X.prog X.w) X.A (f v u) (EP X pins σ Q) X.xe s
def CallR (X : Cx) (f : Value) (r : List V → Hp → VK → Prop) : Prop :=
 ∀ (pins : List (Addr × Obj)) (s : Shared) (σ : St) (H : Hp) (xs : List V) (us : List Value) (Q : VK), Inv X pins σ H s → Vals xs us → r xs H Q →
  wpAny (model X.prog X.w) X.A (call f us) (EP X pins σ Q) X.xe s
def tOp (r : R2) (ta tb : TE) : TE := fun σ H Q => ta σ H fun x H1 => tb σ H1 fun y H2 => r x y H2 Q
def rI (C : Int → Int → Prop) (g : Int → Int → V) : R2 := fun x y H Q => ∃ i j, x = .int i ∧ y = .int j ∧ C i j ∧ Q (g i j) H
def rI0 (g : Int → Int → V) : R2 := fun x y H Q => ∃ i j, x = .int i ∧ y = .int j ∧ Q (g i j) H
section
variable {X : Cx} {a b c : Expr} {ta tb tc : TE} {pos : Pos}
theorem binT (ha : PE X a ta) (hb : PE X b tb) {pins : List (Addr × Obj)} {s : Shared} {σ : St} {H : Hp} {R : V → V → Hp → Prop} (I : Inv X pins σ H s)
  (h : ta σ H fun x H1 => tb σ H1 fun y H2 => R x y H2) {Q : Value → Shared → Prop} {f : Value → Value → Sem Value}
  (hf : ∀ v u s2 x y H2, Inv X pins σ H2 s2 → RelV x v → RelV y u → R x y H2 → wpAny (model X.prog X.w) X.A (f v u) Q X.xe s2) :
  wpAny (model X.prog X.w) X.A (eval a X.env) (fun v s₁ => wpAny (model X.prog X.w) X.A (eval b X.env) (fun u s₂ => wpAny (model X.prog X.w) X.A (f v u) Q X.xe s₂) X.xe s₁) X.xe s := by
 refine thn (ha pins s σ H _ I h) fun v s1 ⟨x, H1, I1, r1, q1⟩ => ?_
 refine thn (hb pins s1 σ H1 _ I1 q1) fun u s2 ⟨y, H2, I2, r2, q2⟩ => ?_
 exact hf v u s2 x y H2 I2 r1 r2 q2
theorem pe_op {op : Operator} {r : R2} (ho : OpR X (binaryOp op) r) (ha : PE X a ta) (hb : PE X b tb) : PE X (.BinOp a op b pos) (tOp r ta tb) := by
 intro pins s σ H Q I h
 exact wpAny_BinOp (binT ha hb I h fun v u s2 x y H2 I2 rx ry q => ho pins s2 σ H2 x y v u Q I2 rx ry q)
theorem opI {f : Value → Value → Sem Value} {C : Int → Int → Prop} {g : Int → Int → Int}
  (rule : ∀ (i j : Int) (t u : Tok) (s : Shared) (Q : Value → Shared → Prop) (E : Value → Shared → Prop), C i j → Q (.int (g i j) s.toks) { s with toks := s.toks + 1 } → wpAny (model X.prog X.w) X.A (f (.int i t) (.int j u)) Q E s) :
  OpR X f (rI C fun i j => .int (g i j)) := by
 intro pins s σ H x y v u Q I rx ry h
 obtain ⟨i, j, rfl, rfl, hc, q⟩ := h
 obtain ⟨t, rfl⟩ := rx
 obtain ⟨t', rfl⟩ := ry
 exact rule i j t t' s _ _ hc ⟨.int (g i j), H, I.tok _, ⟨_, rfl⟩, q⟩
theorem opI0 {f : Value → Value → Sem Value} {g : Int → Int → Int}
  (rule : ∀ (i j : Int) (t u : Tok) (s : Shared) (Q : Value → Shared → Prop) (E : Value → Shared → Prop), Q (.int (g i j) s.toks) { s with toks := s.toks + 1 } → wpAny (model X.prog X.w) X.A (f (.int i t) (.int j u)) Q E s) :
  OpR X f (rI0 fun i j => .int (g i j)) := by
 intro pins s σ H x y v u Q I rx ry h
 obtain ⟨i, j, rfl, rfl, q⟩ := h
 obtain ⟨t, rfl⟩ := rx
 obtain ⟨t', rfl⟩ := ry
 exact rule i j t t' s _ _ ⟨.int (g i j), H, I.tok _, ⟨_, rfl⟩, q⟩
theorem opB0 {f : Value → Value → Sem Value} {g : Int → Int → Bool}
  (rule : ∀ (i j : Int) (t u : Tok) (s : Shared) (Q : Value → Shared → Prop) (E : Value → Shared → Prop), Q (.bool (g i j)) s → wpAny (model X.prog X.w) X.A (f (.int i t) (.int j u)) Q E s) :
  OpR X f (rI0 fun i j => .bl (g i j)) := by
 intro pins s σ H x y v u Q I rx ry h
 obtain ⟨i, j, rfl, rfl, q⟩ := h
 obtain ⟨t, rfl⟩ := rx
 obtain ⟨t', rfl⟩ := ry
 exact rule i j t t' s _ _ ⟨.bl (g i j), H, I, rfl, q⟩
def CPow (i j : Int) : Prop := 0 ≤ j ∧ j ≤ 1000000 ∧ i.natAbs < 2 ^ 64
def CMul (i j : Int) : Prop := (-(2 ^ 64) < i ∧ i < 2 ^ 64) ∨ (-(2 ^ 64) < j ∧ j < 2 ^ 64)
theorem CMul.ok {i j : Int} (h : CMul i j) : IntMulOk i j := by
 rcases h with ⟨h1, h2⟩ | ⟨h1, h2⟩
 ·exact .of_left (intBits_le_64 h1 h2)
 ·exact .of_right (intBits_le_64 h1 h2)
theorem op_add : OpR X (binaryOp .Add) (rI0 fun i j => .int (i + j)) := opI0 fun _ _ _ _ _ _ _ q => add_int q
theorem op_sub : OpR X (binaryOp .Sub) (rI0 fun i j => .int (i - j)) := opI0 fun _ _ _ _ _ _ _ q => sub_int q
theorem op_mod : OpR X (binaryOp .Mod) (rI (fun _ j => 0 < j) fun i j => .int (i % j)) := opI fun i j _ _ _ _ _ hc q => by
 have h1 : (0 : Int) < j := hc
 exact mod_int' (by omega) (by rw [Int.fmod_eq_emod_of_nonneg i (by omega)]; exact q)
theorem op_pow : OpR X (binaryOp .Pow) (rI CPow fun i j => .int (i ^ j.toNat)) := opI fun _ _ _ _ _ _ _ hc q => pow_int_small hc.1 hc.2.1 hc.2.2 q
end
def scal : V → V → Bool
 | .non, .non => true | .non, .int _ => true | .int _, .non => true | .non, .bl _ => true | .bl _, .non => true | .non, .str _ => true | .str _, .non => true
 | .int _, .int _ => true | .bl _, .bl _ => true | .str _, .str _ => true | .byt _, .byt _ => true
 | .int _, .str _ => true | .str _, .int _ => true | .bl _, .str _ => true | .str _, .bl _ => true
 | _, _ => false
def rEq : R2 := fun x y H Q => scal x y = true ∧ Q (.bl (decide (x = y))) H
def rNe : R2 := fun x y H Q => scal x y = true ∧ Q (.bl (!decide (x = y))) H
theorem dec_int {i j : Int} : decide (V.int i = V.int j) = (i == j) := by
 rw [Bool.eq_iff_iff]
 simp
theorem dec_bl {i j : Bool} : decide (V.bl i = V.bl j) = (i == j) := by
 rw [Bool.eq_iff_iff]
 simp
theorem dec_str {i j : Str} : decide (V.str i = V.str j) = (i == j) := by
 rw [Bool.eq_iff_iff]
 simp
theorem dec_byt {i j : Array UInt8} : decide (V.byt i = V.byt j) = (i.toList == j.toList) := by
 rw [Bool.eq_iff_iff]
 cases i
 cases j
 simp
section
variable {X : Cx} {a b c : Expr} {ta tb tc : TE} {pos : Pos}
theorem fin_bl {pins : List (Addr × Obj)} {σ : St} {H : Hp} {s : Shared} {Q : VK} {k k' : Bool} (I : Inv X pins σ H s) (q : Q (.bl k) H) (e : k = k') : EP X pins σ Q (.bool k') s := by
 subst e
 exact ⟨.bl k, H, I, rfl, q⟩
theorem op_eq : OpR X (compareOp .Eq) rEq := by
 intro pins s σ H x y v u Q I rx ry h
 obtain ⟨hs, q⟩ := h
 cases x with
 | non =>
  cases rx
  cases y with
  | non => cases ry; exact PySem.EqNone.eq_none_none (fin_bl I q (by simp))
  | bl j => cases ry; exact PySem.EqNone.eq_none_bool (fin_bl I q (by simp))
  | int j => obtain ⟨t', rfl⟩ := ry; exact PySem.EqNone.eq_none_int (fin_bl I q (by simp))
  | str j => obtain ⟨t', rfl⟩ := ry; exact PySem.EqNone.eq_none_str (fin_bl I q (by simp))
  | _ => exact absurd (show false = true from hs) Bool.false_ne_true
 | bl i =>
  cases rx
  cases y with
  | non => cases ry; exact PySem.EqNone.eq_bool_none (fin_bl I q (by simp))
  | bl j => cases ry; exact eq_bool (fin_bl I q dec_bl)
  | str j => obtain ⟨t', rfl⟩ := ry; exact PySem.EqMixed.eq_bool_str (fin_bl I q (by simp))
  | _ => exact absurd (show false = true from hs) Bool.false_ne_true
 | int i =>
  obtain ⟨t, rfl⟩ := rx
  cases y with
  | non => cases ry; exact PySem.EqNone.eq_int_none (fin_bl I q (by simp))
  | int j => obtain ⟨t', rfl⟩ := ry; exact eq_int (fin_bl I q dec_int)
  | str j => obtain ⟨t', rfl⟩ := ry; exact PySem.EqMixed.eq_int_str (fin_bl I q (by simp))
  | _ => exact absurd (show false = true from hs) Bool.false_ne_true
 | str i =>
  obtain ⟨t, rfl⟩ := rx
  cases y with
  | non => cases ry; exact PySem.EqNone.eq_str_none (fin_bl I q (by simp))
  | bl j => cases ry; exact PySem.EqMixed.eq_str_bool (fin_bl I q (by simp))
  | int j => obtain ⟨t', rfl⟩ := ry; exact PySem.EqMixed.eq_str_int (fin_bl I q (by simp))
  | str j => obtain ⟨t', rfl⟩ := ry; exact eq_str (fin_bl I q dec_str)
  | _ => exact absurd (show false = true from hs) Bool.false_ne_true
 | byt i =>
  obtain ⟨t, rfl⟩ := rx
  cases y with
  | byt j => obtain ⟨t', rfl⟩ := ry; exact W.eq_bytes (fin_bl I q dec_byt)
  | _ => exact absurd (show false = true from hs) Bool.false_ne_true
 | _ => cases y <;> exact absurd (show false = true from hs) Bool.false_ne_true
theorem op_ne : OpR X (compareOp .NotEq) rNe := by
 intro pins s σ H x y v u Q I rx ry h
 obtain ⟨hs, q⟩ := h
 cases x with
 | non =>
  cases rx
  cases y with
  | non => cases ry; exact PySem.EqNone.ne_none_none (fin_bl I q (by simp))
  | bl j => cases ry; exact PySem.EqNone.ne_none_bool (fin_bl I q (by simp))
  | int j => obtain ⟨t', rfl⟩ := ry; exact PySem.EqNone.ne_none_int (fin_bl I q (by simp))
  | str j => obtain ⟨t', rfl⟩ := ry; exact PySem.EqNone.ne_none_str (fin_bl I q (by simp))
  | _ => exact absurd (show false = true from hs) Bool.false_ne_true
 | bl i =>
  cases rx
  cases y with
  | non => cases ry; exact PySem.EqNone.ne_bool_none (fin_bl I q (by simp))
  | bl j => cases ry; exact ne_bool (fin_bl I q (congrArg not dec_bl))
  | str j => obtain ⟨t', rfl⟩ := ry; exact PySem.EqMixed.ne_bool_str (fin_bl I q (by simp))
  | _ => exact absurd (show false = true from hs) Bool.false_ne_true
 | int i =>
  obtain ⟨t, rfl⟩ := rx
  cases y with
  | non => cases ry; exact PySem.EqNone.ne_int_none (fin_bl I q (by simp))
  | int j => obtain ⟨t', rfl⟩ := ry; exact ne_int (fin_bl I q (congrArg not dec_int))
  | str j => obtain ⟨t', rfl⟩ := ry; exact PySem.EqMixed.ne_int_str (fin_bl I q (by simp))
  | _ => exact absurd (show false = true from hs) Bool.false_ne_true
 | str i =>
  obtain ⟨t, rfl⟩ := rx
  cases y with
  | non => cases ry; exact PySem.EqNone.ne_str_none (fin_bl I q (by simp))
  | bl j => cases ry; exact PySem.EqMixed.ne_str_bool (fin_bl I q (by simp))
  | int j => obtain ⟨t', rfl⟩ := ry; exact PySem.EqMixed.ne_str_int (fin_bl I q (by simp))
  | str j => obtain ⟨t', rfl⟩ := ry; exact ne_str (fin_bl I q (congrArg not dec_str))
  | _ => exact absurd (show false = true from hs) Bool.false_ne_true
 | byt i =>
  obtain ⟨t, rfl⟩ := rx
  cases y with
  | byt j => obtain ⟨t', rfl⟩ := ry; exact W.ne_bytes (fin_bl I q (congrArg not dec_byt))
  | _ => exact absurd (show false = true from hs) Bool.false_ne_true
 | _ => cases y <;> exact absurd (show false = true from hs) Bool.false_ne_true
theorem op_lt : OpR X (compareOp .Lt) (rI0 fun i j => .bl (decide (i < j))) := opB0 fun _ _ _ _ _ _ _ q => lt_int q
theorem op_le : OpR X (compareOp .LtE) (rI0 fun i j => .bl (decide (i ≤ j))) := opB0 fun _ _ _ _ _ _ _ q => le_int q
theorem op_gt : OpR X (compareOp .Gt) (rI0 fun i j => .bl (decide (j < i))) := opB0 fun _ _ _ _ _ _ _ q => gt_int q
theorem nomark (b : Expr) {op : CmpOp} (h : op ≠ .In := by decide) (h2 : op ≠ .NotIn := by decide) : behindInMarks op b = false := by
 have e1 : (op == CmpOp.In) = false := by cases op <;> first | rfl | exact absurd rfl h
 have e2 : (op == CmpOp.NotIn) = false := by cases op <;> first | rfl | exact absurd rfl h2
 cases b <;> simp [behindInMarks, e1, e2]
theorem pe_cmpR {op : CmpOp} {r : R2} (ho : OpR X (compareOp op) r) (ha : PE X a ta) (hb : PE X b tb) (hm : behindInMarks op b = false) : PE X (.Compare a [op] [b] pos) (tOp r ta tb) := by
 intro pins s σ H Q I h
 exact wpAny_Compare1 (binT ha hb I h fun v u s2 x y H2 I2 rx ry q => ho pins s2 σ H2 x y v u Q I2 rx ry q) hm
def tTest (t : TE) : TT := fun σ H Q => t σ H fun x H' => ∃ k, x = .bl k ∧ Q k H'
theorem pt_cmpR {op : CmpOp} {r : R2} (ho : OpR X (compareOp op) r) (ha : PE X a ta) (hb : PE X b tb) (hm : behindInMarks op b = false) : PT X (.Compare a [op] [b] pos) (tTest (tOp r ta tb)) := by
 intro pins s σ H Q I h
 refine wpAny_isTrue_Compare1 (thn (ha pins s σ H _ I h) fun v s1 ⟨x, H1, I1, r1, q1⟩ => thn (hb pins s1 σ H1 _ I1 q1) fun u s2 ⟨y, H2, I2, r2, q2⟩ =>
  thn (ho pins s2 σ H2 x y v u _ I2 r1 r2 q2) fun c s3 ⟨z, H3, I3, r3, k, e, q3⟩ => ?_) hm
 subst e
 cases r3
 exact wpAny_truthy_bool ⟨H3, I3, q3⟩
theorem line63 : (sizeLine : Nat) < 2 ^ 63 := by rw [sizeLine_eq]; decide
theorem vals1 {x : V} {us : List Value} (r : Vals [x] us) : ∃ u, us = [u] ∧ RelV x u := by
 cases r with
 | cons r1 r2 => cases r2; exact ⟨_, rfl, r1⟩
theorem vals2 {x y : V} {us : List Value} (r : Vals [x, y] us) : ∃ u w', us = [u, w'] ∧ RelV x u ∧ RelV y w' := by
 cases r with
 | cons r1 r2 =>
  cases r2 with
  | cons r3 r4 => cases r4; exact ⟨_, _, rfl, r1, r3⟩
theorem call_min2 (hc : X.calm = true) : CallR X (.builtin "min") (fun xs H Q => ∃ i j, xs = [.int i, .int j] ∧ Q (.int (if j < i then j else i)) H) := by
 intro pins s σ H xs us Q I r h
 obtain ⟨i, j, rfl, q⟩ := h
 obtain ⟨u, w', rfl, ⟨t, rfl⟩, ⟨t', rfl⟩⟩ := vals2 r
 refine min_two_ints (I.ok.hd hc) fun h' tk k => ⟨_, H, I.kept k, ?_, q⟩
 by_cases hj : j < i
 ·rw [if_pos hj, if_pos hj]; exact ⟨_, rfl⟩
 ·rw [if_neg hj, if_neg hj]; exact ⟨_, rfl⟩
end
structure ObjM (h : Heap) (x dx C : Addr) (mA : Str → Option Value) : Prop where
 obj : h.get? x = some (W.instObj C dx)
 ns : h.Ns1 dx mA
 ne : dx ≠ x
theorem lookIn_ns {h : Heap} {dx : Addr} {mA : Str → Option Value} (n : h.Ns1 dx mA) : ∃ od, h.get? dx = some od ∧ ∀ name, W.lookIn name od = some (mA name) := by
 obtain ⟨o, es, ep, ho, hd, hk, _, hm⟩ := n
 refine ⟨o, ho, fun name => ?_⟩
 have e := hm name
 unfold nsFind findBy at e
 rw [← Array.find?_toList] at e
 unfold W.lookIn
 rw [hd]
 dsimp only
 split
 ·rename_i y q
  rw [q] at e
  exact congrArg some e
 ·rename_i q
  rw [q] at e
  have a : es.toList.any (·.refKey) = false := by
   rw [List.any_eq_false]
   intro y hy
   obtain ⟨z, t, hkey⟩ := hk y (Array.mem_toList_iff.mp hy)
   simp [DictEntry.refKey, hkey]
  have a' : ¬ es.toList.any (·.refKey) = true := by rw [a]; exact Bool.false_ne_true
  rw [if_neg a']
  exact congrArg some e
theorem ObjM.look {h : Heap} {x dx C : Addr} {mA : Str → Option Value} (I : ObjM h x dx C mA) : ∃ od, W.InstAt h x (W.instObj C dx) C (some od) ∧ ∀ name, W.lookIn name od = some (mA name) :=
 let ⟨od, ho, hl⟩ := lookIn_ns I.ns
 ⟨od, ⟨I.obj, rfl, rfl, ho⟩, hl⟩
section
variable {P : Program} {w : World} {H H' : Hp} {h h' : Heap} {a C dx : Addr} {fs fs' : List (Str × V)}
theorem ins_get (hok : HOk P w H h) (e : H a = some (.ins C dx fs)) : ∃ mA, ObjM h a dx C mA ∧ (∀ f, RelO (fs.lookup f) (mA f)) ∧ PySem.Within mA (fs.map (·.1)) ∧ fs.length ≤ 1000 ∧ H dx = some (.own a) := by
 obtain ⟨d, z, ne, ob, mA, n, r, q⟩ := (show ObjOk P w H h a (.ins C dx fs) from hok a _ e)
 exact ⟨mA, ⟨ob, n, ne⟩, r, q, z, d⟩
end
structure Cls (K : W.Frag) (C : Addr) : Prop where
 pg : W.plainGet K C Str.empty = true
 hd : W.hasDictIn K C = true
 po : W.plainOver K C = true
 sa : W.findIn K (.ref C) "__setattr__" = some (some (.builtin "object.__setattr__"))
theorem Cls.get {K : W.Frag} {C : Addr} (c : Cls K C) (f : Str) : W.plainGet K C f = true := c.pg
section
variable {X : Cx} {pins : List (Addr × Obj)} {σ : St} {H : Hp} {s : Shared} {a C dx : Addr} {fs : List (Str × V)} {f : Str} {v : V} {A : Around} {E : Value → Shared → Prop}
theorem Inv.made (I : Inv X pins σ H s) : Inv X pins σ (upd (upd H s.heap.objs.size (.own (s.heap.objs.size + 1))) (s.heap.objs.size + 1) (.ins C s.heap.objs.size []))
  { s with heap := (s.heap.push W.emptyDict).push (W.instObj C s.heap.objs.size) } := by
 have e1 : (s.heap.push W.emptyDict).get? s.heap.objs.size = some W.emptyDict := Heap.get?_push_size s.heap rfl
 have e2 : ((s.heap.push W.emptyDict).push (W.instObj C s.heap.objs.size)).get? (s.heap.objs.size + 1) = some (W.instObj C s.heap.objs.size) := by
  have := Heap.get?_push_size (s.heap.push W.emptyDict) (o := W.instObj C s.heap.objs.size) rfl
  rwa [Heap.size_push] at this
 have e3 : (s.heap.push W.emptyDict).Ns s.heap.objs.size (fun _ => none) := ⟨W.emptyDict, #[], _, e1, rfl, (fun e he => absurd he (by simp)), fun _ => rfl⟩
 have I1 := I.laid (a := s.heap.objs.size) (o := .own (s.heap.objs.size + 1)) (h' := s.heap.push W.emptyDict) (t' := s.toks) (fun b u q => Heap.get?_push_of_some _ q) (Nat.le_refl _) ⟨_, e1⟩
 refine I1.laid (a := s.heap.objs.size + 1) (o := .ins C s.heap.objs.size []) (t' := s.toks) (fun b u q => Heap.get?_push_of_some _ q) (Nat.le_of_eq (Heap.size_push _ _)) ?_
 have ne : s.heap.objs.size ≠ s.heap.objs.size + 1 := Nat.ne_of_lt (Nat.lt_succ_self _)
 refine ⟨by rw [upd_ne ne, upd_same], Nat.zero_le _, ne, e2, fun _ => none, (Heap.Ns1.of_empty e3).at fun o q => Heap.get?_push_of_some _ q, fun _ => True.intro, fun y hy => absurd rfl hy⟩
end
section
variable {X : Cx} {pins : List (Addr × Obj)} {σ : St} {H : Hp} {s : Shared} {A : Around} {E : Value → Shared → Prop} {Q : Value → Shared → Prop} {c : Value} {b : Bool}
inductive TyOf (K : W.Frag) (H : Hp) : V → Value → Prop where
 | non : TyOf K H .non (.type "NoneType")
 | bl (x : Bool) : TyOf K H (.bl x) (.type "bool")
 | int (i : Int) : TyOf K H (.int i) (.type "int")
 | str (x : Str) : TyOf K H (.str x) (.type "str")
 | flt (x : UInt64) : TyOf K H (.flt x) (.type "float")
 | lst {a : Addr} {xs : List V} (e : H a = some (.lst xs)) : TyOf K H (.ref a) (.type "list")
 | frz {a : Addr} {o : Obj} {xs : List V} (e : H a = some (.frz o (.lst xs))) : TyOf K H (.ref a) (.type "list")
 | tup {a : Addr} {xs : List V} (e : H a = some (.tup xs)) : TyOf K H (.ref a) (.type "tuple")
 | dK {a : Addr} {kvs : List (Key × V)} (e : H a = some (.dK kvs)) : TyOf K H (.ref a) (.type "dict")
 | dT {a : Addr} {kvs : List (List Key × V)} (e : H a = some (.dT kvs)) : TyOf K H (.ref a) (.type "dict")
 | ins {a C dx : Addr} {fs : List (Str × V)} (e : H a = some (.ins C dx fs)) (cl : Cls K C) (ha : W.findIn K (.ref C) "__class__" = some (some (.builtin "object.__class__")))
   (hn : W.specialIn K (.builtin "object.__class__") "__get__" = some (some (.builtin "getset_descriptor.__get__"))) (htk : W.takesIn K (.builtin "object.__class__") = some true)
   (hm : W.mroIn K C (.type "object") = some true) : TyOf K H (.ref a) (.ref C)
end
structure Room (k : Nat) (A : Around) : Prop where
 hd : A.handled = none
 dp : A.depth + 3 * k + 5 < recursionLimit
 un : A.units + 16 * k + 200 < cLine
theorem Room.mono {j k : Nat} {A : Around} (r : Room k A) (h : j ≤ k) : Room j A := ⟨r.hd, by have := r.dp; omega, by have := r.un; omega⟩
theorem Room.deeper {k : Nat} {A : Around} (r : Room (k + 1) A) (env : Env) : Room k (A.deeper env) :=
 ⟨r.hd, by have := r.dp; show A.depth + 1 + 3 * k + 5 < _; omega, by have := r.un; show A.units + 3 + 16 * k + 200 < _; omega⟩
theorem Room.in1 {k : Nat} {A : Around} (r : Room (k + 1) A) : Room k A.in1 :=
 ⟨r.hd, by have := r.dp; show A.depth + 3 * k + 5 < _; omega, by have := r.un; show A.units + 1 + 16 * k + 200 < _; omega⟩
theorem Room.depth {k : Nat} {A : Around} (r : Room k A) : A.depth < recursionLimit := by have := r.dp; omega
theorem Room.units {k : Nat} {A : Around} (r : Room k A) : A.units + 64 < cLine := by have := r.un; omega
def tNil : TA := fun _ H Q => Q [] H
def tCons (ta : TE) (tr : TA) : TA := fun σ H Q => ta σ H fun x H1 => tr σ H1 fun xs H2 => Q (x :: xs) H2
section
variable {X : Cx} {e : Expr} {es : List Expr} {te : TE} {t : TA} {pos : Pos}
theorem pa_nil : PA X [] tNil := fun _ _ _ _ H Q I h => Calls.spliced_nil ⟨[], H, I, .nil, h⟩
theorem pa_cons (ha : PE X e te) (hr : PA X es t) (hs : starEach (e :: es) X.env = (false, eval e X.env) :: starEach es X.env := by rfl) : PA X (e :: es) (tCons te t) := by
 intro pos pins s σ H Q I h
 rw [hs]
 show wpAny _ _ (spliced ((false, eval e X.env) :: backTo pos (starEach es X.env))) _ _ s
 refine Calls.spliced_cons (thn (ha pins s σ H _ I h) fun u s1 ⟨x, H1, I1, r1, q1⟩ => ?_)
 exact thn (hr pos pins s1 σ H1 _ I1 q1) fun us s2 ⟨xs, H2, I2, r2, q2⟩ => ⟨x :: xs, H2, I2, .cons r1 r2, q2⟩
def tTup (t : TA) : TE := fun σ H Q => t σ H fun xs H1 => xs.length ≤ sizeLine ∧ ∀ p, H1 p = none → Q (.ref p) (upd H1 p (.tup xs))
def tLst (t : TA) : TE := fun σ H Q => t σ H fun xs H1 => xs.length ≤ sizeLine ∧ ∀ p, H1 p = none → Q (.ref p) (upd H1 p (.lst xs))
theorem pe_tup {x1} (h : PA X es t) : PE X (.Tuple es x1 pos) (tTup t) := by
 intro pins s σ H Q I hq
 refine wpAny_Tuple_spliced (thn (h pos pins s σ H _ I hq) fun us s1 ⟨xs, H1, I1, r, z, q⟩ => ⟨by rw [← r.length]; exact z, ?_⟩)
 have hf : H1 s1.heap.objs.size = none := I1.hok.fresh (Nat.le_refl _)
 refine ⟨.ref s1.heap.objs.size, upd H1 s1.heap.objs.size (.tup xs), I1.laid (t' := s1.toks) (fun b u e => Heap.get?_push_of_some _ e) (Nat.le_refl _) ?_, rfl, q _ hf⟩
 exact ⟨z, us, r, ⟨_, Heap.get?_push_size _ rfl, rfl, _, rfl⟩⟩
theorem pe_lst (h : PA X es t) : PE X (.List es pos) (tLst t) := by
 intro pins s σ H Q I hq
 refine wpAny_List_spliced (thn (h pos pins s σ H _ I hq) fun us s1 ⟨xs, H1, I1, r, z, q⟩ => ⟨by rw [← r.length]; exact z, ?_⟩)
 have hf : H1 s1.heap.objs.size = none := I1.hok.fresh (Nat.le_refl _)
 refine ⟨.ref s1.heap.objs.size, upd H1 s1.heap.objs.size (.lst xs), I1.laid (t' := s1.toks) (fun b u e => Heap.get?_push_of_some _ e) (Nat.le_refl _) ?_, rfl, q _ hf⟩
 exact ⟨z, us, 0, r, Heap.get?_push_size _ rfl⟩
end
abbrev Sp := List V → Hp → VK → XK → Prop
abbrev CXT := List Env → Hp → Shared → XK → Value → Shared → Prop
structure Env0 (P : Program) (w : World) (K : W.Frag) (mg : Str → Option Value) (base : Heap) (A : Around) (outer : List Env) (s : Shared) (H : Hp) : Prop where
 frames : A.frames = some outer
 mod : Mod K mg base
 bs : ∀ b o, base.get? b = some o → s.heap.get? b = some o ∧ H b = none
 bsz : base.objs.size ≤ s.heap.objs.size
 funs : s.heap.FunFrames base outer
 frf : ∀ b ∈ frs outer, H b = none
 hok : HOk P w H s.heap
 bare : AllBare s.gens
def CE (outer : List Env) (P : Program) (w : World) (H : Hp) (s : Shared) (Q : VK) (u : Value) (s' : Shared) : Prop :=
 ∃ v H', s'.os = s.os ∧ AllBare s'.gens ∧ Un (frs outer) [] H H' s.heap s'.heap ∧ HOk P w H' s'.heap ∧ RelV v u ∧ Q v H'
def CR (CX : CXT) (outer : List Env) (P : Program) (w : World) (H : Hp) (s : Shared) (Q : VK) (E : XK) (r : Result) (s' : Shared) : Prop :=
 match r with
 | .ok (.ret u) => CE outer P w H s Q u s'
 | .ok _ => False
 | .error e => CX outer H s E e s'
structure FnOk (P : Program) (w : World) (K : W.Frag) (mg : Str → Option Value) (base : Heap) (CX : CXT) (k : Nat) (f : Addr) (fd : FuncData) (ps : List Str) (sp : Sp) : Prop where
 len : ∀ vs H Q E, sp vs H Q E → vs.length = ps.length
 run : ∀ (A : Around) (outer : List Env) (s : Shared) (H : Hp) (args : Args) (us : List Value) (vs : List V) (Q : VK) (E : XK), Room k A → Env0 P w K mg base A outer s H → BindsTo s fd args (ps.zip us) → Vals vs us → sp vs H Q E →
  codeAny (model P w) A (.call (.ref f) args) (CR CX outer P w H s Q E) s
theorem FnOk.mono {P : Program} {w : World} {K : W.Frag} {mg : Str → Option Value} {base : Heap} {CX : CXT} {j k : Nat} {f : Addr} {fd : FuncData} {ps : List Str} {sp : Sp} (F : FnOk P w K mg base CX j f fd ps sp) (h : j ≤ k) :
  FnOk P w K mg base CX k f fd ps sp := ⟨F.len, fun A outer s H args us vs Q E hr => F.run A outer s H args us vs Q E (hr.mono h)⟩
theorem FnOk.imp {P : Program} {w : World} {K : W.Frag} {mg : Str → Option Value} {base : Heap} {CX : CXT} {k : Nat} {f : Addr} {fd : FuncData} {ps : List Str} {sp sp' : Sp} (F : FnOk P w K mg base CX k f fd ps sp)
  (h : ∀ vs H Q E, sp' vs H Q E → sp vs H Q E) : FnOk P w K mg base CX k f fd ps sp' :=
 ⟨fun vs H Q E q => F.len vs H Q E (h _ _ _ _ q), fun A outer s H args us vs Q E hr he hb hv hs => F.run A outer s H args us vs Q E hr he hb hv (h _ _ _ _ hs)⟩
theorem Env0.in1 {P : Program} {w : World} {K : W.Frag} {mg : Str → Option Value} {base : Heap} {A : Around} {outer : List Env} {s : Shared} {H : Hp} (e : Env0 P w K mg base A outer s H) :
  Env0 P w K mg base A.in1 outer s H := ⟨e.frames, e.mod, e.bs, e.bsz, e.funs, e.frf, e.hok, e.bare⟩
section
variable {X : Cx} {pins : List (Addr × Obj)} {σ : St} {H : Hp} {s s' : Shared}
theorem Inv.env0 (I : Inv X pins σ H s) : Env0 X.prog X.w X.K X.mg X.base X.A X.stack s H :=
 ⟨I.ok.frames, I.ok.mod, I.bs, Nat.le_trans I.ok.bsz I.sz, I.stack, I.stkFree, I.hok, I.bare⟩
theorem Inv.after {Q : VK} {u : Value} (I : Inv X pins σ H s) (h : CE X.stack X.prog X.w H s Q u s') : EP X pins σ Q u s' := by
 obtain ⟨v, H', os, bare, un, hok, r, q⟩ := h
 obtain ⟨hh, g, d, t, os'⟩ := s'
 obtain rfl : os' = s.os := os
 exact ⟨v, H', I.call (h' := hh) (g' := g) (d' := d) (t' := t) (ch := []) un hok bare (fun b z => absurd z (by simp)), r, q⟩
end
def tCall (sp : Sp) (dvs : List V) (E : XK) (t : TA) : TE := fun σ H Q => t σ H fun vs H1 => sp (vs ++ dvs) H1 Q E
def Binds (K : W.Frag) (fd : FuncData) (ps : List Str) (ds : List Value) : Prop :=
 ∀ (s : Shared) (us : List Value), K.In s.heap → (us ++ ds).length = ps.length → BindsTo s fd ⟨us, []⟩ (ps.zip (us ++ ds))
theorem Binds.all {K : W.Frag} {fd : FuncData} {ps : List Str} (h : ∀ us : List Value, us.length = ps.length → bindArgs fd ⟨us, []⟩ = pure (ps.zip us)) : Binds K fd ps [] := fun s us _ hl => by
 rw [List.append_nil] at hl ⊢
 exact .of_eq (h us hl)
def Passes (CX : CXT) (X : Cx) (E : XK) : Prop := ∀ (pins : List (Addr × Obj)) (σ : St) (H : Hp) (s : Shared) (e : Value) (s' : Shared), Inv X pins σ H s → CX X.stack H s E e s' → X.xe e s'
section
variable {X : Cx} {CX : CXT} {k : Nat} {f C : Addr} {fd : FuncData} {ps : List Str} {sp : Sp} {dvs : List V} {ds : List Value} {E : XK} {x m : Str} {p pos apos : Pos} {e o : Expr} {es : List Expr} {ta : TE} {t : TA}
theorem run_fn {pins : List (Addr × Obj)} {σ : St} {H : Hp} {s : Shared} {Q : VK} {us : List Value} {vs : List V} (F : FnOk X.prog X.w X.K X.mg X.base CX k f fd ps sp) (hr : Room k X.A) (hb : Binds X.K fd ps ds) (hd : Vals dvs ds) (hx : Passes CX X E)
  (I : Inv X pins σ H s) (r : Vals vs us) (h : sp (vs ++ dvs) H Q E) : wpAny (model X.prog X.w) X.A (call (.ref f) us) (EP X pins σ Q) X.xe s := by
 have r2 : Vals (vs ++ dvs) (us ++ ds) := r.append hd
 have hl : (us ++ ds).length = ps.length := by rw [← r2.length]; exact F.len _ _ _ _ h
 refine wpAny_call (codeAny_mono (F.run X.A X.stack s H ⟨us, []⟩ (us ++ ds) (vs ++ dvs) Q E hr I.env0 (hb s us I.kIn hl) r2 h) fun r s' hq => ?_)
 cases r with
 | error e => exact hx pins σ H s e s' I hq
 | ok fl =>
  cases fl with
  | ret u => exact I.after hq
  | next => exact False.elim hq
  | brk => exact False.elim hq
  | cont => exact False.elim hq
theorem pe_call (F : FnOk X.prog X.w X.K X.mg X.base CX k f fd ps sp) (hr : Room k X.A) (hg : Gl X x) (hm : X.mg x = some (.ref f)) (hk : W.keepIn X.K (.ref f) = true) (hb : Binds X.K fd ps ds) (hd : Vals dvs ds) (hx : Passes CX X E)
  (ha : PA X (e :: es) t) (hdb : (x == ("__debug__" : Str)) = false := by decide) (he : starEach (e :: es) X.env = (false, eval e X.env) :: starEach es X.env := by rfl) (hpl : (backTo pos (starEach es X.env)).any (·.1) = false := by rfl) :
  PE X (.Call (.Name x p) (e :: es) [] pos) (tCall sp dvs E t) := by
 intro pins s σ H Q I h
 refine wpAny_Call_Name_kw (ld_glob I hg hm ?_ hdb)
 refine W.callWith_K (h₀ := X.base) I.ok.mod.kin hk (thn (ha pos pins s σ H _ I h) fun us s1 ⟨vs, H1, I1, r, q⟩ => ⟨I1.kIn, ?_⟩) he hpl
 exact run_fn F hr hb hd hx I1 r q
end
structure FnScope (N P : List Str) (sc : Scope) : Prop where
 kind : sc.kind = .function
 co : sc.isCoroutine = false
 gen : sc.isGenerator = false
 nd : N.Nodup
 pre : N.take P.length = P
 par : ∀ x ∈ P, sc.names.lookup x = some .local ∨ sc.names.lookup x = some .cell
 nofree : ∀ y ∈ sc.names, y.2 ≠ .free
theorem bindL_out {kindOf : Str → Option NameKind} {x : Str} : ∀ {binds : List (Str × Value)} {m : Str → Option Value}, (∀ v, (x, v) ∉ binds) → bindL kindOf binds m x = m x
 | [], _, _ => rfl
 | (n, v) :: r, m, h => by
  unfold bindL
  rw [bindL_out fun w hw => h w (List.mem_cons_of_mem _ hw)]
  split
  ·have : x ≠ n := by rintro rfl; exact h v List.mem_cons_self
   simp [this]
  ·rfl
theorem bindC_out {kindOf : Str → Option NameKind} {x : Str} : ∀ {binds : List (Str × Value)} {m : Str → Option Value}, (∀ v, (x, v) ∉ binds) → bindC kindOf binds m x = m x
 | [], _, _ => rfl
 | (n, v) :: r, m, h => by
  unfold bindC
  rw [bindC_out fun w hw => h w (List.mem_cons_of_mem _ hw)]
  split
  ·rfl
  ·have : x ≠ n := by rintro rfl; exact h v List.mem_cons_self
   simp [this]
theorem bindL_get {kindOf : Str → Option NameKind} {x : Str} {v : Value} : ∀ {P : List Str} {vs : List Value} {i : Nat} {m : Str → Option Value}, P.Nodup → P[i]? = some x → vs[i]? = some v → kindOf x = some .local →
  bindL kindOf (P.zip vs) m x = some v
 | [], _, _, _, _, h, _, _ => by simp at h
 | _ :: _, [], _, _, _, _, h, _ => by simp at h
 | p :: P, w :: vs, 0, m, nd, h1, h2, hk => by
  simp at h1 h2; subst h1; subst h2
  show bindL kindOf ((p, w) :: P.zip vs) m p = _
  unfold bindL
  rw [bindL_out fun v hv => (List.nodup_cons.mp nd).1 (List.of_mem_zip hv).1, if_pos hk]
  simp
 | p :: P, w :: vs, i + 1, m, nd, h1, h2, hk => by
  show bindL kindOf ((p, w) :: P.zip vs) m x = _
  unfold bindL
  exact bindL_get (i := i) (List.nodup_cons.mp nd).2 (by simpa using h1) (by simpa using h2) hk
theorem bindC_get {kindOf : Str → Option NameKind} {x : Str} {v : Value} : ∀ {P : List Str} {vs : List Value} {i : Nat} {m : Str → Option Value}, P.Nodup → P[i]? = some x → vs[i]? = some v → kindOf x ≠ some .local →
  bindC kindOf (P.zip vs) m x = some v
 | [], _, _, _, _, h, _, _ => by simp at h
 | _ :: _, [], _, _, _, _, h, _ => by simp at h
 | p :: P, w :: vs, 0, m, nd, h1, h2, hk => by
  simp at h1 h2; subst h1; subst h2
  show bindC kindOf ((p, w) :: P.zip vs) m p = _
  unfold bindC
  rw [bindC_out fun v hv => (List.nodup_cons.mp nd).1 (List.of_mem_zip hv).1, if_neg hk]
  simp
 | p :: P, w :: vs, i + 1, m, nd, h1, h2, hk => by
  show bindC kindOf ((p, w) :: P.zip vs) m x = _
  unfold bindC
  exact bindC_get (i := i) (List.nodup_cons.mp nd).2 (by simpa using h1) (by simpa using h2) hk
def start (N : List Str) (vs : List V) : St := vs.map some ++ List.replicate (N.length - vs.length) none
def cxOf (CX : CXT) (P : Program) (w : World) (K : W.Frag) (mg : Str → Option Value) (base : Heap) (N : List Str) (qual : Str) (scope : Scope) (f : Addr) (cd : Value) (A : Around) (outer : List Env) (s : Shared) (H : Hp) (E : XK) : Cx where
 prog := P
 w := w
 K := K
 mg := mg
 base := base
 A := A.deeper (envOfC qual scope s.heap.objs.size f cd)
 N := N
 s₀ := s
 H₀ := H
 env := envOfC qual scope s.heap.objs.size f cd
 outer := outer
 stack := envOfC qual scope s.heap.objs.size f cd :: outer
 ex := []
 calm := true
 fn := fun _ => true
 pn := []
 xe := fun e s' => wpAny (model P w) (A.deeper (envOfC qual scope s.heap.objs.size f cd)) (leaving (envOfC qual scope s.heap.objs.size f cd) e) (fun _ s'' => CX outer H s E e s'') (fun e' s'' => CX outer H s E e' s'') s'
theorem cell_has {sc : Scope} {n : Nat} {x : Str} (h : sc.names.lookup x = some .cell) : ∃ c, (cellsFrom n sc.names []).lookup x = some c := by
 have q := W.cellsFrom_some sc.names n [] (.inl h)
 exact Option.isSome_iff_exists.mp q
theorem inv_start {CX : CXT} {P : Program} {w : World} {K : W.Frag} {mg : Str → Option Value} {base : Heap} {N ps : List Str} {qual : Str} {scope : Scope} {f : Addr} {cd : Value} {A : Around} {outer : List Env} {s s1 : Shared} {H : Hp} {E : XK} {us : List Value} {vs : List V}
  (S : FnScope N ps scope) (hd : A.handled = none) (e0 : Env0 P w K mg base A outer s H) (hl : vs.length = ps.length) (r : Vals vs us)
  (x : InCallC s s.heap.objs.size (bindL (envOfC qual scope s.heap.objs.size f cd).kindOf (ps.zip us) fun _ => none) (cellsFrom (s.heap.objs.size + 1) scope.names []) (bindC (envOfC qual scope s.heap.objs.size f cd).kindOf (ps.zip us) fun _ => none) s1) :
  Inv (cxOf CX P w K mg base N qual scope f cd A outer s H E) [] (start N vs) H s1 := by
 have hpl : ps.length ≤ N.length := by have := congrArg List.length S.pre; rw [List.length_take] at this; omega
 obtain ⟨h1, tk, rfl, hk⟩ := x.done
 have noA : ∀ b : Addr, b ∉ (cxOf CX P w K mg base N qual scope f cd A outer s H E).ex := fun b z => absurd (show b ∈ ([] : List Addr) from z) (by simp)
 refine ⟨⟨e0.mod, S.kind, rfl, rfl, Nat.le_refl _, fun y z c h1 h2 => ?_, fun y hy => ?_, fun y c _ h => ?_, fun _ => hd, Around.frames_deeper e0.frames, .inr ⟨rfl, rfl⟩, fun b z => absurd z (noA b), e0.bs, e0.bsz, fun b _ _ => noA b, fun b z => absurd z (noA b), e0.funs, e0.frf⟩,
  rfl, e0.bare, Un.kept hk, ⟨_, x.toInCall.ns, fun i y v h1 h2 h3 => ?_⟩, fun y c h => ⟨_, x.cell y c h⟩, e0.hok.fresh (Nat.le_refl _), fun y c h => ?_, fun p hp => absurd (show p ∈ ([] : List (Addr × Obj)) from hp) (by simp), e0.hok.kept hk, ?_⟩
 ·exact name_of_addr x.apart (PySem.mem_of_lookup h1) (PySem.mem_of_lookup h2)
 ·have hy : scope.names.lookup y = some .cell ∨ scope.names.lookup y = some .free := hy
  rcases hy with hy | hy
  ·exact cell_has hy
  ·exact absurd rfl (S.nofree _ (PySem.mem_of_lookup hy))
 ·exact Nat.le_of_lt (x.above y c (PySem.mem_of_lookup h))
 ·have hi : i < vs.length := by
   unfold start at h2
   by_cases hi : i < vs.length
   ·exact hi
   ·rw [List.getElem?_append_right (by simpa using hi)] at h2
    rw [List.getElem?_replicate] at h2
    split at h2 <;> cases h2
  have ha : vs[i]? = some v := by
   unfold start at h2
   rw [List.getElem?_append_left (by simpa using hi), List.getElem?_map] at h2
   cases e : vs[i]? with
   | none => rw [e] at h2; cases h2
   | some a => rw [e] at h2; cases h2; rfl
  obtain ⟨u, hu, rv⟩ := r.get ha
  have hp : ps[i]? = some y := by
   rw [← S.pre, List.getElem?_take_of_lt (by omega)]; exact h1
  have ndP : ps.Nodup := by rw [← S.pre]; exact S.nd.sublist (List.take_sublist _ _)
  refine ⟨u, rv, ?_⟩
  rcases S.par y (List.mem_of_getElem? hp) with k | k
  ·exact .inl ⟨k, bindL_get ndP hp hu k⟩
  ·obtain ⟨c, e⟩ := cell_has (n := s.heap.objs.size + 1) k
   refine .inr ⟨.inl k, c, e, ?_⟩
   have q := x.cell y c e
   rw [bindC_get ndP hp hu (by show scope.names.lookup y ≠ _; rw [k]; decide)] at q
   exact q
 ·exact e0.hok.fresh (Nat.le_of_lt (x.above y c (PySem.mem_of_lookup h)))
 ·unfold start
  show _ = N.length
  rw [List.length_append, List.length_map, List.length_replicate]
  omega
theorem fn_of {CX : CXT} {P : Program} {w : World} {K : W.Frag} {mg : Str → Option Value} {base : Heap} {k : Nat} {f : Addr} {name qual : Str} {params : Arguments} {body : List Stmt} {scope : Scope} {dV kV doc pm cdv ct oc : Value} {an od : Option Addr}
  {osl : Array (Option Value)} {N ps : List Str} {sp : Sp} (lk : K.lookup f = some ⟨oc, od, .func (W.fnOf name qual params body scope dV kV doc pm an cdv ct), osl⟩) (hcd : W.codeIn K cdv qual = true) (S : FnScope N ps scope)
  (len : ∀ vs H Q E, sp vs H Q E → vs.length = ps.length)
  (hbody : ∀ (A : Around) (outer : List Env) (s : Shared) (H : Hp) (vs : List V) (Q : VK) (E : XK), Room k (A.deeper (envOfC qual scope s.heap.objs.size f cdv)) → sp vs H Q E →
   ∃ t, PSs (cxOf CX P w K mg base N qual scope f cdv A outer s H E) body t ∧ t { nx := fun _ H' => Q .non H', rt := Q } (start N vs) H) :
  FnOk P w K mg base CX (k + 1) f (W.fnOf name qual params body scope dV kV doc pm an cdv ct) ps sp := by
 refine ⟨len, fun A outer s H args us vs Q E hr e0 hb r hsp => ?_⟩
 have hl := len _ _ _ _ hsp
 have KX : K.In s.heap := e0.mod.kin.keeps fun b o e => (e0.bs b o e).1
 have lim : s.heap.NoLimit := e0.mod.nolimit.keeps fun b o e => (e0.bs b o e).1
 have hkind : ∀ y ∈ ps.zip us, scope.names.lookup y.1 = some .local ∨ (scope.names.lookup y.1 = some .cell ∧ ((cellsFrom (s.heap.objs.size + 1) scope.names []).lookup y.1).isSome = true) := fun ⟨n, v⟩ hy => by
  rcases S.par n (List.of_mem_zip hy).1 with q | q
  ·exact .inl q
  ·exact .inr ⟨q, W.cellsFrom_some _ _ _ (.inl q)⟩
 refine codeAny_call_function hr.depth (KX _ _ lk) rfl S.co S.gen rfl (W.codeRec_of KX hcd) (hb _ _ _ _ ?_)
 refine wpAny_newFunctionEnv_cells S.kind hkind fun env he s1 x => ?_
 subst he
 refine ⟨lim.keeps x.toInCall.keep, codeAny_func ?_⟩
 obtain ⟨t, ht, hq⟩ := hbody A outer s H vs Q E (hr.deeper _) hsp
 have I : Inv (cxOf CX P w K mg base N qual scope f cdv A outer s H E) [] (start N vs) H s1 := inv_start S hr.hd e0 hl r x
 refine wpAny_mono (ht [] s1 (start N vs) H _ I hq) (fun fl s' hs => ?_) fun e s' hs => hs
 have fin : ∀ {σ' : St} {H' : Hp} {v : V} {u : Value}, Inv (cxOf CX P w K mg base N qual scope f cdv A outer s H E) [] σ' H' s' → RelV v u → Q v H' → CE outer P w H s Q u s' :=
  fun {σ' H' v u} J rv q => ⟨v, H', J.os, J.bare, J.base, J.hok, rv, q⟩
 cases fl with
 | ret u =>
  obtain ⟨v, σ', H', J, rv, q⟩ := hs
  exact fin J rv q
 | next =>
  obtain ⟨σ', H', J, q⟩ := hs
  exact fin (v := V.non) (u := Value.none) J rfl q
 | brk =>
  obtain ⟨_, _, _, q⟩ := hs
  exact False.elim q
 | cont =>
  obtain ⟨_, _, _, q⟩ := hs
  exact False.elim q
section
variable {X : Cx} {x : Str} {p pos : Pos} {e : Expr} {es : List Expr} {t : TA} {id T : String} {r : List V → Hp → VK → Prop}
def tCB (r : List V → Hp → VK → Prop) (t : TA) : TE := fun σ H Q => t σ H fun vs H1 => r vs H1 Q
theorem pe_callB (hc : CallR X (.builtin id) r) (hg : Gl X x) (hm : X.mg x = none) (hv : bootBuiltins x = some (.builtin id)) (ha : PA X (e :: es) t) (hn : x ≠ "__name__" := by decide) (hdb : (x == ("__debug__" : Str)) = false := by decide)
  (he : starEach (e :: es) X.env = (false, eval e X.env) :: starEach es X.env := by rfl) (hpl : (backTo pos (starEach es X.env)).any (·.1) = false := by rfl) : PE X (.Call (.Name x p) (e :: es) [] pos) (tCB r t) := by
 intro pins s σ H Q I h
 refine wpAny_Call_Name_kw (ld_blt I hg hm hv ?_ hn hdb)
 exact PyProof.Rows.callWith_builtin1 (thn (ha pos pins s σ H _ I h) fun us s1 ⟨vs, H1, I1, r1, q1⟩ => hc pins s1 σ H1 vs us Q I1 r1 q1) he hpl
theorem pe_callTy (hc : CallR X (.type T) r) (hg : Gl X x) (hm : X.mg x = none) (hv : bootBuiltins x = some (.type T)) (ha : PA X (e :: es) t) (hn : x ≠ "__name__" := by decide) (hdb : (x == ("__debug__" : Str)) = false := by decide)
  (he : starEach (e :: es) X.env = (false, eval e X.env) :: starEach es X.env := by rfl) (hpl : (backTo pos (starEach es X.env)).any (·.1) = false := by rfl) : PE X (.Call (.Name x p) (e :: es) [] pos) (tCB r t) := by
 intro pins s σ H Q I h
 refine wpAny_Call_Name_kw (ld_blt I hg hm hv ?_ hn hdb)
 exact PyProof.Rows.callWith_type1 (thn (ha pos pins s σ H _ I h) fun us s1 ⟨vs, H1, I1, r1, q1⟩ => hc pins s1 σ H1 vs us Q I1 r1 q1) he hpl
end
end L2
namespace HT
open PySem PyProof.Rows
def lexLt : List Int → List Int → Bool
 | [], [] => false
 | [], _ :: _ => true
 | _ :: _, [] => false
 | x :: xs, y :: ys => if x = y then lexLt xs ys else decide (x < y)
theorem lexLt_cons (x y : Int) (xs ys : List Int) : lexLt (x :: xs) (y :: ys) = if x = y then lexLt xs ys else decide (x < y) := rfl
end HT
namespace L2
open PySem PySem.Spec PyProof.Rows
abbrev TO := St → Hp → (Option Int → Hp → Prop) → Prop
def ixN (n : Nat) (i : Int) : Option Nat := if 0 ≤ i then (if i < n then some i.toNat else none) else if -(n : Int) ≤ i then some (i + n).toNat else none
def atI {α : Type} (xs : List α) (i : Int) : Option α := (ixN xs.length i).bind fun j => xs[j]?
theorem ixN_seq {n : Nat} {i : Int} {j : Nat} (h : ixN n i = some j) : seqIndex? i n = some j ∧ j < n ∧ -(n : Int) ≤ i ∧ i < n := by
 unfold ixN at h
 by_cases h0 : 0 ≤ i
 ·rw [if_pos h0] at h
  by_cases h1 : i < n
  ·rw [if_pos h1] at h
   have e : i.toNat = j := Option.some.inj h
   exact ⟨by rw [seqIndex_of h0 h1, e], by omega, by omega, h1⟩
  ·rw [if_neg h1] at h; cases h
 ·rw [if_neg h0] at h
  by_cases h1 : -(n : Int) ≤ i
  ·rw [if_pos h1] at h
   have e : (i + n).toNat = j := Option.some.inj h
   exact ⟨by rw [seqIndex_neg (by omega) h1, e], by omega, h1, by omega⟩
  ·rw [if_neg h1] at h; cases h
theorem atI_get {α : Type} {xs : List α} {i : Int} {v : α} (h : atI xs i = some v) : ∃ j, seqIndex? i xs.length = some j ∧ xs[j]? = some v ∧ j < xs.length ∧ -(xs.length : Int) ≤ i ∧ i < xs.length := by
 unfold atI at h
 cases e : ixN xs.length i with
 | none => rw [e] at h; cases h
 | some j =>
  rw [e] at h
  obtain ⟨h1, h2, h3, h4⟩ := ixN_seq e
  exact ⟨j, h1, h, h2, h3, h4⟩
def PlainIx (b : Expr) : Prop := ∀ o i, subscripted b false o i = operate [o, i] (getItem o i)
def IxR (X : Cx) (r : R2) : Prop :=
 ∀ (value slice : Expr) (pins : List (Addr × Obj)) (s : Shared) (σ : St) (H : Hp) (x y : V) (v u : Value) (Q : VK), Inv X pins σ H s → RelV x v → RelV y u → r x y H Q →
  subscripted slice false v u = operate [v, u] (getItem v u) → wpAny (model X.prog X.w) X.A (subscriptTail value slice v u) (EP X pins σ Q) X.xe s
def MtR (X : Cx) (id : String) (r : V → List V → Hp → VK → Prop) : Prop :=
 ∀ (pins : List (Addr × Obj)) (s : Shared) (σ : St) (H : Hp) (x : V) (xs : List V) (v : Value) (us : List Value) (Q : VK), Inv X pins σ H s → RelV x v → Vals xs us → r x xs H Q →
  wpAny (model X.prog X.w) X.A (call (.builtin id) (v :: us)) (EP X pins σ Q) X.xe s
section
variable {X : Cx} {a b : Expr} {ta tb : TE} {pos : Pos}
theorem pe_ix {r : R2} (hr : IxR X r) (ha : PE X a ta) (hb : PE X b tb) (hs : PlainIx b) : PE X (.Subscript a b pos) (tOp r ta tb) := by
 intro pins s σ H Q I h
 exact Subscript_ (binT ha hb I h fun v u s2 x y H2 I2 rx ry q => hr a b pins s2 σ H2 x y v u Q I2 rx ry q (hs _ _))
def rIxL (K : W.Frag) : R2 := fun x y H Q => ∃ p xs i v, x = .ref p ∧ y = .int i ∧ SqL K H p xs ∧ atI xs i = some v ∧ Q v H
def rIxT (K : W.Frag) : R2 := fun x y H Q => ∃ p xs i v, x = .ref p ∧ y = .int i ∧ SqT K H p xs ∧ atI xs i = some v ∧ Q v H
theorem ix_list : IxR X (rIxL X.K) := by
 intro value slice pins s σ H x y v u Q I rx ry h hs
 obtain ⟨p, xs, i, z, rfl, rfl, hq, he, q⟩ := h
 cases rx
 obtain ⟨t, rfl⟩ := ry
 obtain ⟨its, r, pl, hz⟩ := I.list hq
 obtain ⟨j, h1, h2, h3, h4, h5⟩ := atI_get he
 obtain ⟨w, ew, rw'⟩ := r.get h2
 have hl := r.length
 have hn := line63
 have fin : EP X pins σ Q w s := ⟨z, H, I, rw', q⟩
 by_cases h0 : 0 ≤ i
 ·have hj : i.toNat = j := by
   rw [seqIndex_of h0 h5] at h1
   exact Option.some.inj h1
  exact item_listR pl.isList h0 (by omega) (by rw [hj]; simpa using ew) fin hs
 ·have hj : (i + (its.toArray.size : Int)).toNat = j := by
   rw [seqIndex_neg (by omega) h4] at h1
   rw [List.size_toArray, ← hl]
   exact Option.some.inj h1
  exact subscriptTail_builtinR (x := w) pl.isList.typeIs slot_list_getitem.lookup
   (wpAny_getItem_list_neg (Q := fun r s' => r = w ∧ EP X pins σ Q r s') pl.isList (by omega) (by rw [List.size_toArray] <;> omega) (by omega) (by rw [hj]; simpa using ew) ⟨rfl, fin⟩) hs
theorem ix_tup : IxR X (rIxT X.K) := by
 intro value slice pins s σ H x y v u Q I rx ry h hs
 obtain ⟨p, xs, i, z, rfl, rfl, hq, he, q⟩ := h
 cases rx
 obtain ⟨t, rfl⟩ := ry
 obtain ⟨its, r, pl, hz⟩ := I.tuple hq
 obtain ⟨j, h1, h2, h3, h4, h5⟩ := atI_get he
 obtain ⟨w, ew, rw'⟩ := r.get h2
 have hl := r.length
 have hn := line63
 have fin : EP X pins σ Q w s := ⟨z, H, I, rw', q⟩
 exact subscriptTail_builtinR (x := w) pl.typeIs slot_tuple_getitem.lookup
  (getItem_tuple (j := j) (Q := fun r s' => r = w ∧ EP X pins σ Q r s') pl (by omega) (by omega) (by rw [List.size_toArray, ← hl]; exact h1) (by simpa using ew) ⟨rfl, fin⟩) hs
theorem mapSeq_set (its : List Value) (n j : Nat) (u : Value) : Obj.mapSeq (·.setIfInBounds j u) { cls := .type "list", data := .seq its.toArray n } = { cls := .type "list", data := .seq (its.set j u).toArray n } := by
 simp [Obj.mapSeq]
theorem Inv.lst {pins : List (Addr × Obj)} {σ : St} {H : Hp} {s : Shared} {p : Addr} {xs : List V} (I : Inv X pins σ H s) (h : H p = some (.lst xs)) :
  ∃ (its : List Value) (n : Nat), Vals xs its ∧ s.heap.get? p = some { cls := .type "list", data := .seq its.toArray n } ∧ xs.length ≤ sizeLine := by
 obtain ⟨z, its, n, r, e⟩ := I.hok p _ h
 exact ⟨its, n, r, e, z⟩
theorem Inv.lstUpd {pins : List (Addr × Obj)} {σ : St} {H : Hp} {s : Shared} {p : Addr} {xs ys : List V} {its its' : List Value} {n n' : Nat} {f : Obj → Obj} (I : Inv X pins σ H s) (h : H p = some (.lst xs))
  (ho : s.heap.get? p = some { cls := .type "list", data := .seq its.toArray n }) (hf : f { cls := .type "list", data := .seq its.toArray n } = { cls := .type "list", data := .seq its'.toArray n' }) (r : Vals ys its') (hz : ys.length ≤ sizeLine) (t : Nat) :
  Inv X pins σ (upd H p (.lst ys)) { s with heap := s.heap.update p f, toks := t } := by
 have e : (s.heap.update p f).get? p = some { cls := .type "list", data := .seq its'.toArray n' } := by
  rw [Heap.get?_update_self f ho (by rw [hf] <;> rfl), hf]
 refine I.write (x := p) (e := p) (by rw [h]; trivial) (.inl rfl) (fun b u hb q => (Heap.get?_update_other _ _ (Ne.symm hb)).trans q) ⟨_, e⟩ ?_
 exact ⟨hz, its', n', r, e⟩
def rSetL : V → V → V → Hp → (Hp → Prop) → Prop := fun o i v H Q => ∃ p xs k j, o = .ref p ∧ i = .int k ∧ H p = some (.lst xs) ∧ ixN xs.length k = some j ∧ Q (upd H p (.lst (xs.set j v)))
theorem set_list : PSet X rSetL := by
 intro pins s σ H o i v ov iv u Q I ro ri rv h
 obtain ⟨p, xs, k, j, rfl, rfl, hp, hj, q⟩ := h
 cases ro
 obtain ⟨t, rfl⟩ := ri
 obtain ⟨its, n, r, ho, hz⟩ := I.lst hp
 obtain ⟨h1, h2, h3, h4⟩ := ixN_seq hj
 have hl := r.length
 have hn := line63
 have I' : Inv X pins σ (upd H p (.lst (xs.set j v))) { s with heap := s.heap.update p (Obj.mapSeq (·.setIfInBounds j u)) } :=
  I.lstUpd hp ho (mapSeq_set its n j u) (r.set rv j) (by rw [List.length_set]; exact hz) s.toks
 by_cases h0 : 0 ≤ k
 ·have hk : k.toNat = j := by
   rw [seqIndex_of h0 h4] at h1
   exact Option.some.inj h1
  exact W.ki_setAt ho h0 (by omega) (by rw [List.size_toArray, ← hl]; exact h4) (by rw [hk]; exact ⟨_, I', q⟩)
 ·have hk : (k + (its.toArray.size : Int)).toNat = j := by
   rw [seqIndex_neg (by omega) h3] at h1
   rw [List.size_toArray, ← hl]
   exact Option.some.inj h1
  exact W.ki_setBack ho (by omega) (by rw [List.size_toArray, ← hl]; exact h3) (by omega) (by rw [hk]; exact ⟨_, I', q⟩)
def flatV : V → Bool
 | .non => true
 | .bl _ => true
 | .int _ => true
 | .str _ => true
 | _ => false
def eqV : V → V → Bool
 | .non, .non => true
 | .bl a, .bl b => a == b
 | .bl a, .int b => (if a then 1 else 0) == b
 | .int a, .bl b => a == (if b then 1 else 0)
 | .int a, .int b => a == b
 | .str a, .str b => a == b
 | _, _ => false
theorem eqAt_V {A : Around} {s : Shared} {y x : V} {u v : Value} (ry : RelV y u) (rx : RelV x v) (fy : flatV y = true) (fx : flatV x = true) : SeqAt.EqAt A s u v (eqV y x) := by
 cases y with
 | non =>
  cases ry
  cases x with
  | non => cases rx; exact SeqAt.EqAt.same _
  | bl b => cases rx; exact SeqAt.EqAt.none_bool b
  | int b => obtain ⟨t, rfl⟩ := rx; exact SeqAt.EqAt.none_int b t
  | str b => obtain ⟨t, rfl⟩ := rx; exact SeqAt.EqAt.none_str b t
  | _ => exact absurd (show false = true from fx) Bool.false_ne_true
 | bl a =>
  cases ry
  cases x with
  | non => cases rx; exact SeqAt.EqAt.bool_none a
  | bl b => cases rx; exact SeqAt.EqAt.bool_bool a b
  | int b => obtain ⟨t, rfl⟩ := rx; exact SeqAt.EqAt.bool_int a b t
  | str b => obtain ⟨t, rfl⟩ := rx; exact SeqAt.EqAt.bool_str a b t
  | _ => exact absurd (show false = true from fx) Bool.false_ne_true
 | int a =>
  obtain ⟨t', rfl⟩ := ry
  cases x with
  | non => cases rx; exact SeqAt.EqAt.int_none a t'
  | bl b => cases rx; exact SeqAt.EqAt.int_bool a t' b
  | int b => obtain ⟨t, rfl⟩ := rx; exact SeqAt.EqAt.int_int a t' b t
  | str b => obtain ⟨t, rfl⟩ := rx; exact SeqAt.EqAt.int_str a t' b t
  | _ => exact absurd (show false = true from fx) Bool.false_ne_true
 | str a =>
  obtain ⟨t', rfl⟩ := ry
  cases x with
  | non => cases rx; exact SeqAt.EqAt.str_none a t'
  | bl b => cases rx; exact SeqAt.EqAt.str_bool a t' b
  | int b => obtain ⟨t, rfl⟩ := rx; exact SeqAt.EqAt.str_int a t' b t
  | str b => obtain ⟨t, rfl⟩ := rx; exact SeqAt.EqAt.str_str a t' b t
  | _ => exact absurd (show false = true from fx) Bool.false_ne_true
 | _ => exact absurd (show false = true from fy) Bool.false_ne_true
theorem call_len_seq : CallR X (.builtin "len") (fun xs H Q => ∃ p ys, xs = [.ref p] ∧ (SqL X.K H p ys ∨ SqT X.K H p ys) ∧ Q (.int ys.length) H) := by
 intro pins s σ H xs us Q I r h
 obtain ⟨p, ys, rfl, hq, q⟩ := h
 obtain ⟨u, rfl, rx⟩ := vals1 r
 cases rx
 have hn := line63
 rcases hq with hq | hq
 ·obtain ⟨its, r', pl, hz⟩ := I.list hq
  have hlen := r'.length
  exact Calls.call_len_list pl.isList (by simp only [List.size_toArray] <;> omega) ⟨.int ys.length, H, I.tok _, ⟨s.toks + 1, by rw [List.size_toArray, hlen]⟩, q⟩
 ·obtain ⟨its, r', pl, hz⟩ := I.tuple hq
  have hlen := r'.length
  exact len_tuple pl (by simp only [List.size_toArray] <;> omega) ⟨.int ys.length, H, I.tok _, ⟨s.toks + 1, by rw [List.size_toArray, hlen]⟩, q⟩
theorem call_list_of : CallR X (.type "list") (fun xs H Q => ∃ p ys, xs = [.ref p] ∧ (SqL X.K H p ys ∨ SqT X.K H p ys) ∧ ∀ l, H l = none → Q (.ref l) (upd H l (.lst ys))) := by
 intro pins s σ H xs us Q I r h
 obtain ⟨p, ys, rfl, hq, q⟩ := h
 obtain ⟨u, rfl, rx⟩ := vals1 r
 cases rx
 have fin : ∀ (its : List Value), Vals ys its → ys.length ≤ sizeLine → ∀ (h' : Heap) (c' : Nat), (∀ b o', s.heap.get? b = some o' → h'.get? b = some o') →
   h'.get? s.heap.objs.size = some { cls := .type "list", dict := none, data := .seq its.toArray c', slots := #[] } → EP X pins σ Q (.ref s.heap.objs.size) { s with heap := h' } := fun its r' hz h' c' kp e =>
  ⟨.ref s.heap.objs.size, _, I.laid (t' := s.toks) kp (Nat.le_refl _) (show ObjOk X.prog X.w _ h' _ (.lst ys) from ⟨hz, its, c', r', e⟩), rfl, q _ (I.hok.fresh (Nat.le_refl _))⟩
 rcases hq with hq | hq
 ·obtain ⟨its, r', pl, hz⟩ := I.list hq
  have hlen := r'.length
  obtain ⟨o, ho, hc, n, hd⟩ := pl.isList
  exact call_list_seq p (.inl rfl) ho hc hd (fun h' c' kp e => fin its r' hz h' c' kp e) (by simp only [List.size_toArray] <;> omega)
 ·obtain ⟨its, r', pl, hz⟩ := I.tuple hq
  have hlen := r'.length
  obtain ⟨o, ho, hc, n, hd⟩ := pl
  exact call_list_seq p (.inr rfl) ho hc hd (fun h' c' kp e => fin its r' hz h' c' kp e) (by simp only [List.size_toArray] <;> omega)
def tyV (K : W.Frag) (T : String) (x : V) (H : Hp) : Prop := match x with
 | .str _ => T = "str"
 | .int _ => T = "int"
 | .ref p => (T = "list" ∧ ∃ xs, SqL K H p xs) ∨ (T = "tuple" ∧ ∃ o, K.lookup p = some o ∧ o.cls = .type "tuple" ∧ o.dict = none) ∨
   (T = "dict" ∧ ((∃ kvs, H p = some (.dK kvs)) ∨ ∃ kvs, H p = some (.dT kvs))) ∨ (T = "set" ∧ ∃ S n, H p = some (.set S n))
 | _ => False
theorem tyV_is {pins : List (Addr × Obj)} {σ : St} {H : Hp} {s : Shared} {T : String} {x : V} {v : Value} (I : Inv X pins σ H s) (r : RelV x v) (ty : tyV X.K T x H) :
  s.TypeIs v T ∧ ∀ a, v = .ref a → ∃ ob, s.heap.get? a = some ob ∧ ob.dict = none := by
 cases x with
 | str z =>
  obtain ⟨t, rfl⟩ := r
  cases (show T = "str" from ty)
  exact ⟨typeIs_str s z t, fun _ e => nomatch e⟩
 | int i =>
  obtain ⟨t, rfl⟩ := r
  cases (show T = "int" from ty)
  exact ⟨typeIs_int s i t, fun _ e => nomatch e⟩
 | ref p =>
  cases r
  rcases ty with ⟨rfl, xs, hq⟩ | ⟨rfl, o, hk, hc, hd⟩ | ⟨rfl, hk⟩ | ⟨rfl, S, n, hk⟩
  ·obtain ⟨its, _, pl, _⟩ := I.list hq
   refine ⟨pl.isList.typeIs, fun a e => ?_⟩
   cases e
   obtain ⟨o, n, e, c, hd, _⟩ := pl
   exact ⟨o, e, hd⟩
  ·refine ⟨⟨o, I.kIn p o hk, hc⟩, fun a e => ?_⟩
   cases e
   exact ⟨o, I.kIn _ o hk, hd⟩
  ·have z : ∃ o, s.heap.get? p = some o ∧ o.ExactDict := by
    rcases hk with ⟨kvs, hk⟩ | ⟨kvs, hk⟩
    ·obtain ⟨_, _, _, _, o, _, _, e, ex, _⟩ := I.hok p _ hk
     exact ⟨o, e, ex⟩
    ·obtain ⟨_, _, _, _, o, _, _, e, ex, _⟩ := I.hok p _ hk
     exact ⟨o, e, ex⟩
   obtain ⟨o, e, ex⟩ := z
   refine ⟨⟨o, e, ex.1⟩, fun a e2 => ?_⟩
   cases e2
   exact ⟨o, e, ex.2.1⟩
  ·obtain ⟨o, _, _, _, e, ex, _⟩ := I.hok p _ hk
   refine ⟨⟨o, e, ex.1⟩, fun a e2 => ?_⟩
   cases e2
   exact ⟨o, e, ex.2.1⟩
 | _ => exact False.elim ty
def tBM0 (K : W.Frag) (T : String) (r : V → List V → Hp → VK → Prop) (to : TE) : TE := fun σ H Q => to σ H fun x H1 => tyV K T x H1 ∧ r x [] H1 Q
def tBM (K : W.Frag) (T : String) (r : V → List V → Hp → VK → Prop) (to : TE) (t : TA) : TE := fun σ H Q => to σ H fun x H1 => tyV K T x H1 ∧ t σ H1 fun xs H2 => r x xs H2 Q
variable {o e : Expr} {es : List Expr} {to : TE} {t : TA} {name : Str} {apos cpos : Pos} {T id : String} {r : V → List V → Hp → VK → Prop}
theorem pe_bm0 (pa : PlainAttrs T) (slot : Slot T name id) (hty : typeOf (.builtin id) = pure (.type "method_descriptor")) (hm : MtR X id r) (ho : PE X o to)
  (hbase : attributeBase o name X.env (eval o X.env) = eval o X.env := by rfl) (hline : (apos.endLine == cpos.line) = true := by rfl) : PE X (.Call (.Attribute o name apos) [] [] cpos) (tBM0 X.K T r to) := by
 intro pins s σ H Q I h
 refine wpAny_Call_method0_late hbase hline (thn (ho pins s σ H _ I h) fun v s1 ⟨x, H1, I1, r1, ty, q1⟩ => ?_)
 obtain ⟨h1, h2⟩ := tyV_is I1 r1 ty
 exact ⟨T, id, pa, slot, hty, h1, h2, Calls.callWith_builtin rfl (PySem.evalArgs_none (hm pins s1 σ H1 x [] v [] Q I1 r1 .nil q1))⟩
theorem pe_bm (pa : PlainAttrs T) (slot : Slot T name id) (hty : typeOf (.builtin id) = pure (.type "method_descriptor")) (hm : MtR X id r) (ho : PE X o to) (ha : PA X (e :: es) t)
  (hbase : attributeBase o name X.env (eval o X.env) = eval o X.env := by rfl)
  (hfew : ((backTo cpos (starEach (e :: es) X.env)).all (fun x => !x.1) && (backToKw cpos (keywordEach [] X.env)).all (fun x => x.1.isSome)
   && decide ((e :: es).length + ([] : List Keyword).length + (if ([] : List Keyword).isEmpty then 0 else 1) < 30)) = true := by rfl)
  (hline : (apos.endLine == cpos.line) = true := by rfl) (hs : starEach (e :: es) X.env = (false, eval e X.env) :: starEach es X.env := by rfl) (hplain : (backTo cpos (starEach es X.env)).any (·.1) = false := by rfl) :
  PE X (.Call (.Attribute o name apos) (e :: es) [] cpos) (tBM X.K T r to t) := by
 intro pins s σ H Q I h
 refine wpAny_Call_method_late hbase hfew hline rfl (thn (ho pins s σ H _ I h) fun v s1 ⟨x, H1, I1, r1, ty, q1⟩ => ?_)
 obtain ⟨h1, h2⟩ := tyV_is I1 r1 ty
 refine ⟨T, id, pa, slot, hty, h1, h2, ?_⟩
 have hA := ha cpos pins s1 σ H1 _ I1 q1
 rw [hs] at hA ⊢
 refine Calls.callWith_builtin (by show (false || (backTo cpos (starEach es X.env)).any (·.1)) = false; rw [hplain] <;> rfl) (Calls.evalArgs_plain ?_)
 exact thn hA fun us s2 ⟨vs, H2, I2, r2, q2⟩ => hm pins s2 σ H2 x vs v us Q I2 r1 r2 q2
end
def MtM (X : Cx) (id : String) (r : V → List V → Hp → VK → Prop) : Prop :=
 ∀ (pins : List (Addr × Obj)) (s : Shared) (σ : St) (H : Hp) (x : V) (xs : List V) (v : Value) (us : List Value) (Q : VK), Inv X pins σ H s → RelV x v → Vals xs us → r x xs H Q →
  wpAny (model X.prog X.w) X.A (call (.builtin id) (v :: us)) (EP X pins σ Q) X.xe s
theorem Vals.one : ∀ {x : V} {us : List Value}, Vals [x] us → ∃ u, us = [u] ∧ RelV x u
 | _, _, .cons r .nil => ⟨_, rfl, r⟩
theorem Vals.zero : ∀ {us : List Value}, Vals [] us → us = []
 | _, .nil => rfl
section
variable {X : Cx} {pins : List (Addr × Obj)} {σ : St} {H : Hp} {s : Shared} {l b : Addr} {xs ys zs : List V}
theorem Inv.lset {its its' : List Value} {n : Nat} {f : Array Value → Array Value} {t' : Nat} (I : Inv X pins σ H s) (hH : H l = some (.lst xs))
  (e : s.heap.get? l = some { cls := .type "list", data := .seq its.toArray n }) (hf : f its.toArray = its'.toArray) (hv : Vals ys its') (hz : ys.length ≤ sizeLine) :
  Inv X pins σ (upd H l (.lst ys)) { s with heap := s.heap.update l (Obj.mapSeq f), toks := t' } := by
 have q := PySem.IsL.update e f
 rw [hf] at q
 refine I.write (x := l) (e := l) (by rw [hH]; exact trivial) (.inl rfl) (fun b' u hb hu => (Heap.get?_update_other s.heap (Obj.mapSeq f) (Ne.symm hb)).trans hu) ⟨_, q⟩ ?_
 exact ⟨hz, its', _, hv, q⟩
theorem Inv.lnew {its : List Value} {t' : Nat} (I : Inv X pins σ H s) (hv : Vals ys its) (hz : ys.length ≤ sizeLine) :
  Inv X pins σ (upd H s.heap.objs.size (.lst ys)) { s with heap := s.heap.push { cls := .type "list", data := .seq its.toArray }, toks := t' } :=
 I.laid (fun _ _ q => Heap.get?_push_of_some _ q) (Nat.le_refl _) ⟨hz, its, 0, hv, Heap.get?_push_size _ rfl⟩
theorem Inv.fresh (I : Inv X pins σ H s) : H s.heap.objs.size = none := I.hok.fresh (Nat.le_refl _)
theorem Inv.lstM (I : Inv X pins σ H s) (hH : H l = some (.lst xs)) : xs.length ≤ sizeLine ∧ ∃ (its : List Value) (n : Nat), Vals xs its ∧ xs.length = its.length ∧ s.heap.get? l = some { cls := .type "list", data := .seq its.toArray n } := by
 obtain ⟨z, its, n, r, e⟩ := I.hok l _ hH
 exact ⟨z, its, n, r, r.length, e⟩
end
section
variable {X : Cx}
def rAppend : V → List V → Hp → VK → Prop := fun x vs H Q => ∃ l xs y, x = .ref l ∧ vs = [y] ∧ H l = some (.lst xs) ∧ xs.length < sizeLine ∧ Q .non (upd H l (.lst (xs ++ [y])))
theorem mt_append : MtM X "list.append" rAppend := by
 intro pins s σ H x vs v us Q I rx rv h
 obtain ⟨l, xs, y, rfl, rfl, hH, hz, q⟩ := h
 cases rx
 obtain ⟨u, rfl, ru⟩ := rv.one
 obtain ⟨z, its, n, r, hl, e⟩ := I.lstM hH
 refine call_meets F.slot_list_append ⟨_, e, rfl⟩ F.entry_list_append (F.args_list_append_2 _ _) (PySem.list_append l its.toArray n u (by rw [List.size_toArray]; omega)) ⟨e, ?_⟩
 refine ⟨.non, _, I.lset (its' := its ++ [u]) hH e (by simp) (r.append (.cons ru .nil)) ?_, rfl, q⟩
 rw [List.length_append, List.length_singleton]
 omega
def rClear : V → List V → Hp → VK → Prop := fun x vs H Q => ∃ l xs, x = .ref l ∧ vs = [] ∧ H l = some (.lst xs) ∧ Q .non (upd H l (.lst []))
theorem mt_clear : MtM X "list.clear" rClear := by
 intro pins s σ H x vs v us Q I rx rv h
 obtain ⟨l, xs, rfl, rfl, hH, q⟩ := h
 cases rx
 have hus := rv.zero
 subst hus
 obtain ⟨z, its, n, r, hl, e⟩ := I.lstM hH
 refine call_meets F.slot_list_clear ⟨_, e, rfl⟩ F.entry_list_clear (F.args_list_clear_1 _) (AutoSeq1.list_clear_list_0 l its.toArray n (by rw [List.size_toArray]; omega)) ⟨e, ?_⟩
 exact ⟨.non, _, I.lset (its' := []) (ys := []) hH e rfl .nil (Nat.zero_le _), rfl, q⟩
end
end L2
namespace Att
open PySem PySem.W PySem.Calls PyProof.Rows
theorem ints_of_wellAll {P : Params} {h : Heap} : ∀ (ns : List Int) (vs : List Value), WellAll P h vs (ns.map WData.int) → IntsAre vs ns := by
 intro ns
 induction ns with
 | nil =>
  intro vs w
  rw [List.map_nil] at w
  cases w
  exact .nil
 | cons n ns ih =>
  intro vs w
  rw [List.map_cons] at w
  cases w with
  | cons a b =>
   cases a
   exact .cons _ _ (ih _ b)
theorem script_of {l : OpenLaw} {n : Nat} (hn : l.most = some n) {P : Params} {h : Heap} {args : List WData} {vals : List Value}
  (hpre : l.row.toRowW.claim.pre args = true) (hwl : WellAll P h vals args) :
  ∃ a vs ns, vals = [Value.ref a] ∧ args = [WData.list (ns.map WData.int)] ∧ h.get? a = some { cls := .type "list", data := .seq vs.toArray } ∧ IntsAre vs ns ∧ ns.length ≤ n := by
 have hsh : WShape.hasAll [] args [.list .int] = true := (pre_splitW hpre).1
 have hc : l.pre.holds [] { args := args } = true := (pre_splitW hpre).2
 obtain ⟨d, r, rfl, h1, h2⟩ := hasAllW_cons hsh
 obtain rfl := hasAllW_nil h2
 obtain ⟨xs, rfl, h3⟩ := hasW_list h1
 obtain ⟨ns, rfl⟩ := items_int h3
 have hlen : ns.length ≤ n := by
  unfold OpenLaw.pre at hc
  have h4 : (WTm.not (.lt (.lit (.int (n : Int))) (.len (.arg 0)))).holds [] { args := [.list (ns.map .int)] } = true := by
   have h4 := (holds_andW hc).1
   rw [hn] at h4
   exact h4
  have h5 := condW_of h4 (w_not (w_lt w_lit (w_len_list (w_arg rfl))))
  rw [List.length_map] at h5
  refine Nat.le_of_not_lt fun q => ?_
  have q' : (n : Int) < ((ns.length : Nat) : Int) := by omega
  first
   | (rw [decide_eq_true q'] at h5; exact absurd h5 (by decide))
   | (simp at h5; omega)
 cases hwl with
 | cons w1 w2 =>
  cases w2
  cases w1 with
  | list ho hall => exact ⟨_, _, ns, rfl, rfl, ho, ints_of_wellAll ns _ hall, hlen⟩
theorem post_true (l : OpenLaw) (args : List WData) : l.row.toRowW.claim.post args (.bool true) args = true :=
 postW_of (r := l.row.toRowW) (X := (true == true))
  (show WShape.has [] (.bool true) .bool = true by first | rfl | decide | simp [WShape.has, WShape.arms, WShape.armsAll])
  (show (WTm.eq .res (.lit (.bool true))).value [] { args := args, res := some (.bool true), after := args } = some (.bool (true == true)) from w_eq_bool (w_res rfl) w_lit) rfl
end Att
namespace L2
open PySem PySem.Spec PyProof.Rows
theorem vals_ints : ∀ {vs : List Value} {ns : List Int}, IntsAre vs ns → Vals (ns.map V.int) vs
 | _, _, .nil => .nil
 | _, _, .cons n t h => .cons ⟨t, rfl⟩ (vals_ints h)
def Only (H : Hp) : Prop := ∀ b, H b = none ∨ ∃ o xs, H b = some (.frz o (.lst xs))
theorem law_call {P : Program} {w : World} {K : W.Frag} {mg mb : Str → Option Value} {CX : CXT} {k : Nat} {fa a : Addr} {fd : FuncData} {x : Str} {sp : Sp} {s₁ : Shared} {vs : List Value} {ns : List Int}
  (KX : K.In s₁.heap) (hns : s₁.heap.Ns mainGlobals mg) (hb : s₁.heap.Ns builtinsNs mb) (hbb : ∀ x : Str, x ≠ "__name__" → mb x = bootBuiltins x) (hlim : s₁.heap.NoLimit) (hg : s₁.gens = #[])
  (ha : s₁.heap.get? a = some { cls := .type "list", data := .seq vs.toArray }) (hi : IntsAre vs ns) (hl : ns.length ≤ sizeLine) (hr : Room k callerA)
  (F : ∀ base : Heap, K.In base → base.Ns mainGlobals mg → FnOk P w K mg base CX k fa fd [x] sp) (hbind : ∀ (s : Shared) (u : Value), BindsTo s fd ⟨[u], []⟩ [(x, u)])
  (hsp : ∀ H : Hp, Only H → SqL K H a (ns.map V.int) → sp [.ref a] H (fun v _ => v = .bl true) fun _ _ _ => False)
  (hCX : ∀ H e s', CX [] H s₁ (fun _ _ _ => False) e s' → False) :
  codeAny (model P w) callerA (.call (.ref fa) ⟨[.ref a], []⟩) (fun r s' => r = .ok (.ret (.bool true)) ∧ OldK s₁.heap s'.heap ∧ s'.os = s₁.os ∧ AllBare s'.gens) s₁ := by
 have rv := vals_ints hi
 have lenV := hi.length
 -- from an abstract heap in which nothing but the script may be tracked
 have core : ∀ H : Hp, Only H → SqL K H a (ns.map V.int) → HOk P w H s₁.heap → (∀ b, H b ≠ none → b = a) → (H a ≠ none → K.lookup a = none) →
   codeAny (model P w) callerA (.call (.ref fa) ⟨[.ref a], []⟩) (fun r s' => r = .ok (.ret (.bool true)) ∧ OldK s₁.heap s'.heap ∧ s'.os = s₁.os ∧ AllBare s'.gens) s₁ := by
  intro H hO hS hok hA hK
  have base_of : ∀ {b : Addr} {o : Obj}, s₁.heap.get? b = some o → H b = none → (hidT s₁.heap H).get? b = some o := fun e n => hidT_get e n
  have noA : ∀ {b : Addr} {o : Obj} {es : Array DictEntry} {ep : Nat}, s₁.heap.get? b = some o → o.data = .dict es ep → H b = none := fun {b o es ep} e d => by
   cases q : H b with
   | none => rfl
   | some u =>
    have e' : b = a := hA b (by rw [q]; simp)
    subst e'
    rw [ha] at e; cases e
    have d' : Data.seq vs.toArray _ = Data.dict es ep := d
    cases d'
  have nsK : ∀ {b : Addr} {m : Str → Option Value}, s₁.heap.Ns b m → (hidT s₁.heap H).Ns b m := fun {b m} ⟨o, es, ep, e, d, r⟩ => ⟨o, es, ep, base_of e (noA e d), d, r⟩
  have hKb : K.In (hidT s₁.heap H) := fun b o e => base_of (KX b o e) (by
   cases q : H b with
   | none => rfl
   | some u =>
    have e' : b = a := hA b (by rw [q]; simp)
    subst e'
    rw [hK (by rw [q]; simp)] at e; cases e)
  have hM : Mod K mg (hidT s₁.heap H) := ⟨hKb, nsK hns, ⟨mb, nsK hb, hbb⟩, let ⟨mc, h1, h2⟩ := hlim; ⟨mc, nsK h1, h2⟩⟩
  have e0 : Env0 P w K mg (hidT s₁.heap H) callerA [] s₁ H := ⟨rfl, hM, fun b o e => of_hidT e, Nat.le_of_eq (hidT_size _ _), trivial, fun b hb => absurd (show b ∈ ([] : List Addr) from hb) (by simp), hok, .of_eq hg⟩
  refine codeAny_mono ((F _ hKb (nsK hns)).run callerA [] s₁ H ⟨[.ref a], []⟩ [.ref a] [.ref a] _ _ hr e0 (hbind s₁ (.ref a)) (.cons rfl .nil) (hsp H hO hS)) fun r s' h => ?_
  cases r with
  | error e => exact (hCX H e s' h).elim
  | ok fl =>
   cases fl with
   | next => exact False.elim h
   | brk => exact False.elim h
   | cont => exact False.elim h
   | ret u =>
    obtain ⟨v, H', os, bare, un, hok', r', q⟩ := h
    have q' : v = .bl true := q
    subst q'
    obtain rfl : u = Value.bool true := r'
    refine ⟨rfl, OldK.of_keep fun b o e => ?_, os, bare⟩
    cases q : H b with
    | none => exact un.keep b o e q (by intro z; exact absurd (show b ∈ ([] : List Addr) from z) (by simp)) (by simp)
    | some u =>
     rcases hO b with z | ⟨ob, xs, z⟩
     ·rw [q] at z; cases z
     ·have z2 := un.frzs b ob _ z
      obtain ⟨e1, _⟩ := hok b _ z
      obtain ⟨e2, _⟩ := hok' b _ z2
      rw [e] at e1; cases e1
      exact e2
 cases hk : K.lookup a with
 | some o =>
  -- the script is one of the module's own objects
  have e := KX a o hk
  rw [ha] at e
  cases e
  refine core (fun _ => none) (fun _ => .inl rfl) (.inr ⟨_, vs.toArray, _, hk, rfl, rfl, rfl, by rw [List.size_toArray, lenV]; exact hl, by simpa using rv⟩) (fun b u z => by have z' : (none : Option HO) = some u := z; cases z') (fun b z => absurd rfl z) fun z => absurd rfl z
 | none =>
  refine core (fun b => if b = a then some (.frz { cls := .type "list", data := .seq vs.toArray } (.lst (ns.map V.int))) else none) (fun b => ?_) (.inl (.inr ⟨{ cls := .type "list", data := .seq vs.toArray }, if_pos rfl⟩)) (fun b u z => ?_) (fun b z => ?_) fun _ => hk
  ·by_cases hb : b = a
   ·exact .inr ⟨_, _, if_pos hb⟩
   ·exact .inl (if_neg hb)
  ·by_cases hb : b = a
   ·have z' := (if_pos hb).symm.trans z
    cases z'
    subst hb
    exact ⟨ha, by rw [List.length_map]; exact hl, vs, _, rv, ha⟩
   ·have z' := (if_neg hb).symm.trans z
    cases z'
  ·by_cases hb : b = a
   ·exact hb
   ·exact absurd (if_neg hb) z
def defArgs (s : Stmt) : Arguments := match s with
 | .FunctionDef _ a _ _ _ _ _ _ _ _ => a
 | _ => { posonlyargs := [], args := [], vararg := none, kwonlyargs := [], kw_defaults := [], kwarg := none, defaults := [] }
def defBody (s : Stmt) : List Stmt := match s with
 | .FunctionDef _ _ b _ _ _ _ _ _ _ => b
 | _ => []
def defScope (s : Stmt) : Scope := match s with
 | .FunctionDef _ _ _ _ _ _ sc _ _ _ => sc
 | _ => { kind := .function, names := [], isGenerator := false, isCoroutine := false }
abbrev CX0 : CXT := fun _ _ _ _ _ _ => False
abbrev E0 : XK := fun _ _ _ => False
structure Fun (K : W.Frag) (x qual : Str) (st : Stmt) (f : Addr) (fd : FuncData) : Prop where
 ex : ∃ (oc : Value) (od : Option Addr) (kV doc pm : Value) (an : Option Addr) (cdv ct : Value) (osl : Array (Option Value)),
  fd = W.fnOf x qual (defArgs st) (defBody st) (defScope st) .none kV doc pm an cdv ct ∧ K.lookup f = some ⟨oc, od, .func fd, osl⟩ ∧ W.codeIn K cdv qual = true
 kp : W.keepIn K (.ref f) = true
section
variable {P : Program} {w : World} {K : W.Frag} {mg : Str → Option Value} {base : Heap}
theorem Fun.ok {x qual : Str} {st : Stmt} {f : Addr} {fd : FuncData} {N ps : List Str} {k : Nat} {sp : Sp} (F : Fun K x qual st f fd) (S : FnScope N ps (defScope st)) (len : ∀ vs H Q E, sp vs H Q E → vs.length = ps.length)
  (hbody : ∀ (cdv : Value) (A : Around) (outer : List Env) (s : Shared) (H : Hp) (vs : List V) (Q : VK) (E : XK), Room k (A.deeper (envOfC qual (defScope st) s.heap.objs.size f cdv)) → sp vs H Q E →
   ∃ t, PSs (cxOf CX0 P w K mg base N qual (defScope st) f cdv A outer s H E).nox (defBody st) t ∧ t { nx := fun _ H' => Q .non H', rt := Q } (start N vs) H) : FnOk P w K mg base CX0 (k + 1) f fd ps sp := by
 obtain ⟨oc, od, kV, doc, pm, an, cdv, ct, osl, rfl, lk, hcd⟩ := F.ex
 refine fn_of lk hcd S len fun A outer s H vs Q E hr hsp => ?_
 obtain ⟨t, h, q⟩ := hbody cdv A outer s H vs Q E hr hsp
 exact ⟨t, h.nox, q⟩
theorem Fun.binds {x qual : Str} {st : Stmt} {f : Addr} {fd : FuncData} {ps : List Str} (F : Fun K x qual st f fd)
  (h : ∀ (kV doc pm : Value) (an : Option Addr) (cdv ct : Value) (us : List Value), us.length = ps.length → bindArgs (W.fnOf x qual (defArgs st) (defBody st) (defScope st) .none kV doc pm an cdv ct) ⟨us, []⟩ = pure (ps.zip us)) : Binds K fd ps [] := by
 obtain ⟨oc, od, kV, doc, pm, an, cdv, ct, osl, rfl, lk, hcd⟩ := F.ex
 exact .all (h kV doc pm an cdv ct)
theorem fun_mk {x qual : Str} {st : Stmt} {f : Addr} {oc : Value} {od an : Option Addr} {osl : Array (Option Value)} {kV doc pm cdv ct : Value} (l : K.lookup f = some ⟨oc, od, .func (W.fnOf x qual (defArgs st) (defBody st) (defScope st) .none kV doc pm an cdv ct), osl⟩)
  (c : W.codeIn K cdv qual = true) (k : W.keepIn K (.ref f) = true) : Fun K x qual st f (W.fnOf x qual (defArgs st) (defBody st) (defScope st) .none kV doc pm an cdv ct) := ⟨⟨oc, od, kV, doc, pm, an, cdv, ct, osl, rfl, l, c⟩, k⟩
end
theorem small1000 {n : Nat} (h : n ≤ 1000) : n < sizeLine := Nat.lt_of_le_of_lt h (by decide)
section
variable {X : Cx}
theorem pv (i : Nat) {x : Str} {pos : Pos} (hN : X.N[i]? = some x := by rfl) (hv : Vis X.env.scope x := by first | exact Or.inl rfl | exact Or.inr (Or.inl rfl) | exact Or.inr (Or.inr rfl)) (hd : (x == ("__debug__" : Str)) = false := by decide)
  (hcd : (x == ("__classdict__" : Str)) = false := by decide) : PE X (.Name x pos) (tVar i) := pe_var hN hv hd hcd
end
def Same (H H' : Hp) : Prop := ∀ b o, H b = some o → H' b = some o
theorem Same.refl (H : Hp) : Same H H := fun _ _ h => h
theorem Same.trans {H H1 H2 : Hp} (a : Same H H1) (b : Same H1 H2) : Same H H2 := fun c o h => b c o (a c o h)
theorem Same.free {H H' : Hp} (e : Same H H') {l : Addr} (h : H' l = Option.none) : H l = Option.none := by
 cases q : H l with
 | none => rfl
 | some o =>
  rw [e l o q] at h
  cases h
theorem Same.seq {K : W.Frag} {H H' : Hp} {a : Addr} {xs : List V} (e : Same H H') (h : SqL K H a xs) : SqL K H' a xs := by
 rcases h with (h | ⟨o, h⟩) | h
 ·exact .inl (.inl (e _ _ h))
 ·exact .inl (.inr ⟨o, e _ _ h⟩)
 ·exact .inr h
end L2
set_option maxHeartbeats 4000000
namespace L2
open PySem PySem.Spec PyProof.Rows
theorem ObjOk.there {P : Program} {w : World} {H : Hp} {h : Heap} {a : Addr} {o : HO} (x : ObjOk P w H h a o) : ∃ ob, h.get? a = some ob := by
 cases o with
 | lst xs => obtain ⟨_, _, _, _, e⟩ := x; exact ⟨_, e⟩
 | tup xs => obtain ⟨_, _, _, p⟩ := x; obtain ⟨o, e, _⟩ := p; exact ⟨_, e⟩
 | dK kvs => obtain ⟨_, _, _, _, o, _, _, e, _⟩ := x; exact ⟨_, e⟩
 | dT kvs => obtain ⟨_, _, _, _, o, _, _, e, _⟩ := x; exact ⟨_, e⟩
 | set S n => obtain ⟨o, _, _, _, e, _⟩ := x; exact ⟨_, e⟩
 | ins C dx fs => obtain ⟨_, _, _, e, _⟩ := x; exact ⟨_, e⟩
 | own y => obtain ⟨_, e⟩ := x; exact ⟨_, e⟩
 | xd fs => obtain ⟨_, ⟨_, _, _, e, _⟩, _⟩ := x; exact ⟨_, e⟩
 | rng lo hi => obtain ⟨_, _, _, e⟩ := x; exact ⟨_, e⟩
 | frz ob u => obtain ⟨e, _⟩ := x; exact ⟨_, e⟩
 | tbl ps => exact ⟨_, (show h.get? a = some _ from x)⟩
 | met f y => exact ⟨_, (show h.get? a = some _ from x)⟩
 | ext φ => obtain ⟨_, ⟨_, e⟩, _⟩ := x; exact ⟨_, e⟩
def Imp (X : Cx) (pins : List (Addr × Obj)) (H : Hp) (b : Addr) : Prop := H b ≠ none ∨ (b ∉ X.ex ∧ ∃ o, X.s₀.heap.get? b = some o) ∨ ∃ p ∈ X.pn ++ pins, p.1 = b
def ctxV : Option Addr → Value
 | none => .none
 | some a => .ref a
def TrX (h B : Heap) (e : Addr) (cls : Value) (cx : Option Addr) (fl : Value) : Prop :=
 ∃ oe vs T oT ts, (h.get? e = some oe ∧ oe.cls = cls ∧ oe.data = .fields vs) ∧ (vs[1]? = some (.ref T) ∧ vs[2]? = some (ctxV cx)) ∧ (B.get? T = none ∧ T ≠ e) ∧ h.get? T = some oT ∧ oT.data = .fields ts ∧ ts[3]? = some fl
theorem ref_not_none (T : Addr) : (Value.ref T != Value.none) = true := by simp
inductive Ph where | new | fly | any
def XTr (B h : Heap) (a : Addr) (cls : Value) (cx : Option Addr) : Ph → Prop
 | .new => ∃ oe vs, h.get? a = some oe ∧ oe.cls = cls ∧ oe.data = .fields vs ∧ vs[1]? = some .none ∧ vs[2]? = some (ctxV cx)
 | .fly => TrX h B a cls cx .none
 | .any => ∃ fl, TrX h B a cls cx fl
theorem XTr.there {B h : Heap} {a : Addr} {cls : Value} {cx : Option Addr} {ph : Ph} (x : XTr B h a cls cx ph) : ∃ oe vs, h.get? a = some oe ∧ oe.cls = cls ∧ oe.data = .fields vs ∧ vs[2]? = some (ctxV cx) := by
 cases ph with
 | new => obtain ⟨oe, vs, h1, h2, h3, _, h4⟩ := x; exact ⟨oe, vs, h1, h2, h3, h4⟩
 | fly => obtain ⟨oe, vs, _, _, _, ⟨h1, h2, h3⟩, ⟨_, h4⟩, _⟩ := x; exact ⟨oe, vs, h1, h2, h3, h4⟩
 | any => obtain ⟨_, oe, vs, _, _, _, ⟨h1, h2, h3⟩, ⟨_, h4⟩, _⟩ := x; exact ⟨oe, vs, h1, h2, h3, h4⟩
section
variable {M : Model} {A : Around} {E : Value → Shared → Prop} {s : Shared}
def NoteX (B : Heap) (l : List Env) (e : Addr) (cls : Value) (cx : Option Addr) (fl : Value) (h h' : Heap) : Prop := B.StaysIn h' ∧ h'.FunFrames B l ∧ TrX h' B e cls cx fl ∧ h.UpToSlots h'
theorem entry_x {B : Heap} {env : Env} {outer : List Env} {L e : Addr} {oe : Obj} {vs : Array Value} {head : Value} {cx : Option Addr} {nx : Bool} {Q : Unit → Shared → Prop} (fr : A.frames = some (env :: outer)) (ff : s.heap.FunFrames B (env :: outer)) (hf : env.frame = some L)
  (ge : s.heap.get? e = some oe) (st : B.StaysIn s.heap) (be : B.get? e = none) (de : oe.data = .fields vs) (z1 : 1 < vs.size) (z2 : vs[2]? = some (ctxV cx)) (q : ∀ h', NoteX B (env :: outer) e oe.cls cx (rawInt L) s.heap h' → Q () { s with heap := h' }) :
  wpAny M A (do let a ← frameOf env; let pl ← entryPlaceOf L nx; let b ← EntryCells.newEntry head a .none (rawInt L) .none pl; setField (.ref e) 1 b) Q E s := by
 have nf : ∀ b o, s.heap.get? b = some o → (∀ ws, o.data ≠ .fields ws) → b ≠ e := fun b o gb nb zb => by subst zb; rw [ge] at gb; cases gb; exact nb vs de
 have out : e ∉ (env :: outer).filterMap (·.frame) := fun m => by obtain ⟨_, o, go, no⟩ := ff.mem m; exact nf e o go no rfl
 refine wpAny_bind (wpAny_frameOf_fun fr ff hf fun h1 only => wpAny_bind (wpAny_entryPlaceOf fun pl place => ?_))
 unfold EntryCells.newEntry newFields
 refine wpAny_bind (wpAny_newObj_type ?_ (place.sizeOk5 _ _ _ _ _))
 have ge1 : h1.get? e = some oe := (only.2.1 e out).trans ge
 have st1 : B.StaysIn h1 := fun b o gb => (only.2.1 b fun m => by have := (ff.mem m).1; rw [this] at gb; cases gb).trans (st b o gb)
 have ne1 : h1.objs.size ≠ e := fun z => absurd (Heap.lt_size ge1) (by rw [z]; exact Nat.lt_irrefl _)
 refine wpAny_setField (Heap.get?_push_of_some _ ge1) de z1 (q _ ?_)
 have far : ∀ {ob : Obj} {g : Obj → Obj} {b : Addr} {o : Obj}, b ≠ e → h1.get? b = some o → ((h1.push ob).update e g).get? b = some o := fun ne gb => (Heap.get?_update_other _ _ (Ne.symm ne)).trans (Heap.get?_push_of_some _ gb)
 refine ⟨fun b o gb => far (fun z => by rw [z, be] at gb; cases gb) (st1 b o gb), ff.of_keeps fun b o gb nb => ?_, ?_, fun b o gb nb => ?_⟩
 ·obtain ⟨sl, g⟩ := only.2.2 b o gb; exact ⟨_, far (nf b o gb nb) g, rfl⟩
 ·have dd := Obj.data_mapFields de (·.setIfInBounds 1 (Value.ref h1.objs.size))
  refine ⟨_, _, h1.objs.size, _, _, ⟨Heap.get?_update_self _ (Heap.get?_push_of_some _ ge1) (Obj.isFreed_of_fields dd), Obj.cls_mapFields _ _, dd⟩, ⟨by simp [z1], by rw [Array.getElem?_setIfInBounds_ne (by decide)]; exact z2⟩, ⟨st1.fresh, ne1⟩, (Heap.get?_update_other _ _ (Ne.symm ne1)).trans (Heap.get?_push_size h1 rfl), rfl, ?_⟩
  first | (simp; done) | (rcases place with rfl | ⟨_, _, _, _, _, _, _, rfl⟩ <;> simp)
 ·obtain ⟨sl, g⟩ := only.2.2 b o gb; exact ⟨sl, far (nf b o gb nb) g⟩
theorem note_first {B : Heap} {env : Env} {outer : List Env} {L e : Addr} {oe : Obj} {vs : Array Value} {cx : Option Addr} {Q : Unit → Shared → Prop} (fr : A.frames = some (env :: outer)) (ff : s.heap.FunFrames B (env :: outer)) (hf : env.frame = some L)
  (ge : s.heap.get? e = some oe) (st : B.StaysIn s.heap) (be : B.get? e = none) (de : oe.data = .fields vs) (z1 : vs[1]? = some .none) (z2 : vs[2]? = some (ctxV cx)) (q : ∀ h', NoteX B (env :: outer) e oe.cls cx (rawInt L) s.heap h' → Q () { s with heap := h' }) : wpAny M A (noteFrame (.ref e) env) Q E s := by
 unfold noteFrame
 simp only [hf]
 refine wpAny_bind (wpAny_field ge de z1 ?_)
 rw [if_neg (by decide)]
 exact entry_x fr ff hf ge st be de (Array.getElem?_eq_some_iff.mp z1).1 z2 q
theorem note_on {B : Heap} {env : Env} {outer : List Env} {L e : Addr} {cls : Value} {cx : Option Addr} {Q : Unit → Shared → Prop} (fr : A.frames = some (env :: outer)) (ff : s.heap.FunFrames B (env :: outer)) (hf : env.frame = some L)
  {fl : Value} (t : TrX s.heap B e cls cx fl) (nl : ¬ (fl == rawInt L) = true) (st : B.StaysIn s.heap) (be : B.get? e = none) (q : ∀ h', NoteX B (env :: outer) e cls cx (rawInt L) s.heap h' → Q () { s with heap := h' }) : wpAny M A (noteFrame (.ref e) env) Q E s := by
 obtain ⟨oe, vs, T, oT, ts, ⟨ge, rfl, de⟩, ⟨z1, z2⟩, ⟨bT, nT⟩, gT, dT, z3⟩ := t
 unfold noteFrame
 simp only [hf]
 refine wpAny_bind (wpAny_field ge de z1 ?_)
 rw [if_pos (ref_not_none T)]
 refine wpAny_bind (wpAny_field gT dT z3 ?_)
 rw [if_neg nl]
 refine wpAny_bind (wpAny_setField gT dT (Array.getElem?_eq_some_iff.mp z3).1 ?_)
 have far : ∀ {g : Obj → Obj} b, b ≠ T → (s.heap.update T g).get? b = s.heap.get? b := fun b ne => Heap.get?_update_other _ _ (Ne.symm ne)
 have nf : ∀ b o, s.heap.get? b = some o → (∀ ws, o.data ≠ .fields ws) → b ≠ T := fun b o gb nb zb => by subst zb; rw [gT] at gb; cases gb; exact nb ts dT
 refine entry_x fr (ff.of_keeps fun b o gb nb => ⟨o, (far b (nf b o gb nb)).trans gb, rfl⟩) hf ((far e (Ne.symm nT)).trans ge) (fun b o gb => (far b fun z => by rw [z, bT] at gb; cases gb).trans (st b o gb)) be de (Array.getElem?_eq_some_iff.mp z1).1 z2 fun h' x => q h' ⟨x.1, x.2.1, x.2.2.1, fun b o gb nb => ?_⟩
 exact x.2.2.2 b o ((far b (nf b o gb nb)).trans gb) nb
theorem note_again {B : Heap} {env : Env} {L e : Addr} {cls : Value} {cx : Option Addr} {fl : Value} {Q : Unit → Shared → Prop} (hf : env.frame = some L) (t : TrX s.heap B e cls cx fl) (el : (fl == rawInt L) = true) (q : Q () s) : wpAny M A (noteFrame (.ref e) env) Q E s := by
 obtain ⟨oe, vs, T, oT, ts, ⟨ge, rfl, de⟩, ⟨z1, z2⟩, ⟨bT, nT⟩, gT, dT, z3⟩ := t
 unfold noteFrame
 simp only [hf]
 refine wpAny_bind (wpAny_field ge de z1 ?_)
 rw [if_pos (ref_not_none T)]
 refine wpAny_bind (wpAny_field gT dT z3 ?_)
 rw [if_pos el]
 exact wpAny_pure q
theorem flight_x {B : Heap} {l : List Env} {e : Addr} {cls fl : Value} {cx fr : Option Addr} {Q : Unit → Shared → Prop} (st : B.StaysIn s.heap) (ff : s.heap.FunFrames B l) (t : TrX s.heap B e cls cx fl)
  (q : ∀ h', NoteX B l e cls cx (fr.elim Value.none fun f => rawInt f) s.heap h' → Q () { s with heap := h' }) : wpAny M A (setFlight (.ref e) fr) Q E s := by
 obtain ⟨oe, vs, T, oT, ts, ⟨ge, rfl, de⟩, ⟨z1, z2⟩, ⟨bT, nT⟩, gT, dT, z3⟩ := t
 have z4 : 3 < ts.size := (Array.getElem?_eq_some_iff.mp z3).1
 have far : ∀ {g : Obj → Obj} b, b ≠ T → (s.heap.update T g).get? b = s.heap.get? b := fun b ne => Heap.get?_update_other _ _ (Ne.symm ne)
 have nf : ∀ b o, s.heap.get? b = some o → (∀ ws, o.data ≠ .fields ws) → b ≠ T := fun b o gb nb zb => by subst zb; rw [gT] at gb; cases gb; exact nb ts dT
 unfold setFlight
 refine wpAny_bind (wpAny_field ge de z1 ?_)
 rw [if_pos (ref_not_none T)]
 refine wpAny_setField gT dT z4 (q _ ⟨fun b o gb => (far b fun z => by rw [z, bT] at gb; cases gb).trans (st b o gb), ff.of_keeps fun b o gb nb => ⟨o, (far b (nf b o gb nb)).trans gb, rfl⟩, ?_, fun b o gb nb => ⟨o.slots, (far b (nf b o gb nb)).trans gb⟩⟩)
 have dd := Obj.data_mapFields dT (·.setIfInBounds 3 (fr.elim Value.none fun f => rawInt f))
 exact ⟨oe, vs, T, _, _, ⟨(far e (Ne.symm nT)).trans ge, rfl, de⟩, ⟨z1, z2⟩, ⟨bT, nT⟩, Heap.get?_update_self _ gT (Obj.isFreed_of_fields dd), dd, by simp [z4]⟩
end
structure XAt (X : Cx) (pins : List (Addr × Obj)) (H : Hp) (s : Shared) (a : Addr) (cls : Value) (cx : Option Addr) (B : Heap) (ph : Ph) : Prop where
 free : H a = none
 stays : B.StaysIn s.heap
 fresh : B.get? a = none
 frames : s.heap.FunFrames B X.stack
 cov : ∀ b o, s.heap.get? b = some o → Imp X pins H b → b ∉ frs X.stack → B.get? b = some o
 tr : XTr B s.heap a cls cx ph
section
variable {X : Cx} {pins : List (Addr × Obj)} {σ : St} {H : Hp} {s : Shared} {a : Addr} {cls : Value} {cx : Option Addr} {B h' : Heap} {ph : Ph}
theorem Imp.there (I : Inv X pins σ H s) {b : Addr} (i : Imp X pins H b) : ∃ o, s.heap.get? b = some o := by
 rcases i with i | ⟨hx, o, i⟩ | ⟨p, hp, e⟩
 ·cases q : H b with
  | none => exact absurd q i
  | some u => exact (I.hok b u q).there
 ·exact I.base.there b o i hx
 ·exact ⟨p.2, by rw [← e]; exact (I.pin p hp).1⟩
theorem Inv.exc (I : Inv X pins σ H s) (cov : ∀ b o, s.heap.get? b = some o → Imp X pins H b → b ∉ frs X.stack → B.get? b = some o) (st : B.StaysIn h') (ups : s.heap.UpToSlots h') :
  Inv X pins σ H { s with heap := h' } := by
 have fr : ∀ b, b ∈ frs X.stack → ∀ o, s.heap.get? b = some o → ∃ sl, h'.get? b = some { o with slots := sl } := fun b hb o e => by
  obtain ⟨_, o', e', d⟩ := I.stack.mem hb
  rw [e] at e'; cases e'
  exact ups b o e d
 have nfr : ∀ b, b ∉ X.fs → b ≠ X.env.locals → b ∉ frs X.stack := fun b h1 h2 z => (List.mem_cons.mp (I.stkSub b z)).elim h2 h1
 have neL : ∀ b o, X.s₀.heap.get? b = some o → b ≠ X.env.locals := fun b o e => Nat.ne_of_lt (Nat.lt_of_lt_of_le (Heap.lt_size e) I.ok.above)
 have cellK : ∀ c v, s.heap.IsCell c v → h'.IsCell c v := fun c v ⟨o, ho, hd⟩ => by
  obtain ⟨sl, q⟩ := ups c o ho (fun vs z => by rw [hd] at z; cases z)
  exact ⟨_, q, hd⟩
 refine ⟨I.ok, I.os, I.bare, ⟨fun b o e n hb hx => ?_, fun b o e n hb hx => ?_, I.base.free, fun b o e hx => ?_, I.base.tups, I.base.frzs, I.base.tbls⟩, ?_, fun x c e => ?_, I.free, I.freeC, fun p hp => ?_, ?_, I.len⟩
 ·exact st _ _ (cov b o (I.base.keep b o e n hb hx) (.inr (.inl ⟨hx, o, e⟩)) (nfr b hb (neL b o e)))
 ·obtain ⟨sl, e1⟩ := I.base.slot b o e n hb hx
  have hb' : b ∈ frs X.stack := by
   rcases I.ok.stk with q | ⟨q, hf⟩
   ·rw [q]; exact hb
   ·rw [q]; unfold frs; rw [List.filterMap_cons, hf]; exact List.mem_cons_of_mem _ hb
  obtain ⟨sl', e2⟩ := fr b hb' _ e1
  exact ⟨sl', e2⟩
 ·obtain ⟨o', e1⟩ := I.base.there b o e hx
  by_cases hb : b ∈ frs X.stack
  ·obtain ⟨sl, q⟩ := fr b hb _ e1
   exact ⟨_, q⟩
  ·exact ⟨o', st _ _ (cov b o' e1 (.inr (.inl ⟨hx, o, e⟩)) hb)⟩
 ·obtain ⟨m, hn, hl⟩ := I.loc
  refine ⟨m, ups.ns hn, fun i x v e1 e2 e3 => ?_⟩
  obtain ⟨u, r, l⟩ := hl i x v e1 e2 e3
  refine ⟨u, r, ?_⟩
  rcases l with l | ⟨k, c, e, z⟩
  ·exact .inl l
  ·exact .inr ⟨k, c, e, cellK c _ z⟩
 ·obtain ⟨v, z⟩ := I.cell x c e
  exact ⟨v, cellK c v z⟩
 ·obtain ⟨e, n, ne, nf, d⟩ := I.pin p hp
  exact ⟨st _ _ (cov p.1 p.2 e (.inr (.inr ⟨p, hp, rfl⟩)) (nfr p.1 nf ne)), n, ne, nf, d⟩
 ·intro b u e
  refine (I.hok b u e).stay (fun c v hc q => ?_) (fun _ q => q) fun _ _ q => q
  have hc' : H c ≠ none := by
   rcases hc with z | z
   ·rw [z, e]; exact fun q => nomatch q
   ·rw [z]; exact fun q => nomatch q
  exact st _ _ (cov c v q (.inl hc') fun z => hc' (I.stkFree c z))
theorem XAt.cov' (x : XAt X pins H s a cls cx B ph) (I : Inv X pins σ H s) (st : B.StaysIn h') : ∀ b o, h'.get? b = some o → Imp X pins H b → b ∉ frs X.stack → B.get? b = some o := fun b o e i n => by
 obtain ⟨o1, e1⟩ := i.there I
 have q := x.cov b o1 e1 i n
 have q2 := st _ _ q
 rw [e] at q2; cases q2
 exact q
variable {M : Model} {A : Around} {E : Value → Shared → Prop} {Q : Unit → Shared → Prop}
theorem note_env {e : Value} {env env0 : Env} (h : env0.frame = env.frame) : noteFrame e env = noteFrame e env0 := by
 unfold noteFrame PySem.frameOf
 rw [h]
theorem note_ok {env0 : Env} {out0 : List Env} {F : Addr} (hA : A.frames = some X.stack) (hs : X.stack = env0 :: out0) (h0 : env0.frame = X.env.frame) (hf : X.env.frame = some F) (I : Inv X pins σ H s) (x : XAt X pins H s a cls cx B ph)
  (hQ : ∀ h', Inv X pins σ H { s with heap := h' } → XAt X pins H { s with heap := h' } a cls cx B .any → Q () { s with heap := h' }) : wpAny M A (noteFrame (.ref a) X.env) Q E s := by
 have hfr : A.frames = some (env0 :: out0) := by rw [hA, hs]
 have hl : s.heap.FunFrames B (env0 :: out0) := by rw [← hs]; exact x.frames
 rw [note_env h0]
 have hf : env0.frame = some F := h0.trans hf
 have fin : ∀ {fl : Value} h', NoteX B (env0 :: out0) a cls cx fl s.heap h' → Q () { s with heap := h' } := fun h' ⟨k1, k2, k3, k4⟩ =>
  hQ h' (I.exc x.cov k1 k4) ⟨x.free, k1, x.fresh, by rw [hs]; exact k2, x.cov' I k1, _, k3⟩
 have on : ∀ fl, TrX s.heap B a cls cx fl → wpAny M A (noteFrame (.ref a) env0) Q E s := fun fl t => by
  by_cases z : (fl == rawInt F) = true
  ·exact note_again hf t z (hQ s.heap I ⟨x.free, x.stays, x.fresh, x.frames, x.cov, fl, t⟩)
  ·exact note_on hfr hl hf t z x.stays x.fresh fin
 cases ph with
 | new =>
  obtain ⟨oe, vs, he, hc, hd, h1, h2⟩ := x.tr
  refine note_first hfr hl hf he x.stays x.fresh hd h1 h2 fun h' hN => ?_
  rw [hc] at hN
  exact fin h' hN
 | fly => exact on _ x.tr
 | any => obtain ⟨fl, t⟩ := x.tr; exact on fl t
theorem land_ok (I : Inv X pins σ H s) (x : XAt X pins H s a cls cx B ph) (hn : ph ≠ .new)
  (hQ : ∀ h', Inv X pins σ H { s with heap := h' } → XAt X pins H { s with heap := h' } a cls cx B .fly → Q () { s with heap := h' }) : wpAny M A (setFlight (.ref a) none) Q E s := by
 have go : ∀ fl, TrX s.heap B a cls cx fl → wpAny M A (setFlight (.ref a) none) Q E s := fun fl ht =>
  flight_x x.stays x.frames ht fun h' ⟨k1, k2, k3, k4⟩ => hQ h' (I.exc x.cov k1 k4) ⟨x.free, k1, x.fresh, k2, x.cov' I k1, k3⟩
 cases ph with
 | new => exact absurd rfl hn
 | fly => exact go _ x.tr
 | any => obtain ⟨fl, t⟩ := x.tr; exact go fl t
end
def CXe (P : Program) (w : World) : CXT := fun outer H s E e s' =>
 ∃ (a : Addr) (cls : Value) (cx : Option Addr) (H' : Hp) (B : Heap), e = .ref a ∧ s'.os = s.os ∧ AllBare s'.gens ∧ Un (frs outer) [] H H' s.heap s'.heap ∧ HOk P w H' s'.heap ∧ B.StaysIn s'.heap ∧ B.get? a = none ∧ s'.heap.FunFrames B outer ∧
  TrX s'.heap B a cls cx .none ∧ H' a = none ∧ (∀ b o, s'.heap.get? b = some o → (H' b ≠ none ∨ ∃ o', s.heap.get? b = some o') → b ∉ frs outer → B.get? b = some o) ∧ E cls cx H'
def XAcc (X : Cx) (E : XK) : Prop := ∀ (pins : List (Addr × Obj)) (σ : St) (H : Hp) (s : Shared) (a : Addr) (cls : Value) (cx : Option Addr) (B : Heap) (ph : Ph), Inv X pins σ H s → XAt X pins H s a cls cx B ph → E cls cx H → X.xe (.ref a) s
theorem acc_def {P : Program} {w : World} {K : W.Frag} {mg : Str → Option Value} {base : Heap} {N : List Str} {qual : Str} {scope : Scope} {f : Addr} {cd : Value} {A : Around} {outer : List Env} {s : Shared} {H : Hp} {E : XK} :
  XAcc (cxOf (CXe P w) P w K mg base N qual scope f cd A outer s H E) E := by
 intro pins σ H1 s1 a cls cx B ph I x e
 show wpAny (model P w) (A.deeper (envOfC qual scope s.heap.objs.size f cd)) (leaving (envOfC qual scope s.heap.objs.size f cd) (.ref a)) _ _ s1
 unfold leaving
 refine wpAny_bind (note_ok (X := cxOf (CXe P w) P w K mg base N qual scope f cd A outer s H E) I.ok.frames rfl rfl rfl I x fun h1 I1 x1 => ?_)
 refine land_ok I1 x1 (fun z => nomatch z) fun h2 I2 x2 => ?_
 refine ⟨a, cls, cx, H1, B, rfl, I2.os, I2.bare, I2.base, I2.hok, x2.stays, x2.fresh, x2.frames.2.2, x2.tr, x2.free, fun b o e1 i n => ?_, e⟩
 have nl : b ≠ (envOfC qual scope s.heap.objs.size f cd).locals := fun z => by
  rcases i with i | ⟨o', i⟩
  ·exact i (by rw [z]; exact I2.free)
  ·have := Heap.lt_size i
   rw [z] at this
   exact absurd this (Nat.lt_irrefl _)
 refine x2.cov b o e1 (i.elim .inl fun z => .inr (.inl ⟨List.not_mem_nil, z⟩)) fun z => ?_
 rcases List.mem_cons.mp (I2.stkSub b z) with q | q
 ·exact nl q
 ·exact n q
theorem XAcc.passes {X : Cx} {E : XK} (acc : XAcc X E) : Passes (CXe X.prog X.w) X E := by
 intro pins σ H s e s' I h
 obtain ⟨a, cls, cx, H', B, rfl, os, bare, un, hok, st, fr, ff, tr, free, cov, hE⟩ := h
 have I' : Inv X pins σ H' s' := I.call' (ch := []) os un hok bare (fun b z => absurd z (by simp))
 refine acc pins σ H' s' a cls cx B .fly I' ⟨free, st, fr, ff, fun b o e i n => cov b o e ?_ n, tr⟩ hE
 rcases i with i | ⟨hx, o', i⟩ | ⟨p, hp, q⟩
 ·exact .inl i
 ·exact .inr (I.base.there b o' i hx)
 ·exact .inr ⟨p.2, by rw [← q]; exact (I.pin p hp).1⟩
end L2
namespace PySem.W
open PySem PySem.Spec PySem.Calls PyProof.Rows
structure ExcT (K : Frag) (C : Addr) : Prop where
 ga : findIn K (.ref C) "__getattribute__" = some (some (.builtin "BaseException.__getattribute__"))
 gt : findIn K (.ref C) "__getattr__" = some none
 cl : findIn K (.ref C) "__class__" = some (some (.builtin "object.__class__"))
 mo : mroIn K C (.type "object") = some true
 sb : subIn K (.ref C) (.type "BaseException") = some true
section
variable {prog : Program} {w : World} {A : Around} {E : Value → Shared → Prop} {h : Heap} {g : Array GenState} {d : Drawn} {t : Nat} {os : OsState} {K : Frag} {x C : Addr} {o : Obj} {R : Result → Shared → Prop}
theorem exc_class_get {tp : Value} (X : K.In h) (hx : h.get? x = some o) (hc : o.cls = .ref C) (hm : mroIn K C (.type "object") = some true)
  (q : R (.ok (.ret (.ref C))) ⟨h, g, d, t, os⟩) : codeAny (model prog w) A (.call (.builtin "getset_descriptor.__get__") ⟨[.builtin "object.__class__", .ref x, tp], []⟩) R ⟨h, g, d, t, os⟩ := by
 have L0 : Looks (model prog w) h (typeOf (.ref x)) (.ref C) := hc ▸ (Looks.ld hx).andThen .now
 have L1 := looks_mroIn (M := model prog w) X hm
 refine codeAny_call_builtin KF.slot_gs.plain KF.entry_gs (KF.slot_gs.check _ _ _ _ _ _ _ _ KF.type_class (KF.args_gs _ _ _) ?_)
 unfold Builtin.«getset_descriptor.__get__» Builtin.Getset_descriptor.descrGet
 rw [dga_obj]
 refine wpAny_bind (wpAny_pure ?_)
 unfold Builtin.Getset_descriptor.descrGetter Builtin.Getset_descriptor.descrCheckInstance Builtin.Getset_descriptor.descrNameAndClass isInstance
 simp only [KF.owner_class]
 repeat lk
 refine ⟨Code.quiet_builtin _ (by decide +kernel), codeAny_builtin KF.entry_class ?_⟩
 unfold Builtin.«object.__class__» shownTypeOf
 repeat lk
 exact q
theorem exc_class_entry {tk : Tok} {Q : Fin → Shared → Prop} (X : K.In h) (T : ExcT K C) (hx : h.get? x = some o) (hc : o.cls = .ref C) (q : Q (.done (.ret (.ref C))) ⟨h, g, d, t, os⟩) :
  wpAny (model prog w) A (Builtin.«object.__getattribute__» ⟨[.ref x, .str "__class__" tk], []⟩) Q E ⟨h, g, d, t, os⟩ := by
 have L0 : Looks (model prog w) h (typeOf (.ref x)) (.ref C) := hc ▸ (Looks.ld hx).andThen .now
 have L1 := looks_findIn (M := model prog w) X T.cl
 have hT5 : (⟨h, g, d, t, os⟩ : Shared).TypeIs (.builtin "object.__class__") "getset_descriptor" := F.typeOf_object_class
 have f5 := F.typeOf_object_class
 have f6 := F.slot_gs_get.lookup
 have f7 := F.slot_gs_set.lookup
 repeat (any_goals (first | assumption | (with_reducible refine L0.at ?_) | (with_reducible refine wpAny_bind (L0.at ?_)) | (with_reducible refine L1.at ?_) | (with_reducible refine wpAny_bind (L1.at ?_)) | wp_step))
 refine exc_class_get X hx hc T.mo ?_
 repeat (any_goals (first | assumption | wp_step))
theorem exc_check_ga {M : Model} {nameV : Value} {Q : Unit → Shared → Prop} (X : K.In h) (T : ExcT K C) (hx : h.get? x = some o) (hc : o.cls = .ref C) (hq : Q () ⟨h, g, d, t, os⟩) : wpAny M A (checkBuiltinCall "BaseException.__getattribute__" ⟨[.ref x, nameV], []⟩) Q E ⟨h, g, d, t, os⟩ := by
 have hk : builtinKind "BaseException.__getattribute__" = some .slot := by decide +kernel
 have hsplit : splitId "BaseException.__getattribute__" = some ("BaseException", "__getattribute__") := by decide +kernel
 have L0 : Looks M h (typeOf (.ref x)) (.ref C) := hc ▸ (Looks.ld hx).andThen .now
 have L1 := looks_subIn (M := M) X T.sb
 have L2 : Looks M h (isInstance (.ref x) (.type "BaseException")) true := L0.andThen L1
 have ha := F.args_bexc_ga (.ref x) nameV
 simp only [checkBuiltinCall, hk, hsplit]
 refine wpAny_bind (L2.at ?_)
 repeat (first | assumption | wp_step)
theorem exc_class_by {tk : Tok} {Q : Value → Shared → Prop} (X : K.In h) (T : ExcT K C) (hx : h.get? x = some o) (hc : o.cls = .ref C) (hq : Q (.ref C) ⟨h, g, d, t, os⟩) : wpAny (model prog w) A (getAttrBy (.ref x) (.str "__class__" tk) false) Q E ⟨h, g, d, t, os⟩ := by
 have L0 : Looks (model prog w) h (typeOf (.ref x)) (.ref C) := hc ▸ (Looks.ld hx).andThen .now
 have L1 := looks_findIn (M := model prog w) X T.ga
 have L2 := looks_findIn (M := model prog w) X T.gt
 have f3 := F.attr_ValueError.ga.bind (.ref x)
 have hx2 : (Value.builtin "BaseException.__getattribute__" == Value.builtin "object.__getattribute__") = false := by decide +kernel
 have hx1 : (onTheHeap (Value.ref C) && Value.builtin "BaseException.__getattribute__" == Value.builtin "object.__getattribute__") = false := by rw [hx2]; rfl
 repeat (any_goals (first | assumption | (with_reducible refine L0.at ?_) | (with_reducible refine wpAny_bind (L0.at ?_)) | (with_reducible refine L1.at ?_) | (with_reducible refine wpAny_bind (L1.at ?_)) | (with_reducible refine L2.at ?_) | (with_reducible refine wpAny_bind (L2.at ?_)) | wp_step))
 refine codeAny_call_builtin F.attr_ValueError.ga.plain F.entry_bexc_ga (exc_check_ga X T hx hc (exc_class_entry X T hx hc ?_))
 repeat (any_goals (first | assumption | wp_step))
theorem exc_class_attr {Q : Option Value → Shared → Prop} (X : K.In h) (T : ExcT K C) (hx : h.get? x = some o) (hc : o.cls = .ref C) (hq : Q (some (.ref C)) ⟨h, g, d, t + 1, os⟩) : wpAny (model prog w) A (getAttr? (.ref x) "__class__") Q E ⟨h, g, d, t, os⟩ := by
 unfold getAttr? getAttrBy?
 repeat (any_goals (first | assumption | with_reducible apply exc_class_by X T hx hc | wp_step))
end
def ExcAtC (x C : Addr) (h : Heap) : Prop := ∃ o vs, h.get? x = some o ∧ o.cls = .ref C ∧ o.data = .fields vs
theorem kitx_exc {K : Frag} {x C : Addr} (T : ExcT K C) : KitX K (.ref x) (.ref C) (ExcAtC x C) where
 ty := fun _ _ _ ⟨_, _, hx, hc, _⟩ => hc ▸ (Looks.ld hx).andThen .now
 it := fun M h X _ => by
  have hm := T.mo
  unfold mroIn at hm
  obtain ⟨cd, hcd⟩ : ∃ cd, clsIn K C = some cd := by
   cases q : clsIn K C with
   | none => rw [q] at hm; cases hm
   | some cd => exact ⟨cd, rfl⟩
  unfold clsIn at hcd
  split at hcd
  ·rename_i c' d' cd' sl' ho
   intro A' Q' E' s' k q
   unfold isType loadHead
   exact wpAny_bind (wpAny_loadPart (k _ _ (X _ _ ho)) (wpAny_pure q))
  ·cases hcd
 ne := fun h tp dd its n sl X htp => by
  have hm := T.mo
  unfold mroIn at hm
  obtain ⟨cd, hcd⟩ : ∃ cd, clsIn K C = some cd := by
   cases q : clsIn K C with
   | none => rw [q] at hm; cases hm
   | some cd => exact ⟨cd, rfl⟩
  refine Bool.eq_false_iff.mpr fun q => ?_
  have e : C = tp := Value.ref.inj (beq_iff_eq.mp q)
  subst e
  unfold clsIn at hcd
  split at hcd
  ·rename_i c' d' cd' sl' ho
   have z := (X _ _ ho).symm.trans htp
   cases z
  ·cases hcd
 ca := fun {_ _ _ _ _ s} X ⟨_, _, hx, hc, _⟩ k => by
  obtain ⟨h, g, d, t, os⟩ := s
  exact exc_class_attr X T hx hc k
end PySem.W
namespace L2
open PySem PySem.Spec PyProof.Rows
abbrev TJ := St → Hp → Str → (Str → Hp → Prop) → Prop
def vErr : List Value := [.type "ValueError", .type "Exception", .type "BaseException", .type "object"]
theorem exc_obj {K : W.Frag} {h₀ : Heap} {C : Addr} (KX : K.In h₀) (q : W.excIn K C vErr "ValueError.__new__" = true) :
  ∃ bm N nm q bs hdct sn sub ab col dd k0 k1 k2 k3 k5 mN, h₀.get? C = some (excClassObj nm q C N bs bm hdct sn sub ab col dd k0 k1 k2 k3 k5 "ValueError.__new__") ∧ h₀.Ns N mN ∧ mN "__init__" = none ∧ OwnTail h₀ vErr bm := by
 unfold W.excIn at q
 split at q
 ·rename_i dd cd sl ho
  split at q
  ·rename_i C' bm k0 k1 k2 k3 n k5 hm hs
   simp only [Bool.and_eq_true, beq_iff_eq, Bool.not_eq_true'] at q
   obtain ⟨⟨⟨⟨⟨rfl, rfl⟩, hdel⟩, ht⟩, hok⟩, hni⟩ := q
   obtain ⟨nm, bs, mro, ns, qn, hd, sn, sub, ab, col, del⟩ := cd
   dsimp only at hm hdel hok hni
   subst hm hdel
   have hsl : sl = #[k0, k1, k2, k3, some (.builtin "ValueError.__new__"), k5] := by
    obtain ⟨l⟩ := sl
    simp only at hs
    rw [hs]
   subst hsl
   exact ⟨bm, ns, nm, qn, bs, hd, sn, sub, ab, col, dd, k0, k1, k2, k3, k5, _, KX _ _ ho, .of_isNs (W.isNs_of_in KX hok), W.nsMap_none_of_in KX hok hni, W.tail_of_in KX ht⟩
  ·cases q
 ·cases q
section
variable {X : Cx} {E : XK}
theorem XAt.first {pins : List (Addr × Obj)} {σ : St} {H : Hp} {s : Shared} {h' : Heap} {a : Addr} {cls : Value} {cx : Option Addr} {oe : Obj} {vs : Array Value} (I : Inv X pins σ H s) (k : ∀ b o, s.heap.get? b = some o → h'.get? b = some o)
  (n : s.heap.get? a = none) (g : h'.get? a = some oe) (hc : oe.cls = cls) (hd : oe.data = .fields vs) (z1 : vs[1]? = some .none) (z2 : vs[2]? = some (ctxV cx)) :
  Inv X pins σ H { s with heap := h' } ∧ XAt X pins H { s with heap := h' } a cls cx (W.hideAll s.heap (frs X.stack)) .new := by
 have I' : Inv X pins σ H { s with heap := h' } := I.kept (t' := s.toks) k
 have fr : H a = none := by
  cases q : H a with
  | none => rfl
  | some u => obtain ⟨o, e⟩ := (I.hok a u q).there; rw [n] at e; cases e
 refine ⟨I', fr, fun b o e => k b o (W.of_hideAll _ e), ?_, (W.funFrames_hide I.stack fun env he b hb => List.mem_filterMap.mpr ⟨env, he, hb⟩).of_keeps fun b o e _ => ⟨o, k b o e, rfl⟩, fun b o e i n => ?_, ⟨oe, vs, g, hc, hd, z1, z2⟩⟩
 ·cases q : (W.hideAll s.heap (frs X.stack)).get? a with
  | none => rfl
  | some o => have := W.of_hideAll _ q; rw [n] at this; cases this
 ·obtain ⟨o1, e1⟩ := i.there I
  have e2 := k _ _ e1
  rw [e] at e2; cases e2
  exact W.hideAll_get _ e1 n
theorem XAt.made {pins : List (Addr × Obj)} {σ : St} {H : Hp} {s : Shared} {h' : Heap} {a : Addr} {cls : Value} {vs : List Value} (I : Inv X pins σ H s) (m : Heap.MadeExcOf s.heap h' a cls vs) :
  Inv X pins σ H { s with heap := h' } ∧ XAt X pins H { s with heap := h' } a cls none (W.hideAll s.heap (frs X.stack)) .new := by
 obtain ⟨t, he, _, _⟩ := m.there
 exact XAt.first I m.keeps m.new he rfl rfl rfl rfl
def tRaise (C : Addr) (E : XK) (ta : TA) : TS := fun _ σ H => ta σ H fun vs H1 => vs.length ≤ sizeLine ∧ E (.ref C) none H1
theorem ps_raise {x : Str} {C : Addr} {e₀ : Expr} {rest : List Expr} {np cpos pos : Pos} {ta : TA} (acc : XAcc X E) (q : W.excIn X.K C vErr "ValueError.__new__" = true) (hg : Gl X x) (hm : X.mg x = some (.ref C)) (ha : PA X (e₀ :: rest) ta)
  (hc : X.calm = true := by rfl) (hex : X.ex = [] := by rfl)
  (he : starEach (e₀ :: rest) X.env = (false, eval e₀ X.env) :: starEach rest X.env := by rfl) (hplain : (backTo cpos (starEach rest X.env)).any (·.1) = false := by rfl) (hd : (x == ("__debug__" : Str)) = false := by decide) :
  PS X (.Raise (some (.Call (.Name x np) (e₀ :: rest) [] cpos)) none pos) (tRaise C E ta) := by
 intro pins s σ H D I h
 obtain ⟨tl, N, nm, qn, bs, hdct, sn, sub, ab, col, dd, k0, k1, k2, k3, k5, mN, hC, hN, hni, T⟩ := exc_obj I.mod.kin q
 have hp := ha cpos pins s σ H _ I h
 rw [he] at hp
 refine wpAny_Raise_call_subT (C := C) (nm := nm) (q := qn) (N := N) (bs := bs) (bm := tl) (hdct := hdct) (sn := sn) (sub := sub) (ab := ab) (col := col) (dd := dd) (k0 := k0) (k1 := k1) (k2 := k2) (k3 := k3) (k5 := k5)
  PySem.F.excBase_ValueError (mN := mN) (T.hasType PySem.F.excBase_ValueError.hasBase) (I.ok.hd hc) (by rw [he]; show (false || (backTo cpos (starEach rest X.env)).any (·.1)) = false; rw [hplain]; rfl) hni (ld_glob I hg hm ⟨rfl, ?_⟩ hd)
 rw [he]
 refine Calls.evalArgs_plain (thn hp fun us s2 ⟨vs, H2, I2, rv, z, hE⟩ => ⟨rfl, by rw [← rv.length]; exact z, I2.bk _ _ hC, hN.keeps I2.bk, T.keeps I2.bk, fun h' e m => ?_⟩)
 obtain ⟨I3, x3⟩ := XAt.made I2 m
 exact acc pins σ H2 _ e _ none _ .new I3 x3 hE
end
def ExcO (a : Addr) (cls : Value) (cx : Option Addr) : HO := .ext fun h => ∃ o vs, h.get? a = some o ∧ o.cls = cls ∧ o.data = .fields vs ∧ vs[2]? = some (ctxV cx)
section
variable {X : Cx} {pins : List (Addr × Obj)} {σ : St} {H : Hp} {s : Shared} {a : Addr} {cls : Value} {cx : Option Addr} {B : Heap} {ph : Ph}
theorem XAt.nofr (x : XAt X pins H s a cls cx B ph) : a ∉ frs X.stack := fun z => by
 obtain ⟨oe, vs, e, _, d, _⟩ := x.tr.there
 obtain ⟨_, o, e', d'⟩ := x.frames.mem z
 rw [e] at e'; cases e'
 exact d' vs d
theorem XAt.noimp (x : XAt X pins H s a cls cx B ph) : ¬ Imp X pins H a := fun i => by
 obtain ⟨oe, vs, e, _, d, _⟩ := x.tr.there
 have := x.cov a oe e i x.nofr
 rw [x.fresh] at this; cases this
theorem Inv.track (I : Inv X pins σ H s) (x : XAt X pins H s a cls cx B ph) : Inv X pins σ (upd H a (ExcO a cls cx)) s := by
 obtain ⟨oe, vs, e, hc, d, d2⟩ := x.tr.there
 have ni := x.noimp
 refine ⟨I.ok, I.os, I.bare, ⟨I.base.keep, I.base.slot, fun b o e1 n hx => ?_, I.base.there, fun b xs q => ?_, fun b o u q => ?_, fun b ps q => ?_⟩, I.loc, I.cell, ?_, fun y c q => ?_, fun p hp => ?_, fun b u q => ?_, I.len⟩
 ·rw [upd_ne (fun z => ni (.inr (.inl ⟨by rw [← z]; exact hx, o, by rw [← z]; exact e1⟩)))]
  exact I.base.free b o e1 n hx
 ·have q1 := I.base.tups b xs q
  rw [upd_ne (ne_of_none q1 x.free)]; exact q1
 ·have q1 := I.base.frzs b o u q
  rw [upd_ne (ne_of_none q1 x.free)]; exact q1
 ·obtain ⟨more, q1⟩ := I.base.tbls b ps q
  exact ⟨more, by rw [upd_ne (ne_of_none q1 x.free)]; exact q1⟩
 ·rw [upd_ne fun z => ?_]
  ·exact I.free
  ·obtain ⟨m, ⟨o, es, ep, ho, hd, _⟩, _⟩ := I.loc
   rw [z, e] at ho; cases ho
   rw [d] at hd; cases hd
 ·rw [upd_ne fun z => ?_]
  ·exact I.freeC y c q
  ·obtain ⟨v, o, ho, hd⟩ := I.cell y c q
   rw [z, e] at ho; cases ho
   rw [d] at hd; cases hd
 ·obtain ⟨h1, h2, h3, h4, h5⟩ := I.pin p hp
  exact ⟨h1, by rw [upd_ne (fun z => ni (.inr (.inr ⟨p, hp, z⟩)))]; exact h2, h3, h4, h5⟩
 ·by_cases hb : b = a
  ·subst hb
   rw [upd_same] at q; cases q
   exact ⟨⟨oe, vs, e, hc, d, d2⟩, ⟨oe, e⟩, fun h1 h2 ⟨o, ws, z1, z2, z3⟩ k => ⟨o, ws, k o z1, z2, z3⟩⟩
  ·rw [upd_ne hb] at q
   refine (I.hok b u q).stay (fun _ _ _ z => z) (fun c z => ?_) fun c xs z => ?_
   ·rw [upd_ne (ne_of_none z x.free)]; exact z
   ·rw [upd_ne (ne_of_none z x.free)]; exact z
end
abbrev Cx.tryCx (X : Cx) (E2 : Value → Shared → Prop) (pins : List (Addr × Obj)) : Cx := { X with xe := E2, pn := X.pn ++ pins }
abbrev Cx.inExc (X : Cx) (a : Addr) : Cx := { X with A := X.A.mark (some (.ref a)), calm := false }
section
variable {X : Cx} {pins : List (Addr × Obj)} {σ : St} {H : Hp} {s : Shared} {a : Addr} {E2 : Value → Shared → Prop}
theorem Cx.Ok.tryCx (ok : X.Ok) : (X.tryCx E2 pins).Ok := ⟨ok.mod, ok.kind, ok.glob, ok.blt, ok.above, ok.inj, ok.has, ok.cab, ok.hd, ok.frames, ok.stk, ok.exf, ok.bs, ok.bsz, ok.noex, ok.exfs, ok.funs, ok.frf⟩
theorem Cx.Ok.inExc (ok : X.Ok) : (X.inExc a).Ok := ⟨ok.mod, ok.kind, ok.glob, ok.blt, ok.above, ok.inj, ok.has, ok.cab, (fun z => nomatch z), ok.frames, ok.stk, ok.exf, ok.bs, ok.bsz, ok.noex, ok.exfs, ok.funs, ok.frf⟩
theorem Inv.toTry (I : Inv X pins σ H s) : Inv (X.tryCx E2 pins) [] σ H s :=
 ⟨I.ok.tryCx, I.os, I.bare, I.base, I.loc, I.cell, I.free, I.freeC, fun p hp => I.pin p (by rw [List.append_nil] at hp; exact hp), I.hok, I.len⟩
theorem Inv.ofTry {pins' : List (Addr × Obj)} (ok : X.Ok) (I : Inv (X.tryCx E2 pins) pins' σ H s) : Inv X pins σ H s :=
 ⟨ok, I.os, I.bare, I.base, I.loc, I.cell, I.free, I.freeC, fun p hp => I.pin p (List.mem_append_left _ hp), I.hok, I.len⟩
theorem Inv.toExc (I : Inv X pins σ H s) : Inv (X.inExc a) pins σ H s :=
 ⟨I.ok.inExc, I.os, I.bare, I.base, I.loc, I.cell, I.free, I.freeC, I.pin, I.hok, I.len⟩
theorem Inv.ofExc (ok : X.Ok) (I : Inv (X.inExc a) pins σ H s) : Inv X pins σ H s :=
 ⟨ok, I.os, I.bare, I.base, I.loc, I.cell, I.free, I.freeC, I.pin, I.hok, I.len⟩
theorem SP.ofTry {pins' : List (Addr × Obj)} {D : Ends} {f : Flow} {s' : Shared} (ok : X.Ok) (h : SP (X.tryCx E2 pins) pins' D f s') : SP X pins D f s' := by
 cases f with
 | next => obtain ⟨σ', H', I, q⟩ := h; exact ⟨σ', H', I.ofTry ok, q⟩
 | brk => obtain ⟨σ', H', I, q⟩ := h; exact ⟨σ', H', I.ofTry ok, q⟩
 | cont => obtain ⟨σ', H', I, q⟩ := h; exact ⟨σ', H', I.ofTry ok, q⟩
 | ret u => obtain ⟨v, σ', H', I, r, q⟩ := h; exact ⟨v, σ', H', I.ofTry ok, r, q⟩
theorem SP.ofExc {D : Ends} {f : Flow} {s' : Shared} (ok : X.Ok) (h : SP (X.inExc a) pins D f s') : SP X pins D f s' := by
 cases f with
 | next => obtain ⟨σ', H', I, q⟩ := h; exact ⟨σ', H', I.ofExc ok, q⟩
 | brk => obtain ⟨σ', H', I, q⟩ := h; exact ⟨σ', H', I.ofExc ok, q⟩
 | cont => obtain ⟨σ', H', I, q⟩ := h; exact ⟨σ', H', I.ofExc ok, q⟩
 | ret u => obtain ⟨v, σ', H', I, r, q⟩ := h; exact ⟨v, σ', H', I.ofExc ok, r, q⟩
theorem XAcc.inExc {E : XK} {a : Addr} (acc : XAcc X E) (ok : X.Ok) : XAcc (X.inExc a) E := fun pins σ H s b cls cx B ph I x e => acc pins σ H s b cls cx B ph (I.ofExc ok) ⟨x.free, x.stays, x.fresh, x.frames, x.cov, x.tr⟩ e
end
section
variable {X : Cx} {pins : List (Addr × Obj)} {σ : St} {H : Hp} {s : Shared} {a : Addr} {E2 : Value → Shared → Prop}
theorem Inv.nameGoes {M : Model} {A : Around} {E : Value → Shared → Prop} {n : Str} {i : Nat} {pos : Pos} {Q : Unit → Shared → Prop} (I : Inv X pins σ H s) (hN : X.N.Nodup) (hi : X.N[i]? = some n) (hl : X.env.scope.names.lookup n = some .local)
  (h : ∀ h', Inv X pins (σ.set i none) H { s with heap := h', toks := s.toks + 1 } → Q () { s with heap := h', toks := s.toks + 1 }) : wpAny M A (do bindName X.env n .none; unbindBehindTheSuite X.env n pos) Q E s := by
 obtain ⟨m, hn, hlo⟩ := id I.loc
 have hcls : (X.env.scope.kind == .class || (X.env.scope.kind == .module && X.env.locals != X.env.globals)) = false := by rw [I.ok.kind]; rfl
 refine wpAny_nameGoes_keeps hl hn hcls fun h' v hn' hs => h h' ?_
 obtain ⟨oL, _, _, hoL, _⟩ := id hn
 have cne := I.cne
 have neL : ∀ b o, X.s₀.heap.get? b = some o → b ≠ X.env.locals := fun b o e => Nat.ne_of_lt (Nat.lt_of_lt_of_le (Heap.lt_size e) I.ok.above)
 refine ⟨I.ok, I.os, I.bare, ⟨fun b o e k hb hx => (hs.2 b (neL b o e)).trans (I.base.keep b o e k hb hx), fun b o e k hb hx => ?_, I.base.free, fun b o e hx => ?_, I.base.tups, I.base.frzs, I.base.tbls⟩, ⟨_, hn', fun j y v' e1 e2 e3 => ?_⟩, fun y c e => ?_, I.free, I.freeC, fun p hp => ?_, ?_, by simpa using I.len⟩
 ·obtain ⟨sl, e1⟩ := I.base.slot b o e k hb hx
  exact ⟨sl, (hs.2 b (neL b o e)).trans e1⟩
 ·obtain ⟨o', e1⟩ := I.base.there b o e hx
  exact ⟨o', (hs.2 b (neL b o e)).trans e1⟩
 ·by_cases hj : j = i
  ·subst hj
   by_cases hlt : j < σ.length
   ·rw [List.getElem?_set_self hlt] at e2; cases e2
   ·rw [List.getElem?_eq_none (by rw [List.length_set]; omega)] at e2; cases e2
  ·rw [List.getElem?_set_ne (Ne.symm hj)] at e2
   obtain ⟨u', r', q⟩ := hlo j y v' e1 e2 e3
   refine ⟨u', r', ?_⟩
   rcases q with ⟨k, e⟩ | ⟨k, c, e, z⟩
   ·refine .inl ⟨k, ?_⟩
    have : y ≠ n := fun e => hj (nodup_ix hN e1 (e ▸ hi))
    simp [this, e]
   ·exact .inr ⟨k, c, e, z.sameBut hs (cne y c e)⟩
 ·obtain ⟨w', z⟩ := I.cell y c e
  exact ⟨w', z.sameBut hs (cne y c e)⟩
 ·obtain ⟨e, n', ne, nf, d⟩ := I.pin p hp
  exact ⟨(hs.2 p.1 ne).trans e, n', ne, nf, d⟩
 ·intro b ob e
  refine (I.hok b ob e).stay (fun c w' hc q => (hs.2 c ?_).trans q) (fun _ q => q) fun _ _ q => q
  rintro rfl
  rcases hc with rfl | hc
  ·rw [I.free] at e; cases e
  ·rw [I.free] at hc; cases hc
end
theorem pass0e {X : Cx} {P : Program} {w : World} : Passes (CXe P w) X E0 := fun _ _ _ _ _ _ _ h => by
 obtain ⟨_, _, _, _, _, _, _, _, _, _, _, _, _, _, _, _, hE⟩ := h
 exact hE.elim
section
variable {P : Program} {w : World} {K : W.Frag} {mg : Str → Option Value} {base : Heap}
theorem Fun.okE {x qual : Str} {st : Stmt} {f : Addr} {fd : FuncData} {N ps : List Str} {k : Nat} {sp : Sp} (F : Fun K x qual st f fd) (S : FnScope N ps (defScope st)) (len : ∀ vs H Q E, sp vs H Q E → vs.length = ps.length)
  (hbody : ∀ (cdv : Value) (A : Around) (outer : List Env) (s : Shared) (H : Hp) (vs : List V) (Q : VK) (E : XK), Room k (A.deeper (envOfC qual (defScope st) s.heap.objs.size f cdv)) → sp vs H Q E →
   ∃ t, PSs (cxOf (CXe P w) P w K mg base N qual (defScope st) f cdv A outer s H E) (defBody st) t ∧ t { nx := fun _ H' => Q .non H', rt := Q } (start N vs) H) : FnOk P w K mg base (CXe P w) (k + 1) f fd ps sp := by
 obtain ⟨oc, od, kV, doc, pm, an, cdv, ct, osl, rfl, lk, hcd⟩ := F.ex
 exact fn_of lk hcd S len fun A outer s H vs Q E hr hsp => hbody cdv A outer s H vs Q E hr hsp
structure FunD (K : W.Frag) (x qual : Str) (st : Stmt) (dT : Addr) (f : Addr) (fd : FuncData) : Prop where
 ex : ∃ (oc : Value) (od : Option Addr) (kV doc pm : Value) (an : Option Addr) (cdv ct : Value) (osl : Array (Option Value)),
  fd = W.fnOf x qual (defArgs st) (defBody st) (defScope st) (.ref dT) kV doc pm an cdv ct ∧ K.lookup f = some ⟨oc, od, .func fd, osl⟩ ∧ W.codeIn K cdv qual = true
 kp : W.keepIn K (.ref f) = true
theorem FunD.okE {x qual : Str} {st : Stmt} {dT f : Addr} {fd : FuncData} {N ps : List Str} {k : Nat} {sp : Sp} (F : FunD K x qual st dT f fd) (S : FnScope N ps (defScope st)) (len : ∀ vs H Q E, sp vs H Q E → vs.length = ps.length)
  (hbody : ∀ (cdv : Value) (A : Around) (outer : List Env) (s : Shared) (H : Hp) (vs : List V) (Q : VK) (E : XK), Room k (A.deeper (envOfC qual (defScope st) s.heap.objs.size f cdv)) → sp vs H Q E →
   ∃ t, PSs (cxOf (CXe P w) P w K mg base N qual (defScope st) f cdv A outer s H E) (defBody st) t ∧ t { nx := fun _ H' => Q .non H', rt := Q } (start N vs) H) : FnOk P w K mg base (CXe P w) (k + 1) f fd ps sp := by
 obtain ⟨oc, od, kV, doc, pm, an, cdv, ct, osl, rfl, lk, hcd⟩ := F.ex
 exact fn_of lk hcd S len fun A outer s H vs Q E hr hsp => hbody cdv A outer s H vs Q E hr hsp
theorem FunD.binds {x qual : Str} {st : Stmt} {dT f : Addr} {fd : FuncData} {ps : List Str} {ds : List Value} {items : List Value} {o : Obj} {nn : Nat} (F : FunD K x qual st dT f fd) (ho : K.lookup dT = some o) (hs : o.data = .seq items.toArray nn)
  (h : ∀ (kV doc pm : Value) (an : Option Addr) (cdv ct : Value) (us : List Value), (us ++ ds).length = ps.length → ∃ k : Option (Array Value) → Sem (List (Str × Value)),
   bindArgs (W.fnOf x qual (defArgs st) (defBody st) (defScope st) (.ref dT) kV doc pm an cdv ct) ⟨us, []⟩ = seqItems? (.ref dT) >>= k ∧ k (some items.toArray) = pure (ps.zip (us ++ ds))) : Binds K fd ps ds := by
 obtain ⟨oc, od, kV, doc, pm, an, cdv, ct, osl, rfl, lk, hcd⟩ := F.ex
 intro s us KX hl
 obtain ⟨k, h1, h2⟩ := h kV doc pm an cdv ct us hl
 exact W.binds_K KX rfl ho hs h1 h2
end
structure RoomW (k : Nat) (A : Around) : Prop where
 dp : A.depth + 3 * k + 5 < recursionLimit
 un : A.units + 16 * k + 200 < cLine
theorem Room.w {k : Nat} {A : Around} (r : Room k A) (h : Option Value) : RoomW k (A.mark h) := ⟨r.dp, r.un⟩
theorem RoomW.deeper {k : Nat} {A : Around} (r : RoomW (k + 1) A) (env : Env) : RoomW k (A.deeper env) :=
 ⟨by have := r.dp; show A.depth + 1 + 3 * k + 5 < _; omega, by have := r.un; show A.units + 3 + 16 * k + 200 < _; omega⟩
def clsV : V → Option Value
 | .ty n => some (.type n)
 | .ref a => some (.ref a)
 | _ => none
theorem clsV_of {y : V} {c u : Value} (e : clsV y = some c) (r : RelV y u) : u = c := by
 cases y with
 | ty n => cases e; exact r
 | ref a => cases e; exact r
 | _ => cases e
inductive TyX (K : W.Frag) (H : Hp) : V → Value → Prop where
 | of {x : V} {t : Value} (h : TyOf K H x t) : TyX K H x t
 | exc {a C : Addr} {cx : Option Addr} (h : H a = some (ExcO a (.ref C) cx)) (T : W.ExcT K C) : TyX K H (.ref a) (.ref C)
section
variable {X : Cx} {pins : List (Addr × Obj)} {σ : St} {H : Hp} {s : Shared} {A : Around} {E : Value → Shared → Prop} {Q : Value → Shared → Prop}
theorem TyX.kit {x : V} {u t : Value} (I : Inv X pins σ H s) (rx : RelV x u) (ty : TyX X.K H x t) : ∃ Φ : Heap → Prop, W.KitX X.K u t Φ ∧ Φ s.heap ∧ u ≠ .builtin "__main__.__loader__#opaque" := by
 cases ty with
 | @exc a C cx h T =>
  cases (show u = Value.ref a from rx)
  obtain ⟨⟨o, vs, h1, h2, h3, _⟩, _⟩ := (show ObjOk X.prog X.w H s.heap a (ExcO a (.ref C) cx) from I.hok a _ h)
  exact ⟨_, W.kitx_exc T, ⟨o, vs, h1, h2, h3⟩, fun z => nomatch z⟩
 | of h =>
 cases h with
 | non => cases (show u = Value.none from rx); exact ⟨_, W.kitx_none, True.intro, fun z => nomatch z⟩
 | bl y => cases (show u = Value.bool y from rx); exact ⟨_, W.kitx_bool, True.intro, fun z => nomatch z⟩
 | int i => obtain ⟨t, q⟩ := (show ∃ t, u = Value.int i t from rx); cases q; exact ⟨_, W.kitx_int, True.intro, fun z => nomatch z⟩
 | str y => obtain ⟨t, q⟩ := (show ∃ t, u = Value.str y t from rx); cases q; exact ⟨_, W.kitx_str, True.intro, fun z => nomatch z⟩
 | flt y => obtain ⟨t, q⟩ := (show ∃ t, u = Value.float y t from rx); cases q; exact ⟨_, W.kitx_float, True.intro, fun z => nomatch z⟩
 | @lst a xs ea =>
  cases (show u = Value.ref a from rx)
  obtain ⟨_, _, n, _, h1⟩ := (show ObjOk X.prog X.w H s.heap a (.lst xs) from I.hok a _ ea)
  exact ⟨_, W.kitx_list, ⟨_, h1, rfl⟩, fun z => nomatch z⟩
 | @frz a ob xs ea =>
  cases (show u = Value.ref a from rx)
  obtain ⟨_, _, _, n, _, h1⟩ := (show ObjOk X.prog X.w H s.heap a (.frz ob (.lst xs)) from I.hok a _ ea)
  exact ⟨_, W.kitx_list, ⟨_, h1, rfl⟩, fun z => nomatch z⟩
 | @tup a xs ea =>
  cases (show u = Value.ref a from rx)
  obtain ⟨_, _, _, p⟩ := (show ObjOk X.prog X.w H s.heap a (.tup xs) from I.hok a _ ea)
  obtain ⟨o, h1, h2, _⟩ := p
  exact ⟨_, W.kitx_tuple, ⟨o, h1, h2⟩, fun z => nomatch z⟩
 | @dK a kvs ea =>
  cases (show u = Value.ref a from rx)
  obtain ⟨_, _, vs, _, p⟩ := (show ObjOk X.prog X.w H s.heap a (.dK kvs) from I.hok a _ ea)
  obtain ⟨o, es, ep, h1, h2, _⟩ := p
  exact ⟨_, W.kitx_dict, ⟨o, h1, h2.1⟩, fun z => nomatch z⟩
 | @dT a kvs ea =>
  cases (show u = Value.ref a from rx)
  obtain ⟨_, _, xs, _, o, es, ep, h1, h2, _⟩ := (show ObjOk X.prog X.w H s.heap a (.dT kvs) from I.hok a _ ea)
  exact ⟨_, W.kitx_dict, ⟨o, h1, h2.1⟩, fun z => nomatch z⟩
 | @ins a C dx fs ea cl ha hn htk hm =>
  cases (show u = Value.ref a from rx)
  obtain ⟨mA, O, _⟩ := ins_get I.hok ea
  obtain ⟨od, J, _⟩ := O.look
  exact ⟨_, W.kitx_own (cl.get _) cl.hd ha hn htk hm, J, fun z => nomatch z⟩
def rIsi (K : W.Frag) : List V → Hp → VK → Prop := fun xs H Q => ∃ x y t c b, xs = [x, y] ∧ clsV y = some c ∧ TyX K H x t ∧ W.kitOne K t c = some b ∧ Q (.bl b) H
theorem call_isi : CallR X (.builtin "isinstance") (rIsi X.K) := by
 intro pins s σ H xs us Q I r h
 obtain ⟨x, y, t, c, b, rfl, e1, e2, e3, q⟩ := h
 obtain ⟨u, v, rfl, r1, r2⟩ := vals2 r
 obtain rfl := clsV_of e1 r2
 obtain ⟨Φ, Z, p, n⟩ := e2.kit I r1
 exact W.kia_one Z I.kIn p e3 n fun tk => ⟨.bl b, H, I.tok _, rfl, q⟩
end
def eqVs : List V → List V → Bool
 | [], [] => true
 | x :: xs, y :: ys => eqV x y && eqVs xs ys
 | _, _ => false
section
variable {X : Cx} {pins : List (Addr × Obj)} {σ : St} {H : Hp} {s : Shared}
theorem op_mulB : OpR X (binaryOp .Mult) (rI IntMulOk fun i j => .int (i * j)) := opI fun _ _ _ _ _ _ _ hc q => mul_int q hc
theorem op_fdivB : OpR X (binaryOp .FloorDiv) (rI (fun _ j => 0 < j ∧ j.natAbs.log2 < 9000) fun i j => .int (i / j)) := opI fun i j _ _ _ _ _ hc q => by
 have h0 : j ≠ 0 := by have := hc.1; omega
 refine floordiv_int h0 ?_ (.inl (PyProof.noPylong_of_log2 hc.2))
 rw [Int.fdiv_eq_ediv_of_nonneg _ (Int.le_of_lt hc.1)]
 exact q
end
open PySem.W PySem.Calls
theorem script_bits {ns : List Int} (h : WData.layableAll [WData.list (ns.map WData.int)] = true) : ∀ n ∈ ns, Builtin.Int.intBits n ≤ 2 ^ 20 := fun n hn => by
 have h1 : (WData.list (ns.map WData.int)).layable = true := layableW_arg h _ (List.mem_singleton.mpr rfl)
 have h2 := layableW_item h1 (WData.int n) (List.mem_map.mpr ⟨n, hn, rfl⟩)
 have h3 := (layableW_iff.mp h2).2.2
 simpa only [WData.weight, Builtin.Int.intBits] using h3
theorem walk_ofB {l : OpenLaw} {n k : Nat} {q : Program} {loose : List Str} {XP : (Str → Option Value) → Heap → Prop} {YP : World → Heap → Prop} {d : DefRec} {K : Params → Frag} {CX : World → CXT} {sp : World → Sp} {x : Str}
  (hn : l.most = some n) (hn2 : n ≤ sizeLine) (hdf : d.params.defaults = []) (hr : Room k callerA)
  (hY : ∀ (w : World) (h : Heap), YP w h → (K w.params).In h)
  (F : ∀ (w : World) (mg : Str → Option Value) (fa : Addr) (h : Heap), (K w.params).In h → h.Ns mainGlobals mg → mg d.name = some (.ref fa) →
   ∃ fd : FuncData, (∀ (s : Shared) (u : Value), BindsTo s fd ⟨[u], []⟩ [(x, u)]) ∧
    ∀ base : Heap, (K w.params).In base → base.Ns mainGlobals mg → FnOk l.prog w (K w.params) mg base (CX w) k fa fd [x] (sp w))
  (hsp : ∀ (w : World) (H : Hp) (a : Addr) (ns : List Int), ns.length ≤ n → (∀ m ∈ ns, Builtin.Int.intBits m ≤ 2 ^ 20) → Only H → SqL (K w.params) H a (ns.map V.int) → sp w [.ref a] H (fun v _ => v = .bl true) fun _ _ _ => False)
  (hCX : ∀ (w : World) (H : Hp) (s : Shared) (e : Value) (s' : Shared), CX w [] H s (fun _ _ _ => False) e s' → False) :
  WalkO q loose XP YP l.row.toRowW d [] (fun f vs => PySem.call f vs) := by
 intro w s₀ s₁ mg mb G Y fa o pm cd doc dV kV ho hd hcd hD hmg hg args vals as hpre hlay hrd hwl hlo
 obtain rfl : dV = .none := Dflts.none hD hdf
 obtain rfl : kV = .none := Dflts.noKw hD
 obtain ⟨a, vs, ns, rfl, rfl, hobj, hints, hlen⟩ := Att.script_of hn hpre hwl
 have KX := hY w _ Y
 obtain ⟨fd, hb, hF⟩ := F w mg fa _ KX G.T.g hmg
 refine enter_call (codeAny_mono (law_call KX G.T.g G.T.b G.T.builtins G.T.nolimit hg hobj hints (Nat.le_trans hlen hn2) hr hF hb (fun H hO hS => hsp w H a ns hlen (script_bits hlay) hO hS) fun H e s' => hCX w H s₁ e s') fun r s' hq => ?_)
 obtain ⟨rfl, h2, h3, h4⟩ := hq
 exact ⟨.inl ⟨.bool true, .bool true, [], rfl, fun _ => rfl, .bool true, Att.post_true l _, fun _ => ⟨List.Pairwise.nil, fun _ hm => (nomatch hm)⟩⟩, h2, h3, h4⟩
theorem noCXe {P : Program} {w : World} {outer : List Env} (H : Hp) (s : Shared) (e : Value) (s' : Shared) (h : CXe P w outer H s (fun _ _ _ => False) e s') : False := by
 obtain ⟨_, _, _, _, _, _, _, _, _, _, _, _, _, _, _, _, hE⟩ := h
 exact hE
structure Own (P : Program) (w : World) (K : W.Frag) (mg : Str → Option Value) (base : Heap) (k : Nat) (x : Str) (ps : List Str) (sp : Sp) : Prop where
 ex : ∃ f fd, FnOk P w K mg base (CXe P w) k f fd ps sp ∧ Binds K fd ps [] ∧ W.keepIn K (.ref f) = true ∧ mg x = some (.ref f)
section
variable {X : Cx} {k k' : Nat} {ps : List Str} {sp : Sp} {x : Str} {p pos : Pos} {e : Expr} {es : List Expr} {t : TA} {E : XK} {d : V}
theorem pe_own (G : Own X.prog X.w X.K X.mg X.base k x ps sp) (hr : Room k' X.A) (hk : k ≤ k') (hx : Passes (CXe X.prog X.w) X E) (ha : PA X (e :: es) t) (hg : Gl X x := by rfl)
  (hdb : (x == ("__debug__" : Str)) = false := by decide) (he : starEach (e :: es) X.env = (false, eval e X.env) :: starEach es X.env := by rfl) (hpl : (backTo pos (starEach es X.env)).any (·.1) = false := by rfl) :
  PE X (.Call (.Name x p) (e :: es) [] pos) (tCall sp [] E t) := by
 obtain ⟨f, fd, F, b, kp, m⟩ := G.ex
 exact pe_call F (hr.mono hk) hg m kp b .nil hx ha hdb he hpl
end
theorem bt_int : bootBuiltins "int" = some (.type "int") := by decide +kernel
theorem bt_bool : bootBuiltins "bool" = some (.type "bool") := by decide +kernel
theorem bt_list : bootBuiltins "list" = some (.type "list") := by decide +kernel
theorem bt_tuple : bootBuiltins "tuple" = some (.type "tuple") := by decide +kernel
theorem bt_ValueError : bootBuiltins "ValueError" = some (.type "ValueError") := by decide +kernel
theorem bt_isinstance : bootBuiltins "isinstance" = some (.builtin "isinstance") := by decide +kernel
theorem bt_len : bootBuiltins "len" = some (.builtin "len") := by decide +kernel
theorem same_new {H : Hp} {p : Addr} (h : H p = none) (o : HO) : Same H (upd H p o) := fun b u q => by rw [upd_ne (ne_of_none q h)]; exact q
def Scr (K : W.Frag) (H : Hp) (a : Addr) (xs : List V) : Prop := (∃ o, H a = some (.frz o (.lst xs))) ∨
  ∃ (o : Obj) (its : Array Value) (n : Nat), K.lookup a = some o ∧ o.cls = .type "list" ∧ o.dict = none ∧ o.data = .seq its n ∧ its.size ≤ sizeLine ∧ Vals xs its.toList
theorem Scr.seq {K : W.Frag} {H : Hp} {a : Addr} {xs : List V} (h : Scr K H a xs) : SqL K H a xs := h.elim (fun z => .inl (.inr z)) .inr
theorem Scr.of {K : W.Frag} {H : Hp} {a : Addr} {xs : List V} (h : SqL K H a xs) (o : Only H) : Scr K H a xs := by
 rcases h with (h | h) | h
 ·rcases o a with z | ⟨o, ys, z⟩
  ·rw [h] at z; cases z
  ·rw [h] at z; cases z
 ·exact .inl h
 ·exact .inr h
theorem Scr.same {K : W.Frag} {H H' : Hp} {a : Addr} {xs : List V} (g : Same H H') (h : Scr K H a xs) : Scr K H' a xs := h.elim (fun ⟨o, z⟩ => .inl ⟨o, g _ _ z⟩) .inr
theorem Scr.upd {K : W.Frag} {H : Hp} {a l : Addr} {xs ys : List V} {o : HO} (hl : H l = some (.lst ys)) (h : Scr K H a xs) : Scr K (L2.upd H l o) a xs := h.elim (fun ⟨ob, z⟩ => .inl ⟨ob, by rw [upd_ne (ne_of z hl (by intro q; cases q))]; exact z⟩) .inr
theorem small {n : Nat} (h : n ≤ 1000) : n ≤ sizeLine := Nat.le_of_lt (small1000 h)
section
variable {prog : Program} {w : World} {A : Around} {R : Result → Shared → Prop} {s : Shared}
theorem compLoop_go {elt target iter : Expr} {ifs : List Expr} {scope : Scope} {pos : Pos} {it acc : Value} {env : Env} {N : Value → Shared → Prop} (hN : N = notedBy (model prog w) A env fun e s' => R (.error e) s') (I : Nat → Shared → Prop)
  (turn : ∀ n s, I n s → wpAny (model prog w) A (pyNext it) (fun r s₁ => match r with
   | none => R (.ok .next) s₁
   | some v => wpAny (model prog w) A (letOwnedTupleGo target it v) (fun _ s₁' => wpAny (model prog w) A (assign target env v) (fun _ s₂ =>
     wpAny (model prog w) A (forIn ifs true fun c r => if r = true then do let ok ← isTrue c env (eval c env); pure (ForInStep.yield ok) else pure (ForInStep.yield r)) (fun ok s₃ =>
      if ok = true then wpAny (model prog w) A (eval elt env) (fun x s₄ =>
       wpAny (model prog w) A (call (.builtin "list.append") [acc, x]) (fun _ s₅ => ∃ m, m < n ∧ I m s₅) N s₄) N s₃
      else ∃ m, m < n ∧ I m s₃) N s₂) N s₁') N s₁) N s)
  (n : Nat) (h : I n s) :
  codeAny (model prog w) A (.compLoop (.ListComp elt [⟨target, iter, ifs, 0⟩] scope pos) 0 it acc env) R s := by
 subst hN
 refine codeAny_loop rfl I (fun k z q => ?_) n h
 show wpAny _ A ((compTurn (.ListComp elt [⟨target, iter, ifs, 0⟩] scope pos) 0 it acc env).onRaise (fun ex => do noteFrame ex env; theTreesLotGoes ex)) _ _ z
 refine wpAny_noted ?_
 rw [compTurn_list]
 refine wpAny_bind (wpAny_standAt (wpAny_bind (thn (turn k z q) fun r z1 q1 => ?_)))
 cases r with
 | none => exact wpAny_pure q1
 | some v =>
  refine wpAny_bind (thn q1 fun _ z2 q2 => ?_)
  refine wpAny_bind (thn q2 fun _ z3 q3 => ?_)
  refine wpAny_bind (thn q3 fun ok z4 q4 => ?_)
  cases ok with
  | false => exact wpAny_pure ⟨rfl, q4⟩
  | true => exact wpAny_bind (wpAny_bind (thn q4 fun x z5 q5 => wpAny_bind (thn q5 fun _ z6 q6 => wpAny_pure (wpAny_pure ⟨rfl, q6⟩))))
end
def capOf (cells : List (Str × Addr)) : List (Str × NameKind) → List (Str × Addr) → List (Str × Addr)
 | [], acc => acc
 | (n, k) :: r, acc => if k == .free then (match cells.lookup n with
   | some c => capOf cells r ((n, c) :: acc)
   | none => capOf cells r acc) else capOf cells r acc
theorem capOf_acc {cells : List (Str × Addr)} {x : Str} {c : Addr} : ∀ {names : List (Str × NameKind)} {acc : List (Str × Addr)}, (∀ d, acc.lookup x = some d → cells.lookup x = some d) → (capOf cells names acc).lookup x = some c → cells.lookup x = some c
 | [], acc, h, e => h c e
 | (n, k) :: r, acc, h, e => by
  unfold capOf at e
  split at e
  ·split at e
   ·rename_i c' hc'
    refine capOf_acc (fun d q => ?_) e
    rw [List.lookup_cons] at q
    split at q
    ·rename_i hx
     have hx' : x = n := by simpa using hx
     cases q
     rw [hx']; exact hc'
    ·exact h d q
   ·exact capOf_acc h e
  ·exact capOf_acc h e
theorem capOf_keeps {cells : List (Str × Addr)} {x : Str} : ∀ {names : List (Str × NameKind)} {acc : List (Str × Addr)}, (∃ d, acc.lookup x = some d) → ∃ d, (capOf cells names acc).lookup x = some d
 | [], acc, h => h
 | (n, k) :: r, acc, h => by
  unfold capOf
  split
  ·split
   ·refine capOf_keeps ?_
    rw [List.lookup_cons]
    split
    ·exact ⟨_, rfl⟩
    ·exact h
   ·exact capOf_keeps h
  ·exact capOf_keeps h
theorem capOf_has {cells : List (Str × Addr)} {x : Str} : ∀ {names : List (Str × NameKind)} {acc : List (Str × Addr)}, (x, NameKind.free) ∈ names → (∃ c, cells.lookup x = some c) → ∃ d, (capOf cells names acc).lookup x = some d
 | [], acc, h, _ => by simp at h
 | (n, k) :: r, acc, h, hc => by
  unfold capOf
  rcases List.mem_cons.mp h with e | h
  ·cases e
   obtain ⟨c, hc⟩ := hc
   rw [if_pos (by rfl), hc]
   exact capOf_keeps ⟨c, by simp [List.lookup_cons]⟩
  ·split
   ·split
    ·exact capOf_has h hc
    ·exact capOf_has h hc
   ·exact capOf_has h hc
theorem closure_go {env : Env} : ∀ (names : List (Str × NameKind)) (acc : List (Str × Addr)), (∀ y ∈ names, y.2 = .free → ∃ c, env.cells.lookup y.1 = some c) →
  (forIn names acc fun (x : Str × NameKind) (cs : List (Str × Addr)) => if (x.2 == NameKind.free) = true then do let a ← cellOf env x.1; pure (ForInStep.yield ((x.1, a) :: cs)) else pure (ForInStep.yield cs) : Sem (List (Str × Addr))) = pure (capOf env.cells names acc)
 | [], acc, _ => rfl
 | (n, k) :: r, acc, h => by
  rw [List.forIn_cons]
  unfold capOf
  by_cases hk : (k == NameKind.free) = true
  ·obtain ⟨c, hc⟩ := h (n, k) List.mem_cons_self (by simpa using hk)
   have e : cellOf env n = pure c := by unfold cellOf; rw [hc]
   rw [if_pos hk, if_pos hk, hc, e]
   exact closure_go r _ fun y hy => h y (List.mem_cons_of_mem _ hy)
  ·rw [if_neg hk, if_neg hk]
   exact closure_go r acc fun y hy => h y (List.mem_cons_of_mem _ hy)
theorem closure_cap {scope : Scope} {env : Env} (h : ∀ y ∈ scope.names, y.2 = .free → ∃ c, env.cells.lookup y.1 = some c) : closureFor scope env = pure (capOf env.cells scope.names []) := by
 have := closure_go (env := env) scope.names [] h
 unfold closureFor
 exact (congrArg (· >>= pure) this).trans (by first | rfl | simp)
theorem lookup_relabel {env : Env} : ∀ {names : List (Str × NameKind)} {x : Str} {k' : NameKind},
  (names.map fun (n, k) => if (k == NameKind.free && env.scope.kind == .function && env.kindOf n == some .cell) then (n, NameKind.cell) else (n, k)).lookup x = some k' →
  ∃ k, names.lookup x = some k ∧ (k' = k ∨ (k = .free ∧ k' = .cell))
 | [], _, _, h => by simp at h
 | (n, k) :: r, x, k', h => by
  rw [List.map_cons] at h
  dsimp only at h
  by_cases hc : (k == NameKind.free && env.scope.kind == .function && env.kindOf n == some .cell) = true
  ·rw [if_pos hc, List.lookup_cons] at h
   rw [List.lookup_cons]
   split at h
   ·rename_i hx
    cases h
    have hk : k = .free := by
     have := (Bool.and_eq_true _ _ ▸ (Bool.and_eq_true _ _ ▸ hc).1).1
     simpa using this
    exact ⟨k, rfl, .inr ⟨hk, rfl⟩⟩
   ·rename_i hx
    obtain ⟨k2, q1, q2⟩ := lookup_relabel h
    exact ⟨k2, q1, q2⟩
  ·rw [if_neg hc, List.lookup_cons] at h
   rw [List.lookup_cons]
   split at h
   ·rename_i hx
    cases h
    exact ⟨k, rfl, .inl rfl⟩
   ·rename_i hx
    obtain ⟨k2, q1, q2⟩ := lookup_relabel h
    exact ⟨k2, q1, q2⟩
theorem lookup_relabel_free {env : Env} : ∀ {names : List (Str × NameKind)} {x : Str}, names.lookup x = some .free →
  (names.map fun (n, k) => if (k == NameKind.free && env.scope.kind == .function && env.kindOf n == some .cell) then (n, NameKind.cell) else (n, k)).lookup x = some .cell ∨
  (names.map fun (n, k) => if (k == NameKind.free && env.scope.kind == .function && env.kindOf n == some .cell) then (n, NameKind.cell) else (n, k)).lookup x = some .free
 | [], _, h => by simp at h
 | (n, k) :: r, x, h => by
  rw [List.map_cons]
  dsimp only
  rw [List.lookup_cons] at h
  by_cases hc : (k == NameKind.free && env.scope.kind == .function && env.kindOf n == some .cell) = true
  ·rw [if_pos hc, List.lookup_cons]
   split at h
   ·rename_i hx
    left; rfl
   ·rename_i hx
    exact lookup_relabel_free (env := env) h
  ·rw [if_neg hc, List.lookup_cons]
   split at h
   ·rename_i hx
    right; exact h
   ·rename_i hx
    exact lookup_relabel_free (env := env) h
structure CompSc (Sc scope : Scope) (N Nc : List Str) (k : Nat) (js : List Nat) : Prop where
 cell : ∀ y ∈ scope.names, y.2 ≠ .cell
 kind : scope.kind = .function
 names : ∀ y ∈ scope.names, y.2 = .local → scope.names.lookup y.1 = some .local
 free : ∀ y ∈ scope.names, y.2 = .free → Sc.names.lookup y.1 = some .cell ∨ Sc.names.lookup y.1 = some .free
 nd : Nc.Nodup
 len : Nc.length = k + js.length
 cap : (Nc.drop k).map some = js.map fun j => N[j]?
 caps : ∀ x ∈ Nc.drop k, scope.names.lookup x = some .free
def compSt (k : Nat) (js : List Nat) (σ : St) : St := List.replicate k none ++ js.map fun j => (σ[j]?).getD none
theorem mem_free {names : List (Str × NameKind)} {x : Str} {k : NameKind} (h : names.lookup x = some k) : (x, k) ∈ names := PySem.mem_of_lookup h
abbrev compCx (X : Cx) (scope : Scope) (Nc : List Str) (C : Addr) (s3 : Shared) (H3 : Hp) (fp : List Addr) (xe : Value → Shared → Prop) : Cx :=
 { X with N := Nc, s₀ := s3, H₀ := H3, env := compEnvC scope (capOf X.env.cells scope.names []) C X.env, outer := X.stack, ex := fp, fn := fun _ => false, pn := [], xe := xe }
section
variable {X : Cx} {pins : List (Addr × Obj)} {σ : St} {H3 : Hp} {s3 : Shared} {scope : Scope} {Nc : List Str} {k : Nat} {js : List Nat} {fp : List Addr} {xe : Value → Shared → Prop} {h₁ : Heap} {m₀ : Str → Option Value} {tk : Nat}
theorem comp_cells (I : Inv X pins σ H3 s3) (S : CompSc X.env.scope scope X.N Nc k js) : ∀ y ∈ scope.names, y.2 = .free → ∃ c, X.env.cells.lookup y.1 = some c := fun y hy hk => I.ok.has y.1 (S.free y hy hk)
theorem comp_sub {x : Str} {c : Addr} (e : (capOf X.env.cells scope.names []).lookup x = some c) : X.env.cells.lookup x = some c := capOf_acc (fun d q => by simp at q) e
theorem comp_inv (I : Inv X pins σ H3 s3) (S : CompSc X.env.scope scope X.N Nc k js) (hf : ∀ b ∈ fp, FpOk X pins H3 b) (hfo : ∀ b ∈ fp, b < s3.heap.objs.size) (hns : h₁.Ns s3.heap.objs.size m₀) (old : ∀ b o, s3.heap.get? b = some o → h₁.get? b = some o) :
  Inv (compCx X scope Nc s3.heap.objs.size s3 H3 fp xe) [] (compSt k js σ) H3 { s3 with heap := h₁, toks := tk } := by
 have ok := I.ok
 have hb0 : ∀ b o, X.base.get? b = some o → b < X.s₀.heap.objs.size := fun b o e => Nat.lt_of_lt_of_le (Heap.lt_size e) ok.bsz
 refine ⟨⟨ok.mod, S.kind, ok.glob, ok.blt, Nat.le_refl _, fun x y c h1 h2 => ok.inj x y c (comp_sub h1) (comp_sub h2), fun x hx => ?_, (fun x c z => nomatch z), ok.hd, ok.frames, .inl rfl, fun b hb => ⟨Nat.ne_of_lt (hfo b hb), fun x c e => (hf b hb).2.2.2.2.1 x c (comp_sub e)⟩, I.bs, Nat.le_trans ok.bsz I.sz, fun b o e hb => ?_, fun b hb z => ?_, I.stack, I.stkFree⟩,
  rfl, I.bare, Un.kept old, ⟨m₀, hns, fun i x v e1 e2 e3 => ?_⟩, fun x c e => ?_, I.hok.fresh (Nat.le_refl _), fun x c e => I.freeC x c (comp_sub e), fun p hp => absurd (show p ∈ ([] : List (Addr × Obj)) from hp) (by simp), I.hok.kept old, ?_⟩
 ·have hx : (relabel scope X.env).names.lookup x = some .cell ∨ (relabel scope X.env).names.lookup x = some .free := hx
  have hfree : scope.names.lookup x = some .free := by
   rcases hx with hx | hx
   ·obtain ⟨k2, q1, q2⟩ := lookup_relabel (env := X.env) hx
    rcases q2 with q2 | ⟨q2, _⟩
    ·subst q2; exact absurd rfl (S.cell _ (mem_free q1))
    ·rw [q2] at q1; exact q1
   ·obtain ⟨k2, q1, q2⟩ := lookup_relabel (env := X.env) hx
    rcases q2 with q2 | ⟨q2, q3⟩
    ·subst q2; exact q1
    ·cases q3
  exact capOf_has (mem_free hfree) (ok.has x (S.free _ (mem_free hfree) rfl))
 ·rcases (hf b hb).2.2.2.1 with z | z
  ·exact ok.noex b o e z
  ·exact absurd (Nat.lt_of_lt_of_le (hb0 b o e) z) (Nat.lt_irrefl _)
 ·rcases List.mem_cons.mp (I.stkSub b z) with q | q
  ·exact (hf b hb).2.1 q
  ·exact (hf b hb).2.2.1 q
 ·have hlen : (List.replicate k (none : Option V)).length = k := List.length_replicate
  by_cases hi : i < k
  ·unfold compSt at e2
   rw [List.getElem?_append_left (by omega), List.getElem?_replicate] at e2
   split at e2 <;> cases e2
  ·unfold compSt at e2
   rw [List.getElem?_append_right (by omega), hlen, List.getElem?_map] at e2
   cases hj : js[i - k]? with
   | none => rw [hj] at e2; cases e2
   | some j =>
    rw [hj] at e2
    have e2' : (σ[j]?).getD none = some v := Option.some.inj e2
    have hσ : σ[j]? = some (some v) := by
     cases q : σ[j]? with
     | none => rw [q] at e2'; cases e2'
     | some y => rw [q] at e2'; simp at e2'; rw [e2']
    have hx : (Nc.drop k)[i - k]? = some x := by rw [List.getElem?_drop]; rw [show k + (i - k) = i by omega]; exact e1
    have hNj : X.N[j]? = some x := by
     have := congrArg (fun l => l[i - k]?) S.cap
     simp only [List.getElem?_map, hx, hj, Option.map_some] at this
     exact (Option.some.inj this).symm
    have hfr : scope.names.lookup x = some .free := S.caps x (List.mem_of_getElem? hx)
    have hk := S.free _ (mem_free hfr) rfl
    obtain ⟨m, hn, hl⟩ := I.loc
    obtain ⟨u, r, l⟩ := hl j x v hNj hσ (.inr hk)
    refine ⟨u, r, .inr ⟨lookup_relabel_free hfr, ?_⟩⟩
    rcases l with ⟨l1, _⟩ | ⟨_, c, hc, hcell⟩
    ·have l1 : X.env.scope.names.lookup x = some .local := l1
     rcases hk with hk | hk
     ·rw [l1] at hk; cases hk
     ·rw [l1] at hk; cases hk
    ·obtain ⟨d, hd⟩ := capOf_has (cells := X.env.cells) (acc := []) (mem_free hfr) ⟨c, hc⟩
     have := comp_sub hd
     rw [hc] at this; cases this
     obtain ⟨o, ho, hdd⟩ := hcell
     exact ⟨c, hd, ⟨o, old _ _ ho, hdd⟩⟩
 ·obtain ⟨v, o, ho, hd⟩ := I.cell x c (comp_sub e)
  exact ⟨v, o, old _ _ ho, hd⟩
 ·unfold compSt
  rw [List.length_append, List.length_replicate, List.length_map]
  exact S.len.symm
end
def PF (X : Cx) (ifs : List Expr) (t : TT) : Prop :=
 ∀ (pins : List (Addr × Obj)) (s : Shared) (σ : St) (H : Hp) (Q : Bool → Hp → Prop), Inv X pins σ H s → t σ H Q →
  wpAny (model X.prog X.w) X.A (forIn ifs true fun c r => if r = true then do let ok ← isTrue c X.env (eval c X.env); pure (ForInStep.yield ok) else pure (ForInStep.yield r)) (TP X pins σ Q) X.xe s
def tTrue : TT := fun _ H Q => Q true H
theorem pf_nil {X : Cx} : PF X [] tTrue := fun pins s σ H Q I h => wpAny_tests_nil ⟨H, I, h⟩
def tCompR (J : It) (g : TG) (tf : TT) (te : TE) (k : Nat) (σ0 : St) (D : Addr) (Fin : Hp → Prop) (H1 : Hp) : Prop :=
 ∃ W : Nat → Nat → List V → Hp → Prop, (∃ m, W 0 m [] (upd H1 D (.lst []))) ∧ ∀ i m ys H, W i m ys H →
  (J.stop i H ∧ Fin H) ∨ (J.go i H ∧ ∃ N : List V → Hp → Prop, (∀ ys' H', N ys' H' → ∃ m', m' < m ∧ W (i + 1) m' ys' H') ∧ ∀ x H', J.yld i H x H' → g x σ0 H' fun σ2 H2 => (σ2.drop k = σ0.drop k ∧ σ2.length = σ0.length) ∧ tf σ2 H2 fun b H3 =>
   if b = true then te σ2 H3 fun y H4 => H4 D = some (.lst ys) ∧ ys.length < sizeLine ∧ N (ys ++ [y]) (upd H4 D (.lst (ys ++ [y]))) else N ys H3)
section
variable {X : Cx} {pins : List (Addr × Obj)} {σ : St} {H : Hp} {s : Shared} {elt tg iter : Expr} {ifs : List Expr} {scope : Scope} {pos : Pos} {Nc : List Str} {k : Nat} {js : List Nat} {g : TG} {tf : TT} {te : TE}
theorem comp_block {J : It} {fp : List Addr} {it : Addr} {tn : Nat → Heap → Prop} {E : Value → Shared → Prop} {RR : Value → Addr → Result → Shared → Prop} {Fin : Addr → Hp → Prop} (hc : X.calm = true) (S : CompSc X.env.scope scope X.N Nc k js)
  (hg : ∀ C s3 H3 fp xe, PG (compCx X scope Nc C s3 H3 fp xe) tg g) (hf : ∀ C s3 H3 fp xe, PF (compCx X scope Nc C s3 H3 fp xe) ifs tf)
  (he : ∀ C D H3, ∃ xe : Value → Shared → Prop, (∀ e s', xe e s' → notedBy (model X.prog X.w) X.A (compEnvC scope (capOf X.env.cells scope.names []) C X.env) (fun e s' => RR (.ref D) C (.error e) s') e s') ∧
   ∀ s3, Inv X pins σ H3 s3 → C = s3.heap.objs.size → (∀ b ∈ fp, FpOk X pins H3 b) → PE (compCx X scope Nc C s3 H3 fp xe) elt te)
  (I2 : Inv X pins σ H s) (T : Turn X.prog X.w X.K tg J fp it tn) (st2 : tn 0 s.heap) (f2 : ∀ b ∈ fp, FpOk X pins H b) (hR : ∀ D, H D = none → tCompR J g tf te k (compSt k js σ) D (Fin D) H)
  (hRR : ∀ D C H' s' m', Inv X pins σ H' s' → s'.heap.Ns C m' → H' C = none → C ≠ X.env.locals → X.s₀.heap.objs.size ≤ C → (∀ x c, X.env.cells.lookup x = some c → c ≠ C) → (∀ p ∈ X.pn ++ pins, p.1 ≠ C) → Fin D H' → RR (.ref D) C (.ok .next) s') :
  wpAny (model X.prog X.w) X.A (newList []) (fun acc s₃ => wpAny (model X.prog X.w) X.A (newFunctionEnv scope X.env.globals (capOf X.env.cells scope.names []) [] X.env.qual none .none (some X.env)) (fun cenv s₄ =>
   codeAny (model X.prog X.w) X.A (.compStart (.ListComp elt [⟨tg, iter, ifs, 0⟩] scope pos) 0 (.ref it) acc { cenv with scope := relabel scope X.env }) (RR acc cenv.locals) s₄) E s₃) E s := by
 refine wpAny_newObj_type (wpAny_newFunctionEnv S.cell (by intro y hy; simp at hy) (fun h₁ hns₁ hsb₁ => ?_) S.kind)
 dsimp only at hns₁ hsb₁ ⊢
 have I3 : Inv X pins σ (upd H s.heap.objs.size (.lst [])) { s with heap := s.heap.push { cls := .type "list", data := .seq ([] : List Value).toArray }, toks := s.toks } := I2.lnew (its := []) .nil (Nat.zero_le _)
 have hDn : H s.heap.objs.size = none := I2.fresh
 obtain ⟨W, ⟨m0, w0⟩, turn⟩ := hR _ hDn
 generalize hs3 : ({ s with heap := s.heap.push { cls := .type "list", data := .seq ([] : List Value).toArray }, toks := s.toks } : Shared) = s3 at I3
 have e3 : s3.heap = s.heap.push { cls := .type "list", dict := none, data := .seq ([] : List Value).toArray } := by rw [← hs3]
 rw [← e3] at hns₁ hsb₁ ⊢
 have fpo : ∀ b ∈ fp, b < s.heap.objs.size := fun b hb => by obtain ⟨o, e, _⟩ := T.obj _ _ st2 b hb; exact Heap.lt_size e
 have sz3 : s3.heap.objs.size = s.heap.objs.size + 1 := by rw [e3, Heap.size_push]
 have fpo3 : ∀ b ∈ fp, b < s3.heap.objs.size := fun b hb => by rw [sz3]; exact Nat.lt_succ_of_lt (fpo b hb)
 have f3 : ∀ b ∈ fp, FpOk X pins (upd H s.heap.objs.size (.lst [])) b := fun b hb => ⟨by rw [upd_ne (Nat.ne_of_lt (fpo b hb))]; exact (f2 b hb).1, (f2 b hb).2⟩
 have old : ∀ b o, s3.heap.get? b = some o → h₁.get? b = some o := fun b o e => hsb₁.extBut b o (Nat.ne_of_lt (Heap.lt_size e)) (Heap.get?_push_of_some _ e)
 have oldS : ∀ b o, s.heap.get? b = some o → h₁.get? b = some o := fun b o e => old b o (by rw [e3]; exact Heap.get?_push_of_some _ e)
 obtain ⟨xe, hxe, hel⟩ := he s3.heap.objs.size s.heap.objs.size (upd H s.heap.objs.size (.lst []))
 have hel := hel s3 I3 rfl f3
 have I4 : Inv (compCx X scope Nc s3.heap.objs.size s3 (upd H s.heap.objs.size (.lst [])) fp xe) [] (compSt k js σ) (upd H s.heap.objs.size (.lst [])) { s3 with heap := h₁, toks := s.toks + ([] : List (Str × Value)).length } :=
  comp_inv I3 S f3 fpo3 hns₁ old
 have st4 : tn 0 h₁ := T.keep _ _ _ st2 fun b hb o e => oldS b o e
 have es3 : ({ s3 with heap := h₁, toks := s.toks + ([] : List (Str × Value)).length } : Shared) = { s with heap := h₁, toks := s.toks + ([] : List (Str × Value)).length } := by rw [← hs3]
 rw [es3] at I4
 have ok := I2.ok
 have lk := I3.lt
 have hCL : s3.heap.objs.size ≠ X.env.locals := Nat.ne_of_gt lk
 have stat : ∀ {H' : Hp}, (∀ b ∈ fp, H' b = none) → ∀ b ∈ fp, FpOk (compCx X scope Nc s3.heap.objs.size s3 (upd H s.heap.objs.size (.lst [])) fp xe) [] H' b := fun hn b hb =>
  ⟨hn b hb, Nat.ne_of_lt (fpo3 b hb), fun z => (List.mem_cons.mp (I3.stkSub b z)).elim (fun q => (f3 b hb).2.1 q) fun q => (f3 b hb).2.2.1 q, .inl hb, fun x c e => (f3 b hb).2.2.2.2.1 x c (comp_sub e), fun p hp => absurd (show p ∈ ([] : List (Addr × Obj)) from hp) (by simp)⟩
 have loop : codeAny (model X.prog X.w) X.A (.compLoop (.ListComp elt [⟨tg, iter, ifs, 0⟩] scope pos) 0 (.ref it) (.ref s.heap.objs.size) (compEnvC scope (capOf X.env.cells scope.names []) s3.heap.objs.size X.env))
    (RR (.ref s.heap.objs.size) s3.heap.objs.size) { s with heap := h₁, toks := s.toks + ([] : List (Str × Value)).length } := by
  refine compLoop_go rfl (fun n s' => ∃ i ys H', Inv (compCx X scope Nc s3.heap.objs.size s3 (upd H s.heap.objs.size (.lst [])) fp xe) [] (compSt k js σ) H' s' ∧ tn i s'.heap ∧ (∀ b ∈ fp, H' b = none) ∧ W i n ys H') ?_ m0 ⟨0, [], _, I4, st4, fun b hb => (f3 b hb).1, w0⟩
  rintro n s5 ⟨i, ys, H5, I5, st5, fr5, w5⟩
  rcases turn i n ys H5 w5 with ⟨stop, fin⟩ | ⟨go, Nx, hNx, step⟩
  ·refine thn (T.done (compCx X scope Nc s3.heap.objs.size s3 (upd H s.heap.objs.size (.lst [])) fp xe) rfl rfl rfl hc i [] s5 (compSt k js σ) H5 _ I5 (stat fr5) st5 stop) fun r s6 ⟨hr, I6⟩ => ?_
   subst hr
   obtain ⟨m6, hn6, _⟩ := I6.loc
   have J : Inv X pins σ H5 s6 := I3.call' (ch := fp) (I6.os.trans rfl) I6.base I6.hok I6.bare fun b hb => ⟨(f3 b hb).2.2.2.1, (f3 b hb).2.1, (f3 b hb).2.2.2.2.1, (f3 b hb).2.2.2.2.2⟩
   refine hRR _ _ H5 s6 m6 J hn6 I6.free hCL (I3.sz) (fun x c e z => ?_) (fun p hp z => ?_) fin
   ·obtain ⟨v, q⟩ := I3.cell x c e
    exact absurd q.lt (by rw [z]; exact Nat.lt_irrefl _)
   ·exact absurd (Heap.lt_size (I3.pin p hp).1) (by rw [z]; exact Nat.lt_irrefl _)
  ·refine thn (T.item (compCx X scope Nc s3.heap.objs.size s3 (upd H s.heap.objs.size (.lst [])) fp xe) rfl rfl rfl hc i [] s5 (compSt k js σ) H5 _ I5 (stat fr5) st5 go) fun r s6 ⟨u, hr, h6⟩ => ?_
   subst hr
   refine thn h6 fun _ s7 ⟨x, H7, I7, r7, y7, st7, fr7⟩ => ?_
   have I7' := I7.pinned (stat fr7) (T.obj _ _ st7)
   refine wpAny_mono (hg _ _ _ _ _ _ s7 _ H7 x u _ I7' r7 (step x H7 y7)) (fun _ s8 ⟨σ8, H8, I8, ⟨d8, l8⟩, q8⟩ => ?_) fun e s' z => hxe e s' z
   refine wpAny_mono (hf _ _ _ _ _ _ s8 σ8 H8 _ I8 q8) (fun b s9 ⟨H9, I9, q9⟩ => ?_) fun e s' z => hxe e s' z
   have again : ∀ {H' : Hp} {s' : Shared} {ys' : List V}, Inv (compCx X scope Nc s3.heap.objs.size s3 (upd H s.heap.objs.size (.lst [])) fp xe) ([] ++ pinsAt fp s7.heap) σ8 H' s' → Nx ys' H' →
     ∃ m, m < n ∧ ∃ i ys H', Inv (compCx X scope Nc s3.heap.objs.size s3 (upd H s.heap.objs.size (.lst [])) fp xe) [] (compSt k js σ) H' s' ∧ tn i s'.heap ∧ (∀ b ∈ fp, H' b = none) ∧ W i m ys H' := fun {H' s' ys'} I' hw => by
    obtain ⟨m', hm, w'⟩ := hNx _ _ hw
    refine ⟨m', hm, i + 1, ys', H', (I'.unpinned).weak l8.symm fun j v e => ?_, T.keep _ _ _ st7 fun b hb o e => (I'.pin (b, o) (List.mem_append_right _ (List.mem_append_right _ (mem_pinsAt hb e)))).1, fun b hb => ?_, w'⟩
    ·by_cases hj : j < k
     ·unfold compSt at e
      rw [List.getElem?_append_left (by rw [List.length_replicate]; exact hj), List.getElem?_replicate] at e
      split at e <;> cases e
     ·have e' : ((compSt k js σ).drop k)[j - k]? = some (some v) := by rw [List.getElem?_drop, show k + (j - k) = j by omega]; exact e
      rw [← d8, List.getElem?_drop, show k + (j - k) = j by omega] at e'
      exact e'
    ·obtain ⟨o, e, d⟩ := T.obj _ _ st7 b hb
     exact (I'.pin (b, o) (List.mem_append_right _ (List.mem_append_right _ (mem_pinsAt hb e)))).2.1
   cases b with
   | false =>
    rw [if_neg Bool.false_ne_true] at q9 ⊢
    exact again I9 q9
   | true =>
    rw [if_pos rfl] at q9 ⊢
    refine wpAny_mono (hel _ s9 σ8 H9 _ I9 q9) (fun v s10 ⟨y, H10, I10, r10, hD, hz, w'⟩ => ?_) fun e s' z => hxe e s' z
    refine wpAny_mono (mt_append (X := compCx X scope Nc s3.heap.objs.size s3 (upd H s.heap.objs.size (.lst [])) fp xe) _ s10 σ8 H10 (.ref s.heap.objs.size) [y] (.ref s.heap.objs.size) [v] (fun _ H' => H' = upd H10 s.heap.objs.size (.lst (ys ++ [y]))) I10 rfl (.cons r10 .nil)
     ⟨_, ys, y, rfl, rfl, hD, hz, rfl⟩) (fun _ s11 ⟨_, H11, I11, _, q11⟩ => ?_) fun e s' z => hxe e s' z
    subst q11
    exact again I11 w'
 exact codeAny_compStart_list loop (T.self _ 0 _ _ _ st4 loop)
end
def tComp (wi : TI) (g : TG) (tf : TT) (te : TE) (k : Nat) (js : List Nat) : TE := fun σ H Q => wi σ H fun J H1 => ∀ D, H1 D = none → tCompR J g tf te k (compSt k js σ) D (fun H' => Q (.ref D) H') H1
def tCompSet (i : Nat) (wi : TI) (g : TG) (tf : TT) (te : TE) (k : Nat) (js : List Nat) : TS := fun N σ H => wi σ H fun J H1 => ∀ D, H1 D = none → tCompR J g tf te k (compSt k js σ) D (fun H' => N.nx (σ.set i (some (.ref D))) H') H1
section
variable {X : Cx} {elt tg iter : Expr} {ifs : List Expr} {scope : Scope} {pos : Pos} {Nc : List Str} {k : Nat} {js : List Nat} {wi : TI} {g : TG} {tf : TT} {te : TE}
theorem ps_compSet {i : Nat} {y : Str} {py spos : Pos} (hc : X.calm = true) (S : CompSc X.env.scope scope X.N Nc k js) (hN : X.N.Nodup) (hy : X.N[i]? = some y) (hi : PI X tg iter wi) (hg : ∀ C s3 H3 fp xe, PG (compCx X scope Nc C s3 H3 fp xe) tg g) (hf : ∀ C s3 H3 fp xe, PF (compCx X scope Nc C s3 H3 fp xe) ifs tf)
  (he : ∀ C s3 H3 fp xe, PE (compCx X scope Nc C s3 H3 fp xe) elt te) (hl : X.env.scope.names.lookup y = some .local := by rfl) (hs : ∀ x, foldedSetIterable iter X.env x = pure x := by intro _; rfl)
  (hsw : swapsWith (.ListComp elt [⟨tg, iter, ifs, 0⟩] scope pos) (some (.Name y py)) spos.line X.env = pure true := by rfl) : PS X (.Assign [.Name y py] (.ListComp elt [⟨tg, iter, ifs, 0⟩] scope pos) spos) (tCompSet i wi g tf te k js) := by
 intro pins s σ H N I h
 rw [exec_Assign_Name_used _ _ _ _ hsw]
 refine wpAny_bind (wpAny_standAt (wpAny_bind ?_))
 show wpAny _ X.A (do let _ ← comprehension (.ListComp elt [⟨tg, iter, ifs, 0⟩] scope pos) scope X.env _ (newList []) false (eval iter X.env) (some (assign (.Name y py) X.env))) _ _ s
 refine wpAny_bind (thn (wpAny_comprehension_free (use := some (assign (.Name y py) X.env)) (Q := fun _ z => SP X pins N .next z) rfl hs (closure_cap (comp_cells I S)) S.kind S.names
  (thn (hi pins s σ H _ I h) fun v s1 h1 => thn h1 fun itv s2 h2 => ?_)) fun _ z hq => wpAny_pure (wpAny_pure hq))
 obtain ⟨it, fp, tn, J, H2, rfl, I2, T, st2, f2, hR⟩ := h2
 refine comp_block (RR := fun acc C => compPost (model X.prog X.w) X.A X.xe (some (assign (.Name y py) X.env)) (fun _ z => SP X pins N .next z) acc C) (Fin := fun D H' => N.nx (σ.set i (some (.ref D))) H') hc S hg hf
  (fun C D H3 => ⟨fun _ _ => False, fun _ _ z => z.elim, fun s3 _ _ _ => he _ _ _ _ _⟩) I2 T st2 f2 hR ?_
 intro D C H' s' m' I' hn hC hCL hsz hcl hpn q
 show wpAny _ X.A (assign (.Name y py) X.env (.ref D)) _ _ s'
 refine wpAny_assign_Name (store_ok2 (v := .ref D) I' hN hy (.inl hl) rfl (fun s'' I'' ⟨a, hsb, ha⟩ => ?_) (.inr hl))
 have hCa : C ≠ a := by
  rcases ha with ha | ha
  ·rw [ha]; exact hCL
  ·exact fun z => hcl y a ha z.symm
 exact ⟨m', hn.sameBut hsb hCa, fun h' hs' => ⟨_, H', I''.turned (t' := s''.toks) (fun b o hb e => (hs'.2 b hb).trans e) hC hCL (.inr hsz) hcl hpn, q⟩⟩
end
theorem comp_range {lo : Int} {n : Nat} {g : TG} {tf : TT} {te : TE} {k : Nat} {σ0 : St} {D : Addr} {Fin : Hp → Prop} {H1 : Hp} (Pv : Nat → List V → Hp → Prop) (h0 : Pv 0 [] (upd H1 D (.lst [])))
  (hs : ∀ i ys H, i < n → Pv i ys H → g (.int (lo + i)) σ0 H fun σ2 H2 => (σ2.drop k = σ0.drop k ∧ σ2.length = σ0.length) ∧ tf σ2 H2 fun b H3 =>
   if b = true then te σ2 H3 fun y H4 => H4 D = some (.lst ys) ∧ ys.length < sizeLine ∧ Pv (i + 1) (ys ++ [y]) (upd H4 D (.lst (ys ++ [y]))) else Pv (i + 1) ys H3)
  (hd : ∀ ys H, Pv n ys H → Fin H) : tCompR (Itr lo n) g tf te k σ0 D Fin H1 := by
 refine ⟨fun i m ys H => m = n - i ∧ i ≤ n ∧ Pv i ys H, ⟨n, by simp, Nat.zero_le _, h0⟩, ?_⟩
 rintro i m ys H ⟨rfl, hi, p⟩
 by_cases hlt : i < n
 ·refine .inr ⟨hlt, Pv (i + 1), fun ys' H' z => ⟨n - (i + 1), by omega, rfl, hlt, z⟩, fun x H' y => ?_⟩
  obtain ⟨e, y⟩ := y
  subst e y
  exact hs i ys _ hlt p
 ·have e : i = n := by omega
  subst e
  exact .inl ⟨Nat.le_refl _, hd ys H p⟩
section
variable {X : Cx} {pins : List (Addr × Obj)} {σ : St} {H : Hp} {s : Shared}
theorem Inv.turnedL {h' : Heap} {t' : Nat} {ch : List Addr} {p : Addr} {o : HO} (I : Inv X pins σ H s) (k : ∀ b u, b ∉ ch → s.heap.get? b = some u → h'.get? b = some u) (hf : ∀ b ∈ ch, FpOk X pins H b) (hp : s.heap.objs.size ≤ p) (new : ObjOk X.prog X.w (upd H p o) h' p o) :
  Inv X pins σ (upd H p o) { s with heap := h', toks := t' } := by
 have hn := I.hok.fresh hp
 have nch : ∀ b u, H b = some u → b ∉ ch := fun b u q z => by rw [(hf b z).1] at q; cases q
 refine I.call (g' := s.gens) (d' := s.drawn) (ch := ch) ⟨fun b u q _ _ hx => k b u hx q, fun b u q _ _ hx => ⟨u.slots, k b u hx q⟩, fun b u q n _ => ?_, fun b u q hx => ⟨u, k b u hx q⟩, fun b xs q => ?_, fun b u xs q => ?_, fun b ps q => ⟨#[], ?_⟩⟩ (fun b u q => ?_) I.bare
  fun b hb => ⟨(hf b hb).2.2.2.1, (hf b hb).2.1, (hf b hb).2.2.2.2.1, (hf b hb).2.2.2.2.2⟩
 ·rw [upd_ne (Nat.ne_of_lt (Nat.lt_of_lt_of_le (Heap.lt_size q) hp))]; exact n
 ·rw [upd_ne (ne_of_none q hn)]; exact q
 ·rw [upd_ne (ne_of_none q hn)]; exact q
 ·rw [upd_ne (ne_of_none q hn), q]; simp
 ·by_cases hb : b = p
  ·subst hb; rw [upd_same] at q; cases q; exact new
  ·rw [upd_ne hb] at q
   refine (I.hok b u q).stay (fun c v hc r => k c v ?_ r) (fun c z => ?_) fun c xs z => ?_
   ·rcases hc with hc | hc
    ·rw [hc]; exact nch b u q
    ·exact nch c _ hc
   ·rw [upd_ne (ne_of_none z hn)]; exact z
   ·rw [upd_ne (ne_of_none z hn)]; exact z
theorem Inv.turnedN {h' : Heap} {t' : Nat} {ch : List Addr} (I : Inv X pins σ H s) (k : ∀ b u, b ∉ ch → s.heap.get? b = some u → h'.get? b = some u) (hf : ∀ b ∈ ch, FpOk X pins H b) : Inv X pins σ H { s with heap := h', toks := t' } := by
 have nch : ∀ b u, H b = some u → b ∉ ch := fun b u q z => by rw [(hf b z).1] at q; cases q
 refine I.call (g' := s.gens) (d' := s.drawn) (ch := ch) ⟨fun b u q _ _ hx => k b u hx q, fun b u q _ _ hx => ⟨u.slots, k b u hx q⟩, fun b u q n _ => n, fun b u q hx => ⟨u, k b u hx q⟩, fun b xs q => q, fun b u xs q => q, fun b ps q => ⟨#[], by rw [q]; simp⟩⟩ (fun b u q => ?_) I.bare
  fun b hb => ⟨(hf b hb).2.2.2.1, (hf b hb).2.1, (hf b hb).2.2.2.2.1, (hf b hb).2.2.2.2.2⟩
 refine (I.hok b u q).stay (fun c v hc r => k c v ?_ r) (fun c z => z) fun c xs z => z
 rcases hc with hc | hc
 ·rw [hc]; exact nch b u q
 ·exact nch c _ hc
end
def Ite (K : W.Frag) (a : Addr) : It :=
 ⟨fun i H => ∃ xs x, SqL K H a xs ∧ xs[i]? = some x, fun i H v H' => ∃ p x, v = .ref p ∧ H p = none ∧ H' = upd H p (.tup [.int i, x]) ∧ ∀ xs, SqL K H a xs → xs[i]? = some x, fun i H => ∃ xs, SqL K H a xs ∧ xs.length ≤ i⟩
theorem turn_enum {P : Program} {w : World} {K : W.Frag} {elts : List Expr} {x1} {tpos : Pos} (a it e : Addr) (hne : e ≠ it) : Turn P w K (.Tuple elts x1 tpos) (Ite K a) [e, it] e (fun i h => (∃ old, IsEnum h e it i old) ∧ h.IsListIter it a i) where
 mem := by simp
 obj := fun i h ⟨⟨old, st⟩, it1⟩ b hb => by
  rcases List.mem_cons.mp hb with q | hb
  ·subst q
   exact ⟨_, st, fun v z => nomatch (show Data.fields _ = Data.cell v from z)⟩
  ·have q : b = it := by simpa using hb
   subst q
   obtain ⟨o, e1, c, d⟩ := it1
   exact ⟨o, e1, fun v z => by rw [d] at z; cases z⟩
 keep := fun i h h' ⟨⟨old, st⟩, it1⟩ k => ⟨⟨old, k e (by simp) _ st⟩, it1.at fun o q => k it (by simp) o q⟩
 item := by
  intro X hP hw hK hc i pins s σ H E I hf st hg
  subst hP hw hK
  obtain ⟨⟨old, st⟩, it1⟩ := st
  obtain ⟨xs, x, hq, hx⟩ := hg
  obtain ⟨its, rv, p, hz⟩ := I.list hq
  obtain ⟨u, hu, ru⟩ := rv.get hx
  refine wpAny_pyNext_enum_item st it1 p.isList (x := u) (by simpa using hu) hne fun h' q1 q2 q3 q4 q5 => ⟨_, rfl, ?_⟩
  refine wpAny_letOwnedTupleGo_enum (s := { s with heap := h', toks := s.toks + 1 }) q1 fun h2 r1 r2 => ?_
  have ne1 : s.heap.objs.size ≠ e := Nat.ne_of_gt (Heap.lt_size st)
  have k2 : ∀ b o, b ∉ [e, it] → s.heap.get? b = some o → h2.get? b = some o := fun b o hb q => by
   have hb1 : b ≠ e := fun z => hb (by simp [z])
   have hb2 : b ≠ it := fun z => hb (by simp [z])
   exact (r2.2 b hb1).trans (q5 b o hb1 hb2 q)
  have I1 : Inv X pins σ (upd H s.heap.objs.size (.tup [.int i, x])) { s with heap := h2, toks := s.toks + 1 } := I.turnedL k2 hf (Nat.le_refl _)
   ⟨by show 2 ≤ sizeLine; decide, [.int i s.toks, u], .cons ⟨_, rfl⟩ (.cons ru .nil), ⟨_, (r2.2 _ ne1).trans q3, rfl, _, rfl⟩⟩
  refine ⟨.ref s.heap.objs.size, _, I1, rfl, ⟨_, x, rfl, I.fresh, rfl, fun ys hy => by rw [I.list_inj hy hq]; exact hx⟩, ⟨⟨_, by rw [show ((i + 1 : Nat) : Int) = (i : Int) + 1 by omega]; exact r1⟩, ?_⟩, fun b hb => ?_⟩
  ·exact q2.extBut r2.extBut (Ne.symm hne)
  ·obtain ⟨o, e1, _⟩ : ∃ o, s.heap.get? b = some o ∧ True := by
    rcases List.mem_cons.mp hb with q | hb
    ·exact ⟨_, by rw [q]; exact st, trivial⟩
    ·have q : b = it := by simpa using hb
     obtain ⟨o, e1, _⟩ := it1
     exact ⟨o, by rw [q]; exact e1, trivial⟩
   rw [upd_ne (Nat.ne_of_lt (Heap.lt_size e1))]
   exact (hf b hb).1
 done := by
  intro X hP hw hK hc i pins s σ H E I hf st hg
  subst hP hw hK
  obtain ⟨⟨old, st⟩, it1⟩ := st
  obtain ⟨xs, hq, hx⟩ := hg
  obtain ⟨its, rv, p, hz⟩ := I.list hq
  have hl := rv.length
  exact wpAny_pyNext_enum_end (I.ok.hd hc) st it1 p.isList (by simp; omega) fun h' eb => ⟨rfl, I.turnedN (t' := s.toks) (fun b o hb q => eb b o (fun z => hb (by simp [z])) q) hf⟩
 self := fun _ _ _ _ _ st h => wpAny_pyIter_enum st.1.choose_spec h
theorem for_enum {K : PySem.W.Frag} {a : Addr} {xs : List V} {g : TG} {tb : TS} {D : Ends} {σ : St} {H : Hp} (Pv : Nat → St → Hp → Prop) (h0 : Pv 0 σ H) (hl : ∀ i σ H, i ≤ xs.length → Pv i σ H → SqL K H a xs)
  (hs : ∀ i x σ H p, xs[i]? = some x → Pv i σ H → H p = none → g (.ref p) σ (upd H p (.tup [.int i, x])) fun σ2 H2 => tb { D with nx := Pv (i + 1), ct := Pv (i + 1), bk := D.nx } σ2 H2) (hd : ∀ σ H, Pv xs.length σ H → D.nx σ H) :
  ∃ W : Nat → Nat → St → Hp → Prop, (∃ m, W 0 m σ H) ∧ ∀ i m σ H, W i m σ H →
   ((Ite K a).stop i H ∧ D.nx σ H) ∨ ((Ite K a).go i H ∧ ∃ N : St → Hp → Prop, (∀ σ' H', N σ' H' → ∃ m', m' < m ∧ W (i + 1) m' σ' H') ∧ ∀ x H', (Ite K a).yld i H x H' → g x σ H' fun σ2 H2 => tb { D with nx := N, ct := N, bk := D.nx } σ2 H2) := by
 refine ⟨fun i m σ H => m = xs.length - i ∧ i ≤ xs.length ∧ Pv i σ H, ⟨xs.length, by simp, Nat.zero_le _, h0⟩, ?_⟩
 rintro i m σ H ⟨rfl, hi, p⟩
 have q := hl i σ H hi p
 by_cases hlt : i < xs.length
 ·refine .inr ⟨⟨xs, xs[i], q, by simp [hlt]⟩, Pv (i + 1), fun σ' H' z => ⟨xs.length - (i + 1), by omega, rfl, hlt, z⟩, fun v H' y => ?_⟩
  obtain ⟨c, x, rfl, hc, rfl, y⟩ := y
  exact hs i x σ _ c (y xs q) p hc
 ·have e : i = xs.length := by omega
  subst e
  exact .inl ⟨⟨xs, q, Nat.le_refl _⟩, hd σ H p⟩
theorem bt_enumerate : bootBuiltins "enumerate" = some (.type "enumerate") := by decide +kernel
def iEnum (K : W.Frag) (ta : TA) : TI := fun σ H R => ta σ H fun vs H1 => ∃ a, vs = [.ref a] ∧ (∃ xs, SqL K H1 a xs) ∧ R (Ite K a) H1
section
variable {X : Cx}
theorem pi_enum {elts : List Expr} {x1} {tpos : Pos} {l : Expr} {ta : TA} {p pos : Pos} (hg : Gl X "enumerate") (hm : X.mg "enumerate" = none) (ha : PA X [l] ta) (hs : starEach [l] X.env = [(false, eval l X.env)] := by rfl) :
  PI X (.Tuple elts x1 tpos) (.Call (.Name "enumerate" p) [l] [] pos) (iEnum X.K ta) := by
 intro pins s σ H R I h
 refine Call_ (ld_blt I hg hm bt_enumerate (PyProof.Rows.callWith_type1 (thn (ha pos pins s σ H _ I h) fun us s1 ⟨vs, H1, I1, r1, q1⟩ => ?_) hs rfl))
 obtain ⟨a, e, ⟨xs, hq⟩, q⟩ := q1
 subst e
 obtain ⟨u, rfl, ru⟩ := r1.one
 cases (show u = Value.ref a from ru)
 obtain ⟨its, rv, pl, hz⟩ := I1.list hq
 refine call_enumerate_list pl.isList fun h' q1 q2 q3 q4 => ?_
 have I2 : Inv X pins σ H1 { s1 with heap := h' } := I1.kept (t' := s1.toks) q4
 refine wpAny_pyIter_enum (s := { s1 with heap := h' }) q1 ?_
 refine ⟨s1.heap.objs.size + 1, [s1.heap.objs.size + 1, s1.heap.objs.size], _, _, H1, rfl, I2, turn_enum a s1.heap.objs.size _ (Nat.succ_ne_self _), ⟨⟨_, q1⟩, q2⟩, fun b hb => ?_, q⟩
 have hb' : s1.heap.objs.size ≤ b := by
  rcases List.mem_cons.mp hb with z | z
  ·rw [z]; exact Nat.le_succ _
  ·have z : b = s1.heap.objs.size := by simpa using z
   rw [z]; exact Nat.le_refl _
 exact I1.fpOk hb' (I1.hok.fresh hb')
end
section
variable {X : Cx} {K : W.Frag}
theorem ixK_list (hK : X.K = K := by rfl) : IxR X (rIxL K) := hK ▸ ix_list
theorem ixK_tup (hK : X.K = K := by rfl) : IxR X (rIxT K) := hK ▸ ix_tup
def rLenSeq (K : W.Frag) : List V → Hp → VK → Prop := fun xs H Q => ∃ p ys, xs = [.ref p] ∧ (SqL K H p ys ∨ SqT K H p ys) ∧ Q (.int ys.length) H
theorem callK_len_seq (hK : X.K = K := by rfl) : CallR X (.builtin "len") (rLenSeq K) := hK ▸ call_len_seq
def rListOf (K : W.Frag) : List V → Hp → VK → Prop := fun xs H Q => ∃ p ys, xs = [.ref p] ∧ (SqL K H p ys ∨ SqT K H p ys) ∧ ∀ l, H l = none → Q (.ref l) (upd H l (.lst ys))
theorem callK_list_of (hK : X.K = K := by rfl) : CallR X (.type "list") (rListOf K) := hK ▸ call_list_of
theorem callK_isi (hK : X.K = K := by rfl) : CallR X (.builtin "isinstance") (rIsi K) := hK ▸ call_isi
theorem pgK_tup {es : List Expr} {k : Nat} {t : TGs} {n : Nat} {pos : Pos} (hc : X.calm = true) (h : PGs X es t) (hK : X.K = K := by rfl) (hn : (assignEach es X.env).length = n := by rfl) (hst : (assignEach es X.env).findIdx? (·.1) = none := by rfl) :
  PG X (.Tuple es k pos) (gTup K n t) := hK ▸ pg_tup hc h hn hst
variable {o e : Expr} {es : List Expr} {to : TE} {t : TA} {name : Str} {apos cpos : Pos} {T id : String} {r : V → List V → Hp → VK → Prop}
theorem pe_bmK0 (pa : PlainAttrs T) (slot : Slot T name id) (hty : typeOf (.builtin id) = pure (.type "method_descriptor")) (hm : MtR X id r) (ho : PE X o to) (hK : X.K = K := by rfl)
  (hbase : attributeBase o name X.env (eval o X.env) = eval o X.env := by rfl) (hline : (apos.endLine == cpos.line) = true := by rfl) : PE X (.Call (.Attribute o name apos) [] [] cpos) (tBM0 K T r to) := hK ▸ pe_bm0 pa slot hty hm ho hbase hline
theorem pe_bmK (pa : PlainAttrs T) (slot : Slot T name id) (hty : typeOf (.builtin id) = pure (.type "method_descriptor")) (hm : MtR X id r) (ho : PE X o to) (ha : PA X (e :: es) t) (hK : X.K = K := by rfl)
  (hbase : attributeBase o name X.env (eval o X.env) = eval o X.env := by rfl)
  (hfew : ((backTo cpos (starEach (e :: es) X.env)).all (fun x => !x.1) && (backToKw cpos (keywordEach [] X.env)).all (fun x => x.1.isSome)
   && decide ((e :: es).length + ([] : List Keyword).length + (if ([] : List Keyword).isEmpty then 0 else 1) < 30)) = true := by rfl)
  (hline : (apos.endLine == cpos.line) = true := by rfl) (hs : starEach (e :: es) X.env = (false, eval e X.env) :: starEach es X.env := by rfl) (hplain : (backTo cpos (starEach es X.env)).any (·.1) = false := by rfl) :
  PE X (.Call (.Attribute o name apos) (e :: es) [] cpos) (tBM K T r to t) := hK ▸ pe_bm pa slot hty hm ho ha hbase hfew hline hs hplain
end
theorem frames_mono {h h' B B' : Heap} : ∀ {l : List Env}, h.FunFrames B l → (∀ b ∈ frs l, h'.get? b = h.get? b) → (∀ b, B.get? b = none → B'.get? b = none) → h'.FunFrames B' l
 | [], _, _, _ => trivial
 | env :: rest, ⟨k, ⟨L, o, f, b, g, n⟩, r⟩, hk, hb => by
  refine ⟨k, ⟨L, o, f, hb L b, (hk L ?_).trans g, n⟩, frames_mono r (fun c hc => hk c ?_) hb⟩
  ·exact List.mem_filterMap.mpr ⟨env, List.mem_cons_self, f⟩
  ·obtain ⟨e, he, q⟩ := List.mem_filterMap.mp hc
   exact List.mem_filterMap.mpr ⟨e, List.mem_cons_of_mem _ he, q⟩
section
variable {X : Cx} {E : XK} {pins pins' : List (Addr × Obj)} {σ σ' : St} {H3 H' : Hp} {s3 s' : Shared} {scope : Scope} {Nc : List Str} {C a : Addr} {fp : List Addr} {xe : Value → Shared → Prop} {cls : Value} {cx : Option Addr} {B : Heap}
theorem comp_error (acc : XAcc X E) (I3 : Inv X pins σ H3 s3) (hC : C = s3.heap.objs.size) (hfp : ∀ b ∈ fp, FpOk X pins H3 b) (I : Inv (compCx X scope Nc C s3 H3 fp xe) pins' σ' H' s') (x : XAt (compCx X scope Nc C s3 H3 fp xe) pins' H' s' a cls cx B .any) (hE : E cls cx H') :
  ∃ m, s'.heap.Ns C m ∧ ∀ h', Heap.SameBut C s'.heap h' → ∀ cenv : Env, cenv.locals = C → wpAny (model X.prog X.w) X.A (passOn "comprehension.variables-let-go" (.ref a) cenv : Sem Value) (fun _ _ => False) X.xe { s' with heap := h' } := by
 obtain ⟨m, hn, _⟩ := id I.loc
 refine ⟨m, hn, fun h' hs cenv _ => ?_⟩
 have J : Inv X pins σ H' s' := I3.call' (ch := fp) (I.os.trans rfl) I.base I.hok I.bare fun b hb => ⟨(hfp b hb).2.2.2.1, (hfp b hb).2.1, (hfp b hb).2.2.2.2.1, (hfp b hb).2.2.2.2.2⟩
 have lt3 : ∀ b o, s3.heap.get? b = some o → b ≠ C := fun b o g z => absurd (Heap.lt_size g) (by rw [z, hC]; exact Nat.lt_irrefl _)
 have hCL : C ≠ X.env.locals := by rw [hC]; exact Nat.ne_of_gt I3.lt
 have hsz : X.s₀.heap.objs.size ≤ C := by rw [hC]; exact I3.sz
 have hcl : ∀ y c, X.env.cells.lookup y = some c → c ≠ C := fun y c e z => by
  obtain ⟨v, o, ho, _⟩ := I3.cell y c e
  exact lt3 c o ho z
 have hpn : ∀ p ∈ X.pn ++ pins, p.1 ≠ C := fun p hp z => lt3 p.1 p.2 (I3.pin p hp).1 z
 have hC0 : H' C = none := I.free
 have J' : Inv X pins σ H' { s' with heap := h' } := J.turned (t' := s'.toks) (fun b o hb e => (hs.2 b hb).trans e) hC0 hCL (.inr hsz) hcl hpn
 have nC : ∀ b ∈ frs X.stack, b ≠ C := fun b hb => by
  obtain ⟨_, o, g, _⟩ := I3.stack.mem hb
  exact lt3 b o g
 obtain ⟨fl, oe, vs, T, oT, ts, ⟨ge, ec, de⟩, ⟨z1, z2⟩, ⟨bT, nT⟩, gT, dT, z3⟩ := x.tr
 have nf : ∀ {b : Addr} {o : Obj} {ws : Array Value}, s'.heap.get? b = some o → o.data = .fields ws → b ≠ C := fun g d z => by
  obtain ⟨o, es, ep, ho, hd, _⟩ := id hn
  rw [z] at g
  have : s'.heap.get? C = some o := ho
  rw [g] at this; cases this
  rw [d] at hd; cases hd
 have ge' := (hs.2 a (nf ge de)).trans ge
 have gT' := (hs.2 T (nf gT dT)).trans gT
 have hid : ∀ {b : Addr}, B.get? b = none → (W.hideAll B [C]).get? b = none := fun {b} q => by
  cases w : (W.hideAll B [C]).get? b with
  | none => rfl
  | some o => rw [W.of_hideAll _ w] at q; cases q
 have st : (W.hideAll B [C]).StaysIn h' := fun b o e => by
  have hb : b ≠ C := fun z => by rw [z, W.hideAll_none [C] (by simp)] at e; cases e
  exact (hs.2 b hb).trans (x.stays b o (W.of_hideAll _ e))
 have ff : h'.FunFrames (W.hideAll B [C]) X.stack := frames_mono x.frames (fun b hb => hs.2 b (nC b hb)) fun b q => hid q
 have tr : TrX h' (W.hideAll B [C]) a cls cx fl := ⟨oe, vs, T, oT, ts, ⟨ge', ec, de⟩, ⟨z1, z2⟩, ⟨hid bT, nT⟩, gT', dT, z3⟩
 have xx : XAt X pins H' { s' with heap := h' } a cls cx (W.hideAll B [C]) .any := by
  refine ⟨x.free, st, hid x.fresh, ff, fun b o e i n => ?_, fl, tr⟩
  have hb : b ≠ C := by
   rcases i with i | ⟨_, o', i⟩ | ⟨p, hp, q⟩
   ·exact fun z => i (by rw [z]; exact hC0)
   ·exact Nat.ne_of_lt (Nat.lt_of_lt_of_le (Heap.lt_size i) hsz)
   ·rw [← q]; exact hpn p hp
  refine W.hideAll_get _ (x.cov b o ((hs.2 b hb).symm.trans e) ?_ n) (by simpa using hb)
  by_cases hh : H' b = none
  ·refine .inr (.inl ⟨fun hf => ?_, ?_⟩)
   ·obtain ⟨_, _, _, f4, _, f6⟩ := hfp b hf
    rcases i with i | ⟨hx, o', i⟩ | ⟨p, hp, q⟩
    ·exact i hh
    ·rcases f4 with f4 | f4
     ·exact hx f4
     ·exact absurd (Nat.lt_of_lt_of_le (Heap.lt_size i) f4) (Nat.lt_irrefl _)
    ·exact f6 p hp q
   ·rcases i with i | ⟨hx, o', i⟩ | ⟨p, hp, q⟩
    ·exact absurd hh i
    ·exact I3.base.there b o' i hx
    ·exact ⟨p.2, by rw [← q]; exact (I3.pin p hp).1⟩
  ·exact .inl hh
 unfold PySem.passOn
 refine wpAny_bind (wpAny_field (s := { s' with heap := h' }) ge' de z1 ?_)
 rw [if_neg (by simp)]
 refine wpAny_bind (flight_x (s := { s' with heap := h' }) st ff tr fun h2 k => wpAny_throw ?_)
 exact acc pins σ H' _ a cls cx _ .any (J'.exc xx.cov k.1 k.2.2.2) ⟨xx.free, k.1, xx.fresh, k.2.1, xx.cov' J' k.1, _, k.2.2.1⟩ hE
end
def compXe (X : Cx) (scope : Scope) (Nc : List Str) (C : Addr) (H3 : Hp) (fp : List Addr) (pins : List (Addr × Obj)) (σ : St) (E : XK) : Value → Shared → Prop := fun e s' =>
 ∃ s3 a cls cx H' B ph pins' σ', e = .ref a ∧ Inv X pins σ H3 s3 ∧ C = s3.heap.objs.size ∧ (∀ b ∈ fp, FpOk X pins H3 b) ∧ Inv (compCx X scope Nc C s3 H3 fp fun _ _ => False) pins' σ' H' s' ∧ XAt (compCx X scope Nc C s3 H3 fp fun _ _ => False) pins' H' s' a cls cx B ph ∧ E cls cx H'
section
variable {X : Cx} {E : XK} {elt tg iter : Expr} {ifs : List Expr} {scope : Scope} {pos : Pos} {Nc : List Str} {k : Nat} {js : List Nat} {wi : TI} {g : TG} {tf : TT} {te : TE}
theorem comp_acc {pins : List (Addr × Obj)} {σ : St} {H3 : Hp} {s3 : Shared} {C : Addr} {fp : List Addr} (I3 : Inv X pins σ H3 s3) (hC : C = s3.heap.objs.size) (hfp : ∀ b ∈ fp, FpOk X pins H3 b) : XAcc (compCx X scope Nc C s3 H3 fp (compXe X scope Nc C H3 fp pins σ E)) E :=
 fun pins' σ' H' s' a cls cx B ph I x hE => ⟨s3, a, cls, cx, H', B, ph, pins', σ', rfl, I3, hC, hfp, I.wish _, ⟨x.free, x.stays, x.fresh, x.frames, x.cov, x.tr⟩, hE⟩
theorem comp_noted {pins : List (Addr × Obj)} {σ : St} {H3 : Hp} {C F : Addr} {fp : List Addr} {env0 : Env} {out0 : List Env} {R : Value → Shared → Prop} (acc : XAcc X E) (hs0 : X.stack = env0 :: out0) (h0 : env0.frame = X.env.frame) (hF : X.env.frame = some F)
  (hR : ∀ a s', (∃ m, s'.heap.Ns C m ∧ ∀ h', Heap.SameBut C s'.heap h' → ∀ cenv : Env, cenv.locals = C → wpAny (model X.prog X.w) X.A (passOn "comprehension.variables-let-go" (.ref a) cenv : Sem Value) (fun _ _ => False) X.xe { s' with heap := h' }) → R (.ref a) s') :
  ∀ e s', compXe X scope Nc C H3 fp pins σ E e s' → notedBy (model X.prog X.w) X.A (compEnvC scope (capOf X.env.cells scope.names []) C X.env) R e s' := by
 rintro e s' ⟨s3, a, cls, cx, H', B, ph, pins', σ', rfl, I3, hC, hfp, I, x, hE⟩
 unfold notedBy
 exact note_ok (X := compCx X scope Nc C s3 H3 fp fun _ _ => False) I.ok.frames hs0 h0 hF I x fun h1 I1 x1 => hR a _ (comp_error acc I3 hC hfp I1 x1 hE)
theorem pe_compX {env0 : Env} {out0 : List Env} {F : Addr} (acc : XAcc X E) (hc : X.calm = true) (S : CompSc X.env.scope scope X.N Nc k js) (hi : PI X tg iter wi) (hg : ∀ C s3 H3 fp xe, PG (compCx X scope Nc C s3 H3 fp xe) tg g) (hf : ∀ C s3 H3 fp xe, PF (compCx X scope Nc C s3 H3 fp xe) ifs tf)
  (he : ∀ C s3 H3 fp xe, XAcc (compCx X scope Nc C s3 H3 fp xe) E → PE (compCx X scope Nc C s3 H3 fp xe) elt te) (hs : ∀ x, foldedSetIterable iter X.env x = pure x := by intro _; rfl)
  (hs0 : X.stack = env0 :: out0 := by rfl) (h0 : env0.frame = X.env.frame := by rfl) (hF : X.env.frame = some F := by rfl) : PE X (.ListComp elt [⟨tg, iter, ifs, 0⟩] scope pos) (tComp wi g tf te k js) := by
 intro pins s σ H Q I h
 rw [eval_ListComp]
 refine wpAny_comprehension_free (use := none) rfl hs (closure_cap (comp_cells I S)) S.kind S.names (thn (hi pins s σ H _ I h) fun v s1 h1 => thn h1 fun itv s2 h2 => ?_)
 obtain ⟨it, fp, tn, J, H2, rfl, I2, T, st2, f2, hR⟩ := h2
 refine comp_block (RR := fun acc C => compPost (model X.prog X.w) X.A X.xe none (EP X pins σ Q) acc C) (Fin := fun D H' => Q (.ref D) H') hc S hg hf
  (fun C D H3 => ⟨compXe X scope Nc C H3 fp pins σ E, comp_noted acc hs0 h0 hF fun a s' z => z, fun s3 I3 hC hfp => he _ _ _ _ _ (comp_acc I3 hC hfp)⟩) I2 T st2 f2 hR ?_
 intro D C H' s' m' I' hn hC hCL hsz hcl hpn q
 exact ⟨m', hn, fun h' hs' => ⟨.ref D, H', I'.turned (t' := s'.toks) (fun b o hb e => (hs'.2 b hb).trans e) hC hCL (.inr hsz) hcl hpn, rfl, q⟩⟩
end
def Itz (K : W.Frag) (a b : Addr) : It :=
 ⟨fun i H => ∃ xs ys x y, SqL K H a xs ∧ SqL K H b ys ∧ xs[i]? = some x ∧ ys[i]? = some y, fun i H v H' => ∃ p x y, v = .ref p ∧ H p = none ∧ H' = upd H p (.tup [x, y]) ∧ (∀ xs, SqL K H a xs → xs[i]? = some x) ∧ ∀ ys, SqL K H b ys → ys[i]? = some y,
  fun i H => ∃ xs ys, SqL K H a xs ∧ SqL K H b ys ∧ (xs.length ≤ i ∨ ys.length ≤ i)⟩
theorem turn_zip {P : Program} {w : World} {K : W.Frag} {elts : List Expr} {x1} {tpos : Pos} (l1 l2 z TI TO i1 i2 : Addr) (D : ZipApart z TI TO i1 i2 l1 l2) : Turn P w K (.Tuple elts x1 tpos) (Itz K l1 l2) [z, TI, TO, i1, i2] z
  (fun i h => IsZip h z TI TO .none ∧ IsPair h TI (.ref i1) (.ref i2) ∧ (∃ a b, IsPair h TO a b) ∧ h.IsListIter i1 l1 i ∧ h.IsListIter i2 l2 i) where
 mem := by simp
 obj := fun i h ⟨hz, hTI, ⟨a, b, hTO⟩, h1, h2⟩ c hc => by
  simp only [List.mem_cons, List.not_mem_nil, or_false] at hc
  rcases hc with rfl | rfl | rfl | rfl | rfl
  ·exact ⟨_, hz, fun v z => nomatch (show Data.fields _ = Data.cell v from z)⟩
  ·exact ⟨_, hTI, fun v z => nomatch (show Data.seq _ _ = Data.cell v from z)⟩
  ·exact ⟨_, hTO, fun v z => nomatch (show Data.seq _ _ = Data.cell v from z)⟩
  ·obtain ⟨o, e1, c, d⟩ := h1; exact ⟨o, e1, fun v z => by rw [d] at z; cases z⟩
  ·obtain ⟨o, e1, c, d⟩ := h2; exact ⟨o, e1, fun v z => by rw [d] at z; cases z⟩
 keep := fun i h h' ⟨hz, hTI, ⟨a, b, hTO⟩, h1, h2⟩ k => ⟨k z (by simp) _ hz, k TI (by simp) _ hTI, ⟨a, b, k TO (by simp) _ hTO⟩, h1.at fun o q => k i1 (by simp) o q, h2.at fun o q => k i2 (by simp) o q⟩
 item := by
  intro X hP hw hK hc i pins s σ H E I hf st hg
  subst hP hw hK
  obtain ⟨hz, hTI, ⟨a, b, hTO⟩, h1, h2⟩ := st
  obtain ⟨xs, ys, x, y, hq, hq', hx, hy⟩ := hg
  obtain ⟨its, rv, p, _⟩ := I.list hq
  obtain ⟨u, hu, ru⟩ := rv.get hx
  obtain ⟨its', rv', p', _⟩ := I.list hq'
  obtain ⟨u', hu', ru'⟩ := rv'.get hy
  refine wpAny_pyNext_zip_item D hz hTI hTO h1 h2 p.isList p'.isList (x := u) (y := u') (by simpa using hu) (by simpa using hu') fun h' q1 q2 q3 q4 q5 q6 q7 => ⟨_, rfl, ?_⟩
  refine wpAny_letOwnedTupleGo_zip (s := { s with heap := h', toks := s.toks }) q1 fun h3 r1 r2 => ?_
  have nez : s.heap.objs.size ≠ z := Nat.ne_of_gt (Heap.lt_size hz)
  have k2 : ∀ c o, c ∉ [z, TI, TO, i1, i2] → s.heap.get? c = some o → h3.get? c = some o := fun c o hb q =>
   (r2.2 c fun e => hb (by simp [e])).trans (q7 c o (fun e => hb (by simp [e])) (fun e => hb (by simp [e])) (fun e => hb (by simp [e])) (fun e => hb (by simp [e])) q)
  have I1 : Inv X pins σ (upd H s.heap.objs.size (.tup [x, y])) { s with heap := h3, toks := s.toks } := I.turnedL k2 hf (Nat.le_refl _)
   ⟨by show 2 ≤ sizeLine; decide, [u, u'], .cons ru (.cons ru' .nil), ⟨_, (r2.2 _ nez).trans q5, rfl, _, rfl⟩⟩
  refine ⟨.ref s.heap.objs.size, _, I1, rfl, ⟨_, x, y, rfl, I.fresh, rfl, (fun zs hs => by rw [I.list_inj hs hq]; exact hx), fun zs hs => by rw [I.list_inj hs hq']; exact hy⟩,
   ⟨r1, (r2.2 _ D.TIz).trans (q7 _ _ D.TIz D.TITO D.TIi1 D.TIi2 hTI), ⟨_, _, (r2.2 _ D.TOz).trans q2⟩, q3.extBut r2.extBut D.i1z, q4.extBut r2.extBut D.i2z⟩, fun c hc => ?_⟩
  have : ∃ o, s.heap.get? c = some o := by
   simp only [List.mem_cons, List.not_mem_nil, or_false] at hc
   rcases hc with rfl | rfl | rfl | rfl | rfl
   ·exact ⟨_, hz⟩
   ·exact ⟨_, hTI⟩
   ·exact ⟨_, hTO⟩
   ·obtain ⟨o, e1, _⟩ := h1; exact ⟨o, e1⟩
   ·obtain ⟨o, e1, _⟩ := h2; exact ⟨o, e1⟩
  obtain ⟨o, e1⟩ := this
  rw [upd_ne (Nat.ne_of_lt (Heap.lt_size e1))]
  exact (hf c hc).1
 done := by
  intro X hP hw hK hc i pins s σ H E I hf st hg
  subst hP hw hK
  obtain ⟨hz, hTI, ⟨a, b, hTO⟩, h1, h2⟩ := st
  obtain ⟨xs, ys, hq, hq', hx⟩ := hg
  obtain ⟨its, rv, p, _⟩ := I.list hq
  obtain ⟨its', rv', p', _⟩ := I.list hq'
  have hl := rv.length
  have hl' := rv'.length
  refine wpAny_pyNext_zip_end (I.ok.hd hc) D hz hTI hTO h1 h2 p.isList p'.isList (hx.imp (fun h => by simp; omega) fun h => by simp; omega) fun h' eb => ⟨rfl, I.turnedN (t' := s.toks) (fun c o hb q => ?_) hf⟩
  exact eb c o (fun e => hb (by simp [e])) (fun e => hb (by simp [e])) (fun e => hb (by simp [e])) (fun e => hb (by simp [e])) q
 self := fun _ _ _ _ _ st h => wpAny_pyIter_zip st.1 h
theorem comp_zip {K : W.Frag} {a b : Addr} {xs ys : List V} {g : TG} {tf : TT} {te : TE} {k : Nat} {σ0 : St} {D : Addr} {Fin : Hp → Prop} {H1 : Hp} (Pv : Nat → List V → Hp → Prop) (h0 : Pv 0 [] (upd H1 D (.lst []))) (hl : ∀ i zs H, Pv i zs H → SqL K H a xs ∧ SqL K H b ys)
  (hs : ∀ i x y zs H p, xs[i]? = some x → ys[i]? = some y → Pv i zs H → H p = none → g (.ref p) σ0 (upd H p (.tup [x, y])) fun σ2 H2 => (σ2.drop k = σ0.drop k ∧ σ2.length = σ0.length) ∧ tf σ2 H2 fun b H3 =>
   if b = true then te σ2 H3 fun y H4 => H4 D = some (.lst zs) ∧ zs.length < sizeLine ∧ Pv (i + 1) (zs ++ [y]) (upd H4 D (.lst (zs ++ [y]))) else Pv (i + 1) zs H3)
  (hd : ∀ zs H, Pv (min xs.length ys.length) zs H → Fin H) : tCompR (Itz K a b) g tf te k σ0 D Fin H1 := by
 refine ⟨fun i m zs H => m = min xs.length ys.length - i ∧ i ≤ min xs.length ys.length ∧ Pv i zs H, ⟨min xs.length ys.length, by simp, Nat.zero_le _, h0⟩, ?_⟩
 rintro i m zs H ⟨rfl, hi, p⟩
 obtain ⟨q, q'⟩ := hl i zs H p
 by_cases hlt : i < min xs.length ys.length
 ·have h1 : i < xs.length := by omega
  have h2 : i < ys.length := by omega
  refine .inr ⟨⟨xs, ys, xs[i], ys[i], q, q', by simp [h1], by simp [h2]⟩, Pv (i + 1), fun ys' H' z => ⟨_, by omega, rfl, hlt, z⟩, fun v H' y => ?_⟩
  obtain ⟨c, x, y', rfl, hc, rfl, e1, e2⟩ := y
  exact hs i x y' zs _ c (e1 xs q) (e2 ys q') p hc
 ·have e : i = min xs.length ys.length := by omega
  subst e
  exact .inl ⟨⟨xs, ys, q, q', by omega⟩, hd zs H p⟩
theorem bt_zip : bootBuiltins "zip" = some (.type "zip") := by decide +kernel
def iZip (K : W.Frag) (ta : TA) : TI := fun σ H R => ta σ H fun vs H1 => ∃ a b, vs = [.ref a, .ref b] ∧ (∃ xs, SqL K H1 a xs) ∧ (∃ ys, SqL K H1 b ys) ∧ R (Itz K a b) H1
section
variable {X : Cx}
theorem pi_zip {elts : List Expr} {x1} {tpos : Pos} {l l' : Expr} {ta : TA} {p pos : Pos} (hg : Gl X "zip") (hm : X.mg "zip" = none) (ha : PA X [l, l'] ta) (hs : starEach [l, l'] X.env = (false, eval l X.env) :: starEach [l'] X.env := by rfl) (hpl : (backTo pos (starEach [l'] X.env)).any (·.1) = false := by rfl) :
  PI X (.Tuple elts x1 tpos) (.Call (.Name "zip" p) [l, l'] [] pos) (iZip X.K ta) := by
 intro pins s σ H R I h
 refine Call_ (ld_blt I hg hm bt_zip (PyProof.Rows.callWith_type1 (thn (ha pos pins s σ H _ I h) fun us s1 ⟨vs, H1, I1, r1, q1⟩ => ?_) hs hpl))
 obtain ⟨a, b, e, ⟨xs, hq⟩, ⟨ys, hq'⟩, q⟩ := q1
 subst e
 obtain ⟨u, u', rfl, ru, ru'⟩ : ∃ u u', us = [u, u'] ∧ RelV (.ref a) u ∧ RelV (.ref b) u' := by
  cases r1 with
  | cons r t => cases t with
   | cons r' t' => cases t'; exact ⟨_, _, rfl, r, r'⟩
 cases (show u = Value.ref a from ru)
 cases (show u' = Value.ref b from ru')
 obtain ⟨its, rv, pl, hz⟩ := I1.list hq
 obtain ⟨its', rv', pl', hz'⟩ := I1.list hq'
 refine call_zip_2 pl.isList pl'.isList fun h' q1 q2 q3 q4 q5 q6 q7 => ?_
 have I2 : Inv X pins σ H1 { s1 with heap := h' } := I1.kept (t' := s1.toks) q7
 refine wpAny_pyIter_zip (s := { s1 with heap := h' }) q1 ?_
 have la : a < s1.heap.objs.size := by obtain ⟨o, n, e, _⟩ := pl; exact Heap.lt_size e
 have lb : b < s1.heap.objs.size := by obtain ⟨o, n, e, _⟩ := pl'; exact Heap.lt_size e
 refine ⟨s1.heap.objs.size + 4, [s1.heap.objs.size + 4, s1.heap.objs.size + 2, s1.heap.objs.size + 3, s1.heap.objs.size, s1.heap.objs.size + 1], _, _, H1, rfl, I2, turn_zip a b (s1.heap.objs.size + 4) (s1.heap.objs.size + 2) (s1.heap.objs.size + 3) s1.heap.objs.size (s1.heap.objs.size + 1) ?_, ⟨q1, q2, ⟨_, _, q3⟩, q4, q5⟩, fun c hc => ?_, q⟩
 ·constructor <;> (simp only [Addr, ne_eq] at *; omega)
 ·have hb' : s1.heap.objs.size ≤ c := by
   simp only [List.mem_cons, List.not_mem_nil, or_false] at hc
   rcases hc with rfl | rfl | rfl | rfl | rfl <;> (simp only [Addr] at *; omega)
  exact I1.fpOk hb' (I1.hok.fresh hb')
end
def Itg (lo st : Int) (n : Nat) : It := ⟨fun i _ => i < n, fun i H x H' => H' = H ∧ x = .int (lo + i * st), fun i _ => n ≤ i⟩
theorem turn_ranges {P : Program} {w : World} {K : PySem.W.Frag} {tg : Expr} (it : Addr) (lo st : Int) (n : Nat) : Turn P w K tg (Itg lo st n) [it] it (fun i h => IsRangeIter h it (lo + (i : Nat) * st) ((n : Int) - (i : Nat)) st) where
 mem := by simp
 obj := fun i h st b hb => by
  have e : b = it := by simpa using hb
  subst e
  exact ⟨_, st, fun v z => by
   have z' : Data.fields _ = Data.cell v := z
   cases z'⟩
 keep := fun i h h' st k => k it (by simp) _ st
 item := by
  intro X hP hw hK hc i pins s σ H E I hf hst hg
  subst hP hw hK
  obtain ⟨f0, f1, f2, f3, f4, f5⟩ := hf it (by simp)
  have W := Walks.range (prog := X.prog) (w := X.w) (I.ok.hd hc) it lo st n
  refine W.item i s _ _ hg hst fun v h' tk hv st' kk => ?_
  obtain ⟨t, rfl⟩ := hv
  have I1 : Inv X pins σ H { s with heap := h', toks := tk } := I.turned (fun b o hb e => kk b o (by simpa using hb) e) f0 f1 f3 f4 f5
  exact ⟨_, rfl, go_of (s := { s with heap := h', toks := tk }) (n := "range_iterator") st' rfl rfl (by decide) ⟨.int (lo + i * st), H, I1, ⟨t, rfl⟩, ⟨rfl, rfl⟩, st', fun b hb => (hf b hb).1⟩⟩
 done := by
  intro X hP hw hK hc i pins s σ H E I hf hst hg
  subst hP hw hK
  obtain ⟨f0, f1, f2, f3, f4, f5⟩ := hf it (by simp)
  exact wpAny_pyNext_range_end (I.ok.hd hc) hst (by have : n ≤ i := hg; omega) fun h' eb => ⟨rfl, I.turned (t' := s.toks) (fun b o hb e => eb b o hb e) f0 f1 f3 f4 f5⟩
 self := fun _ _ _ _ _ st h => wpAny_pyIter_rangeiter st h
section
variable {X : Cx} {tg : Expr}
theorem small_step {a b c : Int} (hc : 0 < c) (hc' : c < 2 ^ 61) (ha : -(2 ^ 61) ≤ a) (ha' : a < 2 ^ 61) (hb : -(2 ^ 61) ≤ b) (hb' : b < 2 ^ 61) : Builtin.Range.small a b c = true := by
 unfold Builtin.Range.small Builtin.Range.rangeSize
 simp only [Builtin.Range.rangeFitsLong, Bool.and_eq_true, Bool.or_eq_true, decide_eq_true_eq, beq_iff_eq, show c > 0 from hc, if_true]
 by_cases z : a < b
 ·rw [if_pos z]
  have h1 : 0 ≤ (b - a - 1) / c := Int.ediv_nonneg (by omega) (by omega)
  have h2 : (b - a - 1) / c ≤ b - a - 1 := Int.ediv_le_self c (by omega)
  generalize (b - a - 1) / c = q at *
  omega
 ·rw [if_neg z]
  omega
def stepN (lo hi st : Int) : Nat := (if lo < hi then (hi - lo - 1) / st + 1 else 0).toNat
theorem range_it3 {pins : List (Addr × Obj)} {σ : St} {H : Hp} {s : Shared} {R : It → Hp → Prop} {E : Value → Shared → Prop} {lo hi st : Int} {t u v : Tok} {tk : Nat} (I : Inv X pins σ H s) (h0 : 0 < st) (h0' : st < 2 ^ 61) (h1 : -(2 ^ 61) ≤ lo) (h2 : lo < 2 ^ 61) (h3 : -(2 ^ 61) ≤ hi) (h4 : hi < 2 ^ 61)
  (q : R (Itg lo st (stepN lo hi st)) H) : wpAny (model X.prog X.w) X.A (pyIter (.ref s.heap.objs.size)) (PIE X pins σ tg R) E { s with heap := s.heap.push { cls := .type "range", data := .fields #[.int lo t, .int hi u, .int st v] }, toks := tk } := by
 refine wpAny_pyIter_range (IsRange.new ..) (small_step h0 h0' h1 h2 h3 h4) ?_
 have I1 : Inv X pins σ H { s with heap := s.heap.push { cls := .type "range", data := .fields #[.int lo t, .int hi u, .int st v] }, toks := tk } := I.kept fun b o e => Heap.get?_push_of_some _ e
 refine ⟨(s.heap.push { cls := .type "range", data := .fields #[.int lo t, .int hi u, .int st v] }).objs.size, [(s.heap.push { cls := .type "range", data := .fields #[.int lo t, .int hi u, .int st v] }).objs.size], _, _, H, rfl,
  I1.kept (t' := tk) fun b o e => Heap.get?_push_of_some _ e, turn_ranges _ lo st (stepN lo hi st), ?_, fun b hb => ?_, q⟩
 ·have e1 : lo + ((0 : Nat) : Int) * st = lo := by simp
  have e2 : ((stepN lo hi st : Nat) : Int) - ((0 : Nat) : Int) = Builtin.Range.rangeSize lo hi st := by
   unfold stepN Builtin.Range.rangeSize
   rw [if_pos (show st > 0 from h0)]
   by_cases z : lo < hi
   ·rw [if_pos z]
    have := Int.ediv_nonneg (a := hi - lo - 1) (b := st) (by omega) (by omega)
    omega
   ·rw [if_neg z]; rfl
  show IsRangeIter _ _ (lo + ((0 : Nat) : Int) * st) (((stepN lo hi st : Nat) : Int) - ((0 : Nat) : Int)) st
  rw [e1, e2]
  exact Heap.get?_push_size _ rfl
 ·have e : b = (s.heap.push { cls := .type "range", data := .fields #[.int lo t, .int hi u, .int st v] }).objs.size := by simpa using hb
  subst e
  exact I1.fpOk (Nat.le_refl _) (I1.hok.fresh (Nat.le_refl _))
def iRng3 (ta : TA) : TI := fun σ H R => ta σ H fun vs H1 => ∃ i j k : Int, vs = [.int i, .int j, .int k] ∧ (0 < k ∧ k < 2 ^ 20 ∧ -(2 ^ 61) ≤ i ∧ i < 2 ^ 61 ∧ -(2 ^ 61) ≤ j ∧ j < 2 ^ 61) ∧ R (Itg i k (stepN i j k)) H1
theorem pi_range3 {a b c : Expr} {ta : TA} {p pos : Pos} (hg : Gl X "range") (hm : X.mg "range" = none) (ha : PA X [a, b, c] ta) (hs : starEach [a, b, c] X.env = [(false, eval a X.env), (false, eval b X.env), (false, eval c X.env)] := by rfl) (hs2 : starEach [b, c] X.env = [(false, eval b X.env), (false, eval c X.env)] := by rfl) :
  PI X tg (.Call (.Name "range" p) [a, b, c] [] pos) (iRng3 ta) := by
 intro pins s σ H R I h
 refine Call_ (ld_blt I hg hm boot_range (PyProof.Rows.callWith_type1 (thn (ha pos pins s σ H _ I h) fun us s1 ⟨vs, H1, I1, r1, q1⟩ => ?_) (by rw [hs, hs2]) (by rw [hs2]; rfl)))
 obtain ⟨i, j, k, e, ⟨q1, q2, q3, q4, q5, q6⟩, q⟩ := q1
 subst e
 cases r1 with
 | cons r rr =>
  cases rr with
  | cons r' rr =>
   cases rr with
   | cons r'' rr =>
    cases rr
    obtain ⟨t, rfl⟩ := r
    obtain ⟨t', rfl⟩ := r'
    obtain ⟨t'', rfl⟩ := r''
    exact call_range_3 (by omega) (range_it3 I1 q1 (by omega) q3 q4 q5 q6 q) (Or.inl (PyProof.noPylong_small (by omega)))
end
def Gd (n : Nat) (lt : Nat → Nat → Bool) {α : Type} : KasT α → (α → Prop) → Prop
 | .ret a, P => P a
 | .ask i j k, P => i < n ∧ j < n ∧ Gd n lt (k (lt i j)) P
theorem Gd.mono {n : Nat} {lt : Nat → Nat → Bool} {α : Type} {P P' : α → Prop} (h : ∀ a, P a → P' a) : ∀ {t : KasT α}, Gd n lt t P → Gd n lt t P'
 | .ret a, g => h a g
 | .ask i j k, g => ⟨g.1, g.2.1, Gd.mono h g.2.2⟩
theorem Gd.bind {n : Nat} {lt : Nat → Nat → Bool} {α β : Type} {P : β → Prop} {f : α → KasT β} : ∀ {t : KasT α}, Gd n lt t (fun a => Gd n lt (f a) P) → Gd n lt (t.bind f) P
 | .ret a, g => g
 | .ask i j k, g => ⟨g.1, g.2.1, Gd.bind (t := k (lt i j)) g.2.2⟩
def ga (p : Array Nat) (k : Nat) : Nat := p.getD k 0
section
variable {n : Nat} {lt : Nat → Nat → Bool}
def Pmn (n : Nat) (p : Array Nat) : Prop := p.toList.Perm (List.range n)
theorem Pmn.size {p : Array Nat} (h : Pmn n p) : p.size = n := by have := h.length_eq; simpa using this
end
section
variable {prog : Program} {w : World} {A : Around} {E : Value → Shared → Prop} {s : Shared} {b fin : Bool} {Q : Bool → Shared → Prop}
theorem katlex_ints : ∀ {vs ws : List Value} {ns ms : List Int} (i : Nat), IntsAre vs ns → IntsAre ws ms → fin = decide (ns.length < ms.length) → Q (HT.lexLt ns ms) s → KatLex prog w A true fin Q (vs.zip ws) i s
 | _, _, _, _, i, .nil, .nil, hf, h => by rw [List.zip_nil_left]; refine kat_nil ?_; rw [hf]; exact h
 | _, _, _, _, i, .nil, .cons c u t, hf, h => by
  rw [List.zip_nil_left]; refine kat_nil ?_; rw [hf, decide_eq_true (by simp)]; exact h
 | _, _, _, _, i, .cons a t r, .nil, hf, h => by
  rw [List.zip_nil_right]; refine kat_nil ?_; rw [hf, decide_eq_false (by simp)]; exact h
 | _, _, _, _, i, .cons (ns := ns) a t r, .cons (ns := ms) c u r', hf, h => by
  rw [List.zip_cons_cons]
  rw [HT.lexLt_cons] at h
  refine kat_cons (wpAny_eqBool_int (kat_go (fun e => ?_) fun e => ?_))
  ·rw [if_pos (by simpa using e)] at h
   exact kat_yes (katlex_ints (i + 1) r r' (by rw [hf]; simp) h)
  ·rw [if_neg (by simpa using e)] at h
   refine kat_no ?_
   by_cases hi : i = 0
   ·subst hi
    show wpAny _ _ (oneLt' true _ _) _ _ _
    exact oneLt_int h
   ·have e0 : (true && i == 0) = false := by simpa using hi
    rw [e0]
    exact kat_one _ _ (PyProof.Rows.lt_int h)
def TupKey (h : Heap) (v : Value) (k : List Int) : Prop := ∃ a o xs m, v = .ref a ∧ h.get? a = some o ∧ o.cls = .type "tuple" ∧ o.data = .seq xs m ∧ IntsAre xs.toList k ∧ k ≠ []
theorem TupKey.keeps {h h' : Heap} {v : Value} {k : List Int} (t : TupKey h v k) (kp : ∀ a o, h.get? a = some o → h'.get? a = some o) : TupKey h' v k := by
 obtain ⟨a, o, xs, m, e, ho, r⟩ := t
 exact ⟨a, o, xs, m, e, kp _ _ ho, r⟩
theorem TupKey.lt {v u : Value} {k l : List Int} {C : Bool → Shared → Prop} {E : Value → Shared → Prop} (t : TupKey s.heap v k) (t' : TupKey s.heap u l) (h : C (HT.lexLt k l) s) : wpAny (model prog w) A (keyLt' (tuples' true) v u) C E s := by
 obtain ⟨a, o, xs, m, rfl, ho, _, hd, hi, _⟩ := t
 obtain ⟨a', o', xs', m', rfl, ho', _, hd', hi', _⟩ := t'
 have z1 : xs.size = k.length := by rw [← hi.length]; simp
 have z2 : xs'.size = l.length := by rw [← hi'.length]; simp
 exact kat_lt ho hd ho' hd' (katlex_ints 0 hi hi' (by rw [z1, z2]) h)
def TKs (h : Heap) : List Value → List (List Int) → Prop
 | [], [] => True
 | v :: vs, k :: ks => TupKey h v k ∧ TKs h vs ks
 | _, _ => False
theorem TKs.keeps {h h' : Heap} (kp : ∀ a o, h.get? a = some o → h'.get? a = some o) : ∀ {vs : List Value} {ks : List (List Int)}, TKs h vs ks → TKs h' vs ks
 | [], [], _ => trivial
 | [], _ :: _, t => t.elim
 | _ :: _, [], t => t.elim
 | v :: vs, k :: ks, t => ⟨t.1.keeps kp, TKs.keeps kp t.2⟩
theorem TKs.len {h : Heap} : ∀ {vs : List Value} {ks : List (List Int)}, TKs h vs ks → vs.length = ks.length
 | [], [], _ => rfl
 | [], _ :: _, t => t.elim
 | _ :: _, [], t => t.elim
 | v :: vs, k :: ks, t => by simp [t.2.len]
theorem TKs.at {h : Heap} : ∀ {vs : List Value} {ks : List (List Int)} (i : Nat), TKs h vs ks → i < vs.length → TupKey h (vs.getD i Value.none) (ks.getD i [])
 | [], _, i, _, hi => absurd hi (Nat.not_lt_zero _)
 | _ :: _, [], _, t, _ => t.elim
 | v :: vs, k :: ks, 0, t, _ => t.1
 | v :: vs, k :: ks, i + 1, t, hi => TKs.at (vs := vs) (ks := ks) i t.2 (by simpa using hi)
end
namespace F'
end F'
open PySem PySem.Spec PyProof.Rows PySem.W
abbrev TH := Value → Option Addr → Addr → Ends → St → Hp → Prop
def PH (X : Cx) (hs : List ExceptHandler) (th : TH) : Prop :=
 ∀ (pins : List (Addr × Obj)) (s : Shared) (σ : St) (H : Hp) (a : Addr) (cls : Value) (cx : Option Addr) (B : Heap) (D : Ends), Inv X pins σ H s → XAt X pins H s a cls cx B .fly → th cls cx a D σ H → wpAny (model X.prog X.w) X.A (handleBy (.ref a) X.env hs) (SP X pins D) X.xe s
def thNil : TH := fun _ _ _ _ _ _ => False
def thC (K : W.Frag) (C : Addr) (ts : Addr → TS) (rest : TH) : TH := fun cls cx a D σ H =>
 (W.exmOne K cls (.ref C) = some true ∧ ts a D σ (upd H a (ExcO a cls cx))) ∨ (W.exmOne K cls (.ref C) = some false ∧ rest cls cx a D σ H)
def thAs (K : W.Frag) (C : Addr) (i : Nat) (ts : Addr → TS) (rest : TH) : TH := fun cls cx a D σ H =>
 (W.exmOne K cls (.ref C) = some true ∧ ts a { nx := fun σ' H2 => D.nx (σ'.set i none) H2, rt := D.rt, bk := fun σ' H2 => D.bk (σ'.set i none) H2, ct := fun σ' H2 => D.ct (σ'.set i none) H2 } (σ.set i (some (.ref a))) (upd H a (ExcO a cls cx))) ∨ (W.exmOne K cls (.ref C) = some false ∧ rest cls cx a D σ H)
section
variable {X : Cx}
theorem ph_nil : PH X [] thNil := fun _ _ _ _ _ _ _ _ _ _ _ h => h.elim
theorem ph_c {x : Str} {C : Addr} {suite : List Stmt} {b₀ : Stmt} {np hpos : Pos} {hs : List ExceptHandler} {ts : Addr → TS} {rest : TH} (hg : Gl X x) (hm : X.mg x = some (.ref C)) (hh : ∀ a, PSs (X.inExc a).nox (b₀ :: suite) (ts a)) (hr : PH X hs rest)
  (hd : (x == ("__debug__" : Str)) = false := by decide) : PH X (.ExceptHandler (some (.Name x np)) none (b₀ :: suite) hpos :: hs) (thC X.K C ts rest) := by
 intro pins s σ H a cls cx B D I x4 h
 have ok := I.ok
 refine wpAny_handleBy_cons (codeAny_handlers_test (ld_glob (I.toExc (a := a)) hg hm ?_ hd)) (by intro q; cases q)
 obtain ⟨oe, vs, e, hc, d, _⟩ := x4.tr.there
 have LT : W.Looks (model X.prog X.w) s.heap (typeOf (.ref a)) cls := hc ▸ (W.Looks.ld e).andThen .now
 rcases h with ⟨hx, hsu⟩ | ⟨hx, hn⟩
 ·refine (W.exm_one I.kIn LT hx).here ?_
  refine codeAny_handlers_suite ?_
  refine land_ok I x4 (fun z => nomatch z) fun h5 I5 x5 => ?_
  refine wpAny_mono (hh a pins _ _ _ D ((I5.track x5).toExc.wish _) hsu) (fun f s6 q => q.unwish.ofExc ok) fun _ _ z => z.elim
 ·refine (W.exm_one I.kIn LT hx).here ?_
  exact hr pins s σ H a cls cx B D I x4 hn
theorem ph_as {x n : Str} {i : Nat} {C : Addr} {suite : List Stmt} {b₀ : Stmt} {np hpos : Pos} {hs : List ExceptHandler} {ts : Addr → TS} {rest : TH} (hg : Gl X x) (hm : X.mg x = some (.ref C)) (hN : X.N.Nodup) (hi : X.N[i]? = some n) (hh : ∀ a, PSs (X.inExc a).nox (b₀ :: suite) (ts a)) (hr : PH X hs rest)
  (hl : X.env.scope.names.lookup n = some .local := by rfl) (hd : (x == ("__debug__" : Str)) = false := by decide) : PH X (.ExceptHandler (some (.Name x np)) (some n) (b₀ :: suite) hpos :: hs) (thAs X.K C i ts rest) := by
 intro pins s σ H a cls cx B D I x4 h
 have ok := I.ok
 refine wpAny_handleBy_cons (codeAny_handlers_test (ld_glob (I.toExc (a := a)) hg hm ?_ hd)) (by intro q; cases q)
 obtain ⟨oe, vs, e, hc, d, _⟩ := x4.tr.there
 have LT : W.Looks (model X.prog X.w) s.heap (typeOf (.ref a)) cls := hc ▸ (W.Looks.ld e).andThen .now
 rcases h with ⟨hx, hsu⟩ | ⟨hx, hn⟩
 ·refine (W.exm_one I.kIn LT hx).here ?_
  refine codeAny_handlers_suite_as ?_
  refine land_ok I x4 (fun z => nomatch z) fun h5 I5 x5 => ?_
  have I6 := (I5.track x5).toExc (a := a)
  refine store_ok (X := X.inExc a) (v := .ref a) I6 hN hi (.inl hl) rfl (fun s6 I7 => ?_) (.inr hl)
  refine wpAny_mono (hh a pins s6 _ _ _ (I7.wish _) hsu) (fun f s7 q => ?_) fun _ _ z => z.elim
  have q := (q.unwish).ofExc ok
  cases f with
  | next =>
   obtain ⟨σ7, H7, I8, q⟩ := q
   exact I8.nameGoes hN hi hl fun h8 I9 => ⟨_, H7, I9, q⟩
  | brk =>
   obtain ⟨σ7, H7, I8, q⟩ := q
   exact I8.nameGoes hN hi hl fun h8 I9 => ⟨_, H7, I9, q⟩
  | cont =>
   obtain ⟨σ7, H7, I8, q⟩ := q
   exact I8.nameGoes hN hi hl fun h8 I9 => ⟨_, H7, I9, q⟩
  | ret u =>
   obtain ⟨v7, σ7, H7, I8, r, q⟩ := q
   exact I8.nameGoes hN hi hl fun h8 I9 => ⟨v7, _, H7, I9, r, q⟩
 ·refine (W.exm_one I.kIn LT hx).here ?_
  exact hr pins s σ H a cls cx B D I x4 hn
def XAccAt (X : Cx) (σ : St) (E : XK) : Prop := ∀ (pins : List (Addr × Obj)) (H : Hp) (s : Shared) (a : Addr) (cls : Value) (cx : Option Addr) (B : Heap) (ph : Ph), Inv X pins σ H s → XAt X pins H s a cls cx B ph → E cls cx H → X.xe (.ref a) s
theorem XAccAt.passes {σ : St} {E : XK} (acc : XAccAt X σ E) : ∀ (pins : List (Addr × Obj)) (H : Hp) (s : Shared) (e : Value) (s' : Shared), Inv X pins σ H s → CXe X.prog X.w X.stack H s E e s' → X.xe e s' := by
 intro pins H s e s' I h
 obtain ⟨a, cls, cx, H', B, rfl, os, bare, un, hok, st, fr, ff, tr, free, cov, hE⟩ := h
 have I' : Inv X pins σ H' s' := I.call' (ch := []) os un hok bare (fun b z => absurd z (by simp))
 refine acc pins H' s' a cls cx B .fly I' ⟨free, st, fr, ff, fun b o e i n => cov b o e ?_ n, tr⟩ hE
 rcases i with i | ⟨hx, o', i⟩ | ⟨p, hp, q⟩
 ·exact .inl i
 ·exact .inr (I.base.there b o' i hx)
 ·exact .inr ⟨p.2, by rw [← q]; exact (I.pin p hp).1⟩
theorem call_at {k k' : Nat} {ps : List Str} {sp : Sp} {x : Str} {p pos : Pos} {e : Expr} {es : List Expr} {t : TA} {E : XK} {σ : St} (G : Own X.prog X.w X.K X.mg X.base k x ps sp) (hr : Room k' X.A) (hk : k ≤ k') (acc : XAccAt X σ E) (ha : PA X (e :: es) t) (hg : Gl X x)
  (hdb : (x == ("__debug__" : Str)) = false := by decide) (he : starEach (e :: es) X.env = (false, eval e X.env) :: starEach es X.env := by rfl) (hpl : (backTo pos (starEach es X.env)).any (·.1) = false := by rfl)
  {pins : List (Addr × Obj)} {s : Shared} {H : Hp} {Q : VK} (I : Inv X pins σ H s) (h : tCall sp [] E t σ H Q) : wpAny (model X.prog X.w) X.A (eval (.Call (.Name x p) (e :: es) [] pos) X.env) (EP X pins σ Q) X.xe s := by
 obtain ⟨f, fd, F, b, kp, m⟩ := G.ex
 refine wpAny_Call_Name_kw (ld_glob I hg m ?_ hdb)
 refine W.callWith_K (h₀ := X.base) I.ok.mod.kin kp (thn (ha pos pins s σ H _ I h) fun us s1 ⟨vs, H1, I1, r, q⟩ => ⟨I1.kIn, ?_⟩) he hpl
 have q : sp (vs ++ []) H1 Q E := q
 rw [List.append_nil] at q
 have hl : us.length = ps.length := by rw [← r.length]; exact F.len _ _ _ _ q
 have hb := b s1 us I1.kIn (by rw [List.append_nil]; exact hl)
 rw [List.append_nil] at hb
 refine wpAny_call (codeAny_mono (F.run X.A X.stack s1 H1 ⟨us, []⟩ us vs Q E (hr.mono hk) I1.env0 hb r q) fun r s' hq => ?_)
 cases r with
 | error e => exact acc.passes pins H1 s1 e s' I1 hq
 | ok fl =>
  cases fl with
  | ret u => exact I1.after hq
  | next => exact False.elim hq
  | brk => exact False.elim hq
  | cont => exact False.elim hq
def tTryC (sp : Sp) (t : TA) (th : TH) : TS := fun D σ H => ∃ Eh : XK, tCall sp [] Eh t σ H (fun _ H2 => D.nx σ H2) ∧ ∀ cls cx H', Eh cls cx H' → ∀ a, H' a = none → th cls cx a D σ H'
theorem ps_tryC {k k' : Nat} {ps : List Str} {sp : Sp} {x : Str} {p cpos epos : Pos} {e : Expr} {es : List Expr} {t : TA} {h₀ : ExceptHandler} {hs : List ExceptHandler} {pos : Pos} {th : TH}
  (G : Own X.prog X.w X.K X.mg X.base k x ps sp) (hr : Room k' X.A) (hk : k ≤ k') (ha : ∀ (E2 : Value → Shared → Prop) (pins : List (Addr × Obj)), PA (X.tryCx E2 pins) (e :: es) t) (hh : PH X (h₀ :: hs) th) (hg : Gl X x := by rfl)
  (hdb : (x == ("__debug__" : Str)) = false := by decide) (he : starEach (e :: es) X.env = (false, eval e X.env) :: starEach es X.env := by rfl) (hpl : (backTo cpos (starEach es X.env)).any (·.1) = false := by rfl)
  (hsw : swapsWith (.Call (.Name x p) (e :: es) [] cpos) none epos.line X.env = pure false := by rfl)
  (hst : X.stack = X.env :: X.outer := by rfl) (hf : X.env.frame = some X.env.locals := by rfl) (hex : X.ex = [] := by rfl) :
  PS X (.Try [.Expr (.Call (.Name x p) (e :: es) [] cpos) epos] (h₀ :: hs) [] [] pos) (tTryC sp t th) := by
 intro pins s σ H D I h
 obtain ⟨Eh, h1, h2⟩ := h
 refine wpAny_Try_except ?_
 have ok := I.ok
 have acc : XAccAt (X.tryCx (fun e s₁ => wpAny (model X.prog X.w) X.A (noteFrame e X.env) (fun _ s₂ => wpAny (model X.prog X.w) X.A (setFlight e none) (fun _ s₃ =>
   wpAny (model X.prog X.w) X.A (handleBy e X.env (h₀ :: hs)) (SP X pins D) X.xe s₃) X.xe s₂) X.xe s₁) pins) σ Eh := by
  intro pins' H' s1 a cls cx B ph I1 x1 hE
  have I2 : Inv X pins σ H' s1 := I1.ofTry ok
  have x2 : XAt X pins H' s1 a cls cx B ph := ⟨x1.free, x1.stays, x1.fresh, x1.frames, fun b o e i n => x1.cov b o e (i.elim .inl fun z => .inr (z.elim .inl fun ⟨p, hp, q⟩ => .inr ⟨p, List.mem_append_left _ hp, q⟩)) n, x1.tr⟩
  refine note_ok ok.frames hst rfl hf I2 x2 fun h3 I3 x3 => ?_
  refine land_ok I3 x3 (fun z => nomatch z) fun h4 I4 x4 => ?_
  exact hh pins _ _ _ a cls cx B D I4 x4 (h2 cls cx H' hE a x4.free)
 have It := I.toTry (pins := pins) (E2 := fun e s₁ => wpAny (model X.prog X.w) X.A (noteFrame e X.env) (fun _ s₂ => wpAny (model X.prog X.w) X.A (setFlight e none) (fun _ s₃ =>
   wpAny (model X.prog X.w) X.A (handleBy e X.env (h₀ :: hs)) (SP X pins D) X.xe s₃) X.xe s₂) X.xe s₁)
 refine wpAny_mono (wpAny_execs_cons (Q := fun f s1 => f = .next ∧ ∃ H', Inv X pins σ H' s1 ∧ D.nx σ H') (wpAny_Expr_any (thn (call_at (X := X.tryCx _ pins) G hr hk acc (ha _ pins) hg hdb he hpl It h1) fun v s1 ⟨x, H1, I1, r1, q1⟩ => ?_) It.quiet hsw)) (fun f s1 q => ?_) fun e s1 q => q
 ·exact wpAny_execs_nil ⟨rfl, H1, I1.ofTry ok, q1⟩
 ·obtain ⟨rfl, H', I', q⟩ := q
  exact wpAny_execs_nil ⟨σ, H', I', q⟩
end
section
variable {prog : Program} {w : World} {A : Around} {E : Value → Shared → Prop} {s : Shared} {fin : Bool} {Q : Bool → Shared → Prop}
theorem katlex_pre {rs rs' : List Value} : ∀ {vs ws : List Value} {ns ms : List Int} (i : Nat), IntsAre vs ns → IntsAre ws ms → ns.length = ms.length → ns ≠ ms → Q (HT.lexLt ns ms) s → KatLex prog w A true fin Q ((vs ++ rs).zip (ws ++ rs')) i s
 | _, _, _, _, i, .nil, .nil, _, hn, _ => absurd rfl hn
 | _, _, _, _, i, .nil, .cons c u t, hf, _, _ => by simp at hf
 | _, _, _, _, i, .cons a t r, .nil, hf, _, _ => by simp at hf
 | _, _, _, _, i, .cons (ns := ns) a t r, .cons (ns := ms) c u r', hf, hn, h => by
  rw [List.cons_append, List.cons_append, List.zip_cons_cons]
  rw [HT.lexLt_cons] at h
  refine kat_cons (wpAny_eqBool_int (kat_go (fun e => ?_) fun e => ?_))
  ·have e' : a = c := by simpa using e
   rw [if_pos e'] at h
   exact kat_yes (katlex_pre (i + 1) r r' (by simpa using hf) (fun z => hn (by rw [e', z])) h)
  ·rw [if_neg (by simpa using e)] at h
   refine kat_no ?_
   by_cases hi : i = 0
   ·subst hi
    show wpAny _ _ (oneLt' true _ _) _ _ _
    exact oneLt_int h
   ·have e0 : (true && i == 0) = false := by simpa using hi
    rw [e0]
    exact kat_one _ _ (PyProof.Rows.lt_int h)
def TupPre (h : Heap) (v : Value) (k : List Int) : Prop := ∃ a o xs m vs rs, v = .ref a ∧ h.get? a = some o ∧ o.cls = .type "tuple" ∧ o.data = .seq xs m ∧ xs.toList = vs ++ rs ∧ IntsAre vs k ∧ k ≠ [] ∧ ∀ u ∈ xs.toList, (u == u) = true
theorem TupPre.keeps {h h' : Heap} {v : Value} {k : List Int} (t : TupPre h v k) (kp : ∀ a o, h.get? a = some o → h'.get? a = some o) : TupPre h' v k := by
 obtain ⟨a, o, xs, m, vs, rs, e, ho, r⟩ := t
 exact ⟨a, o, xs, m, vs, rs, e, kp _ _ ho, r⟩
theorem TupPre.lt {v u : Value} {k l : List Int} {C : Bool → Shared → Prop} (t : TupPre s.heap v k) (t' : TupPre s.heap u l) (hl : k.length = l.length) (hn : k ≠ l) (h : C (HT.lexLt k l) s) : wpAny (model prog w) A (keyLt' (tuples' true) v u) C E s := by
 obtain ⟨a, o, xs, m, vs, rs, rfl, ho, _, hd, hx, hi, _⟩ := t
 obtain ⟨a', o', xs', m', vs', rs', rfl, ho', _, hd', hx', hi', _⟩ := t'
 refine kat_lt ho hd ho' hd' ?_
 rw [hx, hx']
 exact katlex_pre 0 hi hi' hl hn h
def TPs (h : Heap) : List Value → List (List Int) → Prop
 | [], [] => True
 | v :: vs, k :: ks => TupPre h v k ∧ TPs h vs ks
 | _, _ => False
theorem TPs.keeps {h h' : Heap} (kp : ∀ a o, h.get? a = some o → h'.get? a = some o) : ∀ {vs : List Value} {ks : List (List Int)}, TPs h vs ks → TPs h' vs ks
 | [], [], _ => trivial
 | [], _ :: _, t => t.elim
 | _ :: _, [], t => t.elim
 | v :: vs, k :: ks, t => ⟨t.1.keeps kp, TPs.keeps kp t.2⟩
theorem TPs.at {h : Heap} : ∀ {vs : List Value} {ks : List (List Int)} (i : Nat), TPs h vs ks → i < vs.length → TupPre h (vs.getD i Value.none) (ks.getD i [])
 | [], _, i, _, hi => absurd hi (Nat.not_lt_zero _)
 | _ :: _, [], _, t, _ => t.elim
 | v :: vs, k :: ks, 0, t, _ => t.1
 | v :: vs, k :: ks, i + 1, t, hi => TPs.at (vs := vs) (ks := ks) i t.2 (by simpa using hi)
end
inductive D where
 | non | bl (b : Bool) | int (i : Int) | str (x : Str) | ty (n : String) | cls (n : Str) | tup (ds : List D) | lst (ds : List D) | scr (ns : List Int) | exc (c : Str) | obj (c : Str) (ns : List Str) (ds : List D)
mutual
def Rp (K : W.Frag) (cl : Str → Addr) (F : Hp) : D → V → Prop
 | .non, v => v = .non
 | .bl b, v => v = .bl b
 | .int i, v => v = .int i
 | .str x, v => v = .str x
 | .ty n, v => v = .ty n
 | .cls n, v => v = .ref (cl n)
 | .tup ds, v => ∃ a xs, v = .ref a ∧ F a = some (.tup xs) ∧ Rps K cl F ds xs
 | .lst ds, v => ∃ a xs, v = .ref a ∧ F a = some (.lst xs) ∧ Rps K cl F ds xs
 | .scr ns, v => ∃ a, v = .ref a ∧ Scr K F a (ns.map V.int)
 | .exc c, v => ∃ a cx, v = .ref a ∧ F a = some (ExcO a (.ref (cl c)) cx)
 | .obj c ns ds, v => ∃ a dx xs, v = .ref a ∧ F a = some (.ins (cl c) dx (ns.zip xs)) ∧ ns.length = xs.length ∧ Rps K cl F ds xs
def Rps (K : W.Frag) (cl : Str → Addr) (F : Hp) : List D → List V → Prop
 | [], vs => vs = []
 | d :: ds, vs => ∃ v r, vs = v :: r ∧ Rp K cl F d v ∧ Rps K cl F ds r
end
section
variable {K : W.Frag} {cl : Str → Addr} {F F' H H' : Hp}
mutual
theorem Rp.mono (g : Same F F') : ∀ (d : D) (v : V), Rp K cl F d v → Rp K cl F' d v
 | .non, _, h => by simpa only [Rp] using h
 | .bl _, _, h => by simpa only [Rp] using h
 | .int _, _, h => by simpa only [Rp] using h
 | .str _, _, h => by simpa only [Rp] using h
 | .ty _, _, h => by simpa only [Rp] using h
 | .cls _, _, h => by simpa only [Rp] using h
 | .tup ds, v, h => by
  simp only [Rp] at h ⊢
  obtain ⟨a, xs, e, h1, h2⟩ := h
  exact ⟨a, xs, e, g _ _ h1, Rps.mono g ds xs h2⟩
 | .lst ds, v, h => by
  simp only [Rp] at h ⊢
  obtain ⟨a, xs, e, h1, h2⟩ := h
  exact ⟨a, xs, e, g _ _ h1, Rps.mono g ds xs h2⟩
 | .scr ns, v, h => by
  simp only [Rp] at h ⊢
  obtain ⟨a, e, h1⟩ := h
  exact ⟨a, e, h1.same g⟩
 | .exc c, v, h => by
  simp only [Rp] at h ⊢
  obtain ⟨a, cx, e, h1⟩ := h
  exact ⟨a, cx, e, g _ _ h1⟩
 | .obj c ns ds, v, h => by
  simp only [Rp] at h ⊢
  obtain ⟨a, dx, xs, e, h1, hl, h2⟩ := h
  exact ⟨a, dx, xs, e, g _ _ h1, hl, Rps.mono g ds xs h2⟩
theorem Rps.mono (g : Same F F') : ∀ (ds : List D) (vs : List V), Rps K cl F ds vs → Rps K cl F' ds vs
 | [], _, h => by simpa only [Rps] using h
 | d :: ds, vs, h => by
  simp only [Rps] at h ⊢
  obtain ⟨v, r, e, h1, h2⟩ := h
  exact ⟨v, r, e, Rp.mono g d v h1, Rps.mono g ds r h2⟩
end
theorem Rps.nil : Rps K cl F [] [] := by simp only [Rps]
theorem Rps.cons {d : D} {v : V} {ds : List D} {vs : List V} (h : Rp K cl F d v) (t : Rps K cl F ds vs) : Rps K cl F (d :: ds) (v :: vs) := by simp only [Rps]; exact ⟨v, vs, rfl, h, t⟩
theorem Rps.inv {d : D} {ds : List D} {vs : List V} (h : Rps K cl F (d :: ds) vs) : ∃ v r, vs = v :: r ∧ Rp K cl F d v ∧ Rps K cl F ds r := by simpa only [Rps] using h
theorem Rps.inv0 {vs : List V} (h : Rps K cl F [] vs) : vs = [] := by simpa only [Rps] using h
theorem Rps.length : ∀ {ds : List D} {vs : List V}, Rps K cl F ds vs → ds.length = vs.length
 | [], vs, h => by rw [h.inv0]; rfl
 | d :: ds, vs, h => by obtain ⟨v, r, rfl, _, t⟩ := h.inv; simp [t.length]
theorem Rps.get : ∀ {ds : List D} {vs : List V} {i : Nat} {d : D}, Rps K cl F ds vs → ds[i]? = some d → ∃ v, vs[i]? = some v ∧ Rp K cl F d v
 | [], _, _, _, _, e => by simp at e
 | d :: ds, vs, 0, x, h, e => by
  obtain ⟨v, r, rfl, h1, _⟩ := h.inv
  simp at e; subst e
  exact ⟨v, rfl, h1⟩
 | d :: ds, vs, i + 1, x, h, e => by
  obtain ⟨v, r, rfl, _, t⟩ := h.inv
  obtain ⟨u, h1, h2⟩ := t.get (i := i) (d := x) (by simpa using e)
  exact ⟨u, by simpa using h1, h2⟩
theorem Rps.get' {ds : List D} {vs : List V} {i : Nat} {v : V} (h : Rps K cl F ds vs) (e : vs[i]? = some v) : ∃ d, ds[i]? = some d ∧ Rp K cl F d v := by
 have hi : i < ds.length := by
  have := (List.getElem?_eq_some_iff.mp e).1
  rw [h.length]; exact this
 obtain ⟨u, h1, h2⟩ := h.get (List.getElem?_eq_getElem hi)
 rw [e] at h1; cases h1
 exact ⟨_, List.getElem?_eq_getElem hi, h2⟩
theorem Rps.append : ∀ {ds es : List D} {vs us : List V}, Rps K cl F ds vs → Rps K cl F es us → Rps K cl F (ds ++ es) (vs ++ us)
 | [], _, _, _, h, t => by rw [h.inv0]; exact t
 | d :: ds, _, _, _, h, t => by obtain ⟨v, r, rfl, h1, h2⟩ := h.inv; exact .cons h1 (h2.append t)
theorem Rps.one {d : D} {v : V} (h : Rp K cl F d v) : Rps K cl F [d] [v] := .cons h .nil
theorem Rps.set {d : D} {v : V} (r : Rp K cl F d v) : ∀ {ds : List D} {vs : List V} (i : Nat), Rps K cl F ds vs → Rps K cl F (ds.set i d) (vs.set i v)
 | [], _, _, h => by rw [h.inv0]; exact .nil
 | _ :: _, _, 0, h => by obtain ⟨_, _, rfl, _, h2⟩ := h.inv; exact .cons r h2
 | _ :: _, _, i + 1, h => by obtain ⟨_, _, rfl, h1, h2⟩ := h.inv; exact .cons h1 (h2.set r i)
theorem Rps.drop : ∀ {ds : List D} {vs : List V} (n : Nat), Rps K cl F ds vs → Rps K cl F (ds.drop n) (vs.drop n)
 | _, _, 0, h => h
 | [], _, _ + 1, h => by rw [h.inv0]; exact .nil
 | _ :: _, _, n + 1, h => by obtain ⟨_, _, rfl, _, h2⟩ := h.inv; exact h2.drop n
theorem Rps.take : ∀ {ds : List D} {vs : List V} (n : Nat), Rps K cl F ds vs → Rps K cl F (ds.take n) (vs.take n)
 | _, _, 0, h => .nil
 | [], _, _ + 1, h => by rw [h.inv0]; exact .nil
 | _ :: _, _, n + 1, h => by obtain ⟨_, _, rfl, h1, h2⟩ := h.inv; exact .cons h1 (h2.take n)
theorem Rps.ints : ∀ {ns : List Int} {vs : List V}, Rps K cl F (ns.map D.int) vs → vs = ns.map V.int
 | [], _, h => h.inv0
 | n :: ns, _, h => by
  obtain ⟨v, r, rfl, h1, h2⟩ := h.inv
  rw [h2.ints]
  simp only [Rp] at h1
  rw [h1]; rfl
theorem Rps.ofInts : ∀ {ns : List Int}, Rps K cl F (ns.map D.int) (ns.map V.int)
 | [] => .nil
 | _ :: _ => .cons (by simp only [Rp]) Rps.ofInts
theorem Rps.strs : ∀ {bs : List Str} {vs : List V}, Rps K cl F (bs.map D.str) vs → vs = bs.map V.str
 | [], _, h => h.inv0
 | n :: ns, _, h => by
  obtain ⟨v, r, rfl, h1, h2⟩ := h.inv
  rw [h2.strs]
  simp only [Rp] at h1
  rw [h1]; rfl
end
inductive Sl where | no | fz (d : D) | ow (ds : List D) | hd (ds : List D)
abbrev DE := List Sl
def Mu (env : DE) (i : Nat) : Prop := ∃ ds : List D, env[i]? = some (.ow ds) ∨ env[i]? = some (.hd ds)
def Ow (σ : St) (env : DE) (a : Addr) : Prop := ∃ (i : Nat) (ds : List D), env[i]? = some (Sl.ow ds) ∧ σ[i]? = some (some (V.ref a))
structure Rel (K : W.Frag) (cl : Str → Addr) (σ : St) (H F : Hp) (env : DE) : Prop where
 sub : Same F H
 len : σ.length = env.length
 fz : ∀ (i : Nat) (d : D), env[i]? = some (.fz d) → ∃ v, σ[i]? = some (some v) ∧ Rp K cl F d v
 mu : ∀ (i : Nat) (ds : List D), (env[i]? = some (.ow ds) ∨ env[i]? = some (.hd ds)) → ∃ a xs, σ[i]? = some (some (.ref a)) ∧ H a = some (.lst xs) ∧ F a = none ∧ Rps K cl F ds xs
 inj : ∀ (i j : Nat) (a : Addr), Mu env i → Mu env j → σ[i]? = some (some (.ref a)) → σ[j]? = some (some (.ref a)) → i = j
structure Frm (σ : St) (H F : Hp) (env : DE) (σ' : St) (H' F' : Hp) (env' : DE) : Prop where
 fz : Same F F'
 hid : ∀ a o, H a = some o → F a = none → ¬ Ow σ env a → H' a = some o ∧ F' a = none ∧ ¬ Ow σ' env' a
 keep : ∀ (i : Nat) (ds : List D), env[i]? = some (.hd ds) → env'[i]? = some (.hd ds) ∧ σ'[i]? = σ[i]?
 dom : ∀ a, H' a = none → H a = none
structure Gr (H F H' F' : Hp) : Prop where
 fz : Same F F'
 sub : Same F' H'
 hid : ∀ a o, H a = some o → F a = none → H' a = some o ∧ F' a = none
section
variable {K : W.Frag} {cl : Str → Addr} {σ σ' σ'' : St} {H H' H'' F F' F'' : Hp} {env env' env'' : DE}
theorem Frm.refl : Frm σ H F env σ H F env := ⟨Same.refl _, fun _ _ h f o => ⟨h, f, o⟩, fun _ _ h => ⟨h, rfl⟩, fun _ h => h⟩
theorem Frm.trans (a : Frm σ H F env σ' H' F' env') (b : Frm σ' H' F' env' σ'' H'' F'' env'') : Frm σ H F env σ'' H'' F'' env'' :=
 ⟨a.fz.trans b.fz, fun x o h f w => by obtain ⟨h1, f1, w1⟩ := a.hid x o h f w; exact b.hid x o h1 f1 w1,
  fun i ds h => by obtain ⟨h1, e1⟩ := a.keep i ds h; obtain ⟨h2, e2⟩ := b.keep i ds h1; exact ⟨h2, e2.trans e1⟩, fun x h => a.dom x (b.dom x h)⟩
theorem Gr.dom (g : Gr H F H' F') (a : Addr) (h : H' a = none) : H a = none := by
 cases e : H a with
 | none => rfl
 | some o =>
  cases f : F a with
  | none => rw [(g.hid a o e f).1] at h; cases h
  | some u => rw [g.sub _ _ (g.fz _ _ f)] at h; cases h
theorem Rel.gr (R : Rel K cl σ H F env) (g : Gr H F H' F') : Rel K cl σ H' F' env :=
 ⟨g.sub, R.len, fun i d h => by obtain ⟨v, e, r⟩ := R.fz i d h; exact ⟨v, e, r.mono g.fz⟩,
  fun i ds h => by obtain ⟨a, xs, e, hH, hF, r⟩ := R.mu i ds h; obtain ⟨h1, f1⟩ := g.hid a _ hH hF; exact ⟨a, xs, e, h1, f1, r.mono g.fz⟩, R.inj⟩
theorem Rel.frm (R : Rel K cl σ H F env) (g : Gr H F H' F') : Frm σ H F env σ H' F' env :=
 ⟨g.fz, fun a o h f w => by obtain ⟨h1, f1⟩ := g.hid a o h f; exact ⟨h1, f1, w⟩, fun _ _ h => ⟨h, rfl⟩, g.dom⟩
theorem Gr.refl (s : Same F H) : Gr H F H F := ⟨Same.refl _, s, fun _ _ h f => ⟨h, f⟩⟩
theorem Gr.trans (a : Gr H F H' F') (b : Gr H' F' H'' F'') : Gr H F H'' F'' := ⟨a.fz.trans b.fz, b.sub, fun x o h f => by obtain ⟨h1, f1⟩ := a.hid x o h f; exact b.hid x o h1 f1⟩
theorem Gr.new {p : Addr} {o : HO} (s : Same F H) (hp : H p = none) : Gr H F (upd H p o) (upd F p o) := by
 have fp : F p = none := s.free hp
 refine ⟨same_new fp o, fun b u e => ?_, fun a u e f => ?_⟩
 ·by_cases z : b = p
  ·subst z; rw [upd_same] at e ⊢; exact e
  ·rw [upd_ne z] at e ⊢; exact s _ _ e
 ·have z : a ≠ p := fun z => by rw [z, hp] at e; cases e
  rw [upd_ne z, upd_ne z]; exact ⟨e, f⟩
theorem Rel.freeze {i : Nat} {ds : List D} (R : Rel K cl σ H F env) (h : env[i]? = some (.ow ds)) : ∃ a F', σ[i]? = some (some (.ref a)) ∧ Frm σ H F env σ H F' (env.set i (.fz (.lst ds))) ∧ Rel K cl σ H F' (env.set i (.fz (.lst ds))) ∧ Rp K cl F' (.lst ds) (.ref a) := by
 obtain ⟨a, xs, e, hH, hF, r⟩ := R.mu i ds (.inl h)
 have hi : i < env.length := (List.getElem?_eq_some_iff.mp h).1
 have sF : Same F (upd F a (.lst xs)) := same_new hF _
 have oth : ∀ j, j ≠ i → (env.set i (.fz (.lst ds)))[j]? = env[j]? := fun j hj => List.getElem?_set_ne (Ne.symm hj)
 have self : (env.set i (.fz (.lst ds)))[i]? = some (.fz (.lst ds)) := List.getElem?_set_self hi
 have mui : ∀ j, Mu (env.set i (.fz (.lst ds))) j → j ≠ i ∧ Mu env j := fun j ⟨es, q⟩ => by
  by_cases z : j = i
  ·subst z; rw [self] at q; rcases q with q | q <;> cases q
  ·rw [oth j z] at q; exact ⟨z, es, q⟩
 have rl : Rp K cl (upd F a (.lst xs)) (.lst ds) (.ref a) := by simp only [Rp]; exact ⟨a, xs, rfl, upd_same, r.mono sF⟩
 refine ⟨a, upd F a (.lst xs), e, ⟨sF, fun b o hb fb w => ?_, fun j es q => ?_, fun _ h => h⟩, ⟨fun b o q => ?_, by rw [List.length_set]; exact R.len, fun j d q => ?_, fun j es q => ?_, fun j k b hj hk e1 e2 => R.inj j k b (mui j hj).2 (mui k hk).2 e1 e2⟩, rl⟩
 ·have z : b ≠ a := fun z => w ⟨i, ds, h, by rw [z]; exact e⟩
  refine ⟨hb, by rw [upd_ne z]; exact fb, fun ⟨j, es, q, e1⟩ => ?_⟩
  by_cases y : j = i
  ·subst y; rw [self] at q; cases q
  ·rw [oth j y] at q; exact w ⟨j, es, q, e1⟩
 ·have z : j ≠ i := fun z => by subst z; rw [h] at q; cases q
  exact ⟨by rw [oth j z]; exact q, rfl⟩
 ·by_cases z : b = a
  ·subst z; rw [upd_same] at q; cases q; exact hH
  ·rw [upd_ne z] at q; exact R.sub _ _ q
 ·by_cases z : j = i
  ·subst z; rw [self] at q; cases q; exact ⟨_, e, rl⟩
  ·rw [oth j z] at q; obtain ⟨v, e1, r1⟩ := R.fz j d q; exact ⟨v, e1, r1.mono sF⟩
 ·have z : j ≠ i := (mui j ⟨es, q⟩).1
  rw [oth j z] at q
  obtain ⟨b, ys, e1, h1, f1, r1⟩ := R.mu j es q
  have nb : b ≠ a := fun y => z (R.inj j i b ⟨es, q⟩ ⟨ds, .inl h⟩ e1 (by rw [y]; exact e))
  exact ⟨b, ys, e1, h1, by rw [upd_ne nb]; exact f1, r1.mono sF⟩
theorem Rel.put {i : Nat} {d : D} {v : V} (R : Rel K cl σ H F env) (hi : i < env.length) (nh : ∀ ds, env[i]? ≠ some (.hd ds)) (r : Rp K cl F d v) : Rel K cl (σ.set i (some v)) H F (env.set i (.fz d)) := by
 refine ⟨R.sub, by rw [List.length_set, List.length_set]; exact R.len, fun j e q => ?_, fun j es q => ?_, fun j k b hj hk e1 e2 => ?_⟩
 ·by_cases z : j = i
  ·subst z
   rw [List.getElem?_set_self hi] at q; cases q
   exact ⟨v, List.getElem?_set_self (by rw [R.len]; exact hi), r⟩
  ·rw [List.getElem?_set_ne (Ne.symm z)] at q
   obtain ⟨u, e1, r1⟩ := R.fz j e q
   exact ⟨u, by rw [List.getElem?_set_ne (Ne.symm z)]; exact e1, r1⟩
 ·have z : j ≠ i := fun z => by
   subst z
   rw [List.getElem?_set_self hi] at q
   rcases q with q | q <;> cases q
  rw [List.getElem?_set_ne (Ne.symm z)] at q
  obtain ⟨a, xs, e1, h1, f1, r1⟩ := R.mu j es q
  exact ⟨a, xs, by rw [List.getElem?_set_ne (Ne.symm z)]; exact e1, h1, f1, r1⟩
 ·have nz : ∀ j, Mu (env.set i (.fz d)) j → j ≠ i ∧ Mu env j := fun j ⟨es, q⟩ => by
   by_cases z : j = i
   ·subst z
    rw [List.getElem?_set_self hi] at q
    rcases q with q | q <;> cases q
   ·rw [List.getElem?_set_ne (Ne.symm z)] at q; exact ⟨z, es, q⟩
  obtain ⟨zj, mj⟩ := nz j hj
  obtain ⟨zk, mk⟩ := nz k hk
  rw [List.getElem?_set_ne (Ne.symm zj)] at e1
  rw [List.getElem?_set_ne (Ne.symm zk)] at e2
  exact R.inj j k b mj mk e1 e2
theorem Rel.putO {i : Nat} {ds : List D} {a : Addr} {xs : List V} (R : Rel K cl σ H F env) (hi : i < env.length) (hH : H a = some (.lst xs)) (hF : F a = none) (na : ∀ j, Mu env j → σ[j]? ≠ some (some (.ref a))) (r : Rps K cl F ds xs) : Rel K cl (σ.set i (some (.ref a))) H F (env.set i (.ow ds)) := by
 have his : i < σ.length := by rw [R.len]; exact hi
 have nz : ∀ j, j ≠ i → Mu (env.set i (.ow ds)) j → Mu env j := fun j z ⟨es, q⟩ => by
  rw [List.getElem?_set_ne (Ne.symm z)] at q; exact ⟨es, q⟩
 refine ⟨R.sub, by rw [List.length_set, List.length_set]; exact R.len, fun j e q => ?_, fun j es q => ?_, fun j k b hj hk e1 e2 => ?_⟩
 ·have z : j ≠ i := fun z => by subst z; rw [List.getElem?_set_self hi] at q; cases q
  rw [List.getElem?_set_ne (Ne.symm z)] at q
  obtain ⟨u, e1, r1⟩ := R.fz j e q
  exact ⟨u, by rw [List.getElem?_set_ne (Ne.symm z)]; exact e1, r1⟩
 ·by_cases z : j = i
  ·subst z
   rw [List.getElem?_set_self hi] at q
   rcases q with q | q
   ·cases q; exact ⟨a, xs, List.getElem?_set_self his, hH, hF, r⟩
   ·cases q
  ·rw [List.getElem?_set_ne (Ne.symm z)] at q
   obtain ⟨b, ys, e1, h1, f1, r1⟩ := R.mu j es q
   exact ⟨b, ys, by rw [List.getElem?_set_ne (Ne.symm z)]; exact e1, h1, f1, r1⟩
 ·by_cases zj : j = i
  ·by_cases zk : k = i
   ·rw [zj, zk]
   ·subst zj
    rw [List.getElem?_set_self his] at e1
    rw [List.getElem?_set_ne (Ne.symm zk)] at e2
    cases e1
    exact absurd e2 (na k (nz k zk hk))
  ·rw [List.getElem?_set_ne (Ne.symm zj)] at e1
   by_cases zk : k = i
   ·subst zk
    rw [List.getElem?_set_self his] at e2
    cases e2
    exact absurd e1 (na j (nz j zj hj))
   ·rw [List.getElem?_set_ne (Ne.symm zk)] at e2
    exact R.inj j k b (nz j zj hj) (nz k zk hk) e1 e2
theorem Frm.put {i : Nat} {d : D} {x : Option V} (nh : ∀ ds, env[i]? ≠ some (.hd ds)) : Frm σ H F env (σ.set i x) H F (env.set i (.fz d)) := by
 refine ⟨Same.refl _, fun a o h f w => ⟨h, f, fun ⟨j, ds, q, e⟩ => ?_⟩, fun j ds q => ?_, fun _ h => h⟩
 ·by_cases z : j = i
  ·subst z
   have hj : j < env.length := by have := (List.getElem?_eq_some_iff.mp q).1; rwa [List.length_set] at this
   rw [List.getElem?_set_self hj] at q
   cases q
  ·rw [List.getElem?_set_ne (Ne.symm z)] at q e
   exact w ⟨j, ds, q, e⟩
 ·have z : j ≠ i := fun z => by subst z; exact nh ds q
  rw [List.getElem?_set_ne (Ne.symm z), List.getElem?_set_ne (Ne.symm z)]
  exact ⟨q, rfl⟩
theorem Frm.putO {i : Nat} {es : List D} {a : Addr} (f : Frm σ H F env σ' H' F' env') (ha : H a = none) (nh : ∀ ds, env'[i]? ≠ some (.hd ds)) : Frm σ H F env (σ'.set i (some (.ref a))) H' F' (env'.set i (.ow es)) := by
 refine ⟨f.fz, fun b o h g w => ?_, fun j ds q => ?_, f.dom⟩
 ·obtain ⟨h1, f1, w1⟩ := f.hid b o h g w
  refine ⟨h1, f1, fun ⟨j, ds, q, e⟩ => ?_⟩
  by_cases z : j = i
  ·subst z
   have hj : j < σ'.length := by have := (List.getElem?_eq_some_iff.mp e).1; rwa [List.length_set] at this
   rw [List.getElem?_set_self hj] at e
   cases e
   rw [ha] at h; cases h
  ·rw [List.getElem?_set_ne (Ne.symm z)] at q e
   exact w1 ⟨j, ds, q, e⟩
 ·obtain ⟨q1, e1⟩ := f.keep j ds q
  have z : j ≠ i := fun z => by subst z; exact nh ds q1
  rw [List.getElem?_set_ne (Ne.symm z), List.getElem?_set_ne (Ne.symm z)]
  exact ⟨q1, e1⟩
end
inductive R (α : Type) where | ok (a : α) (e : DE) | ex (c : Str)
inductive RS where | nx (e : DE) | rt (d : D) | ro (ds : List D) | rz (dss : List (List D)) | bk (e : DE) | ct (e : DE) | ex (c : Str)
def bnd {α β : Type} (x : Option (R α)) (k : α → DE → Option (R β)) : Option (R β) := match x with
 | none => none
 | some (.ok a e) => k a e
 | some (.ex c) => some (.ex c)
def sbn {α : Type} (x : Option (R α)) (k : α → DE → Option RS) : Option RS := match x with
 | none => none
 | some (.ok a e) => k a e
 | some (.ex c) => some (.ex c)
def opt {α : Type} (x : Option α) (e : DE) : Option (R α) := match x with
 | none => none
 | some a => some (.ok a e)
@[simp] theorem bnd_ok {α β : Type} (a : α) (e : DE) (k : α → DE → Option (R β)) : bnd (some (.ok a e)) k = k a e := rfl
@[simp] theorem bnd_ex {α β : Type} (c : Str) (k : α → DE → Option (R β)) : bnd (some (.ex c)) k = some (.ex c) := rfl
@[simp] theorem bnd_no {α β : Type} (k : α → DE → Option (R β)) : bnd (none : Option (R α)) k = none := rfl
@[simp] theorem sbn_ok {α : Type} (a : α) (e : DE) (k : α → DE → Option RS) : sbn (some (.ok a e)) k = k a e := rfl
@[simp] theorem sbn_ex {α : Type} (c : Str) (k : α → DE → Option RS) : sbn (some (.ex c)) k = some (.ex c) := rfl
@[simp] theorem sbn_no {α : Type} (k : α → DE → Option RS) : sbn (none : Option (R α)) k = none := rfl
@[simp] theorem opt_some {α : Type} (a : α) (e : DE) : opt (some a) e = some (.ok a e) := rfl
@[simp] theorem opt_none {α : Type} (e : DE) : opt (none : Option α) e = none := rfl
structure FX (σ : St) (H F : Hp) (env : DE) (H' F' : Hp) : Prop where
 fz : Same F F'
 sub : Same F' H'
 hid : ∀ a o, H a = some o → F a = none → ¬ Ow σ env a → H' a = some o ∧ F' a = none
 dom : ∀ a, H' a = none → H a = none
section
variable {K : W.Frag} {cl : Str → Addr} {E : XK} {σ σ' : St} {H H' H1 F F' F1 : Hp} {env env' env1 : DE} {α β γ δ : Type}
theorem Frm.fx {H2 F2 : Hp} (a : Frm σ H F env σ' H1 F1 env1) (b : FX σ' H1 F1 env1 H2 F2) : FX σ H F env H2 F2 :=
 ⟨a.fz.trans b.fz, b.sub, fun x o h f w => by obtain ⟨h1, f1, w1⟩ := a.hid x o h f w; exact b.hid x o h1 f1 w1, fun x h => a.dom x (b.dom x h)⟩
theorem Frm.toFX (a : Frm σ H F env σ' H1 F1 env1) (s : Same F1 H1) : FX σ H F env H1 F1 := ⟨a.fz, s, fun x o h f w => by obtain ⟨h1, f1, _⟩ := a.hid x o h f w; exact ⟨h1, f1⟩, a.dom⟩
abbrev Py (α β : Type) := α → St → Hp → Hp → Hp → DE → β → Prop
def PM (P : Py α β) : Prop := ∀ a σ H0 H1 H' F' e b, (∀ x : Addr, H1 x = none → H0 x = none) → P a σ H1 H' F' e b → P a σ H0 H' F' e b
def Ct (K : W.Frag) (cl : Str → Addr) (E : XK) (P : Py α β) (r : Option (R α)) (σ : St) (H F : Hp) (env : DE) (Q : β → Hp → Prop) : Prop := match r with
 | none => False
 | some (.ok a e) => ∀ b H' F', Frm σ H F env σ H' F' e → Rel K cl σ H' F' e → P a σ H H' F' e b → Q b H'
 | some (.ex c) => ∀ H' F', FX σ H F env H' F' → E (.ref (cl c)) none H'
def Rz (K : W.Frag) (cl : Str → Addr) (F' H' : Hp) (nw : Addr → Prop) (dss : List (List D)) (as : List Addr) : Prop := as.Nodup ∧ as.length = dss.length ∧ ∀ (k : Nat) (a : Addr) (ds : List D), as[k]? = some a → dss[k]? = some ds → ∃ xs, H' a = some (.lst xs) ∧ F' a = none ∧ nw a ∧ Rps K cl F' ds xs
theorem Rz.imp {nw nw' : Addr → Prop} {dss : List (List D)} {as : List Addr} (h : Rz K cl F' H' nw dss as) (i : ∀ a xs, H' a = some (.lst xs) → F' a = none → nw a → nw' a) : Rz K cl F' H' nw' dss as :=
 ⟨h.1, h.2.1, fun k a ds e1 e2 => by obtain ⟨xs, h1, h2, h3, h4⟩ := h.2.2 k a ds e1 e2; exact ⟨xs, h1, h2, i a xs h1 h2 h3, h4⟩⟩
def Cs (K : W.Frag) (cl : Str → Addr) (E : XK) (r : Option RS) (σ : St) (H F : Hp) (env : DE) (N : Ends) : Prop := match r with
 | none => False
 | some (.nx e) => ∀ σ' H' F', Frm σ H F env σ' H' F' e → Rel K cl σ' H' F' e → N.nx σ' H'
 | some (.bk e) => ∀ σ' H' F', Frm σ H F env σ' H' F' e → Rel K cl σ' H' F' e → N.bk σ' H'
 | some (.ct e) => ∀ σ' H' F', Frm σ H F env σ' H' F' e → Rel K cl σ' H' F' e → N.ct σ' H'
 | some (.rt d) => ∀ v H' F', FX σ H F env H' F' → Rp K cl F' d v → N.rt v H'
 | some (.ro ds) => ∀ a xs H' F', FX σ H F env H' F' → H' a = some (.lst xs) → F' a = none → (∀ o, H a = some o → Ow σ env a) → Rps K cl F' ds xs → N.rt (.ref a) H'
 | some (.rz dss) => ∀ p as H' F', FX σ H F env H' F' → H p = none → H' p = some (.tup (as.map V.ref)) → F' p = none → Rz K cl F' H' (fun a => ∀ o, H a = some o → Ow σ env a) dss as → N.rt (.ref p) H'
 | some (.ex c) => ∀ H' F', FX σ H F env H' F' → E (.ref (cl c)) none H'
theorem Ct.mono {P : Py α β} {r : Option (R α)} {Q Q' : β → Hp → Prop} (h : Ct K cl E P r σ H F env Q) (q : ∀ b H', Q b H' → Q' b H') : Ct K cl E P r σ H F env Q' := by
 unfold Ct at h ⊢
 split at h
 ·exact h
 ·exact fun b H' F' f R p => q _ _ (h b H' F' f R p)
 ·exact h
theorem Ct.from {P2 : Py γ δ} {r : Option (R γ)} {Q : δ → Hp → Prop} (f : Frm σ H F env σ H1 F1 env1) (pm : PM P2) (h : Ct K cl E P2 r σ H F env Q) : Ct K cl E P2 r σ H1 F1 env1 Q := by
 unfold Ct at h ⊢
 split at h
 ·exact h
 ·exact fun b H' F' f2 R2 p2 => h b H' F' (f.trans f2) R2 (pm _ _ _ _ _ _ _ _ f.dom p2)
 ·exact fun H' F' x => h H' F' (f.fx x)
theorem Ct.bnd {P1 : Py α β} {P2 : Py γ δ} {r : Option (R α)} {k : α → DE → Option (R γ)} {Q : δ → Hp → Prop} (h : Ct K cl E P2 (bnd r k) σ H F env Q) (pm : PM P2) :
  Ct K cl E P1 r σ H F env fun b H1 => ∃ F1 env1 a, Same F F1 ∧ Rel K cl σ H1 F1 env1 ∧ P1 a σ H H1 F1 env1 b ∧ Ct K cl E P2 (k a env1) σ H1 F1 env1 Q := by
 unfold Ct
 rcases r with _ | ⟨a, e⟩ | c
 ·exact h
 ·intro b H1 F1 f R p
  refine ⟨F1, e, a, f.fz, R, p, ?_⟩
  have h : Ct K cl E P2 (k a e) σ H F env Q := h
  exact Ct.from f pm h
 ·exact h
theorem Cs.from {r : Option RS} {N : Ends} (f : Frm σ H F env σ' H1 F1 env1) (h : Cs K cl E r σ H F env N) : Cs K cl E r σ' H1 F1 env1 N := by
 unfold Cs at h ⊢
 split at h
 ·exact h
 ·exact fun σ' H' F' f2 R2 => h σ' H' F' (f.trans f2) R2
 ·exact fun σ' H' F' f2 R2 => h σ' H' F' (f.trans f2) R2
 ·exact fun σ' H' F' f2 R2 => h σ' H' F' (f.trans f2) R2
 ·exact fun v H' F' x p => h v H' F' (f.fx x) p
 ·refine fun a xs H' F' x ha fa nw p => h a xs H' F' (f.fx x) ha fa (fun o e => ?_) p
  refine Classical.byContradiction fun w => ?_
  cases q : F a with
  | none =>
   obtain ⟨h1, f1, w1⟩ := f.hid a o e q w
   exact w1 (nw o h1)
  | some u => rw [x.fz _ _ (f.fz _ _ q)] at fa; cases fa
 ·refine fun p as H' F' x hp ht fp rz => h p as H' F' (f.fx x) (f.dom p hp) ht fp (rz.imp fun a xs ha fa nw o e => ?_)
  refine Classical.byContradiction fun w => ?_
  cases q : F a with
  | none =>
   obtain ⟨h1, f1, w1⟩ := f.hid a o e q w
   exact w1 (nw o h1)
  | some u => rw [x.fz _ _ (f.fz _ _ q)] at fa; cases fa
 ·exact fun H' F' x => h H' F' (f.fx x)
theorem Cs.bnd {P1 : Py α β} {r : Option (R α)} {k : α → DE → Option RS} {N : Ends} (h : Cs K cl E (sbn r k) σ H F env N) :
  Ct K cl E P1 r σ H F env fun b H1 => ∃ F1 env1 a, Frm σ H F env σ H1 F1 env1 ∧ Rel K cl σ H1 F1 env1 ∧ P1 a σ H H1 F1 env1 b ∧ Cs K cl E (k a env1) σ H F env N := by
 unfold Ct
 rcases r with _ | ⟨a, e⟩ | c
 ·exact h
 ·intro b H1 F1 f R p
  exact ⟨F1, e, a, f, R, p, h⟩
 ·exact h
end
def PZ (K : W.Frag) (cl : Str → Addr) : Py D V := fun d _ _ _ F' _ v => Rp K cl F' d v
def PAs (K : W.Frag) (cl : Str → Addr) : Py (List D) (List V) := fun ds _ _ _ F' _ vs => Rps K cl F' ds vs
def PB : Py Bool Bool := fun b _ _ _ _ _ c => c = b
def PN (K : W.Frag) (cl : Str → Addr) : Py (List D) V := fun ds σ H H' F' e v => ∃ a xs, v = .ref a ∧ H a = none ∧ H' a = some (.lst xs) ∧ F' a = none ∧ (∀ j, Mu e j → σ[j]? ≠ some (some (.ref a))) ∧ Rps K cl F' ds xs
theorem pm_Z {K cl} : PM (PZ K cl) := fun _ _ _ _ _ _ _ _ _ h => h
theorem pm_A {K cl} : PM (PAs K cl) := fun _ _ _ _ _ _ _ _ _ h => h
theorem pm_B : PM PB := fun _ _ _ _ _ _ _ _ _ h => h
theorem pm_N {K cl} : PM (PN K cl) := fun _ _ _ _ _ _ _ _ g ⟨a, xs, e, h, r⟩ => ⟨a, xs, e, g a h, r⟩
abbrev ZF := DE → Option (R D)
abbrev NF := DE → Option (R (List D))
abbrev AF := DE → Option (R (List D))
abbrev BF := DE → Option (R Bool)
abbrev SF := DE → Option RS
section
variable (K : W.Frag) (cl : Str → Addr) (E : XK)
def RfZ (t : TE) (f : ZF) : Prop := ∀ σ H Q env F, Rel K cl σ H F env → Ct K cl E (PZ K cl) (f env) σ H F env Q → t σ H Q
def RfN (t : TE) (f : NF) : Prop := ∀ σ H Q env F, Rel K cl σ H F env → Ct K cl E (PN K cl) (f env) σ H F env Q → t σ H Q
def RfA (t : TA) (f : AF) : Prop := ∀ σ H Q env F, Rel K cl σ H F env → Ct K cl E (PAs K cl) (f env) σ H F env Q → t σ H Q
def RfB (t : TT) (f : BF) : Prop := ∀ σ H Q env F, Rel K cl σ H F env → Ct K cl E PB (f env) σ H F env Q → t σ H Q
def RfS (t : TS) (f : SF) : Prop := ∀ (N : Ends) σ H env F, Rel K cl σ H F env → Cs K cl E (f env) σ H F env N → t N σ H
end
def eC (d : D) : ZF := fun e => some (.ok d e)
def eV (i : Nat) : ZF := fun e => match e[i]? with
 | some (.fz d) => some (.ok d e)
 | some (.ow ds) => some (.ok (.lst ds) (e.set i (.fz (.lst ds))))
 | _ => none
def look (e : DE) (i : Nat) : Option D := match e[i]? with
 | some (.fz d) => some d
 | some (.ow ds) => some (.lst ds)
 | some (.hd ds) => some (.lst ds)
 | _ => none
def Rb (K : W.Frag) (cl : Str → Addr) (F H : Hp) (d : D) (v : V) : Prop := Rp K cl F d v ∨ ∃ a xs ds, v = .ref a ∧ d = .lst ds ∧ H a = some (.lst xs) ∧ Rps K cl F ds xs
section
variable {K : W.Frag} {cl : Str → Addr} {E : XK} {σ : St} {H F : Hp} {env : DE}
theorem Rel.look {i : Nat} {d : D} (R : Rel K cl σ H F env) (h : look env i = some d) : ∃ v, σ[i]? = some (some v) ∧ Rb K cl F H d v := by
 unfold L2.look at h
 split at h
 ·rename_i q; cases h; obtain ⟨v, e, r⟩ := R.fz i d q; exact ⟨v, e, .inl r⟩
 ·rename_i ds q; cases h; obtain ⟨a, xs, e, hH, _, r⟩ := R.mu i ds (.inl q); exact ⟨_, e, .inr ⟨a, xs, ds, rfl, rfl, hH, r⟩⟩
 ·rename_i ds q; cases h; obtain ⟨a, xs, e, hH, _, r⟩ := R.mu i ds (.inr q); exact ⟨_, e, .inr ⟨a, xs, ds, rfl, rfl, hH, r⟩⟩
 ·cases h
theorem rf_c {v : V} {d : D} (h : ∀ F, Rp K cl F d v := by intro F; simp only [Rp]) : RfZ K cl E (tC v) (eC d) := fun σ H Q env F R h' => h' v H F Frm.refl R (h F)
theorem rf_v {i : Nat} : RfZ K cl E (tVar i) (eV i) := by
 intro σ H Q env F R h
 unfold eV at h
 split at h
 ·rename_i d q
  obtain ⟨v, e, r⟩ := R.fz i d q
  exact ⟨v, e, h v H F Frm.refl R r⟩
 ·rename_i ds q
  obtain ⟨a, F', e, fr, R', r⟩ := R.freeze q
  exact ⟨_, e, h _ H F' fr R' r⟩
 ·exact h.elim
end
def OpOk (K : W.Frag) (cl : Str → Addr) (r : R2) (g : D → D → Option D) : Prop := ∀ x y d e z H F Q, Same F H → Rb K cl F H d x → Rb K cl F H e y → g d e = some z → (∀ v H' F', Gr H F H' F' → Rp K cl F' z v → Q v H') → r x y H Q
def eB (g : D → D → Option D) (f k : ZF) : ZF := fun e => bnd (f e) fun d e1 => bnd (k e1) fun d' e2 => opt (g d d') e2
def eBV (g : D → D → Option D) (i : Nat) (k : ZF) : ZF := fun e => match look e i with
 | none => none
 | some _ => bnd (k e) fun d' e2 => match look e2 i with
  | some d => opt (g d d') e2
  | none => none
def eBVV (g : D → D → Option D) (i j : Nat) : ZF := fun e => match look e i, look e j with
 | some d, some d' => opt (g d d') e
 | _, _ => none
section
variable {K : W.Frag} {cl : Str → Addr} {E : XK} {r : R2} {g : D → D → Option D} {ta tb : TE} {f k : ZF} {i j : Nat}
theorem OpOk.fin {σ : St} {H F : Hp} {env : DE} {x y : V} {d e : D} {Q : VK} (ok : OpOk K cl r g) (R : Rel K cl σ H F env) (hx : Rb K cl F H d x) (hy : Rb K cl F H e y) (h : Ct K cl E (PZ K cl) (opt (g d e) env) σ H F env Q) : r x y H Q := by
 cases hz : g d e with
 | none => rw [hz] at h; exact h.elim
 | some z =>
  rw [hz] at h
  exact ok x y d e z H F Q R.sub hx hy hz fun v H' F' gr p => h v H' F' (R.frm gr) (R.gr gr) p
theorem rf_op (ok : OpOk K cl r g) (ha : RfZ K cl E ta f) (hb : RfZ K cl E tb k) : RfZ K cl E (tOp r ta tb) (eB g f k) := by
 intro σ H Q env F R h
 refine ha σ H _ env F R ((Ct.bnd h pm_Z).mono fun x H1 ⟨F1, e1, d, s1, R1, p1, h1⟩ => ?_)
 refine hb σ H1 _ e1 F1 R1 ((Ct.bnd h1 pm_Z).mono fun y H2 ⟨F2, e2, e, s2, R2, p2, h2⟩ => ?_)
 exact ok.fin R2 (.inl (Rp.mono s2 _ _ p1)) (.inl p2) h2
theorem rf_opV (ok : OpOk K cl r g) (hb : RfZ K cl E tb k) : RfZ K cl E (tOp r (tVar i) tb) (eBV g i k) := by
 intro σ H Q env F R h
 unfold eBV at h
 cases q : look env i with
 | none => rw [q] at h; exact h.elim
 | some d0 =>
  rw [q] at h
  obtain ⟨x, e0, _⟩ := R.look q
  refine ⟨x, e0, hb σ H _ env F R ((Ct.bnd h pm_Z).mono fun y H2 ⟨F2, e2, e, s2, R2, p2, h2⟩ => ?_)⟩
  cases q2 : look e2 i with
  | none => rw [q2] at h2; exact h2.elim
  | some d =>
   rw [q2] at h2
   obtain ⟨x', e', rb⟩ := R2.look q2
   rw [e0] at e'; cases e'
   exact ok.fin R2 rb (.inl p2) h2
theorem rf_opVV (ok : OpOk K cl r g) : RfZ K cl E (tOp r (tVar i) (tVar j)) (eBVV g i j) := by
 intro σ H Q env F R h
 unfold eBVV at h
 cases q : look env i with
 | none => rw [q] at h; exact h.elim
 | some d =>
  cases q2 : look env j with
  | none => rw [q, q2] at h; exact h.elim
  | some d' =>
   rw [q, q2] at h
   obtain ⟨x, e, rb⟩ := R.look q
   obtain ⟨y, e', rb'⟩ := R.look q2
   exact ⟨x, e, y, e', ok.fin R rb rb' h⟩
end
section
variable {K : W.Frag} {cl : Str → Addr} {E : XK}
theorem Rb.int {F H : Hp} {i : Int} {v : V} (h : Rb K cl F H (.int i) v) : v = .int i := by
 rcases h with h | ⟨_, _, _, _, z, _⟩
 ·simpa only [Rp] using h
 ·cases z
theorem Rb.bl {F H : Hp} {i : Bool} {v : V} (h : Rb K cl F H (.bl i) v) : v = .bl i := by
 rcases h with h | ⟨_, _, _, _, z, _⟩
 ·simpa only [Rp] using h
 ·cases z
theorem Rb.str {F H : Hp} {i : Str} {v : V} (h : Rb K cl F H (.str i) v) : v = .str i := by
 rcases h with h | ⟨_, _, _, _, z, _⟩
 ·simpa only [Rp] using h
 ·cases z
theorem Rb.non {F H : Hp} {v : V} (h : Rb K cl F H .non v) : v = .non := by
 rcases h with h | ⟨_, _, _, _, z, _⟩
 ·simpa only [Rp] using h
 ·cases z
theorem Rb.lst {F H : Hp} {ds : List D} {v : V} (s : Same F H) (h : Rb K cl F H (.lst ds) v) : ∃ a xs, v = .ref a ∧ H a = some (.lst xs) ∧ Rps K cl F ds xs := by
 rcases h with h | ⟨a, xs, ds', e, z, h, r⟩
 ·simp only [Rp] at h
  obtain ⟨a, xs, e, h, r⟩ := h
  exact ⟨a, xs, e, s _ _ h, r⟩
 ·cases z; exact ⟨a, xs, e, h, r⟩
theorem Rb.tup {F H : Hp} {ds : List D} {v : V} (s : Same F H) (h : Rb K cl F H (.tup ds) v) : ∃ a xs, v = .ref a ∧ H a = some (.tup xs) ∧ Rps K cl F ds xs := by
 rcases h with h | ⟨_, _, _, _, z, _⟩
 ·simp only [Rp] at h
  obtain ⟨a, xs, e, h, r⟩ := h
  exact ⟨a, xs, e, s _ _ h, r⟩
 ·cases z
theorem Rb.scr {F H : Hp} {ns : List Int} {v : V} (s : Same F H) (h : Rb K cl F H (.scr ns) v) : ∃ a, v = .ref a ∧ Scr K H a (ns.map V.int) := by
 rcases h with h | ⟨_, _, _, _, z, _⟩
 ·simp only [Rp] at h
  obtain ⟨a, e, h⟩ := h
  exact ⟨a, e, h.same s⟩
 ·cases z
def gI (C : Int → Int → Prop) [∀ i j, Decidable (C i j)] (g : Int → Int → D) : D → D → Option D
 | .int i, .int j => if C i j then some (g i j) else none
 | _, _ => none
def gI0 (g : Int → Int → D) : D → D → Option D
 | .int i, .int j => some (g i j)
 | _, _ => none
theorem ok_I {C : Int → Int → Prop} [∀ i j, Decidable (C i j)] {g : Int → Int → V} {g' : Int → Int → D} (hg : ∀ F i j, Rp K cl F (g' i j) (g i j)) : OpOk K cl (rI C g) (gI C g') := by
 intro x y d e z H F Q s hx hy h q
 unfold gI at h
 split at h
 ·rename_i i j
  split at h
  ·rename_i c; cases h
   exact ⟨i, j, hx.int, hy.int, c, q _ H F (.refl s) (hg F i j)⟩
  ·cases h
 ·cases h
theorem ok_I0 {g : Int → Int → V} {g' : Int → Int → D} (hg : ∀ F i j, Rp K cl F (g' i j) (g i j)) : OpOk K cl (rI0 g) (gI0 g') := by
 intro x y d e z H F Q s hx hy h q
 unfold gI0 at h
 split at h
 ·rename_i i j
  cases h
  exact ⟨i, j, hx.int, hy.int, q _ H F (.refl s) (hg F i j)⟩
 ·cases h
end
section
variable {K : W.Frag} {cl : Str → Addr} {E : XK} {σ : St} {H F : Hp} {env : DE}
theorem Rel.newN {p : Addr} {o : HO} (R : Rel K cl σ H F env) (hp : H p = none) : Rel K cl σ (upd H p o) F env ∧ Frm σ H F env σ (upd H p o) F env := by
 have fp : F p = none := R.sub.free hp
 have ne : ∀ a u, H a = some u → a ≠ p := fun a u h z => by rw [z, hp] at h; cases h
 refine ⟨⟨R.sub.trans (same_new hp _), R.len, R.fz, fun i ds h => ?_, R.inj⟩, ⟨Same.refl _, fun a u h f w => ?_, fun _ _ h => ⟨h, rfl⟩, fun a h => ?_⟩⟩
 ·obtain ⟨a, xs, e, hH, hF, r⟩ := R.mu i ds h
  exact ⟨a, xs, e, by rw [upd_ne (ne _ _ hH)]; exact hH, hF, r⟩
 ·exact ⟨by rw [upd_ne (ne _ _ h)]; exact h, f, w⟩
 ·by_cases z : a = p
  ·rw [z]; exact hp
  ·rw [upd_ne z] at h; exact h
theorem Ct.newN {p : Addr} {xs : List V} {ds : List D} {Q : VK} (R : Rel K cl σ H F env) (hp : H p = none) (r : Rps K cl F ds xs) (h : Ct K cl E (PN K cl) (some (.ok ds env)) σ H F env Q) : Q (.ref p) (upd H p (.lst xs)) := by
 obtain ⟨R', f⟩ := R.newN (o := .lst xs) hp
 refine h _ _ F f R' ⟨p, xs, rfl, hp, upd_same, R.sub.free hp, fun j mj e => ?_, r⟩
 obtain ⟨ds', q⟩ := mj
 obtain ⟨a, ys, e1, hH, _⟩ := R.mu j ds' q
 rw [e] at e1; cases e1
 rw [hp] at hH; cases hH
def zN (f : NF) : ZF := fun e => bnd (f e) fun ds e1 => some (.ok (.lst ds) e1)
theorem rf_zN {t : TE} {f : NF} (h : RfN K cl E t f) : RfZ K cl E t (zN f) := by
 intro σ H Q env F R q
 refine h σ H Q env F R ?_
 unfold zN at q
 rcases hf : f env with _ | ⟨ds, e1⟩ | c
 ·rw [hf] at q; exact q
 ·rw [hf] at q
  rintro b H' F' fr R' ⟨a, xs, rfl, hn, hH, hF, nm, r⟩
  have sF : Same F' (upd F' a (.lst xs)) := same_new hF _
  refine q _ H' (upd F' a (.lst xs)) ⟨fr.fz.trans sF, fun b o hb fb w => ?_, fr.keep, fr.dom⟩ ⟨fun b o z => ?_, R'.len, fun i d z => ?_, fun i es z => ?_, R'.inj⟩ (by show Rp K cl _ (.lst ds) _; simp only [Rp]; exact ⟨a, xs, rfl, upd_same, r.mono sF⟩)
  ·obtain ⟨h1, f1, w1⟩ := fr.hid b o hb fb w
   have nb : b ≠ a := fun z => by rw [z, hn] at hb; cases hb
   exact ⟨h1, by rw [upd_ne nb]; exact f1, w1⟩
  ·by_cases y : b = a
   ·subst y; rw [upd_same] at z; cases z; exact hH
   ·rw [upd_ne y] at z; exact R'.sub _ _ z
  ·obtain ⟨v, e, r1⟩ := R'.fz i d z
   exact ⟨v, e, r1.mono sF⟩
  ·obtain ⟨b, ys, e, h1, f1, r1⟩ := R'.mu i es z
   have nb : b ≠ a := fun y => nm i ⟨es, z⟩ (by rw [e, y])
   exact ⟨b, ys, e, h1, by rw [upd_ne nb]; exact f1, r1.mono sF⟩
 ·rw [hf] at q; exact q
def aN : AF := fun e => some (.ok [] e)
def aC (f : ZF) (k : AF) : AF := fun e => bnd (f e) fun d e1 => bnd (k e1) fun ds e2 => some (.ok (d :: ds) e2)
theorem rf_aN : RfA K cl E tNil aN := fun σ H Q env F R h => h [] H F Frm.refl R .nil
theorem rf_aC {te : TE} {ta : TA} {f : ZF} {k : AF} (hf : RfZ K cl E te f) (hk : RfA K cl E ta k) : RfA K cl E (tCons te ta) (aC f k) := by
 intro σ H Q env F R h
 refine hf σ H _ env F R ((Ct.bnd h pm_A).mono fun x H1 ⟨F1, e1, d, s1, R1, p1, h1⟩ => ?_)
 refine hk σ H1 _ e1 F1 R1 ((Ct.bnd h1 pm_A).mono fun xs H2 ⟨F2, e2, ds, s2, R2, p2, h2⟩ => ?_)
 exact h2 (x :: xs) H2 F2 Frm.refl R2 (.cons (Rp.mono s2 _ _ p1) p2)
def eT (f : AF) : ZF := fun e => bnd (f e) fun ds e1 => if ds.length ≤ sizeLine then some (.ok (.tup ds) e1) else none
def eL (f : AF) : NF := fun e => bnd (f e) fun ds e1 => if ds.length ≤ sizeLine then some (.ok ds e1) else none
theorem rf_T {ta : TA} {f : AF} (hf : RfA K cl E ta f) : RfZ K cl E (tTup ta) (eT f) := by
 intro σ H Q env F R h
 refine hf σ H _ env F R ((Ct.bnd h pm_Z).mono fun xs H1 ⟨F1, e1, ds, s1, R1, p1, h1⟩ => ?_)
 have hl : ds.length = xs.length := Rps.length p1
 split at h1
 ·rename_i z
  refine ⟨by rw [← hl]; exact z, fun p hp => ?_⟩
  have g : Gr H1 F1 (upd H1 p (.tup xs)) (upd F1 p (.tup xs)) := .new R1.sub hp
  exact h1 _ _ _ (R1.frm g) (R1.gr g) (by show Rp K cl _ (.tup ds) _; simp only [Rp]; exact ⟨p, xs, rfl, upd_same, Rps.mono g.fz _ _ p1⟩)
 ·exact h1.elim
theorem rf_L {ta : TA} {f : AF} (hf : RfA K cl E ta f) : RfN K cl E (tLst ta) (eL f) := by
 intro σ H Q env F R h
 refine hf σ H _ env F R ((Ct.bnd h pm_N).mono fun xs H1 ⟨F1, e1, ds, s1, R1, p1, h1⟩ => ?_)
 have hl : ds.length = xs.length := Rps.length p1
 split at h1
 ·rename_i z
  exact ⟨by rw [← hl]; exact z, fun p hp => Ct.newN R1 hp p1 h1⟩
 ·exact h1.elim
def bZ (f : ZF) : BF := fun e => bnd (f e) fun d e1 => match d with
 | .bl b => some (.ok b e1)
 | _ => none
theorem rf_bZ {t : TE} {f : ZF} (hf : RfZ K cl E t f) : RfB K cl E (tB t) (bZ f) := by
 intro σ H Q env F R h
 refine hf σ H _ env F R ((Ct.bnd h pm_B).mono fun x H1 ⟨F1, e1, d, s1, R1, p1, h1⟩ => ?_)
 split at h1
 ·rename_i b
  have : x = .bl b := by have := (show Rp K cl F1 (.bl b) x from p1); simpa only [Rp] using this
  exact ⟨b, this, h1 b H1 F1 Frm.refl R1 rfl⟩
 ·exact h1.elim
theorem rf_bT {t : TE} {f : ZF} (hf : RfZ K cl E t f) : RfB K cl E (tTest t) (bZ f) := rf_bZ hf
def bNot (f : BF) : BF := fun e => bnd (f e) fun b e1 => some (.ok (!b) e1)
def bAnd (f k : BF) : BF := fun e => bnd (f e) fun b e1 => if b = true then k e1 else some (.ok false e1)
def bOr (f k : BF) : BF := fun e => bnd (f e) fun b e1 => if b = true then some (.ok true e1) else k e1
theorem rf_bNot {t : TT} {f : BF} (hf : RfB K cl E t f) : RfB K cl E (tNot t) (bNot f) := by
 intro σ H Q env F R h
 refine hf σ H _ env F R ((Ct.bnd h pm_B).mono fun x H1 ⟨F1, e1, d, s1, R1, p1, h1⟩ => ?_)
 cases (show x = d from p1)
 exact h1 _ H1 F1 Frm.refl R1 rfl
theorem rf_bAnd {t u : TT} {f k : BF} (hf : RfB K cl E t f) (hk : RfB K cl E u k) : RfB K cl E (tAnd t u) (bAnd f k) := by
 intro σ H Q env F R h
 refine hf σ H _ env F R ((Ct.bnd h pm_B).mono fun x H1 ⟨F1, e1, d, s1, R1, p1, h1⟩ => ?_)
 cases (show x = d from p1)
 by_cases z : x = true
 ·rw [if_pos z] at h1 ⊢; exact hk σ H1 Q e1 F1 R1 h1
 ·rw [if_neg z] at h1 ⊢; exact h1 _ H1 F1 Frm.refl R1 rfl
theorem rf_bOr {t u : TT} {f k : BF} (hf : RfB K cl E t f) (hk : RfB K cl E u k) : RfB K cl E (tOr t u) (bOr f k) := by
 intro σ H Q env F R h
 refine hf σ H _ env F R ((Ct.bnd h pm_B).mono fun x H1 ⟨F1, e1, d, s1, R1, p1, h1⟩ => ?_)
 cases (show x = d from p1)
 by_cases z : x = true
 ·rw [if_pos z] at h1 ⊢; exact h1 _ H1 F1 Frm.refl R1 rfl
 ·rw [if_neg z] at h1 ⊢; exact hk σ H1 Q e1 F1 R1 h1
def eNot (f : ZF) : ZF := fun e => bnd (f e) fun d e1 => match d with
 | .bl b => some (.ok (.bl (!b)) e1)
 | _ => none
def eAnd (f k : ZF) : ZF := fun e => bnd (f e) fun d e1 => match d with
 | .bl b => if b = true then k e1 else some (.ok (.bl false) e1)
 | _ => none
theorem rf_Not {t : TE} {f : ZF} (hf : RfZ K cl E t f) : RfZ K cl E (tNotV t) (eNot f) := by
 intro σ H Q env F R h
 refine hf σ H _ env F R ((Ct.bnd h pm_Z).mono fun x H1 ⟨F1, e1, d, s1, R1, p1, h1⟩ => ?_)
 split at h1
 ·rename_i b
  have : x = .bl b := by have := (show Rp K cl F1 (.bl b) x from p1); simpa only [Rp] using this
  exact ⟨b, this, h1 _ H1 F1 Frm.refl R1 (by show Rp K cl F1 (.bl _) _; simp only [Rp])⟩
 ·exact h1.elim
theorem rf_And {t u : TE} {f k : ZF} (hf : RfZ K cl E t f) (hk : RfZ K cl E u k) : RfZ K cl E (tAndV t u) (eAnd f k) := by
 intro σ H Q env F R h
 refine hf σ H _ env F R ((Ct.bnd h pm_Z).mono fun x H1 ⟨F1, e1, d, s1, R1, p1, h1⟩ => ?_)
 split at h1
 ·rename_i b
  have : x = .bl b := by have := (show Rp K cl F1 (.bl b) x from p1); simpa only [Rp] using this
  refine ⟨b, this, ?_⟩
  by_cases z : b = true
  ·rw [if_pos z] at h1 ⊢; exact hk σ H1 Q e1 F1 R1 h1
  ·rw [if_neg z] at h1 ⊢; exact h1 _ H1 F1 Frm.refl R1 (by show Rp K cl F1 (.bl _) _; simp only [Rp])
 ·exact h1.elim
def CbOk (K : W.Frag) (cl : Str → Addr) (r : List V → Hp → VK → Prop) (g : List D → Option D) : Prop := ∀ xs ds z H F Q, Same F H → Rps K cl F ds xs → g ds = some z → (∀ v H' F', Gr H F H' F' → Rp K cl F' z v → Q v H') → r xs H Q
def CbOk1 (K : W.Frag) (cl : Str → Addr) (r : List V → Hp → VK → Prop) (g : D → Option D) : Prop := ∀ x d z H F Q, Same F H → Rb K cl F H d x → g d = some z → (∀ v H' F', Gr H F H' F' → Rp K cl F' z v → Q v H') → r [x] H Q
def eCB (g : List D → Option D) (f : AF) : ZF := fun e => bnd (f e) fun ds e1 => opt (g ds) e1
def eCV (g : D → Option D) (i : Nat) : ZF := fun e => match look e i with
 | some d => opt (g d) e
 | none => none
theorem rf_CB {r : List V → Hp → VK → Prop} {g : List D → Option D} {t : TA} {f : AF} (ok : CbOk K cl r g) (hf : RfA K cl E t f) : RfZ K cl E (tCB r t) (eCB g f) := by
 intro σ H Q env F R h
 refine hf σ H _ env F R ((Ct.bnd h pm_Z).mono fun x H1 ⟨F1, e1, d, s1, R1, p1, h1⟩ => ?_)
 cases hz : g d with
 | none => rw [hz] at h1; exact h1.elim
 | some z =>
  rw [hz] at h1
  exact ok x d z H1 F1 Q R1.sub p1 hz fun v H' F' gr p => h1 v H' F' (R1.frm gr) (R1.gr gr) p
theorem rf_CV {r : List V → Hp → VK → Prop} {g : D → Option D} {i : Nat} (ok : CbOk1 K cl r g) : RfZ K cl E (tCB r (tCons (tVar i) tNil)) (eCV g i) := by
 intro σ H Q env F R h
 unfold eCV at h
 cases q : look env i with
 | none => rw [q] at h; exact h.elim
 | some d =>
  rw [q] at h
  obtain ⟨x, e, rb⟩ := R.look q
  refine ⟨x, e, ?_⟩
  cases hz : g d with
  | none => simp only [hz, opt_none] at h; exact h.elim
  | some z =>
   simp only [hz, opt_some] at h
   exact ok x d z H F Q R.sub rb hz fun v H' F' gr p => h v H' F' (R.frm gr) (R.gr gr) p
def g1 (g : D → Option D) : List D → Option D
 | [d] => g d
 | _ => none
theorem CbOk1.cb {r : List V → Hp → VK → Prop} {g : D → Option D} (ok : CbOk1 K cl r g) : CbOk K cl r (g1 g) := by
 intro xs ds z H F Q s hx h q
 unfold g1 at h
 split at h
 ·obtain ⟨v, r, rfl, h1, h2⟩ := hx.inv
  rw [h2.inv0]
  exact ok v _ z H F Q s (.inl h1) h q
 ·cases h
def CnOk (K : W.Frag) (cl : Str → Addr) (r : List V → Hp → VK → Prop) (g : D → Option (List D)) : Prop := ∀ x d zs H F Q, Same F H → Rb K cl F H d x → g d = some zs → (∀ p xs, H p = none → Rps K cl F zs xs → Q (.ref p) (upd H p (.lst xs))) → r [x] H Q
def nCV (g : D → Option (List D)) (i : Nat) : NF := fun e => match look e i with
 | some d => opt (g d) e
 | none => none
theorem rf_nCV {r : List V → Hp → VK → Prop} {g : D → Option (List D)} {i : Nat} (ok : CnOk K cl r g) : RfN K cl E (tCB r (tCons (tVar i) tNil)) (nCV g i) := by
 intro σ H Q env F R h
 unfold nCV at h
 cases q : look env i with
 | none => rw [q] at h; exact h.elim
 | some d =>
  rw [q] at h
  obtain ⟨x, e, rb⟩ := R.look q
  refine ⟨x, e, ?_⟩
  cases hz : g d with
  | none => simp only [hz, opt_none] at h; exact h.elim
  | some z =>
   simp only [hz, opt_some] at h
   exact ok x d z H F Q R.sub rb hz fun p xs hp r => Ct.newN R hp r h
end
section
variable {K : W.Frag} {cl : Str → Addr} {E : XK} {σ : St} {H F : Hp} {env : DE}
instance decMul (i j : Int) : Decidable (IntMulOk i j) := by unfold IntMulOk; infer_instance
instance decPow (i j : Int) : Decidable (CPow i j) := by unfold CPow; infer_instance
abbrev gAdd := gI0 fun i j => .int (i + j)
abbrev gSub' := gI0 fun i j => .int (i - j)
abbrev gMul := gI IntMulOk fun i j => .int (i * j)
abbrev gDiv := gI (fun _ j => 0 < j ∧ j.natAbs.log2 < 9000) fun i j => .int (i / j)
abbrev gMod := gI (fun _ j => 0 < j) fun i j => .int (i % j)
abbrev gPow := gI CPow fun i j => .int (i ^ j.toNat)
abbrev gLt := gI0 fun i j => .bl (decide (i < j))
abbrev gLe := gI0 fun i j => .bl (decide (i ≤ j))
abbrev gGt := gI0 fun i j => .bl (decide (j < i))
theorem ok_add : OpOk K cl (rI0 fun i j => .int (i + j)) gAdd := ok_I0 fun F i j => by simp only [Rp]
theorem ok_sub : OpOk K cl (rI0 fun i j => .int (i - j)) gSub' := ok_I0 fun F i j => by simp only [Rp]
theorem ok_mul : OpOk K cl (rI IntMulOk fun i j => .int (i * j)) gMul := ok_I fun F i j => by simp only [Rp]
theorem ok_div : OpOk K cl (rI (fun _ j => 0 < j ∧ j.natAbs.log2 < 9000) fun i j => .int (i / j)) gDiv := ok_I fun F i j => by simp only [Rp]
theorem ok_mod : OpOk K cl (rI (fun _ j => 0 < j) fun i j => .int (i % j)) gMod := ok_I fun F i j => by simp only [Rp]
theorem ok_pow : OpOk K cl (rI CPow fun i j => .int (i ^ j.toNat)) gPow := ok_I fun F i j => by simp only [Rp]
theorem ok_lt : OpOk K cl (rI0 fun i j => .bl (decide (i < j))) gLt := ok_I0 fun F i j => by simp only [Rp]
theorem ok_le : OpOk K cl (rI0 fun i j => .bl (decide (i ≤ j))) gLe := ok_I0 fun F i j => by simp only [Rp]
theorem ok_gt : OpOk K cl (rI0 fun i j => .bl (decide (j < i))) gGt := ok_I0 fun F i j => by simp only [Rp]
def toV : D → Option V
 | .non => some .non
 | .bl b => some (.bl b)
 | .int i => some (.int i)
 | .str x => some (.str x)
 | _ => none
theorem Rb.toV {d : D} {v u : V} (h : Rb K cl F H d v) (e : toV d = some u) : v = u := by
 cases d with
 | non => cases e; exact h.non
 | bl b => cases e; exact h.bl
 | int i => cases e; exact h.int
 | str x => cases e; exact h.str
 | _ => cases e
def gEq (neg : Bool) (d e : D) : Option D := match toV d, toV e with
 | some x, some y => if scal x y = true then some (.bl (if neg then !decide (x = y) else decide (x = y))) else none
 | _, _ => none
theorem ok_eq : OpOk K cl rEq (gEq false) := by
 intro x y d e z H F Q s hx hy h q
 unfold gEq at h
 split at h
 ·rename_i u w hu hw
  split at h
  ·rename_i c; cases h
   rw [hx.toV hu, hy.toV hw]
   exact ⟨c, q _ H F (.refl s) (by simp only [Rp]; rfl)⟩
  ·cases h
 ·cases h
theorem ok_ne : OpOk K cl rNe (gEq true) := by
 intro x y d e z H F Q s hx hy h q
 unfold gEq at h
 split at h
 ·rename_i u w hu hw
  split at h
  ·rename_i c; cases h
   rw [hx.toV hu, hy.toV hw]
   exact ⟨c, q _ H F (.refl s) (by simp only [Rp]; rfl)⟩
  ·cases h
 ·cases h
@[simp] theorem gEq_int (neg : Bool) (a b : Int) : gEq neg (.int a) (.int b) = some (.bl (if neg then !decide (a = b) else decide (a = b))) := by
 unfold gEq toV
 simp only [scal, if_true, V.int.injEq]
@[simp] theorem gEq_str (neg : Bool) (a b : Str) : gEq neg (.str a) (.str b) = some (.bl (if neg then !decide (a = b) else decide (a = b))) := by
 unfold gEq toV
 simp only [scal, if_true, V.str.injEq]
theorem Rps.atI {ds : List D} {xs : List V} {i : Int} {d : D} (h : Rps K cl F ds xs) (e : atI ds i = some d) : ∃ v, L2.atI xs i = some v ∧ Rp K cl F d v := by
 unfold L2.atI at e ⊢
 rw [← h.length]
 cases q : ixN ds.length i with
 | none => rw [q] at e; cases e
 | some j => rw [q] at e; exact h.get e
def gIxL (d e : D) : Option D := match d, e with
 | .lst ds, .int i => atI ds i
 | .scr ns, .int i => (atI ns i).map .int
 | _, _ => none
def gIxT (d e : D) : Option D := match d, e with
 | .tup ds, .int i => atI ds i
 | _, _ => none
theorem atI_map {α β : Type} (f : α → β) (xs : List α) (i : Int) : atI (xs.map f) i = (atI xs i).map f := by
 unfold L2.atI
 rw [List.length_map]
 cases ixN xs.length i with
 | none => rfl
 | some j => simp
theorem ok_ixL : OpOk K cl (rIxL K) gIxL := by
 intro x y d e z H F Q s hx hy h q
 unfold gIxL at h
 split at h
 ·obtain ⟨a, xs, rfl, hH, r⟩ := hx.lst s
  obtain ⟨v, e, p⟩ := r.atI h
  exact ⟨a, xs, _, v, rfl, hy.int, .of hH, e, q v H F (.refl s) p⟩
 ·rename_i ns i
  obtain ⟨a, rfl, hS⟩ := hx.scr s
  cases hz : atI ns i with
  | none => rw [hz] at h; cases h
  | some n =>
   rw [hz] at h; cases h
   exact ⟨a, _, _, .int n, rfl, hy.int, hS.seq, by rw [atI_map, hz]; rfl, q _ H F (.refl s) (by simp only [Rp])⟩
 ·cases h
theorem ok_ixT : OpOk K cl (rIxT K) gIxT := by
 intro x y d e z H F Q s hx hy h q
 unfold gIxT at h
 split at h
 ·obtain ⟨a, xs, rfl, hH, r⟩ := hx.tup s
  obtain ⟨v, e, p⟩ := r.atI h
  exact ⟨a, xs, _, v, rfl, hy.int, .of hH, e, q v H F (.refl s) p⟩
 ·cases h
def eqD : D → D → Bool
 | .non, .non => true
 | .bl a, .bl b => a == b
 | .bl a, .int b => (if a then 1 else 0) == b
 | .int a, .bl b => a == (if b then 1 else 0)
 | .int a, .int b => a == b
 | .str a, .str b => a == b
 | _, _ => false
def eqDs : List D → List D → Bool
 | [], [] => true
 | x :: xs, y :: ys => eqD x y && eqDs xs ys
 | _, _ => false
def flatD : D → Bool
 | .non => true
 | .bl _ => true
 | .int _ => true
 | .str _ => true
 | _ => false
theorem Rp.flat {d : D} {v : V} (h : Rp K cl F d v) (f : flatD d = true) : toV d = some v ∧ flatV v = true := by
 cases d <;> simp only [Rp] at h <;> first | (subst h; exact ⟨rfl, rfl⟩) | cases f
theorem Rps.flat : ∀ {ds : List D} {vs : List V}, Rps K cl F ds vs → ds.all flatD = true → vs.all flatV = true
 | [], _, h, _ => by rw [h.inv0]; rfl
 | d :: ds, _, h, f => by
  obtain ⟨v, r, rfl, h1, h2⟩ := h.inv
  rw [List.all_cons, Bool.and_eq_true] at f
  rw [List.all_cons, (h1.flat f.1).2, h2.flat f.2]; rfl
theorem Rp.eq {d e : D} {v u : V} (h : Rp K cl F d v) (g : Rp K cl F e u) (fd : flatD d = true) (fe : flatD e = true) : eqV v u = eqD d e := by
 have h1 := (h.flat fd).1
 have h2 := (g.flat fe).1
 cases d <;> cases e <;> first | (cases h1; cases h2; rfl) | (cases fd; done) | (cases fe; done)
theorem Rps.eq : ∀ {ds es : List D} {vs us : List V}, Rps K cl F ds vs → Rps K cl F es us → ds.all flatD = true → es.all flatD = true → eqVs vs us = eqDs ds es
 | [], [], _, _, h, g, _, _ => by rw [h.inv0, g.inv0]; rfl
 | [], _ :: _, _, _, h, g, _, _ => by rw [h.inv0]; obtain ⟨_, _, rfl, _, _⟩ := g.inv; rfl
 | _ :: _, [], _, _, h, g, _, _ => by rw [g.inv0]; obtain ⟨_, _, rfl, _, _⟩ := h.inv; rfl
 | d :: ds, e :: es, _, _, h, g, fd, fe => by
  obtain ⟨v, r, rfl, h1, h2⟩ := h.inv
  obtain ⟨u, r', rfl, g1, g2⟩ := g.inv
  rw [List.all_cons, Bool.and_eq_true] at fd fe
  unfold eqVs eqDs
  rw [h1.eq g1 fd.1 fe.1, h2.eq g2 fd.2 fe.2]
def gLen : D → Option D
 | .lst ds => some (.int ds.length)
 | .tup ds => some (.int ds.length)
 | .scr ns => some (.int ns.length)
 | _ => none
theorem ok_len : CbOk1 K cl (rLenSeq K) gLen := by
 intro x d z H F Q s hx h q
 unfold gLen at h
 split at h
 ·cases h
  obtain ⟨a, xs, rfl, hH, r⟩ := hx.lst s
  exact ⟨a, xs, rfl, .inl (.of hH), q _ H F (.refl s) (by simp only [Rp]; rw [r.length])⟩
 ·cases h
  obtain ⟨a, xs, rfl, hH, r⟩ := hx.tup s
  exact ⟨a, xs, rfl, .inr (.of hH), q _ H F (.refl s) (by simp only [Rp]; rw [r.length])⟩
 ·cases h
  obtain ⟨a, rfl, hS⟩ := hx.scr s
  exact ⟨a, _, rfl, .inl hS.seq, q _ H F (.refl s) (by simp only [Rp]; rw [List.length_map])⟩
 ·cases h
def gList : D → Option (List D)
 | .lst ds => some ds
 | .tup ds => some ds
 | .scr ns => some (ns.map .int)
 | _ => none
theorem ok_list : CnOk K cl (rListOf K) gList := by
 intro x d zs H F Q s hx h q
 unfold gList at h
 split at h
 ·cases h
  obtain ⟨a, xs, rfl, hH, r⟩ := hx.lst s
  exact ⟨a, xs, rfl, .inl (.of hH), fun p hp => q p _ hp r⟩
 ·cases h
  obtain ⟨a, xs, rfl, hH, r⟩ := hx.tup s
  exact ⟨a, xs, rfl, .inr (.of hH), fun p hp => q p _ hp r⟩
 ·cases h
  obtain ⟨a, rfl, hS⟩ := hx.scr s
  exact ⟨a, _, rfl, .inl hS.seq, fun p hp => q p _ hp Rps.ofInts⟩
 ·cases h
end
inductive R1 where | ret (d : D) | own (ds : List D) | owz (dss : List (List D)) | ex (c : Str)
def spD (K : W.Frag) (cl : Str → Addr) (g : List D → Option R1) : Sp := fun vs H Q E => ∃ ds F, Same F H ∧ Rps K cl F ds vs ∧ match g ds with
 | none => False
 | some (.ret d) => ∀ v H' F', Gr H F H' F' → Rp K cl F' d v → Q v H'
 | some (.own es) => ∀ a xs H' F', Gr H F H' F' → H a = none → H' a = some (.lst xs) → F' a = none → Rps K cl F' es xs → Q (.ref a) H'
 | some (.owz dss) => ∀ p as H' F', Gr H F H' F' → H p = none → H' p = some (.tup (as.map V.ref)) → F' p = none → Rz K cl F' H' (fun a => H a = none) dss as → Q (.ref p) H'
 | some (.ex c) => ∀ H' F', Gr H F H' F' → E (.ref (cl c)) none H'
def toZ (r : Option R1) (e : DE) : Option (R D) := match r with
 | none => none
 | some (.ret d) => some (.ok d e)
 | some (.own ds) => some (.ok (.lst ds) e)
 | some (.owz _) => none
 | some (.ex c) => some (.ex c)
def toZ0 (r : Option R1) (e : DE) : Option (R D) := match r with
 | some (.ret d) => some (.ok d e)
 | some (.own ds) => some (.ok (.lst ds) e)
 | _ => none
def eCall (g : List D → Option R1) (f : AF) : ZF := fun e => bnd (f e) fun ds e1 => toZ (g ds) e1
def eCall0 (g : List D → Option R1) (f : AF) : ZF := fun e => bnd (f e) fun ds e1 => toZ0 (g ds) e1
def put (i : Nat) (s : Sl) (e : DE) : Option RS := match e[i]? with
 | none => none
 | some (.hd _) => none
 | some _ => some (.nx (e.set i s))
def toSet (i : Nat) (r : Option R1) (e : DE) : Option RS := match r with
 | none => none
 | some (.ret d) => put i (.fz d) e
 | some (.own ds) => put i (.ow ds) e
 | some (.owz _) => none
 | some (.ex c) => some (.ex c)
def toSet0 (i : Nat) (r : Option R1) (e : DE) : Option RS := match r with
 | some (.ret d) => put i (.fz d) e
 | some (.own ds) => put i (.ow ds) e
 | _ => none
def toRet (r : Option R1) : Option RS := match r with
 | none => none
 | some (.ret d) => some (.rt d)
 | some (.own ds) => some (.ro ds)
 | some (.owz dss) => some (.rz dss)
 | some (.ex c) => some (.ex c)
def toRet0 (r : Option R1) : Option RS := match r with
 | some (.ret d) => some (.rt d)
 | some (.own ds) => some (.ro ds)
 | _ => none
def sNx : SF := fun e => some (.nx e)
def sSeq (f k : SF) : SF := fun e => match f e with
 | some (.nx e1) => k e1
 | r => r
def sSet (i : Nat) (f : ZF) : SF := fun e => sbn (f e) fun d e1 => put i (.fz d) e1
def sSetN (i : Nat) (f : NF) : SF := fun e => sbn (f e) fun ds e1 => put i (.ow ds) e1
def sSetC (i : Nat) (g : List D → Option R1) (f : AF) : SF := fun e => sbn (f e) fun ds e1 => toSet i (g ds) e1
def sSetC0 (i : Nat) (g : List D → Option R1) (f : AF) : SF := fun e => sbn (f e) fun ds e1 => toSet0 i (g ds) e1
def sRet (f : ZF) : SF := fun e => sbn (f e) fun d _ => some (.rt d)
def sRetN (f : NF) : SF := fun e => sbn (f e) fun ds _ => some (.ro ds)
def sRetV (i : Nat) : SF := fun e => match e[i]? with
 | some (.fz d) => some (.rt d)
 | some (.ow ds) => some (.ro ds)
 | _ => none
def sIf (c : BF) (f k : SF) : SF := fun e => sbn (c e) fun b e1 => if b = true then f e1 else k e1
def sRaise (c : Str) (f : AF) : SF := fun e => sbn (f e) fun ds _ => if ds.length ≤ sizeLine then some (.ex c) else none
def sApp (i : Nat) (f : ZF) : SF := fun e => match look e i with
 | some (.lst _) => sbn (f e) fun d e1 => match e1[i]? with
  | some (.ow ds) => if ds.length < sizeLine then some (.nx (e1.set i (.ow (ds ++ [d])))) else none
  | _ => none
 | _ => none
def sSub (i : Nat) (k : ZF) (f : ZF) : SF := fun e => sbn (f e) fun d e1 => match look e1 i with
 | none => none
 | some _ => sbn (k e1) fun j e2 => match e2[i]?, j with
  | some (.ow ds), .int j => match ixN ds.length j with
   | some n => some (.nx (e2.set i (.ow (ds.set n d))))
   | none => none
  | _, _ => none
section
variable {K : W.Frag} {cl : Str → Addr} {E : XK} {σ : St} {H F : Hp} {env : DE}
theorem Gr.fx {H' F' : Hp} (g : Gr H F H' F') : FX σ H F env H' F' := ⟨g.fz, g.sub, fun a o h f _ => g.hid a o h f, g.dom⟩
theorem call_z {g : List D → Option R1} {ds : List D} {vs : List V} {Q : VK} (R : Rel K cl σ H F env) (p : Rps K cl F ds vs) (h : Ct K cl E (PZ K cl) (toZ (g ds) env) σ H F env Q) : spD K cl g (vs ++ []) H Q E := by
 rw [List.append_nil]
 refine ⟨ds, F, R.sub, p, ?_⟩
 unfold toZ at h
 split at h
 ·exact h.elim
 ·exact fun v H' F' gr r => h v H' F' (R.frm gr) (R.gr gr) r
 ·rename_i es _
  intro a xs H' F' gr ha hH hF r
  have sF : Same F' (upd F' a (.lst xs)) := same_new hF _
  have gr' : Gr H F H' (upd F' a (.lst xs)) := by
   refine ⟨gr.fz.trans sF, fun b o z => ?_, fun b o hb fb => ?_⟩
   ·by_cases y : b = a
    ·subst y; rw [upd_same] at z; cases z; exact hH
    ·rw [upd_ne y] at z; exact gr.sub _ _ z
   ·obtain ⟨h1, f1⟩ := gr.hid b o hb fb
    have nb : b ≠ a := fun z => by rw [z, ha] at hb; cases hb
    exact ⟨h1, by rw [upd_ne nb]; exact f1⟩
  exact h _ H' _ (R.frm gr') (R.gr gr') (by show Rp K cl _ (.lst es) _; simp only [Rp]; exact ⟨a, xs, rfl, upd_same, r.mono sF⟩)
 ·exact h.elim
 ·exact fun H' F' gr => h H' F' gr.fx
theorem toZ_of0 {r : Option R1} {e : DE} {P : Py D V} {Q : VK} (h : Ct K cl E P (toZ0 r e) σ H F env Q) : toZ r e = toZ0 r e ∧ ∀ c, r ≠ some (.ex c) := by
 unfold toZ0 at h
 split at h
 ·exact ⟨rfl, fun c z => by cases z⟩
 ·exact ⟨rfl, fun c z => by cases z⟩
 ·exact h.elim
theorem rf_Call {g : List D → Option R1} {t : TA} {f : AF} (hf : RfA K cl E t f) : RfZ K cl E (tCall (spD K cl g) [] E t) (eCall g f) := by
 intro σ H Q env F R h
 refine hf σ H _ env F R ((Ct.bnd h pm_Z).mono fun vs H1 ⟨F1, e1, ds, s1, R1, p1, h1⟩ => call_z R1 p1 h1)
theorem rf_Call0 {g : List D → Option R1} {t : TA} {f : AF} (hf : RfA K cl E t f) : RfZ K cl E (tCall (spD K cl g) [] E0 t) (eCall0 g f) := by
 intro σ H Q env F R h
 refine hf σ H _ env F R ((Ct.bnd h pm_Z).mono fun vs H1 ⟨F1, e1, ds, s1, R1, p1, h1⟩ => ?_)
 refine call_z R1 p1 ?_
 obtain ⟨z, n⟩ := toZ_of0 h1
 rw [z]
 unfold Ct at h1 ⊢
 split at h1
 ·exact h1
 ·exact h1
 ·rename_i c q
  exact absurd q (by unfold toZ0; split <;> intro y <;> cases y)
theorem rf_Nx : RfS K cl E tNext sNx := fun N σ H env F R h => h σ H F Frm.refl R
theorem rf_Seq {t u : TS} {f k : SF} (hf : RfS K cl E t f) (hk : RfS K cl E u k) : RfS K cl E (tSeq t u) (sSeq f k) := by
 intro N σ H env F R h
 refine hf _ σ H env F R ?_
 unfold sSeq at h
 split at h
 ·rename_i e1 q
  rw [q]
  intro σ' H' F' fr R'
  exact hk N σ' H' e1 F' R' (h.from fr)
 ·rename_i n
  unfold Cs at h ⊢
  split at h
  ·exact h
  ·rename_i e q; exact absurd q (n e)
  all_goals exact h
theorem putS {i : Nat} {s : Sl} {e : DE} {N : Ends} {σ0 : St} {H0 F0 : Hp} {env0 : DE} (h : Cs K cl E (put i s e) σ0 H0 F0 env0 N) : i < e.length ∧ (∀ ds, e[i]? ≠ some (.hd ds)) ∧ Cs K cl E (some (.nx (e.set i s))) σ0 H0 F0 env0 N := by
 unfold put at h
 split at h
 ·exact h.elim
 ·exact h.elim
 ·rename_i z n q
  exact ⟨(List.getElem?_eq_some_iff.mp q).1, fun ds y => by rw [q] at y; cases y; exact n ds rfl, h⟩
theorem rf_Set {i : Nat} {t : TE} {f : ZF} (hf : RfZ K cl E t f) : RfS K cl E (tAsg t (gName i)) (sSet i f) := by
 intro N σ H env F R h
 refine hf σ H _ env F R ((Cs.bnd h).mono fun x H1 ⟨F1, e1, d, fr, R1, p1, h1⟩ => ?_)
 obtain ⟨hi, nh, h2⟩ := putS h1
 exact h2 _ H1 F1 (fr.trans (Frm.put nh)) (R1.put hi nh p1)
theorem rf_SetN {i : Nat} {t : TE} {f : NF} (hf : RfN K cl E t f) : RfS K cl E (tAsg t (gName i)) (sSetN i f) := by
 intro N σ H env F R h
 refine hf σ H _ env F R ((Cs.bnd h).mono fun x H1 ⟨F1, e1, ds, fr, R1, p1, h1⟩ => ?_)
 obtain ⟨a, xs, rfl, hn, hH, hF, nm, r⟩ := p1
 obtain ⟨hi, nh, h2⟩ := putS h1
 exact h2 _ H1 F1 (fr.putO hn nh) (R1.putO hi hH hF nm r)
theorem rf_Ret {t : TE} {f : ZF} (hf : RfZ K cl E t f) : RfS K cl E (tRet t) (sRet f) := by
 intro N σ H env F R h
 exact hf σ H _ env F R ((Cs.bnd h).mono fun x H1 ⟨F1, e1, d, fr, R1, p1, h1⟩ => h1 x H1 F1 (fr.toFX R1.sub) p1)
theorem rf_RetN {t : TE} {f : NF} (hf : RfN K cl E t f) : RfS K cl E (tRet t) (sRetN f) := by
 intro N σ H env F R h
 refine hf σ H _ env F R ((Cs.bnd h).mono fun x H1 ⟨F1, e1, ds, fr, R1, p1, h1⟩ => ?_)
 obtain ⟨a, xs, rfl, hn, hH, hF, nm, r⟩ := p1
 exact h1 a xs H1 F1 (fr.toFX R1.sub) hH hF (fun o e => by rw [hn] at e; cases e) r
theorem rf_RetV {i : Nat} : RfS K cl E (tRet (tVar i)) (sRetV i) := by
 intro N σ H env F R h
 unfold sRetV at h
 split at h
 ·rename_i d q
  obtain ⟨v, e, r⟩ := R.fz i d q
  exact ⟨v, e, h v H F (Frm.refl.toFX R.sub) r⟩
 ·rename_i ds q
  obtain ⟨a, xs, e, hH, hF, r⟩ := R.mu i ds (.inl q)
  exact ⟨_, e, h a xs H F (Frm.refl.toFX R.sub) hH hF (fun o _ => ⟨i, ds, q, e⟩) r⟩
 ·exact h.elim
theorem rf_If' {c : TT} {t u : TS} {b : BF} {f k : SF} (hc : RfB K cl E c b) (hf : RfS K cl E t f) (hk : RfS K cl E u k) : RfS K cl E (tIfS c t u) (sIf b f k) := by
 intro N σ H env F R h
 refine hc σ H _ env F R ((Cs.bnd h).mono fun x H1 ⟨F1, e1, d, fr, R1, p1, h1⟩ => ?_)
 cases (show x = d from p1)
 by_cases z : x = true
 ·rw [if_pos z] at h1 ⊢; exact hf N σ H1 e1 F1 R1 (h1.from fr)
 ·rw [if_neg z] at h1 ⊢; exact hk N σ H1 e1 F1 R1 (h1.from fr)
theorem rf_Raise {c : Str} {t : TA} {f : AF} (hf : RfA K cl E t f) : RfS K cl E (tRaise (cl c) E t) (sRaise c f) := by
 intro N σ H env F R h
 refine hf σ H _ env F R ((Cs.bnd h).mono fun xs H1 ⟨F1, e1, ds, fr, R1, p1, h1⟩ => ?_)
 have hl : ds.length = xs.length := Rps.length p1
 split at h1
 ·rename_i z
  exact ⟨by rw [← hl]; exact z, h1 H1 F1 (fr.toFX R1.sub)⟩
 ·exact h1.elim
theorem rf_SetC {i : Nat} {g : List D → Option R1} {t : TA} {f : AF} (hf : RfA K cl E t f) : RfS K cl E (tAsg (tCall (spD K cl g) [] E t) (gName i)) (sSetC i g f) := by
 intro N σ H env F R h
 refine hf σ H _ env F R ((Cs.bnd h).mono fun vs H1 ⟨F1, e1, ds, fr, R1, p1, h1⟩ => ?_)
 show spD K cl g (vs ++ []) H1 _ E
 rw [List.append_nil]
 refine ⟨ds, F1, R1.sub, p1, ?_⟩
 unfold toSet at h1
 split at h1
 ·exact h1.elim
 ·obtain ⟨hi, nh, h2⟩ := putS h1
  exact fun v H' F' gr r => h2 _ H' F' ((fr.trans (R1.frm gr)).trans (Frm.put nh)) ((R1.gr gr).put hi nh r)
 ·obtain ⟨hi, nh, h2⟩ := putS h1
  intro a xs H' F' gr ha hH hF r
  refine h2 _ H' F' ((fr.trans (R1.frm gr)).putO (fr.dom a ha) nh) ((R1.gr gr).putO hi hH hF (fun j mj e => ?_) r)
  obtain ⟨es, q⟩ := mj
  obtain ⟨b, ys, e', hb, _⟩ := R1.mu j es q
  rw [e] at e'; cases e'
  rw [ha] at hb; cases hb
 ·exact h1.elim
 ·exact fun H' F' gr => h1 H' F' (fr.fx gr.fx)
theorem rf_SetC0 {i : Nat} {g : List D → Option R1} {t : TA} {f : AF} (hf : RfA K cl E t f) : RfS K cl E (tAsg (tCall (spD K cl g) [] E0 t) (gName i)) (sSetC0 i g f) := by
 intro N σ H env F R h
 refine hf σ H _ env F R ((Cs.bnd h).mono fun vs H1 ⟨F1, e1, ds, fr, R1, p1, h1⟩ => ?_)
 show spD K cl g (vs ++ []) H1 _ E0
 rw [List.append_nil]
 refine ⟨ds, F1, R1.sub, p1, ?_⟩
 unfold toSet0 at h1
 split at h1
 ·rename_i q; rw [q]
  obtain ⟨hi, nh, h2⟩ := putS h1
  exact fun v H' F' gr r => h2 _ H' F' ((fr.trans (R1.frm gr)).trans (Frm.put nh)) ((R1.gr gr).put hi nh r)
 ·rename_i q; rw [q]
  obtain ⟨hi, nh, h2⟩ := putS h1
  intro a xs H' F' gr ha hH hF r
  refine h2 _ H' F' ((fr.trans (R1.frm gr)).putO (fr.dom a ha) nh) ((R1.gr gr).putO hi hH hF (fun j mj e => ?_) r)
  obtain ⟨es, q⟩ := mj
  obtain ⟨b, ys, e', hb, _⟩ := R1.mu j es q
  rw [e] at e'; cases e'
  rw [ha] at hb; cases hb
 ·exact h1.elim
theorem Rel.change {i : Nat} {ds es : List D} {a : Addr} {ys : List V} (R : Rel K cl σ H F env) (h : env[i]? = some (.ow ds)) (e : σ[i]? = some (some (.ref a))) (r : Rps K cl F es ys) :
  Rel K cl σ (upd H a (.lst ys)) F (env.set i (.ow es)) ∧ Frm σ H F env σ (upd H a (.lst ys)) F (env.set i (.ow es)) := by
 obtain ⟨a', xs, e', hH, hF, _⟩ := R.mu i ds (.inl h)
 rw [e] at e'; cases e'
 have hi : i < env.length := (List.getElem?_eq_some_iff.mp h).1
 have self : (env.set i (.ow es))[i]? = some (.ow es) := List.getElem?_set_self hi
 have oth : ∀ j, j ≠ i → (env.set i (.ow es))[j]? = env[j]? := fun j hj => List.getElem?_set_ne (Ne.symm hj)
 have mui : ∀ j, Mu (env.set i (.ow es)) j → Mu env j := fun j ⟨fs, q⟩ => by
  by_cases z : j = i
  ·subst z; exact ⟨ds, .inl h⟩
  ·rw [oth j z] at q; exact ⟨fs, q⟩
 refine ⟨⟨fun b o q => ?_, by rw [List.length_set]; exact R.len, fun j d q => ?_, fun j fs q => ?_, fun j k b hj hk => R.inj j k b (mui j hj) (mui k hk)⟩, ⟨Same.refl _, fun b o hb fb w => ?_, fun j fs q => ?_, fun b q => ?_⟩⟩
 ·have z : b ≠ a := fun z => by rw [z, hF] at q; cases q
  rw [upd_ne z]; exact R.sub _ _ q
 ·have z : j ≠ i := fun z => by subst z; rw [self] at q; cases q
  rw [oth j z] at q; exact R.fz j d q
 ·by_cases z : j = i
  ·subst z
   rw [self] at q
   rcases q with q | q
   ·cases q; exact ⟨a, ys, e, upd_same, hF, r⟩
   ·cases q
  ·rw [oth j z] at q
   obtain ⟨b, zs, e1, h1, f1, r1⟩ := R.mu j fs q
   have nb : b ≠ a := fun y => z (R.inj j i b ⟨fs, q⟩ ⟨ds, .inl h⟩ e1 (by rw [y]; exact e))
   exact ⟨b, zs, e1, by rw [upd_ne nb]; exact h1, f1, r1⟩
 ·have z : b ≠ a := fun z => w ⟨i, ds, h, by rw [z]; exact e⟩
  refine ⟨by rw [upd_ne z]; exact hb, fb, fun ⟨j, fs, q, e1⟩ => ?_⟩
  by_cases y : j = i
  ·subst y; rw [e] at e1; cases e1; exact z rfl
  ·rw [oth j y] at q; exact w ⟨j, fs, q, e1⟩
 ·have z : j ≠ i := fun z => by subst z; rw [h] at q; cases q
  exact ⟨by rw [oth j z]; exact q, rfl⟩
 ·by_cases z : b = a
  ·rw [z, upd_same] at q; cases q
  ·rw [upd_ne z] at q; exact q
theorem rf_App {i : Nat} {t : TE} {f : ZF} (hf : RfZ K cl E t f) : RfS K cl E (tDrop (tBM K "list" rAppend (tVar i) (tCons t tNil))) (sApp i f) := by
 intro N σ H env F R h
 unfold sApp at h
 split at h
 ·rename_i ds0 q
  obtain ⟨x, e0, rb⟩ := R.look q
  obtain ⟨a0, xs0, rfl, hH0, _⟩ := rb.lst R.sub
  refine ⟨_, e0, .inl ⟨rfl, xs0, .of hH0⟩, ?_⟩
  ·refine hf σ H _ env F R ((Cs.bnd h).mono fun y H1 ⟨F1, e1, d, fr, R1, p1, h1⟩ => ?_)
   split at h1
   ·rename_i ds q1
    split at h1
    ·rename_i c
     obtain ⟨a, xs, e, hH, hF, r⟩ := R1.mu i ds (.inl q1)
     rw [e0] at e; cases e
     obtain ⟨R2, f2⟩ := R1.change q1 e0 (r.append (.one p1))
     exact ⟨_, xs, y, rfl, rfl, hH, by rw [← r.length]; exact c, h1 σ _ F1 (fr.trans f2) R2⟩
    ·exact h1.elim
   ·exact h1.elim
 ·exact h.elim
theorem rf_Sub {i : Nat} {t u : TE} {f k : ZF} (hf : RfZ K cl E t f) (hk : RfZ K cl E u k) : RfS K cl E (tAsg t (gSub (tVar i) u rSetL)) (sSub i k f) := by
 intro N σ H env F R h
 refine hf σ H _ env F R ((Cs.bnd h).mono fun x H1 ⟨F1, e1, d, fr, R1, p1, h1⟩ => ?_)
 cases q : look e1 i with
 | none => simp only [q] at h1; exact h1.elim
 | some d0 =>
  simp only [q] at h1
  obtain ⟨o, e0, _⟩ := R1.look q
  refine ⟨o, e0, hk σ H1 _ e1 F1 R1 ((Cs.bnd (h1.from fr)).mono fun y H2 ⟨F2, e2, j, fr2, R2, p2, h2⟩ => ?_)⟩
  split at h2
  ·rename_i _ _ ds j q2
   split at h2
   ·rename_i n hn
    obtain ⟨a, xs, e, hH, hF, r⟩ := R2.mu i ds (.inl q2)
    rw [e0] at e; cases e
    obtain ⟨R3, f3⟩ := R2.change q2 e0 (r.set (Rp.mono fr2.fz _ _ p1) n)
    have hy : y = .int j := by have := (show Rp K cl F2 (.int j) y from p2); simpa only [Rp] using this
    exact ⟨a, xs, j, n, rfl, hy, hH, by rw [← r.length]; exact hn, h2 σ _ F2 (fr2.trans f3) R3⟩
   ·exact h2.elim
  ·exact h2.elim
end
abbrev GF := D → DE → Option DE
def bName (i : Nat) : GF := fun d e => match e[i]? with
 | none => none
 | some (.hd _) => none
 | some _ => some (e.set i (.fz d))
def bEach : List GF → List D → DE → Option DE
 | [], [], e => some e
 | b :: bs, d :: ds, e => match b d e with
  | none => none
  | some e1 => bEach bs ds e1
 | _, _, _ => none
def bTup (bs : List GF) : GF := fun d e => match d with
 | .tup ds => bEach bs ds e
 | _ => none
section
variable (K : W.Frag) (cl : Str → Addr)
def RfG (k : Nat) (g : TG) (b : GF) : Prop := ∀ v σ H Q d env env' F, Rel K cl σ H F env → Rp K cl F d v → b d env = some env' → (∀ σ', σ'.drop k = σ.drop k → σ'.length = σ.length → Frm σ H F env σ' H F env' → Rel K cl σ' H F env' → Q σ' H) → g v σ H Q
def RfGs (k : Nat) (t : TGs) (bs : List GF) : Prop := ∀ vs σ H Q ds env env' F, Rel K cl σ H F env → Rps K cl F ds vs → bEach bs ds env = some env' → (∀ σ', σ'.drop k = σ.drop k → σ'.length = σ.length → Frm σ H F env σ' H F env' → Rel K cl σ' H F env' → Q σ' H) → t vs σ H Q
end
section
variable {K : W.Frag} {cl : Str → Addr} {E : XK} {σ : St} {H F : Hp} {env : DE} {k : Nat}
theorem drop_set {α : Type} {l : List α} {i k : Nat} {x : α} (h : i < k) : (l.set i x).drop k = l.drop k := by
 apply List.ext_getElem?
 intro j
 rw [List.getElem?_drop, List.getElem?_drop, List.getElem?_set_ne (by omega)]
theorem rf_gName {i : Nat} (hi : i < k) : RfG K cl k (gName i) (bName i) := by
 intro v σ H Q d env env' F R p h q
 unfold bName at h
 split at h
 ·cases h
 ·cases h
 ·rename_i z n e
  cases h
  have nh : ∀ ds, env[i]? ≠ some (.hd ds) := fun ds y => by rw [e] at y; cases y; exact n ds rfl
  exact q _ (drop_set hi) List.length_set (Frm.put nh) (R.put (List.getElem?_eq_some_iff.mp e).1 nh p)
theorem rf_gNil : RfGs K cl k gNil [] := by
 intro vs σ H Q ds env env' F R p h q
 cases ds with
 | nil => cases h; exact ⟨p.inv0, q σ rfl rfl Frm.refl R⟩
 | cons _ _ => cases h
theorem rf_gCons {t : TG} {u : TGs} {b : GF} {bs : List GF} (h1 : RfG K cl k t b) (h2 : RfGs K cl k u bs) : RfGs K cl k (gCons t u) (b :: bs) := by
 intro vs σ H Q ds env env' F R p h q
 cases ds with
 | nil => cases h
 | cons d ds =>
  obtain ⟨v, r, rfl, p1, p2⟩ := p.inv
  unfold bEach at h
  split at h
  ·cases h
  ·rename_i e1 hb
   refine ⟨v, r, rfl, h1 v σ H _ d env e1 F R p1 hb fun σ1 d1 l1 f1 R1 => ?_⟩
   exact h2 r σ1 H _ ds e1 env' F R1 p2 h fun σ2 d2 l2 f2 R2 => q σ2 (d2.trans d1) (l2.trans l1) (f1.trans f2) R2
theorem bEach_len : ∀ {bs : List GF} {ds : List D} {e e' : DE}, bEach bs ds e = some e' → ds.length = bs.length
 | [], [], _, _, _ => rfl
 | [], _ :: _, _, _, h => by cases h
 | _ :: _, [], _, _, h => by cases h
 | b :: bs, d :: ds, e, e', h => by
  unfold bEach at h
  split at h
  ·cases h
  ·simp [bEach_len h]
theorem rf_gTup {t : TGs} {bs : List GF} {n : Nat} (h : RfGs K cl k t bs) (hn : bs.length = n) : RfG K cl k (gTup K n t) (bTup bs) := by
 intro v σ H Q d env env' F R p e q
 unfold bTup at e
 split at e
 ·rename_i ds
  simp only [Rp] at p
  obtain ⟨a, xs, rfl, hF, r⟩ := p
  exact ⟨a, xs, rfl, .of (R.sub _ _ hF), by rw [← r.length, bEach_len e, hn], h xs σ H Q ds env env' F R r e q⟩
 ·cases e
def sAsg (f : ZF) (b : GF) : SF := fun e => sbn (f e) fun d e1 => match b d e1 with
 | none => none
 | some e2 => some (.nx e2)
theorem rf_Asg {t : TE} {g : TG} {f : ZF} {b : GF} (hf : RfZ K cl E t f) (hg : RfG K cl k g b) : RfS K cl E (tAsg t g) (sAsg f b) := by
 intro N σ H env F R h
 refine hf σ H _ env F R ((Cs.bnd h).mono fun x H1 ⟨F1, e1, d, fr, R1, p1, h1⟩ => ?_)
 split at h1
 ·exact h1.elim
 ·rename_i e2 hb
  exact hg x σ H1 _ d e1 e2 F1 R1 p1 hb fun σ' _ _ f2 R2 => h1 σ' H1 F1 (fr.trans f2) R2
def forD (b : GF) (body : SF) : List D → DE → Option RS
 | [], e => some (.nx e)
 | d :: ds, e => match b d e with
  | none => none
  | some e1 => match body e1 with
   | some (.nx e2) => forD b body ds e2
   | some (.ct e2) => forD b body ds e2
   | some (.bk e2) => some (.nx e2)
   | r => r
theorem for_turn {b : GF} {body : SF} {g : TG} {tb : TS} {d : D} {x : V} {ds : List D} {e1 : DE} {N : Ends} {σ1 : St} {H1 F1 : Hp} {Pv : St → Hp → Prop} (hb : RfS K cl E tb body) (hg : RfG K cl k g b)
  (f1 : Frm σ H F env σ1 H1 F1 e1) (R1 : Rel K cl σ1 H1 F1 e1) (p : Rp K cl F1 d x) (h : Cs K cl E (forD b body (d :: ds) e1) σ H F env N)
  (hP : ∀ σ' H' F' e', Frm σ H F env σ' H' F' e' → Rel K cl σ' H' F' e' → Cs K cl E (forD b body ds e') σ H F env N → Pv σ' H') :
  g x σ1 H1 fun σ2 H2 => tb { N with nx := Pv, ct := Pv, bk := N.nx } σ2 H2 := by
 unfold forD at h
 split at h
 ·exact h.elim
 ·rename_i e2 hbd
  refine hg x σ1 H1 _ d e1 e2 F1 R1 p hbd fun σ2 _ _ f2 R2 => ?_
  refine hb _ σ2 H1 e2 F1 R2 ?_
  split at h
  ·rename_i e3 q; rw [q]
   exact fun σ' H' F' f3 R3 => hP σ' H' F' e3 ((f1.trans f2).trans f3) R3 h
  ·rename_i e3 q; rw [q]
   exact fun σ' H' F' f3 R3 => hP σ' H' F' e3 ((f1.trans f2).trans f3) R3 h
  ·rename_i e3 q; rw [q]
   exact fun σ' H' F' f3 R3 => h σ' H' F' ((f1.trans f2).trans f3) R3
  ·rename_i n1 n2 n3
   have h2 := h.from (f1.trans f2)
   unfold Cs at h2 ⊢
   split at h2
   ·exact h2
   ·rename_i e q; exact absurd q (n1 e)
   ·rename_i e q; exact absurd q (n3 e)
   ·rename_i e q; exact absurd q (n2 e)
   ·exact h2
   ·exact h2
   ·exact h2
   ·exact h2
theorem drop_cons {α : Type} {l : List α} {i : Nat} {x : α} (h : l[i]? = some x) : l.drop i = x :: l.drop (i + 1) := by
 obtain ⟨hi, e⟩ := List.getElem?_eq_some_iff.mp h
 rw [← e]; exact List.drop_eq_getElem_cons hi
def seqL : D → Option (List D)
 | .lst ds => some ds
 | .scr ns => some (ns.map .int)
 | _ => none
theorem Rp.seqL {d : D} {ds : List D} {v : V} (p : Rp K cl F d v) (s : L2.seqL d = some ds) : ∃ a xs, v = .ref a ∧ Rps K cl F ds xs ∧ ∀ H', Same F H' → SqL K H' a xs := by
 unfold L2.seqL at s
 split at s
 ·cases s; simp only [Rp] at p
  obtain ⟨a, xs, e, h, r⟩ := p
  exact ⟨a, xs, e, r, fun H' g => .of (g _ _ h)⟩
 ·cases s; simp only [Rp] at p
  obtain ⟨a, e, h⟩ := p
  exact ⟨a, _, e, Rps.ofInts, fun H' g => (h.same g).seq⟩
 ·cases s
def rngD (lo : Int) (n : Nat) : List D := (List.range n).map fun (i : Nat) => .int (lo + (i : Int))
theorem rngD_drop {lo : Int} {n i : Nat} (h : i < n) : (rngD lo n).drop i = .int (lo + i) :: (rngD lo n).drop (i + 1) := drop_cons (by unfold rngD; rw [List.getElem?_map, List.getElem?_range h]; rfl)
theorem rngD_len {lo : Int} {n : Nat} : (rngD lo n).length = n := by unfold rngD; rw [List.length_map, List.length_range]
theorem forR {b : GF} {body : SF} {g : TG} {tb : TS} {lo : Int} {n : Nat} {N : Ends} (hb : RfS K cl E tb body) (hg : RfG K cl k g b) (R : Rel K cl σ H F env) (h : Cs K cl E (forD b body (rngD lo n) env) σ H F env N) :
  ∃ W : Nat → Nat → St → Hp → Prop, (∃ m, W 0 m σ H) ∧ ∀ i m σ H, W i m σ H →
   ((Itr lo n).stop i H ∧ N.nx σ H) ∨ ((Itr lo n).go i H ∧ ∃ M : St → Hp → Prop, (∀ σ' H', M σ' H' → ∃ m', m' < m ∧ W (i + 1) m' σ' H') ∧ ∀ x H', (Itr lo n).yld i H x H' → g x σ H' fun σ2 H2 => tb { N with nx := M, ct := M, bk := N.nx } σ2 H2) := by
 refine for_range (fun i σ' H' => ∃ F' e', Frm σ H F env σ' H' F' e' ∧ Rel K cl σ' H' F' e' ∧ Cs K cl E (forD b body ((rngD lo n).drop i) e') σ H F env N) ⟨F, env, Frm.refl, R, h⟩ (fun i σ' H' hx ⟨F', e', f, R', h'⟩ => ?_) (fun σ' H' ⟨F', e', f, R', h'⟩ => ?_)
 ·rw [rngD_drop hx] at h'
  exact for_turn hb hg f R' (by simp only [Rp]) h' fun σ2 H2 F2 e2 f2 R2 h2 => ⟨F2, e2, f2, R2, h2⟩
 ·rw [show (rngD lo n).drop n = [] from List.drop_eq_nil_of_le (by rw [rngD_len]; exact Nat.le_refl _)] at h'
  exact h' σ' H' F' f R'
def rng1 (ds : List D) : Option (Int × Nat) := match ds with
 | [.int j] => if -(2 ^ 62) ≤ j ∧ j < 2 ^ 62 then some (0, j.toNat) else none
 | _ => none
theorem rng1_of {ds : List D} {vs : List V} {lo : Int} {n : Nat} (h : rng1 ds = some (lo, n)) (p : Rps K cl F ds vs) : ∃ j : Int, vs = [.int j] ∧ -(2 ^ 62) ≤ j ∧ j < 2 ^ 62 ∧ lo = 0 ∧ n = j.toNat := by
 unfold rng1 at h
 split at h
 ·rename_i j
  split at h
  ·rename_i c; cases h
   exact ⟨j, (Rps.ints (ns := [j]) p), c.1, c.2, rfl, rfl⟩
  ·cases h
 ·cases h
def sForR (rg : List D → Option (Int × Nat)) (f : AF) (b : GF) (body : SF) : SF := fun e => sbn (f e) fun ds e1 => match rg ds with
 | none => none
 | some (lo, n) => forD b body (rngD lo n) e1
theorem rf_ForR1 {t : TA} {g : TG} {tb : TS} {f : AF} {b : GF} {body : SF} (hf : RfA K cl E t f) (hg : RfG K cl k g b) (hb : RfS K cl E tb body) : RfS K cl E (tFor (iRng1 t) g tb) (sForR rng1 f b body) := by
 intro N σ H env F R h
 refine hf σ H _ env F R ((Cs.bnd h).mono fun x H1 ⟨F1, e1, ds, fr, R1, p1, h1⟩ => ?_)
 split at h1
 ·exact h1.elim
 ·rename_i lo n hs
  obtain ⟨j, e, c1, c2, rfl, rfl⟩ := rng1_of hs p1
  exact ⟨j, e, c1, c2, forR hb hg R1 (h1.from fr)⟩
end
section
variable {K : W.Frag} {cl : Str → Addr} {E : XK} {σ : St} {H F : Hp} {env : DE} {k : Nat}
def unhide (i : Nat) (ds : List D) (r : Option RS) : Option RS := match r with
 | some (.nx e) => some (.nx (e.set i (.ow ds)))
 | some (.bk _) => none
 | some (.ct _) => none
 | r => r
theorem Rel.hide {i : Nat} {ds : List D} (R : Rel K cl σ H F env) (h : env[i]? = some (.ow ds)) : Rel K cl σ H F (env.set i (.hd ds)) := by
 have hi : i < env.length := (List.getElem?_eq_some_iff.mp h).1
 have self : (env.set i (.hd ds))[i]? = some (.hd ds) := List.getElem?_set_self hi
 have oth : ∀ j, j ≠ i → (env.set i (.hd ds))[j]? = env[j]? := fun j hj => List.getElem?_set_ne (Ne.symm hj)
 have mui : ∀ (j : Nat) (fs : List D), (env.set i (.hd ds))[j]? = some (.ow fs) ∨ (env.set i (.hd ds))[j]? = some (.hd fs) → env[j]? = some (.ow fs) ∨ env[j]? = some (.hd fs) := fun j fs q => by
  by_cases z : j = i
  ·subst z; rw [self] at q; rcases q with q | q <;> cases q; exact .inl h
  ·rw [oth j z] at q; exact q
 refine ⟨R.sub, by rw [List.length_set]; exact R.len, fun j d q => ?_, fun j fs q => R.mu j fs (mui j fs q), fun j l b ⟨fs, q⟩ ⟨gs, q'⟩ => R.inj j l b ⟨fs, mui j fs q⟩ ⟨gs, mui l gs q'⟩⟩
 have z : j ≠ i := fun z => by subst z; rw [self] at q; cases q
 rw [oth j z] at q; exact R.fz j d q
theorem Ow.hide {i : Nat} {ds : List D} {a : Addr} (w : Ow σ (env.set i (.hd ds)) a) : Ow σ env a := by
 obtain ⟨j, fs, q, e⟩ := w
 by_cases z : j = i
 ·subst z
  have hj : j < env.length := by have := (List.getElem?_eq_some_iff.mp q).1; rwa [List.length_set] at this
  rw [List.getElem?_set_self hj] at q; cases q
 ·rw [List.getElem?_set_ne (Ne.symm z)] at q; exact ⟨j, fs, q, e⟩
theorem Rel.unhide {i : Nat} {ds : List D} (R : Rel K cl σ H F env) (h : env[i]? = some (.hd ds)) : Rel K cl σ H F (env.set i (.ow ds)) := by
 have hi : i < env.length := (List.getElem?_eq_some_iff.mp h).1
 have self : (env.set i (.ow ds))[i]? = some (.ow ds) := List.getElem?_set_self hi
 have oth : ∀ j, j ≠ i → (env.set i (.ow ds))[j]? = env[j]? := fun j hj => List.getElem?_set_ne (Ne.symm hj)
 have mui : ∀ (j : Nat) (fs : List D), (env.set i (.ow ds))[j]? = some (.ow fs) ∨ (env.set i (.ow ds))[j]? = some (.hd fs) → env[j]? = some (.ow fs) ∨ env[j]? = some (.hd fs) := fun j fs q => by
  by_cases z : j = i
  ·subst z; rw [self] at q; rcases q with q | q <;> cases q; exact .inr h
  ·rw [oth j z] at q; exact q
 refine ⟨R.sub, by rw [List.length_set]; exact R.len, fun j d q => ?_, fun j fs q => R.mu j fs (mui j fs q), fun j l b ⟨fs, q⟩ ⟨gs, q'⟩ => R.inj j l b ⟨fs, mui j fs q⟩ ⟨gs, mui l gs q'⟩⟩
 have z : j ≠ i := fun z => by subst z; rw [self] at q; cases q
 rw [oth j z] at q; exact R.fz j d q
theorem Cs.hide {i : Nat} {ds : List D} {r : Option RS} {N : Ends} (R : Rel K cl σ H F env) (h : env[i]? = some (.ow ds)) (c : Cs K cl E (unhide i ds r) σ H F env N) : Cs K cl E r σ H F (env.set i (.hd ds)) N := by
 have hi : i < env.length := (List.getElem?_eq_some_iff.mp h).1
 have self : (env.set i (.hd ds))[i]? = some (.hd ds) := List.getElem?_set_self hi
 have fx : ∀ {H' F'}, FX σ H F (env.set i (.hd ds)) H' F' → FX σ H F env H' F' := fun x => ⟨x.fz, x.sub, fun a o h f w => x.hid a o h f fun y => w y.hide, x.dom⟩
 rcases r with _ | r
 ·exact c
 cases r with
 | nx e =>
  intro σ' H' F' f R'
  obtain ⟨q, eσ⟩ := f.keep i ds self
  refine c σ' H' F' ⟨f.fz, fun a o ha fa w => ?_, fun j fs q' => ?_, f.dom⟩ (R'.unhide q)
  ·obtain ⟨h1, f1, w1⟩ := f.hid a o ha fa fun y => w y.hide
   refine ⟨h1, f1, fun ⟨j, fs, q2, e2⟩ => ?_⟩
   by_cases z : j = i
   ·subst z
    rw [eσ] at e2
    exact w ⟨j, ds, h, e2⟩
   ·rw [List.getElem?_set_ne (Ne.symm z)] at q2
    exact w1 ⟨j, fs, q2, e2⟩
  ·have z : j ≠ i := fun z => by subst z; rw [h] at q'; cases q'
   obtain ⟨q2, e2⟩ := f.keep j fs (by rw [List.getElem?_set_ne (Ne.symm z)]; exact q')
   exact ⟨by rw [List.getElem?_set_ne (Ne.symm z)]; exact q2, e2⟩
 | bk e => exact c.elim
 | ct e => exact c.elim
 | rt d => exact fun v H' F' x p => c v H' F' (fx x) p
 | ro es => exact fun a xs H' F' x ha fa nw p => c a xs H' F' (fx x) ha fa (fun o e => (nw o e).hide) p
 | rz dss => exact fun p as H' F' x hp ht fp rz => c p as H' F' (fx x) hp ht fp (rz.imp fun a xs ha fa nw o e => (nw o e).hide)
 | ex n => exact fun H' F' x => c H' F' (fx x)
theorem Rel.hid_stays {i : Nat} {ds : List D} (R : Rel K cl σ H F env) (h : env[i]? = some (.hd ds)) : ∃ a xs, σ[i]? = some (some (.ref a)) ∧ Rps K cl F ds xs ∧ H a = some (.lst xs) ∧ ∀ σ' H' F' e', Frm σ H F env σ' H' F' e' → H' a = some (.lst xs) := by
 obtain ⟨a, xs, e, hH, hF, r⟩ := R.mu i ds (.inr h)
 refine ⟨a, xs, e, r, hH, fun σ' H' F' e' f => (f.hid a _ hH hF fun ⟨j, fs, q, e'⟩ => ?_).1⟩
 have z : i = j := R.inj i j a ⟨ds, .inr h⟩ ⟨fs, .inl q⟩ e e'
 subst z; rw [h] at q; cases q
def enD (n : Nat) : List D → List D
 | [] => []
 | d :: ds => .tup [.int n, d] :: enD (n + 1) ds
theorem enD_get : ∀ {ds : List D} {n i : Nat} {d : D}, ds[i]? = some d → (enD n ds)[i]? = some (.tup [.int (n + i : Nat), d])
 | [], _, _, _, h => by simp at h
 | _ :: _, n, 0, _, h => by simp at h; subst h; rfl
 | _ :: ds, n, i + 1, d, h => by
  have := enD_get (ds := ds) (n := n + 1) (i := i) (d := d) (by simpa using h)
  show (enD (n + 1) ds)[i]? = _
  rw [this, show n + 1 + i = n + (i + 1) by omega]
theorem enD_len : ∀ {ds : List D} {n : Nat}, (enD n ds).length = ds.length
 | [], _ => rfl
 | _ :: ds, n => by show (enD (n + 1) ds).length + 1 = ds.length + 1; rw [enD_len]
theorem forE {b : GF} {body : SF} {g : TG} {tb : TS} {ds : List D} {xs : List V} {a : Addr} {N : Ends} (hb : RfS K cl E tb body) (hg : RfG K cl k g b) (R : Rel K cl σ H F env)
  (hl : ∀ σ' H' F' e', Frm σ H F env σ' H' F' e' → Rel K cl σ' H' F' e' → SqL K H' a xs) (r : Rps K cl F ds xs) (h : Cs K cl E (forD b body (enD 0 ds) env) σ H F env N) :
  ∃ W : Nat → Nat → St → Hp → Prop, (∃ m, W 0 m σ H) ∧ ∀ i m σ H, W i m σ H →
   ((Ite K a).stop i H ∧ N.nx σ H) ∨ ((Ite K a).go i H ∧ ∃ M : St → Hp → Prop, (∀ σ' H', M σ' H' → ∃ m', m' < m ∧ W (i + 1) m' σ' H') ∧ ∀ x H', (Ite K a).yld i H x H' → g x σ H' fun σ2 H2 => tb { N with nx := M, ct := M, bk := N.nx } σ2 H2) := by
 refine for_enum (xs := xs) (fun i σ' H' => ∃ F' e', Frm σ H F env σ' H' F' e' ∧ Rel K cl σ' H' F' e' ∧ Cs K cl E (forD b body ((enD 0 ds).drop i) e') σ H F env N) ⟨F, env, Frm.refl, R, h⟩ (fun i σ' H' _ ⟨F', e', f, R', _⟩ => hl σ' H' F' e' f R') (fun i x σ' H' p hx ⟨F', e', f, R', h'⟩ hp => ?_) (fun σ' H' ⟨F', e', f, R', h'⟩ => ?_)
 ·obtain ⟨d, hd, pd⟩ := r.get' hx
  rw [drop_cons (enD_get hd), Nat.zero_add] at h'
  have gr : Gr H' F' (upd H' p (.tup [.int i, x])) (upd F' p (.tup [.int i, x])) := .new R'.sub hp
  refine for_turn hb hg (f.trans (R'.frm gr)) (R'.gr gr) ?_ h' fun σ2 H2 F2 e2 f2 R2 h2 => ⟨F2, e2, f2, R2, h2⟩
  simp only [Rp]
  exact ⟨p, _, rfl, upd_same, .cons (by simp only [Rp]) (.one (Rp.mono (f.fz.trans gr.fz) _ _ pd))⟩
 ·rw [← r.length, List.drop_eq_nil_of_le (by rw [enD_len]; exact Nat.le_refl _)] at h'
  exact h' σ' H' F' f R'
def sForEV (i : Nat) (b : GF) (body : SF) : SF := fun e => match e[i]? with
 | some (.fz d) => (match seqL d with
  | none => none
  | some ds => forD b body (enD 0 ds) e)
 | some (.ow ds) => unhide i ds (forD b body (enD 0 ds) (e.set i (.hd ds)))
 | some (.hd ds) => forD b body (enD 0 ds) e
 | _ => none
theorem rf_ForEV {i : Nat} {g : TG} {tb : TS} {b : GF} {body : SF} (hg : RfG K cl k g b) (hb : RfS K cl E tb body) : RfS K cl E (tFor (iEnum K (tCons (tVar i) tNil)) g tb) (sForEV i b body) := by
 intro N σ H env F R h
 unfold sForEV at h
 split at h
 ·rename_i d q
  split at h
  ·exact h.elim
  ·rename_i ds hs
   obtain ⟨v, e, p⟩ := R.fz i d q
   obtain ⟨a, xs, rfl, r, hl⟩ := Rp.seqL p hs
   exact ⟨_, e, a, rfl, ⟨xs, hl H R.sub⟩, forE hb hg R (fun σ' H' F' e' f2 R2 => hl H' (f2.fz.trans R2.sub)) r h⟩
 ·rename_i ds q
  have hi : i < env.length := (List.getElem?_eq_some_iff.mp q).1
  have R' := R.hide q
  obtain ⟨a, xs, e, r, hH, st⟩ := R'.hid_stays (i := i) (ds := ds) (List.getElem?_set_self hi)
  exact ⟨_, e, a, rfl, ⟨xs, .of hH⟩, forE hb hg R' (fun σ' H' F' e' f2 R2 => .of (st σ' H' F' e' f2)) r (h.hide R q)⟩
 ·rename_i ds q
  obtain ⟨a, xs, e, r, hH, st⟩ := R.hid_stays q
  exact ⟨_, e, a, rfl, ⟨xs, .of hH⟩, forE hb hg R (fun σ' H' F' e' f2 R2 => .of (st σ' H' F' e' f2)) r h⟩
 ·exact h.elim
def noHd (e : DE) : Bool := e.all fun s => match s with
 | .hd _ => false
 | _ => true
def sTryAs (n i : Nat) (exm : Str → Bool) (body suite : SF) : SF := fun e => match body e with
 | some (.ex c) => if (exm c && noHd e) = true then (match suite ((List.replicate n Sl.no).set i (.fz (.exc c))) with
   | some (.nx e2) => put i .no e2
   | some (.rt d) => some (.rt d)
   | some (.ro ds) => some (.ro ds)
   | _ => none) else none
 | r => r
theorem Rel.drop {i : Nat} (R : Rel K cl σ H F env) (nh : ∀ ds, env[i]? ≠ some (.hd ds)) : Rel K cl (σ.set i none) H F (env.set i .no) ∧ Frm σ H F env (σ.set i none) H F (env.set i .no) := by
 have key : ∀ (j : Nat) (s : Sl), (env.set i .no)[j]? = some s → s ≠ .no → j ≠ i ∧ env[j]? = some s := fun j s q ns => by
  by_cases z : j = i
  ·subst z
   have hj : j < env.length := by have := (List.getElem?_eq_some_iff.mp q).1; rwa [List.length_set] at this
   rw [List.getElem?_set_self hj] at q; cases q; exact absurd rfl ns
  ·rw [List.getElem?_set_ne (Ne.symm z)] at q; exact ⟨z, q⟩
 have muk : ∀ j, Mu (env.set i .no) j → j ≠ i ∧ Mu env j := fun j ⟨ds, q⟩ => by
  rcases q with q | q
  ·obtain ⟨z, q⟩ := key j _ q (fun z => by cases z); exact ⟨z, ds, .inl q⟩
  ·obtain ⟨z, q⟩ := key j _ q (fun z => by cases z); exact ⟨z, ds, .inr q⟩
 refine ⟨⟨R.sub, by rw [List.length_set, List.length_set]; exact R.len, fun j d q => ?_, fun j ds q => ?_, fun j l b hj hl e1 e2 => ?_⟩, ⟨Same.refl _, fun a o h f w => ⟨h, f, fun ⟨j, ds, q, e⟩ => ?_⟩, fun j ds q => ?_, fun _ h => h⟩⟩
 ·obtain ⟨z, q⟩ := key j _ q (fun z => by cases z)
  obtain ⟨v, e, p⟩ := R.fz j d q
  exact ⟨v, by rw [List.getElem?_set_ne (Ne.symm z)]; exact e, p⟩
 ·have : j ≠ i ∧ (env[j]? = some (.ow ds) ∨ env[j]? = some (.hd ds)) := by
   rcases q with q | q
   ·obtain ⟨z, q⟩ := key j _ q (fun z => by cases z); exact ⟨z, .inl q⟩
   ·obtain ⟨z, q⟩ := key j _ q (fun z => by cases z); exact ⟨z, .inr q⟩
  obtain ⟨z, q⟩ := this
  obtain ⟨a, xs, e, r⟩ := R.mu j ds q
  exact ⟨a, xs, by rw [List.getElem?_set_ne (Ne.symm z)]; exact e, r⟩
 ·obtain ⟨zj, mj⟩ := muk j hj
  obtain ⟨zl, ml⟩ := muk l hl
  rw [List.getElem?_set_ne (Ne.symm zj)] at e1
  rw [List.getElem?_set_ne (Ne.symm zl)] at e2
  exact R.inj j l b mj ml e1 e2
 ·obtain ⟨z, q⟩ := key j _ q (fun z => by cases z)
  rw [List.getElem?_set_ne (Ne.symm z)] at e
  exact w ⟨j, ds, q, e⟩
 ·have z : j ≠ i := fun z => by subst z; exact nh ds q
  rw [List.getElem?_set_ne (Ne.symm z), List.getElem?_set_ne (Ne.symm z)]
  exact ⟨q, rfl⟩
end
section
variable {K : W.Frag} {cl : Str → Addr} {E : XK} {σ : St} {H F : Hp} {env : DE} {k : Nat}
def capS : Option Sl → Sl
 | some (.fz d) => .fz d
 | some (.ow ds) => .hd ds
 | some (.hd ds) => .hd ds
 | _ => .no
def compE (k : Nat) (js : List Nat) (e : DE) : DE := List.replicate k .no ++ js.map fun j => capS e[j]?
def compD (b : GF) (c : BF) (el : ZF) (ec : DE) (eo : DE) : List D → List D → Option (R (List D))
 | [], acc => some (.ok acc eo)
 | d :: ds, acc => match b d ec with
  | none => none
  | some e1 => bnd (c e1) fun t e2 => if t = true then bnd (el e2) fun y _ => if acc.length < sizeLine then compD b c el ec eo ds (acc ++ [y]) else none
   else compD b c el ec eo ds acc
theorem compE_get {js : List Nat} {e : DE} {i : Nat} {s : Sl} (h : (compE k js e)[i]? = some s) (n : s ≠ .no) : k ≤ i ∧ ∃ j, js[i - k]? = some j ∧ capS e[j]? = s := by
 unfold compE at h
 by_cases z : i < k
 ·rw [List.getElem?_append_left (by rw [List.length_replicate]; exact z), List.getElem?_replicate, if_pos z] at h
  cases h; exact absurd rfl n
 ·rw [List.getElem?_append_right (by rw [List.length_replicate]; omega), List.length_replicate, List.getElem?_map] at h
  cases q : js[i - k]? with
  | none => rw [q] at h; cases h
  | some j => rw [q] at h; cases h; exact ⟨by omega, j, rfl, rfl⟩
theorem compSt_get {js : List Nat} {i j : Nat} {v : V} (hk : k ≤ i) (hj : js[i - k]? = some j) (h : σ[j]? = some (some v)) : (compSt k js σ)[i]? = some (some v) := by
 unfold compSt
 rw [List.getElem?_append_right (by rw [List.length_replicate]; exact hk), List.length_replicate, List.getElem?_map, hj]
 simp [h]
theorem Rel.comp {js : List Nat} (R : Rel K cl σ H F env) (nd : js.Nodup) : Rel K cl (compSt k js σ) H F (compE k js env) := by
 have cap : ∀ {j : Nat} {ds : List D}, capS env[j]? = .hd ds → env[j]? = some (.ow ds) ∨ env[j]? = some (.hd ds) := fun {j ds} h => by
  unfold capS at h
  split at h
  ·cases h
  ·rename_i q; cases h; exact .inl q
  ·rename_i q; cases h; exact .inr q
  ·cases h
 have noow : ∀ {j : Nat} {ds : List D}, capS env[j]? ≠ .ow ds := fun {j ds} h => by
  unfold capS at h
  split at h <;> cases h
 have mu' : ∀ (i : Nat) (ds : List D), ((compE k js env)[i]? = some (.ow ds) ∨ (compE k js env)[i]? = some (.hd ds)) → k ≤ i ∧ ∃ j, js[i - k]? = some j ∧ (env[j]? = some (.ow ds) ∨ env[j]? = some (.hd ds)) := fun i ds q => by
  rcases q with q | q
  ·obtain ⟨hk, j, hj, c⟩ := compE_get q (fun z => by cases z); exact absurd c noow
  ·obtain ⟨hk, j, hj, c⟩ := compE_get q (fun z => by cases z); exact ⟨hk, j, hj, cap c⟩
 refine ⟨R.sub, ?_, fun i d q => ?_, fun i ds q => ?_, fun i l b ⟨ds, q⟩ ⟨es, q'⟩ e1 e2 => ?_⟩
 ·unfold compSt compE
  rw [List.length_append, List.length_append, List.length_replicate, List.length_replicate, List.length_map, List.length_map]
 ·obtain ⟨hk, j, hj, c⟩ := compE_get q (fun z => by cases z)
  have : env[j]? = some (.fz d) := by
   unfold capS at c
   split at c
   ·rename_i q; cases c; exact q
   all_goals cases c
  obtain ⟨v, e, p⟩ := R.fz j d this
  exact ⟨v, compSt_get hk hj e, p⟩
 ·obtain ⟨hk, j, hj, c⟩ := mu' i ds q
  obtain ⟨a, xs, e, r⟩ := R.mu j ds c
  exact ⟨a, xs, compSt_get hk hj e, r⟩
 ·obtain ⟨hk, j, hj, c⟩ := mu' i ds q
  obtain ⟨hl, m, hm, c'⟩ := mu' l es q'
  obtain ⟨a, xs, e, _⟩ := R.mu j ds c
  obtain ⟨a', xs', e', _⟩ := R.mu m es c'
  have h1 := compSt_get (k := k) hk hj e
  have h2 := compSt_get (k := k) hl hm e'
  rw [e1] at h1; cases h1
  rw [e2] at h2; cases h2
  have jm : j = m := R.inj j m b ⟨ds, c⟩ ⟨es, c'⟩ e e'
  subst jm
  obtain ⟨hi', ei⟩ := List.getElem?_eq_some_iff.mp hj
  obtain ⟨hl', el⟩ := List.getElem?_eq_some_iff.mp hm
  have : i - k = l - k := (List.getElem_inj nd).mp (ei.trans el.symm)
  omega
def NoOw (e : DE) : Prop := ∀ (i : Nat) (ds : List D), e[i]? ≠ some (.ow ds)
theorem noow_comp {js : List Nat} {e : DE} : NoOw (compE k js e) := fun i ds q => by
 obtain ⟨hk, j, hj, c⟩ := compE_get q (fun z => by cases z)
 unfold capS at c
 split at c <;> cases c
theorem NoOw.not {e : DE} (n : NoOw e) {σ : St} {a : Addr} : ¬ Ow σ e a := fun ⟨i, ds, q, _⟩ => n i ds q
theorem Frm.gr {σ' : St} {H' F' : Hp} {env' : DE} (f : Frm σ H F env σ' H' F' env') (n : NoOw env) (s : Same F' H') : Gr H F H' F' := ⟨f.fz, s, fun a o h g => by obtain ⟨h1, f1, _⟩ := f.hid a o h g n.not; exact ⟨h1, f1⟩⟩
theorem FX.gr {H' F' : Hp} (f : FX σ H F env H' F') (n : NoOw env) : Gr H F H' F' := ⟨f.fz, f.sub, fun a o h g => f.hid a o h g n.not⟩
structure Grow (K : W.Frag) (cl : Str → Addr) (σ : St) (H0 F0 : Hp) (env : DE) (B : Addr) (acc : List D) (ys : List V) (H F : Hp) : Prop where
 rel : Rel K cl σ H F env
 frm : Frm σ H0 F0 env σ H F env
 new : H0 B = none
 at_ : H B = some (.lst ys)
 un : F B = none
 far : ∀ j, Mu env j → σ[j]? ≠ some (some (.ref B))
 rps : Rps K cl F acc ys
 stay : ∀ a o, H0 a = some o → F0 a = none → H a = some o ∧ F a = none
theorem Grow.start {B : Addr} (R : Rel K cl σ H F env) (hB : H B = none) : Grow K cl σ H F env B [] [] (upd H B (.lst [])) F := by
 obtain ⟨R', f⟩ := R.newN (o := .lst []) hB
 refine ⟨R', f, hB, upd_same, R.sub.free hB, fun j ⟨ds, q⟩ e => ?_, .nil, fun a o h f => ⟨by rw [upd_ne (fun z => by rw [z, hB] at h; cases h)]; exact h, f⟩⟩
 obtain ⟨a, ys, e1, hH, _⟩ := R.mu j ds q
 rw [e] at e1; cases e1
 rw [hB] at hH; cases hH
theorem Grow.gr {B : Addr} {acc : List D} {ys : List V} {H0 F0 H' F' : Hp} (g : Grow K cl σ H0 F0 env B acc ys H F) (r : Gr H F H' F') : Grow K cl σ H0 F0 env B acc ys H' F' :=
 ⟨g.rel.gr r, g.frm.trans (g.rel.frm r), g.new, (r.hid B _ g.at_ g.un).1, (r.hid B _ g.at_ g.un).2, g.far, g.rps.mono r.fz, fun a o h f => by obtain ⟨h1, f1⟩ := g.stay a o h f; exact r.hid a o h1 f1⟩
theorem Grow.push {B : Addr} {acc : List D} {ys : List V} {H0 F0 : Hp} {d : D} {y : V} (g : Grow K cl σ H0 F0 env B acc ys H F) (p : Rp K cl F d y) : Grow K cl σ H0 F0 env B (acc ++ [d]) (ys ++ [y]) (upd H B (.lst (ys ++ [y]))) F := by
 have ne : ∀ a o, F a = some o → a ≠ B := fun a o h z => by rw [z, g.un] at h; cases h
 refine ⟨⟨fun a o h => by rw [upd_ne (ne a o h)]; exact g.rel.sub _ _ h, g.rel.len, g.rel.fz, fun j ds q => ?_, g.rel.inj⟩, ⟨g.frm.fz, fun a o h f w => ?_, g.frm.keep, fun a h => ?_⟩, g.new, upd_same, g.un, g.far, g.rps.append (.one p), fun a o h f => by rw [upd_ne (fun z => by rw [z, g.new] at h; cases h)]; exact g.stay a o h f⟩
 ·obtain ⟨a, xs, e, hH, r⟩ := g.rel.mu j ds q
  have z : a ≠ B := fun z => g.far j ⟨ds, q⟩ (by rw [e, z])
  exact ⟨a, xs, e, by rw [upd_ne z]; exact hH, r⟩
 ·have z : a ≠ B := fun z => by rw [z, g.new] at h; cases h
  rw [upd_ne z]; exact g.frm.hid a o h f w
 ·by_cases z : a = B
  ·rw [z, upd_same] at h; cases h
  ·rw [upd_ne z] at h; exact g.frm.dom a h
theorem comp_turn {b : GF} {c : BF} {el : ZF} {g : TG} {tf : TT} {te : TE} {js : List Nat} {B : Addr} {d : D} {x : V} {ds acc : List D} {ys : List V} {H0 F0 : Hp} {Q : VK} {Pv : List V → Hp → Prop} (nd : js.Nodup)
  (hg : RfG K cl k g b) (hc : RfB K cl E tf c) (he : RfZ K cl E te el) (gw : Grow K cl σ H0 F0 env B acc ys H F) (p : Rp K cl F d x)
  (h : Ct K cl E (PN K cl) (compD b c el (compE k js env) env (d :: ds) acc) σ H0 F0 env Q)
  (hP : ∀ acc' ys' H' F', Grow K cl σ H0 F0 env B acc' ys' H' F' → Ct K cl E (PN K cl) (compD b c el (compE k js env) env ds acc') σ H0 F0 env Q → Pv ys' H') :
  g x (compSt k js σ) H fun σ2 H2 => (σ2.drop k = (compSt k js σ).drop k ∧ σ2.length = (compSt k js σ).length) ∧ tf σ2 H2 fun t H3 =>
   if t = true then te σ2 H3 fun y H4 => H4 B = some (.lst ys) ∧ ys.length < sizeLine ∧ Pv (ys ++ [y]) (upd H4 B (.lst (ys ++ [y]))) else Pv ys H3 := by
 unfold compD at h
 have Rc : Rel K cl (compSt k js σ) H F (compE k js env) := gw.rel.comp nd
 split at h
 ·exact h.elim
 ·rename_i e1 hb
  refine hg x _ H _ d _ e1 F Rc p hb fun σ2 d2 l2 f2 R2 => ⟨⟨d2, l2⟩, ?_⟩
  have n1 : NoOw (compE k js env) := noow_comp
  -- ways out by an exception
  have exc : ∀ {H' F' : Hp} {σ' : St} {e' : DE} {H'' F'' : Hp} {n : Str}, Frm (compSt k js σ) H F (compE k js env) σ' H' F' e' → FX σ' H' F' e' H'' F'' → (∀ H' F', FX σ H0 F0 env H' F' → E (.ref (cl n)) none H') → E (.ref (cl n)) none H'' := fun {H' F' σ' e' H'' F'' n} f fx q => by
   have gr : Gr H F H'' F'' := (f.fx fx).gr n1
   exact q _ _ (gw.frm.fx gr.fx)
  refine hc σ2 H _ e1 F R2 ?_
  cases hce : c e1 with
  | none => rw [hce] at h; exact h.elim
  | some rc =>
   rw [hce] at h
   cases rc with
   | ex n => exact fun H' F' fx => exc f2 fx h
   | ok t e2 =>
    intro t' H3 F3 f3 R3 ht
    have ht : t' = t := ht
    subst ht
    have h : Ct K cl E (PN K cl) (if t' = true then bnd (el e2) fun y _ => if acc.length < sizeLine then compD b c el (compE k js env) env ds (acc ++ [y]) else none else compD b c el (compE k js env) env ds acc) σ H0 F0 env Q := h
    have gr3 : Gr H F H3 F3 := (f2.trans f3).gr n1 R3.sub
    by_cases z : t' = true
    ·rw [if_pos z] at h ⊢
     refine he σ2 H3 _ e2 F3 R3 ?_
     cases hel : el e2 with
     | none => rw [hel] at h; exact h.elim
     | some re =>
      rw [hel] at h
      cases re with
      | ex n => exact fun H' F' fx => exc (f2.trans f3) fx h
      | ok y e3 =>
       intro v H4 F4 f4 R4 hv
       have h : Ct K cl E (PN K cl) (if acc.length < sizeLine then compD b c el (compE k js env) env ds (acc ++ [y]) else none) σ H0 F0 env Q := h
       split at h
       ·rename_i hlen
        have gr4 : Gr H F H4 F4 := ((f2.trans f3).trans f4).gr n1 R4.sub
        have gw4 := gw.gr gr4
        exact ⟨gw4.at_, by rw [← gw4.rps.length]; exact hlen, hP _ _ _ _ (gw4.push hv) h⟩
       ·exact h.elim
    ·rw [if_neg z] at h ⊢
     exact hP _ _ _ _ (gw.gr gr3) h
theorem comp_fin {b : GF} {c : BF} {el : ZF} {js : List Nat} {B : Addr} {acc : List D} {ys : List V} {H0 F0 : Hp} {Q : VK} (gw : Grow K cl σ H0 F0 env B acc ys H F) (h : Ct K cl E (PN K cl) (compD b c el (compE k js env) env [] acc) σ H0 F0 env Q) : Q (.ref B) H :=
 h _ H F gw.frm gw.rel ⟨B, ys, rfl, gw.new, gw.at_, gw.un, gw.far, gw.rps⟩
theorem compRg {b : GF} {c : BF} {el : ZF} {g : TG} {tf : TT} {te : TE} {js : List Nat} {lo : Int} {n : Nat} {B : Addr} {Q : VK} (nd : js.Nodup) (hg : RfG K cl k g b) (hc : RfB K cl E tf c) (he : RfZ K cl E te el) (R : Rel K cl σ H F env) (hB : H B = none)
  (h : Ct K cl E (PN K cl) (compD b c el (compE k js env) env (rngD lo n) []) σ H F env Q) :
  tCompR (Itr lo n) g tf te k (compSt k js σ) B (fun H' => Q (.ref B) H') H := by
 refine comp_range (fun i ys H' => ∃ F' acc, Grow K cl σ H F env B acc ys H' F' ∧ Ct K cl E (PN K cl) (compD b c el (compE k js env) env ((rngD lo n).drop i) acc) σ H F env Q) ⟨F, [], .start R hB, h⟩ (fun i ys H' hx ⟨F', acc, gw, h'⟩ => ?_) (fun ys H' ⟨F', acc, gw, h'⟩ => ?_)
 ·rw [rngD_drop hx] at h'
  exact comp_turn (Pv := fun ys' H2 => ∃ F' acc, Grow K cl σ H F env B acc ys' H2 F' ∧ Ct K cl E (PN K cl) (compD b c el (compE k js env) env ((rngD lo n).drop (i + 1)) acc) σ H F env Q) nd hg hc he gw (by simp only [Rp]) h' fun acc' ys' H2 F2 gw2 h2 => ⟨F2, acc', gw2, h2⟩
 ·rw [show (rngD lo n).drop n = [] from List.drop_eq_nil_of_le (by rw [rngD_len]; exact Nat.le_refl _)] at h'
  exact comp_fin gw h'
def bTrue : BF := fun e => some (.ok true e)
theorem rf_bTrue : RfB K cl E tTrue bTrue := fun σ H Q env F R h => h true H F Frm.refl R rfl
def nCompR (rg : List D → Option (Int × Nat)) (k : Nat) (js : List Nat) (f : AF) (b : GF) (c : BF) (el : ZF) : NF := fun e => bnd (f e) fun ds e1 => match rg ds with
 | none => none
 | some (lo, n) => compD b c el (compE k js e1) e1 (rngD lo n) []
theorem rf_CompR1 {t : TA} {g : TG} {tf : TT} {te : TE} {js : List Nat} {f : AF} {b : GF} {c : BF} {el : ZF} (nd : js.Nodup) (hf : RfA K cl E t f) (hg : RfG K cl k g b) (hc : RfB K cl E tf c) (he : RfZ K cl E te el) : RfN K cl E (tComp (iRng1 t) g tf te k js) (nCompR rng1 k js f b c el) := by
 intro σ H Q env F R h
 refine hf σ H _ env F R ((Ct.bnd h pm_N).mono fun x H1 ⟨F1, e1, ds, s1, R1, p1, h1⟩ => ?_)
 split at h1
 ·exact h1.elim
 ·rename_i lo n hs
  obtain ⟨j, e, c1, c2, rfl, rfl⟩ := rng1_of hs p1
  exact ⟨j, e, c1, c2, fun B hB => compRg nd hg hc he R1 hB h1⟩
theorem rf_SetComp {i : Nat} {wi : TI} {g : TG} {tf : TT} {te : TE} {js : List Nat} {f : NF} (h : RfN K cl E (tComp wi g tf te k js) f) : RfS K cl E (tCompSet i wi g tf te k js) (sSetN i f) := fun N σ H env F R q => rf_SetN h N σ H env F R q
end
def fD (n m : Nat) (body : SF) (ds : List D) : Option R1 := if ds.length = m then (match body (ds.map .fz ++ List.replicate (n - ds.length) .no) with
 | some (.nx _) => some (.ret .non)
 | some (.rt d) => some (.ret d)
 | some (.ro es) => some (.own es)
 | some (.rz dss) => some (.owz dss)
 | some (.ex c) => some (.ex c)
 | _ => none) else none
section
variable {P : Program} {w : World} {K : W.Frag} {mg : Str → Option Value} {base : Heap} {cl : Str → Addr}
theorem start_rel {N : List Str} {vs : List V} {ds : List D} {H F : Hp} (s : Same F H) (p : Rps K cl F ds vs) : Rel K cl (start N vs) H F (ds.map .fz ++ List.replicate (N.length - ds.length) .no) ∧ NoOw (ds.map .fz ++ List.replicate (N.length - ds.length) .no) := by
 have key : ∀ (i : Nat) (t : Sl), (ds.map Sl.fz ++ List.replicate (N.length - ds.length) .no)[i]? = some t → t ≠ .no → ∃ d, ds[i]? = some d ∧ t = .fz d := fun i t q n => by
  by_cases z : i < ds.length
  ·rw [List.getElem?_append_left (by rw [List.length_map]; exact z), List.getElem?_map] at q
   cases hd : ds[i]? with
   | none => rw [hd] at q; cases q
   | some d => rw [hd] at q; cases q; exact ⟨d, rfl, rfl⟩
  ·rw [List.getElem?_append_right (by rw [List.length_map]; omega), List.getElem?_replicate] at q
   split at q
   ·cases q; exact absurd rfl n
   ·cases q
 have no : NoOw (ds.map .fz ++ List.replicate (N.length - ds.length) .no) := fun i es q => by
  obtain ⟨d, _, z⟩ := key i _ q (fun z => by cases z); cases z
 refine ⟨⟨s, ?_, fun i d q => ?_, fun i es q => ?_, fun i j b ⟨es, q⟩ _ _ _ => ?_⟩, no⟩
 ·unfold start
  rw [List.length_append, List.length_append, List.length_map, List.length_map, List.length_replicate, List.length_replicate, p.length]
 ·obtain ⟨d', hd, z⟩ := key i _ q (fun z => by cases z)
  cases z
  obtain ⟨v, hv, r⟩ := p.get hd
  refine ⟨v, ?_, r⟩
  unfold start
  rw [List.getElem?_append_left (by rw [List.length_map]; exact (List.getElem?_eq_some_iff.mp hv).1), List.getElem?_map, hv]; rfl
 ·rcases q with q | q
  ·obtain ⟨d, _, z⟩ := key i _ q (fun z => by cases z); cases z
  ·obtain ⟨d, _, z⟩ := key i _ q (fun z => by cases z); cases z
 ·rcases q with q | q
  ·obtain ⟨d, _, z⟩ := key i _ q (fun z => by cases z); cases z
  ·obtain ⟨d, _, z⟩ := key i _ q (fun z => by cases z); cases z
theorem spD_len {n m : Nat} {body : SF} {vs : List V} {H : Hp} {Q : VK} {E : XK} (h : spD K cl (fD n m body) vs H Q E) : vs.length = m := by
 obtain ⟨ds, F, s, p, h⟩ := h
 unfold fD at h
 by_cases z : ds.length = m
 ·rw [← p.length]; exact z
 ·rw [if_neg z] at h; exact h.elim
theorem body_reads {N : List Str} {m : Nat} {body : SF} {t : TS} {vs : List V} {H : Hp} {Q : VK} {E : XK} (hb : RfS K cl E t body) (h : spD K cl (fD N.length m body) vs H Q E) : t { nx := fun _ H' => Q .non H', rt := Q } (start N vs) H := by
 obtain ⟨ds, F, s, p, h⟩ := h
 obtain ⟨R, no⟩ := start_rel (N := N) s p
 refine hb _ _ H _ F R ?_
 unfold fD at h
 by_cases z : ds.length = m
 ·rw [if_pos z] at h
  cases r : body (ds.map .fz ++ List.replicate (N.length - ds.length) .no) with
  | none => rw [r] at h; exact h.elim
  | some rs =>
   rw [r] at h
   cases rs with
   | nx e => exact fun σ' H' F' f R' => h .non H' F' (f.gr no R'.sub) (by simp only [Rp])
   | rt d => exact fun v H' F' x q => h v H' F' (x.gr no) q
   | ro es =>
    refine fun a xs H' F' x ha fa nw q => h a xs H' F' (x.gr no) ?_ ha fa q
    cases e : H a with
    | none => rfl
    | some o => exact absurd (nw o e) no.not
   | rz dss =>
    refine fun p as H' F' x hp ht fp rz => h p as H' F' (x.gr no) hp ht fp (rz.imp fun a xs ha fa nw => ?_)
    cases e : H a with
    | none => rfl
    | some o => exact absurd (nw o e) no.not
   | bk e => exact h.elim
   | ct e => exact h.elim
   | ex c => exact fun H' F' x => h H' F' (x.gr no)
 ·rw [if_neg z] at h; exact h.elim
theorem Fun.okD {x qual : Str} {st : Stmt} {f : Addr} {fd : FuncData} {N ps : List Str} {k : Nat} {body : SF} (F : Fun K x qual st f fd) (S : FnScope N ps (defScope st))
  (hbody : ∀ (cdv : Value) (A : Around) (outer : List Env) (s : Shared) (H : Hp) (E : XK), Room k (A.deeper (envOfC qual (defScope st) s.heap.objs.size f cdv)) →
   ∃ t, PSs (cxOf (CXe P w) P w K mg base N qual (defScope st) f cdv A outer s H E) (defBody st) t ∧ RfS K cl E t body) : FnOk P w K mg base (CXe P w) (k + 1) f fd ps (spD K cl (fD N.length ps.length body)) :=
 F.okE S (fun vs H Q E h => spD_len h) fun cdv A outer s H vs Q E hr h => by
  obtain ⟨t, h1, h2⟩ := hbody cdv A outer s H E hr
  exact ⟨t, h1, body_reads h2 h⟩
theorem FunD.okD {x qual : Str} {st : Stmt} {dT f : Addr} {fd : FuncData} {N ps : List Str} {k : Nat} {body : SF} (F : FunD K x qual st dT f fd) (S : FnScope N ps (defScope st))
  (hbody : ∀ (cdv : Value) (A : Around) (outer : List Env) (s : Shared) (H : Hp) (E : XK), Room k (A.deeper (envOfC qual (defScope st) s.heap.objs.size f cdv)) →
   ∃ t, PSs (cxOf (CXe P w) P w K mg base N qual (defScope st) f cdv A outer s H E) (defBody st) t ∧ RfS K cl E t body) : FnOk P w K mg base (CXe P w) (k + 1) f fd ps (spD K cl (fD N.length ps.length body)) :=
 F.okE S (fun vs H Q E h => spD_len h) fun cdv A outer s H vs Q E hr h => by
  obtain ⟨t, h1, h2⟩ := hbody cdv A outer s H E hr
  exact ⟨t, h1, body_reads h2 h⟩
theorem spD_law {g : List D → Option R1} {vs : List V} {H : Hp} {Q : VK} {E : XK} {a : Addr} {ns : List Int} (e : vs = [.ref a]) (h : Scr K H a (ns.map V.int)) (q : ∀ H', Q (.bl true) H') (m : g [.scr ns] = some (.ret (.bl true))) : spD K cl g vs H Q E := by
 refine ⟨[.scr ns], H, Same.refl _, ?_, ?_⟩
 ·rw [e]; exact .one (by simp only [Rp]; exact ⟨a, rfl, h⟩)
 ·rw [m]
  intro v H' F' _ p
  have p : Rp K cl F' (.bl true) v := p
  simp only [Rp] at p
  rw [p]; exact q H'
def tyN : D → Option String
 | .non => some "NoneType"
 | .bl _ => some "bool"
 | .int _ => some "int"
 | .str _ => some "str"
 | .lst _ => some "list"
 | .tup _ => some "tuple"
 | _ => none
theorem kit_tab {K : W.Frag} (t n : String) (ht : t ∈ ["NoneType", "bool", "int", "str", "list", "tuple"]) (hn : n ∈ ["bool", "int", "str", "list", "tuple"]) : W.kitOne K (.type t) (.type n) = some (t == n || (t == "bool" && n == "int")) := by
 simp only [List.mem_cons, List.not_mem_nil, or_false] at ht hn
 rcases ht with rfl | rfl | rfl | rfl | rfl | rfl <;> rcases hn with rfl | rfl | rfl | rfl | rfl <;> first | rfl | with_unfolding_all rfl
def gIsi : List D → Option D
 | [d, .ty n] => match tyN d with
  | some t => if n ∈ ["bool", "int", "str", "list", "tuple"] then some (.bl (t == n || (t == "bool" && n == "int"))) else none
  | none => none
 | _ => none
theorem tyN_mem {d : D} {t : String} (h : tyN d = some t) : t ∈ ["NoneType", "bool", "int", "str", "list", "tuple"] := by
 cases d <;> cases h <;> decide
theorem tyN_of {F H : Hp} {d : D} {t : String} {v : V} (s : Same F H) (p : Rp K cl F d v) (h : tyN d = some t) : TyX K H v (.type t) := by
 cases d <;> cases h <;> simp only [Rp] at p
 ·subst p; exact .of .non
 ·subst p; exact .of (.bl _)
 ·subst p; exact .of (.int _)
 ·subst p; exact .of (.str _)
 ·obtain ⟨a, xs, rfl, h, _⟩ := p; exact .of (.tup (s _ _ h))
 ·obtain ⟨a, xs, rfl, h, _⟩ := p; exact .of (.lst (s _ _ h))
theorem ok_isi : CbOk K cl (rIsi K) gIsi := by
 intro xs ds z H F Q s hx h q
 unfold gIsi at h
 split at h
 ·rename_i d n
  split at h
  ·rename_i t ht
   split at h
   ·rename_i hn; cases h
    obtain ⟨v, r, rfl, p1, p2⟩ := hx.inv
    obtain ⟨u, r', rfl, p3, p4⟩ := p2.inv
    rw [p4.inv0]
    simp only [Rp] at p3
    subst p3
    exact ⟨v, _, _, _, _, rfl, rfl, tyN_of s p1 ht, kit_tab t n (tyN_mem ht) hn, q _ H F (.refl s) (by simp only [Rp])⟩
   ·cases h
  ·cases h
 ·cases h
def gIsiV (n : String) (d : D) : Option D := match tyN d with
 | some t => if n ∈ ["bool", "int", "str", "list", "tuple"] then some (.bl (t == n || (t == "bool" && n == "int"))) else none
 | none => none
def eIsiV (i : Nat) (n : String) : ZF := fun e => match look e i with
 | some d => opt (gIsiV n d) e
 | none => none
theorem rf_IsiV {E : XK} {i : Nat} {n : String} {t : TE} (ht : t = tC (.ty n) := by rfl) : RfZ K cl E (tCB (rIsi K) (tCons (tVar i) (tCons t tNil))) (eIsiV i n) := by
 subst ht
 intro σ H Q env F R h
 unfold eIsiV at h
 cases q : look env i with
 | none => rw [q] at h; exact h.elim
 | some d =>
  rw [q] at h
  obtain ⟨x, e, rb⟩ := R.look q
  refine ⟨x, e, ?_⟩
  cases hz : gIsiV n d with
  | none => simp only [hz, opt_none] at h; exact h.elim
  | some z =>
   simp only [hz, opt_some] at h
   unfold gIsiV at hz
   split at hz
   ·rename_i t ht
    split at hz
    ·rename_i hn; cases hz
     refine ⟨x, _, _, _, _, rfl, rfl, ?_, kit_tab t n (tyN_mem ht) hn, h _ H F Frm.refl R (by show Rp K cl F (.bl _) _; simp only [Rp])⟩
     rcases rb with p | ⟨a, xs, ds, rfl, rfl, hH, _⟩
     ·exact tyN_of R.sub p ht
     ·cases ht; exact .of (.lst hH)
    ·cases hz
   ·cases hz
end
section
variable {P : Program} {w : World} {mg : Str → Option Value} {base : Heap} {K : W.Frag} {cl : Str → Addr} {E : XK}
def gIsiX (x1 : Str → Str → Option Bool) (x2 : Str → String → Option Bool) : List D → Option D
 | [.exc c, .cls n] => (x1 c n).map .bl
 | [.exc c, .ty n] => (x2 c n).map .bl
 | _ => none
theorem ok_isiX {x1 : Str → Str → Option Bool} {x2 : Str → String → Option Bool} (h1 : ∀ c n b, x1 c n = some b → W.ExcT K (cl c) ∧ W.kitOne K (.ref (cl c)) (.ref (cl n)) = some b)
  (h2 : ∀ c n b, x2 c n = some b → W.ExcT K (cl c) ∧ W.kitOne K (.ref (cl c)) (.type n) = some b) : CbOk K cl (rIsi K) (gIsiX x1 x2) := by
 intro xs ds z H F Q s p h q
 unfold gIsiX at h
 split at h
 ·rename_i c n
  cases hb : x1 c n with
  | none => rw [hb] at h; cases h
  | some b =>
   rw [hb] at h; cases h
   obtain ⟨v, r, rfl, p1, p2⟩ := p.inv
   obtain ⟨u, r', rfl, p3, p4⟩ := p2.inv
   rw [p4.inv0]
   simp only [Rp] at p1 p3
   obtain ⟨a, cx, rfl, ha⟩ := p1
   subst p3
   obtain ⟨hT, hk⟩ := h1 c n b hb
   exact ⟨_, _, _, _, b, rfl, rfl, .exc (s _ _ ha) hT, hk, q _ H F (.refl s) (by simp only [Rp])⟩
 ·rename_i c n
  cases hb : x2 c n with
  | none => rw [hb] at h; cases h
  | some b =>
   rw [hb] at h; cases h
   obtain ⟨v, r, rfl, p1, p2⟩ := p.inv
   obtain ⟨u, r', rfl, p3, p4⟩ := p2.inv
   rw [p4.inv0]
   simp only [Rp] at p1 p3
   obtain ⟨a, cx, rfl, ha⟩ := p1
   subst p3
   obtain ⟨hT, hk⟩ := h2 c n b hb
   exact ⟨_, _, _, _, b, rfl, rfl, .exc (s _ _ ha) hT, hk, q _ H F (.refl s) (by simp only [Rp])⟩
 ·cases h
end
section
variable {α β : Type}
def seqR (r : Option RS) (k : SF) : Option RS := match r with
 | some (.nx e) => k e
 | r => r
theorem sSeq_eq {f k : SF} {e : DE} : sSeq f k e = seqR (f e) k := rfl
theorem seqR_nx {e : DE} {k : SF} : seqR (some (.nx e)) k = k e := rfl
theorem seqR_rt {d : D} {k : SF} : seqR (some (.rt d)) k = some (.rt d) := rfl
theorem seqR_ro {d : List D} {k : SF} : seqR (some (.ro d)) k = some (.ro d) := rfl
theorem seqR_ex {d : Str} {k : SF} : seqR (some (.ex d)) k = some (.ex d) := rfl
theorem seqR_bk {e : DE} {k : SF} : seqR (some (.bk e)) k = some (.bk e) := rfl
theorem seqR_ct {e : DE} {k : SF} : seqR (some (.ct e)) k = some (.ct e) := rfl
theorem seqR_no {k : SF} : seqR none k = none := rfl
theorem seqR_ite {c : Prop} [Decidable c] {a b : Option RS} {k : SF} : seqR (if c then a else b) k = if c then seqR a k else seqR b k := by split <;> rfl
theorem opt_ite {c : Prop} [Decidable c] {a b : Option α} {e : DE} : opt (if c then a else b) e = if c then opt a e else opt b e := by split <;> rfl
theorem toZ_ret {d : D} {e : DE} : toZ (some (.ret d)) e = some (.ok d e) := rfl
theorem toZ_own {d : List D} {e : DE} : toZ (some (.own d)) e = some (.ok (.lst d) e) := rfl
theorem toZ_ex {d : Str} {e : DE} : toZ (some (.ex d)) e = some (.ex d) := rfl
theorem toZ0_ret {d : D} {e : DE} : toZ0 (some (.ret d)) e = some (.ok d e) := rfl
theorem toZ0_own {d : List D} {e : DE} : toZ0 (some (.own d)) e = some (.ok (.lst d) e) := rfl
theorem toSet_ret {i : Nat} {d : D} {e : DE} : toSet i (some (.ret d)) e = put i (.fz d) e := rfl
theorem toSet_own {i : Nat} {d : List D} {e : DE} : toSet i (some (.own d)) e = put i (.ow d) e := rfl
theorem toSet_ex {i : Nat} {d : Str} {e : DE} : toSet i (some (.ex d)) e = some (.ex d) := rfl
theorem toSet0_ret {i : Nat} {d : D} {e : DE} : toSet0 i (some (.ret d)) e = put i (.fz d) e := rfl
theorem toSet0_own {i : Nat} {d : List D} {e : DE} : toSet0 i (some (.own d)) e = put i (.ow d) e := rfl
theorem toRet_ret {d : D} : toRet (some (.ret d)) = some (.rt d) := rfl
theorem toRet_own {d : List D} : toRet (some (.own d)) = some (.ro d) := rfl
theorem toRet_ex {d : Str} : toRet (some (.ex d)) = some (.ex d) := rfl
theorem toRet0_ret {d : D} : toRet0 (some (.ret d)) = some (.rt d) := rfl
theorem toRet0_own {d : List D} : toRet0 (some (.own d)) = some (.ro d) := rfl
def finR (r : Option RS) : Option R1 := match r with
 | some (.nx _) => some (.ret .non)
 | some (.rt d) => some (.ret d)
 | some (.ro es) => some (.own es)
 | some (.rz dss) => some (.owz dss)
 | some (.ex c) => some (.ex c)
 | _ => none
theorem fD_eq {n m : Nat} {body : SF} {ds : List D} (h : ds.length = m) : fD n m body ds = finR (body (ds.map .fz ++ List.replicate (n - m) .no)) := by
 unfold fD; rw [if_pos h, h]; rfl
theorem finR_nx {e : DE} : finR (some (.nx e)) = some (.ret .non) := rfl
theorem finR_rt {d : D} : finR (some (.rt d)) = some (.ret d) := rfl
theorem finR_rz {d : List (List D)} : finR (some (.rz d)) = some (.owz d) := rfl
theorem seqR_rz {d : List (List D)} {k : SF} : seqR (some (.rz d)) k = some (.rz d) := rfl
theorem toRet_owz {d : List (List D)} : toRet (some (.owz d)) = some (.rz d) := rfl
theorem finR_ro {d : List D} : finR (some (.ro d)) = some (.own d) := rfl
theorem finR_ex {d : Str} : finR (some (.ex d)) = some (.ex d) := rfl
theorem finR_ite {c : Prop} [Decidable c] {a b : Option RS} : finR (if c then a else b) = if c then finR a else finR b := by split <;> rfl
def forK (r : Option RS) (k : SF) : Option RS := match r with
 | some (.nx e) => k e
 | some (.ct e) => k e
 | some (.bk e) => some (.nx e)
 | r => r
theorem forK_nx {e : DE} {k : SF} : forK (some (.nx e)) k = k e := rfl
theorem forK_ct {e : DE} {k : SF} : forK (some (.ct e)) k = k e := rfl
theorem forK_bk {e : DE} {k : SF} : forK (some (.bk e)) k = some (.nx e) := rfl
theorem forK_rt {d : D} {k : SF} : forK (some (.rt d)) k = some (.rt d) := rfl
theorem forK_rz {d : List (List D)} {k : SF} : forK (some (.rz d)) k = some (.rz d) := rfl
theorem forK_ro {d : List D} {k : SF} : forK (some (.ro d)) k = some (.ro d) := rfl
theorem forK_ex {d : Str} {k : SF} : forK (some (.ex d)) k = some (.ex d) := rfl
theorem forD_nil {b : GF} {body : SF} {e : DE} : forD b body [] e = some (.nx e) := rfl
def optR (x : Option DE) (k : SF) : Option RS := match x with
 | none => none
 | some e => k e
theorem forD_step {b : GF} {body : SF} {d : D} {ds : List D} {e : DE} : forD b body (d :: ds) e = optR (b d e) fun e1 => forK (body e1) (forD b body ds) := by
 rw [forD]; cases b d e <;> rfl
theorem optR_some {e : DE} {k : SF} : optR (some e) k = k e := rfl
def tryR (n i : Nat) (exm : Str → Bool) (suite : SF) (e : DE) (r : Option RS) : Option RS := match r with
 | some (.ex c) => if (exm c && noHd e) = true then (match suite ((List.replicate n Sl.no).set i (.fz (.exc c))) with
   | some (.nx e2) => put i .no e2
   | some (.rt d) => some (.rt d)
   | some (.ro ds) => some (.ro ds)
   | _ => none) else none
 | r => r
theorem sTryAs_eq {n i : Nat} {exm : Str → Bool} {body suite : SF} {e : DE} : sTryAs n i exm body suite e = tryR n i exm suite e (body e) := rfl
def susR (i : Nat) (r : Option RS) : Option RS := match r with
 | some (.nx e2) => put i .no e2
 | some (.rt d) => some (.rt d)
 | some (.ro ds) => some (.ro ds)
 | _ => none
theorem susR_nx {i : Nat} {e : DE} : susR i (some (.nx e)) = put i .no e := rfl
theorem susR_rt {i : Nat} {d : D} : susR i (some (.rt d)) = some (.rt d) := rfl
theorem susR_ro {i : Nat} {d : List D} : susR i (some (.ro d)) = some (.ro d) := rfl
theorem tryR_ex {n i : Nat} {exm : Str → Bool} {suite : SF} {e : DE} {c : Str} : tryR n i exm suite e (some (.ex c)) = if (exm c && noHd e) = true then susR i (suite ((List.replicate n Sl.no).set i (.fz (.exc c)))) else none := rfl
theorem tryR_rt {n i : Nat} {exm : Str → Bool} {suite : SF} {e : DE} {d : D} : tryR n i exm suite e (some (.rt d)) = some (.rt d) := rfl
theorem tryR_ro {n i : Nat} {exm : Str → Bool} {suite : SF} {e : DE} {d : List D} : tryR n i exm suite e (some (.ro d)) = some (.ro d) := rfl
theorem tryR_nx {n i : Nat} {exm : Str → Bool} {suite : SF} {e e1 : DE} : tryR n i exm suite e (some (.nx e1)) = some (.nx e1) := rfl
theorem gAdd_eq (a b : Int) : gAdd (.int a) (.int b) = some (.int (a + b)) := rfl
theorem gSub_eq (a b : Int) : gSub' (.int a) (.int b) = some (.int (a - b)) := rfl
theorem gLt_eq (a b : Int) : gLt (.int a) (.int b) = some (.bl (decide (a < b))) := rfl
theorem gLe_eq (a b : Int) : gLe (.int a) (.int b) = some (.bl (decide (a ≤ b))) := rfl
theorem gGt_eq (a b : Int) : gGt (.int a) (.int b) = some (.bl (decide (b < a))) := rfl
theorem gMul_eq {a b : Int} (h : IntMulOk a b) : gMul (.int a) (.int b) = some (.int (a * b)) := by show (if _ then _ else _) = _; rw [if_pos h]
theorem gDiv_eq {a b : Int} (h : 0 < b ∧ b.natAbs.log2 < 9000) : gDiv (.int a) (.int b) = some (.int (a / b)) := by show (if _ then _ else _) = _; rw [if_pos h]
theorem gMod_eq {a b : Int} (h : 0 < b) : gMod (.int a) (.int b) = some (.int (a % b)) := by show (if _ then _ else _) = _; rw [if_pos h]
theorem gPow_eq {a b : Int} (h : CPow a b) : gPow (.int a) (.int b) = some (.int (a ^ b.toNat)) := by show (if _ then _ else _) = _; rw [if_pos h]
end
def Fits (i : Int) : Prop := Builtin.Int.intBits i ≤ 2 ^ 20
theorem bits_le {a b : Int} (h : a.natAbs ≤ b.natAbs) : Builtin.Int.intBits a ≤ Builtin.Int.intBits b := by
 unfold Builtin.Int.intBits
 split
 ·exact Nat.zero_le _
 ·rename_i ha
  have ha' : a.natAbs ≠ 0 := by
   intro z; apply ha; first | exact Int.natAbs_eq_zero.mp z | (simpa using z)
  have hb' : b.natAbs ≠ 0 := by omega
  split
  ·rename_i hb
   exact absurd (by first | exact Int.natAbs_eq_zero.mpr hb | (simpa using hb)) hb'
  ·have h1 : b.natAbs < 2 ^ (b.natAbs.log2 + 1) := Nat.lt_log2_self
   have h2 : a.natAbs.log2 < b.natAbs.log2 + 1 := (Nat.log2_lt ha').mpr (by omega)
   omega
theorem Fits.le {a b : Int} (h : Fits b) (l : a.natAbs ≤ b.natAbs) : Fits a := Nat.le_trans (bits_le l) h
theorem Fits.mod {i n : Int} (hn : 0 < n) (h : Fits n) : Fits (i % n) := by
 refine h.le ?_
 have h1 := Int.emod_nonneg i (show n ≠ 0 by omega)
 have h2 := Int.emod_lt_of_pos i hn
 omega
theorem mul_small {a b : Int} (h : a.natAbs < 2 ^ 64) : IntMulOk a b := IntMulOk.of_left (intBits_le_64 (by omega) (by omega))
theorem mul_small' {a b : Int} (h : b.natAbs < 2 ^ 64) : IntMulOk a b := IntMulOk.of_right (intBits_le_64 (by omega) (by omega))
theorem gMul_l {a b : Int} (h : a.natAbs < 2 ^ 64) : gMul (.int a) (.int b) = some (.int (a * b)) := gMul_eq (mul_small h)
section
variable {α : Type}
theorem atI_0 {a : α} {l : List α} : atI (a :: l) 0 = some a := by unfold atI ixN; simp
theorem atI_s {a : α} {l : List α} {n : Nat} : atI (a :: l) ((n : Int) + 1) = atI l n := by
 unfold atI ixN
 have h1 : (0 : Int) ≤ (n : Int) + 1 := by omega
 have h2 : (0 : Int) ≤ (n : Int) := by omega
 rw [if_pos h1, if_pos h2]
 by_cases z : (n : Int) < (l.length : Int)
 ·rw [if_pos z, if_pos (by rw [List.length_cons]; push_cast; omega)]
  show (a :: l)[((n : Int) + 1).toNat]? = l[((n : Int)).toNat]?
  rw [show ((n : Int) + 1).toNat = n + 1 by omega, show ((n : Int)).toNat = n by omega]
  rfl
 ·rw [if_neg z, if_neg (by rw [List.length_cons]; push_cast; omega)]
  rfl
theorem atI_1 {a b : α} {l : List α} : atI (a :: b :: l) 1 = some b := (atI_s (n := 0)).trans atI_0
theorem atI_2 {a b c : α} {l : List α} : atI (a :: b :: c :: l) 2 = some c := (atI_s (n := 1)).trans atI_1
theorem atI_3 {a b c d : α} {l : List α} : atI (a :: b :: c :: d :: l) 3 = some d := (atI_s (n := 2)).trans atI_2
theorem atI_4 {a b c d e : α} {l : List α} : atI (a :: b :: c :: d :: e :: l) 4 = some e := (atI_s (n := 3)).trans atI_3
end
def cellAt (ns : List Int) (k : Int) : Int := ns.getD k.toNat 0
theorem cell_eq {ns : List Int} {k : Int} (hk : 0 ≤ k) : (if k < (ns.length : Int) then (match atI ns k with
  | none => none
  | some n => some (R1.ret (D.int n))) else some (R1.ret (D.int 0))) = some (R1.ret (D.int (cellAt ns k))) := by
 unfold cellAt
 by_cases z : k < (ns.length : Int)
 ·rw [if_pos z]
  have h : k.toNat < ns.length := by omega
  have e : atI ns k = some ns[k.toNat] := by
   unfold atI ixN
   rw [if_pos hk, if_pos z]
   exact List.getElem?_eq_getElem h
  rw [e, List.getD_eq_getElem?_getD, List.getElem?_eq_getElem h]; rfl
 ·rw [if_neg z, List.getD_eq_getElem?_getD, List.getElem?_eq_none (by omega)]; rfl
theorem rng1_eq {j : Int} (h : -(2 ^ 62) ≤ j ∧ j < 2 ^ 62) : rng1 [.int j] = some (0, j.toNat) := by
 show (if _ then _ else _) = _
 rw [if_pos h]
section
variable {K : W.Frag} {cl : Str → Addr} {E : XK} {σ : St} {H F : Hp} {env : DE} {k : Nat}
def zipD (ds es : List D) : List D := List.zipWith (fun a b => .tup [a, b]) ds es
theorem zipD_get {ds es : List D} {i : Nat} {d e : D} (h : ds[i]? = some d) (h' : es[i]? = some e) : (zipD ds es)[i]? = some (.tup [d, e]) := by
 unfold zipD; rw [List.getElem?_zipWith, h, h']
theorem zipD_len {ds es : List D} : (zipD ds es).length = min ds.length es.length := by unfold zipD; rw [List.length_zipWith]
def seq2 (ds : List D) : Option (List D) := match ds with
 | [d, e] => match seqL d, seqL e with
  | some xs, some ys => some (zipD xs ys)
  | _, _ => none
 | _ => none
theorem seq2_of {ds zs : List D} {vs : List V} (h : seq2 ds = some zs) (p : Rps K cl F ds vs) : ∃ a a' xs ys ds' es', vs = [.ref a, .ref a'] ∧ zs = zipD ds' es' ∧ Rps K cl F ds' xs ∧ Rps K cl F es' ys ∧ ∀ H', Same F H' → SqL K H' a xs ∧ SqL K H' a' ys := by
 unfold seq2 at h
 split at h
 ·rename_i d e
  split at h
  ·rename_i xs ys h1 h2
   cases h
   obtain ⟨v, r, rfl, p1, p2⟩ := p.inv
   obtain ⟨u, r', rfl, p3, p4⟩ := p2.inv
   rw [p4.inv0]
   obtain ⟨a, us, rfl, q1, l1⟩ := Rp.seqL p1 h1
   obtain ⟨a', us', rfl, q2, l2⟩ := Rp.seqL p3 h2
   exact ⟨a, a', us, us', xs, ys, rfl, rfl, q1, q2, fun H' g => ⟨l1 H' g, l2 H' g⟩⟩
  ·cases h
 ·cases h
theorem compZ {b : GF} {c : BF} {el : ZF} {g : TG} {tf : TT} {te : TE} {js : List Nat} {ds es : List D} {xs ys : List V} {a a' B : Addr} {Q : VK} (nd : js.Nodup) (hg : RfG K cl k g b) (hc : RfB K cl E tf c) (he : RfZ K cl E te el) (R : Rel K cl σ H F env) (hB : H B = none)
  (hl : ∀ H' F', Same F F' → Same F' H' → SqL K H' a xs ∧ SqL K H' a' ys) (r : Rps K cl F ds xs) (r' : Rps K cl F es ys) (h : Ct K cl E (PN K cl) (compD b c el (compE k js env) env (zipD ds es) []) σ H F env Q) :
  tCompR (Itz K a a') g tf te k (compSt k js σ) B (fun H' => Q (.ref B) H') H := by
 refine comp_zip (xs := xs) (ys := ys) (fun i zs H' => ∃ F' acc, Grow K cl σ H F env B acc zs H' F' ∧ Ct K cl E (PN K cl) (compD b c el (compE k js env) env ((zipD ds es).drop i) acc) σ H F env Q) ⟨F, [], .start R hB, h⟩ (fun i zs H' ⟨F', acc, gw, _⟩ => hl H' F' gw.frm.fz gw.rel.sub) (fun i x y zs H' p hx hy ⟨F', acc, gw, h'⟩ hp => ?_) (fun zs H' ⟨F', acc, gw, h'⟩ => ?_)
 ·obtain ⟨d, hd, pd⟩ := r.get' hx
  obtain ⟨d', hd', pd'⟩ := r'.get' hy
  rw [drop_cons (zipD_get hd hd')] at h'
  have gr : Gr H' F' (upd H' p (.tup [x, y])) (upd F' p (.tup [x, y])) := .new gw.rel.sub hp
  refine comp_turn (Pv := fun zs' H2 => ∃ F' acc, Grow K cl σ H F env B acc zs' H2 F' ∧ Ct K cl E (PN K cl) (compD b c el (compE k js env) env ((zipD ds es).drop (i + 1)) acc) σ H F env Q) nd hg hc he (gw.gr gr) ?_ h' fun acc' ys' H2 F2 gw2 h2 => ⟨F2, acc', gw2, h2⟩
  simp only [Rp]
  exact ⟨p, _, rfl, upd_same, .cons (Rp.mono (gw.frm.fz.trans gr.fz) _ _ pd) (.one (Rp.mono (gw.frm.fz.trans gr.fz) _ _ pd'))⟩
 ·rw [← r.length, ← r'.length, List.drop_eq_nil_of_le (by rw [zipD_len]; exact Nat.le_refl _)] at h'
  exact comp_fin gw h'
def nCompZ (k : Nat) (js : List Nat) (f : AF) (b : GF) (c : BF) (el : ZF) : NF := fun e => bnd (f e) fun ds e1 => match seq2 ds with
 | none => none
 | some zs => compD b c el (compE k js e1) e1 zs []
theorem rf_CompZ {t : TA} {g : TG} {tf : TT} {te : TE} {js : List Nat} {f : AF} {b : GF} {c : BF} {el : ZF} (nd : js.Nodup) (hf : RfA K cl E t f) (hg : RfG K cl k g b) (hc : RfB K cl E tf c) (he : RfZ K cl E te el) : RfN K cl E (tComp (iZip K t) g tf te k js) (nCompZ k js f b c el) := by
 intro σ H Q env F R h
 refine hf σ H _ env F R ((Ct.bnd h pm_N).mono fun x H1 ⟨F1, e1, ds, s1, R1, p1, h1⟩ => ?_)
 split at h1
 ·exact h1.elim
 ·rename_i zs hs
  obtain ⟨a, a', xs, ys, ds', es', rfl, rfl, q1, q2, hl⟩ := seq2_of hs p1
  exact ⟨a, a', rfl, ⟨xs, (hl H1 R1.sub).1⟩, ⟨ys, (hl H1 R1.sub).2⟩, fun B hB => compZ nd hg hc he R1 hB (fun H' F' f2 s2 => hl H' (f2.trans s2)) q1 q2 h1⟩
theorem Rb.seqL {d : D} {ds : List D} {v : V} (s : Same F H) (p : Rb K cl F H d v) (q : L2.seqL d = some ds) : ∃ a xs, v = .ref a ∧ Rps K cl F ds xs ∧ SqL K H a xs := by
 rcases p with p | ⟨a, xs, es, e, rfl, h, r⟩
 ·obtain ⟨a, xs, e, r, l⟩ := Rp.seqL p q; exact ⟨a, xs, e, r, l H s⟩
 ·cases q; exact ⟨a, xs, e, r, .of h⟩
end
def optB (x : Option DE) (k : DE → Option (R (List D))) : Option (R (List D)) := match x with
 | none => none
 | some e => k e
theorem optB_some {e : DE} {k : DE → Option (R (List D))} : optB (some e) k = k e := rfl
theorem compD_nil {b : GF} {c : BF} {el : ZF} {ec eo : DE} {acc : List D} : compD b c el ec eo [] acc = some (.ok acc eo) := rfl
theorem compD_cons {b : GF} {c : BF} {el : ZF} {ec eo : DE} {d : D} {ds acc : List D} : compD b c el ec eo (d :: ds) acc = optB (b d ec) fun e1 => bnd (c e1) fun t e2 => if t = true then bnd (el e2) fun y _ => if acc.length < sizeLine then compD b c el ec eo ds (acc ++ [y]) else none else compD b c el ec eo ds acc := by
 rw [compD]; cases b d ec <;> rfl
section
variable {K : W.Frag} {cl : Str → Addr} {E : XK} {σ : St} {H F : Hp} {env : DE} {k : Nat}
def gMin2 : List D → Option D
 | [.int i, .int j] => some (.int (if j < i then j else i))
 | _ => none
theorem ok_min2 : CbOk K cl (fun xs H Q => ∃ i j, xs = [.int i, .int j] ∧ Q (.int (if j < i then j else i)) H) gMin2 := by
 intro xs ds z H F Q s p h q
 unfold gMin2 at h
 split at h
 ·rename_i i j; cases h
  exact ⟨i, j, Rps.ints (ns := [i, j]) p, q _ H F (.refl s) (by simp only [Rp])⟩
 ·cases h
theorem bt_min : bootBuiltins "min" = some (.builtin "min") := by decide +kernel
theorem Rb.flat {d : D} {v : V} (h : Rb K cl F H d v) (f : flatD d = true) : Rp K cl F d v := by
 rcases h with h | ⟨_, _, _, _, rfl, _⟩
 ·exact h
 ·cases f
end
mutual
def eqB : D → D → Bool
 | .tup ds, e => (match e with
  | .tup es => eqBs ds es
  | _ => false)
 | .lst ds, e => (match e with
  | .lst es => eqBs ds es
  | _ => false)
 | d, e => eqD d e
def eqBs : List D → List D → Bool
 | [], es => es.isEmpty
 | d :: ds, es => (match es with
  | [] => false
  | e :: es => eqB d e && eqBs ds es)
end
mutual
def plainD : D → Bool
 | .tup ds => plainDs ds
 | .lst ds => plainDs ds
 | d => flatD d
def plainDs : List D → Bool
 | [] => true
 | d :: ds => plainD d && plainDs ds
end
mutual
def depD : D → Nat
 | .tup ds => depDs ds + 1
 | .lst ds => depDs ds + 1
 | _ => 0
def depDs : List D → Nat
 | [] => 0
 | d :: ds => max (depD d) (depDs ds)
end
def eAtD (ds es : List D) (j : Nat) : Bool := match ds[j]?, es[j]? with
 | some d, some e => eqB d e
 | _, _ => true
theorem eqBs_range : ∀ {ds es : List D}, ds.length = es.length → (List.range ds.length).all (eAtD ds es) = eqBs ds es
 | [], [], _ => by simp [eqBs]
 | d :: ds, e :: es, h => by
  have h' : ds.length = es.length := by simpa using h
  simp only [eqBs]
  show (List.range (ds.length + 1)).all _ = (eqB d e && eqBs ds es)
  rw [List.range_succ_eq_map, List.all_cons, List.all_map, ← eqBs_range h']
  rfl
theorem eqBs_len : ∀ {ds es : List D}, ds.length ≠ es.length → eqBs ds es = false
 | [], [], h => absurd rfl h
 | _ :: _, [], _ => by simp [eqBs]
 | [], _ :: _, _ => by simp [eqBs]
 | d :: ds, e :: es, h => by
  simp only [eqBs]
  rw [eqBs_len (fun q => h (by simp [q])), Bool.and_false]
section
variable {K : W.Frag} {cl : Str → Addr} {F : Hp}
theorem eqD_flat {d e : D} {v : V} (fd : flatD d = true) (p : Rp K cl F d v) (q : Rp K cl F e v) (pe : plainD e = true) : eqD d e = true := by
 cases d <;> first | (cases fd; done) | skip
 all_goals simp only [Rp] at p; subst p
 all_goals cases e <;> simp only [Rp] at q <;> first | (cases q; done) | (cases q; simp [eqD]; done) | (obtain ⟨_, _, z, _⟩ := q; cases z; done) | (obtain ⟨_, z, _⟩ := q; cases z; done) | (simp [plainD, flatD] at pe; done)
mutual
theorem same_eq : ∀ (d e : D) (v : V), Rp K cl F d v → Rp K cl F e v → plainD d = true → plainD e = true → eqB d e = true
 | .tup ds, e, v, p, q, pd, pe => by
  simp only [Rp] at p
  obtain ⟨a, xs, rfl, ha, r⟩ := p
  cases e <;> simp only [Rp] at q
  case tup es =>
   obtain ⟨a', ys, z, ha', r'⟩ := q
   cases z; rw [ha] at ha'; cases ha'
   simp only [plainD] at pd pe
   simp only [eqB]
   exact sames_eq ds es xs r r' pd pe
  case lst es =>
   obtain ⟨a', ys, z, ha', r'⟩ := q
   cases z; rw [ha] at ha'; cases ha'
  all_goals first | (cases q; done) | (simp [plainD, flatD] at pe; done)
 | .lst ds, e, v, p, q, pd, pe => by
  simp only [Rp] at p
  obtain ⟨a, xs, rfl, ha, r⟩ := p
  cases e <;> simp only [Rp] at q
  case lst es =>
   obtain ⟨a', ys, z, ha', r'⟩ := q
   cases z; rw [ha] at ha'; cases ha'
   simp only [plainD] at pd pe
   simp only [eqB]
   exact sames_eq ds es xs r r' pd pe
  case tup es =>
   obtain ⟨a', ys, z, ha', r'⟩ := q
   cases z; rw [ha] at ha'; cases ha'
  all_goals first | (cases q; done) | (simp [plainD, flatD] at pe; done)
 | .non, e, v, p, q, pd, pe => by simp only [eqB]; exact eqD_flat rfl p q pe
 | .bl _, e, v, p, q, pd, pe => by simp only [eqB]; exact eqD_flat rfl p q pe
 | .int _, e, v, p, q, pd, pe => by simp only [eqB]; exact eqD_flat rfl p q pe
 | .str _, e, v, p, q, pd, pe => by simp only [eqB]; exact eqD_flat rfl p q pe
 | .ty _, e, v, p, q, pd, pe => by simp [plainD, flatD] at pd
 | .cls _, e, v, p, q, pd, pe => by simp [plainD, flatD] at pd
 | .scr _, e, v, p, q, pd, pe => by simp [plainD, flatD] at pd
 | .exc _, e, v, p, q, pd, pe => by simp [plainD, flatD] at pd
 | .obj _ _ _, e, v, p, q, pd, pe => by simp [plainD, flatD] at pd
theorem sames_eq : ∀ (ds es : List D) (vs : List V), Rps K cl F ds vs → Rps K cl F es vs → plainDs ds = true → plainDs es = true → eqBs ds es = true
 | [], es, vs, p, q, _, _ => by
  rw [p.inv0] at q
  cases es with
  | nil => simp [eqBs]
  | cons e es => obtain ⟨_, _, z, _⟩ := q.inv; cases z
 | d :: ds, es, vs, p, q, pd, pe => by
  obtain ⟨v, r, rfl, p1, p2⟩ := p.inv
  cases es with
  | nil => have := q.inv0; cases this
  | cons e es =>
   obtain ⟨v', r', z, q1, q2⟩ := q.inv
   cases z
   simp only [plainDs, Bool.and_eq_true] at pd pe
   simp only [eqBs]
   rw [same_eq d e v p1 q1 pd.1 pe.1, sames_eq ds es r p2 q2 pd.2 pe.2]; rfl
end
end
section
variable {X : Cx} {cl : Str → Addr} {F : Hp} {pins : List (Addr × Obj)} {σ : St} {H : Hp} {s : Shared}
theorem ref_flat {a : Addr} {d : D} {v : V} {u : Value} {A : Around} (hu : A.units < cLine) (hl : (∃ xs, SqL X.K H a xs) ∨ ∃ xs, SqT X.K H a xs) (I : Inv X pins σ H s) (f : flatD d = true) (p : Rp X.K cl F d v) (r : RelV v u) : SeqAt.EqAt A s (.ref a) u false ∧ SeqAt.EqAt A s u (.ref a) false := by
 rcases hl with ⟨xs, h⟩ | ⟨xs, h⟩
 ·obtain ⟨us, r1, p1, z1⟩ := I.list h
  have q := p1.isList
  cases d <;> first | (cases f; done) | skip
  all_goals simp only [Rp] at p; subst p
  ·cases r; exact ⟨.list_none q hu, .none_list q hu⟩
  ·cases r; exact ⟨.list_bool _ q hu, .bool_list _ q hu⟩
  ·obtain ⟨t, rfl⟩ := r; exact ⟨.list_int _ _ q hu, .int_list _ _ q hu⟩
  ·obtain ⟨t, rfl⟩ := r; exact ⟨.list_str _ _ q hu, .str_list _ _ q hu⟩
 ·obtain ⟨us, r1, q, z1⟩ := I.tuple h
  cases d <;> first | (cases f; done) | skip
  all_goals simp only [Rp] at p; subst p
  ·cases r; exact ⟨.tuple_none q hu, .none_tuple q hu⟩
  ·cases r; exact ⟨.tuple_bool _ q hu, .bool_tuple _ q hu⟩
  ·obtain ⟨t, rfl⟩ := r; exact ⟨.tuple_int _ _ q hu, .int_tuple _ _ q hu⟩
  ·obtain ⟨t, rfl⟩ := r; exact ⟨.tuple_str _ _ q hu, .str_tuple _ _ q hu⟩
theorem flat_plain {d : D} (p : plainD d = true) : flatD d = true ∨ (∃ ds, d = .tup ds) ∨ ∃ ds, d = .lst ds := by
 cases d <;> first | exact .inl rfl | exact .inr (.inl ⟨_, rfl⟩) | exact .inr (.inr ⟨_, rfl⟩) | (simp [plainD, flatD] at p; done)
theorem eqB_flat {d e : D} (f : flatD d = true) : eqB d e = eqD d e := by cases d <;> first | (cases f; done) | simp only [eqB]
theorem flat_deep {d e : D} {v u : V} {a b : Value} {A : Around} (I : Inv X pins σ H s) (sF : Same F H) (hu : A.units < cLine) (f : flatD d = true) (p : Rp X.K cl F d v) (q : Rp X.K cl F e u) (rv : RelV v a) (ru : RelV u b) (pe : plainD e = true) : SeqAt.EqAt A s a b (eqB d e) := by
 rw [eqB_flat f]
 rcases flat_plain pe with fe | ⟨es, rfl⟩ | ⟨es, rfl⟩
 ·rw [← p.eq q f fe]
  exact eqAt_V rv ru (p.flat f).2 (q.flat fe).2
 ·simp only [Rp] at q
  obtain ⟨c, ys, rfl, hb, r'⟩ := q
  cases ru
  have := (ref_flat (A := A) hu (.inr ⟨ys, .of (sF _ _ hb)⟩) I f p rv).2
  have z : eqD d (.tup es) = false := by cases d <;> first | (cases f; done) | rfl
  rw [z]; exact this
 ·simp only [Rp] at q
  obtain ⟨c, ys, rfl, hb, r'⟩ := q
  cases ru
  have := (ref_flat (A := A) hu (.inl ⟨ys, .of (sF _ _ hb)⟩) I f p rv).2
  have z : eqD d (.lst es) = false := by cases d <;> first | (cases f; done) | rfl
  rw [z]; exact this
mutual
theorem deep_eq (I : Inv X pins σ H s) (sF : Same F H) : ∀ (d e : D) (v u : V) (a b : Value) (A : Around), A.units + depD d < cLine → Rp X.K cl F d v → Rp X.K cl F e u → RelV v a → RelV u b → plainD d = true → plainD e = true → SeqAt.EqAt A s a b (eqB d e)
 | .tup ds, e, v, u, va, ua, A, hu, p, q, rv, ru, pd, pe => by
  have p0 := p
  have hu' : A.units < cLine := by omega
  simp only [depD] at hu
  simp only [Rp] at p
  obtain ⟨a, xs, rfl, ha, r⟩ := p
  cases rv
  have ha' := sF _ _ ha
  rcases flat_plain pe with f | ⟨es, rfl⟩ | ⟨es, rfl⟩
  ·have := (ref_flat (A := A) hu' (.inr ⟨xs, .of ha'⟩) I f q ru).1
   have z : eqB (.tup ds) e = false := by cases e <;> first | (cases f; done) | simp only [eqB]
   rw [z]; exact this
  ·have q0 := q
   simp only [Rp] at q
   obtain ⟨b, ys, rfl, hb, r'⟩ := q
   cases ru
   have hb' := sF _ _ hb
   by_cases z : a = b
   ·subst z
    rw [same_eq _ _ _ p0 q0 pd pe]
    exact .same _
   ·obtain ⟨us, r1, p1, _⟩ := I.tuple (.of ha')
    obtain ⟨ws, r2, p2, _⟩ := I.tuple (.of hb')
    simp only [plainD] at pd pe
    have he : ∀ j (h1 : j < us.toArray.size) (h2 : j < ws.toArray.size), SeqAt.EqAt A.in1 s us.toArray[j] ws.toArray[j] (eAtD ds es j) := deep_eqs I sF ds es xs ys us ws A.in1 (by show A.units + 1 + depDs ds < cLine; omega) r r' r1 r2 pd pe
    have := SeqAt.EqAt.of_refs z (SeqAt.RcAt.tuples p1 p2 hu' he)
    have e1 : us.toArray.size = ds.length := by simp [← r1.length, r.length]
    have e2 : ws.toArray.size = es.length := by simp [← r2.length, r'.length]
    rw [e1, e2] at this
    simp only [eqB]
    by_cases hl : ds.length = es.length
    ·rw [← hl, Nat.min_self, eqBs_range hl, beq_self_eq_true, Bool.and_true] at this
     exact this
    ·rw [eqBs_len hl]
     rw [beq_eq_false_iff_ne.mpr hl, Bool.and_false] at this
     exact this
  ·simp only [Rp] at q
   obtain ⟨b, ys, rfl, hb, r'⟩ := q
   cases ru
   obtain ⟨us, r1, p1, _⟩ := I.tuple (.of ha')
   obtain ⟨ws, r2, p2, _⟩ := I.list (.of (sF _ _ hb))
   simp only [eqB]
   exact .tuple_list p1 p2.isList hu'
 | .lst ds, e, v, u, va, ua, A, hu, p, q, rv, ru, pd, pe => by
  have p0 := p
  have hu' : A.units < cLine := by omega
  simp only [depD] at hu
  simp only [Rp] at p
  obtain ⟨a, xs, rfl, ha, r⟩ := p
  cases rv
  have ha' := sF _ _ ha
  rcases flat_plain pe with f | ⟨es, rfl⟩ | ⟨es, rfl⟩
  ·have := (ref_flat (A := A) hu' (.inl ⟨xs, .of ha'⟩) I f q ru).1
   have z : eqB (.lst ds) e = false := by cases e <;> first | (cases f; done) | simp only [eqB]
   rw [z]; exact this
  ·simp only [Rp] at q
   obtain ⟨b, ys, rfl, hb, r'⟩ := q
   cases ru
   obtain ⟨us, r1, p1, _⟩ := I.list (.of ha')
   obtain ⟨ws, r2, p2, _⟩ := I.tuple (.of (sF _ _ hb))
   simp only [eqB]
   exact .list_tuple p1.isList p2 hu'
  ·have q0 := q
   simp only [Rp] at q
   obtain ⟨b, ys, rfl, hb, r'⟩ := q
   cases ru
   have hb' := sF _ _ hb
   by_cases z : a = b
   ·subst z
    rw [same_eq _ _ _ p0 q0 pd pe]
    exact .same _
   ·obtain ⟨us, r1, p1, _⟩ := I.list (.of ha')
    obtain ⟨ws, r2, p2, _⟩ := I.list (.of hb')
    simp only [plainD] at pd pe
    have he : ∀ j (h1 : j < us.toArray.size) (h2 : j < ws.toArray.size), SeqAt.EqAt A.in1 s us.toArray[j] ws.toArray[j] (eAtD ds es j) := deep_eqs I sF ds es xs ys us ws A.in1 (by show A.units + 1 + depDs ds < cLine; omega) r r' r1 r2 pd pe
    have e1 : us.toArray.size = ds.length := by simp [← r1.length, r.length]
    have e2 : ws.toArray.size = es.length := by simp [← r2.length, r'.length]
    simp only [eqB]
    by_cases hl : ds.length = es.length
    ·have := SeqAt.EqAt.of_refs z (SeqAt.RcAt.lists p1.isList p2.isList (by rw [e1, e2, hl]) hu' he)
     rw [e1, eqBs_range hl] at this
     exact this
    ·rw [eqBs_len hl]
     exact SeqAt.EqAt.of_refs z (SeqAt.RcAt.lists_lengths p1.isList p2.isList (by rw [e1, e2]; simp [hl]) hu')
 | .non, e, v, u, va, ua, A, hu, p, q, rv, ru, pd, pe => flat_deep I sF (by omega) rfl p q rv ru pe
 | .bl _, e, v, u, va, ua, A, hu, p, q, rv, ru, pd, pe => flat_deep I sF (by omega) rfl p q rv ru pe
 | .int _, e, v, u, va, ua, A, hu, p, q, rv, ru, pd, pe => flat_deep I sF (by omega) rfl p q rv ru pe
 | .str _, e, v, u, va, ua, A, hu, p, q, rv, ru, pd, pe => flat_deep I sF (by omega) rfl p q rv ru pe
 | .ty _, e, v, u, va, ua, A, hu, p, q, rv, ru, pd, pe => by simp [plainD, flatD] at pd
 | .cls _, e, v, u, va, ua, A, hu, p, q, rv, ru, pd, pe => by simp [plainD, flatD] at pd
 | .scr _, e, v, u, va, ua, A, hu, p, q, rv, ru, pd, pe => by simp [plainD, flatD] at pd
 | .exc _, e, v, u, va, ua, A, hu, p, q, rv, ru, pd, pe => by simp [plainD, flatD] at pd
 | .obj _ _ _, e, v, u, va, ua, A, hu, p, q, rv, ru, pd, pe => by simp [plainD, flatD] at pd
theorem deep_eqs (I : Inv X pins σ H s) (sF : Same F H) : ∀ (ds es : List D) (xs ys : List V) (us ws : List Value) (A : Around), A.units + depDs ds < cLine → Rps X.K cl F ds xs → Rps X.K cl F es ys → Vals xs us → Vals ys ws → plainDs ds = true → plainDs es = true → ∀ j (h1 : j < us.toArray.size) (h2 : j < ws.toArray.size), SeqAt.EqAt A s us.toArray[j] ws.toArray[j] (eAtD ds es j)
 | [], es, xs, ys, us, ws, A, hu, p, q, rv, rw', pd, pe => fun j h1 h2 => by
  rw [p.inv0] at rv; cases rv; simp at h1
 | d :: ds, es, xs, ys, us, ws, A, hu, p, q, rv, rw', pd, pe => fun j h1 h2 => by
  obtain ⟨x, xs', rfl, p1, p2⟩ := p.inv
  cases rv with
  | cons r1 t1 =>
   cases es with
   | nil => rw [q.inv0] at rw'; cases rw'; simp at h2
   | cons e es =>
    obtain ⟨y, ys', rfl, q1, q2⟩ := q.inv
    cases rw' with
    | cons r2 t2 =>
     simp only [plainDs, Bool.and_eq_true] at pd pe
     simp only [depDs] at hu
     cases j with
     | zero => exact deep_eq I sF d e x y _ _ A (by omega) p1 q1 r1 r2 pd.1 pe.1
     | succ j =>
      have := deep_eqs I sF ds es xs' ys' _ _ A (by omega) p2 q2 t1 t2 pd.2 pe.2 j (by simpa using h1) (by simpa using h2)
      simpa [eAtD] using this
end
end
theorem hu40 {A : Around} {k : Nat} (hr : Room k A) : A.units + 41 < cLine := Nat.lt_of_le_of_lt (Nat.add_le_add_left (by decide : 41 ≤ 64) _) hr.units
def seqD? : D → Bool
 | .tup _ => true
 | .lst _ => true
 | _ => false
theorem Rb.toRp {K : W.Frag} {cl : Str → Addr} {F H : Hp} {d : D} {v : V} (s : Same F H) (h : Rb K cl F H d v) : ∃ F', Same F F' ∧ Same F' H ∧ Rp K cl F' d v := by
 rcases h with h | ⟨a, xs, ds, rfl, rfl, ha, r⟩
 ·exact ⟨F, Same.refl _, s, h⟩
 ·have g : Same F (upd F a (.lst xs)) := fun b o q => by
   by_cases z : b = a
   ·subst z; have := s _ _ q; rw [ha] at this; cases this; exact upd_same
   ·rw [upd_ne z]; exact q
  refine ⟨upd F a (.lst xs), g, fun b o q => ?_, ?_⟩
  ·by_cases z : b = a
   ·subst z; rw [upd_same] at q; cases q; exact ha
   ·rw [upd_ne z] at q; exact s _ _ q
  ·simp only [Rp]; exact ⟨a, xs, rfl, upd_same, r.mono g⟩
section
variable {X : Cx} {cl : Str → Addr} {F : Hp} {pins : List (Addr × Obj)} {σ : St} {H : Hp} {s : Shared}
theorem rc_flat {a : Addr} {d : D} {v : V} {u : Value} {A : Around} (hu : A.units < cLine) (hl : (∃ xs, SqL X.K H a xs) ∨ ∃ xs, SqT X.K H a xs) (I : Inv X pins σ H s) (f : flatD d = true) (p : Rp X.K cl F d v) (r : RelV v u) :
  (SeqAt.RcAt A s (.ref a) u false ∧ SeqAt.RcAt A s u (.ref a) false) ∧ SeqAt.RcNeAt A s (.ref a) u true ∧ SeqAt.RcNeAt A s u (.ref a) true := by
 rcases hl with ⟨xs, h⟩ | ⟨xs, h⟩
 ·obtain ⟨us, r1, p1, z1⟩ := I.list h
  have q := p1.isList
  cases d <;> first | (cases f; done) | skip
  all_goals simp only [Rp] at p; subst p
  ·cases r; exact ⟨⟨.list_none q hu, .none_list q hu⟩, .list_none q hu, .none_list q hu⟩
  ·cases r; exact ⟨⟨.list_bool _ q hu, .bool_list _ q hu⟩, .list_bool _ q hu, .bool_list _ q hu⟩
  ·obtain ⟨t, rfl⟩ := r; exact ⟨⟨.list_int _ _ q hu, .int_list _ _ q hu⟩, .list_int _ _ q hu, .int_list _ _ q hu⟩
  ·obtain ⟨t, rfl⟩ := r; exact ⟨⟨.list_str _ _ q hu, .str_list _ _ q hu⟩, .list_str _ _ q hu, .str_list _ _ q hu⟩
 ·obtain ⟨us, r1, q, z1⟩ := I.tuple h
  cases d <;> first | (cases f; done) | skip
  all_goals simp only [Rp] at p; subst p
  ·cases r; exact ⟨⟨.tuple_none q hu, .none_tuple q hu⟩, .tuple_none q hu, .none_tuple q hu⟩
  ·cases r; exact ⟨⟨.tuple_bool _ q hu, .bool_tuple _ q hu⟩, .tuple_bool _ q hu, .bool_tuple _ q hu⟩
  ·obtain ⟨t, rfl⟩ := r; exact ⟨⟨.tuple_int _ _ q hu, .int_tuple _ _ q hu⟩, .tuple_int _ _ q hu, .int_tuple _ _ q hu⟩
  ·obtain ⟨t, rfl⟩ := r; exact ⟨⟨.tuple_str _ _ q hu, .str_tuple _ _ q hu⟩, .tuple_str _ _ q hu, .str_tuple _ _ q hu⟩
theorem rc_deep {d e : D} {v u : V} {a b : Value} {A : Around} (I : Inv X pins σ H s) (sF : Same F H) (hu : A.units + depD d < cLine) (p : Rp X.K cl F d v) (q : Rp X.K cl F e u) (rv : RelV v a) (ru : RelV u b) (pd : plainD d = true) (pe : plainD e = true) (hs : seqD? d = true ∨ seqD? e = true) :
  SeqAt.RcAt A s a b (eqB d e) ∧ SeqAt.RcNeAt A s a b (!eqB d e) := by
 have hu' : A.units < cLine := by omega
 rcases flat_plain pd with fd | ⟨ds, rfl⟩ | ⟨ds, rfl⟩
 ·have se : seqD? e = true := hs.resolve_left (by cases d <;> first | (cases fd; done) | simp [seqD?])
  rcases flat_plain pe with fe | ⟨es, rfl⟩ | ⟨es, rfl⟩
  ·cases e <;> first | (cases fe; done) | (cases se; done)
  ·simp only [Rp] at q
   obtain ⟨c, ys, rfl, hb, r'⟩ := q
   cases ru
   have := rc_flat (A := A) hu' (.inr ⟨ys, .of (sF _ _ hb)⟩) I fd p rv
   have z : eqB d (.tup es) = false := by cases d <;> first | (cases fd; done) | simp [eqB, eqD]
   rw [z]; exact ⟨this.1.2, this.2.2⟩
  ·simp only [Rp] at q
   obtain ⟨c, ys, rfl, hb, r'⟩ := q
   cases ru
   have := rc_flat (A := A) hu' (.inl ⟨ys, .of (sF _ _ hb)⟩) I fd p rv
   have z : eqB d (.lst es) = false := by cases d <;> first | (cases fd; done) | simp [eqB, eqD]
   rw [z]; exact ⟨this.1.2, this.2.2⟩
 ·simp only [depD] at hu
  simp only [Rp] at p
  obtain ⟨l, xs, rfl, ha, r⟩ := p
  cases rv
  have ha' := sF _ _ ha
  obtain ⟨us, r1, p1, _⟩ := I.tuple (.of ha')
  rcases flat_plain pe with fe | ⟨es, rfl⟩ | ⟨es, rfl⟩
  ·have := rc_flat (A := A) hu' (.inr ⟨xs, .of ha'⟩) I fe q ru
   have z : eqB (.tup ds) e = false := by cases e <;> first | (cases fe; done) | simp only [eqB]
   rw [z]; exact ⟨this.1.1, this.2.1⟩
  ·simp only [Rp] at q
   obtain ⟨c, ys, rfl, hb, r'⟩ := q
   cases ru
   obtain ⟨ws, r2, p2, _⟩ := I.tuple (.of (sF _ _ hb))
   simp only [plainD] at pd pe
   have he := deep_eqs I sF ds es xs ys us ws A.in1 (by show A.units + 1 + depDs ds < cLine; omega) r r' r1 r2 pd pe
   have h1 := SeqAt.RcAt.tuples p1 p2 hu' he
   have h2 := SeqAt.RcNeAt.tuples p1 p2 hu' he
   have e1 : us.toArray.size = ds.length := by simp [← r1.length, r.length]
   have e2 : ws.toArray.size = es.length := by simp [← r2.length, r'.length]
   rw [e1, e2] at h1 h2
   simp only [eqB]
   by_cases hl : ds.length = es.length
   ·rw [← hl, Nat.min_self, eqBs_range hl, beq_self_eq_true, Bool.and_true] at h1 h2
    exact ⟨h1, h2⟩
   ·rw [eqBs_len hl]
    rw [beq_eq_false_iff_ne.mpr hl, Bool.and_false] at h1 h2
    exact ⟨h1, h2⟩
  ·simp only [Rp] at q
   obtain ⟨c, ys, rfl, hb, r'⟩ := q
   cases ru
   obtain ⟨ws, r2, p2, _⟩ := I.list (.of (sF _ _ hb))
   simp only [eqB]
   exact ⟨.tuple_list p1 p2.isList hu', .tuple_list p1 p2.isList hu'⟩
 ·simp only [depD] at hu
  simp only [Rp] at p
  obtain ⟨l, xs, rfl, ha, r⟩ := p
  cases rv
  have ha' := sF _ _ ha
  obtain ⟨us, r1, p1, _⟩ := I.list (.of ha')
  rcases flat_plain pe with fe | ⟨es, rfl⟩ | ⟨es, rfl⟩
  ·have := rc_flat (A := A) hu' (.inl ⟨xs, .of ha'⟩) I fe q ru
   have z : eqB (.lst ds) e = false := by cases e <;> first | (cases fe; done) | simp only [eqB]
   rw [z]; exact ⟨this.1.1, this.2.1⟩
  ·simp only [Rp] at q
   obtain ⟨c, ys, rfl, hb, r'⟩ := q
   cases ru
   obtain ⟨ws, r2, p2, _⟩ := I.tuple (.of (sF _ _ hb))
   simp only [eqB]
   exact ⟨.list_tuple p1.isList p2 hu', .list_tuple p1.isList p2 hu'⟩
  ·simp only [Rp] at q
   obtain ⟨c, ys, rfl, hb, r'⟩ := q
   cases ru
   obtain ⟨ws, r2, p2, _⟩ := I.list (.of (sF _ _ hb))
   simp only [plainD] at pd pe
   have he := deep_eqs I sF ds es xs ys us ws A.in1 (by show A.units + 1 + depDs ds < cLine; omega) r r' r1 r2 pd pe
   have e1 : us.toArray.size = ds.length := by simp [← r1.length, r.length]
   have e2 : ws.toArray.size = es.length := by simp [← r2.length, r'.length]
   simp only [eqB]
   by_cases hl : ds.length = es.length
   ·have h1 := SeqAt.RcAt.lists p1.isList p2.isList (by rw [e1, e2, hl]) hu' he
    have h2 := SeqAt.RcNeAt.lists p1.isList p2.isList (by rw [e1, e2, hl]) hu' he
    rw [e1, eqBs_range hl] at h1 h2
    exact ⟨h1, h2⟩
   ·rw [eqBs_len hl]
    exact ⟨SeqAt.RcAt.lists_lengths p1.isList p2.isList (by rw [e1, e2]; simp [hl]) hu', SeqAt.RcNeAt.lists_lengths p1.isList p2.isList (by rw [e1, e2]; simp [hl]) hu'⟩
end
def rEqT (K : W.Frag) (cl : Str → Addr) (neg : Bool) : R2 := fun x y H Q => ∃ F d e, Same F H ∧ Rp K cl F d x ∧ Rp K cl F e y ∧ plainD d = true ∧ plainD e = true ∧ depD d ≤ 40 ∧ (seqD? d = true ∨ seqD? e = true) ∧ Q (.bl (if neg then !eqB d e else eqB d e)) H
theorem opK_eqT {X : Cx} {K : W.Frag} {cl : Str → Addr} (hu : X.A.units + 41 < cLine) (hK : X.K = K := by rfl) : OpR X (compareOp .Eq) (rEqT K cl false) := by
 subst hK
 intro pins s σ H x y v u Q I rx ry h
 obtain ⟨F, d, e, sF, p, q, pd, pe, hd, hs, hQ⟩ := h
 exact (rc_deep I sF (by omega) p q rx ry pd pe hs).1 X.prog X.w _ _ ⟨.bl _, H, I, rfl, hQ⟩
theorem opK_neT {X : Cx} {K : W.Frag} {cl : Str → Addr} (hu : X.A.units + 41 < cLine) (hK : X.K = K := by rfl) : OpR X (compareOp .NotEq) (rEqT K cl true) := by
 subst hK
 intro pins s σ H x y v u Q I rx ry h
 obtain ⟨F, d, e, sF, p, q, pd, pe, hd, hs, hQ⟩ := h
 exact (rc_deep I sF (by omega) p q rx ry pd pe hs).2 X.prog X.w _ _ ⟨.bl _, H, I, rfl, hQ⟩
def gEqT (neg : Bool) (d e : D) : Option D := if (plainD d && plainD e && decide (depD d ≤ 40) && (seqD? d || seqD? e)) = true then some (.bl (if neg then !eqB d e else eqB d e)) else none
theorem ok_eqT {K : W.Frag} {cl : Str → Addr} {neg : Bool} : OpOk K cl (rEqT K cl neg) (gEqT neg) := by
 intro x y d e z H F Q s hx hy h q
 unfold gEqT at h
 split at h
 ·rename_i c; cases h
  simp only [Bool.and_eq_true, Bool.or_eq_true, decide_eq_true_eq] at c
  obtain ⟨F1, g1, s1, p1⟩ := hx.toRp s
  have hy1 : Rb K cl F1 H e y := by
   rcases hy with hy | ⟨a, xs, ds, e1, e2, ha, r⟩
   ·exact .inl (hy.mono g1)
   ·exact .inr ⟨a, xs, ds, e1, e2, ha, r.mono g1⟩
  obtain ⟨F2, g2, s2, p2⟩ := hy1.toRp s1
  exact ⟨F2, d, e, s2, p1.mono g2, p2, c.1.1.1, c.1.1.2, c.1.2, c.2, q _ H F (.refl s) (by simp only [Rp])⟩
 ·cases h
mutual
theorem eqB_refl : ∀ (d : D), plainD d = true → eqB d d = true
 | .tup ds, h => by simp only [plainD] at h; simp only [eqB]; exact eqBs_refl ds h
 | .lst ds, h => by simp only [plainD] at h; simp only [eqB]; exact eqBs_refl ds h
 | .non, _ => by simp [eqB, eqD]
 | .bl _, _ => by simp [eqB, eqD]
 | .int _, _ => by simp [eqB, eqD]
 | .str _, _ => by simp [eqB, eqD]
 | .ty _, h => by simp [plainD, flatD] at h
 | .cls _, h => by simp [plainD, flatD] at h
 | .scr _, h => by simp [plainD, flatD] at h
 | .exc _, h => by simp [plainD, flatD] at h
 | .obj _ _ _, h => by simp [plainD, flatD] at h
theorem eqBs_refl : ∀ (ds : List D), plainDs ds = true → eqBs ds ds = true
 | [], _ => by simp [eqBs]
 | d :: ds, h => by
  simp only [plainDs, Bool.and_eq_true] at h
  simp only [eqBs]
  rw [eqB_refl d h.1, eqBs_refl ds h.2]; rfl
end
theorem gEqT_refl {d : D} (neg : Bool) (h1 : plainD d = true) (h2 : depD d ≤ 40) (h3 : seqD? d = true) : gEqT neg d d = some (.bl (!neg)) := by
 unfold gEqT
 rw [if_pos (by simp [h1, h2, h3]), eqB_refl d h1]
 cases neg <;> rfl
theorem plainDs_map {α : Type} {f : α → D} {l : List α} (h : ∀ a ∈ l, plainD (f a) = true) : plainDs (l.map f) = true := by
 induction l with
 | nil => rfl
 | cons a l ih =>
  simp only [List.map_cons, plainDs, Bool.and_eq_true]
  exact ⟨h a List.mem_cons_self, ih fun b hb => h b (List.mem_cons_of_mem _ hb)⟩
theorem depDs_map {α : Type} {f : α → D} {l : List α} {n : Nat} (h : ∀ a ∈ l, depD (f a) ≤ n) : depDs (l.map f) ≤ n := by
 induction l with
 | nil => simp [depDs]
 | cons a l ih =>
  simp only [List.map_cons, depDs]
  have := h a List.mem_cons_self
  have := ih fun b hb => h b (List.mem_cons_of_mem _ hb)
  omega
section
variable {K : W.Frag} {cl : Str → Addr} {E : XK} {σ : St} {H F : Hp} {env : DE} {k : Nat}
def RfSx (K : W.Frag) (cl : Str → Addr) (E : XK) (a : Addr) (t : TS) (f : SF) : Prop := ∀ (N : Ends) σ H env F, Rel K cl σ H F env → (∃ cls, F a = some (ExcO a cls none)) → Cs K cl E (f env) σ H F env N → t N σ H
theorem RfS.x {a : Addr} {t : TS} {f : SF} (h : RfS K cl E t f) : RfSx K cl E a t f := fun N σ H env F R _ c => h N σ H env F R c
end
def frzS : Sl → Sl
 | .ow ds => .fz (.lst ds)
 | .hd ds => .fz (.lst ds)
 | s => s
def frzE : DE → DE
 | [] => []
 | s :: e => frzS s :: frzE e
mutual
def noL : D → Bool
 | .lst _ => false
 | .scr _ => false
 | .exc _ => false
 | .obj _ _ _ => false
 | .tup ds => noLs ds
 | _ => true
def noLs : List D → Bool
 | [] => true
 | d :: ds => noL d && noLs ds
end
def owned (σ : St) (env : DE) (b : Addr) : Prop := ∃ j, Mu env j ∧ σ[j]? = some (some (.ref b))
theorem frzE_eq : ∀ (e : DE), frzE e = e.map frzS
 | [] => rfl
 | s :: e => by rw [frzE, frzE_eq e]; rfl
section
variable {K : W.Frag} {cl : Str → Addr} {E : XK} {σ : St} {H F F1 H' F' F2 : Hp} {env : DE}
mutual
theorem Rp.noL (g : ∀ b o, F' b = some o → (∀ xs, o ≠ .lst xs) → F2 b = some o) : ∀ (d : D) (v : V), L2.noL d = true → Rp K cl F' d v → Rp K cl F2 d v
 | .non, _, _, h => by simpa only [Rp] using h
 | .bl _, _, _, h => by simpa only [Rp] using h
 | .int _, _, _, h => by simpa only [Rp] using h
 | .str _, _, _, h => by simpa only [Rp] using h
 | .ty _, _, _, h => by simpa only [Rp] using h
 | .cls _, _, _, h => by simpa only [Rp] using h
 | .tup ds, v, n, h => by
  simp only [Rp] at h ⊢
  obtain ⟨a, xs, e, h1, h2⟩ := h
  exact ⟨a, xs, e, g _ _ h1 (fun _ z => nomatch z), Rps.noL g ds xs (by simpa only [L2.noL] using n) h2⟩
 | .lst ds, v, n, h => by simp [L2.noL] at n
 | .scr ns, v, n, h => by simp [L2.noL] at n
 | .exc c, v, n, h => by simp [L2.noL] at n
 | .obj _ _ _, v, n, h => by simp [L2.noL] at n
theorem Rps.noL (g : ∀ b o, F' b = some o → (∀ xs, o ≠ .lst xs) → F2 b = some o) : ∀ (ds : List D) (vs : List V), L2.noLs ds = true → Rps K cl F' ds vs → Rps K cl F2 ds vs
 | [], _, _, h => by simpa only [Rps] using h
 | d :: ds, vs, n, h => by
  simp only [Rps] at h ⊢
  simp only [L2.noLs, Bool.and_eq_true] at n
  obtain ⟨v, r, e, h1, h2⟩ := h
  exact ⟨v, r, e, Rp.noL g d v n.1 h1, Rps.noL g ds r n.2 h2⟩
end
theorem frz_get {j : Nat} {s : Sl} (h : (frzE env)[j]? = some s) : ∃ s0, env[j]? = some s0 ∧ s = frzS s0 := by
 rw [frzE_eq, List.getElem?_map] at h
 cases q : env[j]? with
 | none => rw [q] at h; cases h
 | some s0 => rw [q] at h; exact ⟨s0, rfl, (Option.some.inj h).symm⟩
theorem frz_no {j : Nat} : ¬ Mu (frzE env) j := fun ⟨ds, q⟩ => by
 rcases q with q | q
 ·obtain ⟨s0, _, e⟩ := frz_get q; cases s0 <;> cases e
 ·obtain ⟨s0, _, e⟩ := frz_get q; cases s0 <;> cases e
theorem lend_in (R : Rel K cl σ H F env) : ∃ F1, Rel K cl σ H F1 (frzE env) ∧ (∀ b, owned σ env b → ∃ xs, F1 b = some (.lst xs) ∧ H b = some (.lst xs)) ∧ ∀ b, ¬ owned σ env b → F1 b = F b := by
 classical
 have hF : ∀ b, owned σ env b → F b = none ∧ ∃ xs, H b = some (.lst xs) := fun b ⟨j, ⟨ds, q⟩, e⟩ => by
  obtain ⟨a, xs, e1, h1, f1, _⟩ := R.mu j ds q
  rw [e] at e1; cases e1
  exact ⟨f1, xs, h1⟩
 have sF : Same F (fun b => if owned σ env b then H b else F b) := fun b o q => by
  show (if owned σ env b then H b else F b) = some o
  rw [if_neg (fun w => by rw [(hF b w).1] at q; cases q)]; exact q
 refine ⟨fun b => if owned σ env b then H b else F b, ⟨fun b o q => ?_, by rw [frzE_eq, List.length_map]; exact R.len, fun i d q => ?_, fun i ds q => absurd ⟨ds, q⟩ frz_no, fun i j a hi => absurd hi frz_no⟩, fun b w => ?_, fun b w => if_neg w⟩
 ·try dsimp only at q
  split at q
  ·exact q
  ·exact R.sub _ _ q
 ·obtain ⟨s0, e0, e1⟩ := frz_get q
  cases s0 with
  | no => cases e1
  | fz d' => cases e1; obtain ⟨v, e2, r⟩ := R.fz i _ e0; exact ⟨v, e2, r.mono sF⟩
  | ow ds =>
   cases e1
   obtain ⟨a, xs, e2, h2, f2, r⟩ := R.mu i ds (.inl e0)
   refine ⟨_, e2, ?_⟩
   simp only [Rp]
   refine ⟨a, xs, rfl, ?_, r.mono sF⟩
   rw [if_pos ⟨i, ⟨ds, .inl e0⟩, e2⟩]; exact h2
  | hd ds =>
   cases e1
   obtain ⟨a, xs, e2, h2, f2, r⟩ := R.mu i ds (.inr e0)
   refine ⟨_, e2, ?_⟩
   simp only [Rp]
   refine ⟨a, xs, rfl, ?_, r.mono sF⟩
   rw [if_pos ⟨i, ⟨ds, .inr e0⟩, e2⟩]; exact h2
 ·obtain ⟨xs, h⟩ := (hF b w).2
  exact ⟨xs, by (try dsimp only); rw [if_pos w]; exact h, h⟩
theorem lend_out (R : Rel K cl σ H F env) (o1 : ∀ b, owned σ env b → ∃ xs, F1 b = some (.lst xs) ∧ H b = some (.lst xs)) (o2 : ∀ b, ¬ owned σ env b → F1 b = F b) (x : FX σ H F1 (frzE env) H' F') :
  ∃ F2, Frm σ H F env σ H' F2 env ∧ Rel K cl σ H' F2 env ∧ (∀ b o, F' b = some o → (∀ xs, o ≠ .lst xs) → F2 b = some o) ∧ ∀ b, F' b = none → F2 b = none := by
 classical
 have nw : ∀ b, ¬ Ow σ (frzE env) b := fun b ⟨j, ds, q, _⟩ => frz_no ⟨ds, .inl q⟩
 have hF : ∀ b, owned σ env b → F b = none := fun b ⟨j, ⟨ds, q⟩, e⟩ => by
  obtain ⟨a, xs, e1, h1, f1, _⟩ := R.mu j ds q
  rw [e] at e1; cases e1
  exact f1
 have sF : Same F (fun b => if owned σ env b then none else F' b) := fun b o q => by
  have w : ¬ owned σ env b := fun w => by rw [hF b w] at q; cases q
  show (if owned σ env b then none else F' b) = some o
  rw [if_neg w]
  exact x.fz _ _ (by rw [o2 b w]; exact q)
 have kept : ∀ b xs, owned σ env b → H b = some (.lst xs) → H' b = some (.lst xs) := fun b xs w h => by
  obtain ⟨ys, f, h2⟩ := o1 b w
  rw [h] at h2; cases h2
  exact x.sub _ _ (x.fz _ _ f)
 refine ⟨fun b => if owned σ env b then none else F' b, ⟨sF, fun b o hb fb w => ?_, fun _ _ h => ⟨h, rfl⟩, x.dom⟩, ⟨fun b o q => ?_, R.len, fun i d q => ?_, fun i ds q => ?_, R.inj⟩, fun b o q nl => ?_, fun b q => ?_⟩
 ·by_cases ww : owned σ env b
  ·obtain ⟨ys, f, h2⟩ := o1 b ww
   refine ⟨by rw [hb] at h2; cases h2; exact kept b ys ww hb, by (try dsimp only); rw [if_pos ww], w⟩
  ·obtain ⟨h1, f1⟩ := x.hid b o hb (by rw [o2 b ww]; exact fb) (nw b)
   exact ⟨h1, by (try dsimp only); rw [if_neg ww]; exact f1, w⟩
 ·try dsimp only at q
  split at q
  ·cases q
  ·exact x.sub _ _ q
 ·obtain ⟨v, e, r⟩ := R.fz i d q; exact ⟨v, e, r.mono sF⟩
 ·obtain ⟨a, xs, e, h1, f1, r⟩ := R.mu i ds q
  have w : owned σ env a := ⟨i, ⟨ds, q⟩, e⟩
  exact ⟨a, xs, e, kept a xs w h1, by (try dsimp only); rw [if_pos w], r.mono sF⟩
 ·dsimp only
  rw [if_neg (fun w => by obtain ⟨ys, f, _⟩ := o1 b w; rw [x.fz _ _ f] at q; cases q; exact nl _ rfl)]; exact q
 ·dsimp only
  split
  ·rfl
  ·exact q
def zLend (f : ZF) : ZF := fun e => match f (frzE e) with
 | some (.ok d _) => if noL d = true then some (.ok d e) else none
 | some (.ex c) => some (.ex c)
 | none => none
def bLend (f : BF) : BF := fun e => match f (frzE e) with
 | some (.ok d _) => some (.ok d e)
 | some (.ex c) => some (.ex c)
 | none => none
theorem rf_bLend {t : TT} {f : BF} (hf : RfB K cl E t f) : RfB K cl E t (bLend f) := by
 intro σ H Q env F R h
 obtain ⟨F1, R1, o1, o2⟩ := lend_in R
 refine hf σ H Q (frzE env) F1 R1 ?_
 unfold bLend at h
 split at h
 ·rename_i d e2 q
  rw [q]
  intro b H' F' fr R' p
  obtain ⟨F2, fr2, R2, g, _⟩ := lend_out R o1 o2 (fr.toFX R'.sub)
  exact h b H' F2 fr2 R2 p
 ·rename_i c q
  rw [q]
  intro H' F' x
  obtain ⟨F2, fr2, R2, _⟩ := lend_out R o1 o2 x
  exact h H' F2 (fr2.toFX R2.sub)
 ·exact h.elim
def bLd (r : Option (R Bool)) (e : DE) : Option (R Bool) := match r with
 | some (.ok d _) => some (.ok d e)
 | some (.ex c) => some (.ex c)
 | none => none
def zLd (r : Option (R D)) (e : DE) : Option (R D) := match r with
 | some (.ok d _) => if noL d = true then some (.ok d e) else none
 | some (.ex c) => some (.ex c)
 | none => none
theorem bLend_eq (f : BF) (e : DE) : bLend f e = bLd (f (frzE e)) e := rfl
theorem zLend_eq (f : ZF) (e : DE) : zLend f e = zLd (f (frzE e)) e := rfl
theorem bLd_ok (d : Bool) (e e2 : DE) : bLd (some (.ok d e2)) e = some (.ok d e) := rfl
theorem bLd_ex (c : Str) (e : DE) : bLd (some (.ex c)) e = some (.ex c) := rfl
theorem zLd_ok (d : D) (e e2 : DE) : zLd (some (.ok d e2)) e = if noL d = true then some (.ok d e) else none := rfl
theorem zLd_ex (c : Str) (e : DE) : zLd (some (.ex c)) e = some (.ex c) := rfl
variable {k : Nat}
end
def un : Option D → Sl
 | none => .no
 | some d => .fz d
def notHd : Sl → Bool
 | .hd _ => false
 | _ => true
def okS : Option Sl → Bool
 | none => false
 | some s => notHd s
theorem notHd_un (o : Option D) : notHd (un o) = true := by cases o <;> rfl
theorem notHd_no : notHd .no = true := rfl
theorem notHd_fz (d : D) : notHd (.fz d) = true := rfl
theorem notHd_ow (d : List D) : notHd (.ow d) = true := rfl
theorem notHd_hd (d : List D) : notHd (.hd d) = false := rfl
theorem okS_some (s : Sl) : okS (some s) = notHd s := rfl
theorem okS_none : okS none = false := rfl
theorem frzS_no : frzS .no = .no := rfl
theorem frzS_fz (d : D) : frzS (.fz d) = .fz d := rfl
theorem frzS_ow (d : List D) : frzS (.ow d) = .fz (.lst d) := rfl
theorem frzS_hd (d : List D) : frzS (.hd d) = .fz (.lst d) := rfl
theorem put_eq (i : Nat) (s : Sl) (e : DE) : put i s e = if okS e[i]? = true then some (.nx (e.set i s)) else none := by
 unfold put okS
 cases e[i]? with
 | none => rfl
 | some t => cases t <;> rfl
theorem bName_eq (i : Nat) (d : D) (e : DE) : bName i d e = if okS e[i]? = true then some (e.set i (.fz d)) else none := by
 unfold bName okS
 cases e[i]? with
 | none => rfl
 | some t => cases t <;> rfl
theorem frzS_un (o : Option D) : frzS (un o) = un o := by cases o <;> rfl
theorem noHd_nil : noHd [] = true := rfl
theorem noHd_cons (s : Sl) (e : DE) : noHd (s :: e) = (notHd s && noHd e) := by cases s <;> rfl
def nxOf (r : Option RS) : Option RS := match r with
 | some (.ct e) => some (.nx e)
 | r => r
theorem nxOf_nx (e : DE) : nxOf (some (.nx e)) = some (.nx e) := rfl
theorem nxOf_ct (e : DE) : nxOf (some (.ct e)) = some (.nx e) := rfl
theorem nxOf_rt (d : D) : nxOf (some (.rt d)) = some (.rt d) := rfl
theorem nxOf_ex (c : Str) : nxOf (some (.ex c)) = some (.ex c) := rfl
theorem nxOf_rz (d : List (List D)) : nxOf (some (.rz d)) = some (.rz d) := rfl
theorem nxOf_ro (d : List D) : nxOf (some (.ro d)) = some (.ro d) := rfl
theorem forK_nxOf {r : Option RS} {k : SF} : forK r k = forK (nxOf r) k := by
 cases r with
 | none => rfl
 | some r => cases r <;> rfl
theorem for_map' {α : Type} {b : GF} {body : SF} (f : α → D) (I : List α → DE → Prop) (l0 : List α) : ∀ (l pre : List α) (e : DE), l0 = pre ++ l → I pre e → (∀ pre x post e, l0 = pre ++ x :: post → I pre e → ∃ e2, nxOf (optR (b (f x) e) body) = some (.nx e2) ∧ I (pre ++ [x]) e2) → ∃ e', forD b body (l.map f) e = some (.nx e') ∧ I l0 e'
 | [], pre, e, hl, h, _ => ⟨e, rfl, by rw [hl, List.append_nil]; exact h⟩
 | x :: l, pre, e, hl, h, hs => by
  obtain ⟨e2, h2, h3⟩ := hs pre x l e hl h
  obtain ⟨e', h4, h5⟩ := for_map' f I l0 l (pre ++ [x]) e2 (by rw [hl, List.append_assoc]; rfl) h3 hs
  refine ⟨e', ?_, h5⟩
  rw [List.map_cons, forD_step]
  cases q : b (f x) e with
  | none => rw [q] at h2; cases h2
  | some e1 =>
   rw [q] at h2
   have h2 : nxOf (body e1) = some (.nx e2) := h2
   rw [optR_some, forK_nxOf, h2]; exact h4
theorem for_map {α : Type} {b : GF} {body : SF} (f : α → D) (I : List α → DE → Prop) (l : List α) (e : DE) (h : I [] e) (hs : ∀ pre x post e, l = pre ++ x :: post → I pre e → ∃ e2, nxOf (optR (b (f x) e) body) = some (.nx e2) ∧ I (pre ++ [x]) e2) : ∃ e', forD b body (l.map f) e = some (.nx e') ∧ I l e' :=
 for_map' f I l l [] e rfl h hs
def isEnd : RS → Bool
 | .rt _ => true
 | .ro _ => true
 | .rz _ => true
 | .ex _ => true
 | _ => false
theorem comp_map {α : Type} {b : GF} {c : BF} {el : ZF} {ec eo : DE} (f : α → D) (g : α → D) (q : α → Bool) : ∀ (l : List α) (acc : List D), acc.length + l.length ≤ sizeLine → (∀ x ∈ l, ∃ e1 e2, b (f x) ec = some e1 ∧ c e1 = some (.ok (q x) e2) ∧ (q x = true → ∃ e3, el e2 = some (.ok (g x) e3))) → compD b c el ec eo (l.map f) acc = some (.ok (acc ++ (l.filter q).map g) eo)
 | [], acc, _, _ => by simp only [List.filter_nil, List.map_nil, List.append_nil]; rfl
 | x :: l, acc, hl, h => by
  obtain ⟨e1, e2, h1, h2, h3⟩ := h x List.mem_cons_self
  have hl' : acc.length < sizeLine := by rw [List.length_cons] at hl; omega
  rw [List.map_cons, compD_cons, h1, optB_some, h2, bnd_ok]
  by_cases z : q x = true
  ·obtain ⟨e3, h4⟩ := h3 z
   rw [if_pos z, h4, bnd_ok, if_pos hl', comp_map f g q l (acc ++ [g x]) (by rw [List.length_append, List.length_cons, List.length_nil]; rw [List.length_cons] at hl; omega) (fun y m => h y (List.mem_cons_of_mem _ m)), List.filter_cons_of_pos z, List.map_cons, List.append_assoc]; rfl
  ·rw [if_neg z, comp_map f g q l acc (by rw [List.length_cons] at hl; omega) (fun y m => h y (List.mem_cons_of_mem _ m)), List.filter_cons_of_neg z]
theorem comp_ex {α : Type} {b : GF} {el : ZF} {ec eo : DE} {cx : Str} (f : α → D) (g : α → D) (p : α → Bool) : ∀ (l : List α) (acc : List D), acc.length + l.length ≤ sizeLine → (∀ x ∈ l, ∃ e1, b (f x) ec = some e1 ∧ (if p x = true then el e1 = some (.ex cx) else ∃ e3, el e1 = some (.ok (g x) e3))) → compD b bTrue el ec eo (l.map f) acc = if l.any p = true then some (.ex cx) else some (.ok (acc ++ l.map g) eo)
 | [], acc, _, _ => by simp only [List.map_nil, List.append_nil]; rfl
 | x :: l, acc, hl, h => by
  obtain ⟨e1, h1, h2⟩ := h x List.mem_cons_self
  have hl' : acc.length < sizeLine := by rw [List.length_cons] at hl; omega
  rw [List.map_cons, compD_cons, h1, optB_some, List.any_cons]
  show bnd (some (.ok true e1)) _ = _
  rw [bnd_ok, if_pos rfl]
  by_cases z : p x = true
  ·rw [if_pos z] at h2
   rw [h2, z, Bool.true_or, if_pos rfl]; rfl
  ·rw [if_neg z] at h2
   obtain ⟨e3, h4⟩ := h2
   rw [h4, bnd_ok, if_pos hl', comp_ex f g p l (acc ++ [g x]) (by rw [List.length_append, List.length_cons, List.length_nil]; rw [List.length_cons] at hl; omega) (fun y m => h y (List.mem_cons_of_mem _ m)), Bool.eq_false_iff.mpr z, Bool.false_or, List.map_cons, List.append_assoc]; rfl
theorem rngD_map (lo : Int) (n : Nat) : rngD lo n = (List.range n).map fun i => .int (lo + i) := rfl
theorem gIsi_eq (d : D) (n : String) : gIsi [d, .ty n] = gIsiV n d := by unfold gIsi gIsiV; rfl
theorem ixN_nat {n k : Nat} (h : k < n) : ixN n (k : Int) = some k := by
 unfold ixN; rw [if_pos (by omega), if_pos (by omega), Int.toNat_natCast]
def mapI {α : Type} (g : Nat → α → D) (n : Nat) : List α → List D
 | [] => []
 | x :: l => g n x :: mapI g (n + 1) l
theorem mapI_en {α : Type} (f : α → D) : ∀ (n : Nat) (l : List α), enD n (l.map f) = mapI (fun k x => .tup [.int k, f x]) n l
 | _, [] => rfl
 | n, x :: l => by rw [List.map_cons, mapI, enD, mapI_en f (n + 1) l]
theorem for_or' {α : Type} {b : GF} {body : SF} (g : Nat → α → D) (I : List α → DE → Prop) (Z : List α → α → RS → Prop) (l0 : List α) : ∀ (l pre : List α) (e : DE), l0 = pre ++ l → I pre e →
  (∀ pre x post e, l0 = pre ++ x :: post → I pre e → (∃ r, isEnd r = true ∧ nxOf (optR (b (g pre.length x) e) body) = some r ∧ Z pre x r) ∨ (∃ e2, nxOf (optR (b (g pre.length x) e) body) = some (.nx e2) ∧ I (pre ++ [x]) e2)) →
  ((∃ pr x post r, l0 = pr ++ x :: post ∧ isEnd r = true ∧ forD b body (mapI g pre.length l) e = some r ∧ Z pr x r ∧ ∃ e', I pr e') ∨ (∃ e', forD b body (mapI g pre.length l) e = some (.nx e') ∧ I l0 e'))
 | [], pre, e, hl, h, _ => .inr ⟨e, rfl, by rw [hl, List.append_nil]; exact h⟩
 | x :: l, pre, e, hl, h, hs => by
  have hstep : ∀ r, nxOf (optR (b (g pre.length x) e) body) = some r → forD b body (mapI g pre.length (x :: l)) e = forK (some r) (forD b body (mapI g (pre.length + 1) l)) := fun r h2 => by
   rw [mapI, forD_step]
   cases q : b (g pre.length x) e with
   | none => rw [q] at h2; cases h2
   | some e1 =>
    rw [q] at h2
    have h2 : nxOf (body e1) = some r := h2
    rw [optR_some, forK_nxOf, h2]
  rcases hs pre x l e hl h with ⟨r, hr, h2, hz⟩ | ⟨e2, h2, h3⟩
  ·refine .inl ⟨pre, x, l, r, hl, hr, ?_, hz, e, h⟩
   rw [hstep r h2]
   cases r <;> first | rfl | cases hr
  ·have ih := for_or' g I Z l0 l (pre ++ [x]) e2 (by rw [hl, List.append_assoc]; rfl) h3 hs
   rw [List.length_append, List.length_singleton] at ih
   rw [hstep _ h2]
   exact ih
theorem for_or {α : Type} {b : GF} {body : SF} (g : Nat → α → D) (I : List α → DE → Prop) (Z : List α → α → RS → Prop) (l : List α) (e : DE) (h : I [] e)
  (hs : ∀ pre x post e, l = pre ++ x :: post → I pre e → (∃ r, isEnd r = true ∧ nxOf (optR (b (g pre.length x) e) body) = some r ∧ Z pre x r) ∨ (∃ e2, nxOf (optR (b (g pre.length x) e) body) = some (.nx e2) ∧ I (pre ++ [x]) e2)) :
  (∃ pre x post r, l = pre ++ x :: post ∧ isEnd r = true ∧ forD b body (mapI g 0 l) e = some r ∧ Z pre x r ∧ ∃ e', I pre e') ∨ (∃ e', forD b body (mapI g 0 l) e = some (.nx e') ∧ I l e') :=
 for_or' g I Z l l [] e rfl h hs
theorem for_run {α : Type} {b : GF} {body : SF} (g : Nat → α → D) (I : List α → DE → Prop) (l : List α) (e : DE) (h : I [] e)
  (hs : ∀ pre x post e, l = pre ++ x :: post → I pre e → ∃ e2, nxOf (optR (b (g pre.length x) e) body) = some (.nx e2) ∧ I (pre ++ [x]) e2) : ∃ e', forD b body (mapI g 0 l) e = some (.nx e') ∧ I l e' := by
 rcases for_or g I (fun _ _ _ => False) l e h (fun pre x post e hl hi => .inr (hs pre x post e hl hi)) with ⟨_, _, _, _, _, _, _, h, _⟩ | h
 ·exact h.elim
 ·exact h
theorem zipD_same {α : Type} (f g : α → D) : ∀ (l : List α), zipD (l.map f) (l.map g) = l.map fun q => .tup [f q, g q]
 | [] => rfl
 | x :: l => by
  have := zipD_same f g l
  unfold zipD at this ⊢
  rw [List.map_cons, List.map_cons, List.zipWith_cons_cons, this, List.map_cons]
theorem atI_natD {α : Type} {l : List α} {k : Nat} {a : α} (h : l[k]? = some a) : atI l (k : Int) = some a := by
 have hk := (List.getElem?_eq_some_iff.mp h).1
 unfold atI
 rw [ixN_nat hk]; exact h
section
variable {K : W.Frag} {cl : Str → Addr} {E : XK} {σ : St} {H F : Hp} {env : DE} {k : Nat}
def rngS (lo st : Int) (n : Nat) : List D := (List.range n).map fun (i : Nat) => .int (lo + (i : Int) * st)
theorem rngS_len {lo st : Int} {n : Nat} : (rngS lo st n).length = n := by unfold rngS; rw [List.length_map, List.length_range]
theorem rngS_drop {lo st : Int} {n i : Nat} (h : i < n) : (rngS lo st n).drop i = .int (lo + (i : Int) * st) :: (rngS lo st n).drop (i + 1) := by
 refine drop_cons ?_
 unfold rngS
 rw [List.getElem?_map, List.getElem?_range h]; rfl
theorem for_steps {lo st : Int} {n : Nat} {g : TG} {tb : TS} {D : Ends} {σ : St} {H : Hp} (Pv : Nat → St → Hp → Prop) (h0 : Pv 0 σ H)
  (hs : ∀ i σ H, i < n → Pv i σ H → g (.int (lo + (i : Int) * st)) σ H fun σ2 H2 => tb { D with nx := Pv (i + 1), ct := Pv (i + 1), bk := D.nx } σ2 H2) (hd : ∀ σ H, Pv n σ H → D.nx σ H) :
  ∃ W : Nat → Nat → St → Hp → Prop, (∃ m, W 0 m σ H) ∧ ∀ i m σ H, W i m σ H →
   ((Itg lo st n).stop i H ∧ D.nx σ H) ∨ ((Itg lo st n).go i H ∧ ∃ N : St → Hp → Prop, (∀ σ' H', N σ' H' → ∃ m', m' < m ∧ W (i + 1) m' σ' H') ∧ ∀ x H', (Itg lo st n).yld i H x H' → g x σ H' fun σ2 H2 => tb { D with nx := N, ct := N, bk := D.nx } σ2 H2) := by
 refine ⟨fun i m σ H => m = n - i ∧ i ≤ n ∧ Pv i σ H, ⟨n, by simp, Nat.zero_le _, h0⟩, ?_⟩
 rintro i m σ H ⟨rfl, hi, p⟩
 by_cases hlt : i < n
 ·refine .inr ⟨hlt, Pv (i + 1), fun σ' H' p' => ⟨n - (i + 1), by omega, rfl, hlt, p'⟩, fun x H' y => ?_⟩
  obtain ⟨e, y⟩ := y
  subst e y
  exact hs i σ _ hlt p
 ·have e : i = n := by omega
  subst e
  exact .inl ⟨Nat.le_refl _, hd σ H p⟩
theorem forS {b : GF} {body : SF} {g : TG} {tb : TS} {lo st : Int} {n : Nat} {N : Ends} (hb : RfS K cl E tb body) (hg : RfG K cl k g b) (R : Rel K cl σ H F env) (h : Cs K cl E (forD b body (rngS lo st n) env) σ H F env N) :
  ∃ W : Nat → Nat → St → Hp → Prop, (∃ m, W 0 m σ H) ∧ ∀ i m σ H, W i m σ H →
   ((Itg lo st n).stop i H ∧ N.nx σ H) ∨ ((Itg lo st n).go i H ∧ ∃ M : St → Hp → Prop, (∀ σ' H', M σ' H' → ∃ m', m' < m ∧ W (i + 1) m' σ' H') ∧ ∀ x H', (Itg lo st n).yld i H x H' → g x σ H' fun σ2 H2 => tb { N with nx := M, ct := M, bk := N.nx } σ2 H2) := by
 refine for_steps (fun i σ' H' => ∃ F' e', Frm σ H F env σ' H' F' e' ∧ Rel K cl σ' H' F' e' ∧ Cs K cl E (forD b body ((rngS lo st n).drop i) e') σ H F env N) ⟨F, env, Frm.refl, R, h⟩ (fun i σ' H' hx ⟨F', e', f, R', h'⟩ => ?_) (fun σ' H' ⟨F', e', f, R', h'⟩ => ?_)
 ·rw [rngS_drop hx] at h'
  exact for_turn hb hg f R' (by simp only [Rp]) h' fun σ2 H2 F2 e2 f2 R2 h2 => ⟨F2, e2, f2, R2, h2⟩
 ·rw [show (rngS lo st n).drop n = [] from List.drop_eq_nil_of_le (by rw [rngS_len]; exact Nat.le_refl _)] at h'
  exact h' σ' H' F' f R'
def rng3 (ds : List D) : Option (Int × Int × Nat) := match ds with
 | [.int i, .int j, .int k] => if 0 < k ∧ k < 2 ^ 20 ∧ -(2 ^ 61) ≤ i ∧ i < 2 ^ 61 ∧ -(2 ^ 61) ≤ j ∧ j < 2 ^ 61 then some (i, k, stepN i j k) else none
 | _ => none
theorem rng3_eq {i j k : Int} (h : 0 < k ∧ k < 2 ^ 20 ∧ -(2 ^ 61) ≤ i ∧ i < 2 ^ 61 ∧ -(2 ^ 61) ≤ j ∧ j < 2 ^ 61) : rng3 [.int i, .int j, .int k] = some (i, k, stepN i j k) := by
 rw [rng3, if_pos h]
def sForR3 (f : AF) (b : GF) (body : SF) : SF := fun e => sbn (f e) fun ds e1 => match rng3 ds with
 | none => none
 | some (lo, st, n) => forD b body (rngS lo st n) e1
theorem rf_ForR3 {t : TA} {g : TG} {tb : TS} {f : AF} {b : GF} {body : SF} (hf : RfA K cl E t f) (hg : RfG K cl k g b) (hb : RfS K cl E tb body) : RfS K cl E (tFor (iRng3 t) g tb) (sForR3 f b body) := by
 intro N σ H env F R h
 refine hf σ H _ env F R ((Cs.bnd h).mono fun x H1 ⟨F1, e1, ds, fr, R1, p1, h1⟩ => ?_)
 split at h1
 ·exact h1.elim
 ·rename_i lo st n hs
  unfold rng3 at hs
  split at hs
  ·rename_i i j k
   split at hs
   ·rename_i c; cases hs
    exact ⟨_, _, _, Rps.ints (ns := [_, _, _]) p1, c, forS hb hg R1 (h1.from fr)⟩
   ·cases hs
  ·cases hs
end
open Classical in
section
variable {K : W.Frag} {cl : Str → Addr} {E : XK} {σ : St} {H F : Hp} {env : DE}
abbrev HF := Str → SF
def RfH (K : W.Frag) (cl : Str → Addr) (E : XK) (th : TH) (f : HF) : Prop := ∀ (N : Ends) σ H env F a c, Rel K cl σ H F env → H a = none → Cs K cl E (f c env) σ H F env N → th (.ref (cl c)) none a N σ H
def hN : HF := fun _ _ => none
def hC (exm : Str → Option Bool) (suite : SF) (rest : HF) : HF := fun c e => match exm c with
 | some true => suite e
 | some false => rest c e
 | none => none
def goneR (i : Nat) (r : Option RS) : Option RS := match r with
 | some (.nx e2) => put i .no e2
 | some (.rt d) => some (.rt d)
 | some (.ro ds) => some (.ro ds)
 | _ => none
def hAs (i : Nat) (exm : Str → Option Bool) (suite : SF) (rest : HF) : HF := fun c e => match exm c with
 | some true => (match put i (.fz (.exc c)) e with
  | some (.nx e1) => goneR i (suite e1)
  | _ => none)
 | some false => rest c e
 | none => none
theorem rf_hN : RfH K cl E thNil hN := fun _ _ _ _ _ _ _ _ _ h => h
theorem rf_hC {C : Addr} {exm : Str → Option Bool} {ts : Addr → TS} {suite : SF} {rt : TH} {rest : HF} (hx : ∀ c b, exm c = some b → W.exmOne K (.ref (cl c)) (.ref C) = some b) (hs : ∀ a, RfS K cl E (ts a) suite) (hr : RfH K cl E rt rest) : RfH K cl E (thC K C ts rt) (hC exm suite rest) := by
 intro N σ H env F a c R ha h
 unfold hC at h
 split at h
 ·rename_i q
  have gr : Gr H F (upd H a (ExcO a (.ref (cl c)) none)) (upd F a (ExcO a (.ref (cl c)) none)) := .new R.sub ha
  exact .inl ⟨hx c true q, hs a N _ _ _ _ (R.gr gr) (h.from (R.frm gr))⟩
 ·rename_i q
  exact .inr ⟨hx c false q, hr N σ H env F a c R ha h⟩
 ·exact h.elim
theorem rf_hAs {C : Addr} {i : Nat} {exm : Str → Option Bool} {ts : Addr → TS} {suite : SF} {rt : TH} {rest : HF} (hx : ∀ c b, exm c = some b → W.exmOne K (.ref (cl c)) (.ref C) = some b) (hs : ∀ a, RfS K cl E (ts a) suite) (hr : RfH K cl E rt rest) : RfH K cl E (thAs K C i ts rt) (hAs i exm suite rest) := by
 intro N σ H env F a c R ha h
 unfold hAs at h
 split at h
 ·rename_i q
  have gr : Gr H F (upd H a (ExcO a (.ref (cl c)) none)) (upd F a (ExcO a (.ref (cl c)) none)) := .new R.sub ha
  refine .inl ⟨hx c true q, ?_⟩
  have p : Rp K cl (upd F a (ExcO a (.ref (cl c)) none)) (.exc c) (.ref a) := by simp only [Rp]; exact ⟨a, none, rfl, upd_same⟩
  have h := h.from (R.frm gr)
  have R0 := R.gr gr
  generalize upd H a (ExcO a (.ref (cl c)) none) = H1 at h R0 ⊢
  generalize upd F a (ExcO a (.ref (cl c)) none) = F1 at h R0 p
  cases hp : put i (.fz (.exc c)) env with
  | none => rw [hp] at h; exact h.elim
  | some r =>
   rw [hp] at h
   cases r with
   | nx e1 =>
    obtain ⟨hi, nh, ee⟩ : i < env.length ∧ (∀ ds, env[i]? ≠ some (.hd ds)) ∧ e1 = env.set i (.fz (.exc c)) := by
     have h0 : Cs K cl (fun _ _ _ => False) (put i (.fz (.exc c)) env) σ H1 F1 env ⟨fun _ _ => True, fun _ _ => True, fun _ _ => True, fun _ _ => True⟩ := by rw [hp]; exact fun _ _ _ _ _ => trivial
     obtain ⟨a1, a2, a3⟩ := putS h0
     refine ⟨a1, a2, ?_⟩
     rw [put_eq] at hp
     revert hp
     cases env[i]? with
     | none => simp [okS]
     | some sl => cases sl <;> simp [okS, notHd] <;> intro z <;> exact z.symm
    subst ee
    have R1 := R0.put (d := .exc c) hi nh p
    have f1 : Frm σ H1 F1 env (σ.set i (some (.ref a))) H1 F1 (env.set i (.fz (.exc c))) := Frm.put nh
    refine hs a _ _ _ _ _ R1 ?_
    have h2 := Cs.from f1 h
    cases r : suite (env.set i (.fz (.exc c))) with
    | none => simp only [r, goneR] at h2; exact h2.elim
    | some rs =>
     simp only [r, goneR] at h2
     cases rs with
     | nx e2 =>
      obtain ⟨hi, nh, h3⟩ := putS h2
      intro σ2 H2 F2 f2 R2
      obtain ⟨R3, f3⟩ := R2.drop nh
      exact h3 _ H2 F2 (f2.trans f3) R3
     | bk e2 => exact h2.elim
     | ct e2 => exact h2.elim
     | rt d => exact h2
     | ro ds => exact h2
     | rz dss => exact h2.elim
     | ex c2 => exact h2.elim
   | _ => exact h.elim
 ·rename_i q
  exact .inr ⟨hx c false q, hr N σ H env F a c R ha h⟩
 ·exact h.elim
def sTryC (g : List D → Option R1) (f : AF) (fh : HF) : SF := fun e => match f e with
 | some (.ok ds e1) => (match g ds with
  | some (.ret _) => some (.nx e1)
  | some (.own _) => some (.nx e1)
  | some (.ex c) => fh c e1
  | _ => none)
 | _ => none
theorem rf_TryC {g : List D → Option R1} {t : TA} {f : AF} {th : TH} {fh : HF} (hf : RfA K cl E t f) (hh : RfH K cl E th fh) : RfS K cl E (tTryC (spD K cl g) t th) (sTryC g f fh) := by
 intro N σ H env F R h
 unfold sTryC at h
 split at h
 ·rename_i ds e1 q
  refine ⟨fun cls cx H' => ∃ c H1 F1 F', cls = .ref (cl c) ∧ cx = none ∧ g ds = some (.ex c) ∧ Frm σ H F env σ H1 F1 e1 ∧ Rel K cl σ H1 F1 e1 ∧ Gr H1 F1 H' F', ?_, ?_⟩
  ·refine hf σ H _ env F R ?_
   rw [q]
   intro vs H1 F1 fr R1 p1
   show spD K cl g (vs ++ []) H1 _ _
   rw [List.append_nil]
   refine ⟨ds, F1, R1.sub, p1, ?_⟩
   split at h
   ·rename_i d q1; rw [q1]
    exact fun v H' F' gr _ => h σ H' F' (fr.trans (R1.frm gr)) (R1.gr gr)
   ·rename_i d q1; rw [q1]
    exact fun a xs H' F' gr _ _ _ _ => h σ H' F' (fr.trans (R1.frm gr)) (R1.gr gr)
   ·rename_i c q1; rw [q1]
    exact fun H' F' gr => ⟨c, H1, F1, F', rfl, rfl, rfl, fr, R1, gr⟩
   ·exact h.elim
  ·rintro cls cx H' ⟨c, H1, F1, F', rfl, rfl, q1, fr, R1, gr⟩ a ha
   rw [q1] at h
   exact hh N σ H' e1 F' a c (R1.gr gr) ha (Cs.from (fr.trans (R1.frm gr)) h)
 ·exact h.elim
end
def nCall0 (g : List D → Option R1) (f : AF) : NF := fun e => bnd (f e) fun ds e1 => match g ds with
 | some (.own es) => some (.ok es e1)
 | _ => none
section
variable {K : W.Frag} {cl : Str → Addr} {E : XK}
theorem rf_nCall0 {g : List D → Option R1} {t : TA} {f : AF} (hf : RfA K cl E t f) : RfN K cl E (tCall (spD K cl g) [] E0 t) (nCall0 g f) := by
 intro σ H Q env F R h
 refine hf σ H _ env F R ((Ct.bnd h pm_N).mono fun vs H1 ⟨F1, e1, ds, s1, R1, p1, h1⟩ => ?_)
 show spD K cl g (vs ++ []) H1 _ E0
 rw [List.append_nil]
 refine ⟨ds, F1, R1.sub, p1, ?_⟩
 split at h1
 ·rename_i es q; rw [q]
  intro a xs H' F' gr ha hH hF r
  refine h1 _ H' F' (R1.frm gr) (R1.gr gr) ⟨a, xs, rfl, ha, hH, hF, fun k ⟨fs, qk⟩ e => ?_, r⟩
  obtain ⟨b, ys, e', hb, _⟩ := R1.mu k fs qk
  rw [e] at e'; cases e'
  rw [ha] at hb; cases hb
 ·exact h1.elim
end
section
variable {K : W.Frag} {cl : Str → Addr} {E : XK} {σ : St} {H F : Hp} {env : DE}
theorem Rps.lookup {f : Str} : ∀ {ns : List Str} {ds : List D} {xs : List V} {z : D}, Rps K cl F ds xs → (ns.zip ds).lookup f = some z → ∃ v, (ns.zip xs).lookup f = some v ∧ Rp K cl F z v
 | [], ds, xs, z, _, h => by simp at h
 | n :: ns, [], xs, z, r, h => by simp at h
 | n :: ns, d :: ds, xs, z, r, h => by
  obtain ⟨v, ys, rfl, p, r'⟩ := r.inv
  rw [List.zip_cons_cons, List.lookup_cons] at h ⊢
  by_cases q : (f == n) = true
  ·rw [q] at h ⊢; cases h; exact ⟨v, rfl, p⟩
  ·rw [Bool.not_eq_true _ |>.mp q] at h ⊢; exact r'.lookup h
end
structure GrM (a : Addr) (H F H' F' : Hp) : Prop where
 fz : Same F F'
 sub : Same F' H'
 hid : ∀ b o, b ≠ a → H b = some o → F b = none → H' b = some o ∧ F' b = none
 dom : ∀ b, H' b = none → H b = none
structure Bs (a : Addr) (σ : St) (env : DE) (H0 F0 H F : Hp) : Prop where
 fz : Same F0 F
 hid : ∀ b o, b ≠ a → H0 b = some o → F0 b = none → H b = some o ∧ F b = none ∧ ¬ Ow σ env b
 dom : ∀ b, H b = none → H0 b = none
section
variable {K : W.Frag} {cl : Str → Addr} {E : XK} {σ : St} {H F : Hp} {env : DE}
theorem Bs.frm {a : Addr} {ds : List D} {σ' : St} {env' : DE} {H0 F0 H' F' : Hp} (B : Bs a σ env H0 F0 H F) (f : Frm σ H F env σ' H' F' env') : Bs a σ' env' H0 F0 H' F' :=
 ⟨B.fz.trans f.fz, fun b o n h g => by obtain ⟨h1, f1, w1⟩ := B.hid b o n h g; exact f.hid b o h1 f1 w1, fun b h => B.dom b (f.dom b h)⟩
theorem Bs.gr {a : Addr} {H0 F0 : Hp} (B : Bs a σ env H0 F0 H F) (s : Same F H) : GrM a H0 F0 H F :=
 ⟨B.fz, s, fun b o n h g => by obtain ⟨h1, f1, _⟩ := B.hid b o n h g; exact ⟨h1, f1⟩, B.dom⟩
end
section
variable {K : W.Frag} {cl : Str → Addr} {E : XK}
def sRetZN (f g : NF) : SF := fun e => match f e with
 | some (.ok d1 e1) => (match g e1 with
  | some (.ok d2 _) => some (.rz [d1, d2])
  | _ => none)
 | _ => none
theorem rz_two' {F' H' : Hp} {nw : Addr → Prop} {d1 d2 : List D} {a1 a2 : Addr} {xs1 xs2 : List V} (n : a1 ≠ a2) (h1 : H' a1 = some (.lst xs1)) (f1 : F' a1 = none) (n1 : nw a1) (r1 : Rps K cl F' d1 xs1) (h2 : H' a2 = some (.lst xs2)) (f2 : F' a2 = none) (n2 : nw a2) (r2 : Rps K cl F' d2 xs2) : Rz K cl F' H' nw [d1, d2] [a1, a2] := by
 refine ⟨by simp [n], rfl, fun k a ds e1 e2 => ?_⟩
 match k with
 | 0 => cases e1; cases e2; exact ⟨xs1, h1, f1, n1, r1⟩
 | 1 => cases e1; cases e2; exact ⟨xs2, h2, f2, n2, r2⟩
 | k + 2 => simp at e1
theorem rf_RetZN {t u : TE} {f g : NF} (hf : RfN K cl E t f) (hg : RfN K cl E u g) : RfS K cl E (tRet (tTup (tCons t (tCons u tNil)))) (sRetZN f g) := by
 intro N σ H env F R q
 unfold sRetZN at q
 refine hf σ H _ env F R ?_
 cases q1 : f env with
 | none => rw [q1] at q; exact q.elim
 | some r1 =>
  rw [q1] at q
  cases r1 with
  | ex c => exact q.elim
  | ok d1 e1 =>
   intro v1 H1 F1 fr1 R1 p1
   obtain ⟨a1, xs1, rfl, n1, h1, f1, m1, rr1⟩ := p1
   simp only at q
   refine hg σ H1 _ e1 F1 R1 ?_
   cases q2 : g e1 with
   | none => rw [q2] at q; exact q.elim
   | some r2 =>
    rw [q2] at q
    cases r2 with
    | ex c => exact q.elim
    | ok d2 e2 =>
     intro v2 H2 F2 fr2 R2 p2
     obtain ⟨a2, xs2, rfl, n2, h2, f2, m2, rr2⟩ := p2
     simp only at q
     have w1 : ¬ Ow σ e1 a1 := fun ⟨j, ds, z, e⟩ => m1 j ⟨ds, .inl z⟩ e
     obtain ⟨h12, f12, _⟩ := fr2.hid a1 _ h1 f1 w1
     have n12 : a1 ≠ a2 := fun z => by rw [← z, h1] at n2; cases n2
     refine ⟨by show 2 ≤ 2 ^ 24; decide, fun p hp => ?_⟩
     have np : ∀ a o, H2 a = some o → a ≠ p := fun a o ha z => by rw [z, hp] at ha; cases ha
     have fr := fr1.trans fr2
     refine q p [a1, a2] _ F2 ⟨fr.fz, fun b o hb => by rw [upd_ne (np b o (R2.sub _ _ hb))]; exact R2.sub _ _ hb, fun a o ha fa w => ?_, fun a ha => ?_⟩ (fr.dom p hp) upd_same (R2.sub.free hp) ?_
     ·obtain ⟨x1, x2, _⟩ := fr.hid a o ha fa w
      exact ⟨by rw [upd_ne (np a o x1)]; exact x1, x2⟩
     ·by_cases z : a = p
      ·rw [z, upd_same] at ha; cases ha
      ·rw [upd_ne z] at ha; exact fr.dom a ha
     ·have e2' : H a2 = none := fr1.dom a2 n2
      exact rz_two' n12 (by rw [upd_ne (np _ _ h12)]; exact h12) f12 (fun o e => by rw [n1] at e; cases e) (rr1.mono fr2.fz) (by rw [upd_ne (np _ _ h2)]; exact h2) f2 (fun o e => by rw [e2'] at e; cases e) rr2
def sWreck (i j : Nat) (g : List D → Option R1) (f : AF) (c1 c2 : BF) (z : ZF) : SF := fun e => sbn (f e) fun ds e1 => match g ds with
 | some (.owz [d1, d2]) => (match e1[i]? with
  | some .no => (match c1 (e1.set i (.fz (.tup [.lst d1, .lst d2]))) with
   | some (.ok true _) => some (.rt (.bl false))
   | some (.ok false e3) => (match c2 e3 with
    | some (.ok true _) => some (.rt (.bl false))
    | some (.ok false e4) => (match z e4 with
     | some (.ok (.bl b) e5) => if i ≠ j ∧ j < e5.length ∧ d1.length < sizeLine then some (.rt (.bl b)) else none
     | _ => none)
    | _ => none)
   | _ => none)
  | _ => none)
 | _ => none
abbrev tWreck (K : W.Frag) (i j : Nat) : TS := tSeq (tIfS (tB (tVar j)) (tSeq (tDrop (tBM K "list" rAppend (tOp (rIxT K) (tVar i) (tC (.int 0))) (tCons (tTup (tCons (tC (.int 0)) (tCons (tC (.int 0)) tNil))) tNil))) (tDrop (tBM0 K "list" rClear (tOp (rIxT K) (tVar i) (tC (.int 1)))))) tNext) (tRet (tVar j))
theorem wreck {i j : Nat} {N : Ends} {σ σ0 : St} {H H5 F F5 : Hp} {env e5 : DE} {p a1 a2 : Addr} {xs1 xs2 : List V} {b : Bool} (hij : i ≠ j) (hj : j < σ.length) (hi : σ[i]? = some (some (.ref p))) (sub0 : Same F H) (fr : Frm σ0 H F env σ H5 F5 e5) (s5 : Same F5 H5) (ha1 : H a1 = none) (ha2 : H a2 = none) (n12 : a1 ≠ a2) (hp5 : F5 p = some (.tup [.ref a1, .ref a2])) (h1 : F5 a1 = some (.lst xs1)) (h2 : F5 a2 = some (.lst xs2)) (hl : xs1.length < sizeLine)
  (h : ∀ v H' F', FX σ0 H F env H' F' → Rp K cl F' (.bl b) v → N.rt v H') : tWreck K i j N (σ.set j (some (.bl b))) H5 := by
 have ej : (σ.set j (some (V.bl b)))[j]? = some (some (.bl b)) := List.getElem?_set_self hj
 have ei : (σ.set j (some (V.bl b)))[i]? = some (some (.ref p)) := by rw [List.getElem?_set_ne (Ne.symm hij)]; exact hi
 refine ⟨.bl b, ej, b, rfl, ?_⟩
 cases b with
 | false =>
  show tNext _ _ _
  refine ⟨.bl false, ej, h _ _ F5 (fr.toFX s5) (by simp only [Rp])⟩
 | true =>
  have q1 := s5 _ _ h1
  have q2 := s5 _ _ h2
  have qp := s5 _ _ hp5
  refine ⟨.ref p, ei, p, [.ref a1, .ref a2], 0, .ref a1, rfl, rfl, .of qp, rfl, .inl ⟨rfl, xs1, .of q1⟩, ?_⟩
  refine ⟨by show 2 ≤ 2 ^ 24; decide, fun t ht => ?_⟩
  have t1 : a1 ≠ t := fun y => by rw [y, ht] at q1; cases q1
  have t2 : a2 ≠ t := fun y => by rw [y, ht] at q2; cases q2
  have tp : p ≠ t := fun y => by rw [y, ht] at qp; cases qp
  have p1 : p ≠ a1 := fun y => by rw [y, q1] at qp; cases qp
  have p2 : p ≠ a2 := fun y => by rw [y, q2] at qp; cases qp
  refine ⟨a1, xs1, .ref t, rfl, rfl, by rw [upd_ne t1]; exact q1, hl, ?_⟩
  refine ⟨.ref p, ei, p, [.ref a1, .ref a2], 1, .ref a2, rfl, rfl, .of (by rw [upd_ne p1, upd_ne tp]; exact qp), rfl, .inl ⟨rfl, xs2, .of (by rw [upd_ne (Ne.symm n12), upd_ne t2]; exact q2)⟩, ?_⟩
  refine ⟨a2, xs2, rfl, rfl, by rw [upd_ne (Ne.symm n12), upd_ne t2]; exact q2, ?_⟩
  refine ⟨.bl true, ej, h _ _ F ⟨Same.refl _, fun x o hx => ?_, fun x o hx fx w => ?_, fun x hx => ?_⟩ (by simp only [Rp])⟩
  ·have y1 : x ≠ a1 := fun y => by rw [y] at hx; rw [sub0 _ _ hx] at ha1; cases ha1
   have y2 : x ≠ a2 := fun y => by rw [y] at hx; rw [sub0 _ _ hx] at ha2; cases ha2
   have hx5 := s5 _ _ (fr.fz _ _ hx)
   have yt : x ≠ t := fun y => by rw [y, ht] at hx5; cases hx5
   rw [upd_ne y2, upd_ne y1, upd_ne yt]; exact hx5
  ·have y1 : x ≠ a1 := fun y => by rw [y, ha1] at hx; cases hx
   have y2 : x ≠ a2 := fun y => by rw [y, ha2] at hx; cases hx
   obtain ⟨hx5, _, _⟩ := fr.hid x o hx fx w
   have yt : x ≠ t := fun y => by rw [y, ht] at hx5; cases hx5
   exact ⟨by rw [upd_ne y2, upd_ne y1, upd_ne yt]; exact hx5, fx⟩
  ·by_cases y2 : x = a2
   ·rw [y2]; exact ha2
   ·rw [upd_ne y2] at hx
    by_cases y1 : x = a1
    ·rw [y1]; exact ha1
    ·rw [upd_ne y1] at hx
     by_cases yt : x = t
     ·rw [yt, upd_same] at hx; cases hx
     ·rw [upd_ne yt] at hx; exact fr.dom x hx
theorem rf_Wreck {i j : Nat} {g : List D → Option R1} {t : TA} {f : AF} {t1 t2 : TT} {c1 c2 : BF} {tz : TE} {z : ZF} (hf : RfA K cl E t f) (h1' : RfB K cl E t1 c1) (h2' : RfB K cl E t2 c2) (hz : RfZ K cl E tz z) :
  RfS K cl E (tSeq (tAsg (tCall (spD K cl g) [] E t) (gName i)) (tSeq (tIfS t1 (tRet (tC (.bl false))) tNext) (tSeq (tIfS t2 (tRet (tC (.bl false))) tNext) (tSeq (tAsg tz (gName j)) (tWreck K i j))))) (sWreck i j g f c1 c2 z) := by
 intro N σ H env F R h
 refine hf σ H _ env F R ((Cs.bnd h).mono fun vs H1 ⟨F1, e1, ds, fr, R1, p1, h1⟩ => ?_)
 show spD K cl g (vs ++ []) H1 _ E
 rw [List.append_nil]
 refine ⟨ds, F1, R1.sub, p1, ?_⟩
 split at h1
 ·rename_i d1 d2 q; rw [q]
  intro p as H' F' gr hp ht fp rz
  split at h1
  ·rename_i qi
   obtain ⟨nd, hl, hz'⟩ := rz
   match as, hl with
   | [a1, a2], _ =>
    have n12 : a1 ≠ a2 := by intro z; rw [z] at nd; simp at nd
    obtain ⟨xs1, hH1, hF1, w1, r1⟩ := hz' 0 a1 d1 rfl rfl
    obtain ⟨xs2, hH2, hF2, w2, r2⟩ := hz' 1 a2 d2 rfl rfl
    have ht : H' p = some (.tup [.ref a1, .ref a2]) := ht
    have p1 : p ≠ a1 := fun y => by rw [y, hH1] at ht; cases ht
    have p2 : p ≠ a2 := fun y => by rw [y, hH2] at ht; cases ht
    have hi : i < e1.length := (List.getElem?_eq_some_iff.mp qi).1
    have nh : ∀ ds, e1[i]? ≠ some (.hd ds) := fun ds y => by rw [qi] at y; cases y
    let F2 : Hp := upd (upd (upd F' a1 (.lst xs1)) a2 (.lst xs2)) p (.tup [.ref a1, .ref a2])
    have sF : Same F' F2 := fun b o hb => by
     show upd (upd (upd F' a1 (.lst xs1)) a2 (.lst xs2)) p (.tup [.ref a1, .ref a2]) b = _
     rw [upd_ne (fun y => by rw [y, fp] at hb; cases hb), upd_ne (fun y => by rw [y, hF2] at hb; cases hb), upd_ne (fun y => by rw [y, hF1] at hb; cases hb)]
     exact hb
    have gp : F2 p = some (.tup [.ref a1, .ref a2]) := upd_same
    have g2 : F2 a2 = some (.lst xs2) := by
     show upd (upd (upd F' a1 (.lst xs1)) a2 (.lst xs2)) p (.tup [.ref a1, .ref a2]) a2 = _
     rw [upd_ne (Ne.symm p2), upd_same]
    have g1' : F2 a1 = some (.lst xs1) := by
     show upd (upd (upd F' a1 (.lst xs1)) a2 (.lst xs2)) p (.tup [.ref a1, .ref a2]) a1 = _
     rw [upd_ne (Ne.symm p1), upd_ne n12, upd_same]
    have gr2 : Gr H1 F1 H' F2 := ⟨gr.fz.trans sF, fun b o hb => by
     by_cases y : b = p
     ·rw [y, gp] at hb; cases hb; rw [y]; exact ht
     ·by_cases y2 : b = a2
      ·rw [y2, g2] at hb; cases hb; rw [y2]; exact hH2
      ·by_cases y1 : b = a1
       ·rw [y1, g1'] at hb; cases hb; rw [y1]; exact hH1
       ·have hb : upd (upd (upd F' a1 (.lst xs1)) a2 (.lst xs2)) p (.tup [.ref a1, .ref a2]) b = some o := hb
        rw [upd_ne y, upd_ne y2, upd_ne y1] at hb
        exact gr.sub _ _ hb, fun a o ha fa => by
     obtain ⟨x1, x2⟩ := gr.hid a o ha fa
     refine ⟨x1, ?_⟩
     show upd (upd (upd F' a1 (.lst xs1)) a2 (.lst xs2)) p (.tup [.ref a1, .ref a2]) a = _
     rw [upd_ne (fun y => by rw [y, hp] at ha; cases ha), upd_ne (fun y => by rw [y, w2] at ha; cases ha), upd_ne (fun y => by rw [y, w1] at ha; cases ha)]
     exact x2⟩
    have rp : Rp K cl F2 (.tup [.lst d1, .lst d2]) (.ref p) := by
     simp only [Rp]
     refine ⟨p, _, rfl, gp, .cons ?_ (.one ?_)⟩
     ·simp only [Rp]; exact ⟨a1, xs1, rfl, g1', r1.mono sF⟩
     ·simp only [Rp]; exact ⟨a2, xs2, rfl, g2, r2.mono sF⟩
    have R3 := (R1.gr gr2).put hi nh rp
    have fr3 : Frm σ H F env (σ.set i (some (.ref p))) H' F2 (e1.set i (.fz (.tup [.lst d1, .lst d2]))) := (fr.trans (R1.frm gr2)).trans (Frm.put nh)
    refine h1' _ H' _ _ F2 R3 ?_
    cases qc : c1 (e1.set i (.fz (.tup [.lst d1, .lst d2]))) with
    | none => rw [qc] at h1; exact h1.elim
    | some r =>
     rw [qc] at h1
     cases r with
     | ex c => exact h1.elim
     | ok b3 e3 =>
      intro b' H3 F3 f3 R3' pb
      have pb : b' = b3 := pb
      subst pb
      cases b' with
      | true => exact h1 _ H3 F3 ((fr3.trans f3).toFX R3'.sub) (by simp only [Rp])
      | false =>
       show tSeq (tIfS t2 (tRet (tC (.bl false))) tNext) (tSeq (tAsg tz (gName j)) (tWreck K i j)) N _ H3
       simp only at h1
       refine h2' _ H3 _ _ F3 R3' ?_
       cases qc2 : c2 e3 with
       | none => rw [qc2] at h1; exact h1.elim
       | some r =>
        rw [qc2] at h1
        cases r with
        | ex c => exact h1.elim
        | ok b4 e4 =>
         intro b' H4 F4 f4 R4 pb
         have pb : b' = b4 := pb
         subst pb
         cases b' with
         | true => exact h1 _ H4 F4 (((fr3.trans f3).trans f4).toFX R4.sub) (by simp only [Rp])
         | false =>
          show tSeq (tAsg tz (gName j)) (tWreck K i j) N _ H4
          simp only at h1
          refine hz _ H4 _ _ F4 R4 ?_
          cases qz : z e4 with
          | none => rw [qz] at h1; exact h1.elim
          | some r =>
           rw [qz] at h1
           cases r with
           | ex c => exact h1.elim
           | ok d e5 =>
            cases d with
            | bl b =>
             simp only at h1
             split at h1
             ·rename_i hc
              intro v H5 F5 f5 R5 pv
              have pv : v = .bl b := by simpa only [PZ, Rp] using pv
              subst pv
              have ff := ((fr3.trans f3).trans f4).trans f5
              have sF5 : Same F2 F5 := (f3.fz.trans f4.fz).trans f5.fz
              have hlen : (σ.set i (some (V.ref p))).length = e5.length := R5.len
              exact wreck hc.1 (by rw [hlen]; exact hc.2.1) (List.getElem?_set_self (by rw [R1.len]; exact hi)) R.sub ff R5.sub (fr.dom a1 w1) (fr.dom a2 w2) n12 (sF5 _ _ gp) (sF5 _ _ g1') (sF5 _ _ g2) (by rw [← r1.length]; exact hc.2.2) h1
             ·exact h1.elim
            | _ => exact h1.elim
  ·exact h1.elim
 ·exact h1.elim
end
end L2
namespace Law
open PySem L2 PyProof.Rows
def top (i : Nat) : Stmt := PySem.Challenge.pw_cratefit_k15_related.main.body.getD i (.Pass ⟨0, 0, 0, 0⟩)
abbrev s_sides_of : Stmt := top 5
abbrev s_spot_of : Stmt := top 7
abbrev s_spots_of : Stmt := top 8
abbrev s_pairs_in_order : Stmt := top 10
abbrev s_related : Stmt := top 11
abbrev s_l_cell_at : Stmt := top 13
abbrev s_l_whole : Stmt := top 14
abbrev s_l_side : Stmt := top 15
abbrev s_l_spot_at : Stmt := top 16
abbrev s_l_ware : Stmt := top 17
abbrev s_l_place : Stmt := top 18
abbrev s_l_spot : Stmt := top 19
abbrev s_l_due : Stmt := top 20
abbrev s_l_pairs : Stmt := top 21
abbrev s_l_answered : Stmt := top 22
abbrev s_l_refused : Stmt := top 23
abbrev s_law : Stmt := top 24
variable {P : Program} {w : World} {K : PySem.W.Frag} {mg : Str → Option Value} {base : Heap} {c : Str → Addr}
structure Txt (K : PySem.W.Frag) (mg : Str → Option Value) (c : Str → Addr) : Prop where
 z_ValueError : mg "ValueError" = none
 z_bool : mg "bool" = none
 z_enumerate : mg "enumerate" = none
 z_int : mg "int" = none
 z_isinstance : mg "isinstance" = none
 z_len : mg "len" = none
 z_list : mg "list" = none
 z_min : mg "min" = none
 z_range : mg "range" = none
 z_tuple : mg "tuple" = none
 z_zip : mg "zip" = none
 m_BadTurn : mg "BadTurn" = some (.ref (c "BadTurn"))
 m_CrateError : mg "CrateError" = some (.ref (c "CrateError"))
 m_Ring : mg "Ring" = some (.ref (c "Ring"))
 x_BadTurn : PySem.W.excIn K (c "BadTurn") vErr "ValueError.__new__" = true
 t_exc_BadTurn : PySem.W.ExcT K (c "BadTurn")
 t_one_BadTurn_Ring : PySem.W.kitOne K (.ref (c "BadTurn")) (.ref (c "Ring")) = some false
 t_one_BadTurn_ValueError : PySem.W.kitOne K (.ref (c "BadTurn")) (.type "ValueError") = some true
 t_exo_BadTurn_BadTurn : PySem.W.exmOne K (.ref (c "BadTurn")) (.ref (c "BadTurn")) = some true
 t_exo_BadTurn_CrateError : PySem.W.exmOne K (.ref (c "BadTurn")) (.ref (c "CrateError")) = some true
def x1 (n m : Str) : Option Bool := if n = "BadTurn" ∧ m = "Ring" then some false else none
def x2 (n : Str) (m : String) : Option Bool := if n = "BadTurn" ∧ m = "ValueError" then some true else none
theorem x1_ok (T : Txt K mg c) : ∀ (n : Str) (m : Str) (b : Bool), x1 n m = some b → PySem.W.ExcT K (c n) ∧ PySem.W.kitOne K (.ref (c n)) (.ref (c m)) = some b := by
 intro n m b h
 unfold x1 at h
 split at h
 ·rename_i z; obtain ⟨rfl, rfl⟩ := z; cases h; exact ⟨T.t_exc_BadTurn, T.t_one_BadTurn_Ring⟩
 cases h
theorem x2_ok (T : Txt K mg c) : ∀ (n : Str) (m : String) (b : Bool), x2 n m = some b → PySem.W.ExcT K (c n) ∧ PySem.W.kitOne K (.ref (c n)) (.type m) = some b := by
 intro n m b h
 unfold x2 at h
 split at h
 ·rename_i z; obtain ⟨rfl, rfl⟩ := z; cases h; exact ⟨T.t_exc_BadTurn, T.t_one_BadTurn_ValueError⟩
 cases h
def xo_BadTurn (n : Str) : Option Bool := if n = "BadTurn" then some true else none
theorem xo_BadTurn_ok (T : Txt K mg c) : ∀ n b, xo_BadTurn n = some b → PySem.W.exmOne K (.ref (c n)) (.ref (c "BadTurn")) = some b := by
 intro n b h
 unfold xo_BadTurn at h
 split at h
 ·rename_i z; subst z; cases h; exact T.t_exo_BadTurn_BadTurn
 cases h
def xo_CrateError (n : Str) : Option Bool := if n = "BadTurn" then some true else none
theorem xo_CrateError_ok (T : Txt K mg c) : ∀ n b, xo_CrateError n = some b → PySem.W.exmOne K (.ref (c n)) (.ref (c "CrateError")) = some b := by
 intro n b h
 unfold xo_CrateError at h
 split at h
 ·rename_i z; subst z; cases h; exact T.t_exo_BadTurn_CrateError
 cases h
def b_sides_of : SF := (sSeq (sAsg (eV 0) (bTup [(bName 2), (bName 3), (bName 4)])) (sSeq (sIf (bNot (bZ (eV 1))) (sRet (eT (aC (eV 2) (aC (eV 3) aN)))) sNx) (sSeq (sIf (bNot (bZ (eV 4))) (sRaise "BadTurn" (aC (eC (.str "a ware that may not be turned has no sides turned")) aN)) sNx) (sRet (eT (aC (eV 3) (aC (eV 2) aN)))))))
def d_sides_of : List D → Option R1 := fD 5 2 b_sides_of
theorem sc_sides_of : FnScope ["ware", "lie", "w", "h", "turns"] ["ware", "lie"] (defScope s_sides_of) := ⟨rfl, rfl, rfl, by decide +kernel, rfl, by decide +kernel, by decide +kernel⟩
seal PSs PS PE PA PT
theorem ok_sides_of {f : Addr} {fd : FuncData} (F : Fun K "sides_of" "sides_of" s_sides_of f fd) (T : Txt K mg c)  : FnOk P w K mg base (CXe P w) 3 f fd ["ware", "lie"] (spD K c d_sides_of) :=
 F.okD (k := 2) sc_sides_of fun cdv A outer s H E hr => ⟨_, (pss_cons (ps_asg (pv 0) (pgK_tup (K := K) (n := 3) rfl (pgs_cons (pg_name (i := 2) sc_sides_of.nd rfl (Or.inl rfl)) (pgs_cons (pg_name (i := 3) sc_sides_of.nd rfl (Or.inl rfl)) (pgs_cons (pg_name (i := 4) sc_sides_of.nd rfl (Or.inl rfl)) pgs_nil))))) (pss_cons (ps_if (pt_not (pt_val (pv 1))) (pss_one (ps_ret (pe_tup (pa_cons (pv 2) (pa_cons (pv 3) pa_nil))))) pss_nil) (pss_cons (ps_if (pt_not (pt_val (pv 4))) (pss_one (ps_raise acc_def T.x_BadTurn rfl T.m_BadTurn (pa_cons pe_str pa_nil))) pss_nil) (pss_one (ps_ret (pe_tup (pa_cons (pv 3) (pa_cons (pv 2) pa_nil)))))))), (rf_Seq (rf_Asg rf_v (rf_gTup (rf_gCons (rf_gName (k := 5) (by decide)) (rf_gCons (rf_gName (k := 5) (by decide)) (rf_gCons (rf_gName (k := 5) (by decide)) rf_gNil))) rfl)) (rf_Seq (rf_If' (rf_bNot (rf_bZ rf_v)) (rf_Ret (rf_T (rf_aC rf_v (rf_aC rf_v rf_aN)))) rf_Nx) (rf_Seq (rf_If' (rf_bNot (rf_bZ rf_v)) (rf_Raise (rf_aC rf_c rf_aN)) rf_Nx) (rf_Ret (rf_T (rf_aC rf_v (rf_aC rf_v rf_aN)))))))⟩
def b_spot_of : SF := (sSeq (sAsg (eV 1) (bTup [(bName 2), (bName 3), (bName 4)])) (sSeq (sAsg (eCall d_sides_of (aC (eV 0) (aC (eV 4) aN))) (bTup [(bName 5), (bName 6)])) (sRet (eT (aC (eV 2) (aC (eV 3) (aC (eB gAdd (eV 2) (eV 5)) (aC (eB gAdd (eV 3) (eV 6)) aN))))))))
def d_spot_of : List D → Option R1 := fD 7 2 b_spot_of
theorem sc_spot_of : FnScope ["ware", "place", "x", "y", "lie", "w", "h"] ["ware", "place"] (defScope s_spot_of) := ⟨rfl, rfl, rfl, by decide +kernel, rfl, by decide +kernel, by decide +kernel⟩
theorem ok_spot_of {f : Addr} {fd : FuncData} (F : Fun K "spot_of" "spot_of" s_spot_of f fd) (T : Txt K mg c) (G_sides_of : Own P w K mg base 3 "sides_of" ["ware", "lie"] (spD K c d_sides_of)) : FnOk P w K mg base (CXe P w) 5 f fd ["ware", "place"] (spD K c d_spot_of) :=
 F.okD (k := 4) sc_spot_of fun cdv A outer s H E hr => ⟨_, (pss_cons (ps_asg (pv 1) (pgK_tup (K := K) (n := 3) rfl (pgs_cons (pg_name (i := 2) sc_spot_of.nd rfl (Or.inl rfl)) (pgs_cons (pg_name (i := 3) sc_spot_of.nd rfl (Or.inl rfl)) (pgs_cons (pg_name (i := 4) sc_spot_of.nd rfl (Or.inl rfl)) pgs_nil))))) (pss_cons (ps_asg (pe_own G_sides_of hr (by decide) (XAcc.passes acc_def) (pa_cons (pv 0) (pa_cons (pv 4) pa_nil))) (pgK_tup (K := K) (n := 2) rfl (pgs_cons (pg_name (i := 5) sc_spot_of.nd rfl (Or.inl rfl)) (pgs_cons (pg_name (i := 6) sc_spot_of.nd rfl (Or.inl rfl)) pgs_nil)))) (pss_one (ps_ret (pe_tup (pa_cons (pv 2) (pa_cons (pv 3) (pa_cons (pe_op op_add (pv 2) (pv 5)) (pa_cons (pe_op op_add (pv 3) (pv 6)) pa_nil))))))))), (rf_Seq (rf_Asg rf_v (rf_gTup (rf_gCons (rf_gName (k := 7) (by decide)) (rf_gCons (rf_gName (k := 7) (by decide)) (rf_gCons (rf_gName (k := 7) (by decide)) rf_gNil))) rfl)) (rf_Seq (rf_Asg (rf_Call (rf_aC rf_v (rf_aC rf_v rf_aN))) (rf_gTup (rf_gCons (rf_gName (k := 7) (by decide)) (rf_gCons (rf_gName (k := 7) (by decide)) rf_gNil)) rfl)) (rf_Ret (rf_T (rf_aC rf_v (rf_aC rf_v (rf_aC (rf_op ok_add rf_v rf_v) (rf_aC (rf_op ok_add rf_v rf_v) rf_aN))))))))⟩
def b_spots_of : SF := (sRetN (nCompZ 2 [] (aC (eV 0) (aC (eV 1) aN)) (bTup [(bName 0), (bName 1)]) bTrue (eCall d_spot_of (aC (eV 0) (aC (eV 1) aN)))))
def d_spots_of : List D → Option R1 := fD 2 2 b_spots_of
theorem sc_spots_of : FnScope ["wares", "places"] ["wares", "places"] (defScope s_spots_of) := ⟨rfl, rfl, rfl, by decide +kernel, rfl, by decide +kernel, by decide +kernel⟩
theorem ok_spots_of {f : Addr} {fd : FuncData} (F : Fun K "spots_of" "spots_of" s_spots_of f fd) (T : Txt K mg c) (G_spot_of : Own P w K mg base 5 "spot_of" ["ware", "place"] (spD K c d_spot_of)) : FnOk P w K mg base (CXe P w) 7 f fd ["wares", "places"] (spD K c d_spots_of) :=
 F.okD (k := 6) sc_spots_of fun cdv A outer s H E hr => ⟨_, (pss_one (ps_ret (pe_compX (Nc := ["ware", "place"]) (k := 2) (js := []) acc_def rfl ⟨by decide +kernel, rfl, by decide +kernel, (by change ∀ y ∈ Scope.names _, y.2 = NameKind.free → (defScope s_spots_of).names.lookup y.1 = some .cell ∨ (defScope s_spots_of).names.lookup y.1 = some .free; decide +kernel), by decide +kernel, rfl, rfl, by decide +kernel⟩ (pi_zip rfl T.z_zip (pa_cons (pv 0) (pa_cons (pv 1) pa_nil))) (fun _ _ _ _ _ => (pgK_tup (K := K) (n := 2) rfl (pgs_cons (pg_name (i := 0) (by show List.Nodup [("ware" : Str), ("place" : Str)]; decide +kernel) rfl (Or.inl rfl)) (pgs_cons (pg_name (i := 1) (by show List.Nodup [("ware" : Str), ("place" : Str)]; decide +kernel) rfl (Or.inl rfl)) pgs_nil)))) (fun _ _ _ _ _ => pf_nil) (fun _ _ _ _ _ ac => (pe_own G_spot_of hr (by decide) (XAcc.passes ac) (pa_cons (pv 0) (pa_cons (pv 1) pa_nil))))))), (rf_RetN (rf_CompZ (by decide) (rf_aC rf_v (rf_aC rf_v rf_aN)) (rf_gTup (rf_gCons (rf_gName (k := 2) (by decide)) (rf_gCons (rf_gName (k := 2) (by decide)) rf_gNil)) rfl) rf_bTrue (rf_Call (rf_aC rf_v (rf_aC rf_v rf_aN)))))⟩
def b_pairs_in_order : SF := (sSeq (sSetN 3 (eL aN)) (sSeq (sForEV 0 (bTup [(bName 4), (bName 5)]) (sForEV 0 (bTup [(bName 6), (bName 7)]) (sIf (bAnd (bZ (eB (gEq true) (eV 4) (eV 6))) (bZ (eB gLe (eB gIxT (eV 5) (eV 1)) (eB gIxT (eV 7) (eV 2))))) (sApp 3 (eT (aC (eV 4) (aC (eV 6) aN)))) sNx))) (sRetV 3)))
def d_pairs_in_order : List D → Option R1 := fD 8 3 b_pairs_in_order
theorem sc_pairs_in_order : FnScope ["spots", "end", "begin", "pairs", "i", "one", "j", "other"] ["spots", "end", "begin"] (defScope s_pairs_in_order) := ⟨rfl, rfl, rfl, by decide +kernel, rfl, by decide +kernel, by decide +kernel⟩
theorem ok_pairs_in_order {f : Addr} {fd : FuncData} (F : Fun K "pairs_in_order" "pairs_in_order" s_pairs_in_order f fd) (T : Txt K mg c)  : FnOk P w K mg base (CXe P w) 3 f fd ["spots", "end", "begin"] (spD K c d_pairs_in_order) :=
 F.okD (k := 2) sc_pairs_in_order fun cdv A outer s H E hr => ⟨_, (pss_cons (ps_set (i := 3) sc_pairs_in_order.nd rfl (Or.inl rfl) (pe_lst pa_nil)) (pss_cons (ps_for PassesOwn.leaving rfl (pi_enum rfl T.z_enumerate (pa_cons (pv 0) pa_nil)) (pgK_tup (K := K) (n := 2) rfl (pgs_cons (pg_name (i := 4) sc_pairs_in_order.nd rfl (Or.inl rfl)) (pgs_cons (pg_name (i := 5) sc_pairs_in_order.nd rfl (Or.inl rfl)) pgs_nil))) (pss_one (ps_for PassesOwn.leaving rfl (pi_enum rfl T.z_enumerate (pa_cons (pv 0) pa_nil)) (pgK_tup (K := K) (n := 2) rfl (pgs_cons (pg_name (i := 6) sc_pairs_in_order.nd rfl (Or.inl rfl)) (pgs_cons (pg_name (i := 7) sc_pairs_in_order.nd rfl (Or.inl rfl)) pgs_nil))) (pss_one (ps_if (PW.pt (pw_and (pt_cmpR op_ne (pv 4) (pv 6) (nomark _)) (pw_and1 (pt_cmpR op_le (pe_ix (ixK_tup (K := K)) (pv 5) (pv 1) (fun _ _ => rfl)) (pe_ix (ixK_tup (K := K)) (pv 7) (pv 2) (fun _ _ => rfl)) (nomark _))))) (pss_one (ps_expr (pe_bmK (K := K) PySem.F.plainAttrs_list PySem.F.slot_list_append PySem.F.type_list_append mt_append (pv 3) (pa_cons (pe_tup (pa_cons (pv 4) (pa_cons (pv 6) pa_nil))) pa_nil)))) pss_nil))))) (pss_one (ps_ret (pv 3))))), (rf_Seq (rf_SetN (rf_L rf_aN)) (rf_Seq (rf_ForEV (rf_gTup (rf_gCons (rf_gName (k := 8) (by decide)) (rf_gCons (rf_gName (k := 8) (by decide)) rf_gNil)) rfl) (rf_ForEV (rf_gTup (rf_gCons (rf_gName (k := 8) (by decide)) (rf_gCons (rf_gName (k := 8) (by decide)) rf_gNil)) rfl) (rf_If' (rf_bAnd (rf_bT (rf_op ok_ne rf_v rf_v)) (rf_bT (rf_op ok_le (rf_op ok_ixT rf_v rf_v) (rf_op ok_ixT rf_v rf_v)))) (rf_App (rf_T (rf_aC rf_v (rf_aC rf_v rf_aN)))) rf_Nx))) rf_RetV))⟩
def b_related : SF := (sSeq (sSetC 2 d_spots_of (aC (eV 0) (aC (eV 1) aN))) (sRetZN (nCall0 d_pairs_in_order (aC (eV 2) (aC (eC (.int 2)) (aC (eC (.int 0)) aN)))) (nCall0 d_pairs_in_order (aC (eV 2) (aC (eC (.int 3)) (aC (eC (.int 1)) aN))))))
def d_related : List D → Option R1 := fD 3 2 b_related
theorem sc_related : FnScope ["wares", "places", "spots"] ["wares", "places"] (defScope s_related) := ⟨rfl, rfl, rfl, by decide +kernel, rfl, by decide +kernel, by decide +kernel⟩
theorem ok_related {f : Addr} {fd : FuncData} (F : Fun K "related" "related" s_related f fd) (T : Txt K mg c) (G_spots_of : Own P w K mg base 7 "spots_of" ["wares", "places"] (spD K c d_spots_of)) (G_pairs_in_order : Own P w K mg base 3 "pairs_in_order" ["spots", "end", "begin"] (spD K c d_pairs_in_order)) : FnOk P w K mg base (CXe P w) 9 f fd ["wares", "places"] (spD K c d_related) :=
 F.okD (k := 8) sc_related fun cdv A outer s H E hr => ⟨_, (pss_cons (ps_set (i := 2) sc_related.nd rfl (Or.inl rfl) (pe_own G_spots_of hr (by decide) (XAcc.passes acc_def) (pa_cons (pv 0) (pa_cons (pv 1) pa_nil)))) (pss_one (ps_ret (pe_tup (pa_cons (pe_own G_pairs_in_order hr (by decide) pass0e (pa_cons (pv 2) (pa_cons pe_int (pa_cons pe_int pa_nil)))) (pa_cons (pe_own G_pairs_in_order hr (by decide) pass0e (pa_cons (pv 2) (pa_cons pe_int (pa_cons pe_int pa_nil)))) pa_nil)))))), (rf_Seq (rf_SetC (rf_aC rf_v (rf_aC rf_v rf_aN))) (rf_RetZN (rf_nCall0 (rf_aC rf_v (rf_aC rf_c (rf_aC rf_c rf_aN)))) (rf_nCall0 (rf_aC rf_v (rf_aC rf_c (rf_aC rf_c rf_aN))))))⟩
def b_l_cell_at : SF := (sSeq (sIf (bZ (eB gLt (eV 1) (eCV gLen 0))) (sRet (eBV gIxL 0 (eV 1))) sNx) (sRet (eC (.int 0))))
def d_l_cell_at : List D → Option R1 := fD 2 2 b_l_cell_at
theorem sc_l_cell_at : FnScope ["_law_script", "_law_k"] ["_law_script", "_law_k"] (defScope s_l_cell_at) := ⟨rfl, rfl, rfl, by decide +kernel, rfl, by decide +kernel, by decide +kernel⟩
theorem ok_l_cell_at {f : Addr} {fd : FuncData} (F : Fun K "_law_cell_at" "_law_cell_at" s_l_cell_at f fd) (T : Txt K mg c)  : FnOk P w K mg base (CXe P w) 3 f fd ["_law_script", "_law_k"] (spD K c d_l_cell_at) :=
 F.okD (k := 2) sc_l_cell_at fun cdv A outer s H E hr => ⟨_, (pss_cons (ps_if (pt_cmpR op_lt (pv 1) (pe_callB (callK_len_seq (K := K)) rfl T.z_len bt_len (pa_cons (pv 0) pa_nil)) (nomark _)) (pss_one (ps_ret (pe_ix (ixK_list (K := K)) (pv 0) (pv 1) (fun _ _ => rfl)))) pss_nil) (pss_one (ps_ret pe_int))), (rf_Seq (rf_If' (rf_bT (rf_op ok_lt rf_v (rf_CV ok_len))) (rf_Ret (rf_opV ok_ixL rf_v)) rf_Nx) (rf_Ret rf_c))⟩
def b_l_whole : SF := (sRet (eAnd (eIsiV 0 "int") (eNot (eIsiV 0 "bool"))))
def d_l_whole : List D → Option R1 := fD 1 1 b_l_whole
theorem sc_l_whole : FnScope ["_law_found"] ["_law_found"] (defScope s_l_whole) := ⟨rfl, rfl, rfl, by decide +kernel, rfl, by decide +kernel, by decide +kernel⟩
theorem ok_l_whole {f : Addr} {fd : FuncData} (F : Fun K "_law_whole" "_law_whole" s_l_whole f fd) (T : Txt K mg c)  : FnOk P w K mg base (CXe P w) 3 f fd ["_law_found"] (spD K c d_l_whole) :=
 F.okD (k := 2) sc_l_whole fun cdv A outer s H E hr => ⟨_, (pss_one (ps_ret (pe_and (pe_callB (callK_isi (K := K)) rfl T.z_isinstance bt_isinstance (pa_cons (pv 0) (pa_cons (pe_bltn (v := .ty "int") rfl T.z_int bt_int rfl) pa_nil))) (pe_one (pe_not (pe_callB (callK_isi (K := K)) rfl T.z_isinstance bt_isinstance (pa_cons (pv 0) (pa_cons (pe_bltn (v := .ty "bool") rfl T.z_bool bt_bool rfl) pa_nil)))))))), (rf_Ret (rf_And rf_IsiV (rf_Not rf_IsiV)))⟩
def b_l_side : SF := (sSeq (sIf (bZ (eB (gEq false) (eB gMod (eV 0) (eC (.int 5))) (eC (.int 0)))) (sRet (eB gAdd (eC (.int 1)) (eB gMod (eB gDiv (eV 0) (eC (.int 5))) (eB gPow (eC (.int 10)) (eC (.int 40)))))) sNx) (sRet (eB gAdd (eC (.int 1)) (eB gMod (eB gDiv (eV 0) (eC (.int 5))) (eC (.int 9))))))
def d_l_side : List D → Option R1 := fD 1 1 b_l_side
theorem sc_l_side : FnScope ["_law_cell"] ["_law_cell"] (defScope s_l_side) := ⟨rfl, rfl, rfl, by decide +kernel, rfl, by decide +kernel, by decide +kernel⟩
theorem ok_l_side {f : Addr} {fd : FuncData} (F : Fun K "_law_side" "_law_side" s_l_side f fd) (T : Txt K mg c)  : FnOk P w K mg base (CXe P w) 3 f fd ["_law_cell"] (spD K c d_l_side) :=
 F.okD (k := 2) sc_l_side fun cdv A outer s H E hr => ⟨_, (pss_cons (ps_if (pt_cmpR op_eq (pe_op op_mod (pv 0) pe_int) pe_int (nomark _)) (pss_one (ps_ret (pe_op op_add pe_int (pe_op op_mod (pe_op op_fdivB (pv 0) pe_int) (pe_op op_pow pe_int pe_int))))) pss_nil) (pss_one (ps_ret (pe_op op_add pe_int (pe_op op_mod (pe_op op_fdivB (pv 0) pe_int) pe_int))))), (rf_Seq (rf_If' (rf_bT (rf_op ok_eq (rf_op ok_mod rf_v rf_c) rf_c)) (rf_Ret (rf_op ok_add rf_c (rf_op ok_mod (rf_op ok_div rf_v rf_c) (rf_op ok_pow rf_c rf_c)))) rf_Nx) (rf_Ret (rf_op ok_add rf_c (rf_op ok_mod (rf_op ok_div rf_v rf_c) rf_c))))⟩
def b_l_spot_at : SF := (sSeq (sIf (bZ (eB (gEq false) (eB gMod (eV 0) (eC (.int 5))) (eC (.int 0)))) (sRet (eB gSub' (eB gMod (eB gDiv (eV 0) (eC (.int 5))) (eB gAdd (eB gMul (eC (.int 2)) (eB gPow (eC (.int 10)) (eC (.int 42)))) (eC (.int 1)))) (eB gPow (eC (.int 10)) (eC (.int 42))))) sNx) (sRet (eB gSub' (eB gMod (eB gDiv (eV 0) (eC (.int 5))) (eC (.int 13))) (eC (.int 3)))))
def d_l_spot_at : List D → Option R1 := fD 1 1 b_l_spot_at
theorem sc_l_spot_at : FnScope ["_law_cell"] ["_law_cell"] (defScope s_l_spot_at) := ⟨rfl, rfl, rfl, by decide +kernel, rfl, by decide +kernel, by decide +kernel⟩
theorem ok_l_spot_at {f : Addr} {fd : FuncData} (F : Fun K "_law_spot_at" "_law_spot_at" s_l_spot_at f fd) (T : Txt K mg c)  : FnOk P w K mg base (CXe P w) 3 f fd ["_law_cell"] (spD K c d_l_spot_at) :=
 F.okD (k := 2) sc_l_spot_at fun cdv A outer s H E hr => ⟨_, (pss_cons (ps_if (pt_cmpR op_eq (pe_op op_mod (pv 0) pe_int) pe_int (nomark _)) (pss_one (ps_ret (pe_op op_sub (pe_op op_mod (pe_op op_fdivB (pv 0) pe_int) (pe_op op_add (pe_op op_mulB pe_int (pe_op op_pow pe_int pe_int)) pe_int)) (pe_op op_pow pe_int pe_int)))) pss_nil) (pss_one (ps_ret (pe_op op_sub (pe_op op_mod (pe_op op_fdivB (pv 0) pe_int) pe_int) pe_int)))), (rf_Seq (rf_If' (rf_bT (rf_op ok_eq (rf_op ok_mod rf_v rf_c) rf_c)) (rf_Ret (rf_op ok_sub (rf_op ok_mod (rf_op ok_div rf_v rf_c) (rf_op ok_add (rf_op ok_mul rf_c (rf_op ok_pow rf_c rf_c)) rf_c)) (rf_op ok_pow rf_c rf_c))) rf_Nx) (rf_Ret (rf_op ok_sub (rf_op ok_mod (rf_op ok_div rf_v rf_c) rf_c) rf_c)))⟩
def b_l_ware : SF := (sRet (eT (aC (eCall0 d_l_side (aC (eV 0) aN)) (aC (eCall0 d_l_side (aC (eV 1) aN)) (aC (eB gGt (eB gMod (eV 2) (eC (.int 3))) (eC (.int 0))) aN)))))
def d_l_ware : List D → Option R1 := fD 3 3 b_l_ware
theorem sc_l_ware : FnScope ["_law_a", "_law_b", "_law_d"] ["_law_a", "_law_b", "_law_d"] (defScope s_l_ware) := ⟨rfl, rfl, rfl, by decide +kernel, rfl, by decide +kernel, by decide +kernel⟩
theorem ok_l_ware {f : Addr} {fd : FuncData} (F : Fun K "_law_ware" "_law_ware" s_l_ware f fd) (T : Txt K mg c) (G_l_side : Own P w K mg base 3 "_law_side" ["_law_cell"] (spD K c d_l_side)) : FnOk P w K mg base (CXe P w) 5 f fd ["_law_a", "_law_b", "_law_d"] (spD K c d_l_ware) :=
 F.okD (k := 4) sc_l_ware fun cdv A outer s H E hr => ⟨_, (pss_one (ps_ret (pe_tup (pa_cons (pe_own G_l_side hr (by decide) pass0e (pa_cons (pv 0) pa_nil)) (pa_cons (pe_own G_l_side hr (by decide) pass0e (pa_cons (pv 1) pa_nil)) (pa_cons (pe_cmpR op_gt (pe_op op_mod (pv 2) pe_int) pe_int (nomark _)) pa_nil)))))), (rf_Ret (rf_T (rf_aC (rf_Call0 (rf_aC rf_v rf_aN)) (rf_aC (rf_Call0 (rf_aC rf_v rf_aN)) (rf_aC (rf_op ok_gt (rf_op ok_mod rf_v rf_c) rf_c) rf_aN)))))⟩
def b_l_place : SF := (sRet (eT (aC (eCall0 d_l_spot_at (aC (eV 0) aN)) (aC (eCall0 d_l_spot_at (aC (eB gDiv (eV 1) (eC (.int 3))) aN)) (aC (eB (gEq false) (eB gMod (eV 1) (eC (.int 3))) (eC (.int 2))) aN)))))
def d_l_place : List D → Option R1 := fD 2 2 b_l_place
theorem sc_l_place : FnScope ["_law_c", "_law_d"] ["_law_c", "_law_d"] (defScope s_l_place) := ⟨rfl, rfl, rfl, by decide +kernel, rfl, by decide +kernel, by decide +kernel⟩
theorem ok_l_place {f : Addr} {fd : FuncData} (F : Fun K "_law_place" "_law_place" s_l_place f fd) (T : Txt K mg c) (G_l_spot_at : Own P w K mg base 3 "_law_spot_at" ["_law_cell"] (spD K c d_l_spot_at)) : FnOk P w K mg base (CXe P w) 5 f fd ["_law_c", "_law_d"] (spD K c d_l_place) :=
 F.okD (k := 4) sc_l_place fun cdv A outer s H E hr => ⟨_, (pss_one (ps_ret (pe_tup (pa_cons (pe_own G_l_spot_at hr (by decide) pass0e (pa_cons (pv 0) pa_nil)) (pa_cons (pe_own G_l_spot_at hr (by decide) pass0e (pa_cons (pe_op op_fdivB (pv 1) pe_int) pa_nil)) (pa_cons (pe_cmpR op_eq (pe_op op_mod (pv 1) pe_int) pe_int (nomark _)) pa_nil)))))), (rf_Ret (rf_T (rf_aC (rf_Call0 (rf_aC rf_v rf_aN)) (rf_aC (rf_Call0 (rf_aC (rf_op ok_div rf_v rf_c) rf_aN)) (rf_aC (rf_op ok_eq (rf_op ok_mod rf_v rf_c) rf_c) rf_aN)))))⟩
def b_l_spot : SF := (sSeq (sIf (bZ (eB gIxT (eV 1) (eC (.int 2)))) (sRet (eT (aC (eB gIxT (eV 1) (eC (.int 0))) (aC (eB gIxT (eV 1) (eC (.int 1))) (aC (eB gAdd (eB gIxT (eV 1) (eC (.int 0))) (eB gIxT (eV 0) (eC (.int 1)))) (aC (eB gAdd (eB gIxT (eV 1) (eC (.int 1))) (eB gIxT (eV 0) (eC (.int 0)))) aN)))))) sNx) (sRet (eT (aC (eB gIxT (eV 1) (eC (.int 0))) (aC (eB gIxT (eV 1) (eC (.int 1))) (aC (eB gAdd (eB gIxT (eV 1) (eC (.int 0))) (eB gIxT (eV 0) (eC (.int 0)))) (aC (eB gAdd (eB gIxT (eV 1) (eC (.int 1))) (eB gIxT (eV 0) (eC (.int 1)))) aN)))))))
def d_l_spot : List D → Option R1 := fD 2 2 b_l_spot
theorem sc_l_spot : FnScope ["_law_ware_here", "_law_place_here"] ["_law_ware_here", "_law_place_here"] (defScope s_l_spot) := ⟨rfl, rfl, rfl, by decide +kernel, rfl, by decide +kernel, by decide +kernel⟩
theorem ok_l_spot {f : Addr} {fd : FuncData} (F : Fun K "_law_spot" "_law_spot" s_l_spot f fd) (T : Txt K mg c)  : FnOk P w K mg base (CXe P w) 3 f fd ["_law_ware_here", "_law_place_here"] (spD K c d_l_spot) :=
 F.okD (k := 2) sc_l_spot fun cdv A outer s H E hr => ⟨_, (pss_cons (ps_if (pt_val (pe_ix (ixK_tup (K := K)) (pv 1) pe_int (fun _ _ => rfl))) (pss_one (ps_ret (pe_tup (pa_cons (pe_ix (ixK_tup (K := K)) (pv 1) pe_int (fun _ _ => rfl)) (pa_cons (pe_ix (ixK_tup (K := K)) (pv 1) pe_int (fun _ _ => rfl)) (pa_cons (pe_op op_add (pe_ix (ixK_tup (K := K)) (pv 1) pe_int (fun _ _ => rfl)) (pe_ix (ixK_tup (K := K)) (pv 0) pe_int (fun _ _ => rfl))) (pa_cons (pe_op op_add (pe_ix (ixK_tup (K := K)) (pv 1) pe_int (fun _ _ => rfl)) (pe_ix (ixK_tup (K := K)) (pv 0) pe_int (fun _ _ => rfl))) pa_nil))))))) pss_nil) (pss_one (ps_ret (pe_tup (pa_cons (pe_ix (ixK_tup (K := K)) (pv 1) pe_int (fun _ _ => rfl)) (pa_cons (pe_ix (ixK_tup (K := K)) (pv 1) pe_int (fun _ _ => rfl)) (pa_cons (pe_op op_add (pe_ix (ixK_tup (K := K)) (pv 1) pe_int (fun _ _ => rfl)) (pe_ix (ixK_tup (K := K)) (pv 0) pe_int (fun _ _ => rfl))) (pa_cons (pe_op op_add (pe_ix (ixK_tup (K := K)) (pv 1) pe_int (fun _ _ => rfl)) (pe_ix (ixK_tup (K := K)) (pv 0) pe_int (fun _ _ => rfl))) pa_nil)))))))), (rf_Seq (rf_If' (rf_bZ (rf_op ok_ixT rf_v rf_c)) (rf_Ret (rf_T (rf_aC (rf_op ok_ixT rf_v rf_c) (rf_aC (rf_op ok_ixT rf_v rf_c) (rf_aC (rf_op ok_add (rf_op ok_ixT rf_v rf_c) (rf_op ok_ixT rf_v rf_c)) (rf_aC (rf_op ok_add (rf_op ok_ixT rf_v rf_c) (rf_op ok_ixT rf_v rf_c)) rf_aN)))))) rf_Nx) (rf_Ret (rf_T (rf_aC (rf_op ok_ixT rf_v rf_c) (rf_aC (rf_op ok_ixT rf_v rf_c) (rf_aC (rf_op ok_add (rf_op ok_ixT rf_v rf_c) (rf_op ok_ixT rf_v rf_c)) (rf_aC (rf_op ok_add (rf_op ok_ixT rf_v rf_c) (rf_op ok_ixT rf_v rf_c)) rf_aN)))))))⟩
def b_l_due : SF := (sSeq (sSetN 3 (nCompR rng1 1 [0, 1] (aC (eCV gLen 0) aN) (bName 0) bTrue (eCall0 d_l_spot (aC (eBV gIxL 1 (eV 0)) (aC (eBV gIxL 2 (eV 0)) aN))))) (sSeq (sSetN 4 (eL aN)) (sSeq (sForR rng1 (aC (eCV gLen 3) aN) (bName 5) (sForR rng1 (aC (eCV gLen 3) aN) (bName 6) (sIf (bAnd (bZ (eB (gEq true) (eV 5) (eV 6))) (bZ (eB gLe (eB gIxT (eBV gIxL 3 (eV 5)) (eB gAdd (eC (.int 2)) (eV 2))) (eB gIxT (eBV gIxL 3 (eV 6)) (eV 2))))) (sApp 4 (eT (aC (eV 5) (aC (eV 6) aN)))) sNx))) (sRetV 4))))
def d_l_due : List D → Option R1 := fD 7 3 b_l_due
theorem sc_l_due : FnScope ["_law_wares", "_law_places", "_law_way", "_law_spots", "_law_pairs_here", "_law_i", "_law_j"] ["_law_wares", "_law_places", "_law_way"] (defScope s_l_due) := ⟨rfl, rfl, rfl, by decide +kernel, rfl, by decide +kernel, by decide +kernel⟩
theorem ok_l_due {f : Addr} {fd : FuncData} (F : Fun K "_law_due" "_law_due" s_l_due f fd) (T : Txt K mg c) (G_l_spot : Own P w K mg base 3 "_law_spot" ["_law_ware_here", "_law_place_here"] (spD K c d_l_spot)) : FnOk P w K mg base (CXe P w) 5 f fd ["_law_wares", "_law_places", "_law_way"] (spD K c d_l_due) :=
 F.okD (k := 4) sc_l_due fun cdv A outer s H E hr => ⟨_, (pss_cons (ps_compSet (i := 3) (Nc := ["_law_k", "_law_wares", "_law_places"]) (k := 1) (js := [0, 1]) rfl ⟨by decide +kernel, rfl, by decide +kernel, (by change ∀ y ∈ Scope.names _, y.2 = NameKind.free → (defScope s_l_due).names.lookup y.1 = some .cell ∨ (defScope s_l_due).names.lookup y.1 = some .free; decide +kernel), by decide +kernel, rfl, rfl, by decide +kernel⟩ sc_l_due.nd rfl (pi_range1 rfl T.z_range (pa_cons (pe_callB (callK_len_seq (K := K)) rfl T.z_len bt_len (pa_cons (pv 0) pa_nil)) pa_nil)) (fun _ _ _ _ _ => (pg_name (i := 0) (by show List.Nodup [("_law_k" : Str), ("_law_wares" : Str), ("_law_places" : Str)]; decide +kernel) rfl (Or.inl rfl))) (fun _ _ _ _ _ => pf_nil) (fun _ _ _ _ _ => (pe_own G_l_spot hr (by decide) pass0e (pa_cons (pe_ix (ixK_list (K := K)) (pv 1) (pv 0) (fun _ _ => rfl)) (pa_cons (pe_ix (ixK_list (K := K)) (pv 2) (pv 0) (fun _ _ => rfl)) pa_nil))))) (pss_cons (ps_set (i := 4) sc_l_due.nd rfl (Or.inl rfl) (pe_lst pa_nil)) (pss_cons (ps_for PassesOwn.leaving rfl (pi_range1 rfl T.z_range (pa_cons (pe_callB (callK_len_seq (K := K)) rfl T.z_len bt_len (pa_cons (pv 3) pa_nil)) pa_nil)) (pg_name (i := 5) sc_l_due.nd rfl (Or.inl rfl)) (pss_one (ps_for PassesOwn.leaving rfl (pi_range1 rfl T.z_range (pa_cons (pe_callB (callK_len_seq (K := K)) rfl T.z_len bt_len (pa_cons (pv 3) pa_nil)) pa_nil)) (pg_name (i := 6) sc_l_due.nd rfl (Or.inl rfl)) (pss_one (ps_if (PW.pt (pw_and (pt_cmpR op_ne (pv 5) (pv 6) (nomark _)) (pw_and1 (pt_cmpR op_le (pe_ix (ixK_tup (K := K)) (pe_ix (ixK_list (K := K)) (pv 3) (pv 5) (fun _ _ => rfl)) (pe_op op_add pe_int (pv 2)) (fun _ _ => rfl)) (pe_ix (ixK_tup (K := K)) (pe_ix (ixK_list (K := K)) (pv 3) (pv 6) (fun _ _ => rfl)) (pv 2) (fun _ _ => rfl)) (nomark _))))) (pss_one (ps_expr (pe_bmK (K := K) PySem.F.plainAttrs_list PySem.F.slot_list_append PySem.F.type_list_append mt_append (pv 4) (pa_cons (pe_tup (pa_cons (pv 5) (pa_cons (pv 6) pa_nil))) pa_nil)))) pss_nil))))) (pss_one (ps_ret (pv 4)))))), (rf_Seq (rf_SetComp (rf_CompR1 (by decide) (rf_aC (rf_CV ok_len) rf_aN) (rf_gName (k := 1) (by decide)) rf_bTrue (rf_Call0 (rf_aC (rf_opV ok_ixL rf_v) (rf_aC (rf_opV ok_ixL rf_v) rf_aN))))) (rf_Seq (rf_SetN (rf_L rf_aN)) (rf_Seq (rf_ForR1 (rf_aC (rf_CV ok_len) rf_aN) (rf_gName (k := 7) (by decide)) (rf_ForR1 (rf_aC (rf_CV ok_len) rf_aN) (rf_gName (k := 7) (by decide)) (rf_If' (rf_bAnd (rf_bT (rf_op ok_ne rf_v rf_v)) (rf_bT (rf_op ok_le (rf_op ok_ixT (rf_opV ok_ixL rf_v) (rf_op ok_add rf_c rf_v)) (rf_op ok_ixT (rf_opV ok_ixL rf_v) rf_v)))) (rf_App (rf_T (rf_aC rf_v (rf_aC rf_v rf_aN)))) rf_Nx))) rf_RetV)))⟩
def b_l_pairs : SF := (sSeq (sIf (bOr (bNot (bZ (eIsiV 0 "list"))) (bZ (eB (gEq true) (eCV gLen 0) (eCV gLen 1)))) (sRet (eC (.bl false))) sNx) (sSeq (sForR rng1 (aC (eCV gLen 1) aN) (bName 2) (sSeq (sIf (bOr (bNot (bZ (eCB gIsi (aC (eBV gIxL 0 (eV 2)) (aC (eC (.ty "tuple")) aN))))) (bZ (eB (gEq true) (eCB (g1 gLen) (aC (eBV gIxL 0 (eV 2)) aN)) (eC (.int 2))))) (sRet (eC (.bl false))) sNx) (sSeq (sIf (bOr (bNot (bZ (eCall0 d_l_whole (aC (eB gIxT (eBV gIxL 0 (eV 2)) (eC (.int 0))) aN)))) (bNot (bZ (eCall0 d_l_whole (aC (eB gIxT (eBV gIxL 0 (eV 2)) (eC (.int 1))) aN))))) (sRet (eC (.bl false))) sNx) (sIf (bZ (eB (gEqT true) (eBV gIxL 0 (eV 2)) (eBV gIxL 1 (eV 2)))) (sRet (eC (.bl false))) sNx)))) (sRet (eC (.bl true)))))
def d_l_pairs : List D → Option R1 := fD 3 2 b_l_pairs
theorem sc_l_pairs : FnScope ["_law_found", "_law_due_here", "_law_k"] ["_law_found", "_law_due_here"] (defScope s_l_pairs) := ⟨rfl, rfl, rfl, by decide +kernel, rfl, by decide +kernel, by decide +kernel⟩
theorem ok_l_pairs {f : Addr} {fd : FuncData} (F : Fun K "_law_pairs" "_law_pairs" s_l_pairs f fd) (T : Txt K mg c) (G_l_whole : Own P w K mg base 3 "_law_whole" ["_law_found"] (spD K c d_l_whole)) : FnOk P w K mg base (CXe P w) 5 f fd ["_law_found", "_law_due_here"] (spD K c d_l_pairs) :=
 F.okD (k := 4) sc_l_pairs fun cdv A outer s H E hr => ⟨_, (pss_cons (ps_if (PW.pt (pw_or (pt_not (pt_val (pe_callB (callK_isi (K := K)) rfl T.z_isinstance bt_isinstance (pa_cons (pv 0) (pa_cons (pe_bltn (v := .ty "list") rfl T.z_list bt_list rfl) pa_nil))))) (pw_or1 (pt_cmpR op_ne (pe_callB (callK_len_seq (K := K)) rfl T.z_len bt_len (pa_cons (pv 0) pa_nil)) (pe_callB (callK_len_seq (K := K)) rfl T.z_len bt_len (pa_cons (pv 1) pa_nil)) (nomark _))))) (pss_one (ps_ret pe_bl)) pss_nil) (pss_cons (ps_for PassesOwn.leaving rfl (pi_range1 rfl T.z_range (pa_cons (pe_callB (callK_len_seq (K := K)) rfl T.z_len bt_len (pa_cons (pv 1) pa_nil)) pa_nil)) (pg_name (i := 2) sc_l_pairs.nd rfl (Or.inl rfl)) (pss_cons (ps_if (PW.pt (pw_or (pt_not (pt_val (pe_callB (callK_isi (K := K)) rfl T.z_isinstance bt_isinstance (pa_cons (pe_ix (ixK_list (K := K)) (pv 0) (pv 2) (fun _ _ => rfl)) (pa_cons (pe_bltn (v := .ty "tuple") rfl T.z_tuple bt_tuple rfl) pa_nil))))) (pw_or1 (pt_cmpR op_ne (pe_callB (callK_len_seq (K := K)) rfl T.z_len bt_len (pa_cons (pe_ix (ixK_list (K := K)) (pv 0) (pv 2) (fun _ _ => rfl)) pa_nil)) pe_int (nomark _))))) (pss_one (ps_ret pe_bl)) pss_nil) (pss_cons (ps_if (PW.pt (pw_or (pt_not (pt_val (pe_own G_l_whole hr (by decide) pass0e (pa_cons (pe_ix (ixK_tup (K := K)) (pe_ix (ixK_list (K := K)) (pv 0) (pv 2) (fun _ _ => rfl)) pe_int (fun _ _ => rfl)) pa_nil)))) (pw_or1 (pt_not (pt_val (pe_own G_l_whole hr (by decide) pass0e (pa_cons (pe_ix (ixK_tup (K := K)) (pe_ix (ixK_list (K := K)) (pv 0) (pv 2) (fun _ _ => rfl)) pe_int (fun _ _ => rfl)) pa_nil))))))) (pss_one (ps_ret pe_bl)) pss_nil) (pss_one (ps_if (pt_cmpR (opK_neT (K := K) (cl := c) (hu40 hr)) (pe_ix (ixK_list (K := K)) (pv 0) (pv 2) (fun _ _ => rfl)) (pe_ix (ixK_list (K := K)) (pv 1) (pv 2) (fun _ _ => rfl)) (nomark _)) (pss_one (ps_ret pe_bl)) pss_nil))))) (pss_one (ps_ret pe_bl)))), (rf_Seq (rf_If' (rf_bOr (rf_bNot (rf_bZ rf_IsiV)) (rf_bT (rf_op ok_ne (rf_CV ok_len) (rf_CV ok_len)))) (rf_Ret rf_c) rf_Nx) (rf_Seq (rf_ForR1 (rf_aC (rf_CV ok_len) rf_aN) (rf_gName (k := 3) (by decide)) (rf_Seq (rf_If' (rf_bOr (rf_bNot (rf_bZ (rf_CB ok_isi (rf_aC (rf_opV ok_ixL rf_v) (rf_aC rf_c rf_aN))))) (rf_bT (rf_op ok_ne (rf_CB ok_len.cb (rf_aC (rf_opV ok_ixL rf_v) rf_aN)) rf_c))) (rf_Ret rf_c) rf_Nx) (rf_Seq (rf_If' (rf_bOr (rf_bNot (rf_bZ (rf_Call0 (rf_aC (rf_op ok_ixT (rf_opV ok_ixL rf_v) rf_c) rf_aN)))) (rf_bNot (rf_bZ (rf_Call0 (rf_aC (rf_op ok_ixT (rf_opV ok_ixL rf_v) rf_c) rf_aN))))) (rf_Ret rf_c) rf_Nx) (rf_If' (rf_bT (rf_op ok_eqT (rf_opV ok_ixL rf_v) (rf_opV ok_ixL rf_v))) (rf_Ret rf_c) rf_Nx)))) (rf_Ret rf_c)))⟩
def b_l_answered : SF := (sSeq (sSetN 2 (nCV gList 0)) (sSeq (sSetN 3 (nCV gList 1)) (sWreck 4 5 d_related (aC (eV 2) (aC (eV 3) aN)) (bOr (bNot (bZ (eIsiV 4 "tuple"))) (bZ (eB (gEq true) (eCV gLen 4) (eC (.int 2))))) (bOr (bZ (eBVV (gEqT true) 2 0)) (bZ (eBVV (gEqT true) 3 1))) (eAnd (eCall0 d_l_pairs (aC (eB gIxT (eV 4) (eC (.int 0))) (aC (eCall0 d_l_due (aC (eV 0) (aC (eV 1) (aC (eC (.int 0)) aN)))) aN))) (eCall0 d_l_pairs (aC (eB gIxT (eV 4) (eC (.int 1))) (aC (eCall0 d_l_due (aC (eV 0) (aC (eV 1) (aC (eC (.int 1)) aN)))) aN)))))))
def d_l_answered : List D → Option R1 := fD 6 2 b_l_answered
theorem sc_l_answered : FnScope ["_law_wares", "_law_places", "_law_mine", "_law_theirs", "_law_found", "_law_good"] ["_law_wares", "_law_places"] (defScope s_l_answered) := ⟨rfl, rfl, rfl, by decide +kernel, rfl, by decide +kernel, by decide +kernel⟩
theorem ok_l_answered {f : Addr} {fd : FuncData} (F : Fun K "_law_answered" "_law_answered" s_l_answered f fd) (T : Txt K mg c) (G_related : Own P w K mg base 9 "related" ["wares", "places"] (spD K c d_related)) (G_l_pairs : Own P w K mg base 5 "_law_pairs" ["_law_found", "_law_due_here"] (spD K c d_l_pairs)) (G_l_due : Own P w K mg base 5 "_law_due" ["_law_wares", "_law_places", "_law_way"] (spD K c d_l_due)) : FnOk P w K mg base (CXe P w) 11 f fd ["_law_wares", "_law_places"] (spD K c d_l_answered) :=
 F.okD (k := 10) sc_l_answered fun cdv A outer s H E hr => ⟨_, (pss_cons (ps_set (i := 2) sc_l_answered.nd rfl (Or.inl rfl) (pe_callTy (callK_list_of (K := K)) rfl T.z_list bt_list (pa_cons (pv 0) pa_nil))) (pss_cons (ps_set (i := 3) sc_l_answered.nd rfl (Or.inl rfl) (pe_callTy (callK_list_of (K := K)) rfl T.z_list bt_list (pa_cons (pv 1) pa_nil))) (pss_cons (ps_set (i := 4) sc_l_answered.nd rfl (Or.inl rfl) (pe_own G_related hr (by decide) (XAcc.passes acc_def) (pa_cons (pv 2) (pa_cons (pv 3) pa_nil)))) (pss_cons (ps_if (PW.pt (pw_or (pt_not (pt_val (pe_callB (callK_isi (K := K)) rfl T.z_isinstance bt_isinstance (pa_cons (pv 4) (pa_cons (pe_bltn (v := .ty "tuple") rfl T.z_tuple bt_tuple rfl) pa_nil))))) (pw_or1 (pt_cmpR op_ne (pe_callB (callK_len_seq (K := K)) rfl T.z_len bt_len (pa_cons (pv 4) pa_nil)) pe_int (nomark _))))) (pss_one (ps_ret pe_bl)) pss_nil) (pss_cons (ps_if (PW.pt (pw_or (pt_cmpR (opK_neT (K := K) (cl := c) (hu40 hr)) (pv 2) (pv 0) (nomark _)) (pw_or1 (pt_cmpR (opK_neT (K := K) (cl := c) (hu40 hr)) (pv 3) (pv 1) (nomark _))))) (pss_one (ps_ret pe_bl)) pss_nil) (pss_cons (ps_set (i := 5) sc_l_answered.nd rfl (Or.inl rfl) (pe_and (pe_own G_l_pairs hr (by decide) pass0e (pa_cons (pe_ix (ixK_tup (K := K)) (pv 4) pe_int (fun _ _ => rfl)) (pa_cons (pe_own G_l_due hr (by decide) pass0e (pa_cons (pv 0) (pa_cons (pv 1) (pa_cons pe_int pa_nil)))) pa_nil))) (pe_one (pe_own G_l_pairs hr (by decide) pass0e (pa_cons (pe_ix (ixK_tup (K := K)) (pv 4) pe_int (fun _ _ => rfl)) (pa_cons (pe_own G_l_due hr (by decide) pass0e (pa_cons (pv 0) (pa_cons (pv 1) (pa_cons pe_int pa_nil)))) pa_nil)))))) (pss_cons (ps_if (pt_val (pv 5)) (pss_cons (ps_expr (pe_bmK (K := K) PySem.F.plainAttrs_list PySem.F.slot_list_append PySem.F.type_list_append mt_append (pe_ix (ixK_tup (K := K)) (pv 4) pe_int (fun _ _ => rfl)) (pa_cons (pe_tup (pa_cons pe_int (pa_cons pe_int pa_nil))) pa_nil))) (pss_one (ps_expr (pe_bmK0 (K := K) PySem.F.plainAttrs_list PySem.F.slot_list_clear PySem.F.type_list_clear mt_clear (pe_ix (ixK_tup (K := K)) (pv 4) pe_int (fun _ _ => rfl)))))) pss_nil) (pss_one (ps_ret (pv 5)))))))))), (rf_Seq (rf_SetN (rf_nCV ok_list)) (rf_Seq (rf_SetN (rf_nCV ok_list)) (rf_Wreck (rf_aC rf_v (rf_aC rf_v rf_aN)) (rf_bOr (rf_bNot (rf_bZ rf_IsiV)) (rf_bT (rf_op ok_ne (rf_CV ok_len) rf_c))) (rf_bOr (rf_bT (rf_opVV ok_eqT)) (rf_bT (rf_opVV ok_eqT))) (rf_And (rf_Call0 (rf_aC (rf_op ok_ixT rf_v rf_c) (rf_aC (rf_Call0 (rf_aC rf_v (rf_aC rf_v (rf_aC rf_c rf_aN)))) rf_aN))) (rf_Call0 (rf_aC (rf_op ok_ixT rf_v rf_c) (rf_aC (rf_Call0 (rf_aC rf_v (rf_aC rf_v (rf_aC rf_c rf_aN)))) rf_aN)))))))⟩
def b_l_refused : SF := (sSeq (sSet 2 (eC (.str "no"))) (sSeq (sTryC d_related (aC (zN (nCV gList 0)) (aC (zN (nCV gList 1)) aN)) (hC xo_BadTurn (sSet 2 (eC (.str "turn"))) hN)) (sSeq (sIf (bZ (eB (gEq true) (eV 2) (eC (.str "turn")))) (sRet (eC (.bl false))) sNx) (sSeq (sSet 3 (eT (aC (eC (.bl false)) (aC (eC (.bl true)) aN)))) (sSeq (sTryC d_related (aC (zN (nCV gList 0)) (aC (zN (nCV gList 1)) aN)) (hAs 4 xo_CrateError (sSet 3 (eT (aC (eCB (gIsiX x1 x2) (aC (eV 4) (aC (eC (.ty "ValueError")) aN))) (aC (eCB (gIsiX x1 x2) (aC (eV 4) (aC (eC (.cls "Ring")) aN))) aN)))) hN)) (sRet (eB (gEqT false) (eV 3) (eT (aC (eC (.bl true)) (aC (eC (.bl false)) aN))))))))))
def d_l_refused : List D → Option R1 := fD 5 2 b_l_refused
theorem sc_l_refused : FnScope ["_law_wares", "_law_places", "_law_told", "_law_kinds", "e"] ["_law_wares", "_law_places"] (defScope s_l_refused) := ⟨rfl, rfl, rfl, by decide +kernel, rfl, by decide +kernel, by decide +kernel⟩
theorem ok_l_refused {f : Addr} {fd : FuncData} (F : Fun K "_law_refused" "_law_refused" s_l_refused f fd) (T : Txt K mg c) (G_related : Own P w K mg base 9 "related" ["wares", "places"] (spD K c d_related)) : FnOk P w K mg base (CXe P w) 11 f fd ["_law_wares", "_law_places"] (spD K c d_l_refused) :=
 F.okD (k := 10) sc_l_refused fun cdv A outer s H E hr => ⟨_, (pss_cons (ps_set (i := 2) sc_l_refused.nd rfl (Or.inl rfl) pe_str) (pss_cons (ps_tryC G_related hr (by decide) (fun E2 pins => (pa_cons (pe_callTy (callK_list_of (K := K)) rfl T.z_list bt_list (pa_cons (pv 0) pa_nil)) (pa_cons (pe_callTy (callK_list_of (K := K)) rfl T.z_list bt_list (pa_cons (pv 1) pa_nil)) pa_nil))) (ph_c rfl T.m_BadTurn (fun a => (pss_one (ps_set (i := 2) sc_l_refused.nd rfl (Or.inl rfl) pe_str))) ph_nil)) (pss_cons (ps_if (pt_cmpR op_ne (pv 2) pe_str (nomark _)) (pss_one (ps_ret pe_bl)) pss_nil) (pss_cons (ps_set (i := 3) sc_l_refused.nd rfl (Or.inl rfl) (pe_tup (pa_cons pe_bl (pa_cons pe_bl pa_nil)))) (pss_cons (ps_tryC G_related hr (by decide) (fun E2 pins => (pa_cons (pe_callTy (callK_list_of (K := K)) rfl T.z_list bt_list (pa_cons (pv 0) pa_nil)) (pa_cons (pe_callTy (callK_list_of (K := K)) rfl T.z_list bt_list (pa_cons (pv 1) pa_nil)) pa_nil))) (ph_as rfl T.m_CrateError sc_l_refused.nd (i := 4) rfl (fun a => (pss_one (ps_set (i := 3) sc_l_refused.nd rfl (Or.inl rfl) (pe_tup (pa_cons (pe_callB (callK_isi (K := K)) rfl T.z_isinstance bt_isinstance (pa_cons (pv 4) (pa_cons (pe_bltn (v := .ty "ValueError") rfl T.z_ValueError bt_ValueError rfl) pa_nil))) (pa_cons (pe_callB (callK_isi (K := K)) rfl T.z_isinstance bt_isinstance (pa_cons (pv 4) (pa_cons (pe_glob (v := .ref (c "Ring")) rfl T.m_Ring rfl) pa_nil))) pa_nil)))))) ph_nil)) (pss_one (ps_ret (pe_cmpR (opK_eqT (K := K) (cl := c) (hu40 hr)) (pv 3) (pe_tup (pa_cons pe_bl (pa_cons pe_bl pa_nil))) (nomark _))))))))), (rf_Seq (rf_Set rf_c) (rf_Seq (rf_TryC (rf_aC (rf_zN (rf_nCV ok_list)) (rf_aC (rf_zN (rf_nCV ok_list)) rf_aN)) (rf_hC (xo_BadTurn_ok T) (fun a => (rf_Set rf_c)) rf_hN)) (rf_Seq (rf_If' (rf_bT (rf_op ok_ne rf_v rf_c)) (rf_Ret rf_c) rf_Nx) (rf_Seq (rf_Set (rf_T (rf_aC rf_c (rf_aC rf_c rf_aN)))) (rf_Seq (rf_TryC (rf_aC (rf_zN (rf_nCV ok_list)) (rf_aC (rf_zN (rf_nCV ok_list)) rf_aN)) (rf_hAs (xo_CrateError_ok T) (fun a => (rf_Set (rf_T (rf_aC (rf_CB (ok_isiX (x1_ok T) (x2_ok T)) (rf_aC rf_v (rf_aC rf_c rf_aN))) (rf_aC (rf_CB (ok_isiX (x1_ok T) (x2_ok T)) (rf_aC rf_v (rf_aC rf_c rf_aN))) rf_aN))))) rf_hN)) (rf_Ret (rf_op ok_eqT rf_v (rf_T (rf_aC rf_c (rf_aC rf_c rf_aN))))))))))⟩
def b_law : SF := (sSeq (sSetN 1 (eL aN)) (sSeq (sSetN 2 (eL aN)) (sSeq (sForR3 (aC (eC (.int 1)) (aC (eB gSub' (eCB gMin2 (aC (eCV gLen 0) (aC (eC (.int 61)) aN))) (eC (.int 3))) (aC (eC (.int 4)) aN))) (bName 3) (sSeq (sApp 1 (eCall0 d_l_ware (aC (eBV gIxL 0 (eV 3)) (aC (eBV gIxL 0 (eB gAdd (eV 3) (eC (.int 1)))) (aC (eBV gIxL 0 (eB gAdd (eV 3) (eC (.int 3)))) aN))))) (sApp 2 (eCall0 d_l_place (aC (eBV gIxL 0 (eB gAdd (eV 3) (eC (.int 2)))) (aC (eBV gIxL 0 (eB gAdd (eV 3) (eC (.int 3)))) aN)))))) (sSeq (sSetC0 4 d_l_cell_at (aC (eV 0) (aC (eC (.int 0)) aN))) (sSeq (sIf (bAnd (bZ (eB gGt (eCV gLen 1) (eC (.int 0)))) (bZ (eB (gEq false) (eB gMod (eV 4) (eC (.int 4))) (eC (.int 1))))) (sSeq (sSet 3 (eB gMod (eB gDiv (eV 4) (eC (.int 4))) (eCV gLen 1))) (sSeq (sSub 1 (eV 3) (eT (aC (eB gIxT (eBV gIxL 1 (eV 3)) (eC (.int 0))) (aC (eB gIxT (eBV gIxL 1 (eV 3)) (eC (.int 1))) (aC (eC (.bl false)) aN))))) (sSeq (sSub 2 (eV 3) (eT (aC (eB gIxT (eBV gIxL 2 (eV 3)) (eC (.int 0))) (aC (eB gIxT (eBV gIxL 2 (eV 3)) (eC (.int 1))) (aC (eC (.bl true)) aN))))) (sSeq (sIf (bLend (bNot (bZ (eCall0 d_l_refused (aC (eV 1) (aC (eV 2) aN)))))) (sRet (eC (.bl false))) sNx) (sSub 1 (eV 3) (eT (aC (eB gIxT (eBV gIxL 1 (eV 3)) (eC (.int 0))) (aC (eB gIxT (eBV gIxL 1 (eV 3)) (eC (.int 1))) (aC (eC (.bl true)) aN))))))))) sNx) (sRet (eAnd (eCall d_l_answered (aC (eV 1) (aC (eV 2) aN))) (eCall d_l_answered (aC (eV 1) (aC (eV 2) aN))))))))))
def d_law : List D → Option R1 := fD 5 1 b_law
theorem sc_law : FnScope ["_law_script", "_law_wares", "_law_places", "_law_k", "_law_odd"] ["_law_script"] (defScope s_law) := ⟨rfl, rfl, rfl, by decide +kernel, rfl, by decide +kernel, by decide +kernel⟩
theorem ok_law0 {f : Addr} {fd : FuncData} (F : Fun K "law" "law" s_law f fd) (T : Txt K mg c) (G_l_ware : Own P w K mg base 5 "_law_ware" ["_law_a", "_law_b", "_law_d"] (spD K c d_l_ware)) (G_l_place : Own P w K mg base 5 "_law_place" ["_law_c", "_law_d"] (spD K c d_l_place)) (G_l_cell_at : Own P w K mg base 3 "_law_cell_at" ["_law_script", "_law_k"] (spD K c d_l_cell_at)) (G_l_refused : Own P w K mg base 11 "_law_refused" ["_law_wares", "_law_places"] (spD K c d_l_refused)) (G_l_answered : Own P w K mg base 11 "_law_answered" ["_law_wares", "_law_places"] (spD K c d_l_answered)) : FnOk P w K mg base (CXe P w) 13 f fd ["_law_script"] (spD K c d_law) :=
 F.okD (k := 12) sc_law fun cdv A outer s H E hr => ⟨_, (pss_cons (ps_set (i := 1) sc_law.nd rfl (Or.inl rfl) (pe_lst pa_nil)) (pss_cons (ps_set (i := 2) sc_law.nd rfl (Or.inl rfl) (pe_lst pa_nil)) (pss_cons (ps_for PassesOwn.leaving rfl (pi_range3 rfl T.z_range (pa_cons pe_int (pa_cons (pe_op op_sub (pe_callB (call_min2 rfl) rfl T.z_min bt_min (pa_cons (pe_callB (callK_len_seq (K := K)) rfl T.z_len bt_len (pa_cons (pv 0) pa_nil)) (pa_cons pe_int pa_nil))) pe_int) (pa_cons pe_int pa_nil)))) (pg_name (i := 3) sc_law.nd rfl (Or.inl rfl)) (pss_cons (ps_expr (pe_bmK (K := K) PySem.F.plainAttrs_list PySem.F.slot_list_append PySem.F.type_list_append mt_append (pv 1) (pa_cons (pe_own G_l_ware hr (by decide) pass0e (pa_cons (pe_ix (ixK_list (K := K)) (pv 0) (pv 3) (fun _ _ => rfl)) (pa_cons (pe_ix (ixK_list (K := K)) (pv 0) (pe_op op_add (pv 3) pe_int) (fun _ _ => rfl)) (pa_cons (pe_ix (ixK_list (K := K)) (pv 0) (pe_op op_add (pv 3) pe_int) (fun _ _ => rfl)) pa_nil)))) pa_nil))) (pss_one (ps_expr (pe_bmK (K := K) PySem.F.plainAttrs_list PySem.F.slot_list_append PySem.F.type_list_append mt_append (pv 2) (pa_cons (pe_own G_l_place hr (by decide) pass0e (pa_cons (pe_ix (ixK_list (K := K)) (pv 0) (pe_op op_add (pv 3) pe_int) (fun _ _ => rfl)) (pa_cons (pe_ix (ixK_list (K := K)) (pv 0) (pe_op op_add (pv 3) pe_int) (fun _ _ => rfl)) pa_nil))) pa_nil)))))) (pss_cons (ps_set (i := 4) sc_law.nd rfl (Or.inl rfl) (pe_own G_l_cell_at hr (by decide) pass0e (pa_cons (pv 0) (pa_cons pe_int pa_nil)))) (pss_cons (ps_if (PW.pt (pw_and (pt_cmpR op_gt (pe_callB (callK_len_seq (K := K)) rfl T.z_len bt_len (pa_cons (pv 1) pa_nil)) pe_int (nomark _)) (pw_and1 (pt_cmpR op_eq (pe_op op_mod (pv 4) pe_int) pe_int (nomark _))))) (pss_cons (ps_set (i := 3) sc_law.nd rfl (Or.inl rfl) (pe_op op_mod (pe_op op_fdivB (pv 4) pe_int) (pe_callB (callK_len_seq (K := K)) rfl T.z_len bt_len (pa_cons (pv 1) pa_nil)))) (pss_cons (ps_asg (pe_tup (pa_cons (pe_ix (ixK_tup (K := K)) (pe_ix (ixK_list (K := K)) (pv 1) (pv 3) (fun _ _ => rfl)) pe_int (fun _ _ => rfl)) (pa_cons (pe_ix (ixK_tup (K := K)) (pe_ix (ixK_list (K := K)) (pv 1) (pv 3) (fun _ _ => rfl)) pe_int (fun _ _ => rfl)) (pa_cons pe_bl pa_nil)))) (pg_sub (pv 1) (pv 3) set_list)) (pss_cons (ps_asg (pe_tup (pa_cons (pe_ix (ixK_tup (K := K)) (pe_ix (ixK_list (K := K)) (pv 2) (pv 3) (fun _ _ => rfl)) pe_int (fun _ _ => rfl)) (pa_cons (pe_ix (ixK_tup (K := K)) (pe_ix (ixK_list (K := K)) (pv 2) (pv 3) (fun _ _ => rfl)) pe_int (fun _ _ => rfl)) (pa_cons pe_bl pa_nil)))) (pg_sub (pv 2) (pv 3) set_list)) (pss_cons (ps_if (pt_not (pt_val (pe_own G_l_refused hr (by decide) pass0e (pa_cons (pv 1) (pa_cons (pv 2) pa_nil))))) (pss_one (ps_ret pe_bl)) pss_nil) (pss_one (ps_asg (pe_tup (pa_cons (pe_ix (ixK_tup (K := K)) (pe_ix (ixK_list (K := K)) (pv 1) (pv 3) (fun _ _ => rfl)) pe_int (fun _ _ => rfl)) (pa_cons (pe_ix (ixK_tup (K := K)) (pe_ix (ixK_list (K := K)) (pv 1) (pv 3) (fun _ _ => rfl)) pe_int (fun _ _ => rfl)) (pa_cons pe_bl pa_nil)))) (pg_sub (pv 1) (pv 3) set_list))))))) pss_nil) (pss_one (ps_ret (pe_and (pe_own G_l_answered hr (by decide) (XAcc.passes acc_def) (pa_cons (pv 1) (pa_cons (pv 2) pa_nil))) (pe_one (pe_own G_l_answered hr (by decide) (XAcc.passes acc_def) (pa_cons (pv 1) (pa_cons (pv 2) pa_nil)))))))))))), (rf_Seq (rf_SetN (rf_L rf_aN)) (rf_Seq (rf_SetN (rf_L rf_aN)) (rf_Seq (rf_ForR3 (rf_aC rf_c (rf_aC (rf_op ok_sub (rf_CB ok_min2 (rf_aC (rf_CV ok_len) (rf_aC rf_c rf_aN))) rf_c) (rf_aC rf_c rf_aN))) (rf_gName (k := 5) (by decide)) (rf_Seq (rf_App (rf_Call0 (rf_aC (rf_opV ok_ixL rf_v) (rf_aC (rf_opV ok_ixL (rf_op ok_add rf_v rf_c)) (rf_aC (rf_opV ok_ixL (rf_op ok_add rf_v rf_c)) rf_aN))))) (rf_App (rf_Call0 (rf_aC (rf_opV ok_ixL (rf_op ok_add rf_v rf_c)) (rf_aC (rf_opV ok_ixL (rf_op ok_add rf_v rf_c)) rf_aN)))))) (rf_Seq (rf_SetC0 (rf_aC rf_v (rf_aC rf_c rf_aN))) (rf_Seq (rf_If' (rf_bAnd (rf_bT (rf_op ok_gt (rf_CV ok_len) rf_c)) (rf_bT (rf_op ok_eq (rf_op ok_mod rf_v rf_c) rf_c))) (rf_Seq (rf_Set (rf_op ok_mod (rf_op ok_div rf_v rf_c) (rf_CV ok_len))) (rf_Seq (rf_Sub (rf_T (rf_aC (rf_op ok_ixT (rf_opV ok_ixL rf_v) rf_c) (rf_aC (rf_op ok_ixT (rf_opV ok_ixL rf_v) rf_c) (rf_aC rf_c rf_aN)))) rf_v) (rf_Seq (rf_Sub (rf_T (rf_aC (rf_op ok_ixT (rf_opV ok_ixL rf_v) rf_c) (rf_aC (rf_op ok_ixT (rf_opV ok_ixL rf_v) rf_c) (rf_aC rf_c rf_aN)))) rf_v) (rf_Seq (rf_If' (rf_bLend (rf_bNot (rf_bZ (rf_Call0 (rf_aC rf_v (rf_aC rf_v rf_aN)))))) (rf_Ret rf_c) rf_Nx) (rf_Sub (rf_T (rf_aC (rf_op ok_ixT (rf_opV ok_ixL rf_v) rf_c) (rf_aC (rf_op ok_ixT (rf_opV ok_ixL rf_v) rf_c) (rf_aC rf_c rf_aN)))) rf_v))))) rf_Nx) (rf_Ret (rf_And (rf_Call (rf_aC rf_v (rf_aC rf_v rf_aN))) (rf_Call (rf_aC rf_v (rf_aC rf_v rf_aN))))))))))⟩
end Law
namespace Law
open PySem L2 PyProof.Rows
variable {P : Program} {w : World} {K : PySem.W.Frag} {mg : Str → Option Value} {base : Heap} {c : Str → Addr}
local macro_rules | `(tactic| walk_at "ev") => `(tactic| simp (decide := true) only [fD_eq, sSeq_eq, seqR_nx, seqR_rt, seqR_ro, seqR_rz, seqR_ex, seqR_bk, seqR_ct, seqR_no, seqR_ite, opt_ite, toZ_ret, toZ_own, toZ_ex, toZ0_ret, toZ0_own, toSet_ret, toSet_own, toSet_ex, toSet0_ret, toSet0_own, toRet_ret, toRet_own, toRet_owz, toRet_ex, toRet0_ret, toRet0_own, finR_nx, finR_rt, finR_ro, finR_rz, finR_ex, finR_ite, forK_nx, forK_ct, forK_bk, forK_rt, forK_ro, forK_rz, forK_ex, forD_nil, forD_step, optR_some, nxOf_nx, nxOf_ct, nxOf_rt, nxOf_ex, nxOf_ro, nxOf_rz, optB_some, compD_nil, compD_cons, compE, capS, nCompR, nCompZ, seq2, bLend_eq, bLd_ok, bLd_ex, zLend_eq, zLd_ok, zLd_ex, frzE, frzS_no, frzS_fz, frzS_ow, frzS_hd, noL, noLs, sForEV, unhide, sTryAs_eq, tryR_nx, tryR_ex, tryR_rt, tryR_ro, susR_nx, susR_rt, susR_ro, eqDs, eqD, gEqT, eqB, eqBs, plainD, plainDs, depD, depDs, seqD?, Nat.max_self, Nat.zero_max, Nat.max_zero, decide_true, Bool.or_true, Bool.true_or, Bool.or_false, List.isEmpty_nil, gMin2, List.any_cons, List.any_nil, flatD, List.all_cons, List.all_nil, Bool.and_self, Bool.and_true, Bool.true_and, beq_self_eq_true, gAdd_eq, gSub_eq, gLt_eq, gLe_eq, gGt_eq, gMul_l, gDiv_eq, gMod_eq, gPow_eq, sIf, sSet, sSetN, sSetC, sSetC0, sRet, sRetN, sRetV, sRetZN, sWreck, sNx, sAsg, sRaise, sApp, sSub, sForR, sForR3, put_eq, okS_some, okS_none, notHd_no, notHd_fz, notHd_ow, notHd_hd, notHd_un, frzS_un, noHd_nil, noHd_cons, eC, eV, eB, eBV, eBVV, eT, eL, zN, aN, aC, eCall, eCall0, eNot, eAnd, eCB, eCV, nCV, g1, gLen, gList, bZ, bNot, bAnd, bOr, bTrue, bName_eq, bTup, bEach, bnd_ok, bnd_ex, bnd_no, sbn_ok, sbn_ex, sbn_no, opt_some, opt_none, look, gIxT, gIxL, gEq_int, gEq_str, eIsiV, gIsi_eq, gIsiV, tyN, seqL, atI_0, atI_1, atI_2, List.map_cons, List.map_nil, List.length_cons, List.length_nil, List.cons_append, List.nil_append, List.replicate_succ, List.replicate_zero, List.getElem?_cons_zero, List.getElem?_cons_succ, List.set_cons_zero, List.set_cons_succ, Nat.reduceAdd, Nat.reduceSub, if_true, if_false, Bool.not_true, Bool.not_false, Bool.not_not, Nat.zero_add, Bool.false_eq_true, decide_eq_true_eq, Bool.not_eq_true', decide_eq_false_iff_not, Option.map_some, Option.map_none, ite_self, xo_BadTurn, xo_CrateError])
local macro_rules | `(tactic| walk_at "eh") => `(tactic| simp (decide := true) only [fD_eq, sSeq_eq, seqR_nx, seqR_rt, seqR_ro, seqR_rz, seqR_ex, seqR_bk, seqR_ct, seqR_no, seqR_ite, opt_ite, toZ_ret, toZ_own, toZ_ex, toZ0_ret, toZ0_own, toSet_ret, toSet_own, toSet_ex, toSet0_ret, toSet0_own, toRet_ret, toRet_own, toRet_owz, toRet_ex, toRet0_ret, toRet0_own, finR_nx, finR_rt, finR_ro, finR_rz, finR_ex, finR_ite, forK_nx, forK_ct, forK_bk, forK_rt, forK_ro, forK_rz, forK_ex, forD_nil, forD_step, optR_some, nxOf_nx, nxOf_ct, nxOf_rt, nxOf_ex, nxOf_ro, nxOf_rz, optB_some, compD_nil, compD_cons, compE, capS, nCompR, nCompZ, seq2, bLend_eq, bLd_ok, bLd_ex, zLend_eq, zLd_ok, zLd_ex, frzE, frzS_no, frzS_fz, frzS_ow, frzS_hd, noL, noLs, sForEV, unhide, sTryAs_eq, tryR_nx, tryR_ex, tryR_rt, tryR_ro, susR_nx, susR_rt, susR_ro, eqDs, eqD, gEqT, eqB, eqBs, plainD, plainDs, depD, depDs, seqD?, Nat.max_self, Nat.zero_max, Nat.max_zero, decide_true, Bool.or_true, Bool.true_or, Bool.or_false, List.isEmpty_nil, gMin2, List.any_cons, List.any_nil, flatD, List.all_cons, List.all_nil, Bool.and_self, Bool.and_true, Bool.true_and, beq_self_eq_true, gAdd_eq, gSub_eq, gLt_eq, gLe_eq, gGt_eq, gMul_l, gDiv_eq, gMod_eq, gPow_eq, sIf, sSet, sSetN, sSetC, sSetC0, sRet, sRetN, sRetV, sRetZN, sWreck, sNx, sAsg, sRaise, sApp, sSub, sForR, sForR3, put_eq, okS_some, okS_none, notHd_no, notHd_fz, notHd_ow, notHd_hd, notHd_un, frzS_un, noHd_nil, noHd_cons, eC, eV, eB, eBV, eBVV, eT, eL, zN, aN, aC, eCall, eCall0, eNot, eAnd, eCB, eCV, nCV, g1, gLen, gList, bZ, bNot, bAnd, bOr, bTrue, bName_eq, bTup, bEach, bnd_ok, bnd_ex, bnd_no, sbn_ok, sbn_ex, sbn_no, opt_some, opt_none, look, gIxT, gIxL, gEq_int, gEq_str, eIsiV, gIsi_eq, gIsiV, tyN, seqL, atI_0, atI_1, atI_2, List.map_cons, List.map_nil, List.length_cons, List.length_nil, List.cons_append, List.nil_append, List.replicate_succ, List.replicate_zero, List.getElem?_cons_zero, List.getElem?_cons_succ, List.set_cons_zero, List.set_cons_succ, Nat.reduceAdd, Nat.reduceSub, if_true, if_false, Bool.not_true, Bool.not_false, Bool.not_not, Nat.zero_add, Bool.false_eq_true, decide_eq_true_eq, Bool.not_eq_true', decide_eq_false_iff_not, Option.map_some, Option.map_none, ite_self, xo_BadTurn, xo_CrateError, *])
theorem forR_eq {rg : List D → Option (Int × Nat)} {f : AF} {b : GF} {body : SF} {e e1 : DE} {ds : List D} {lo : Int} {n : Nat} (h : f e = some (.ok ds e1)) (hr : rg ds = some (lo, n)) : sForR rg f b body e = forD b body (rngD lo n) e1 := by
 unfold sForR; rw [h, sbn_ok, hr]
abbrev Pr := Nat × Nat
abbrev prD (p : Pr) : D := .tup [.int (p.1 : Int), .int (p.2 : Int)]
def fl (n : Nat) (f : Nat → D) : List D := (List.range n).map f
theorem fl_len (n : Nat) (f : Nat → D) : (fl n f).length = n := by unfold fl; rw [List.length_map, List.length_range]
theorem fl_get {n : Nat} {f : Nat → D} {k : Nat} (h : k < n) : (fl n f)[k]? = some (f k) := by
 unfold fl; rw [List.getElem?_map, List.getElem?_range h]; rfl
theorem fl_at {n : Nat} {f : Nat → D} {k : Nat} (h : k < n) : atI (fl n f) (k : Int) = some (f k) := atI_natD (fl_get h)
theorem fl_ix {n : Nat} {f : Nat → D} {k : Nat} (h : k < n) : ixN (fl n f).length (k : Int) = some k := ixN_nat (by rw [fl_len]; exact h)
theorem fl_set {n : Nat} {f : Nat → D} (k : Nat) (v : D) : (fl n f).set k v = fl n (fun i => if i = k then v else f i) := by
 apply List.ext_getElem?
 intro i
 by_cases hi : i < n
 ·rw [fl_get hi, List.getElem?_set]
  by_cases z : k = i
  ·subst z; rw [if_pos rfl, if_pos (by rw [fl_len]; exact hi), if_pos rfl]
  ·rw [if_neg z, fl_get hi, if_neg (Ne.symm z)]
 ·rw [List.getElem?_eq_none (by rw [List.length_set, fl_len]; omega), List.getElem?_eq_none (by rw [fl_len]; omega)]
theorem fl_congr {n : Nat} {f g : Nat → D} (h : ∀ k, k < n → f k = g k) : fl n f = fl n g := List.map_congr_left fun k m => h k (List.mem_range.mp m)
abbrev wareD (w h : Int) (t : Bool) : D := .tup [.int w, .int h, .bl t]
theorem sides_ok (w h : Int) (t l : Bool) : d_sides_of [wareD w h t, .bl l] = if (l && !t) = true then some (.ex "BadTurn") else some (.ret (.tup [.int (if l then h else w), .int (if l then w else h)])) := by
 unfold d_sides_of b_sides_of wareD
 cases l <;> cases t <;> (walk_at "ev"; try rfl)
structure Wr where
 w : Nat → Int
 h : Nat → Int
 t : Nat → Bool
 l : Nat → Bool
abbrev Wr.wares (W : Wr) (n : Nat) : List D := fl n fun k => wareD (W.w k) (W.h k) (W.t k)
def Wr.bad (W : Wr) (k : Nat) : Bool := W.l k && !W.t k
def Wr.a (W : Wr) (k : Nat) : Int := if W.l k then W.h k else W.w k
def Wr.u (W : Wr) (k : Nat) : Int := if W.l k then W.w k else W.h k
abbrev placeD (x y : Int) (l : Bool) : D := .tup [.int x, .int y, .bl l]
structure Sp4 where
 x : Nat → Int
 y : Nat → Int
 r : Nat → Int
 t : Nat → Int
abbrev Sp4.d (s : Sp4) (k : Nat) : D := .tup [.int (s.x k), .int (s.y k), .int (s.r k), .int (s.t k)]
def spot (W : Wr) (x y : Nat → Int) : Sp4 := ⟨x, y, fun k => x k + W.a k, fun k => y k + W.u k⟩
abbrev PL (W : Wr) (n : Nat) (x y : Nat → Int) : List D := fl n fun k => placeD (x k) (y k) (W.l k)
theorem spot_g (SI : List D → Option R1) (W : D) (x y a u : Int) (l : Bool) (h : SI [W, .bl l] = some (.ret (.tup [.int a, .int u]))) : fD 7 2 (sSeq (sAsg (eV 1) (bTup [(bName 2), (bName 3), (bName 4)])) (sSeq (sAsg (eCall SI (aC (eV 0) (aC (eV 4) aN))) (bTup [(bName 5), (bName 6)])) (sRet (eT (aC (eV 2) (aC (eV 3) (aC (eB gAdd (eV 2) (eV 5)) (aC (eB gAdd (eV 3) (eV 6)) aN)))))))) [W, placeD x y l] = some (.ret (.tup [.int x, .int y, .int (x + a), .int (y + u)])) := by
 unfold placeD
 walk_at "eh"
theorem spot_x (SI : List D → Option R1) (W : D) (x y : Int) (l : Bool) (c : Str) (h : SI [W, .bl l] = some (.ex c)) : fD 7 2 (sSeq (sAsg (eV 1) (bTup [(bName 2), (bName 3), (bName 4)])) (sSeq (sAsg (eCall SI (aC (eV 0) (aC (eV 4) aN))) (bTup [(bName 5), (bName 6)])) (sRet (eT (aC (eV 2) (aC (eV 3) (aC (eB gAdd (eV 2) (eV 5)) (aC (eB gAdd (eV 3) (eV 6)) aN)))))))) [W, placeD x y l] = some (.ex c) := by
 unfold placeD
 walk_at "eh"
theorem spot_of_ok (W : Wr) (x y : Nat → Int) (k : Nat) : d_spot_of [wareD (W.w k) (W.h k) (W.t k), placeD (x k) (y k) (W.l k)] = if W.bad k = true then some (.ex "BadTurn") else some (.ret ((spot W x y).d k)) := by
 have h := sides_ok (W.w k) (W.h k) (W.t k) (W.l k)
 unfold Wr.bad
 by_cases q : (W.l k && !W.t k) = true
 ·rw [if_pos q] at h ⊢
  exact spot_x d_sides_of _ _ _ _ _ h
 ·rw [if_neg q] at h ⊢
  exact spot_g d_sides_of _ _ _ _ _ _ h
theorem spots_of_ok (W : Wr) (n : Nat) (hn : n ≤ 1000) (x y : Nat → Int) : d_spots_of [.lst (W.wares n), .lst (PL W n x y)] = if (List.range n).any W.bad = true then some (.ex "BadTurn") else some (.own (fl n (spot W x y).d)) := by
 have key := comp_ex (b := bTup [(bName 0), (bName 1)]) (el := eCall d_spot_of (aC (eV 0) (aC (eV 1) aN))) (ec := [.no, .no]) (eo := [.fz (.lst (W.wares n)), .fz (.lst (PL W n x y))]) (cx := "BadTurn") (fun k : Nat => D.tup [wareD (W.w k) (W.h k) (W.t k), placeD (x k) (y k) (W.l k)]) (spot W x y).d W.bad (List.range n) [] (by rw [List.length_range]; show 0 + _ ≤ 2 ^ 24; omega) (fun k _ => by
  have hs := spot_of_ok W x y k
  refine ⟨[.fz (wareD (W.w k) (W.h k) (W.t k)), .fz (placeD (x k) (y k) (W.l k))], rfl, ?_⟩
  by_cases q : W.bad k = true
  ·rw [if_pos q] at hs ⊢
   clear q
   generalize wareD (W.w k) (W.h k) (W.t k) = wd at *
   generalize placeD (x k) (y k) (W.l k) = pd at *
   walk_at "eh"
  ·rw [if_neg q] at hs ⊢
   clear q
   generalize wareD (W.w k) (W.h k) (W.t k) = wd at *
   generalize placeD (x k) (y k) (W.l k) = pd at *
   generalize (spot W x y).d k = sd at *
   walk_at "eh"
   exact ⟨_, rfl⟩)
 rw [List.nil_append] at key
 unfold d_spots_of b_spots_of
 rw [fD_eq (m := 2) rfl]
 show finR (sbn (compD _ _ _ [.no, .no] [.fz (.lst (W.wares n)), .fz (.lst (PL W n x y))] (zipD (W.wares n) (PL W n x y)) []) _) = _
 have e : zipD (W.wares n) (PL W n x y) = (List.range n).map fun k : Nat => D.tup [wareD (W.w k) (W.h k) (W.t k), placeD (x k) (y k) (W.l k)] := zipD_same _ _ _
 rw [e, key]
 split
 ·rfl
 ·rfl
def ordP (n : Nat) (e b : Nat → Int) : List Pr := ((List.range n).flatMap fun i => ((List.range n).filter fun j => decide (i ≠ j ∧ e i ≤ b j)).map fun j => (i, j))
abbrev poI (gix : D → D → Option D) : SF := (sIf (bAnd (bZ (eB (gEq true) (eV 4) (eV 6))) (bZ (eB gLe (eB gix (eV 5) (eV 1)) (eB gix (eV 7) (eV 2))))) (sApp 3 (eT (aC (eV 4) (aC (eV 6) aN)))) sNx)
theorem po_step (gix : D → D → Option D) (S ke kb oi oj : D) (acc : List D) (i j : Nat) (ei bj : Int) (o6 o7 : Option D) (g1 : gix oi ke = some (.int ei)) (g2 : gix oj kb = some (.int bj)) (hs : acc.length < sizeLine) :
  nxOf (optR (bTup [(bName 6), (bName 7)] (.tup [.int (j : Int), oj]) [.fz S, .fz ke, .fz kb, .ow acc, .fz (.int (i : Int)), .fz oi, un o6, un o7]) (poI gix)) = some (.nx [.fz S, .fz ke, .fz kb, .ow (if i ≠ j ∧ ei ≤ bj then acc ++ [.tup [.int (i : Int), .int (j : Int)]] else acc), .fz (.int (i : Int)), .fz oi, .fz (.int (j : Int)), .fz oj]) := by
 unfold poI
 by_cases q : i = j
 ·subst q
  rw [if_neg (fun h => h.1 rfl)]
  walk_at "eh"
 ·have q' : ((i : Int) = (j : Int)) ↔ False := iff_false_intro (by omega)
  by_cases c : ei ≤ bj
  ·rw [if_pos ⟨q, c⟩]
   clear q
   walk_at "eh"
  ·rw [if_neg (fun h => c h.2)]
   clear q
   walk_at "eh"
theorem po_row (gix : D → D → Option D) (n : Nat) (hn : n ≤ 60) (dd : Nat → D) (ke kb : D) (e b : Nat → Int) (g1 : ∀ k, gix (dd k) ke = some (.int (e k))) (g2 : ∀ k, gix (dd k) kb = some (.int (b k))) (acc : List Pr) (ha : acc.length ≤ 3600) (i : Nat) (o4 o5 o6 o7 : Option D) : ∃ o6' o7' : Option D, nxOf (optR (bTup [(bName 4), (bName 5)] (.tup [.int (i : Int), dd i]) [.fz (.lst (fl n dd)), .fz ke, .fz kb, .ow (acc.map prD), un o4, un o5, un o6, un o7]) (sForEV 0 (bTup [(bName 6), (bName 7)]) (poI gix))) = some (.nx [.fz (.lst (fl n dd)), .fz ke, .fz kb, .ow ((acc ++ ((List.range n).filter fun j => decide (i ≠ j ∧ e i ≤ b j)).map fun j => (i, j)).map prD), .fz (.int (i : Int)), .fz (dd i), un o6', un o7']) := by
 have h3 : bTup [(bName 4), (bName 5)] (.tup [.int (i : Int), dd i]) [.fz (.lst (fl n dd)), .fz ke, .fz kb, .ow (acc.map prD), un o4, un o5, un o6, un o7] = some [.fz (.lst (fl n dd)), .fz ke, .fz kb, .ow (acc.map prD), .fz (.int (i : Int)), .fz (dd i), un o6, un o7] := by
  generalize fl n dd = A
  generalize acc.map prD = B
  walk_at "ev"
 rw [h3, optR_some]
 obtain ⟨e', k1, o6', o7', rfl⟩ := for_run (b := bTup [(bName 6), (bName 7)]) (body := poI gix) (fun k (j : Nat) => .tup [.int (k : Nat), dd j]) (fun pre env => ∃ o6 o7, env = [.fz (.lst (fl n dd)), .fz ke, .fz kb, .ow ((acc ++ (pre.filter fun j => decide (i ≠ j ∧ e i ≤ b j)).map fun j => (i, j)).map prD), .fz (.int (i : Int)), .fz (dd i), un o6, un o7]) (List.range n) [.fz (.lst (fl n dd)), .fz ke, .fz kb, .ow (acc.map prD), .fz (.int (i : Int)), .fz (dd i), un o6, un o7] ⟨o6, o7, by simp⟩ (by
  rintro pre j post env hq ⟨o6, o7, rfl⟩
  have hpi : pre.length = j := by
   have := congrArg (fun l => l[pre.length]?) hq
   simp only [List.getElem?_append_right (Nat.le_refl _), Nat.sub_self, List.getElem?_cons_zero] at this
   obtain ⟨_, h3⟩ := List.getElem?_eq_some_iff.mp this
   rw [List.getElem_range] at h3
   exact h3
  have hl := congrArg List.length hq
  rw [List.length_range, List.length_append] at hl
  have hlen : ((acc ++ (pre.filter fun j => decide (i ≠ j ∧ e i ≤ b j)).map fun j => (i, j)).map prD).length < sizeLine := by
   rw [List.length_map, List.length_append, List.length_map]
   have := List.length_filter_le (fun j => decide (i ≠ j ∧ e i ≤ b j)) pre
   show _ < 2 ^ 24
   omega
  refine ⟨_, (by rw [hpi]; exact po_step gix (.lst (fl n dd)) ke kb (dd i) (dd j) _ i j (e i) (b j) o6 o7 (g1 i) (g2 j) hlen), some (.int (j : Int)), some (dd j), ?_⟩
  rw [List.filter_append]
  by_cases c : i ≠ j ∧ e i ≤ b j
  ·rw [if_pos c, List.filter_cons_of_pos (by simpa using c), List.filter_nil]
   simp only [List.map_append, List.append_assoc]
   rfl
  ·rw [if_neg c, List.filter_cons_of_neg (by simpa using c), List.filter_nil, List.append_nil]
   rfl)
 refine ⟨o6', o7', ?_⟩
 have e2 : sForEV 0 (bTup [(bName 6), (bName 7)]) (poI gix) [.fz (.lst (fl n dd)), .fz ke, .fz kb, .ow (acc.map prD), .fz (.int (i : Int)), .fz (dd i), un o6, un o7] = forD (bTup [(bName 6), (bName 7)]) (poI gix) (mapI (fun k (j : Nat) => .tup [.int (k : Nat), dd j]) 0 (List.range n)) [.fz (.lst (fl n dd)), .fz ke, .fz kb, .ow (acc.map prD), .fz (.int (i : Int)), .fz (dd i), un o6, un o7] := by
  rw [← mapI_en dd 0 (List.range n)]; rfl
 rw [e2, k1]
 rfl
theorem flat_len (n : Nat) (e b : Nat → Int) (l : List Nat) : (l.flatMap fun i => ((List.range n).filter fun j => decide (i ≠ j ∧ e i ≤ b j)).map fun j => (i, j)).length ≤ l.length * n := by
 induction l with
 | nil => simp
 | cons a l ih =>
  rw [List.flatMap_cons, List.length_append, List.length_map, List.length_cons, Nat.add_mul]
  have := List.length_filter_le (fun j => decide (a ≠ j ∧ e a ≤ b j)) (List.range n)
  rw [List.length_range] at this
  omega
theorem po_g (gix : D → D → Option D) (n : Nat) (hn : n ≤ 30) (dd : Nat → D) (ke kb : D) (e b : Nat → Int) (g1 : ∀ k, gix (dd k) ke = some (.int (e k))) (g2 : ∀ k, gix (dd k) kb = some (.int (b k))) : fD 8 3 (sSeq (sSetN 3 (eL aN)) (sSeq (sForEV 0 (bTup [(bName 4), (bName 5)]) (sForEV 0 (bTup [(bName 6), (bName 7)]) (poI gix))) (sRetV 3))) [.lst (fl n dd), ke, kb] = some (.own ((ordP n e b).map prD)) := by
 have x2 : ∃ o4 o5 o6 o7 : Option D, sForEV 0 (bTup [(bName 4), (bName 5)]) (sForEV 0 (bTup [(bName 6), (bName 7)]) (poI gix)) [.fz (.lst (fl n dd)), .fz ke, .fz kb, .ow [], .no, .no, .no, .no] = some (.nx [.fz (.lst (fl n dd)), .fz ke, .fz kb, .ow ((ordP n e b).map prD), un o4, un o5, un o6, un o7]) := by
  obtain ⟨e', k1, o4, o5, o6, o7, rfl⟩ := for_run (b := bTup [(bName 4), (bName 5)]) (body := sForEV 0 (bTup [(bName 6), (bName 7)]) (poI gix)) (fun k (j : Nat) => .tup [.int (k : Nat), dd j]) (fun pre env => ∃ o4 o5 o6 o7, env = [.fz (.lst (fl n dd)), .fz ke, .fz kb, .ow ((pre.flatMap fun i => ((List.range n).filter fun j => decide (i ≠ j ∧ e i ≤ b j)).map fun j => (i, j)).map prD), un o4, un o5, un o6, un o7]) (List.range n) [.fz (.lst (fl n dd)), .fz ke, .fz kb, .ow [], .no, .no, .no, .no] ⟨none, none, none, none, rfl⟩ (by
   rintro pre i post env hq ⟨o4, o5, o6, o7, rfl⟩
   have hpi : pre.length = i := by
    have := congrArg (fun l => l[pre.length]?) hq
    simp only [List.getElem?_append_right (Nat.le_refl _), Nat.sub_self, List.getElem?_cons_zero] at this
    obtain ⟨_, h3⟩ := List.getElem?_eq_some_iff.mp this
    rw [List.getElem_range] at h3
    exact h3
   have hl := congrArg List.length hq
   rw [List.length_range, List.length_append] at hl
   have hlen : (pre.flatMap fun i => ((List.range n).filter fun j => decide (i ≠ j ∧ e i ≤ b j)).map fun j => (i, j)).length ≤ 3600 := by
    have h1 := flat_len n e b pre
    have h2 : pre.length * n ≤ 30 * 30 := Nat.mul_le_mul (by omega) hn
    omega
   obtain ⟨o6', o7', k⟩ := po_row gix n (by omega) dd ke kb e b g1 g2 _ hlen i o4 o5 o6 o7
   refine ⟨_, by rw [hpi]; exact k, some (.int (i : Int)), some (dd i), o6', o7', ?_⟩
   rw [List.flatMap_append, List.flatMap_cons, List.flatMap_nil, List.append_nil]
   rfl)
  refine ⟨o4, o5, o6, o7, ?_⟩
  have e2 : sForEV 0 (bTup [(bName 4), (bName 5)]) (sForEV 0 (bTup [(bName 6), (bName 7)]) (poI gix)) [.fz (.lst (fl n dd)), .fz ke, .fz kb, .ow [], .no, .no, .no, .no] = forD (bTup [(bName 4), (bName 5)]) (sForEV 0 (bTup [(bName 6), (bName 7)]) (poI gix)) (mapI (fun k (j : Nat) => .tup [.int (k : Nat), dd j]) 0 (List.range n)) [.fz (.lst (fl n dd)), .fz ke, .fz kb, .ow [], .no, .no, .no, .no] := by
   rw [← mapI_en dd 0 (List.range n)]; rfl
  rw [e2]
  exact k1
 obtain ⟨o4, o5, o6, o7, x2⟩ := x2
 rw [fD_eq (m := 3) rfl]
 show finR (sSeq _ _ [.fz (.lst (fl n dd)), .fz ke, .fz kb, .no, .no, .no, .no, .no]) = _
 have x1 : (sSetN 3 (eL aN)) [.fz (.lst (fl n dd)), .fz ke, .fz kb, .no, .no, .no, .no, .no] = some (.nx [.fz (.lst (fl n dd)), .fz ke, .fz kb, .ow [], .no, .no, .no, .no]) := rfl
 rw [sSeq_eq, x1, seqR_nx, sSeq_eq, x2, seqR_nx]
 rfl
theorem ordP_len (n : Nat) (hn : n ≤ 30) (e b : Nat → Int) : (ordP n e b).length ≤ 900 := by
 have h1 := flat_len n e b (List.range n)
 rw [List.length_range] at h1
 have h2 : n * n ≤ 30 * 30 := Nat.mul_le_mul hn hn
 unfold ordP
 omega
theorem po_x (s : Sp4) (n : Nat) (hn : n ≤ 30) : d_pairs_in_order [.lst (fl n s.d), .int 2, .int 0] = some (.own ((ordP n s.r s.x).map prD)) :=
 po_g gIxT n hn s.d (.int 2) (.int 0) s.r s.x (fun _ => rfl) (fun _ => rfl)
theorem po_y (s : Sp4) (n : Nat) (hn : n ≤ 30) : d_pairs_in_order [.lst (fl n s.d), .int 3, .int 1] = some (.own ((ordP n s.t s.y).map prD)) :=
 po_g gIxT n hn s.d (.int 3) (.int 1) s.t s.y (fun _ => rfl) (fun _ => rfl)
theorem rel_x (SP PO : List D → Option R1) (W P : D) (c : Str) (h1 : SP [W, P] = some (.ex c)) : fD 3 2 (sSeq (sSetC 2 SP (aC (eV 0) (aC (eV 1) aN))) (sRetZN (nCall0 PO (aC (eV 2) (aC (eC (.int 2)) (aC (eC (.int 0)) aN)))) (nCall0 PO (aC (eV 2) (aC (eC (.int 3)) (aC (eC (.int 1)) aN)))))) [W, P] = some (.ex c) := by
 walk_at "eh"
theorem rel_g (SP PO : List D → Option R1) (W P : D) (S A B : List D) (h1 : SP [W, P] = some (.own S)) (h2 : PO [.lst S, .int 2, .int 0] = some (.own A)) (h3 : PO [.lst S, .int 3, .int 1] = some (.own B)) : fD 3 2 (sSeq (sSetC 2 SP (aC (eV 0) (aC (eV 1) aN))) (sRetZN (nCall0 PO (aC (eV 2) (aC (eC (.int 2)) (aC (eC (.int 0)) aN)))) (nCall0 PO (aC (eV 2) (aC (eC (.int 3)) (aC (eC (.int 1)) aN)))))) [W, P] = some (.owz [A, B]) := by
 unfold nCall0
 walk_at "eh"
theorem related_turn (W : Wr) (n : Nat) (hn : n ≤ 30) (x y : Nat → Int) (h : (List.range n).any W.bad = true) : d_related [.lst (W.wares n), .lst (PL W n x y)] = some (.ex "BadTurn") := by
 have h1 := spots_of_ok W n (by omega) x y
 rw [if_pos h] at h1
 exact rel_x d_spots_of d_pairs_in_order _ _ "BadTurn" h1
theorem related_ok (W : Wr) (n : Nat) (hn : n ≤ 30) (x y : Nat → Int) (h : ¬ (List.range n).any W.bad = true) : d_related [.lst (W.wares n), .lst (PL W n x y)] = some (.owz [(ordP n (spot W x y).r (spot W x y).x).map prD, (ordP n (spot W x y).t (spot W x y).y).map prD]) := by
 have h1 := spots_of_ok W n (by omega) x y
 rw [if_neg h] at h1
 exact rel_g d_spots_of d_pairs_in_order _ _ _ _ _ h1 (po_x (spot W x y) n hn) (po_y (spot W x y) n hn)
theorem lspot_ok (x y w h : Int) (t l : Bool) : d_l_spot [wareD w h t, placeD x y l] = some (.ret (.tup [.int x, .int y, .int (x + if l then h else w), .int (y + if l then w else h)])) := by
 unfold d_l_spot b_l_spot wareD placeD
 cases l
 ·walk_at "ev"
 ·walk_at "ev"
theorem lsp_el (LS : List D → Option R1) (A B : List D) (k : Int) (a b s : D) (a1 : atI A k = some a) (a2 : atI B k = some b) (h : LS [a, b] = some (.ret s)) : (eCall0 LS (aC (eBV gIxL 1 (eV 0)) (aC (eBV gIxL 2 (eV 0)) aN))) [.fz (.int k), .fz (.lst A), .fz (.lst B)] = some (.ok s [.fz (.int k), .fz (.lst A), .fz (.lst B)]) := by
 walk_at "eh"
abbrev rfA : AF := (aC (zN (nCV gList 0)) (aC (zN (nCV gList 1)) aN))
abbrev rfK : SF := (sSet 3 (eT (aC (eCB (gIsiX x1 x2) (aC (eV 4) (aC (eC (.ty "ValueError")) aN))) (aC (eCB (gIsiX x1 x2) (aC (eV 4) (aC (eC (.cls "Ring")) aN))) aN))))
theorem rfd (PU : List D → Option R1) (A B : List D) (h : PU [.lst A, .lst B] = some (.ex "BadTurn")) : fD 5 2 (sSeq (sSet 2 (eC (.str "no"))) (sSeq (sTryC PU rfA (hC xo_BadTurn (sSet 2 (eC (.str "turn"))) hN)) (sSeq (sIf (bZ (eB (gEq true) (eV 2) (eC (.str "turn")))) (sRet (eC (.bl false))) sNx) (sSeq (sSet 3 (eT (aC (eC (.bl false)) (aC (eC (.bl true)) aN)))) (sSeq (sTryC PU rfA (hAs 4 xo_CrateError rfK hN)) (sRet (eB (gEqT false) (eV 3) (eT (aC (eC (.bl true)) (aC (eC (.bl false)) aN)))))))))) [.lst A, .lst B] = some (.ret (.bl true)) := by
 have x1 : (sSet 2 (eC (.str "no"))) [.fz (.lst A), .fz (.lst B), .no, .no, .no] = some (.nx [.fz (.lst A), .fz (.lst B), .fz (.str "no"), .no, .no]) := rfl
 have x2 : (sTryC PU rfA (hC xo_BadTurn (sSet 2 (eC (.str "turn"))) hN)) [.fz (.lst A), .fz (.lst B), .fz (.str "no"), .no, .no] = some (.nx [.fz (.lst A), .fz (.lst B), .fz (.str "turn"), .no, .no]) := by
  unfold sTryC
  have h1 : rfA [.fz (.lst A), .fz (.lst B), .fz (.str "no"), .no, .no] = some (.ok [.lst A, .lst B] [.fz (.lst A), .fz (.lst B), .fz (.str "no"), .no, .no]) := rfl
  rw [h1]
  simp only [h]
  unfold hC
  rw [show xo_BadTurn "BadTurn" = some true from rfl]
  rfl
 have x3 : (sIf (bZ (eB (gEq true) (eV 2) (eC (.str "turn")))) (sRet (eC (.bl false))) sNx) [.fz (.lst A), .fz (.lst B), .fz (.str "turn"), .no, .no] = some (.nx [.fz (.lst A), .fz (.lst B), .fz (.str "turn"), .no, .no]) := by
  walk_at "ev"
 have x4 : (sSet 3 (eT (aC (eC (.bl false)) (aC (eC (.bl true)) aN)))) [.fz (.lst A), .fz (.lst B), .fz (.str "turn"), .no, .no] = some (.nx [.fz (.lst A), .fz (.lst B), .fz (.str "turn"), .fz (.tup [.bl false, .bl true]), .no]) := rfl
 have x5 : (sTryC PU rfA (hAs 4 xo_CrateError rfK hN)) [.fz (.lst A), .fz (.lst B), .fz (.str "turn"), .fz (.tup [.bl false, .bl true]), .no] = some (.nx [.fz (.lst A), .fz (.lst B), .fz (.str "turn"), .fz (.tup [.bl true, .bl false]), .no]) := by
  unfold sTryC
  have h1 : rfA [.fz (.lst A), .fz (.lst B), .fz (.str "turn"), .fz (.tup [.bl false, .bl true]), .no] = some (.ok [.lst A, .lst B] [.fz (.lst A), .fz (.lst B), .fz (.str "turn"), .fz (.tup [.bl false, .bl true]), .no]) := rfl
  rw [h1]
  simp only [h]
  unfold hAs
  rw [show xo_CrateError "BadTurn" = some true from rfl]
  have hb : rfK [.fz (.lst A), .fz (.lst B), .fz (.str "turn"), .fz (.tup [.bl false, .bl true]), .fz (.exc "BadTurn")] = some (.nx [.fz (.lst A), .fz (.lst B), .fz (.str "turn"), .fz (.tup [.bl true, .bl false]), .fz (.exc "BadTurn")]) := by
   have g1 : gIsiX Law.x1 Law.x2 [.exc "BadTurn", .ty "ValueError"] = some (.bl true) := rfl
   have g2 : gIsiX Law.x1 Law.x2 [.exc "BadTurn", .cls "Ring"] = some (.bl false) := rfl
   unfold rfK
   generalize gIsiX Law.x1 Law.x2 = gg at *
   clear h h1 x1 x2 x3 x4
   walk_at "eh"
  show goneR 4 (rfK [.fz (.lst A), .fz (.lst B), .fz (.str "turn"), .fz (.tup [.bl false, .bl true]), .fz (.exc "BadTurn")]) = _
  rw [hb]
  rfl
 have x6 : (sRet (eB (gEqT false) (eV 3) (eT (aC (eC (.bl true)) (aC (eC (.bl false)) aN))))) [.fz (.lst A), .fz (.lst B), .fz (.str "turn"), .fz (.tup [.bl true, .bl false]), .no] = some (.rt (.bl true)) := by
  walk_at "ev"
 rw [fD_eq (m := 2) rfl]
 show finR (sSeq _ _ [.fz (.lst A), .fz (.lst B), .no, .no, .no]) = _
 rw [sSeq_eq, x1, seqR_nx, sSeq_eq, x2, seqR_nx, sSeq_eq, x3, seqR_nx, sSeq_eq, x4, seqR_nx, sSeq_eq, x5, seqR_nx, x6]
 rfl
theorem ware_ok (f : Int → Int) (hf : ∀ i, d_l_side [.int i] = some (.ret (.int (f i))) ∧ 1 ≤ f i) (a b d : Int) : d_l_ware [.int a, .int b, .int d] = some (.ret (wareD (f a) (f b) (decide (d % 3 > 0)))) := by
 have h1 := (hf a).1
 have h2 := (hf b).1
 clear hf
 unfold d_l_ware b_l_ware wareD
 walk_at "eh"
theorem place_ok (g : Int → Int) (hg : ∀ i, d_l_spot_at [.int i] = some (.ret (.int (g i)))) (c d : Int) : d_l_place [.int c, .int d] = some (.ret (placeD (g c) (g (d / 3)) (decide (d % 3 = 2)))) := by
 have h1 := hg c
 have h2 := hg (d / 3)
 clear hg
 unfold d_l_place b_l_place placeD
 walk_at "eh"
theorem at_cell {ns : List Int} {k : Int} (h0 : 0 ≤ k) (h1 : k < ns.length) : atI ns k = some (cellAt ns k) := by
 obtain ⟨m, rfl⟩ : ∃ m : Nat, k = (m : Int) := ⟨k.toNat, by omega⟩
 have hm : m < ns.length := by omega
 rw [atI_natD (List.getElem?_eq_getElem hm)]
 unfold cellAt
 rw [Int.toNat_natCast, List.getD_eq_getElem?_getD, List.getElem?_eq_getElem hm]
 rfl
abbrev l1B (WA PA : List D → Option R1) : SF := (sSeq (sApp 1 (eCall0 WA (aC (eBV gIxL 0 (eV 3)) (aC (eBV gIxL 0 (eB gAdd (eV 3) (eC (.int 1)))) (aC (eBV gIxL 0 (eB gAdd (eV 3) (eC (.int 3)))) aN))))) (sApp 2 (eCall0 PA (aC (eBV gIxL 0 (eB gAdd (eV 3) (eC (.int 2)))) (aC (eBV gIxL 0 (eB gAdd (eV 3) (eC (.int 3)))) aN)))))
theorem l1_step (WA PA : List D → Option R1) (ns : List Int) (A B : List D) (k a b c d : Int) (w p : D) (o3 : Option D) (a0 : atI ns k = some a) (a1 : atI ns (k + 1) = some b) (a2 : atI ns (k + 2) = some c) (a3 : atI ns (k + 3) = some d) (h1 : WA [.int a, .int b, .int d] = some (.ret w)) (h2 : PA [.int c, .int d] = some (.ret p)) (s1 : A.length < sizeLine) (s2 : B.length < sizeLine) :
  nxOf (optR (bName 3 (.int k) [.fz (.scr ns), .ow A, .ow B, un o3, .no]) (l1B WA PA)) = some (.nx [.fz (.scr ns), .ow (A ++ [w]), .ow (B ++ [p]), .fz (.int k), .no]) := by
 unfold l1B
 walk_at "eh"
def mkW (f : Int → Int) (a b d : Nat → Int) : Wr := ⟨fun i => f (a i), fun i => f (b i), fun i => decide (d i % 3 > 0), fun i => decide (d i % 3 = 2)⟩
structure Fine (W : Wr) (n : Nat) : Prop where
 len : n ≤ 20
 bad : ¬ (List.range n).any W.bad = true
 w : ∀ k, 1 ≤ W.w k
 h : ∀ k, 1 ≤ W.h k
theorem Fine.a {W : Wr} {n : Nat} (F : Fine W n) (k : Nat) : 1 ≤ W.a k := by
 unfold Wr.a; split
 ·exact F.h k
 ·exact F.w k
theorem Fine.u {W : Wr} {n : Nat} (F : Fine W n) (k : Nat) : 1 ≤ W.u k := by
 unfold Wr.u; split
 ·exact F.w k
 ·exact F.h k
theorem mkW_fine (f : Int → Int) (hf : ∀ i, 1 ≤ f i) (a b d : Nat → Int) (n : Nat) (hn : n ≤ 20) : Fine (mkW f a b d) n := by
 refine ⟨hn, ?_, fun k => hf _, fun k => hf _⟩
 rw [List.any_eq_true]
 rintro ⟨k, _, h⟩
 unfold Wr.bad mkW at h
 simp at h
 omega
theorem l1_loop (f g : Int → Int) (hf : ∀ i, d_l_side [.int i] = some (.ret (.int (f i))) ∧ 1 ≤ f i) (hg : ∀ i, d_l_spot_at [.int i] = some (.ret (.int (g i)))) (ns : List Int) : ∃ (W : Wr) (n : Nat) (x y : Nat → Int) (o3 : Option D), Fine W n ∧ (sForR3 (aC (eC (.int 1)) (aC (eB gSub' (eCB gMin2 (aC (eCV gLen 0) (aC (eC (.int 61)) aN))) (eC (.int 3))) (aC (eC (.int 4)) aN))) (bName 3) (l1B d_l_ware d_l_place)) [.fz (.scr ns), .ow [], .ow [], .no, .no] = some (.nx [.fz (.scr ns), .ow (W.wares n), .ow (PL W n x y), un o3, .no]) := by
 obtain ⟨m, hm, hm1, hm2⟩ : ∃ m : Int, (if (61 : Int) < (ns.length : Int) then (61 : Int) else (ns.length : Int)) = m ∧ m ≤ 61 ∧ m ≤ ns.length := ⟨_, rfl, by split <;> omega, by split <;> omega⟩
 have hm0 : 0 ≤ m := by rw [← hm]; split <;> omega
 have h0 : (aC (eC (.int 1)) (aC (eB gSub' (eCB gMin2 (aC (eCV gLen 0) (aC (eC (.int 61)) aN))) (eC (.int 3))) (aC (eC (.int 4)) aN))) [.fz (.scr ns), .ow [], .ow [], .no, .no] = some (.ok [.int 1, .int ((if (61 : Int) < (ns.length : Int) then (61 : Int) else (ns.length : Int)) - 3), .int 4] [.fz (.scr ns), .ow [], .ow [], .no, .no]) := rfl
 rw [hm] at h0
 have hn : stepN 1 (m - 3) 4 ≤ 15 ∧ ∀ i : Nat, i < stepN 1 (m - 3) 4 → 1 + (i : Int) * 4 + 3 < m := by
  unfold stepN
  by_cases c : (1 : Int) < m - 3
  ·rw [if_pos c]
   exact ⟨by omega, fun i hi => by omega⟩
  ·rw [if_neg c]
   exact ⟨by simp, fun i hi => by simp at hi⟩
 generalize hN : stepN 1 (m - 3) 4 = n at hn
 let c : Nat → Nat → Int := fun r i => cellAt ns (1 + (i : Int) * 4 + (r : Int))
 let W := mkW f (fun i => cellAt ns (1 + (i : Int) * 4)) (c 1) (c 3)
 unfold sForR3
 rw [h0, sbn_ok, rng3_eq ⟨by omega, by omega, by omega, by omega, by omega, by omega⟩, hN]
 obtain ⟨e', k1, o3, rfl⟩ := for_map (b := bName 3) (body := l1B d_l_ware d_l_place) (fun (i : Nat) => D.int (1 + (i : Int) * 4)) (fun pre e => ∃ o3, e = [.fz (.scr ns), .ow (pre.map fun k => wareD (W.w k) (W.h k) (W.t k)), .ow (pre.map fun k => placeD (g (c 2 k)) (g (c 3 k / 3)) (W.l k)), un o3, .no]) (List.range n) [.fz (.scr ns), .ow [], .ow [], .no, .no] ⟨none, rfl⟩ (by
  rintro pre i post e hq ⟨o3, rfl⟩
  have hi : i < n := List.mem_range.mp (by rw [hq]; simp)
  have hl := congrArg List.length hq
  rw [List.length_range, List.length_append] at hl
  have hk := hn.2 i hi
  rw [List.map_append, List.map_append]
  exact ⟨_, l1_step d_l_ware d_l_place ns _ _ (1 + (i : Int) * 4) _ _ _ _ _ _ o3 (at_cell (by omega) (by omega)) (at_cell (by omega) (by omega)) (at_cell (by omega) (by omega)) (at_cell (by omega) (by omega)) (ware_ok f hf _ _ _) (place_ok g hg _ _) (by rw [List.length_map]; show _ < 2 ^ 24; omega) (by rw [List.length_map]; show _ < 2 ^ 24; omega), some _, rfl⟩)
 exact ⟨W, n, fun k => g (c 2 k), fun k => g (c 3 k / 3), o3, mkW_fine f (fun i => (hf i).2) _ _ _ n (by omega), k1⟩
theorem u4 (CE : List D → Option R1) (S : D) (A B : List D) (c : Int) (o3 : Option D) (h : CE [S, .int 0] = some (.ret (.int c))) : (sSetC0 4 CE (aC (eV 0) (aC (eC (.int 0)) aN))) [.fz S, .ow A, .ow B, un o3, .no] = some (.nx [.fz S, .ow A, .ow B, un o3, .fz (.int c)]) := by
 walk_at "eh"
abbrev bdB (RF : List D → Option R1) (gm : D → D → Option D) : SF := (sSeq (sSet 3 (eB gm (eB gDiv (eV 4) (eC (.int 4))) (eCV gLen 1))) (sSeq (sSub 1 (eV 3) (eT (aC (eB gIxT (eBV gIxL 1 (eV 3)) (eC (.int 0))) (aC (eB gIxT (eBV gIxL 1 (eV 3)) (eC (.int 1))) (aC (eC (.bl false)) aN))))) (sSeq (sSub 2 (eV 3) (eT (aC (eB gIxT (eBV gIxL 2 (eV 3)) (eC (.int 0))) (aC (eB gIxT (eBV gIxL 2 (eV 3)) (eC (.int 1))) (aC (eC (.bl true)) aN))))) (sSeq (sIf (bLend (bNot (bZ (eCall0 RF (aC (eV 1) (aC (eV 2) aN)))))) (sRet (eC (.bl false))) sNx) (sSub 1 (eV 3) (eT (aC (eB gIxT (eBV gIxL 1 (eV 3)) (eC (.int 0))) (aC (eB gIxT (eBV gIxL 1 (eV 3)) (eC (.int 1))) (aC (eC (.bl true)) aN)))))))))
theorem u6n (s : SF) (S : D) (A B : List D) (od : Int) (o3 o5 o6 : Option D) (h : ¬ (0 < (A.length : Int) ∧ od % 4 = 1)) : (sIf (bAnd (bZ (eB gGt (eCV gLen 1) (eC (.int 0)))) (bZ (eB (gEq false) (eB gMod (eV 4) (eC (.int 4))) (eC (.int 1))))) s sNx) [.fz S, .ow A, .ow B, un o3, .fz (.int od)] = some (.nx [.fz S, .ow A, .ow B, un o3, .fz (.int od)]) := by
 by_cases c1 : 0 < (A.length : Int)
 ·have c2 : (od % 4 = 1) ↔ False := iff_false_intro fun q => h ⟨c1, q⟩
  have c1' : (0 < (A.length : Int)) ↔ True := iff_true_intro c1
  clear h c1
  walk_at "eh"
 ·have c1' : (0 < (A.length : Int)) ↔ False := iff_false_intro c1
  clear h c1
  walk_at "eh"
theorem u6 (s : SF) (S : D) (A B : List D) (od : Int) (o3 o5 o6 : Option D) (c1 : (0 < (A.length : Int)) ↔ True) (c2 : od % 4 = 1) : (sIf (bAnd (bZ (eB gGt (eCV gLen 1) (eC (.int 0)))) (bZ (eB (gEq false) (eB gMod (eV 4) (eC (.int 4))) (eC (.int 1))))) s sNx) [.fz S, .ow A, .ow B, un o3, .fz (.int od)] = s [.fz S, .ow A, .ow B, un o3, .fz (.int od)] := by
 walk_at "eh"
theorem bd_g (RF : List D → Option R1) (gm : D → D → Option D) (S : D) (A B A' B' A2 : List D) (od : Int) (k : Nat) (w h t x y l : D) (o3 o5 o6 : Option D) (hm : gm (.int (od / 4)) (.int (A.length : Int)) = some (.int (k : Int))) (a1 : atI A (k : Int) = some (.tup [w, h, t])) (a2 : atI B (k : Int) = some (.tup [x, y, l])) (i1 : ixN A.length (k : Int) = some k) (i2 : ixN B.length (k : Int) = some k) (h1 : A.set k (.tup [w, h, .bl false]) = A') (h2 : B.set k (.tup [x, y, .bl true]) = B') (a3 : atI A' (k : Int) = some (.tup [w, h, .bl false])) (i3 : ixN A'.length (k : Int) = some k) (h3 : A'.set k (.tup [w, h, .bl true]) = A2) (hr : RF [.lst A', .lst B'] = some (.ret (.bl true))) :
  bdB RF gm [.fz S, .ow A, .ow B, un o3, .fz (.int od)] = some (.nx [.fz S, .ow A2, .ow B', .fz (.int (k : Int)), .fz (.int od)]) := by
 unfold bdB
 walk_at "eh"
theorem modN (c : Int) (n : Nat) (h : 0 < n) : ∃ a : Nat, c % (n : Int) = (a : Int) ∧ a < n := by
 have q1 := Int.emod_nonneg c (show (n : Int) ≠ 0 by omega)
 have q2 := Int.emod_lt_of_pos c (show (0 : Int) < (n : Int) by omega)
 exact ⟨(c % (n : Int)).toNat, by omega, by omega⟩
theorem bd_ok (W : Wr) (n : Nat) (x y : Nat → Int) (F : Fine W n) (h0 : 0 < n) (S : D) (od : Int) (o3 o5 o6 : Option D) : ∃ (W' : Wr) (o3' : Option D), Fine W' n ∧ bdB d_l_refused gMod [.fz S, .ow (W.wares n), .ow (PL W n x y), un o3, .fz (.int od)] = some (.nx [.fz S, .ow (W'.wares n), .ow (PL W' n x y), un o3', .fz (.int od)]) := by
 obtain ⟨k, hk, hk'⟩ := modN (od / 4) n h0
 let W1 : Wr := ⟨W.w, W.h, fun i => if i = k then false else W.t i, fun i => if i = k then true else W.l i⟩
 let W2 : Wr := ⟨W.w, W.h, fun i => if i = k then true else W.t i, fun i => if i = k then true else W.l i⟩
 have e1 : (W.wares n).set k (.tup [.int (W.w k), .int (W.h k), .bl false]) = W1.wares n := by
  show (fl n _).set k _ = fl n _
  rw [fl_set]
  refine fl_congr fun i _ => ?_
  show _ = wareD (W.w i) (W.h i) (if i = k then false else W.t i)
  by_cases q : i = k
  ·subst q; simp
  ·simp [q]
 have e2 : (PL W n x y).set k (.tup [.int (x k), .int (y k), .bl true]) = PL W1 n x y := by
  show (fl n _).set k _ = fl n _
  rw [fl_set]
  refine fl_congr fun i _ => ?_
  show _ = placeD (x i) (y i) (if i = k then true else W.l i)
  by_cases q : i = k
  ·subst q; simp
  ·simp [q]
 have e3 : (W1.wares n).set k (.tup [.int (W.w k), .int (W.h k), .bl true]) = W2.wares n := by
  show (fl n _).set k _ = fl n _
  rw [fl_set]
  refine fl_congr fun i _ => ?_
  show (if i = k then _ else wareD (W.w i) (W.h i) (if i = k then false else W.t i)) = wareD (W.w i) (W.h i) (if i = k then true else W.t i)
  by_cases q : i = k
  ·subst q; simp
  ·simp [q]
 have bad : (List.range n).any W1.bad = true := by
  rw [List.any_eq_true]
  refine ⟨k, List.mem_range.mpr hk', ?_⟩
  show ((if k = k then true else W.l k) && !(if k = k then false else W.t k)) = true
  simp
 have fine : Fine W2 n := by
  refine ⟨F.len, ?_, F.w, F.h⟩
  rw [List.any_eq_true]
  rintro ⟨i, mi, h⟩
  have h' : ((if i = k then true else W.l i) && !(if i = k then true else W.t i)) = true := h
  by_cases q : i = k
  ·simp [q] at h'
  ·simp only [q, if_false] at h'
   exact F.bad (List.any_eq_true.mpr ⟨i, mi, h'⟩)
 have a3 : atI (W1.wares n) (k : Int) = some (.tup [.int (W.w k), .int (W.h k), .bl false]) := by
  rw [fl_at (f := fun k => wareD (W1.w k) (W1.h k) (W1.t k)) hk']
  show some (wareD (W.w k) (W.h k) (if k = k then false else W.t k)) = _
  rw [if_pos rfl]
 exact ⟨W2, some (.int (k : Int)), fine, bd_g d_l_refused gMod S (W.wares n) (PL W n x y) _ _ _ od k _ _ _ _ _ _ o3 o5 o6 (by rw [fl_len, gMod_eq (by omega), hk]) (fl_at (f := fun k => wareD (W.w k) (W.h k) (W.t k)) hk') (fl_at (f := fun k => placeD (x k) (y k) (W.l k)) hk') (fl_ix (f := fun k => wareD (W.w k) (W.h k) (W.t k)) hk') (fl_ix (f := fun k => placeD (x k) (y k) (W.l k)) hk') e1 e2 a3 (fl_ix (f := fun k => wareD (W1.w k) (W1.h k) (W1.t k)) hk') e3 (rfd d_related _ _ (related_turn W1 n (by have := F.len; omega) x y bad))⟩
theorem cell_ok {ns : List Int} {k : Int} (hk : 0 ≤ k) : d_l_cell_at [.scr ns, .int k] = some (.ret (.int (cellAt ns k))) := by
 rw [← cell_eq hk]
 unfold d_l_cell_at b_l_cell_at
 walk_at "ev"
 split
 ·cases atI ns k <;> rfl
 ·rfl
theorem side_ok : ∃ f : Int → Int, ∀ i, d_l_side [.int i] = some (.ret (.int (f i))) ∧ 1 ≤ f i := by
 refine Classical.axiomOfChoice (r := fun i v => d_l_side [.int i] = some (.ret (.int v)) ∧ 1 ≤ v) fun i => ?_
 unfold d_l_side b_l_side
 by_cases h1 : i % 5 = 0
 ·refine ⟨1 + i / 5 % 10 ^ (Int.toNat 40), ?_, ?_⟩
  ·walk_at "eh"
  ·have := Int.emod_nonneg (i / 5) (show (10 : Int) ^ (Int.toNat 40) ≠ 0 by decide)
   omega
 ·refine ⟨1 + i / 5 % 9, ?_, by omega⟩
  walk_at "eh"
theorem spat_ok : ∃ f : Int → Int, ∀ i, d_l_spot_at [.int i] = some (.ret (.int (f i))) := by
 refine Classical.axiomOfChoice (r := fun i v => d_l_spot_at [.int i] = some (.ret (.int v))) fun i => ?_
 unfold d_l_spot_at b_l_spot_at
 by_cases h1 : i % 5 = 0
 ·walk_at "eh"
  exact ⟨_, rfl⟩
 ·walk_at "eh"
  exact ⟨_, rfl⟩
theorem lsp7 (rg : List D → Option (Int × Nat)) (el : ZF) (A B : List D) (w : D) (n : Nat) (h : rg [.int (A.length : Int)] = some (0, n)) : (nCompR rg 1 [0, 1] (aC (eCV gLen 0) aN) (bName 0) bTrue el) [.fz (.lst A), .fz (.lst B), .fz w, .no, .no, .no, .no] = compD (bName 0) bTrue el [.no, .fz (.lst A), .fz (.lst B)] [.fz (.lst A), .fz (.lst B), .fz w, .no, .no, .no, .no] (rngD 0 n) [] := by
 unfold nCompR
 have h0 : (aC (eCV gLen 0) aN) [.fz (.lst A), .fz (.lst B), .fz w, .no, .no, .no, .no] = some (.ok [.int (A.length : Int)] [.fz (.lst A), .fz (.lst B), .fz w, .no, .no, .no, .no]) := rfl
 rw [h0, bnd_ok, h]
 rfl
theorem dsp_ok (W : Wr) (n : Nat) (hn : n ≤ 1000) (x y : Nat → Int) (w : D) : (nCompR rng1 1 [0, 1] (aC (eCV gLen 0) aN) (bName 0) bTrue (eCall0 d_l_spot (aC (eBV gIxL 1 (eV 0)) (aC (eBV gIxL 2 (eV 0)) aN)))) [.fz (.lst (W.wares n)), .fz (.lst (PL W n x y)), .fz w, .no, .no, .no, .no] = some (.ok (fl n (spot W x y).d) [.fz (.lst (W.wares n)), .fz (.lst (PL W n x y)), .fz w, .no, .no, .no, .no]) := by
 have key := comp_map (b := bName 0) (c := bTrue) (el := eCall0 d_l_spot (aC (eBV gIxL 1 (eV 0)) (aC (eBV gIxL 2 (eV 0)) aN))) (ec := [.no, .fz (.lst (W.wares n)), .fz (.lst (PL W n x y))]) (eo := [.fz (.lst (W.wares n)), .fz (.lst (PL W n x y)), .fz w, .no, .no, .no, .no]) (fun i : Nat => D.int (0 + (i : Int))) (spot W x y).d (fun _ => true) (List.range n) [] (by rw [List.length_range]; show 0 + _ ≤ 2 ^ 24; omega) (fun k mk => by
  have hk := List.mem_range.mp mk
  rw [Int.zero_add]
  exact ⟨[.fz (.int (k : Int)), .fz (.lst (W.wares n)), .fz (.lst (PL W n x y))], _, rfl, rfl, fun _ => ⟨_, lsp_el d_l_spot (W.wares n) (PL W n x y) k _ _ _ (fl_at (f := fun k => wareD (W.w k) (W.h k) (W.t k)) hk) (fl_at (f := fun k => placeD (x k) (y k) (W.l k)) hk) (lspot_ok (x k) (y k) (W.w k) (W.h k) (W.t k) (W.l k))⟩⟩)
 rw [List.filter_eq_self.mpr (fun _ _ => rfl), List.nil_append] at key
 have h1 := lsp7 rng1 (eCall0 d_l_spot (aC (eBV gIxL 1 (eV 0)) (aC (eBV gIxL 2 (eV 0)) aN))) (W.wares n) (PL W n x y) w n (by rw [fl_len]; exact rng1_eq ⟨by omega, by omega⟩)
 rw [rngD_map, key] at h1
 exact h1
abbrev duI (gix : D → D → Option D) : SF := (sIf (bAnd (bZ (eB (gEq true) (eV 5) (eV 6))) (bZ (eB gLe (eB gix (eBV gIxL 3 (eV 5)) (eB gAdd (eC (.int 2)) (eV 2))) (eB gix (eBV gIxL 3 (eV 6)) (eV 2))))) (sApp 4 (eT (aC (eV 5) (aC (eV 6) aN)))) sNx)
theorem du_step (gix : D → D → Option D) (W P : D) (S acc : List D) (w : Int) (i j : Nat) (oi oj : D) (ei bj : Int) (a1 : atI S (i : Int) = some oi) (a2 : atI S (j : Int) = some oj) (g1 : gix oi (.int (2 + w)) = some (.int ei)) (g2 : gix oj (.int w) = some (.int bj)) (hs : acc.length < sizeLine) :
  duI gix [.fz W, .fz P, .fz (.int w), .ow S, .ow acc, .fz (.int (i : Int)), .fz (.int (j : Int))] = some (.nx [.fz W, .fz P, .fz (.int w), .ow S, .ow (if i ≠ j ∧ ei ≤ bj then acc ++ [.tup [.int (i : Int), .int (j : Int)]] else acc), .fz (.int (i : Int)), .fz (.int (j : Int))]) := by
 unfold duI
 by_cases q : i = j
 ·subst q
  rw [if_neg (fun h => h.1 rfl)]
  walk_at "eh"
 ·have q' : ((i : Int) = (j : Int)) ↔ False := iff_false_intro (by omega)
  by_cases c : ei ≤ bj
  ·rw [if_pos ⟨q, c⟩]
   clear q
   walk_at "eh"
  ·rw [if_neg (fun h => c h.2)]
   clear q
   walk_at "eh"
abbrev rw1 (n : Nat) (e b : Nat → Int) (i : Nat) (l : List Nat) : List Pr := (l.filter fun j => decide (i ≠ j ∧ e i ≤ b j)).map fun j => (i, j)
theorem du_row (gix : D → D → Option D) (n : Nat) (hn : n ≤ 30) (W P : D) (dd : Nat → D) (w : Int) (e b : Nat → Int) (g1 : ∀ k, gix (dd k) (.int (2 + w)) = some (.int (e k))) (g2 : ∀ k, gix (dd k) (.int w) = some (.int (b k))) (acc : List Pr) (ha : acc.length ≤ 4000) (i : Nat) (hi : i < n) (o6 : Option D) : ∃ o6' : Option D, sForR rng1 (aC (eCV gLen 3) aN) (bName 6) (duI gix) [.fz W, .fz P, .fz (.int w), .ow (fl n dd), .ow (acc.map prD), .fz (.int (i : Int)), un o6] = some (.nx [.fz W, .fz P, .fz (.int w), .ow (fl n dd), .ow ((acc ++ rw1 n e b i (List.range n)).map prD), .fz (.int (i : Int)), un o6']) := by
 have h0 : (aC (eCV gLen 3) aN) [.fz W, .fz P, .fz (.int w), .ow (fl n dd), .ow (acc.map prD), .fz (.int (i : Int)), un o6] = some (.ok [.int ((fl n dd).length : Int)] [.fz W, .fz P, .fz (.int w), .ow (fl n dd), .ow (acc.map prD), .fz (.int (i : Int)), un o6]) := rfl
 rw [forR_eq h0 (by rw [fl_len]; exact rng1_eq ⟨by omega, by omega⟩), Int.toNat_natCast, rngD_map]
 obtain ⟨e', k1, o6', rfl⟩ := for_map (b := bName 6) (body := duI gix) (fun (i : Nat) => D.int (0 + (i : Int))) (fun pre ev => ∃ o6, ev = [.fz W, .fz P, .fz (.int w), .ow (fl n dd), .ow ((acc ++ rw1 n e b i pre).map prD), .fz (.int (i : Int)), un o6]) (List.range n) [.fz W, .fz P, .fz (.int w), .ow (fl n dd), .ow (acc.map prD), .fz (.int (i : Int)), un o6] ⟨o6, by rw [show acc ++ rw1 n e b i [] = acc from List.append_nil _]⟩ (by
  rintro pre j post ev hq ⟨o6, rfl⟩
  have hj : j < n := List.mem_range.mp (by rw [hq]; simp)
  have hl := congrArg List.length hq
  rw [List.length_range, List.length_append] at hl
  have hb : bName 6 (.int (0 + (j : Int))) [.fz W, .fz P, .fz (.int w), .ow (fl n dd), .ow ((acc ++ rw1 n e b i pre).map prD), .fz (.int (i : Int)), un o6] = some [.fz W, .fz P, .fz (.int w), .ow (fl n dd), .ow ((acc ++ rw1 n e b i pre).map prD), .fz (.int (i : Int)), .fz (.int (j : Int))] := by rw [Int.zero_add]; cases o6 <;> rfl
  have st := du_step gix W P (fl n dd) ((acc ++ rw1 n e b i pre).map prD) w i j _ _ _ _ (fl_at hi) (fl_at hj) (g1 i) (g2 j) (by
   rw [List.length_map, List.length_append, List.length_map]
   have := List.length_filter_le (fun j => decide (i ≠ j ∧ e i ≤ b j)) pre
   show _ < 2 ^ 24
   omega)
  have e3 : (if i ≠ j ∧ e i ≤ b j then (acc ++ rw1 n e b i pre).map prD ++ [D.tup [.int (i : Int), .int (j : Int)]] else (acc ++ rw1 n e b i pre).map prD) = (acc ++ rw1 n e b i (pre ++ [j])).map prD := by
   unfold rw1
   rw [List.filter_append]
   by_cases c : i ≠ j ∧ e i ≤ b j
   ·rw [if_pos c, List.filter_cons_of_pos (by simpa using c), List.filter_nil]
    simp only [List.map_append, List.append_assoc]
    rfl
   ·rw [if_neg c, List.filter_cons_of_neg (by simpa using c), List.filter_nil, List.append_nil]
  rw [e3] at st
  rw [hb, optR_some, st]
  exact ⟨_, rfl, some _, rfl⟩)
 exact ⟨o6', k1⟩
theorem du_all (gix : D → D → Option D) (n : Nat) (hn : n ≤ 30) (W P : D) (dd : Nat → D) (w : Int) (e b : Nat → Int) (g1 : ∀ k, gix (dd k) (.int (2 + w)) = some (.int (e k))) (g2 : ∀ k, gix (dd k) (.int w) = some (.int (b k))) : ∃ o5 o6 : Option D, sForR rng1 (aC (eCV gLen 3) aN) (bName 5) (sForR rng1 (aC (eCV gLen 3) aN) (bName 6) (duI gix)) [.fz W, .fz P, .fz (.int w), .ow (fl n dd), .ow [], .no, .no] = some (.nx [.fz W, .fz P, .fz (.int w), .ow (fl n dd), .ow ((ordP n e b).map prD), un o5, un o6]) := by
 have h0 : (aC (eCV gLen 3) aN) [.fz W, .fz P, .fz (.int w), .ow (fl n dd), .ow [], .no, .no] = some (.ok [.int ((fl n dd).length : Int)] [.fz W, .fz P, .fz (.int w), .ow (fl n dd), .ow [], .no, .no]) := rfl
 rw [forR_eq h0 (by rw [fl_len]; exact rng1_eq ⟨by omega, by omega⟩), Int.toNat_natCast, rngD_map]
 obtain ⟨e', k1, o5, o6, rfl⟩ := for_map (b := bName 5) (body := sForR rng1 (aC (eCV gLen 3) aN) (bName 6) (duI gix)) (fun (i : Nat) => D.int (0 + (i : Int))) (fun pre ev => ∃ o5 o6, ev = [.fz W, .fz P, .fz (.int w), .ow (fl n dd), .ow ((pre.flatMap fun i => rw1 n e b i (List.range n)).map prD), un o5, un o6]) (List.range n) [.fz W, .fz P, .fz (.int w), .ow (fl n dd), .ow [], .no, .no] ⟨none, none, rfl⟩ (by
  rintro pre i post ev hq ⟨o5, o6, rfl⟩
  have hi : i < n := List.mem_range.mp (by rw [hq]; simp)
  have hl := congrArg List.length hq
  rw [List.length_range, List.length_append] at hl
  have hb : bName 5 (.int (0 + (i : Int))) [.fz W, .fz P, .fz (.int w), .ow (fl n dd), .ow ((pre.flatMap fun i => rw1 n e b i (List.range n)).map prD), un o5, un o6] = some [.fz W, .fz P, .fz (.int w), .ow (fl n dd), .ow ((pre.flatMap fun i => rw1 n e b i (List.range n)).map prD), .fz (.int (i : Int)), un o6] := by rw [Int.zero_add]; cases o5 <;> rfl
  have hlen : (pre.flatMap fun i => rw1 n e b i (List.range n)).length ≤ 4000 := by
   have h1 := flat_len n e b pre
   have h2 : pre.length * n ≤ 30 * 30 := Nat.mul_le_mul (by omega) hn
   have h3 : (pre.flatMap fun i => rw1 n e b i (List.range n)).length ≤ pre.length * n := h1
   omega
  obtain ⟨o6', k⟩ := du_row gix n hn W P dd w e b g1 g2 _ hlen i hi o6
  rw [hb, optR_some, k]
  refine ⟨_, rfl, some (.int (i : Int)), o6', ?_⟩
  rw [List.flatMap_append, List.flatMap_cons, List.flatMap_nil, List.append_nil]
  rfl)
 exact ⟨o5, o6, k1⟩
theorem due_w (N1 : NF) (LP : SF) (A B w : D) (S X : List D) (o5 o6 : Option D) (n1 : N1 [.fz A, .fz B, .fz w, .no, .no, .no, .no] = some (.ok S [.fz A, .fz B, .fz w, .no, .no, .no, .no])) (h : LP [.fz A, .fz B, .fz w, .ow S, .ow [], .no, .no] = some (.nx [.fz A, .fz B, .fz w, .ow S, .ow X, un o5, un o6])) : fD 7 3 (sSeq (sSetN 3 N1) (sSeq (sSetN 4 (eL aN)) (sSeq LP (sRetV 4)))) [A, B, w] = some (.own X) := by
 walk_at "eh"
theorem due_x (W : Wr) (n : Nat) (hn : n ≤ 30) (x y : Nat → Int) : d_l_due [.lst (W.wares n), .lst (PL W n x y), .int 0] = some (.own ((ordP n (spot W x y).r (spot W x y).x).map prD)) := by
 obtain ⟨o5, o6, k⟩ := du_all gIxT n hn (.lst (W.wares n)) (.lst (PL W n x y)) (spot W x y).d 0 (spot W x y).r (spot W x y).x (fun _ => rfl) (fun _ => rfl)
 exact due_w _ _ _ _ _ _ _ o5 o6 (dsp_ok W n (by omega) x y (.int 0)) k
theorem due_y (W : Wr) (n : Nat) (hn : n ≤ 30) (x y : Nat → Int) : d_l_due [.lst (W.wares n), .lst (PL W n x y), .int 1] = some (.own ((ordP n (spot W x y).t (spot W x y).y).map prD)) := by
 obtain ⟨o5, o6, k⟩ := du_all gIxT n hn (.lst (W.wares n)) (.lst (PL W n x y)) (spot W x y).d 1 (spot W x y).t (spot W x y).y (fun _ => rfl) (fun _ => rfl)
 exact due_w _ _ _ _ _ _ _ o5 o6 (dsp_ok W n (by omega) x y (.int 1)) k
theorem whole_ok (i : Int) : d_l_whole [.int i] = some (.ret (.bl true)) := rfl
abbrev alB (WH : List D → Option R1) : SF := (sSeq (sIf (bOr (bNot (bZ (eCB gIsi (aC (eBV gIxL 0 (eV 2)) (aC (eC (.ty "tuple")) aN))))) (bZ (eB (gEq true) (eCB (g1 gLen) (aC (eBV gIxL 0 (eV 2)) aN)) (eC (.int 2))))) (sRet (eC (.bl false))) sNx) (sSeq (sIf (bOr (bNot (bZ (eCall0 WH (aC (eB gIxT (eBV gIxL 0 (eV 2)) (eC (.int 0))) aN)))) (bNot (bZ (eCall0 WH (aC (eB gIxT (eBV gIxL 0 (eV 2)) (eC (.int 1))) aN))))) (sRet (eC (.bl false))) sNx) (sIf (bZ (eB (gEqT true) (eBV gIxL 0 (eV 2)) (eBV gIxL 1 (eV 2)))) (sRet (eC (.bl false))) sNx)))
theorem al_step (WH : List D → Option R1) (A : List D) (k a b : Int) (h : atI A k = some (.tup [.int a, .int b])) (w1 : WH [.int a] = some (.ret (.bl true))) (w2 : WH [.int b] = some (.ret (.bl true))) : alB WH [.fz (.lst A), .fz (.lst A), .fz (.int k)] = some (.nx [.fz (.lst A), .fz (.lst A), .fz (.int k)]) := by
 unfold alB
 walk_at "eh"
theorem al_w (LP : SF) (A : List D) (e : DE) (h : LP [.fz (.lst A), .fz (.lst A), .no] = some (.nx e)) : fD 3 2 (sSeq (sIf (bOr (bNot (bZ (eIsiV 0 "list"))) (bZ (eB (gEq true) (eCV gLen 0) (eCV gLen 1)))) (sRet (eC (.bl false))) sNx) (sSeq LP (sRet (eC (.bl true))))) [.lst A, .lst A] = some (.ret (.bl true)) := by
 walk_at "eh"
theorem pairs_ok (T : List Pr) (hl : T.length ≤ 2000) : d_l_pairs [.lst (T.map prD), .lst (T.map prD)] = some (.ret (.bl true)) := by
 obtain ⟨e', k1, o2, rfl⟩ := for_map (b := bName 2) (body := alB d_l_whole) (fun (i : Nat) => D.int (0 + (i : Int))) (fun pre ev => ∃ o2 : Option D, ev = [.fz (.lst (T.map prD)), .fz (.lst (T.map prD)), un o2]) (List.range T.length) [.fz (.lst (T.map prD)), .fz (.lst (T.map prD)), .no] ⟨none, rfl⟩ (by
  rintro pre i post ev hq ⟨o2, rfl⟩
  have hi' : i < T.length := List.mem_range.mp (by rw [hq]; simp)
  have hb : bName 2 (.int (0 + (i : Int))) [.fz (.lst (T.map prD)), .fz (.lst (T.map prD)), un o2] = some [.fz (.lst (T.map prD)), .fz (.lst (T.map prD)), .fz (.int (i : Int))] := by rw [Int.zero_add]; cases o2 <;> rfl
  rw [hb, optR_some, al_step d_l_whole (T.map prD) i _ _ (atI_natD (by rw [List.getElem?_map, List.getElem?_eq_getElem hi']; rfl)) (whole_ok _) (whole_ok _)]
  exact ⟨_, rfl, some _, rfl⟩)
 refine al_w (sForR rng1 (aC (eCV gLen 1) aN) (bName 2) (alB d_l_whole)) (T.map prD) [.fz (.lst (T.map prD)), .fz (.lst (T.map prD)), un o2] ?_
 have h0 : (aC (eCV gLen 1) aN) [.fz (.lst (T.map prD)), .fz (.lst (T.map prD)), .no] = some (.ok [.int ((T.map prD).length : Int)] [.fz (.lst (T.map prD)), .fz (.lst (T.map prD)), .no]) := rfl
 rw [forR_eq h0 (by rw [List.length_map]; exact rng1_eq ⟨by omega, by omega⟩), Int.toNat_natCast, rngD_map]
 exact k1
theorem an_w (RE PR DU : List D → Option R1) (GT : D → D → Option D) (A B X Y : List D) (re : RE [.lst A, .lst B] = some (.owz [X, Y])) (ga : GT (.lst A) (.lst A) = some (.bl false)) (gb : GT (.lst B) (.lst B) = some (.bl false)) (du0 : DU [.lst A, .lst B, .int 0] = some (.own X)) (du1 : DU [.lst A, .lst B, .int 1] = some (.own Y)) (p0 : PR [.lst X, .lst X] = some (.ret (.bl true))) (p1 : PR [.lst Y, .lst Y] = some (.ret (.bl true))) (hx : X.length < sizeLine) (ha : A.length ≤ sizeLine) (hb : B.length ≤ sizeLine) : fD 6 2 (sSeq (sSetN 2 (nCV gList 0)) (sSeq (sSetN 3 (nCV gList 1)) (sWreck 4 5 RE (aC (eV 2) (aC (eV 3) aN)) (bOr (bNot (bZ (eIsiV 4 "tuple"))) (bZ (eB (gEq true) (eCV gLen 4) (eC (.int 2))))) (bOr (bZ (eBVV (GT) 2 0)) (bZ (eBVV (GT) 3 1))) (eAnd (eCall0 PR (aC (eB gIxT (eV 4) (eC (.int 0))) (aC (eCall0 DU (aC (eV 0) (aC (eV 1) (aC (eC (.int 0)) aN)))) aN))) (eCall0 PR (aC (eB gIxT (eV 4) (eC (.int 1))) (aC (eCall0 DU (aC (eV 0) (aC (eV 1) (aC (eC (.int 1)) aN)))) aN))))))) [.lst A, .lst B] = some (.ret (.bl true)) := by
 walk_at "eh"
theorem eqL (n : Nat) (f : Nat → D) (h1 : ∀ k, plainD (f k) = true) (h2 : ∀ k, depD (f k) ≤ 2) : gEqT true (.lst (fl n f)) (.lst (fl n f)) = some (.bl false) := gEqT_refl true (by
  simp only [plainD]; exact plainDs_map fun a _ => h1 a) (by
 have : depDs (fl n f) ≤ 2 := depDs_map fun a _ => h2 a
 simp only [depD]
 omega) rfl
theorem answered_ok (W : Wr) (n : Nat) (hn : n ≤ 30) (x y : Nat → Int) (h : ¬ (List.range n).any W.bad = true) : d_l_answered [.lst (W.wares n), .lst (PL W n x y)] = some (.ret (.bl true)) := by
 have l0 := ordP_len n hn (spot W x y).r (spot W x y).x
 have l1 := ordP_len n hn (spot W x y).t (spot W x y).y
 exact an_w d_related d_l_pairs d_l_due (gEqT true) _ _ _ _ (related_ok W n hn x y h) (eqL n _ (fun _ => rfl) (fun _ => by simp [depD, depDs])) (eqL n _ (fun _ => rfl) (fun _ => by simp [depD, depDs])) (due_x W n hn x y) (due_y W n hn x y) (pairs_ok _ (by omega)) (pairs_ok _ (by omega)) (by rw [List.length_map]; show _ < 2 ^ 24; omega) (by rw [fl_len]; show _ ≤ 2 ^ 24; omega) (by rw [fl_len]; show _ ≤ 2 ^ 24; omega)
theorem rest_w (AN : List D → Option R1) (S od : D) (A B : List D) (o3 : Option D) (h : AN [.lst A, .lst B] = some (.ret (.bl true))) : (sRet (eAnd (eCall AN (aC (eV 1) (aC (eV 2) aN))) (eCall AN (aC (eV 1) (aC (eV 2) aN))))) [.fz S, .ow A, .ow B, un o3, .fz od] = some (.rt (.bl true)) := by
 walk_at "eh"
theorem main (ns : List Int) (hl : ns.length ≤ 63) (hb : ∀ m ∈ ns, Builtin.Int.intBits m ≤ 2 ^ 20) : d_law [.scr ns] = some (.ret (.bl true)) := by
 obtain ⟨f, hf⟩ := side_ok
 obtain ⟨g, hg⟩ := spat_ok
 obtain ⟨W, n, x, y, o3, F, x3⟩ := l1_loop f g hf hg ns
 have x1 : (sSetN 1 (eL aN)) [.fz (.scr ns), .no, .no, .no, .no] = some (.nx [.fz (.scr ns), .ow [], .no, .no, .no]) := rfl
 have x2 : (sSetN 2 (eL aN)) [.fz (.scr ns), .ow [], .no, .no, .no] = some (.nx [.fz (.scr ns), .ow [], .ow [], .no, .no]) := rfl
 have x4 := u4 d_l_cell_at (.scr ns) (W.wares n) (PL W n x y) _ o3 (cell_ok (ns := ns) (k := 0) (by omega))
 generalize cellAt ns 0 = od at *
 have x6 : ∃ (W2 : Wr) (o3' : Option D), Fine W2 n ∧ (sIf (bAnd (bZ (eB gGt (eCV gLen 1) (eC (.int 0)))) (bZ (eB (gEq false) (eB gMod (eV 4) (eC (.int 4))) (eC (.int 1))))) (bdB d_l_refused gMod) sNx) [.fz (.scr ns), .ow (W.wares n), .ow (PL W n x y), un o3, .fz (.int od)] = some (.nx [.fz (.scr ns), .ow (W2.wares n), .ow (PL W2 n x y), un o3', .fz (.int od)]) := by
  by_cases q : 0 < ((W.wares n).length : Int) ∧ od % 4 = 1
  ·obtain ⟨W2, o3', F2, h⟩ := bd_ok W n x y F (by have := q.1; rw [fl_len] at this; omega) (.scr ns) od o3 none none
   exact ⟨W2, o3', F2, (u6 _ _ _ _ od o3 none none (iff_true_intro q.1) q.2).trans h⟩
  ·exact ⟨W, o3, F, u6n _ _ _ _ od o3 none none q⟩
 obtain ⟨W2, o3', F2, x6⟩ := x6
 have x7 := rest_w d_l_answered (.scr ns) (.int od) _ _ o3' (answered_ok W2 n (by have := F2.len; omega) x y F2.bad)
 unfold d_law b_law
 rw [fD_eq (m := 1) rfl]
 show finR (sSeq _ _ [.fz (.scr ns), .no, .no, .no, .no]) = _
 rw [sSeq_eq, x1, seqR_nx, sSeq_eq, x2, seqR_nx, sSeq_eq, x3, seqR_nx, sSeq_eq, x4, seqR_nx, sSeq_eq, x6, seqR_nx, x7]
 rfl
def sp_law (K : PySem.W.Frag) (c : Str → Addr) : Sp := fun vs H Q _ => ∃ a, ∃ ns : List Int, vs = [.ref a] ∧ Scr K H a (ns.map V.int) ∧ (∀ m ∈ ns, Builtin.Int.intBits m ≤ 2 ^ 20) ∧ ns.length ≤ 63 ∧ ∀ H', Q (.bl true) H'
theorem ok_law {f : Addr} {fd : FuncData} (F : Fun K "law" "law" s_law f fd) (T : Txt K mg c) (G_l_ware : Own P w K mg base 5 "_law_ware" ["_law_a", "_law_b", "_law_d"] (spD K c d_l_ware)) (G_l_place : Own P w K mg base 5 "_law_place" ["_law_c", "_law_d"] (spD K c d_l_place)) (G_l_cell_at : Own P w K mg base 3 "_law_cell_at" ["_law_script", "_law_k"] (spD K c d_l_cell_at)) (G_l_refused : Own P w K mg base 11 "_law_refused" ["_law_wares", "_law_places"] (spD K c d_l_refused)) (G_l_answered : Own P w K mg base 11 "_law_answered" ["_law_wares", "_law_places"] (spD K c d_l_answered)) : FnOk P w K mg base (CXe P w) 13 f fd ["_law_script"] (sp_law K c) :=
 (ok_law0 F T G_l_ware G_l_place G_l_cell_at G_l_refused G_l_answered).imp fun vs H Q E ⟨a, ns, e, h, hb, hl, q⟩ => spD_law e h q (main ns hl hb)
def cOf (l : List (Str × Addr)) (x : Str) : Addr := (l.lookup x).getD 0
abbrev cL (c0 c1 c2 : Addr) := cOf [("BadTurn", c0), ("CrateError", c1), ("Ring", c2)]
theorem all_mk {w : World} {K : PySem.W.Frag} {h : Heap} {mg : Str → Option Value} {fa : Addr} (X : K.In h) (G : h.Ns mainGlobals mg) (hfa : mg "law" = some (.ref fa))
  {c0 c1 c2 : Addr} {f_0 : Addr} {oc_0 kV_0 dc_0 pm_0 cd_0 ct_0 : Value} {od_0 an_0 : Option Addr} {sl_0 : Array (Option Value)} {f_1 : Addr} {oc_1 kV_1 dc_1 pm_1 cd_1 ct_1 : Value} {od_1 an_1 : Option Addr} {sl_1 : Array (Option Value)} {f_2 : Addr} {oc_2 kV_2 dc_2 pm_2 cd_2 ct_2 : Value} {od_2 an_2 : Option Addr} {sl_2 : Array (Option Value)} {f_3 : Addr} {oc_3 kV_3 dc_3 pm_3 cd_3 ct_3 : Value} {od_3 an_3 : Option Addr} {sl_3 : Array (Option Value)} {f_4 : Addr} {oc_4 kV_4 dc_4 pm_4 cd_4 ct_4 : Value} {od_4 an_4 : Option Addr} {sl_4 : Array (Option Value)} {f_5 : Addr} {oc_5 kV_5 dc_5 pm_5 cd_5 ct_5 : Value} {od_5 an_5 : Option Addr} {sl_5 : Array (Option Value)} {f_6 : Addr} {oc_6 kV_6 dc_6 pm_6 cd_6 ct_6 : Value} {od_6 an_6 : Option Addr} {sl_6 : Array (Option Value)} {f_7 : Addr} {oc_7 kV_7 dc_7 pm_7 cd_7 ct_7 : Value} {od_7 an_7 : Option Addr} {sl_7 : Array (Option Value)} {f_8 : Addr} {oc_8 kV_8 dc_8 pm_8 cd_8 ct_8 : Value} {od_8 an_8 : Option Addr} {sl_8 : Array (Option Value)} {f_9 : Addr} {oc_9 kV_9 dc_9 pm_9 cd_9 ct_9 : Value} {od_9 an_9 : Option Addr} {sl_9 : Array (Option Value)} {f_10 : Addr} {oc_10 kV_10 dc_10 pm_10 cd_10 ct_10 : Value} {od_10 an_10 : Option Addr} {sl_10 : Array (Option Value)} {f_11 : Addr} {oc_11 kV_11 dc_11 pm_11 cd_11 ct_11 : Value} {od_11 an_11 : Option Addr} {sl_11 : Array (Option Value)} {f_12 : Addr} {oc_12 kV_12 dc_12 pm_12 cd_12 ct_12 : Value} {od_12 an_12 : Option Addr} {sl_12 : Array (Option Value)} {f_13 : Addr} {oc_13 kV_13 dc_13 pm_13 cd_13 ct_13 : Value} {od_13 an_13 : Option Addr} {sl_13 : Array (Option Value)} {f_14 : Addr} {oc_14 kV_14 dc_14 pm_14 cd_14 ct_14 : Value} {od_14 an_14 : Option Addr} {sl_14 : Array (Option Value)} {f_15 : Addr} {oc_15 kV_15 dc_15 pm_15 cd_15 ct_15 : Value} {od_15 an_15 : Option Addr} {sl_15 : Array (Option Value)} {f_16 : Addr} {oc_16 kV_16 dc_16 pm_16 cd_16 ct_16 : Value} {od_16 an_16 : Option Addr} {sl_16 : Array (Option Value)}
  (a_0 : PySem.W.nsIn K mainGlobals "sides_of" = some (some (.ref f_0)))
  (l_0 : K.lookup f_0 = some ⟨oc_0, od_0, .func (PySem.W.fnOf "sides_of" "sides_of" (defArgs s_sides_of) (defBody s_sides_of) (defScope s_sides_of) .none kV_0 dc_0 pm_0 an_0 cd_0 ct_0), sl_0⟩)
  (c_0 : PySem.W.codeIn K cd_0 "sides_of" = true)
  (k_0 : PySem.W.keepIn K (.ref f_0) = true)
  (a_1 : PySem.W.nsIn K mainGlobals "spot_of" = some (some (.ref f_1)))
  (l_1 : K.lookup f_1 = some ⟨oc_1, od_1, .func (PySem.W.fnOf "spot_of" "spot_of" (defArgs s_spot_of) (defBody s_spot_of) (defScope s_spot_of) .none kV_1 dc_1 pm_1 an_1 cd_1 ct_1), sl_1⟩)
  (c_1 : PySem.W.codeIn K cd_1 "spot_of" = true)
  (k_1 : PySem.W.keepIn K (.ref f_1) = true)
  (a_2 : PySem.W.nsIn K mainGlobals "spots_of" = some (some (.ref f_2)))
  (l_2 : K.lookup f_2 = some ⟨oc_2, od_2, .func (PySem.W.fnOf "spots_of" "spots_of" (defArgs s_spots_of) (defBody s_spots_of) (defScope s_spots_of) .none kV_2 dc_2 pm_2 an_2 cd_2 ct_2), sl_2⟩)
  (c_2 : PySem.W.codeIn K cd_2 "spots_of" = true)
  (k_2 : PySem.W.keepIn K (.ref f_2) = true)
  (a_3 : PySem.W.nsIn K mainGlobals "pairs_in_order" = some (some (.ref f_3)))
  (l_3 : K.lookup f_3 = some ⟨oc_3, od_3, .func (PySem.W.fnOf "pairs_in_order" "pairs_in_order" (defArgs s_pairs_in_order) (defBody s_pairs_in_order) (defScope s_pairs_in_order) .none kV_3 dc_3 pm_3 an_3 cd_3 ct_3), sl_3⟩)
  (c_3 : PySem.W.codeIn K cd_3 "pairs_in_order" = true)
  (k_3 : PySem.W.keepIn K (.ref f_3) = true)
  (a_4 : PySem.W.nsIn K mainGlobals "related" = some (some (.ref f_4)))
  (l_4 : K.lookup f_4 = some ⟨oc_4, od_4, .func (PySem.W.fnOf "related" "related" (defArgs s_related) (defBody s_related) (defScope s_related) .none kV_4 dc_4 pm_4 an_4 cd_4 ct_4), sl_4⟩)
  (c_4 : PySem.W.codeIn K cd_4 "related" = true)
  (k_4 : PySem.W.keepIn K (.ref f_4) = true)
  (a_5 : PySem.W.nsIn K mainGlobals "_law_cell_at" = some (some (.ref f_5)))
  (l_5 : K.lookup f_5 = some ⟨oc_5, od_5, .func (PySem.W.fnOf "_law_cell_at" "_law_cell_at" (defArgs s_l_cell_at) (defBody s_l_cell_at) (defScope s_l_cell_at) .none kV_5 dc_5 pm_5 an_5 cd_5 ct_5), sl_5⟩)
  (c_5 : PySem.W.codeIn K cd_5 "_law_cell_at" = true)
  (k_5 : PySem.W.keepIn K (.ref f_5) = true)
  (a_6 : PySem.W.nsIn K mainGlobals "_law_whole" = some (some (.ref f_6)))
  (l_6 : K.lookup f_6 = some ⟨oc_6, od_6, .func (PySem.W.fnOf "_law_whole" "_law_whole" (defArgs s_l_whole) (defBody s_l_whole) (defScope s_l_whole) .none kV_6 dc_6 pm_6 an_6 cd_6 ct_6), sl_6⟩)
  (c_6 : PySem.W.codeIn K cd_6 "_law_whole" = true)
  (k_6 : PySem.W.keepIn K (.ref f_6) = true)
  (a_7 : PySem.W.nsIn K mainGlobals "_law_side" = some (some (.ref f_7)))
  (l_7 : K.lookup f_7 = some ⟨oc_7, od_7, .func (PySem.W.fnOf "_law_side" "_law_side" (defArgs s_l_side) (defBody s_l_side) (defScope s_l_side) .none kV_7 dc_7 pm_7 an_7 cd_7 ct_7), sl_7⟩)
  (c_7 : PySem.W.codeIn K cd_7 "_law_side" = true)
  (k_7 : PySem.W.keepIn K (.ref f_7) = true)
  (a_8 : PySem.W.nsIn K mainGlobals "_law_spot_at" = some (some (.ref f_8)))
  (l_8 : K.lookup f_8 = some ⟨oc_8, od_8, .func (PySem.W.fnOf "_law_spot_at" "_law_spot_at" (defArgs s_l_spot_at) (defBody s_l_spot_at) (defScope s_l_spot_at) .none kV_8 dc_8 pm_8 an_8 cd_8 ct_8), sl_8⟩)
  (c_8 : PySem.W.codeIn K cd_8 "_law_spot_at" = true)
  (k_8 : PySem.W.keepIn K (.ref f_8) = true)
  (a_9 : PySem.W.nsIn K mainGlobals "_law_ware" = some (some (.ref f_9)))
  (l_9 : K.lookup f_9 = some ⟨oc_9, od_9, .func (PySem.W.fnOf "_law_ware" "_law_ware" (defArgs s_l_ware) (defBody s_l_ware) (defScope s_l_ware) .none kV_9 dc_9 pm_9 an_9 cd_9 ct_9), sl_9⟩)
  (c_9 : PySem.W.codeIn K cd_9 "_law_ware" = true)
  (k_9 : PySem.W.keepIn K (.ref f_9) = true)
  (a_10 : PySem.W.nsIn K mainGlobals "_law_place" = some (some (.ref f_10)))
  (l_10 : K.lookup f_10 = some ⟨oc_10, od_10, .func (PySem.W.fnOf "_law_place" "_law_place" (defArgs s_l_place) (defBody s_l_place) (defScope s_l_place) .none kV_10 dc_10 pm_10 an_10 cd_10 ct_10), sl_10⟩)
  (c_10 : PySem.W.codeIn K cd_10 "_law_place" = true)
  (k_10 : PySem.W.keepIn K (.ref f_10) = true)
  (a_11 : PySem.W.nsIn K mainGlobals "_law_spot" = some (some (.ref f_11)))
  (l_11 : K.lookup f_11 = some ⟨oc_11, od_11, .func (PySem.W.fnOf "_law_spot" "_law_spot" (defArgs s_l_spot) (defBody s_l_spot) (defScope s_l_spot) .none kV_11 dc_11 pm_11 an_11 cd_11 ct_11), sl_11⟩)
  (c_11 : PySem.W.codeIn K cd_11 "_law_spot" = true)
  (k_11 : PySem.W.keepIn K (.ref f_11) = true)
  (a_12 : PySem.W.nsIn K mainGlobals "_law_due" = some (some (.ref f_12)))
  (l_12 : K.lookup f_12 = some ⟨oc_12, od_12, .func (PySem.W.fnOf "_law_due" "_law_due" (defArgs s_l_due) (defBody s_l_due) (defScope s_l_due) .none kV_12 dc_12 pm_12 an_12 cd_12 ct_12), sl_12⟩)
  (c_12 : PySem.W.codeIn K cd_12 "_law_due" = true)
  (k_12 : PySem.W.keepIn K (.ref f_12) = true)
  (a_13 : PySem.W.nsIn K mainGlobals "_law_pairs" = some (some (.ref f_13)))
  (l_13 : K.lookup f_13 = some ⟨oc_13, od_13, .func (PySem.W.fnOf "_law_pairs" "_law_pairs" (defArgs s_l_pairs) (defBody s_l_pairs) (defScope s_l_pairs) .none kV_13 dc_13 pm_13 an_13 cd_13 ct_13), sl_13⟩)
  (c_13 : PySem.W.codeIn K cd_13 "_law_pairs" = true)
  (k_13 : PySem.W.keepIn K (.ref f_13) = true)
  (a_14 : PySem.W.nsIn K mainGlobals "_law_answered" = some (some (.ref f_14)))
  (l_14 : K.lookup f_14 = some ⟨oc_14, od_14, .func (PySem.W.fnOf "_law_answered" "_law_answered" (defArgs s_l_answered) (defBody s_l_answered) (defScope s_l_answered) .none kV_14 dc_14 pm_14 an_14 cd_14 ct_14), sl_14⟩)
  (c_14 : PySem.W.codeIn K cd_14 "_law_answered" = true)
  (k_14 : PySem.W.keepIn K (.ref f_14) = true)
  (a_15 : PySem.W.nsIn K mainGlobals "_law_refused" = some (some (.ref f_15)))
  (l_15 : K.lookup f_15 = some ⟨oc_15, od_15, .func (PySem.W.fnOf "_law_refused" "_law_refused" (defArgs s_l_refused) (defBody s_l_refused) (defScope s_l_refused) .none kV_15 dc_15 pm_15 an_15 cd_15 ct_15), sl_15⟩)
  (c_15 : PySem.W.codeIn K cd_15 "_law_refused" = true)
  (k_15 : PySem.W.keepIn K (.ref f_15) = true)
  (a_16 : PySem.W.nsIn K mainGlobals "law" = some (some (.ref f_16)))
  (l_16 : K.lookup f_16 = some ⟨oc_16, od_16, .func (PySem.W.fnOf "law" "law" (defArgs s_law) (defBody s_law) (defScope s_law) .none kV_16 dc_16 pm_16 an_16 cd_16 ct_16), sl_16⟩)
  (c_16 : PySem.W.codeIn K cd_16 "law" = true)
  (k_16 : PySem.W.keepIn K (.ref f_16) = true)
  (z_ValueError : PySem.W.nsIn K mainGlobals "ValueError" = some none)
  (z_bool : PySem.W.nsIn K mainGlobals "bool" = some none)
  (z_enumerate : PySem.W.nsIn K mainGlobals "enumerate" = some none)
  (z_int : PySem.W.nsIn K mainGlobals "int" = some none)
  (z_isinstance : PySem.W.nsIn K mainGlobals "isinstance" = some none)
  (z_len : PySem.W.nsIn K mainGlobals "len" = some none)
  (z_list : PySem.W.nsIn K mainGlobals "list" = some none)
  (z_min : PySem.W.nsIn K mainGlobals "min" = some none)
  (z_range : PySem.W.nsIn K mainGlobals "range" = some none)
  (z_tuple : PySem.W.nsIn K mainGlobals "tuple" = some none)
  (z_zip : PySem.W.nsIn K mainGlobals "zip" = some none)
  (m_BadTurn : PySem.W.nsIn K mainGlobals "BadTurn" = some (some (.ref c0)))
  (m_CrateError : PySem.W.nsIn K mainGlobals "CrateError" = some (some (.ref c1)))
  (m_Ring : PySem.W.nsIn K mainGlobals "Ring" = some (some (.ref c2)))
  (x_BadTurn : PySem.W.excIn K c0 vErr "ValueError.__new__" = true)
  (t_exc_BadTurn1 : PySem.W.findIn K (.ref c0) "__getattribute__" = some (some (.builtin "BaseException.__getattribute__")))
  (t_exc_BadTurn2 : PySem.W.findIn K (.ref c0) "__getattr__" = some none)
  (t_exc_BadTurn3 : PySem.W.findIn K (.ref c0) "__class__" = some (some (.builtin "object.__class__")))
  (t_exc_BadTurn4 : PySem.W.mroIn K c0 (.type "object") = some true)
  (t_exc_BadTurn5 : PySem.W.subIn K (.ref c0) (.type "BaseException") = some true)
  (t_one_BadTurn_Ring : PySem.W.kitOne K (.ref c0) (.ref c2) = some false)
  (t_one_BadTurn_ValueError : PySem.W.kitOne K (.ref c0) (.type "ValueError") = some true)
  (t_exo_BadTurn_BadTurn : PySem.W.exmOne K (.ref c0) (.ref c0) = some true)
  (t_exo_BadTurn_CrateError : PySem.W.exmOne K (.ref c0) (.ref c1) = some true)
  : ∃ fd : FuncData, (∀ (s : Shared) (v : Value), BindsTo s fd ⟨[v], []⟩ [("_law_script", v)]) ∧ ∃ c : Str → Addr, ∀ base : Heap, K.In base → base.Ns mainGlobals mg → FnOk (PySem.Challenge.rw_cratefit_k15_related).prog w K mg base (CXe (PySem.Challenge.rw_cratefit_k15_related).prog w) 13 fa fd ["_law_script"] (sp_law K c) := by
 have e := hfa.symm.trans (PySem.W.mg_of X G a_16)
 cases e
 have T : Txt K mg (cL c0 c1 c2) := ⟨PySem.W.mg_none_of X G z_ValueError, PySem.W.mg_none_of X G z_bool, PySem.W.mg_none_of X G z_enumerate, PySem.W.mg_none_of X G z_int, PySem.W.mg_none_of X G z_isinstance, PySem.W.mg_none_of X G z_len, PySem.W.mg_none_of X G z_list, PySem.W.mg_none_of X G z_min, PySem.W.mg_none_of X G z_range, PySem.W.mg_none_of X G z_tuple, PySem.W.mg_none_of X G z_zip, PySem.W.mg_of X G m_BadTurn, PySem.W.mg_of X G m_CrateError, PySem.W.mg_of X G m_Ring, x_BadTurn, ⟨t_exc_BadTurn1, t_exc_BadTurn2, t_exc_BadTurn3, t_exc_BadTurn4, t_exc_BadTurn5⟩, t_one_BadTurn_Ring, t_one_BadTurn_ValueError, t_exo_BadTurn_BadTurn, t_exo_BadTurn_CrateError⟩
 refine ⟨PySem.W.fnOf "law" "law" (defArgs s_law) (defBody s_law) (defScope s_law) .none kV_16 dc_16 pm_16 an_16 cd_16 ct_16, fun s v => .of_eq rfl, cOf [("BadTurn", c0), ("CrateError", c1), ("Ring", c2)], fun base _ _ => ?_⟩
 have F_0 := fun_mk (st := s_sides_of) l_0 c_0 k_0
 have B_0 := F_0.binds (ps := ["ware", "lie"]) fun _ _ _ _ _ _ us hl => match us, hl with | [_, _], _ => rfl
 have O_0 : Own (PySem.Challenge.rw_cratefit_k15_related).prog w K mg base 3 "sides_of" ["ware", "lie"] (spD K (cL c0 c1 c2) d_sides_of) := ⟨_, _, ok_sides_of F_0 T , B_0, k_0, PySem.W.mg_of X G a_0⟩
 have F_1 := fun_mk (st := s_spot_of) l_1 c_1 k_1
 have B_1 := F_1.binds (ps := ["ware", "place"]) fun _ _ _ _ _ _ us hl => match us, hl with | [_, _], _ => rfl
 have O_1 : Own (PySem.Challenge.rw_cratefit_k15_related).prog w K mg base 5 "spot_of" ["ware", "place"] (spD K (cL c0 c1 c2) d_spot_of) := ⟨_, _, ok_spot_of F_1 T O_0, B_1, k_1, PySem.W.mg_of X G a_1⟩
 have F_2 := fun_mk (st := s_spots_of) l_2 c_2 k_2
 have B_2 := F_2.binds (ps := ["wares", "places"]) fun _ _ _ _ _ _ us hl => match us, hl with | [_, _], _ => rfl
 have O_2 : Own (PySem.Challenge.rw_cratefit_k15_related).prog w K mg base 7 "spots_of" ["wares", "places"] (spD K (cL c0 c1 c2) d_spots_of) := ⟨_, _, ok_spots_of F_2 T O_1, B_2, k_2, PySem.W.mg_of X G a_2⟩
 have F_3 := fun_mk (st := s_pairs_in_order) l_3 c_3 k_3
 have B_3 := F_3.binds (ps := ["spots", "end", "begin"]) fun _ _ _ _ _ _ us hl => match us, hl with | [_, _, _], _ => rfl
 have O_3 : Own (PySem.Challenge.rw_cratefit_k15_related).prog w K mg base 3 "pairs_in_order" ["spots", "end", "begin"] (spD K (cL c0 c1 c2) d_pairs_in_order) := ⟨_, _, ok_pairs_in_order F_3 T , B_3, k_3, PySem.W.mg_of X G a_3⟩
 have F_4 := fun_mk (st := s_related) l_4 c_4 k_4
 have B_4 := F_4.binds (ps := ["wares", "places"]) fun _ _ _ _ _ _ us hl => match us, hl with | [_, _], _ => rfl
 have O_4 : Own (PySem.Challenge.rw_cratefit_k15_related).prog w K mg base 9 "related" ["wares", "places"] (spD K (cL c0 c1 c2) d_related) := ⟨_, _, ok_related F_4 T O_2 O_3, B_4, k_4, PySem.W.mg_of X G a_4⟩
 have F_5 := fun_mk (st := s_l_cell_at) l_5 c_5 k_5
 have B_5 := F_5.binds (ps := ["_law_script", "_law_k"]) fun _ _ _ _ _ _ us hl => match us, hl with | [_, _], _ => rfl
 have O_5 : Own (PySem.Challenge.rw_cratefit_k15_related).prog w K mg base 3 "_law_cell_at" ["_law_script", "_law_k"] (spD K (cL c0 c1 c2) d_l_cell_at) := ⟨_, _, ok_l_cell_at F_5 T , B_5, k_5, PySem.W.mg_of X G a_5⟩
 have F_6 := fun_mk (st := s_l_whole) l_6 c_6 k_6
 have B_6 := F_6.binds (ps := ["_law_found"]) fun _ _ _ _ _ _ us hl => match us, hl with | [_], _ => rfl
 have O_6 : Own (PySem.Challenge.rw_cratefit_k15_related).prog w K mg base 3 "_law_whole" ["_law_found"] (spD K (cL c0 c1 c2) d_l_whole) := ⟨_, _, ok_l_whole F_6 T , B_6, k_6, PySem.W.mg_of X G a_6⟩
 have F_7 := fun_mk (st := s_l_side) l_7 c_7 k_7
 have B_7 := F_7.binds (ps := ["_law_cell"]) fun _ _ _ _ _ _ us hl => match us, hl with | [_], _ => rfl
 have O_7 : Own (PySem.Challenge.rw_cratefit_k15_related).prog w K mg base 3 "_law_side" ["_law_cell"] (spD K (cL c0 c1 c2) d_l_side) := ⟨_, _, ok_l_side F_7 T , B_7, k_7, PySem.W.mg_of X G a_7⟩
 have F_8 := fun_mk (st := s_l_spot_at) l_8 c_8 k_8
 have B_8 := F_8.binds (ps := ["_law_cell"]) fun _ _ _ _ _ _ us hl => match us, hl with | [_], _ => rfl
 have O_8 : Own (PySem.Challenge.rw_cratefit_k15_related).prog w K mg base 3 "_law_spot_at" ["_law_cell"] (spD K (cL c0 c1 c2) d_l_spot_at) := ⟨_, _, ok_l_spot_at F_8 T , B_8, k_8, PySem.W.mg_of X G a_8⟩
 have F_9 := fun_mk (st := s_l_ware) l_9 c_9 k_9
 have B_9 := F_9.binds (ps := ["_law_a", "_law_b", "_law_d"]) fun _ _ _ _ _ _ us hl => match us, hl with | [_, _, _], _ => rfl
 have O_9 : Own (PySem.Challenge.rw_cratefit_k15_related).prog w K mg base 5 "_law_ware" ["_law_a", "_law_b", "_law_d"] (spD K (cL c0 c1 c2) d_l_ware) := ⟨_, _, ok_l_ware F_9 T O_7, B_9, k_9, PySem.W.mg_of X G a_9⟩
 have F_10 := fun_mk (st := s_l_place) l_10 c_10 k_10
 have B_10 := F_10.binds (ps := ["_law_c", "_law_d"]) fun _ _ _ _ _ _ us hl => match us, hl with | [_, _], _ => rfl
 have O_10 : Own (PySem.Challenge.rw_cratefit_k15_related).prog w K mg base 5 "_law_place" ["_law_c", "_law_d"] (spD K (cL c0 c1 c2) d_l_place) := ⟨_, _, ok_l_place F_10 T O_8, B_10, k_10, PySem.W.mg_of X G a_10⟩
 have F_11 := fun_mk (st := s_l_spot) l_11 c_11 k_11
 have B_11 := F_11.binds (ps := ["_law_ware_here", "_law_place_here"]) fun _ _ _ _ _ _ us hl => match us, hl with | [_, _], _ => rfl
 have O_11 : Own (PySem.Challenge.rw_cratefit_k15_related).prog w K mg base 3 "_law_spot" ["_law_ware_here", "_law_place_here"] (spD K (cL c0 c1 c2) d_l_spot) := ⟨_, _, ok_l_spot F_11 T , B_11, k_11, PySem.W.mg_of X G a_11⟩
 have F_12 := fun_mk (st := s_l_due) l_12 c_12 k_12
 have B_12 := F_12.binds (ps := ["_law_wares", "_law_places", "_law_way"]) fun _ _ _ _ _ _ us hl => match us, hl with | [_, _, _], _ => rfl
 have O_12 : Own (PySem.Challenge.rw_cratefit_k15_related).prog w K mg base 5 "_law_due" ["_law_wares", "_law_places", "_law_way"] (spD K (cL c0 c1 c2) d_l_due) := ⟨_, _, ok_l_due F_12 T O_11, B_12, k_12, PySem.W.mg_of X G a_12⟩
 have F_13 := fun_mk (st := s_l_pairs) l_13 c_13 k_13
 have B_13 := F_13.binds (ps := ["_law_found", "_law_due_here"]) fun _ _ _ _ _ _ us hl => match us, hl with | [_, _], _ => rfl
 have O_13 : Own (PySem.Challenge.rw_cratefit_k15_related).prog w K mg base 5 "_law_pairs" ["_law_found", "_law_due_here"] (spD K (cL c0 c1 c2) d_l_pairs) := ⟨_, _, ok_l_pairs F_13 T O_6, B_13, k_13, PySem.W.mg_of X G a_13⟩
 have F_14 := fun_mk (st := s_l_answered) l_14 c_14 k_14
 have B_14 := F_14.binds (ps := ["_law_wares", "_law_places"]) fun _ _ _ _ _ _ us hl => match us, hl with | [_, _], _ => rfl
 have O_14 : Own (PySem.Challenge.rw_cratefit_k15_related).prog w K mg base 11 "_law_answered" ["_law_wares", "_law_places"] (spD K (cL c0 c1 c2) d_l_answered) := ⟨_, _, ok_l_answered F_14 T O_4 O_13 O_12, B_14, k_14, PySem.W.mg_of X G a_14⟩
 have F_15 := fun_mk (st := s_l_refused) l_15 c_15 k_15
 have B_15 := F_15.binds (ps := ["_law_wares", "_law_places"]) fun _ _ _ _ _ _ us hl => match us, hl with | [_, _], _ => rfl
 have O_15 : Own (PySem.Challenge.rw_cratefit_k15_related).prog w K mg base 11 "_law_refused" ["_law_wares", "_law_places"] (spD K (cL c0 c1 c2) d_l_refused) := ⟨_, _, ok_l_refused F_15 T O_4, B_15, k_15, PySem.W.mg_of X G a_15⟩
 have F_16 := fun_mk (st := s_law) l_16 c_16 k_16
 exact ok_law F_16 T O_9 O_10 O_5 O_15 O_14
end Law
namespace Law
open PySem L2 PyProof.Rows
theorem walk {q : Program} {loose : List Str} {XP : (Str → Option Value) → Heap → Prop} {YP : World → Heap → Prop} {d : DefRec} {K : Params → PySem.W.Frag} (hdf : d.params.defaults = []) (hY : ∀ (w : World) (h : Heap), YP w h → (K w.params).In h)
  (F : ∀ (w : World) (mg : Str → Option Value) (fa : Addr) (h : Heap), (K w.params).In h → h.Ns mainGlobals mg → mg d.name = some (.ref fa) →
   ∃ fd : FuncData, (∀ (s : Shared) (u : Value), BindsTo s fd ⟨[u], []⟩ [("_law_script", u)]) ∧ ∃ c : Str → Addr, ∀ base : Heap, (K w.params).In base → base.Ns mainGlobals mg → FnOk (PySem.Challenge.rw_cratefit_k15_related).prog w (K w.params) mg base (CXe (PySem.Challenge.rw_cratefit_k15_related).prog w) 13 fa fd ["_law_script"] (sp_law (K w.params) c)) :
  PySem.W.WalkO q loose XP YP (PySem.Challenge.rw_cratefit_k15_related).row.toRowW d [] (fun f vs => PySem.call f vs) := by
 refine L2.walk_ofB (l := PySem.Challenge.rw_cratefit_k15_related) (n := 63) (k := 13) (x := "_law_script") (K := K) (CX := fun w => CXe (PySem.Challenge.rw_cratefit_k15_related).prog w) (sp := fun w vs H Q E => ∀ c, sp_law (K w.params) c vs H Q E) rfl (by decide) hdf ⟨rfl, by decide, by decide⟩ hY (fun w mg fa h KX G hm => ?_) (fun w H a ns h1 h2 h3 h4 c => ⟨a, ns, rfl, .of h4 h3, h2, h1, fun _ => rfl⟩) fun w H s e s' z => noCXe H s e s' z
 obtain ⟨fd, hb, c, hF⟩ := F w mg fa h KX G hm
 exact ⟨fd, hb, fun base kb nb => (hF base kb nb).imp fun vs H Q E z => z c⟩
end Law
namespace PySem.W.Fast
def tw9734339666503175456:=0
def tw4386662169487601952:=0
def tw2775462730780493152:=0
def tw17612740534120600992:=0
def tw13126270956240959008:=0
def tw8504545235769239136:=0
def tw5277839582040584960:=0
def tw2753107329092209600:=0
def tw18186886610032155649:=0
def tw15954826829514602625:=0
def tw4282373963536864929:=0
def tw415240682874775233:=0
def tw5404926536687210241:=0
def tw1568703165823675426:=0
def tw16288948768648753378:=0
def tw15415924116792025442:=0
def tw1838946658971297442:=0
def tw15322016289736778755:=0
def tw13277910527491033283:=0
def tw17879930867014838787:=0
def tw10526824772398774787:=0
def tw13685796626993259107:=0
def tw13252797779629324003:=0
def tw6432169384226954115:=0
def tw1229130629304730692:=0
def tw17862878914184820260:=0
def tw12689413487943259780:=0
def tw16858457337503466212:=0
def tw15038375637503805477:=0
def tw8227024146445050149:=0
def tw8244608234066997957:=0
def tw3083125591816047333:=0
def tw11974107687815530437:=0
def tw18085115608605025318:=0
def tw3382265323077027878:=0
def tw3558534129356685638:=0
def tw1500123558735188742:=0
def tw420686004007862118:=0
def tw10535263712872443750:=0
def tw4531783020031638406:=0
def tw2261566445532201958:=0
def tw6244773471359085735:=0
def tw14720442878415446247:=0
def tw9603889026462853543:=0
def tw6878606355540351591:=0
def tw14954377516668286631:=0
def tw223117139963020039:=0
def tw10536985432094879623:=0
def tw9093832807383278503:=0
def tw13087285737212413032:=0
def tw8411598754737876104:=0
def tw2889899570543398248:=0
def tw3784238960401297896:=0
def tw12458170008271123145:=0
def tw8529005052651456297:=0
def tw1052716975686863882:=0
def tw13285459546336761898:=0
def tw5507261484310553866:=0
def tw17617706204453953098:=0
def tw1496484424247599850:=0
def tw9941698098966370058:=0
def tw9361449767265541098:=0
def tw13644805545288904779:=0
def tw12197266498771863723:=0
def tw4658578745912913323:=0
def tw4073678665249112523:=0
def tw676814039060187723:=0
def tw15301622883371313931:=0
def tw6808326045472159788:=0
def tw16614763005356367180:=0
def tw14643460809798955500:=0
def tw15688067791706555884:=0
def tw2824684133540401868:=0
def tw17818296694336779180:=0
def tw14709282972646241613:=0
def tw12495867419335341134:=0
def tw13882889910066297262:=0
def tw5196614931267533262:=0
def tw18128197555762825198:=0
def tw9198882575876271119:=0
def tw233864829175721007:=0
def tw7416085504986776335:=0
def tw4553481138412129296:=0
def tw1646862902164079696:=0
def tw10421074598765189264:=0
def tw11958702860234453296:=0
def tw11793834188222176592:=0
def tw14510414341270617616:=0
def tw12672002658433145488:=0
def tw4320943283376192208:=0
def tw17822240762011541264:=0
def tw8131338870382827601:=0
def tw16121448574076495089:=0
def tw3607322911810225649:=0
def tw7476444157863446001:=0
def tw4281412113361073745:=0
def tw8298749971364201554:=0
def tw506526572568112658:=0
def tw7377970891238601426:=0
def tw1915302388944277523:=0
def tw17113757163912953907:=0
def tw16433774791176598675:=0
def tw2426751933818476819:=0
def tw13136494747218878035:=0
def tw8211772149345687187:=0
def tw8280933524855376691:=0
def tw4133171436134978196:=0
def tw12970223103597655732:=0
def tw11249537517260013524:=0
def tw4104212555846433877:=0
def tw17011372645579587893:=0
def tw1657414949431994741:=0
def tw6664211368662121941:=0
def tw17658640062976307765:=0
def tw9722111990694989365:=0
def tw10793060915121674997:=0
def tw16069990818123687765:=0
def tw11493314308506575765:=0
def tw1474293377676109781:=0
def tw4775106723207485429:=0
def tw13397828105193511990:=0
def tw11626775362200677622:=0
def tw4641824531701089622:=0
def tw10968856760553178454:=0
def tw15169231373494250998:=0
def tw1859919218202759702:=0
def tw8242554903056866198:=0
def tw6720405723923002294:=0
def tw965327127800179670:=0
def tw17340598070265328823:=0
def tw5944941912738198743:=0
def tw8294826524122802743:=0
def tw2990936016751575639:=0
def tw13371836498231549559:=0
def tw6031943904196154648:=0
def tw7148383855196020088:=0
def tw513655776130122136:=0
def tw5587532418761810808:=0
def tw10538957059692172152:=0
def tw432682575924019033:=0
def tw4828068547540307833:=0
def tw10101874858381401146:=0
def tw12145578694101373594:=0
def tw17295718185737093882:=0
def tw15040223826702850842:=0
def tw7469135497936890:=0
def tw12716566127857404283:=0
def tw851924775806327259:=0
def tw12770436440615396891:=0
def tw1080965904071410235:=0
def tw2030014148057792251:=0
def tw9110224807028433755:=0
def tw1034602398041593723:=0
def tw10643859612196749275:=0
def tw14129776888663805052:=0
def tw10638204287305983324:=0
def tw10710041998848912348:=0
def tw2981852665005561885:=0
def tw9642128361640166589:=0
def tw9470750596529764669:=0
def tw568225530438991549:=0
def tw10001690742822195965:=0
def tw6756603245081073533:=0
def tw5034190246708346877:=0
def tw3878532304588203102:=0
def tw4186268156767845598:=0
def tw13451124907500185886:=0
def tw11743497036033753406:=0
def tw14670877816303307262:=0
def tw4790109468553810846:=0
def tw18365242491999898590:=0
def tw6524099132801782815:=0
def tw11836964366843482175:=0
def tw10959796442734043327:=0
def tw15145859862662821535:=0
def tw16088859004184357631:=0
def tw10167778380516707103:=0
end PySem.W.Fast
open PySem.W
set_option maxRecDepth 100000 in
set_option maxHeartbeats 0 in
theorem PySem.Challenge.cw_cratefit_k15_related_holds : PySem.Challenge.rw_cratefit_k15_related.Holds := by
 w_on; o_law; k_head; (case hw => w_witness2)
 k_fill
 refine Law.walk rfl (fun w h Y => PySem.W.kIn_of Y) ?F
 case F =>
  intro w mg fa h KX G hmg
  refine' Law.all_mk KX G hmg ?a_sides_of ?l_sides_of ?c_sides_of ?k_sides_of ?a_spot_of ?l_spot_of ?c_spot_of ?k_spot_of ?a_spots_of ?l_spots_of ?c_spots_of ?k_spots_of ?a_pairs_in_order ?l_pairs_in_order ?c_pairs_in_order ?k_pairs_in_order ?a_related ?l_related ?c_related ?k_related ?a_l_cell_at ?l_l_cell_at ?c_l_cell_at ?k_l_cell_at ?a_l_whole ?l_l_whole ?c_l_whole ?k_l_whole ?a_l_side ?l_l_side ?c_l_side ?k_l_side ?a_l_spot_at ?l_l_spot_at ?c_l_spot_at ?k_l_spot_at ?a_l_ware ?l_l_ware ?c_l_ware ?k_l_ware ?a_l_place ?l_l_place ?c_l_place ?k_l_place ?a_l_spot ?l_l_spot ?c_l_spot ?k_l_spot ?a_l_due ?l_l_due ?c_l_due ?k_l_due ?a_l_pairs ?l_l_pairs ?c_l_pairs ?k_l_pairs ?a_l_answered ?l_l_answered ?c_l_answered ?k_l_answered ?a_l_refused ?l_l_refused ?c_l_refused ?k_l_refused ?a_law ?l_law ?c_law ?k_law ?z_ValueError ?z_bool ?z_enumerate ?z_int ?z_isinstance ?z_len ?z_list ?z_min ?z_range ?z_tuple ?z_zip ?m_BadTurn ?m_CrateError ?m_Ring ?x_BadTurn ?t_exc_BadTurn1 ?t_exc_BadTurn2 ?t_exc_BadTurn3 ?t_exc_BadTurn4 ?t_exc_BadTurn5 ?t_one_BadTurn_Ring ?t_one_BadTurn_ValueError ?t_exo_BadTurn_BadTurn ?t_exo_BadTurn_CrateError
  (case a_sides_of => k_is)
  (case l_sides_of => k_is)
  (case c_sides_of => k_is)
  (case k_sides_of => k_is)
  (case a_spot_of => k_is)
  (case l_spot_of => k_is)
  (case c_spot_of => k_is)
  (case k_spot_of => k_is)
  (case a_spots_of => k_is)
  (case l_spots_of => k_is)
  (case c_spots_of => k_is)
  (case k_spots_of => k_is)
  (case a_pairs_in_order => k_is)
  (case l_pairs_in_order => k_is)
  (case c_pairs_in_order => k_is)
  (case k_pairs_in_order => k_is)
  (case a_related => k_is)
  (case l_related => k_is)
  (case c_related => k_is)
  (case k_related => k_is)
  (case a_l_cell_at => k_is)
  (case l_l_cell_at => k_is)
  (case c_l_cell_at => k_is)
  (case k_l_cell_at => k_is)
  (case a_l_whole => k_is)
  (case l_l_whole => k_is)
  (case c_l_whole => k_is)
  (case k_l_whole => k_is)
  (case a_l_side => k_is)
  (case l_l_side => k_is)
  (case c_l_side => k_is)
  (case k_l_side => k_is)
  (case a_l_spot_at => k_is)
  (case l_l_spot_at => k_is)
  (case c_l_spot_at => k_is)
  (case k_l_spot_at => k_is)
  (case a_l_ware => k_is)
  (case l_l_ware => k_is)
  (case c_l_ware => k_is)
  (case k_l_ware => k_is)
  (case a_l_place => k_is)
  (case l_l_place => k_is)
  (case c_l_place => k_is)
  (case k_l_place => k_is)
  (case a_l_spot => k_is)
  (case l_l_spot => k_is)
  (case c_l_spot => k_is)
  (case k_l_spot => k_is)
  (case a_l_due => k_is)
  (case l_l_due => k_is)
  (case c_l_due => k_is)
  (case k_l_due => k_is)
  (case a_l_pairs => k_is)
  (case l_l_pairs => k_is)
  (case c_l_pairs => k_is)
  (case k_l_pairs => k_is)
  (case a_l_answered => k_is)
  (case l_l_answered => k_is)
  (case c_l_answered => k_is)
  (case k_l_answered => k_is)
  (case a_l_refused => k_is)
  (case l_l_refused => k_is)
  (case c_l_refused => k_is)
  (case k_l_refused => k_is)
  (case a_law => k_is)
  (case l_law => k_is)
  (case c_law => k_is)
  (case k_law => k_is)
  (case z_ValueError => k_is)
  (case z_bool => k_is)
  (case z_enumerate => k_is)
  (case z_int => k_is)
  (case z_isinstance => k_is)
  (case z_len => k_is)
  (case z_list => k_is)
  (case z_min => k_is)
  (case z_range => k_is)
  (case z_tuple => k_is)
  (case z_zip => k_is)
  (case m_BadTurn => k_is)
  (case m_CrateError => k_is)
  (case m_Ring => k_is)
  (case x_BadTurn => kernel_rfl)
  (case t_exc_BadTurn1 => k_is)
  (case t_exc_BadTurn2 => k_is)
  (case t_exc_BadTurn3 => k_is)
  (case t_exc_BadTurn4 => k_is)
  (case t_exc_BadTurn5 => k_is)
  (case t_one_BadTurn_Ring => kit_is)
  (case t_one_BadTurn_ValueError => kit_is)
  (case t_exo_BadTurn_BadTurn => kts_exm)
  (case t_exo_BadTurn_CrateError => kts_exm)
